import PyProof.Rows.All
import Wide.All
import OpenK.AllK
import Wide.FinOn
import Lean
import PyProof.EqAt
import PyProof.EqKinds
import PyProof.TupleCall
import PySem.Challenge.RW_truthgrades_k97_whole_tables_made_of_tab
set_option bootstrap.genMatcherCode false
set_option genSizeOfSpec false
set_option maxHeartbeats 4000000
set_option maxRecDepth 100000
set_option linter.all false
set_option Elab.async false
local macro_rules | `(tactic| ac_rfl) => `(tactic| decide +kernel)
def O{α:Sort _}{a:α}:a=a:=rfl
abbrev Fs:=PySem.W.Frag
abbrev AA:=@PySem.wpAny_bind
abbrev AB:=@List.length_map
abbrev AC:=@PySem.Heap.get?_push_of_some
abbrev AD:=@List.getElem?_eq_getElem
abbrev AE:=@PySem.wpAny_pure
abbrev AF:=@List.getElem?_eq_some_iff
abbrev AG:=@List.mem_singleton
abbrev AH:=@List.getElem?_map
abbrev AI:=@List.mem_map
abbrev AJ:=@List.mem_of_getElem?
abbrev AK:=@List.map_append
abbrev AL:=@List.length_append
abbrev AM:=@Nat.le_refl
abbrev AN:=@PySem.Heap.get?_push_size
abbrev AO:=@PySem.Heap.lt_size
abbrev AQ:=@List.getD_eq_getElem?_getD
abbrev AR:=@Option.some.inj
abbrev AS:=@Bool.false_ne_true
abbrev AU:=@Nat.ne_of_lt
abbrev AV:=@List.mem_append
abbrev AW:=@Option.map_eq_some_iff
abbrev AX:=@List.mem_cons
abbrev AY:=@PySem.F.plainAttrs_list
abbrev AZ:=@List.length_range
abbrev Aa:=@Nat.le_trans
abbrev Ab:=@List.mem_range
abbrev Ac:=@Nat.lt_of_lt_of_le
abbrev Ad:=@PySem.PassesOwn.never
abbrev Ae:=@List.mem_append_right
abbrev Af:=@List.mem_cons_self
abbrev Ag:=@List.take_length
abbrev Ah:=@List.mem_cons_of_mem
abbrev Ai:=@List.length_take
abbrev Aj:=@List.map_cons
abbrev Ak:=@List.map_map
abbrev Al:=@List.all_eq_true
abbrev Am:=@List.length_cons
abbrev An:=@decide_eq_true
abbrev Ao:=@List.mem_append_left
abbrev Ap:=@PySem.F.type_list_append
abbrev Aq:=@PySem.F.slot_list_append
abbrev Ar:=@of_decide_eq_true
abbrev As:=@decide_eq_false
abbrev Au:=@Array.length_toList
abbrev Av:=@Int.toNat_natCast
abbrev Aw:=@Ne.symm
abbrev Ax:=@PySem.wpAny_newObj_type
abbrev Ay:=@PySem.wpAny_call_entry
abbrev Az:=@PySem.Heap.get?_update_self
abbrev A0:=@List.size_toArray
abbrev A1:=@Nat.lt_irrefl
abbrev A2:=@List.getElem?_range
abbrev A3:=@PySem.Paired.length
abbrev A4:=@PySem.Obj.data_mapFields
abbrev A5:=@PySem.wpAny_setState_of
abbrev A6:=@PySem.Heap.SameBut.update
abbrev A7:=@PySem.Around.under_plainId
abbrev A8:=@PySem.W.mg_none_of
abbrev A9:=@PySem.F.called_set
abbrev BA:=@Nat.zero_le
abbrev BB:=@List.getElem?_eq_none
abbrev BC:=@PyProof.Rows.callWith_type1
abbrev BD:=@Nat.ne_of_gt
abbrev BE:=@PySem.wpAny_ite_split
abbrev BF:=@Nat.lt_succ_of_lt
abbrev BG:=@PySem.codeAny_builtin
abbrev BH:=@List.idxOf_lt_length_of_mem
abbrev BI:=@List.range_succ
abbrev BJ:=@List.getElem?_zip_eq_some
abbrev BK:=@PySem.wpAny_field
abbrev BL:=@PySem.wpAny_holding
abbrev BM:=@Nat.mul_le_mul_right
abbrev BN:=@List.mem_iff_getElem?
abbrev BO:=@PyProof.Rows.F.plain_set_update_loop
abbrev BP:=@List.nodup_cons
abbrev BQ:=@congrArg
abbrev BR:=@Bool.and_eq_true
abbrev BS:=@Int.zero_add
abbrev BU:=@Bool.eq_iff_iff
abbrev BV:=@Nat.lt_succ_self
abbrev BW:=@List.mem_flatMap
abbrev BX:=@PySem.Heap.get?_update_other
abbrev BY:=@List.flatMap_append
abbrev BZ:=@Nat.mod_lt
abbrev Ba:=@PySem.wpAny_setField
abbrev Bb:=@PySem.plainId_quiet
abbrev Bc:=@PySem.wpAny_of_eq
abbrev Bd:=@PySem.Obj.isFreed_of_fields
abbrev Be:=@PyProof.Rows.slot_tuple_getitem
abbrev Bf:=@List.mem_filter
abbrev Bg:=@List.pairwise_lt_range
abbrev Bh:=@List.lookup_cons
abbrev Bi:=@PySem.wpAny_rule
abbrev Bj:=@PySem.mem_of_lookup
abbrev Bk:=@List.map_congr_left
abbrev Bl:=@PySem.W.kia_one
abbrev Bm:=@PySem.wpAny_seqItems
abbrev Bn:=@PySem.wpAny_attempt
abbrev Bo:=@Nat.le_add_right
abbrev Bp:=@List.length_eq_zero_iff
abbrev Bq:=@PySem.Heap.size_push
abbrev Br:=@PySem.wpAny_askSetting
abbrev Bs:=@Array.getElem?_eq_none
abbrev Bt:=@List.append_nil
abbrev Bu:=@Classical.byContradiction
abbrev Bv:=@Array.getElem?_eq_getElem
abbrev Bw:=@PySem.wpAny_typeOf
abbrev Bx:=@PySem.wpAny_pyIter_list
abbrev By:=@Array.getElem?_toList
abbrev Bz:=@Nat.succ_mul
abbrev B0:=@Nat.mul_comm
abbrev B1:=@List.pairwise_append
abbrev B2:=@List.Pairwise.filter
abbrev B3:=@PySem.wpAny_isInstance
abbrev B4:=@List.flatMap_cons
abbrev B5:=@PySem.AutoSeq1.wpAny_loadPart'
abbrev B6:=@PySem.isSubtype_type
abbrev B7:=@PyProof.Rows.F.entry_set_update_loop
abbrev B8:=@List.take_of_length_le
abbrev B9:=@PySem.wpAny_truthy_bool
abbrev CA:=@List.length_drop
abbrev CB:=@List.filter_cons
abbrev CC:=@PySem.F.slot_set_iter
abbrev CD:=@PySem.wpAny_pyNext_list_item
abbrev CF:=@List.drop_eq_getElem_cons
abbrev CG:=@Nat.not_lt_zero
abbrev CH:=@List.of_mem_zip
abbrev CI:=@List.foldl_cons
abbrev CJ:=@PySem.F.slot_tuple_iterator_next
abbrev CK:=@Nat.pow_succ
abbrev CL:=@Nat.pow_le_pow_right
abbrev CM:=@Nat.le_succ
abbrev CN:=@Nat.le_of_lt
abbrev CO:=@List.pairwise_map
abbrev CP:=@List.ext_getElem?
abbrev CQ:=@PySem.wpAny_pyNext_list_end
abbrev CS:=@PySem.builtinLookup_eq_fast
abbrev CT:=@PySem.F.type_list_extend
abbrev CU:=@PySem.F.slot_list_extend
abbrev CV:=@List.any_cons
abbrev CW:=@List.all_cons
abbrev CY:=@Nat.pow_le_pow_left
abbrev CZ:=@PySem.fits_of_scanBound
abbrev Ca:=@PySem.codeAny_mono
abbrev Cb:=@beq_self_eq_true
abbrev Cc:=@PySem.Obj.cls_mapFields
abbrev Cd:=@List.zip_cons_cons
abbrev Ce:=@List.pairwise_cons
abbrev Cf:=@List.getElem_idxOf
abbrev Cg:=@List.filter_append
abbrev Ci:=@List.all_map
abbrev Cj:=@List.length_zip
abbrev Ck:=@Nat.div_lt_iff_lt_mul
abbrev Cm:=@List.take_append_drop
abbrev Co:=@List.concat_eq_append
abbrev Cp:=@Nat.le_succ_of_le
abbrev Cq:=@List.append_assoc
abbrev Cr:=@PySem.wpAny_setField_rec
abbrev Ct:=@PySem.wpAny_specialOf
abbrev Cu:=@PySem.wpAny_passesOwn
abbrev Cv:=@List.getElem?_of_mem
abbrev Cw:=@Array.getElem?_eq_some_iff
abbrev Cy:=@Nat.succ_le_succ
abbrev Cz:=@List.getElem_mem
abbrev C0:=@PySem.wpAny_pyIter_slot
abbrev C1:=@PySem.F.plain_extend_loop
abbrev C2:=@List.pairwise_iff_getElem
abbrev C3:=@List.length_reverse
abbrev C4:=@List.filterMap_cons
abbrev C5:=@List.length_erase_of_mem
abbrev C6:=@PySem.Heap.get?_none_of_le
abbrev C7:=@List.sum_append
abbrev C8:=@Int.natCast_mul
abbrev C9:=@Nat.pow_one
abbrev DA:=@List.pairwise_singleton
abbrev DC:=@Classical.axiomOfChoice
abbrev DD:=@List.range_succ_eq_map
abbrev DE:=@List.length_pos_of_mem
abbrev DF:=@PySem.typeLookup_type
abbrev DG:=@PySem.wpAny_pyIter_tuple
abbrev DH:=@PySem.wpAny_mono
abbrev DI:=@PySem.tupleKind_room_in1
abbrev DJ:=@PySem.wpAny_getItem_str_slice
abbrev DK:=@PySem.F.slot_zip_next
abbrev DL:=@List.length_filter_le
abbrev DM:=@List.eq_nil_or_concat
abbrev DN:=@PySem.F.slot_list_getattribute
abbrev DO:=@List.any_eq_true
abbrev DP:=@List.map_take
abbrev DQ:=@List.map_drop
abbrev DR:=@PySem.wpAny_fieldsOf
abbrev DS:=@Sum.inr.inj
abbrev DT:=@List.mem_of_mem_take
abbrev DU:=@Nat.div_add_mod
abbrev DV:=@Int.natCast_add
abbrev DW:=@PySem.call_meets
abbrev DX:=@Nat.lt_trans
abbrev DY:=@List.map_nil
abbrev DZ:=@PySem.Txt.slice_le
abbrev Dc:=@Nat.eq_zero_or_pos
abbrev Dd:=@List.perm_ext_iff_of_nodup
abbrev De:=@List.drop_zero
abbrev Df:=@PySem.wpAny_updateSeq
abbrev Dh:=@Bool.eq_false_iff
abbrev Di:=@PySem.F.args_tuple_add_2
abbrev Dj:=@PySem.isSubtype_stop
abbrev Dk:=@PySem.F.entry_tuple_add
abbrev Dm:=@PySem.F.args_set_iter_1
abbrev Dn:=@Int.natCast_emod
abbrev Do:=@Int.natCast_ediv
abbrev Dp:=@PySem.F.slot_tuple_add
abbrev Dq:=@Nat.sub_zero
abbrev Dr:=@Nat.lt_or_ge
abbrev Ds:=@List.flatMap_singleton
abbrev Dt:=@List.drop_eq_nil_of_le
abbrev Du:=@PySem.wpAny_storeSet_of
abbrev Dv:=@PySem.wpAny_pyIter_enum
abbrev Dw:=@PySem.sizeLine_eq
abbrev Dx:=@Option.map_some
abbrev Dy:=@List.nil_append
abbrev Dz:=@PySem.wpAny_handled
abbrev D0:=@Nat.mul_le_mul
abbrev D4:=@List.mem_erase_of_ne
abbrev D5:=@List.length_dropLast
abbrev D6:=@PySem.wpAny_execs_nil
abbrev D7:=@PySem.post_val_or_str
abbrev D8:=@PySem.W.mg_of
abbrev EA:=@PySem.wpAny_notOrdered_dict
abbrev EB:=@PySem.F.args_tuple_iterator_next_1
abbrev EC:=@Nat.lt_of_le_of_lt
abbrev ED:=@List.mem_filterMap
abbrev EE:=@Int.emod_lt_of_pos
abbrev EF:=@PySem.F.entry_tuple_iterator_next
abbrev EG:=@List.findIdx?_eq_some_iff_getElem
abbrev EH:=@PySem.wpAny_updateSeq_pair
abbrev EI:=@PySem.wpAny_throw
abbrev EJ:=@PySem.wpAny_runValue
abbrev EK:=@Option.isSome_map
abbrev EL:=@Nat.pow_zero
abbrev EM:=@Nat.add_zero
abbrev EN:=@List.take_add_one
abbrev EO:=@List.foldl_append
abbrev ER:=@Bool.not_eq_true'
abbrev ES:=@Array.toList_push
abbrev ET:=@PySem.putSet_of
abbrev EU:=@List.eraseIdx_eq_take_drop_succ
abbrev EV:=@List.eraseIdxIfInBounds_toArray
abbrev EW:=@Nat.mod_eq_of_lt
abbrev EX:=@Nat.div_eq_of_lt
abbrev EY:=@List.perm_middle
abbrev EZ:=@List.nodup_range
abbrev Ea:=@PySem.wpAny_onRaise
abbrev Eb:=@PySem.wpAny_load
abbrev Ec:=@PySem.wpAny_Call_Name_kw
abbrev Ed:=@Nat.mul_add_mod
abbrev Ee:=@Nat.mul_add_div
abbrev Ef:=@Nat.le_antisymm
abbrev Eg:=@List.dropLast_concat_getLast
abbrev Eh:=@Int.emod_nonneg
abbrev Ei:=@PySem.wpAny_setEpoch_of
abbrev Ej:=@PySem.callType_new
abbrev Ek:=@PySem.F.sub_list_frozenset
abbrev El:=@PySem.F.slot_tuple_getitem
abbrev Em:=@PySem.F.kt_typeCall_dict_1
abbrev En:=@PySem.F.args_object_init_2
abbrev Eo:=@List.nodup_iff_pairwise_ne
abbrev Ep:=@List.getElem?_append_right
abbrev Er:=@Int.fdiv_eq_ediv_of_nonneg
namespace L2
open PySem PySem.Spec PyProof.Rows
abbrev Key:=Sum Int Str
def xi:Key->Value->Bool
 | .inl k,v=>Value.isInt k v
 | .inr x,v=>Value.isStrOf x v
def keyH (w:World):Key->Int
 | .inl k=>hashInt k
 | .inr x=>hashStr w x
theorem qz:∀ {k:Key} {v:Value},xi k v=true->(∃ i t,k=Sum.inl i/\v=Value.int i t)\/(∃ x t,k=Sum.inr x/\v=Value.str x t)
 | .inl i,v,h=>by
  obtain⟨t,e⟩:=Value.isInt_shape (k:=i) (v:=v) h
  exact .inl ⟨i,t,O,e⟩
 | .inr x,v,h=>by
  obtain⟨t,e⟩:=Value.isStrOf_shape (x:=x) (v:=v) h
  exact .inr ⟨x,t,O,e⟩
def Xe (i:Int) (t:Tok):xi (.inl i) (.int i t)=true:=by simp[xi,Value.isInt]
def Xf (x:Str) (t:Tok):xi (.inr x) (.str x t)=true:=by simp[xi,Value.isStrOf]
def key_ll (a b:Int):decide ((Sum.inl a:Key)=Sum.inl b)=(a == b):=by
 by_cases e:a=b
 ·subst e;simp
 ·have h:¬ (Sum.inl a:Key)=Sum.inl b:=λq=>e (Sum.inl.inj q)
  rw[As h]
  exact (beq_eq_false_iff_ne.mpr e).symm
def key_rr (a b:Str):decide ((Sum.inr a:Key)=Sum.inr b)=decide (a=b):=by
 by_cases e:a=b
 ·subst e;simp
 ·have h:¬ (Sum.inr a:Key)=Sum.inr b:=λq=>e (DS q)
  rw[As h,As e]
def key_lr (a:Int) (b:Str):decide ((Sum.inl a:Key)=Sum.inr b)=false:=As (λq=>nomatch q)
def key_rl (a:Str) (b:Int):decide ((Sum.inr a:Key)=Sum.inl b)=false:=As (λq=>nomatch q)
def zW (prog:Program) (w:World):PySem.KeyKind prog w Key where
 is:=xi
 hash:=keyH w
 inj:=λv a b ha hb=>by
  rcases qz ha with ⟨i,t,rfl,rfl⟩ | ⟨x,t,rfl,rfl⟩
  ·rcases qz hb with ⟨j,u,rfl,e⟩ | ⟨y,u,rfl,e⟩
   ·injection e with e1 _;rw[e1]
   ·exact nomatch e
  ·rcases qz hb with ⟨j,u,rfl,e⟩ | ⟨y,u,rfl,e⟩
   ·exact nomatch e
   ·injection e with e1 _;rw[e1]
 byValue:=λk v h=>by
  rcases qz h with ⟨i,t,rfl,rfl⟩ | ⟨x,t,rfl,rfl⟩ <;> rfl
 pyHash:=λhv h=>by
  rcases qz hv with ⟨i,t,rfl,rfl⟩ | ⟨x,t,rfl,rfl⟩
  ·exact wpAny_pyHash_int h
  ·exact wpAny_pyHash_str h
 eqBool:=λhu hv h=>by
  rcases qz hu with ⟨i,t,rfl,rfl⟩ | ⟨x,t,rfl,rfl⟩
  ·rcases qz hv with ⟨j,u,rfl,rfl⟩ | ⟨y,u,rfl,rfl⟩
   ·rw[key_ll] at h;exact wpAny_eqBool_int h
   ·rw[key_lr] at h;exact SeqAt.EqAt.int_str i t y u _ _ _ _ h
  ·rcases qz hv with ⟨j,u,rfl,rfl⟩ | ⟨y,u,rfl,rfl⟩
   ·rw[key_rl] at h;exact SeqAt.EqAt.str_int x t j u _ _ _ _ h
   ·rw[key_rr] at h;exact wpAny_eqBool_str h
 «strs»:=λk x t v h=>by
  rcases qz h with ⟨i,u,rfl,e⟩ | ⟨y,u,rfl,e⟩
  ·exact nomatch e
  ·injection e with e1 _
   subst e1
   cases v <;> rfl
def yO (prog:Program) (w:World) (i:Int) (t:Tok):(zW prog w).is (.inl i) (.int i t)=true:=Xe i t
def yP (prog:Program) (w:World) (x:Str) (t:Tok):(zW prog w).is (.inr x) (.str x t)=true:=Xf x t
inductive V where
 | non | bl (b:Bool) | int (i:Int) | str (x:Str) | byt (b:Array UInt8) | flt (b:UInt64) | ref (a:Addr) | ty (n:String)
 deriving DecidableEq
def RelV:V->Value->Prop
 | .non,u=>u=Value.none
 | .bl b,u=>u=Value.bool b
 | .int i,u=>∃ t,u=Value.int i t
 | .str x,u=>∃ t,u=Value.str x t
 | .byt b,u=>∃ t,u=Value.bytes b t
 | .flt b,u=>∃ t,u=Value.float b t
 | .ref a,u=>u=Value.ref a
 | .ty n,u=>u=Value.type n
abbrev qF:List V->List Value->Prop:=Paired RelV
def qF.length {xs:List V} {us:List Value} (r:qF xs us):xs.length=us.length:=A3 r
theorem qF.get:∀ {xs:List V} {us:List Value} {i:Nat} {x:V},qF xs us->xs[i]? = some x->∃ u,us[i]? = some u/\RelV x u
 | _,_,_,_,.nil,e=>by simp at e
 | _,_,0,_,.cons r _,e=>by simp at e;subst e;exact⟨_,rfl,r⟩
 | _,_,i+1,x,.cons _ t,e=>by
  obtain⟨u,h1,h2⟩:=qF.get (i:=i) (x:=x) t (by simpa using e)
  exact⟨u,by simpa using h1,h2⟩
theorem qF.append:∀ {xs ys:List V} {us ws:List Value},qF xs us->qF ys ws->qF (xs++ys) (us++ws)
 | _,_,_,_,.nil,s=>s
 | _,_,_,_,.cons r t,s=>.cons r (qF.append t s)
theorem qF.take:∀ {xs:List V} {us:List Value} (n:Nat),qF xs us->qF (xs.take n) (us.take n)
 | _,_,0,_=>.nil
 | _,_,_+1,.nil=>.nil
 | _,_,n+1,.cons r t=>.cons r (qF.take n t)
theorem qF.drop:∀ {xs:List V} {us:List Value} (n:Nat),qF xs us->qF (xs.drop n) (us.drop n)
 | _,_,0,r=>r
 | _,_,_+1,.nil=>.nil
 | _,_,n+1,.cons _ t=>qF.drop n t
def Xb:Option V->Option Value->Prop
 | some v,some u=>RelV v u
 | none,none=>True
 | _,_=>False
def KV {κ:Type}:List (κ×V)->List (κ×Value)->Prop:=Paired λ(p:κ×V) (q:κ×Value)=>p.1=q.1/\RelV p.2 q.2
def kV:Key->V
 | .inl i=>.int i
 | .inr x=>.str x
def PTup (h:Heap) (a:Addr) (items:Array Value):Prop:=∃ o,h.get? a=some o/\o.cls=.type "tuple" /\ (∃ n,o.data=.seq items n)/\o.dict=none
def PTup.lt {h:Heap} {a:Addr} {items:Array Value} (x:PTup h a items):a < h.objs.size:=let ⟨_,e,_⟩:=x;AO e
def PTup.isTup {h:Heap} {a:Addr} {items:Array Value} (x:PTup h a items):IsTup h a items:=let ⟨o,e,c,n,_⟩:=x;⟨o,e,c,n⟩
def PTup.new (h:Heap) (items:Array Value):PTup (h.push { cls:=.type "tuple",data:=.seq items }) h.objs.size items:=⟨_,AN _ rfl,rfl,⟨_,rfl⟩,rfl⟩
inductive HO where
 | lst (xs:List V)
 | tup (xs:List V)
 | dK (kvs:List (Key×V)) | dT (kvs:List (List Key×V))
 | set (S:Int->Bool) (n:Nat)
 | ins (C dx:Addr) (fs:List (Str×V))
 | own (x:Addr)
 | xd (fs:List (Str×V))
 | met (f x:Addr)
 | rng (lo hi:Int)
 | frz (o:Obj) (u:HO)
 | tbl (ps:Array Value)
 | ext (φ:Heap->Prop)
abbrev Hp:=Addr->Option HO
def upd (H:Hp) (a:Addr) (o:HO):Hp:=λb=>if b=a then some o else H b
def ze {H:Hp} {a:Addr} {o:HO}:upd H a o a=some o:=by unfold upd;rw[if_pos rfl]
def zK {H:Hp} {a b:Addr} {o:HO} (h:b ≠ a):upd H a o b=H b:=by unfold upd;rw[if_neg h]
def upd_upd {H:Hp} {a:Addr} {o u:HO}:upd (upd H a o) a u=upd H a u:=by
 funext b;unfold upd;split <;> rfl
def ne_of {H:Hp} {a b:Addr} {o u:HO} (h:H a=some o) (h':H b=some u) (d:o ≠ u):a ≠ b:=by
 intro e;subst e;rw[h] at h';exact d (AR h')
def zL {H:Hp} {a b:Addr} {o:HO} (h:H a=some o) (h':H b=none):a ≠ b:=by
 intro e;subst e;rw[h] at h';cases h'
section
variable (P:Program) (w:World)
def qO (H:Hp) (h:Heap) (a:Addr):HO->Prop
 | .lst xs=>xs.length<=sizeLine/\∃ (its:List Value) (n:Nat),qF xs its/\h.get? a=some { cls:=.type "list",data:=.seq its.toArray n }
 | .tup xs=>xs.length<=sizeLine/\∃ its:List Value,qF xs its/\PTup h a its.toArray
 | .dK kvs=>kvs.length<=sizeLine/\(a == sysModules)=false/\∃ vs,KV kvs vs/\h.DictOf (zW P w) a vs
 | .dT kvs=>kvs.length<=sizeLine/\(a == sysModules)=false/\∃ xs:List (List Key×Addr×Value),
   Paired (λ(p:List Key×V) (q:List Key×Addr×Value)=>p.1=q.1/\H q.2.1=some (.tup (p.1.map kV))/\RelV p.2 q.2.2) kvs xs /\
   ∃ o es ep,h.get? a=some o/\o.ExactDict/\o.data=.dict es ep/\es.toList=xs.map (entryOfKey (tupleKind (zW P w)))/\(xs.map (·.1)).Nodup
 | .set S n=>h.SetOf (intKind P w) a S n
 | .ins C dx fs=>H dx=some (.own a)/\fs.length<=1000/\dx ≠ a/\h.get? a=some (PySem.W.instObj C dx) /\
   ∃ mA,h.Ns1 dx mA/\(∀ f,Xb (fs.lookup f) (mA f))/\PySem.Within mA (fs.map (·.1))
 | .own _=>∃ o,h.get? a=some o
 | .xd fs=>∃ mA,h.Ns1 a mA/\∀ f,Xb (fs.lookup f) (mA f)
 | .rng lo hi=>∃ t u v,h.get? a=some { cls:=.type "range",data:=.fields #[.int lo t,.int hi u,.int 1 v] }
 | .frz o u=>h.get? a=some o/\qO H h a u
 | .tbl ps=>h.get? a=some { cls:=.none,data:=.fields ps }
 | .met f x=>h.get? a=some (PySem.W.methodObj (.ref f) (.ref x))
 | .ext φ=>φ h/\(∃ o,h.get? a=some o)/\∀ h1 h2:Heap,φ h1->(∀ o,h1.get? a=some o->h2.get? a=some o)->φ h2
def HOk (H:Hp) (h:Heap):Prop:=∀ a o,H a=some o->qO P w H h a o
end
section
variable {P:Program} {w:World} {H H':Hp} {h h':Heap} {a:Addr} {o:HO}
def qO.lt (x:qO P w H h a o):a < h.objs.size:=by
 cases o with
 | lst xs=>obtain⟨_,_,_,_,e⟩:=x;exact AO e
 | tup xs=>obtain⟨_,_,_,p⟩:=x;exact p.lt
 | dK kvs=>obtain⟨_,_,_,_,o,_,_,e,_⟩:=x;exact AO e
 | dT kvs=>obtain⟨_,_,_,_,o,_,_,e,_⟩:=x;exact AO e
 | set S n=>obtain⟨o,_,_,_,e,_⟩:=x;exact AO e
 | ins C dx fs=>obtain⟨_,_,_,e,_⟩:=x;exact AO e
 | own y=>obtain⟨_,e⟩:=x;exact AO e
 | xd fs=>obtain⟨_,⟨_,_,_,e,_⟩,_⟩:=x;exact AO e
 | rng lo hi=>obtain⟨_,_,_,e⟩:=x;exact AO e
 | frz ob u=>obtain⟨e,_⟩:=x;exact AO e
 | tbl ps=>exact AO (show h.get? a=some _ from x)
 | met f y=>exact AO (show h.get? a=some _ from x)
 | ext φ=>obtain⟨_,⟨_,e⟩,_⟩:=x;exact AO e
theorem Paired.mapP {α β:Type} {F G:α->β->Prop}:∀ {l₁:List α} {l₂:List β},Paired F l₁ l₂->(∀ a b,F a b->G a b)->Paired G l₁ l₂
 | _,_,.nil,_=>.nil
 | _,_,.cons r t,f=>.cons (f _ _ r) (Paired.mapP t f)
def Paired.imp' {α β:Type} {F G:α->β->Prop} (f:∀ a b,F a b->G a b) {l₁:List α} {l₂:List β} (r:Paired F l₁ l₂):Paired G l₁ l₂:=Paired.mapP r f
def qO.stay (x:qO P w H h a o) (k:∀ b u,(b=a\/H b=some (.own a))->h.get? b=some u->h'.get? b=some u)
  (ho:∀ b,H b=some (.own a)->H' b=some (.own a)) (ht:∀ b xs,H b=some (.tup xs)->H' b=some (.tup xs)):qO P w H' h' a o:=by
 induction o with
 | lst xs=>obtain⟨z,its,n,r,e⟩:=x;exact⟨z,its,n,r,k _ _ (.inl rfl) e⟩
 | tup xs=>obtain⟨z,its,r,ob,e,c⟩:=x;exact⟨z,its,r,ob,k _ _ (.inl rfl) e,c⟩
 | dK kvs=>obtain⟨z,y,vs,r,ob,es,ep,e,c⟩:=x;exact⟨z,y,vs,r,ob,es,ep,k _ _ (.inl rfl) e,c⟩
 | dT kvs=>
  obtain⟨z,y,xs,r,ob,es,ep,e,c⟩:=x
  exact⟨z,y,xs,Paired.mapP r λp q z=>⟨z.1,ht _ _ z.2.1,z.2.2⟩,ob,es,ep,k _ _ (.inl rfl) e,c⟩
 | set S n=>obtain⟨ob,es,ep,t,e,c⟩:=x;exact⟨ob,es,ep,t,k _ _ (.inl rfl) e,c⟩
 | ins C dx fs=>
  obtain⟨d,z,ne,e,mA,⟨od,es,ep,e2,c⟩,r⟩:=x
  exact⟨ho _ d,z,ne,k _ _ (.inl rfl) e,mA,⟨od,es,ep,k _ _ (.inr d) e2,c⟩,r⟩
 | own y=>obtain⟨ob,e⟩:=x;exact⟨ob,k _ _ (.inl rfl) e⟩
 | xd fs=>obtain⟨mA,⟨od,es,ep,e,c⟩,r⟩:=x;exact⟨mA,⟨od,es,ep,k _ _ (.inl rfl) e,c⟩,r⟩
 | rng lo hi=>obtain⟨t,u,v,e⟩:=x;exact⟨t,u,v,k _ _ (.inl rfl) e⟩
 | frz ob u ih=>obtain⟨e,q⟩:=x;exact⟨k _ _ (.inl rfl) e,ih q⟩
 | tbl ps=>
  have e:h.get? a=some { cls:=.none,data:=.fields ps }:=x
  show h'.get? a=some { cls:=.none,data:=.fields ps }
  exact k a _ (.inl rfl) e
 | met f y=>
  have e:h.get? a=some (PySem.W.methodObj (.ref f) (.ref y)):=x
  show h'.get? a=some (PySem.W.methodObj (.ref f) (.ref y))
  exact k a _ (.inl rfl) e
 | ext φ=>obtain⟨p,⟨o,e⟩,st⟩:=x;exact⟨st _ _ p λo q=>k _ _ (.inl rfl) q,⟨o,k _ _ (.inl rfl) e⟩,st⟩
def HOk.lt (x:HOk P w H h) (e:H a=some o):a < h.objs.size:=(x a o e).lt
def HOk.fresh (x:HOk P w H h) (e:h.objs.size<=a):H a=none:=by
 cases q:H a with
 | none=>rfl
 | some u=>exact absurd (Ac (x.lt q) e) (A1 _)
def HOk.kept (x:HOk P w H h) (k:∀ b u,h.get? b=some u->h'.get? b=some u):HOk P w H h':=λa o e=>
 (x a o e).stay (λb u _ q=>k b u q) (λ_ q=>q) λ_ _ q=>q
def HOk.laid (x:HOk P w H h) (k:∀ b u,h.get? b=some u->h'.get? b=some u) (hp:h.objs.size<=a) (new:qO P w (upd H a o) h' a o):HOk P w (upd H a o) h':=λb u e=>by
 have hn:=x.fresh hp
 by_cases hb:b=a
 ·subst hb;rw[ze] at e;cases e;exact new
 ·rw[zK hb] at e
  exact (x b u e).stay (λc v _ q=>k c v q) (λc q=>by rw[zK (zL q hn)];exact q) λc xs q=>by rw[zK (zL q hn)];exact q
end
def Rd (H:Hp) (a:Addr) (u:HO):Prop:=H a=some u\/∃ o,H a=some (.frz o u)
def Rd.ok {P:Program} {w:World} {H:Hp} {h:Heap} {a:Addr} {u:HO} (r:Rd H a u) (x:HOk P w H h):qO P w H h a u:=by
 rcases r with r | ⟨o,r⟩
 ·exact x a u r
 ·obtain⟨_,q⟩:=x a _ r
  exact q
def Mut:Option HO->Prop
 | some (.lst _)=>True
 | some (.dK _)=>True
 | some (.dT _)=>True
 | some (.set _ _)=>True
 | some (.ins _ _ _)=>True
 | some (.ext _)=>True
 | _=>False
section
variable {P:Program} {w:World} {H:Hp} {h h':Heap} {x e:Addr} {o':HO}
def HOk.write (ok:HOk P w H h) (mu:Mut (H x)) (he:e=x\/H e=some (.own x)) (k:∀ b u,b ≠ e->h.get? b=some u->h'.get? b=some u) (heo:∃ u,h'.get? e=some u)
  (new:qO P w (upd H x o') h' x o'):HOk P w (upd H x o') h':=λb u q=>by
 have nown:∀ c y,H c=some (.own y)->c ≠ x:=λc y r z=>by subst z;rw[r] at mu;exact mu
 have ntup:∀ c xs,H c=some (.tup xs)->c ≠ x:=λc xs r z=>by subst z;rw[r] at mu;exact mu
 by_cases hb:b=x
 ·subst hb;rw[ze] at q;cases q;exact new
 ·rw[zK hb] at q
  by_cases hbe:b=e
  ·have q':H b=some (.own x):=by
    rcases he with z | z
    ·exact absurd (hbe.trans z) hb
    ·rw[hbe];exact z
   rw[q] at q';cases q'
   obtain⟨v,hv⟩:=heo
   exact⟨v,by rw[hbe];exact hv⟩
  ·refine (ok b u q).stay (λc v hc r=>k c v ?_ r) (λc r=>by rw[zK (nown c b r)];exact r) λc xs r=>by rw[zK (ntup c xs r)];exact r
   rcases hc with rfl | hc
   ·exact hbe
   ·rintro rfl
    rcases he with z | z
    ·exact nown c b hc z
    ·rw[hc] at z;cases z;exact hb rfl
end
structure Un (fs ex:List Addr) (H H':Hp) (h h':Heap):Prop where
 keep:∀ b o,h.get? b=some o->H b=none->b ∉ fs->b ∉ ex->h'.get? b=some o
 slot:∀ b o,h.get? b=some o->H b=none->b ∈ fs->b ∉ ex->∃ sl,h'.get? b=some { o with slots:=sl }
 free:∀ b o,h.get? b=some o->H b=none->b ∉ ex->H' b=none
 there:∀ b o,h.get? b=some o->b ∉ ex->∃ o',h'.get? b=some o'
 tups:∀ b xs,H b=some (.tup xs)->H' b=some (.tup xs)
 frzs:∀ b o u,H b=some (.frz o u)->H' b=some (.frz o u)
 tbls:∀ b ps,H b=some (.tbl ps)->∃ more,H' b=some (.tbl (ps++more))
section
variable {fs fs' ex ex':List Addr} {H H1 H2:Hp} {h h1 h2 h':Heap} {a x e:Addr} {o:HO}
def Un.any (u:Un fs ex H H1 h h1) {b:Addr} {ob:Obj} (q:h.get? b=some ob) (n:H b=none) (hx:b ∉ ex):∃ sl,h1.get? b=some { ob with slots:=sl }:=by
 by_cases hb:b ∈ fs
 ·exact u.slot b ob q n hb hx
 ·exact⟨ob.slots,u.keep b ob q n hb hx⟩
def Un.kept (k:∀ b u,h.get? b=some u->h'.get? b=some u):Un fs ex H H h h':=
 ⟨λb ob q _ _ _=>k b ob q,λb ob q _ _ _=>⟨ob.slots,k b ob q⟩,λ_ _ _ n _=>n,λb ob q _=>⟨ob,k b ob q⟩,λ_ _ q=>q,λ_ _ _ q=>q,λ_ ps q=>⟨#[],by rw[q];simp⟩⟩
def Un.refl:Un fs ex H H h h:=Un.kept λ_ _ q=>q
def Un.laid (k:∀ b u,h.get? b=some u->h'.get? b=some u) (hp:h.objs.size<=a) (hn:H a=none):Un fs ex H (upd H a o) h h' where
 keep:=λb u q _ _ _=>k b u q
 slot:=λb u q _ _ _=>⟨u.slots,k b u q⟩
 free:=λb u q n _=>by rw[zK (AU (Ac (AO q) hp))];exact n
 there:=λb u q _=>⟨u,k b u q⟩
 tups:=λb xs q=>by rw[zK (zL q hn)];exact q
 frzs:=λb u xs q=>by rw[zK (zL q hn)];exact q
 tbls:=λb ps q=>⟨#[],by rw[zK (zL q hn),q];simp⟩
def Un.write (mu:Mut (H x)) (he:e=x\/H e=some (.own x)) (k:∀ b u,b ≠ e->h.get? b=some u->h'.get? b=some u) (heo:∃ u,h'.get? e=some u):Un fs ex H (upd H x o) h h':=by
 have hx:∀ b,H b=none->b ≠ x:=λb n z=>by subst z;rw[n] at mu;exact mu
 have hb:∀ b,H b=none->b ≠ e:=λb n z=>by
  subst z
  rcases he with r | r
  ·exact hx b n r
  ·rw[n] at r;cases r
 have hm:∀ b u,H b=some u->¬ Mut (some u)->b ≠ x:=λb u q nm z=>by subst z;rw[q] at mu;exact nm mu
 refine⟨λb u q n _ _=>k b u (hb b n) q,λb u q n _ _=>⟨u.slots,k b u (hb b n) q⟩,λb u q n _=>by rw[zK (hx b n)];exact n,λb u q _=>?_,
  λb xs q=>by rw[zK (hm b _ q λz=>z)];exact q,λb u xs q=>by rw[zK (hm b _ q λz=>z)];exact q,λb ps q=>⟨#[],by rw[zK (hm b _ q λz=>z),q];simp⟩⟩
 by_cases hbe:b=e
 ·subst hbe;exact heo
 ·exact⟨u,k b u hbe q⟩
end
def trk (h:Heap) (H:Hp):List Addr:=(List.range h.objs.size).filter λa=>(H a).isSome
def hidT (h:Heap) (H:Hp):Heap:=PySem.W.hideAll h (trk h H)
def Xg (h:Heap) (H:Hp):(hidT h H).objs.size=h.objs.size:=PySem.W.hideAll_size _ _
def hidT_get {h:Heap} {H:Hp} {b:Addr} {o:Obj} (e:h.get? b=some o) (n:H b=none):(hidT h H).get? b=some o:=
 PySem.W.hideAll_get _ e λhm=>by
  have q:(H b).isSome=true:=(Bf.mp hm).2
  rw[n] at q;simp at q
def of_hidT {h:Heap} {H:Hp} {b:Addr} {o:Obj} (e:(hidT h H).get? b=some o):h.get? b=some o/\H b=none:=by
 have e':h.get? b=some o:=PySem.W.of_hideAll (trk h H) e
 refine⟨e',?_⟩
 cases q:H b with
 | none=>rfl
 | some x=>
  have hm:b ∈ trk h H:=Bf.mpr ⟨Ab.mpr (AO e'),by simp[q]⟩
  have z:(hidT h H).get? b=none:=PySem.W.hideAll_none (trk h H) hm
  rw[z] at e;cases e
structure Mod (K:Fs) (mg:Str->Option Value) (base:Heap):Prop where
 kin:K.In base
 glob:base.Ns mainGlobals mg
 blt:∃ mb,base.Ns builtinsNs mb/\∀ x:Str,x ≠ "__name__" -> mb x=bootBuiltins x
 nolimit:base.NoLimit
structure Cx where
 prog:Program
 w:World
 K:Fs
 mg:Str->Option Value
 base:Heap
 A:Around
 N:List Str
 s₀:Shared
 H₀:Hp
 env:Env
 outer:List Env
 stack:List Env
 ex:List Addr
 fn:Str->Bool
 calm:Bool
 pn:List (Addr×Obj)
 xe:Value->Shared->Prop
def frs (l:List Env):List Addr:=l.filterMap (·.frame)
abbrev Cx.fs (X:Cx):List Addr:=frs X.outer
def Vis (sc:Scope) (x:Str):Prop:=sc.names.lookup x=some .local\/sc.names.lookup x=some .cell\/sc.names.lookup x=some .free
def Loc (sc:Scope) (x:Str):Prop:=sc.names.lookup x=some .local\/sc.names.lookup x=some .cell
def Look (env:Env) (h:Heap) (m:Str->Option Value) (x:Str) (u:Value):Prop:=
 (env.kindOf x=some .local/\m x=some u)\/((env.kindOf x=some .cell\/env.kindOf x=some .free)/\∃ c,env.cells.lookup x=some c/\h.IsCell c (some u))
structure Cx.Ok (X:Cx):Prop where
 mod:Mod X.K X.mg X.base
 kind:X.env.scope.kind=.function
 glob:X.env.globals=mainGlobals
 blt:X.env.builtins=builtinsNs
 above:X.s₀.heap.objs.size<=X.env.locals
 inj:∀ x y c,X.env.cells.lookup x=some c->X.env.cells.lookup y=some c->x=y
 has:∀ x,(X.env.kindOf x=some .cell\/X.env.kindOf x=some .free)->∃ c,X.env.cells.lookup x=some c
 cab:∀ x c,X.fn x=true->X.env.cells.lookup x=some c->X.s₀.heap.objs.size<=c
 hd:X.calm=true->X.A.handled=none
 frames:X.A.frames=some X.stack
 stk:X.stack=X.outer\/(X.stack=X.env :: X.outer/\X.env.frame=some X.env.locals)
 exf:∀ b ∈ X.ex,b ≠ X.env.locals/\∀ x c,X.env.cells.lookup x=some c->c ≠ b
 bs:∀ b o,X.base.get? b=some o->X.s₀.heap.get? b=some o/\X.H₀ b=none
 bsz:X.base.objs.size<=X.s₀.heap.objs.size
 noex:∀ b o,X.base.get? b=some o->b ∉ X.ex
 exfs:∀ b ∈ X.ex,b ∉ X.fs
 funs:X.s₀.heap.FunFrames X.base X.outer
 frf:∀ b ∈ X.fs,X.H₀ b=none
structure Inv (X:Cx) (pins:List (Addr×Obj)) (σ:List (Option V)) (H:Hp) (s:Shared):Prop where
 ok:X.Ok
 os:s.os=X.s₀.os
 bare:AllBare s.gens
 base:Un X.fs X.ex X.H₀ H X.s₀.heap s.heap
 loc:∃ m,s.heap.Ns X.env.locals m/\∀ (i:Nat) (x:Str) (v:V),X.N[i]? = some x->σ[i]? = some (some v)->Vis X.env.scope x->∃ u,RelV v u/\Look X.env s.heap m x u
 cell:∀ x c,X.env.cells.lookup x=some c->∃ v,s.heap.IsCell c v
 free:H X.env.locals=none
 freeC:∀ x c,X.env.cells.lookup x=some c->H c=none
 pin:∀ p ∈ X.pn++pins,s.heap.get? p.1=some p.2/\H p.1=none/\p.1 ≠ X.env.locals/\p.1 ∉ X.fs/\∀ v,p.2.data ≠ .cell v
 hok:HOk X.prog X.w H s.heap
 len:σ.length=X.N.length
section
variable {X:Cx} {pins:List (Addr × Obj)} {σ:List (Option V)} {H H':Hp} {s:Shared} {h':Heap}
def Cx.Ok.nofr (ok:X.Ok) {b:Addr} {o:Obj} (e:X.base.get? b=some o):b ∉ X.fs:=λhb=>by
 have:=(ok.funs.mem hb).1
 rw[e] at this;cases this
def Inv.bs (I:Inv X pins σ H s):∀ b o,X.base.get? b=some o->s.heap.get? b=some o/\H b=none:=λb o e=>
 ⟨I.base.keep b o (I.ok.bs b o e).1 (I.ok.bs b o e).2 (I.ok.nofr e) (I.ok.noex b o e),I.base.free b o (I.ok.bs b o e).1 (I.ok.bs b o e).2 (I.ok.noex b o e)⟩
def Inv.bk (I:Inv X pins σ H s):∀ b o,X.base.get? b=some o->s.heap.get? b=some o:=λb o e=>(I.bs b o e).1
def Inv.mod (I:Inv X pins σ H s):Mod X.K X.mg X.base:=I.ok.mod
def Inv.kIn (I:Inv X pins σ H s):X.K.In s.heap:=I.ok.mod.kin.keeps I.bk
def Inv.lt (I:Inv X pins σ H s):X.env.locals < s.heap.objs.size:=let ⟨_,hn,_⟩:=I.loc;hn.lt
def Inv.sz (I:Inv X pins σ H s):X.s₀.heap.objs.size<=s.heap.objs.size:=Aa I.ok.above (CN I.lt)
def Inv.nofs (I:Inv X pins σ H s) {a:Addr} (h:s.heap.objs.size<=a):a ∉ X.fs:=λhb=>by
 obtain⟨_,o,ho,_⟩:=I.ok.funs.mem hb
 exact absurd (Ac (AO ho) (Aa I.sz h)) (A1 _)
def Inv.cne (I:Inv X pins σ H s):∀ x c,X.env.cells.lookup x=some c->c ≠ X.env.locals:=λx c e z=>by
 obtain⟨v,o,ho,hd⟩:=I.cell x c e
 obtain⟨m,⟨o',es,ep,ho',hd',_⟩,_⟩:=I.loc
 rw[z,ho'] at ho;cases ho;rw[hd'] at hd;cases hd
def Inv.funs (I:Inv X pins σ H s):s.heap.FunFrames X.base X.outer:=by
 have all:∀ (l:List Env),(∀ b ∈ frs l,b ∈ X.fs)->X.s₀.heap.FunFrames X.base l->s.heap.FunFrames X.base l:=by
  intro l
  induction l with
  | nil=>intro _ _;trivial
  | cons env r ih=>
   intro hs hl
   obtain⟨hk,⟨L,o,hf,hn,ho,hd⟩,hr⟩:=hl
   have hL:L ∈ X.fs:=hs L (by unfold frs;rw[List.filterMap_cons,hf];exact Af)
   obtain⟨sl,e⟩:=I.base.slot L o ho (I.ok.frf L hL) hL λz=>I.ok.exfs L z hL
   exact⟨hk,⟨L,_,hf,hn,e,hd⟩,ih (λb hb=>hs b (by unfold frs;rw[List.filterMap_cons,hf];exact Ah _ hb)) hr⟩
 exact all X.outer (λ_ hb=>hb) I.ok.funs
def Inv.stack (I:Inv X pins σ H s):s.heap.FunFrames X.base X.stack:=by
 rcases I.ok.stk with e | ⟨e,hf⟩
 ·rw[e];exact I.funs
 ·rw[e]
  obtain⟨m,hn,_⟩:=I.loc
  refine .cons (by rw[I.ok.kind];decide) hf hn ?_ I.funs
  exact C6 (Aa I.ok.bsz I.ok.above)
def Inv.stkSub (I:Inv X pins σ H s):∀ b ∈ frs X.stack,b ∈ X.env.locals :: X.fs:=λb hb=>by
 rcases I.ok.stk with e | ⟨e,hf⟩
 ·rw[e] at hb;exact Ah _ hb
 ·rw[e] at hb
  unfold frs at hb
  rw[C4,hf] at hb
  exact hb
def Inv.stkFree (I:Inv X pins σ H s):∀ b ∈ frs X.stack,H b=none:=λb hb=>by
 rcases AX.mp (I.stkSub b hb) with e | hb
 ·rw[e];exact I.free
 ·obtain⟨_,o,ho,_⟩:=I.ok.funs.mem hb
  exact I.base.free b o ho (I.ok.frf b hb) λz=>I.ok.exfs b z hb
def Inv.step {g':Array GenState} {t':Nat} {d':Drawn} {ch:List Addr} (I:Inv X pins σ H s)
  (hch:∀ b ∈ ch,(b ∈ X.ex\/X.s₀.heap.objs.size<=b)/\b ≠ X.env.locals/\(∀ x c,X.env.cells.lookup x=some c->c ≠ b)/\∀ p ∈ X.pn++pins,p.1 ≠ b)
  (keep:∀ b o,b ≠ X.env.locals->b ∉ X.fs->b ∉ ch->s.heap.get? b=some o->H b=none->h'.get? b=some o)
  (slot:∀ b o,b ≠ X.env.locals->b ∈ X.fs->b ∉ ch->s.heap.get? b=some o->H b=none->∃ sl,h'.get? b=some { o with slots:=sl }) (free:∀ b o,b ∉ ch->s.heap.get? b=some o->H b=none->H' b=none)
  (there:∀ b o,b ∉ ch->s.heap.get? b=some o->∃ o',h'.get? b=some o')
  (tups:∀ b xs,H b=some (.tup xs)->H' b=some (.tup xs)) (frzs:∀ b o u,H b=some (.frz o u)->H' b=some (.frz o u)) (tbls:∀ b ps,H b=some (.tbl ps)->∃ more,H' b=some (.tbl (ps++more)))
  (ns:∀ m,s.heap.Ns X.env.locals m->h'.Ns X.env.locals m) (hok:HOk X.prog X.w H' h') (hg:AllBare g') :
  Inv X pins σ H' { s with heap:=h',gens:=g',drawn:=d',toks:=t' }:=by
 have neL:∀ b o,X.s₀.heap.get? b=some o->b ≠ X.env.locals:=λb o e=>AU (Ac (AO e) I.ok.above)
 have neC:∀ b o,X.s₀.heap.get? b=some o->b ∉ X.ex->b ∉ ch:=λb o e hx hb=>by
  rcases (hch b hb).1 with z | z
  ·exact hx z
  ·exact absurd (Ac (AO e) z) (A1 _)
 have cellK:∀ x c,X.env.cells.lookup x=some c->∀ v,s.heap.IsCell c v->h'.IsCell c v:=λx c e v ⟨o,ho,hd⟩=>by
  have nch:c ∉ ch:=λz=>(hch c z).2.2.1 x c e rfl
  by_cases hc:c ∈ X.fs
  ·obtain⟨sl,q⟩:=slot c o (I.cne x c e) hc nch ho (I.freeC x c e)
   exact⟨_,q,hd⟩
  ·exact⟨o,keep c o (I.cne x c e) hc nch ho (I.freeC x c e),hd⟩
 refine⟨I.ok,I.os,hg,⟨λb o e n hb hx=>?_,λb o e n hb hx=>?_,λb o e n hx=>?_,λb o e hx=>?_,λb xs e=>tups b xs (I.base.tups b xs e),λb o xs e=>frzs b o xs (I.base.frzs b o xs e),λb ps e=>?_⟩,?_,λx c e=>?_,?_,λx c e=>?_,λp hp=>?_,hok,I.len⟩
 ·exact keep b o (neL b o e) hb (neC b o e hx) (I.base.keep b o e n hb hx) (I.base.free b o e n hx)
 ·obtain⟨sl,e1⟩:=I.base.slot b o e n hb hx
  obtain⟨sl',e2⟩:=slot b _ (neL b o e) hb (neC b o e hx) e1 (I.base.free b o e n hx)
  exact⟨sl',e2⟩
 ·obtain⟨o',e1⟩:=I.base.there b o e hx
  exact free b o' (neC b o e hx) e1 (I.base.free b o e n hx)
 ·obtain⟨o',e1⟩:=I.base.there b o e hx
  exact there b o' (neC b o e hx) e1
 ·obtain⟨m1,e1⟩:=I.base.tbls b ps e
  obtain⟨m2,e2⟩:=tbls b _ e1
  exact⟨m1++m2,by rw[e2,Array.append_assoc]⟩
 ·obtain⟨m,hn,hl⟩:=I.loc
  refine⟨m,ns m hn,λi x v e1 e2 e3=>?_⟩
  obtain⟨u,r,l⟩:=hl i x v e1 e2 e3
  refine⟨u,r,?_⟩
  rcases l with l | ⟨k,c,e,z⟩
  ·exact .inl l
  ·exact .inr ⟨k,c,e,cellK x c e _ z⟩
 ·obtain⟨v,z⟩:=I.cell x c e
  exact⟨v,cellK x c e v z⟩
 ·obtain⟨m,⟨o,_,_,ho,_⟩,_⟩:=I.loc
  exact free _ o (λz=>(hch _ z).2.1 rfl) ho I.free
 ·obtain⟨v,o,ho,hd⟩:=I.cell x c e
  exact free c o (λz=>(hch c z).2.2.1 x c e rfl) ho (I.freeC x c e)
 ·obtain⟨e,n,ne,nf,d⟩:=I.pin p hp
  have nch:p.1 ∉ ch:=λz=>(hch p.1 z).2.2.2 p hp rfl
  exact⟨keep p.1 p.2 ne nf nch e n,free p.1 p.2 nch e n,ne,nf,d⟩
def Inv.un {t':Nat} (I:Inv X pins σ H s) (u:Un X.fs [] H H' s.heap h') (hok:HOk X.prog X.w H' h'):Inv X pins σ H' { s with heap:=h',toks:=t' }:=by
 obtain⟨m,⟨o,es,ep,ho,r⟩,_⟩:=id I.loc
 obtain⟨sl,hL⟩:=u.any ho I.free (by simp)
 exact I.step (g':=s.gens) (d':=s.drawn) (ch:=[]) (λ_ z=>nomatch z) (λb o _ hb _ e n=>u.keep b o e n hb (by simp)) (λb o _ hb _ e n=>u.slot b o e n hb (by simp)) (λb o _ e n=>u.free b o e n (by simp)) (λb o _ e=>u.there b o e (by simp)) u.tups u.frzs u.tbls (λm' hm=>by
  obtain⟨o',es',ep',ho',r'⟩:=hm
  rw[ho] at ho';cases ho'
  exact⟨_,es',ep',hL,r'⟩) hok I.bare
def Inv.call {g':Array GenState} {t':Nat} {d':Drawn} {ch:List Addr} (I:Inv X pins σ H s) (u:Un (frs X.stack) ch H H' s.heap h') (hok:HOk X.prog X.w H' h') (hg:AllBare g')
  (hch:∀ b ∈ ch,(b ∈ X.ex\/X.s₀.heap.objs.size<=b)/\b ≠ X.env.locals/\(∀ x c,X.env.cells.lookup x=some c->c ≠ b)/\∀ p ∈ X.pn++pins,p.1 ≠ b) :
  Inv X pins σ H' { s with heap:=h',gens:=g',drawn:=d',toks:=t' }:=by
 obtain⟨m,⟨o,es,ep,ho,r⟩,_⟩:=id I.loc
 obtain⟨sl,hL⟩:=u.any ho I.free λz=>(hch _ z).2.1 rfl
 exact I.step (ch:=ch) hch (λb o hL hb hc e n=>u.keep b o e n (λz=>(AX.mp (I.stkSub b z)).elim hL hb) hc) (λb o _ _ hc e n=>u.any e n hc) (λb o hc e n=>u.free b o e n hc) (λb o hc e=>u.there b o e hc) u.tups u.frzs u.tbls (λm' hm=>by
  obtain⟨o',es',ep',ho',r'⟩:=hm
  rw[ho] at ho';cases ho'
  exact⟨_,es',ep',hL,r'⟩) hok hg
def Inv.turned {t':Nat} {it:Addr} (I:Inv X pins σ H s) (k:∀ b o,b ≠ it->s.heap.get? b=some o->h'.get? b=some o) (hn:H it=none) (hL:it ≠ X.env.locals)
  (h1:it ∈ X.ex\/X.s₀.heap.objs.size<=it) (h2:∀ x c,X.env.cells.lookup x=some c->c ≠ it) (h3:∀ p ∈ X.pn++pins,p.1 ≠ it):Inv X pins σ H { s with heap:=h',toks:=t' }:=by
 have nit:∀ b u,H b=some u->b ≠ it:=λb u e z=>by rw[z,hn] at e;cases e
 refine I.step (g':=s.gens) (d':=s.drawn) (ch:=[it]) (λb hb=>?_) (λb o _ _ hc e _=>k b o (λz=>hc (by simp[z])) e) (λb o _ _ hc e _=>⟨o.slots,k b o (λz=>hc (by simp[z])) e⟩) (λ_ _ _ _ n=>n)
  (λb o hc e=>⟨o,k b o (λz=>hc (by simp[z])) e⟩) (λ_ _ e=>e) (λ_ _ _ e=>e) (λb ps e=>⟨#[],by rw[e];simp⟩) (λm hm=>?_) (λb u e=>?_) I.bare
 ·have e:b=it:=by simpa using hb
  subst e
  exact⟨h1,hL,h2,h3⟩
 ·obtain⟨o,es,ep,ho,r⟩:=hm
  exact⟨o,es,ep,k _ o (Aw hL) ho,r⟩
 ·refine (I.hok b u e).stay (λc v hc q=>k c v ?_ q) (λ_ q=>q) λ_ _ q=>q
  rcases hc with z | z
  ·rw[z];exact nit b u e
  ·exact nit c _ z
def Inv.tok (I:Inv X pins σ H s) (t:Nat):Inv X pins σ H { s with toks:=t }:=I.un (h':=s.heap) (t':=t) Un.refl I.hok
def Inv.kept {t':Nat} (I:Inv X pins σ H s) (k:∀ b u,s.heap.get? b=some u->h'.get? b=some u):Inv X pins σ H { s with heap:=h',toks:=t' }:=I.un (Un.kept k) (I.hok.kept k)
def Inv.laid {a:Addr} {o:HO} {t':Nat} (I:Inv X pins σ H s) (k:∀ b u,s.heap.get? b=some u->h'.get? b=some u) (hp:s.heap.objs.size<=a) (new:qO X.prog X.w (upd H a o) h' a o) :
  Inv X pins σ (upd H a o) { s with heap:=h',toks:=t' }:=I.un (Un.laid k hp (I.hok.fresh hp)) (I.hok.laid k hp new)
def Inv.write {x e:Addr} {o:HO} {t':Nat} (I:Inv X pins σ H s) (mu:Mut (H x)) (he:e=x\/H e=some (.own x)) (k:∀ b u,b ≠ e->s.heap.get? b=some u->h'.get? b=some u) (heo:∃ u,h'.get? e=some u)
  (new:qO X.prog X.w (upd H x o) h' x o):Inv X pins σ (upd H x o) { s with heap:=h',toks:=t' }:=I.un (Un.write mu he k heo) (I.hok.write mu he k heo new)
def Inv.pins_of {pins':List (Addr×Obj)} (I:Inv X pins σ H s) (h:∀ p ∈ pins',s.heap.get? p.1=some p.2/\H p.1=none/\p.1 ≠ X.env.locals/\p.1 ∉ X.fs/\∀ v,p.2.data ≠ .cell v):Inv X pins' σ H s:=
 ⟨I.ok,I.os,I.bare,I.base,I.loc,I.cell,I.free,I.freeC,λp hp=>(AV.mp hp).elim (λz=>I.pin p (Ao _ z)) (h p),I.hok,I.len⟩
def YC {N:List Str} (hN:N.Nodup) {i j:Nat} {x:Str} (a:N[i]? = some x) (b:N[j]? = some x):i=j:=by
 obtain⟨h1,e1⟩:=AF.mp a
 obtain⟨h2,e2⟩:=AF.mp b
 exact (List.getElem_inj hN).mp (e1.trans e2.symm)
def WS {M:Model} {A:Around} {E:Value->Shared->Prop} {i:Nat} {x:Str} {v:V} {u:Value} {Q:Unit->Shared->Prop} (I:Inv X pins σ H s) (hN:X.N.Nodup) (hi:X.N[i]? = some x) (hx:Loc X.env.scope x) (r:RelV v u)
  (h:∀ s',Inv X pins (σ.set i (some v)) H s'->(∃ a,Heap.SameBut a s.heap s'.heap/\(a=X.env.locals\/X.env.cells.lookup x=some a))->Q () s') (hf:X.fn x=true\/X.env.scope.names.lookup x=some .local:=by first | exact .inl rfl | exact .inr rfl | assumption):wpAny M A (storeName X.env x u) Q E s:=by
 obtain⟨m,hn,hl⟩:=id I.loc
 have hcls:(X.env.scope.kind == .class || (X.env.scope.kind == .module && X.env.locals != X.env.globals))=false:=by rw[I.ok.kind];rfl
 have hiσ:i < σ.length:=by rw[I.len];exact (AF.mp hi).1
 have cne:=I.cne
 have tracked:∀ {a:Addr} {h':Heap},(∃ o,s.heap.get? a=some o/\H a=none)->Heap.SameBut a s.heap h'->HOk X.prog X.w H h':=λ{a h'} ha hs b ob e=>by
  obtain⟨_,_,hfree⟩:=ha
  refine (I.hok b ob e).stay (λc w' hc q=>(hs.2 c ?_).trans q) (λ_ q=>q) λ_ _ q=>q
  rintro rfl
  rcases hc with rfl | hc
  ·rw[hfree] at e;cases e
  ·rw[hfree] at hc;cases hc
 rcases hx with hk | hk
 ·refine wpAny_storeName_local hk hn (λh' hn' hs=>?_) hcls
  obtain⟨oL,_,_,hoL,_⟩:=id hn
  refine h _ ⟨I.ok,I.os,I.bare,⟨λb o e n hb hx=>?_,λb o e n hb hx=>?_,I.base.free,λb o e hx=>?_,I.base.tups,I.base.frzs,I.base.tbls⟩,⟨_,hn',λj y v' e1 e2 e3=>?_⟩,λy c e=>?_,I.free,I.freeC,λp hp=>?_,tracked ⟨oL,hoL,I.free⟩ hs,by simpa using I.len⟩ ⟨_,hs,.inl rfl⟩
  ·exact (hs.2 b (AU (Ac (AO e) I.ok.above))).trans (I.base.keep b o e n hb hx)
  ·obtain⟨sl,e1⟩:=I.base.slot b o e n hb hx
   exact⟨sl,(hs.2 b (AU (Ac (AO e) I.ok.above))).trans e1⟩
  ·obtain⟨o',e1⟩:=I.base.there b o e hx
   exact⟨o',(hs.2 b (AU (Ac (AO e) I.ok.above))).trans e1⟩
  ·by_cases hj:j=i
   ·subst hj
    rw[hi] at e1;cases e1
    rw[List.getElem?_set_self hiσ] at e2
    cases e2
    exact⟨u,r,.inl ⟨hk,by simp⟩⟩
   ·rw[List.getElem?_set_ne (Aw hj)] at e2
    obtain⟨u',r',q⟩:=hl j y v' e1 e2 e3
    refine⟨u',r',?_⟩
    rcases q with ⟨k,e⟩ | ⟨k,c,e,z⟩
    ·refine .inl ⟨k,?_⟩
     have:y ≠ x:=λe=>hj (YC hN e1 (e ▸ hi))
     simp[this,e]
    ·exact .inr ⟨k,c,e,z.sameBut hs (cne y c e)⟩
  ·obtain⟨w',z⟩:=I.cell y c e
   exact⟨w',z.sameBut hs (cne y c e)⟩
  ·obtain⟨e,n,ne,nf,d⟩:=I.pin p hp
   exact⟨(hs.2 p.1 ne).trans e,n,ne,nf,d⟩
 ·have hfn:X.fn x=true:=by
   rcases hf with z | z
   ·exact z
   ·rw[z] at hk;cases hk
  obtain⟨c,hc⟩:=I.ok.has x (.inl hk)
  obtain⟨w',z⟩:=I.cell x c hc
  refine wpAny_storeName_cell I.ok.kind hk hc z (λh' hc' hs=>?_)
  obtain⟨oc,hoc,hocd⟩:=id z
  refine h { s with heap:=h' } ⟨I.ok,I.os,I.bare,⟨λb o e n hb hx=>?_,λb o e n hb hx=>?_,I.base.free,λb o e hx=>?_,I.base.tups,I.base.frzs,I.base.tbls⟩,⟨m,hn.sameBut hs (Aw (cne x c hc)),λj y v' e1 e2 e3=>?_⟩,λy c' e=>?_,I.free,I.freeC,λp hp=>?_,tracked ⟨oc,hoc,I.freeC x c hc⟩ hs,by simpa using I.len⟩ ⟨c,hs,.inr hc⟩
  ·exact (hs.2 b (AU (Ac (AO e) (I.ok.cab x c hfn hc)))).trans (I.base.keep b o e n hb hx)
  ·obtain⟨sl,e1⟩:=I.base.slot b o e n hb hx
   exact⟨sl,(hs.2 b (AU (Ac (AO e) (I.ok.cab x c hfn hc)))).trans e1⟩
  ·obtain⟨o',e1⟩:=I.base.there b o e hx
   exact⟨o',(hs.2 b (AU (Ac (AO e) (I.ok.cab x c hfn hc)))).trans e1⟩
  ·by_cases hj:j=i
   ·subst hj
    rw[hi] at e1;cases e1
    rw[List.getElem?_set_self hiσ] at e2
    cases e2
    exact⟨u,r,.inr ⟨.inl hk,c,hc,hc'⟩⟩
   ·rw[List.getElem?_set_ne (Aw hj)] at e2
    obtain⟨u',r',q⟩:=hl j y v' e1 e2 e3
    refine⟨u',r',?_⟩
    rcases q with q | ⟨k,c',e,z'⟩
    ·exact .inl q
    ·refine .inr ⟨k,c',e,z'.sameBut hs ?_⟩
     rintro rfl
     exact hj (YC hN e1 (I.ok.inj _ _ _ e hc ▸ hi))
  ·by_cases hcc:c'=c
   ·subst hcc;exact⟨_,hc'⟩
   ·obtain⟨w2,z2⟩:=I.cell y c' e
    exact⟨w2,z2.sameBut hs hcc⟩
  ·obtain⟨e,n,ne,nf,d⟩:=I.pin p hp
   refine⟨(hs.2 p.1 ?_).trans e,n,ne,nf,d⟩
   intro q
   rw[q,hoc] at e
   have q':oc=p.2:=AR e
   exact d w' (by rw[<- q'];exact hocd)
def YD {M:Model} {A:Around} {E:Value->Shared->Prop} {i:Nat} {x:Str} {v:V} {u:Value} {Q:Unit->Shared->Prop} (I:Inv X pins σ H s) (hN:X.N.Nodup) (hi:X.N[i]? = some x) (hx:Loc X.env.scope x) (r:RelV v u)
  (h:∀ s',Inv X pins (σ.set i (some v)) H s'->Q () s') (hf:X.fn x=true\/X.env.scope.names.lookup x=some .local:=by first | exact .inl rfl | exact .inr rfl | assumption):wpAny M A (storeName X.env x u) Q E s:=
 WS I hN hi hx r (λs' I' _=>h s' I') hf
def Inv.call' {s':Shared} {ch:List Addr} (I:Inv X pins σ H s) (ho:s'.os=s.os) (u:Un (frs X.stack) ch H H' s.heap s'.heap) (hok:HOk X.prog X.w H' s'.heap) (hg:AllBare s'.gens)
  (hch:∀ b ∈ ch,(b ∈ X.ex\/X.s₀.heap.objs.size<=b)/\b ≠ X.env.locals/\(∀ x c,X.env.cells.lookup x=some c->c ≠ b)/\∀ p ∈ X.pn++pins,p.1 ≠ b):Inv X pins σ H' s':=by
 obtain⟨h',g',d',t',o'⟩:=s'
 have e:o'=s.os:=ho
 subst e
 exact I.call (g':=g') (t':=t') (d':=d') u hok hg hch
end
abbrev XK:=Value->Option Addr->Hp->Prop
abbrev St:=List (Option V)
abbrev VK:=V->Hp->Prop
abbrev TE:=St->Hp->VK->Prop
abbrev TT:=St->Hp->(Bool->Hp->Prop)->Prop
abbrev TA:=St->Hp->(List V->Hp->Prop)->Prop
structure Xc where
 nx:St->Hp->Prop
 rt:VK
 bk:St->Hp->Prop:=λ_ _=>False
 ct:St->Hp->Prop:=λ_ _=>False
abbrev TS:=Xc->St->Hp->Prop
def EP (X:Cx) (pins:List (Addr×Obj)) (σ:St) (Q:VK) (u:Value) (s':Shared):Prop:=∃ v H',Inv X pins σ H' s'/\RelV v u/\Q v H'
def TP (X:Cx) (pins:List (Addr×Obj)) (σ:St) (Q:Bool->Hp->Prop) (b:Bool) (s':Shared):Prop:=∃ H',Inv X pins σ H' s'/\Q b H'
def AP (X:Cx) (pins:List (Addr×Obj)) (σ:St) (Q:List V->Hp->Prop) (us:List Value) (s':Shared):Prop:=∃ vs H',Inv X pins σ H' s'/\qF vs us/\Q vs H'
def SP (X:Cx) (pins:List (Addr×Obj)) (D:Xc) (f:Flow) (s':Shared):Prop:=
 match f with
 | .next=>∃ σ' H',Inv X pins σ' H' s'/\D.nx σ' H'
 | .brk=>∃ σ' H',Inv X pins σ' H' s'/\D.bk σ' H'
 | .cont=>∃ σ' H',Inv X pins σ' H' s'/\D.ct σ' H'
 | .ret u=>∃ v σ' H',Inv X pins σ' H' s'/\RelV v u/\D.rt v H'
def PE (X:Cx) (e:Expr) (t:TE):Prop:=
 ∀ (pins:List (Addr×Obj)) (s:Shared) (σ:St) (H:Hp) (Q:VK),Inv X pins σ H s->t σ H Q->wpAny (model X.prog X.w) X.A (eval e X.env) (EP X pins σ Q) X.xe s
def PT (X:Cx) (e:Expr) (t:TT):Prop:=
 ∀ (pins:List (Addr×Obj)) (s:Shared) (σ:St) (H:Hp) (Q:Bool->Hp->Prop),Inv X pins σ H s->t σ H Q->wpAny (model X.prog X.w) X.A (isTrue e X.env (eval e X.env)) (TP X pins σ Q) X.xe s
def PW (X:Cx) (e:Expr) (t:TT):Prop:=
 ∀ (whole:Sem Value) (pins:List (Addr×Obj)) (s:Shared) (σ:St) (H:Hp) (Q:Bool->Hp->Prop),Inv X pins σ H s->t σ H Q->wpAny (model X.prog X.w) X.A (isTrue e X.env whole) (TP X pins σ Q) X.xe s
def PW.pt {X:Cx} {e:Expr} {t:TT} (h:PW X e t):PT X e t:=h _
def PA (X:Cx) (es:List Expr) (t:TA):Prop:=
 ∀ (pos:Pos) (pins:List (Addr×Obj)) (s:Shared) (σ:St) (H:Hp) (Q:List V->Hp->Prop),Inv X pins σ H s->t σ H Q->wpAny (model X.prog X.w) X.A (spliced (backTo pos (starEach es X.env))) (AP X pins σ Q) X.xe s
def PS (X:Cx) (st:Stmt) (t:TS):Prop:=
 ∀ (pins:List (Addr×Obj)) (s:Shared) (σ:St) (H:Hp) (D:Xc),Inv X pins σ H s->t D σ H->wpAny (model X.prog X.w) X.A (exec st X.env) (SP X pins D) X.xe s
def PSs (X:Cx) (st:List Stmt) (t:TS):Prop:=
 ∀ (pins:List (Addr×Obj)) (s:Shared) (σ:St) (H:Hp) (D:Xc),Inv X pins σ H s->t D σ H->wpAny (model X.prog X.w) X.A (execs st X.env) (SP X pins D) X.xe s
def thn {α:Type} {t:Sem α} {Q Q':α->Shared->Prop} {M:Model} {A:Around} {E:Value->Shared->Prop} {s:Shared} (h:wpAny M A t Q E s) (hQ:∀ a s,Q a s->Q' a s):wpAny M A t Q' E s:=DH h hQ λ_ _ x=>x
section
variable {X:Cx}
def tVar (i:Nat):TE:=λσ H Q=>∃ v,σ[i]? = some (some v)/\Q v H
def tC (v:V):TE:=λ_ H Q=>Q v H
def pe_var {i:Nat} {x:Str} {pos:Pos} (hN:X.N[i]? = some x) (hv:Vis X.env.scope x) (hd:(x == ("__debug__" : Str))=false:=by decide) (hcd:(x == ("__classdict__" : Str))=false:=by decide):PE X (.Name x pos) (tVar i):=by
 intro pins s σ H Q I h
 obtain⟨v,e,h⟩:=h
 obtain⟨m,hn,hl⟩:=I.loc
 obtain⟨u,r,l⟩:=hl i x v hN e hv
 have fin:EP X pins σ Q u s:=⟨v,H,I,r,h⟩
 rcases l with ⟨hk,hm⟩ | ⟨hk,c,hc,hcell⟩
 ·exact wpAny_Name (wpAny_loadName_local I.ok.kind hk hn hm fin) hd
 ·rcases hk with hk | hk
  ·exact wpAny_Name (wpAny_loadName_cell I.ok.kind hk hc hcell fin) hd
  ·exact wpAny_Name (wpAny_loadName_free I.ok.kind hk hc hcell fin hcd) hd
def zk {i j pos}:PE X (.Constant (.int i) j pos) (tC (.int i)):=λ_ _ _ H _ I h=>wpAny_Constant_int ⟨.int i,H,I.tok _,⟨_,rfl⟩,h⟩
def yQ {b j pos}:PE X (.Constant (.bool b) j pos) (tC (.bl b)):=λ_ _ _ H _ I h=>Constant_bool ⟨.bl b,H,I,rfl,h⟩
def wA {j pos}:PE X (.Constant .none j pos) (tC .non):=λ_ _ _ H _ I h=>Constant_none ⟨.non,H,I,rfl,h⟩
def jX {x j pos}:PE X (.Constant (.str x) j pos) (tC (.str x)):=λ_ _ _ H _ I h=>Calls.Constant_str ⟨.str x,H,I.tok _,⟨_,rfl⟩,h⟩
def Gl (X:Cx) (x:Str):Prop:=X.env.kindOf x=some .globalImplicit
def Xh {E:Value->Shared->Prop} {pins:List (Addr×Obj)} {s:Shared} {σ:St} {H:Hp} {x:Str} {u:Value} {pos:Pos} {Q:Value->Shared->Prop} (I:Inv X pins σ H s) (hg:Gl X x) (hm:X.mg x=some u) (h:Q u s)
  (hd:(x == ("__debug__" : Str))=false:=by decide):wpAny (model X.prog X.w) X.A (eval (.Name x pos) X.env) Q E s:=
 Calls.Name_function_global I.ok.kind hg (Calls.loadGlobal_global (by rw[I.ok.glob];exact I.mod.glob.keeps I.bk) hm h) hd
def Zx {E:Value->Shared->Prop} {pins:List (Addr×Obj)} {s:Shared} {σ:St} {H:Hp} {x:Str} {u:Value} {pos:Pos} {Q:Value->Shared->Prop} (I:Inv X pins σ H s) (hg:Gl X x) (hm:X.mg x=none) (hv:bootBuiltins x=some u) (h:Q u s)
  (hn:x ≠ "__name__":=by decide) (hd:(x == ("__debug__" : Str))=false:=by decide):wpAny (model X.prog X.w) X.A (eval (.Name x pos) X.env) Q E s:=by
 obtain⟨mb,h1,h2⟩:=I.mod.blt
 exact Calls.Name_function_global I.ok.kind hg (Calls.loadGlobal_builtin (by rw[I.ok.glob];exact I.mod.glob.keeps I.bk) hm (by rw[I.ok.blt];exact h1.keeps I.bk) ((h2 x hn).trans hv) h) hd
def pe_glob {x:Str} {v:V} {u:Value} {pos:Pos} (hg:Gl X x) (hm:X.mg x=some u) (r:RelV v u) (hd:(x == ("__debug__" : Str))=false:=by decide):PE X (.Name x pos) (tC v):=
 λ_ _ _ H _ I h=>Xh I hg hm ⟨v,H,I,r,h⟩ hd
def yR {x:Str} {v:V} {u:Value} {pos:Pos} (hg:Gl X x) (hm:X.mg x=none) (hv:bootBuiltins x=some u) (r:RelV v u) (hn:x ≠ "__name__":=by decide) (hd:(x == ("__debug__" : Str))=false:=by decide):PE X (.Name x pos) (tC v):=
 λ_ _ _ H _ I h=>Zx I hg hm hv ⟨v,H,I,r,h⟩ hn hd
variable {a b:Expr} {ta tb:TE} {pos:Pos}
def tB (t:TE):TT:=λσ H Q=>t σ H λx H1=>∃ c,x=.bl c/\Q c H1
def Zy {e:Expr} {t:TE} (h:PE X e t) (he:∀ whole,isTrue e X.env whole=(do let v <- whole;standAt e.pos;holding [v] (truthy v)):=by intro _;rfl):PT X e (tB t):=by
 intro pins s σ H Q I hw
 refine isTrue_plain (thn (h pins s σ H _ I hw) λv s1 ⟨x,H1,I1,r1,q1⟩=>?_) (he _)
 obtain⟨d,rfl,q⟩:=q1
 cases r1
 exact B9 ⟨H1,I1,q⟩
variable {tA tB':TT} {rest:List Expr}
def tAnd (t u:TT):TT:=λσ H Q=>t σ H λc H1=>if c=true then u σ H1 Q else Q false H1
def tOr (t u:TT):TT:=λσ H Q=>t σ H λc H1=>if c=true then Q true H1 else u σ H1 Q
def tNot (t:TT):TT:=λσ H Q=>t σ H λc H1=>Q (!c) H1
def Jr (ha:PT X a tA):PW X (.BoolOp .And [a] pos) tA:=by
 intro wh pins s σ H Q I h
 refine isTrue_and (thn (ha pins s σ H Q I h) λc s1 e=>?_)
 cases c with
 | true=>exact isTrue_and_nil e
 | false=>exact e
def pw_or1 (ha:PT X a tA):PW X (.BoolOp .Or [a] pos) tA:=by
 intro wh pins s σ H Q I h
 refine isTrue_or (thn (ha pins s σ H Q I h) λc s1 e=>?_)
 cases c with
 | false=>exact isTrue_or_nil e
 | true=>exact e
def WT (ha:PT X a tA) (hb:PW X (.BoolOp .And (b :: rest) pos) tB'):PW X (.BoolOp .And (a :: b :: rest) pos) (tAnd tA tB'):=by
 intro wh pins s σ H Q I h
 refine isTrue_and (thn (ha pins s σ H _ I h) λc s1 ⟨H1,I1,q1⟩=>?_)
 cases c with
 | true=>exact hb wh pins s1 σ H1 Q I1 q1
 | false=>exact⟨H1,I1,q1⟩
def pw_or (ha:PT X a tA) (hb:PW X (.BoolOp .Or (b :: rest) pos) tB'):PW X (.BoolOp .Or (a :: b :: rest) pos) (tOr tA tB'):=by
 intro wh pins s σ H Q I h
 refine isTrue_or (thn (ha pins s σ H _ I h) λc s1 ⟨H1,I1,q1⟩=>?_)
 cases c with
 | true=>exact⟨H1,I1,q1⟩
 | false=>exact hb wh pins s1 σ H1 Q I1 q1
def WU (ha:PT X a tA):PT X (.UnaryOp .Not a pos) (tNot tA):=by
 intro pins s σ H Q I h
 exact isTrue_not (ha pins s σ H (λc H1=>Q (!c) H1) I h)
def tAndV (ta tb:TE):TE:=λσ H Q=>ta σ H λx H1=>∃ c,x=.bl c/\if c=true then tb σ H1 Q else Q (.bl false) H1
def tOrV (ta tb:TE):TE:=λσ H Q=>ta σ H λx H1=>∃ c,x=.bl c/\if c=true then Q (.bl true) H1 else tb σ H1 Q
def tNotV (ta:TE):TE:=λσ H Q=>ta σ H λx H1=>∃ c,x=.bl c/\Q (.bl (!c)) H1
def Xi {op} {t:TE} (h:PE X a t):PE X (.BoolOp op [a] pos) t:=λpins s σ H Q I hw=>BoolOp_one (h pins s σ H Q I hw)
def Xj (ha:PE X a ta) (hb:PE X (.BoolOp .And (b :: rest) pos) tb):PE X (.BoolOp .And (a :: b :: rest) pos) (tAndV ta tb):=by
 intro pins s σ H Q I h
 refine BoolOp_and (thn (ha pins s σ H _ I h) λv s1 ⟨x,H1,I1,r1,q1⟩=>?_)
 obtain⟨c,rfl,q1⟩:=q1
 cases r1
 refine B9 ?_
 cases c with
 | true=>exact hb pins s1 σ H1 Q I1 q1
 | false=>exact⟨.bl false,H1,I1,O,q1⟩
def pe_or (ha:PE X a ta) (hb:PE X (.BoolOp .Or (b :: rest) pos) tb):PE X (.BoolOp .Or (a :: b :: rest) pos) (tOrV ta tb):=by
 intro pins s σ H Q I h
 refine BoolOp_or (thn (ha pins s σ H _ I h) λv s1 ⟨x,H1,I1,r1,q1⟩=>?_)
 obtain⟨c,rfl,q1⟩:=q1
 cases r1
 refine B9 ?_
 cases c with
 | false=>exact hb pins s1 σ H1 Q I1 q1
 | true=>exact⟨.bl true,H1,I1,O,q1⟩
def Xk (ha:PE X a ta):PE X (.UnaryOp .Not a pos) (tNotV ta):=by
 intro pins s σ H Q I h
 refine UnaryOp_ (thn (ha pins s σ H _ I h) λv s1 ⟨x,H1,I1,r1,q1⟩=>?_)
 obtain⟨c,rfl,q1⟩:=q1
 cases r1
 exact not_of (B9 ⟨.bl (!c),H1,I1,O,q1⟩)
def tIf (t:TT) (ta tb:TE):TE:=λσ H Q=>t σ H λc H1=>if c=true then ta σ H1 Q else tb σ H1 Q
def YE {c:Expr} (hc:PT X c tA) (ha:PE X a ta) (hb:PE X b tb):PE X (.IfExp c a b pos) (tIf tA ta tb):=by
 intro pins s σ H Q I h
 refine wpAny_IfExp (thn (hc pins s σ H _ I h) λd s1 ⟨H1,I1,q1⟩=>?_)
 cases d with
 | true=>exact ha pins s1 σ H1 Q I1 q1
 | false=>exact hb pins s1 σ H1 Q I1 q1
end
def SqL (K:Fs) (H:Hp) (a:Addr) (xs:List V):Prop:=
 Rd H a (.lst xs) \/
  ∃ (o:Obj) (its:Array Value) (n:Nat),K.lookup a=some o/\o.cls=.type "list" /\ o.dict=none/\o.data=.seq its n/\its.size<=sizeLine/\qF xs its.toList
def SqT (K:Fs) (H:Hp) (a:Addr) (xs:List V):Prop:=
 Rd H a (.tup xs) \/
  ∃ (o:Obj) (its:Array Value) (n:Nat),K.lookup a=some o/\o.cls=.type "tuple" /\ o.data=.seq its n/\its.size<=sizeLine/\qF xs its.toList
def absV:Value->Option V
 | .none=>some .non
 | .bool b=>some (.bl b)
 | .int i _=>some (.int i)
 | .str x _=>some (.str x)
 | .bytes b _=>some (.byt b)
 | .float b _=>some (.flt b)
 | .ref a=>some (.ref a)
 | .type n=>some (.ty n)
 | _=>none
def RelV.abs {x:V} {u:Value} (r:RelV x u):absV u=some x:=by
 cases x with
 | non=>cases r;rfl
 | bl _=>cases r;rfl
 | int _=>obtain⟨t,rfl⟩:=r;rfl
 | str _=>obtain⟨t,rfl⟩:=r;rfl
 | byt _=>obtain⟨t,rfl⟩:=r;rfl
 | flt _=>obtain⟨t,rfl⟩:=r;rfl
 | ref _=>cases r;rfl
 | ty _=>cases r;rfl
def RelV.inj {x y:V} {u:Value} (r:RelV x u) (q:RelV y u):x=y:=AR (r.abs.symm.trans q.abs)
theorem qF.inj:∀ {xs ys:List V} {us:List Value},qF xs us->qF ys us->xs=ys
 | _,_,_,.nil,.nil=>rfl
 | _,_,_,.cons r t,.cons r' t'=>by rw[r.inj r',qF.inj t t']
section
variable {X:Cx} {pins:List (Addr × Obj)} {σ:St} {H:Hp} {s:Shared} {a:Addr} {xs ys:List V}
def SqL.of {K:Fs} (h:H a=some (.lst xs)):SqL K H a xs:=.inl (.inl h)
def SqT.of {K:Fs} (h:H a=some (.tup xs)):SqT K H a xs:=.inl (.inl h)
def Inv.list (I:Inv X pins σ H s) (h:SqL X.K H a xs):∃ its:List Value,qF xs its/\PlainL s.heap a its.toArray/\xs.length<=sizeLine:=by
 rcases h with h | ⟨o,its,n,hk,hc,hd,hs,hz,r⟩
 ·obtain⟨z,its,n,r,e⟩:=h.ok I.hok
  exact⟨its,r,⟨_,n,e,O,O,O⟩,z⟩
 ·refine⟨its.toList,r,⟨o,n,I.kIn a o hk,hc,hd,by simpa using hs⟩,?_⟩
  have e:=r.length
  simp only[Array.length_toList] at e
  lia
def Inv.tuple (I:Inv X pins σ H s) (h:SqT X.K H a xs):∃ its:List Value,qF xs its/\IsTup s.heap a its.toArray/\xs.length<=sizeLine:=by
 rcases h with h | ⟨o,its,n,hk,hc,hs,hz,r⟩
 ·obtain⟨z,its,r,p⟩:=h.ok I.hok
  exact⟨its,r,p.isTup,z⟩
 ·refine⟨its.toList,r,⟨o,I.kIn a o hk,hc,n,by simpa using hs⟩,?_⟩
  have e:=r.length
  simp only[Array.length_toList] at e
  lia
def Inv.list_inj (I:Inv X pins σ H s) (h:SqL X.K H a xs) (h':SqL X.K H a ys):xs=ys:=by
 obtain⟨its,r,⟨o,n,e,_,_,d⟩,_⟩:=I.list h
 obtain⟨its',r',⟨o',n',e',_,_,d'⟩,_⟩:=I.list h'
 rw[e] at e';cases e'
 rw[d] at d'
 injection d' with d1 _
 have:its=its':=by simpa using BQ Array.toList d1
 subst this
 exact r.inj r'
def Inv.tuple_inj (I:Inv X pins σ H s) (h:SqT X.K H a xs) (h':SqT X.K H a ys):xs=ys:=by
 obtain⟨its,r,⟨o,e,_,n,d⟩,_⟩:=I.tuple h
 obtain⟨its',r',⟨o',e',_,n',d'⟩,_⟩:=I.tuple h'
 rw[e] at e';cases e'
 rw[d] at d'
 injection d' with d1 _
 have:its=its':=by simpa using BQ Array.toList d1
 subst this
 exact r.inj r'
end
abbrev Cx.wish (X:Cx) (E:Value->Shared->Prop):Cx:={ X with xe:=E }
abbrev Cx.nox (X:Cx):Cx:=X.wish λ_ _=>False
def Cx.Ok.wish {X:Cx} (ok:X.Ok) (E:Value->Shared->Prop):(X.wish E).Ok:=
 ⟨ok.mod,ok.kind,ok.glob,ok.blt,ok.above,ok.inj,ok.has,ok.cab,ok.hd,ok.frames,ok.stk,ok.exf,ok.bs,ok.bsz,ok.noex,ok.exfs,ok.funs,ok.frf⟩
def Cx.Ok.unwish {X:Cx} {E:Value->Shared->Prop} (ok:(X.wish E).Ok):X.Ok:=
 ⟨ok.mod,ok.kind,ok.glob,ok.blt,ok.above,ok.inj,ok.has,ok.cab,ok.hd,ok.frames,ok.stk,ok.exf,ok.bs,ok.bsz,ok.noex,ok.exfs,ok.funs,ok.frf⟩
section
variable {X:Cx} {pins:List (Addr × Obj)} {σ:St} {H:Hp} {s:Shared} {E:Value->Shared->Prop}
def Inv.wish (I:Inv X pins σ H s) (E:Value->Shared->Prop):Inv (X.wish E) pins σ H s:=⟨I.ok.wish E,I.os,I.bare,I.base,I.loc,I.cell,I.free,I.freeC,I.pin,I.hok,I.len⟩
def Inv.unwish (I:Inv (X.wish E) pins σ H s):Inv X pins σ H s:=⟨I.ok.unwish,I.os,I.bare,I.base,I.loc,I.cell,I.free,I.freeC,I.pin,I.hok,I.len⟩
def SP.unwish {D:Xc} {f:Flow} {s':Shared} (h:SP (X.wish E) pins D f s'):SP X pins D f s':=by
 cases f with
 | next=>obtain⟨σ',H',I,q⟩:=h;exact⟨σ',H',I.unwish,q⟩
 | brk=>obtain⟨σ',H',I,q⟩:=h;exact⟨σ',H',I.unwish,q⟩
 | cont=>obtain⟨σ',H',I,q⟩:=h;exact⟨σ',H',I.unwish,q⟩
 | ret u=>obtain⟨v,σ',H',I,r,q⟩:=h;exact⟨v,σ',H',I.unwish,r,q⟩
def PSs.nox {st:List Stmt} {t:TS} (h:PSs X.nox st t):PSs X st t:=λpins s σ H D I hw=>
 DH (h pins s σ H D (I.wish _) hw) (λ_ _ q=>q.unwish) λ_ _ z=>False.elim z
end
section
variable {X:Cx} {st:Stmt} {rest:List Stmt} {t u:TS} {e:Expr} {te:TE} {pos:Pos}
def tNext:TS:=λD σ H=>D.nx σ H
def tSeq (t u:TS):TS:=λD σ H=>t { D with nx:=u D } σ H
def zU:PSs X [] tNext:=λ_ _ σ H _ I h=>D6 ⟨σ,H,I,h⟩
def zh (h1:PS X st t) (h2:PSs X rest u):PSs X (st :: rest) (tSeq t u):=by
 intro pins s σ H D I h
 refine wpAny_execs_cons (thn (h1 pins s σ H { D with nx:=u D } I h) λf s1 q=>?_)
 cases f with
 | next=>
  obtain⟨σ',H',I',q⟩:=q
  exact h2 pins s1 σ' H' D I' q
 | ret v=>exact q
 | brk=>exact q
 | cont=>exact q
def zo (h1:PS X st t):PSs X [st] t:=by
 intro pins s σ H D I h
 refine wpAny_execs_cons (thn (h1 pins s σ H D I h) λf s1 q=>?_)
 cases f with
 | next=>exact D6 q
 | ret v=>exact q
 | brk=>exact q
 | cont=>exact q
def Inv.quiet {pins:List (Addr×Obj)} {σ:St} {H:Hp} {s:Shared} (I:Inv X pins σ H s):interactive X.env=false:=by simp[interactive,I.ok.kind]
def tDrop (te:TE):TS:=λD σ H=>te σ H λ_ H1=>D.nx σ H1
def qf (he:PE X e te) (hs:swapsWith e none pos.line X.env=pure false:=by rfl):PS X (.Expr e pos) (tDrop te):=by
 intro pins s σ H D I h
 exact wpAny_Expr_any (thn (he pins s σ H _ I h) λv s1 ⟨x,H1,I1,r1,q1⟩=>⟨σ,H1,I1,q1⟩) I.quiet hs
def tRet (te:TE):TS:=λD σ H=>te σ H D.rt
def zF (he:PE X e te):PS X (.Return (some e) pos) (tRet te):=by
 intro pins s σ H D I h
 exact wpAny_Return_some (thn (he pins s σ H _ I h) λv s1 ⟨x,H1,I1,r1,q1⟩=>⟨x,σ,H1,I1,r1,q1⟩)
def tIfS (c:TT) (t u:TS):TS:=λD σ H=>c σ H λb H1=>if b=true then t D σ H1 else u D σ H1
def qX {c:Expr} {a b:List Stmt} {tc:TT} (hc:PT X c tc) (ha:PSs X a t) (hb:PSs X b u):PS X (.If c a b pos) (tIfS tc t u):=by
 intro pins s σ H D I h
 refine wpAny_If (thn (hc pins s σ H _ I h) λd s1 ⟨H1,I1,q1⟩=>?_)
 cases d with
 | true=>exact ha pins s1 σ H1 D I1 q1
 | false=>exact hb pins s1 σ H1 D I1 q1
def tNever:TS:=λ_ _ _=>False
def Jg:PS X st tNever:=λ_ _ _ _ _ _ h=>h.elim
end
abbrev TG:=V->St->Hp->(St->Hp->Prop)->Prop
abbrev TGs:=List V->St->Hp->(St->Hp->Prop)->Prop
def PG (X:Cx) (target:Expr) (t:TG):Prop:=
 ∀ (pins:List (Addr×Obj)) (s:Shared) (σ:St) (H:Hp) (v:V) (u:Value) (Q:St->Hp->Prop),Inv X pins σ H s->RelV v u->t v σ H Q ->
  wpAny (model X.prog X.w) X.A (assign target X.env u) (λ_ s'=>∃ σ' H',Inv X pins σ' H' s'/\Q σ' H') X.xe s
def PGs (X:Cx) (ts:List Expr) (t:TGs):Prop:=
 ∀ (pins:List (Addr×Obj)) (s:Shared) (σ:St) (H:Hp) (vs:List V) (us:List Value) (Q:St->Hp->Prop),Inv X pins σ H s->qF vs us->t vs σ H Q ->
  wpAny (model X.prog X.w) X.A (assignInOrder ((assignEach ts X.env).map (·.2)) us) (λ_ s'=>∃ σ' H',Inv X pins σ' H' s'/\Q σ' H') X.xe s
section
variable {X:Cx} {pos:Pos}
def jh (i:Nat):TG:=λv σ H Q=>Q (σ.set i (some v)) H
theorem Zg {i:Nat} {x:Str} (hN:X.N.Nodup) (hi:X.N[i]? = some x) (hx:Loc X.env.scope x) (hf:X.fn x=true\/X.env.scope.names.lookup x=some .local:=by first | exact .inl rfl | exact .inr rfl | assumption):PG X (.Name x pos) (jh i):=by
 intro pins s σ H v u Q I r h
 exact wpAny_assign_Name (YD I hN hi hx r (λs' I'=>⟨_,H,I',h⟩) hf)
def gNil:TGs:=λvs σ H Q=>vs=[]/\Q σ H
def Qg (t:TG) (u:TGs):TGs:=λvs σ H Q=>∃ v r,vs=v :: r/\t v σ H λσ' H'=>u r σ' H' Q
def jt:PGs X [] gNil:=by
 intro pins s σ H vs us Q I r h
 obtain⟨e,h⟩:=h
 subst e
 cases r
 exact assignInOrder_nil ⟨σ,H,I,h⟩
def zI {e:Expr} {es:List Expr} {t:TG} {u:TGs} (h1:PG X e t) (h2:PGs X es u)
  (hs:(assignEach (e :: es) X.env).map (·.2)=assign e X.env :: (assignEach es X.env).map (·.2):=by rfl):PGs X (e :: es) (Qg t u):=by
 intro pins s σ H vs us Q I r h
 obtain⟨v,vr,e1,h⟩:=h
 subst e1
 cases r with
 | cons r rr=>
  rw[hs]
  refine assignInOrder_cons (thn (h1 pins s σ H _ _ _ I r h) λ_ s1 ⟨σ1,H1,I1,q1⟩=>?_)
  exact h2 pins s1 σ1 H1 _ _ Q I1 rr q1
def gTup (K:Fs) (n:Nat) (t:TGs):TG:=λv σ H Q=>∃ a xs,v=.ref a/\SqT K H a xs/\xs.length=n/\t xs σ H Q
def pg_tup {es:List Expr} {k:Nat} {t:TGs} {n:Nat} (hc:X.calm=true) (h:PGs X es t)
  (hn:(assignEach es X.env).length=n:=by rfl) (hst:(assignEach es X.env).findIdx? (·.1)=none:=by rfl):PG X (.Tuple es k pos) (gTup X.K n t):=by
 intro pins s σ H v u Q I r hw
 obtain⟨a,xs,e1,hq,hl,hw⟩:=hw
 subst e1
 cases r
 obtain⟨its,rv,ht,hz⟩:=I.tuple hq
 refine assign_Tuple_tuple (I.ok.hd hc) ht (by simp[hn,<- hl,rv.length]) hst λh' hx=>?_
 have I1:Inv X pins σ H { s with heap:=h' }:=I.kept (t':=s.toks) λb o e=>hx b o (AU (AO e)) e
 exact h pins _ σ H xs _ Q I1 (by simpa using rv) hw
def tAsg (te:TE) (g:TG):TS:=λD σ H=>te σ H λx H1=>g x σ H1 D.nx
def ps_asg {tg e:Expr} {te:TE} {g:TG} (he:PE X e te) (hg:PG X tg g) (hs:swapsWithSole [tg] e pos.line X.env=pure false:=by rfl) (hw:swappedStores [tg] e X.env=pure none:=by rfl)
  (h1:(assignEach [tg] X.env).map (·.2)=[assign tg X.env]:=by rfl):PS X (.Assign [tg] e pos) (tAsg te g):=by
 intro pins s σ H D I h
 refine wpAny_Assign_stores (thn (he pins s σ H _ I h) λv s1 ⟨x,H1,I1,r1,q1⟩=>?_) hs hw
 rw[h1]
 exact thn (hg pins s1 σ H1 x v _ I1 r1 q1) λ_ s2 q=>q
theorem zr {i:Nat} {x:Str} {e:Expr} {te:TE} {pos':Pos} (hN:X.N.Nodup) (hi:X.N[i]? = some x) (hx:Loc X.env.scope x) (he:PE X e te) (hs:swapsWith e (some (.Name x pos')) pos.line X.env=pure false:=by rfl) (hf:X.fn x=true\/X.env.scope.names.lookup x=some .local:=by first | exact .inl rfl | exact .inr rfl | assumption) :
  PS X (.Assign [.Name x pos'] e pos) (tAsg te (jh i)):=by
 intro pins s σ H D I h
 refine wpAny_Assign_Name (thn (he pins s σ H _ I h) λv s1 ⟨y,H1,I1,r1,q1⟩=>?_) hs
 exact YD I1 hN hi hx r1 (λs2 I2=>⟨_,H1,I2,q1⟩) hf
end
section
variable {X:Cx} {pos:Pos}
def tWhile (c:TT) (tb:TS):TS:=λD σ H=>∃ W:Nat->St->Hp->Prop,(∃ m,W m σ H)/\∀ m σ H,W m σ H ->
 c σ H λb H1=>if b=true then ∃ N:St->Hp->Prop,(∀ σ' H',N σ' H'->∃ m',m' < m/\W m' σ' H')/\tb { D with nx:=N,ct:=N,bk:=D.nx } σ H1 else D.nx σ H1
def w8 {c:Expr} {body:List Stmt} {tc:TT} {tb:TS} (hp:PassesOwn (model X.prog X.w) X.A X.env X.xe) (hc:PT X c tc) (hb:PSs X body tb):PS X (.While c body [] pos) (tWhile tc tb):=by
 intro pins s σ H D I h
 obtain⟨W,⟨m0,w0⟩,turn⟩:=h
 refine wpAny_While (codeAny_whileLoop (λn s'=>∃ σ' H',Inv X pins σ' H' s'/\W n σ' H') ?_ m0 ⟨σ,H,I,w0⟩)
 rintro n s1 ⟨σ1,H1,I1,w1⟩
 refine Cu hp (thn (hc pins s1 σ1 H1 _ I1 (turn n σ1 H1 w1)) λb s2 ⟨H2,I2,q2⟩=>?_)
 cases b with
 | true=>
  obtain⟨N,hN,q2⟩:=q2
  rw[if_pos rfl]
  refine Cu hp (thn (hb pins s2 σ1 H2 _ I2 q2) λf s3 q3=>?_)
  cases f with
  | next=>
   obtain⟨σ3,H3,I3,n3⟩:=q3
   obtain⟨m',hm,w3⟩:=hN σ3 H3 n3
   exact⟨m',hm,σ3,H3,I3,w3⟩
  | cont=>
   obtain⟨σ3,H3,I3,n3⟩:=q3
   obtain⟨m',hm,w3⟩:=hN σ3 H3 n3
   exact⟨m',hm,σ3,H3,I3,w3⟩
  | brk=>exact q3
  | ret v=>exact q3
 | false=>
  rw[if_neg AS]
  exact D6 ⟨σ1,H2,I2,q2⟩
end
structure It where
 go:Nat->Hp->Prop
 yld:Nat->Hp->V->Hp->Prop
 stop:Nat->Hp->Prop
def YF (X:Cx) (pins:List (Addr×Obj)) (H:Hp) (b:Addr):Prop:=
 H b=none/\b ≠ X.env.locals/\b ∉ X.fs/\(b ∈ X.ex\/X.s₀.heap.objs.size<=b)/\(∀ x c,X.env.cells.lookup x=some c->c ≠ b)/\∀ p ∈ X.pn++pins,p.1 ≠ b
def Inv.fpOk {X:Cx} {pins:List (Addr×Obj)} {σ:St} {H H':Hp} {s:Shared} {b:Addr} (I:Inv X pins σ H s) (hb:s.heap.objs.size<=b) (hn:H' b=none):YF X pins H' b:=by
 refine⟨hn,BD (Ac I.lt hb),I.nofs hb,.inr (Aa I.sz hb),λx c e z=>?_,λp hp z=>?_⟩
 ·obtain⟨v,q⟩:=I.cell x c e
  exact absurd (Ac q.lt (by rw[z];exact hb)) (A1 _)
 ·exact absurd (Ac (AO (I.pin p hp).1) (by rw[z];exact hb)) (A1 _)
structure Turn (P:Program) (w:World) (K:Fs) (tg:Expr) (J:It) (fp:List Addr) (it:Addr) (tn:Nat->Heap->Prop):Prop where
 mem:it ∈ fp
 obj:∀ i h,tn i h->∀ b ∈ fp,∃ o,h.get? b=some o/\∀ v,o.data ≠ .cell v
 keep:∀ i h h',tn i h->(∀ b ∈ fp,∀ o,h.get? b=some o->h'.get? b=some o)->tn i h'
 item:∀ (X:Cx),X.prog=P->X.w=w->X.K=K->X.calm=true->∀ (i:Nat) (pins:List (Addr×Obj)) (s:Shared) (σ:St) (H:Hp) (E:Value->Shared->Prop),Inv X pins σ H s->(∀ b ∈ fp,YF X pins H b)->tn i s.heap->J.go i H ->
  wpAny (model P w) X.A (pyNext (.ref it)) (λr s1=>∃ u,r=some u /\
   wpAny (model P w) X.A (letOwnedTupleGo tg (.ref it) u) (λ_ s2=>∃ x H',Inv X pins σ H' s2/\RelV x u/\J.yld i H x H'/\tn (i+1) s2.heap/\∀ b ∈ fp,H' b=none) E s1) E s
 done:∀ (X:Cx),X.prog=P->X.w=w->X.K=K->X.calm=true->∀ (i:Nat) (pins:List (Addr×Obj)) (s:Shared) (σ:St) (H:Hp) (E:Value->Shared->Prop),Inv X pins σ H s->(∀ b ∈ fp,YF X pins H b)->tn i s.heap->J.stop i H ->
  wpAny (model P w) X.A (pyNext (.ref it)) (λr s1=>r=none/\Inv X pins σ H s1) E s
 self:∀ (A:Around) (i:Nat) (s:Shared) (Q:Value->Shared->Prop) (E:Value->Shared->Prop),tn i s.heap->Q (.ref it) s->wpAny (model P w) A (pyIter (.ref it)) Q E s
abbrev TI:=St->Hp->(It->Hp->Prop)->Prop
def PIE (X:Cx) (pins:List (Addr×Obj)) (σ:St) (tg:Expr) (R:It->Hp->Prop) (itv:Value) (s2:Shared):Prop:=
 ∃ (it:Addr) (fp:List Addr) (tn:Nat->Heap->Prop) (J:It) (H':Hp),itv=.ref it/\Inv X pins σ H' s2/\Turn X.prog X.w X.K tg J fp it tn/\tn 0 s2.heap/\(∀ b ∈ fp,YF X pins H' b)/\R J H'
def PI (X:Cx) (tg iter:Expr) (wi:TI):Prop:=
 ∀ (pins:List (Addr×Obj)) (s:Shared) (σ:St) (H:Hp) (R:It->Hp->Prop),Inv X pins σ H s->wi σ H R ->
  wpAny (model X.prog X.w) X.A (eval iter X.env) (λv s1=>wpAny (model X.prog X.w) X.A (pyIter v) (PIE X pins σ tg R) X.xe s1) X.xe s
def go_of {M : Model} {A : Around} {E : Value -> Shared -> Prop} {s : Shared} {tg : Expr} {it : Addr} {u : Value} {o : Obj} {n : String} {vs : Array Value} {Q : Unit -> Shared -> Prop} (ho : s.heap.get? it = some o) (hc : o.cls = .type n) (hd : o.data = .fields vs)
    (hn : ["enumerate", "zip", "dict_itemiterator", "dict_reverseitemiterator", "odict_iterator", "itertools.zip_longest", "itertools.pairwise"].contains n = false) (hQ : Q () s) : wpAny M A (letOwnedTupleGo tg (.ref it) u) Q E s := by
  unfold letOwnedTupleGo
  cases tg <;> first
    | exact AE hQ
    | (cases u <;> first
        | exact AE hQ
        | (refine AA (Eb ho ?_)
           rw [hc, hd]
           show wpAny M A (if (["enumerate", "zip", "dict_itemiterator", "dict_reverseitemiterator", "odict_iterator", "itertools.zip_longest", "itertools.pairwise"].contains n && vs[0]? == some (rawInt _)) = true then _ else _) Q E s
           rw [if_neg (by intro h; rw [hn, Bool.false_and] at h; cases h)]
           exact AE hQ))
def Itl (K:Fs) (a:Addr):It:=
 ⟨λi H=>∃ xs x,SqL K H a xs/\xs[i]? = some x,λi H x H'=>H'=H/\∀ xs,SqL K H a xs->xs[i]? = some x,λi H=>∃ xs,SqL K H a xs/\xs.length<=i⟩
def Itt (K:Fs) (a:Addr):It:=
 ⟨λi H=>∃ xs x,SqT K H a xs/\xs[i]? = some x,λi H x H'=>H'=H/\∀ xs,SqT K H a xs->xs[i]? = some x,λi H=>∃ xs,SqT K H a xs/\xs.length<=i⟩
def Itr (lo:Int) (n:Nat):It:=⟨λi _=>i < n,λi H x H'=>H'=H/\x=.int (lo+i),λi _=>n<=i⟩
def Xl {P:Program} {w:World} {K:Fs} {tg:Expr} (a it:Addr):Turn P w K tg (Itl K a) [it] it (λi h=>h.IsListIter it a i) where
 mem:=by simp
 obj:=λi h st b hb=>by
  have e:b=it:=by simpa using hb
  subst e
  obtain⟨o,e,c,d⟩:=st
  exact⟨o,e,λv z=>by rw[d] at z;cases z⟩
 keep:=λi h h' st k=>st.at λo e=>k it (by simp) o e
 item:=by
  intro X hP hw hK hc i pins s σ H E I hf st hg
  subst hP hw hK
  obtain⟨xs,x,hq,hx⟩:=hg
  obtain⟨its,rv,p,hz⟩:=I.list hq
  obtain⟨u,hu,ru⟩:=rv.get hx
  obtain⟨f0,f1,f2,f3,f4,f5⟩:=hf it (by simp)
  refine CD st p.isList (x:=u) (by simpa using hu) λh' st' sb=>?_
  have I1:Inv X pins σ H { s with heap:=h' }:=I.turned (t':=s.toks) (λb o hb e=>(sb.2 b hb).trans e) f0 f1 f3 f4 f5
  obtain⟨o,e,c,d⟩:=id st'
  exact⟨u,O,go_of (s:={ s with heap:=h' }) e c d (by decide) ⟨x,H,I1,ru,⟨O,λys hy=>by rw[I.list_inj hy hq];exact hx⟩,st',λb hb=>(hf b hb).1⟩⟩
 done:=by
  intro X hP hw hK hc i pins s σ H E I hf st hg
  subst hP hw hK
  obtain⟨xs,hq,hx⟩:=hg
  obtain⟨its,rv,p,hz⟩:=I.list hq
  obtain⟨f0,f1,f2,f3,f4,f5⟩:=hf it (by simp)
  have hl:=rv.length
  exact CQ (I.ok.hd hc) st p.isList (by simp;lia) λh' eb=>⟨O,I.turned (t':=s.toks) (λb o hb e=>eb b o hb e) f0 f1 f3 f4 f5⟩
 self:=λ_ _ _ _ _ st h=>wpAny_pyIter_listiter st h
def xj {P:Program} {w:World} {K:Fs} {tg:Expr} (a it:Addr):Turn P w K tg (Itt K a) [it] it (λi h=>h.IsTupleIter it a i) where
 mem:=by simp
 obj:=λi h st b hb=>by
  have e:b=it:=by simpa using hb
  subst e
  obtain⟨o,e,c,d⟩:=st
  exact⟨o,e,λv z=>by rw[d] at z;cases z⟩
 keep:=λi h h' st k=>st.at λo e=>k it (by simp) o e
 item:=by
  intro X hP hw hK hc i pins s σ H E I hf st hg
  subst hP hw hK
  obtain⟨xs,x,hq,hx⟩:=hg
  obtain⟨its,rv,p,hz⟩:=I.tuple hq
  obtain⟨u,hu,ru⟩:=rv.get hx
  obtain⟨f0,f1,f2,f3,f4,f5⟩:=hf it (by simp)
  refine wpAny_pyNext_tuple_item st (show s.heap.IsTuple a its.toArray from p) (x:=u) (by simpa using hu) λh' st' sb=>?_
  have I1:Inv X pins σ H { s with heap:=h' }:=I.turned (t':=s.toks) (λb o hb e=>(sb.2 b hb).trans e) f0 f1 f3 f4 f5
  obtain⟨o,e,c,d⟩:=id st'
  exact⟨u,O,go_of (s:={ s with heap:=h' }) e c d (by decide) ⟨x,H,I1,ru,⟨O,λys hy=>by rw[I.tuple_inj hy hq];exact hx⟩,st',λb hb=>(hf b hb).1⟩⟩
 done:=by
  intro X hP hw hK hc i pins s σ H E I hf st hg
  subst hP hw hK
  obtain⟨xs,hq,hx⟩:=hg
  obtain⟨its,rv,p,hz⟩:=I.tuple hq
  obtain⟨f0,f1,f2,f3,f4,f5⟩:=hf it (by simp)
  have hl:=rv.length
  exact wpAny_pyNext_tuple_end (I.ok.hd hc) st (show s.heap.IsTuple a its.toArray from p) (by simp;lia) λh' eb=>⟨O,I.turned (t':=s.toks) (λb o hb e=>eb b o hb e) f0 f1 f3 f4 f5⟩
 self:=λ_ _ _ _ _ st h=>wpAny_pyIter_tupleiter st h
def xk {P:Program} {w:World} {K:Fs} {tg:Expr} (it:Addr) (lo:Int) (n:Nat):Turn P w K tg (Itr lo n) [it] it (λi h=>IsRangeIter h it (lo+(i:Nat) * 1) ((n:Int) - (i:Nat)) 1) where
 mem:=by simp
 obj:=λi h st b hb=>by
  have e:b=it:=by simpa using hb
  subst e
  exact⟨_,st,λv z=>by
   have z':Data.fields _=Data.cell v:=z
   cases z'⟩
 keep:=λi h h' st k=>k it (by simp) _ st
 item:=by
  intro X hP hw hK hc i pins s σ H E I hf st hg
  subst hP hw hK
  obtain⟨f0,f1,f2,f3,f4,f5⟩:=hf it (by simp)
  have W:=Walks.range (prog:=X.prog) (w:=X.w) (I.ok.hd hc) it lo 1 n
  refine W.item i s _ _ hg st λv h' tk hv st' kk=>?_
  obtain⟨t,rfl⟩:=hv
  have I1:Inv X pins σ H { s with heap:=h',toks:=tk }:=I.turned (λb o hb e=>kk b o (by simpa using hb) e) f0 f1 f3 f4 f5
  refine⟨_,O,go_of (s:={ s with heap:=h',toks:=tk }) (n := "range_iterator") st' rfl rfl (by decide) ⟨.int (lo+i),H,I1,⟨t,?_⟩,⟨O,O⟩,st',λb hb=>(hf b hb).1⟩⟩
  rw[Int.mul_one]
 done:=by
  intro X hP hw hK hc i pins s σ H E I hf st hg
  subst hP hw hK
  obtain⟨f0,f1,f2,f3,f4,f5⟩:=hf it (by simp)
  exact wpAny_pyNext_range_end (I.ok.hd hc) st (by have:n<=i:=hg;lia) λh' eb=>⟨O,I.turned (t':=s.toks) (λb o hb e=>eb b o hb e) f0 f1 f3 f4 f5⟩
 self:=λ_ _ _ _ _ st h=>wpAny_pyIter_rangeiter st h
section
variable {X:Cx} {tg:Expr}
def iList (K:Fs) (tl:TE):TI:=λσ H R=>tl σ H λx H1=>∃ a,x=.ref a/\(∃ xs,SqL K H1 a xs)/\R (Itl K a) H1
def iTup (K:Fs) (tl:TE):TI:=λσ H R=>tl σ H λx H1=>∃ a,x=.ref a/\(∃ xs,SqT K H1 a xs)/\R (Itt K a) H1
def pi_list {l:Expr} {tl:TE} (hl:PE X l tl):PI X tg l (iList X.K tl):=by
 intro pins s σ H R I h
 refine thn (hl pins s σ H _ I h) λv s1 ⟨x,H1,I1,r1,q1⟩=>?_
 obtain⟨a,e,⟨xs,hq⟩,q⟩:=q1
 subst e
 cases r1
 obtain⟨its,rv,p,hz⟩:=I1.list hq
 refine Bx p.isList ?_
 refine⟨s1.heap.objs.size,[s1.heap.objs.size],_,_,H1,O,I1.kept (t':=s1.toks) λb o e=>AC _ e,Xl a _,⟨_,AN _ rfl,O,O⟩,λb hb=>?_,q⟩
 have e:b=s1.heap.objs.size:=by simpa using hb
 subst e
 exact I1.fpOk (AM _) (I1.hok.fresh (AM _))
def pi_tup {l:Expr} {tl:TE} (hl:PE X l tl):PI X tg l (iTup X.K tl):=by
 intro pins s σ H R I h
 refine thn (hl pins s σ H _ I h) λv s1 ⟨x,H1,I1,r1,q1⟩=>?_
 obtain⟨a,e,⟨xs,hq⟩,q⟩:=q1
 subst e
 cases r1
 obtain⟨its,rv,p,hz⟩:=I1.tuple hq
 refine DG (show s1.heap.IsTuple a its.toArray from p) ?_
 refine⟨s1.heap.objs.size,[s1.heap.objs.size],_,_,H1,O,I1.kept (t':=s1.toks) λb o e=>AC _ e,xj a _,⟨_,AN _ rfl,O,O⟩,λb hb=>?_,q⟩
 have e:b=s1.heap.objs.size:=by simpa using hb
 subst e
 exact I1.fpOk (AM _) (I1.hok.fresh (AM _))
def range_it {pins:List (Addr×Obj)} {σ:St} {H:Hp} {s:Shared} {R:It->Hp->Prop} {E:Value->Shared->Prop} {lo hi:Int} {t u v:Tok} {tk:Nat} (I:Inv X pins σ H s) (h1:-(2 ^ 62)<=lo) (h2:lo < 2 ^ 62) (h3:-(2 ^ 62)<=hi) (h4:hi < 2 ^ 62)
  (q:R (Itr lo (hi - lo).toNat) H):wpAny (model X.prog X.w) X.A (pyIter (.ref s.heap.objs.size)) (PIE X pins σ tg R) E { s with heap:=s.heap.push { cls:=.type "range",data:=.fields #[.int lo t,.int hi u,.int 1 v] },toks:=tk }:=by
 refine wpAny_pyIter_range (IsRange.new ..) (small_one h1 h2 h3 h4) ?_
 have I1:Inv X pins σ H { s with heap:=s.heap.push { cls:=.type "range",data:=.fields #[.int lo t,.int hi u,.int 1 v] },toks:=tk }:=I.kept λb o e=>AC _ e
 refine⟨(s.heap.push { cls:=.type "range",data:=.fields #[.int lo t,.int hi u,.int 1 v] }).objs.size,[(s.heap.push { cls:=.type "range",data:=.fields #[.int lo t,.int hi u,.int 1 v] }).objs.size],_,_,H,O,
  I1.kept (t':=tk) λb o e=>AC _ e,xk _ lo (hi - lo).toNat,?_,λb hb=>?_,q⟩
 ·have e1:lo+((0:Nat):Int) * 1=lo:=by simp
  have e2:(((hi - lo).toNat:Nat):Int) - ((0:Nat):Int)=Builtin.Range.rangeSize lo hi 1:=by rw[rangeSize_one];split <;> lia
  show IsRangeIter _ _ (lo+((0:Nat):Int) * 1) ((((hi - lo).toNat:Nat):Int) - ((0:Nat):Int)) 1
  rw[e1,e2]
  exact AN _ rfl
 ·have e:b=(s.heap.push { cls:=.type "range",data:=.fields #[.int lo t,.int hi u,.int 1 v] }).objs.size:=by simpa using hb
  subst e
  exact I1.fpOk (AM _) (I1.hok.fresh (AM _))
def iRng1 (ta:TA):TI:=λσ H R=>ta σ H λvs H1=>∃ j:Int,vs=[.int j] /\ -(2 ^ 62)<=j/\j < 2 ^ 62/\R (Itr 0 j.toNat) H1
def zR {a:Expr} {ta:TA} {p pos:Pos} (hg:Gl X "range") (hm:X.mg "range" = none) (ha:PA X [a] ta) (hs:starEach [a] X.env=[(false,eval a X.env)]:=by rfl):PI X tg (.Call (.Name "range" p) [a] [] pos) (iRng1 ta):=by
 intro pins s σ H R I h
 refine Call_ (Zx I hg hm boot_range (BC (thn (ha pos pins s σ H _ I h) λus s1 ⟨vs,H1,I1,r1,q1⟩=>?_) hs rfl))
 obtain⟨j,e,q1,q2,q⟩:=q1
 subst e
 cases r1 with
 | cons r rr=>
  cases rr
  obtain⟨t,rfl⟩:=r
  exact call_range_1 (range_it I1 (by lia) (by lia) q1 q2 (by simpa using q))
def tFor (wi:TI) (g:TG) (tb:TS):TS:=λD σ H=>wi σ H λJ H1=>∃ W:Nat->Nat->St->Hp->Prop,(∃ m,W 0 m σ H1)/\∀ i m σ H,W i m σ H ->
 (J.stop i H/\D.nx σ H)\/(J.go i H/\∃ N:St->Hp->Prop,(∀ σ' H',N σ' H'->∃ m',m' < m/\W (i+1) m' σ' H')/\∀ x H',J.yld i H x H'->g x σ H' λσ2 H2=>tb { D with nx:=N,ct:=N,bk:=D.nx } σ2 H2)
def WV (fp:List Addr) (h:Heap):List (Addr×Obj):=fp.filterMap λb=>(h.get? b).map λo=>(b,o)
def ZV {fp:List Addr} {h:Heap} {b:Addr} {o:Obj} (hb:b ∈ fp) (e:h.get? b=some o):(b,o) ∈ WV fp h:=ED.mpr ⟨b,hb,by rw[e];rfl⟩
def Xm {fp:List Addr} {h:Heap} {p:Addr×Obj} (hp:p ∈ WV fp h):p.1 ∈ fp/\h.get? p.1=some p.2:=by
 obtain⟨b,hb,e⟩:=ED.mp hp
 cases q:h.get? b with
 | none=>rw[q] at e;cases e
 | some o=>
  rw[q] at e
  have e':(b,o)=p:=AR e
  subst e'
  exact⟨hb,q⟩
def Inv.pinned {pins:List (Addr×Obj)} {σ:St} {H:Hp} {s:Shared} {fp:List Addr} (I:Inv X pins σ H s) (hf:∀ b ∈ fp,YF X pins H b) (ho:∀ b ∈ fp,∃ o,s.heap.get? b=some o/\∀ v,o.data ≠ .cell v):Inv X (pins++WV fp s.heap) σ H s:=
 I.pins_of λp hp=>(AV.mp hp).elim (λz=>I.pin p (Ae _ z)) λz=>by
  obtain⟨hb,e⟩:=Xm z
  obtain⟨f0,f1,f2,_⟩:=hf p.1 hb
  obtain⟨o,e',d⟩:=ho p.1 hb
  rw[e] at e';cases e'
  exact⟨e,f0,f1,f2,d⟩
def Inv.unpinned {pins pl:List (Addr×Obj)} {σ:St} {H:Hp} {s:Shared} (I:Inv X (pins++pl) σ H s):Inv X pins σ H s:=I.pins_of λp hp=>I.pin p (Ae _ (Ao _ hp))
def zZ {iter:Expr} {body:List Stmt} {wi:TI} {g:TG} {tb:TS} {pos:Pos} (hp:PassesOwn (model X.prog X.w) X.A X.env X.xe) (hc:X.calm=true) (hi:PI X tg iter wi) (hg:PG X tg g) (hb:PSs X body tb)
  (hs:∀ x,foldedSetIterable iter X.env x=pure x:=by intro _;rfl):PS X (.For tg iter body [] pos) (tFor wi g tb):=by
 intro pins s σ H D I h
 refine wpAny_For (thn (hi pins s σ H _ I h) λv s1 h1=>thn h1 λitv s2 h2=>?_) hs
 obtain⟨it,fp,tn,J,H2,e,I2,T,st2,f2,W,⟨m0,w0⟩,turn⟩:=h2
 subst e
 have stat:∀ {H':Hp},(∀ b ∈ fp,H' b=none)->∀ b ∈ fp,YF X pins H' b:=λhn b hb=>⟨hn b hb,(f2 b hb).2⟩
 refine codeAny_forLoop_any (λn s'=>∃ i σ' H',Inv X pins σ' H' s'/\tn i s'.heap/\(∀ b ∈ fp,H' b=none)/\W i n σ' H') ?_ m0 ⟨0,σ,H2,I2,st2,λb hb=>(f2 b hb).1,w0⟩
 rintro n s3 ⟨i,σ3,H3,I3,st3,fr3,w3⟩
 rcases turn i n σ3 H3 w3 with ⟨stop,qn⟩ | ⟨go,N,hN,step⟩
 ·refine Cu hp (thn (T.done X rfl rfl rfl hc i pins s3 σ3 H3 X.xe I3 (stat fr3) st3 stop) λr s4 ⟨hr,I4⟩=>?_)
  subst hr
  exact D6 ⟨σ3,H3,I4,qn⟩
 ·refine Cu hp (thn (T.item X rfl rfl rfl hc i pins s3 σ3 H3 X.xe I3 (stat fr3) st3 go) λr s4 ⟨u,hr,h4⟩=>?_)
  subst hr
  refine Cu hp (thn h4 λ_ s5 ⟨x,H5,I5,r5,y5,st5,fr5⟩=>?_)
  have I5':=I5.pinned (stat fr5) (T.obj _ _ st5)
  refine Cu hp (thn (hg _ s5 σ3 H5 x u _ I5' r5 (step x H5 y5)) λ_ s6 ⟨σ6,H6,I6,q6⟩=>?_)
  refine Cu hp (thn (hb _ s6 σ6 H6 _ I6 q6) λf s7 q7=>?_)
  have again:∀ {σ7:St} {H7:Hp},Inv X (pins++WV fp s5.heap) σ7 H7 s7->N σ7 H7->∃ m,m < n/\∃ i σ' H',Inv X pins σ' H' s7/\tn i s7.heap/\(∀ b ∈ fp,H' b=none)/\W i m σ' H':=λ{σ7 H7} I7 n7=>by
   obtain⟨m',hm,w7⟩:=hN σ7 H7 n7
   refine⟨m',hm,i+1,σ7,H7,I7.unpinned,T.keep _ _ _ st5 λb hb o e=>(I7.pin (b,o) (Ae _ (Ae _ (ZV hb e)))).1,λb hb=>?_,w7⟩
   obtain⟨o,e,d⟩:=T.obj _ _ st5 b hb
   exact (I7.pin (b,o) (Ae _ (Ae _ (ZV hb e)))).2.1
  cases f with
  | next=>obtain⟨σ7,H7,I7,n7⟩:=q7;exact again I7 n7
  | cont=>obtain⟨σ7,H7,I7,n7⟩:=q7;exact again I7 n7
  | brk=>obtain⟨σ7,H7,I7,q7⟩:=q7;exact⟨σ7,H7,I7.unpinned,q7⟩
  | ret v=>obtain⟨x7,σ7,H7,I7,r7,q7⟩:=q7;exact⟨x7,σ7,H7,I7.unpinned,r7,q7⟩
end
def qA {K:Fs} {a:Addr} {xs:List V} {g:TG} {tb:TS} {D:Xc} {σ:St} {H:Hp} (Pv:Nat->St->Hp->Prop) (h0:Pv 0 σ H) (hl:∀ i σ H,i<=xs.length->Pv i σ H->SqL K H a xs)
  (hs:∀ i x σ H,xs[i]? = some x->Pv i σ H->g x σ H λσ2 H2=>tb { D with nx:=Pv (i+1),ct:=Pv (i+1),bk:=D.nx } σ2 H2) (hd:∀ σ H,Pv xs.length σ H->D.nx σ H) :
  ∃ W:Nat->Nat->St->Hp->Prop,(∃ m,W 0 m σ H)/\∀ i m σ H,W i m σ H ->
   ((Itl K a).stop i H/\D.nx σ H)\/((Itl K a).go i H/\∃ N:St->Hp->Prop,(∀ σ' H',N σ' H'->∃ m',m' < m/\W (i+1) m' σ' H')/\∀ x H',(Itl K a).yld i H x H'->g x σ H' λσ2 H2=>tb { D with nx:=N,ct:=N,bk:=D.nx } σ2 H2):=by
 refine⟨λi m σ H=>m=xs.length - i/\i<=xs.length/\Pv i σ H,⟨xs.length,by simp,BA _,h0⟩,?_⟩
 rintro i m σ H ⟨rfl,hi,p⟩
 have q:=hl i σ H hi p
 by_cases hlt:i < xs.length
 ·refine .inr ⟨⟨xs,xs[i],q,by simp[hlt]⟩,Pv (i+1),λσ' H' p'=>⟨xs.length - (i+1),by lia,O,hlt,p'⟩,λx H' y=>?_⟩
  obtain⟨e,y⟩:=y
  subst e
  exact hs i x σ _ (y xs q) p
 ·have e:i=xs.length:=by lia
  subst e
  exact .inl ⟨⟨xs,q,AM _⟩,hd σ H p⟩
def ZA {K:Fs} {a:Addr} {xs:List V} {g:TG} {tb:TS} {D:Xc} {σ:St} {H:Hp} (Pv:Nat->St->Hp->Prop) (h0:Pv 0 σ H) (hl:∀ i σ H,i<=xs.length->Pv i σ H->SqT K H a xs)
  (hs:∀ i x σ H,xs[i]? = some x->Pv i σ H->g x σ H λσ2 H2=>tb { D with nx:=Pv (i+1),ct:=Pv (i+1),bk:=D.nx } σ2 H2) (hd:∀ σ H,Pv xs.length σ H->D.nx σ H) :
  ∃ W:Nat->Nat->St->Hp->Prop,(∃ m,W 0 m σ H)/\∀ i m σ H,W i m σ H ->
   ((Itt K a).stop i H/\D.nx σ H)\/((Itt K a).go i H/\∃ N:St->Hp->Prop,(∀ σ' H',N σ' H'->∃ m',m' < m/\W (i+1) m' σ' H')/\∀ x H',(Itt K a).yld i H x H'->g x σ H' λσ2 H2=>tb { D with nx:=N,ct:=N,bk:=D.nx } σ2 H2):=by
 refine⟨λi m σ H=>m=xs.length - i/\i<=xs.length/\Pv i σ H,⟨xs.length,by simp,BA _,h0⟩,?_⟩
 rintro i m σ H ⟨rfl,hi,p⟩
 have q:=hl i σ H hi p
 by_cases hlt:i < xs.length
 ·refine .inr ⟨⟨xs,xs[i],q,by simp[hlt]⟩,Pv (i+1),λσ' H' p'=>⟨xs.length - (i+1),by lia,O,hlt,p'⟩,λx H' y=>?_⟩
  obtain⟨e,y⟩:=y
  subst e
  exact hs i x σ _ (y xs q) p
 ·have e:i=xs.length:=by lia
  subst e
  exact .inl ⟨⟨xs,q,AM _⟩,hd σ H p⟩
def qY {lo:Int} {n:Nat} {g:TG} {tb:TS} {D:Xc} {σ:St} {H:Hp} (Pv:Nat->St->Hp->Prop) (h0:Pv 0 σ H)
  (hs:∀ i σ H,i < n->Pv i σ H->g (.int (lo+i)) σ H λσ2 H2=>tb { D with nx:=Pv (i+1),ct:=Pv (i+1),bk:=D.nx } σ2 H2) (hd:∀ σ H,Pv n σ H->D.nx σ H) :
  ∃ W:Nat->Nat->St->Hp->Prop,(∃ m,W 0 m σ H)/\∀ i m σ H,W i m σ H ->
   ((Itr lo n).stop i H/\D.nx σ H)\/((Itr lo n).go i H/\∃ N:St->Hp->Prop,(∀ σ' H',N σ' H'->∃ m',m' < m/\W (i+1) m' σ' H')/\∀ x H',(Itr lo n).yld i H x H'->g x σ H' λσ2 H2=>tb { D with nx:=N,ct:=N,bk:=D.nx } σ2 H2):=by
 refine⟨λi m σ H=>m=n - i/\i<=n/\Pv i σ H,⟨n,by simp,BA _,h0⟩,?_⟩
 rintro i m σ H ⟨rfl,hi,p⟩
 by_cases hlt:i < n
 ·refine .inr ⟨hlt,Pv (i+1),λσ' H' p'=>⟨n - (i+1),by lia,O,hlt,p'⟩,λx H' y=>?_⟩
  obtain⟨e,y⟩:=y
  subst e y
  exact hs i σ _ hlt p
 ·have e:i=n:=by lia
  subst e
  exact .inl ⟨AM _,hd σ H p⟩
abbrev R2:=V->V->Hp->VK->Prop
def OpR (X:Cx) (f:Value->Value->Sem Value) (r:R2):Prop:=
 ∀ (pins:List (Addr×Obj)) (s:Shared) (σ:St) (H:Hp) (x y:V) (v u:Value) (Q:VK),Inv X pins σ H s->RelV x v->RelV y u->r x y H Q ->
  wpAny (model X.prog X.w) X.A (f v u) (EP X pins σ Q) X.xe s
def UnR (X:Cx) (f:Value->Sem Value) (r:V->Hp->VK->Prop):Prop:=
 ∀ (pins:List (Addr×Obj)) (s:Shared) (σ:St) (H:Hp) (x:V) (v:Value) (Q:VK),Inv X pins σ H s->RelV x v->r x H Q ->
  wpAny (model X.prog X.w) X.A (f v) (EP X pins σ Q) X.xe s
def j6 (X:Cx) (f:Value) (r:List V->Hp->VK->Prop):Prop:=
 ∀ (pins:List (Addr×Obj)) (s:Shared) (σ:St) (H:Hp) (xs:List V) (us:List Value) (Q:VK),Inv X pins σ H s->qF xs us->r xs H Q ->
  wpAny (model X.prog X.w) X.A (call f us) (EP X pins σ Q) X.xe s
def tOp (r:R2) (ta tb:TE):TE:=λσ H Q=>ta σ H λx H1=>tb σ H1 λy H2=>r x y H2 Q
def tUn (r:V->Hp->VK->Prop) (ta:TE):TE:=λσ H Q=>ta σ H λx H1=>r x H1 Q
def rI (C:Int->Int->Prop) (g:Int->Int->V):R2:=λx y H Q=>∃ i j,x=.int i/\y=.int j/\C i j/\Q (g i j) H
def rI0 (g:Int->Int->V):R2:=λx y H Q=>∃ i j,x=.int i/\y=.int j/\Q (g i j) H
def rU (g:Int->V):V->Hp->VK->Prop:=λx H Q=>∃ i,x=.int i/\Q (g i) H
section
variable {X:Cx} {a b c:Expr} {ta tb tc:TE} {pos:Pos}
def binT (ha:PE X a ta) (hb:PE X b tb) {pins:List (Addr×Obj)} {s:Shared} {σ:St} {H:Hp} {R:V->V->Hp->Prop} (I:Inv X pins σ H s)
  (h:ta σ H λx H1=>tb σ H1 λy H2=>R x y H2) {Q:Value->Shared->Prop} {f:Value->Value->Sem Value}
  (hf:∀ v u s2 x y H2,Inv X pins σ H2 s2->RelV x v->RelV y u->R x y H2->wpAny (model X.prog X.w) X.A (f v u) Q X.xe s2) :
  wpAny (model X.prog X.w) X.A (eval a X.env) (λv s₁=>wpAny (model X.prog X.w) X.A (eval b X.env) (λu s₂=>wpAny (model X.prog X.w) X.A (f v u) Q X.xe s₂) X.xe s₁) X.xe s:=by
 refine thn (ha pins s σ H _ I h) λv s1 ⟨x,H1,I1,r1,q1⟩=>?_
 refine thn (hb pins s1 σ H1 _ I1 q1) λu s2 ⟨y,H2,I2,r2,q2⟩=>?_
 exact hf v u s2 x y H2 I2 r1 r2 q2
def zB {op:Operator} {r:R2} (ho:OpR X (binaryOp op) r) (ha:PE X a ta) (hb:PE X b tb):PE X (.BinOp a op b pos) (tOp r ta tb):=by
 intro pins s σ H Q I h
 exact wpAny_BinOp (binT ha hb I h λv u s2 x y H2 I2 rx ry q=>ho pins s2 σ H2 x y v u Q I2 rx ry q)
def pe_un {op:UnaryOp} {r:V->Hp->VK->Prop} (ho:UnR X (unaryOp op) r) (ha:PE X a ta):PE X (.UnaryOp op a pos) (tUn r ta):=by
 intro pins s σ H Q I h
 exact UnaryOp_ (thn (ha pins s σ H _ I h) λv s1 ⟨x,H1,I1,r1,q1⟩=>ho pins s1 σ H1 x v Q I1 r1 q1)
def opI {f:Value->Value->Sem Value} {C:Int->Int->Prop} {g:Int->Int->Int}
  (rule:∀ (i j:Int) (t u:Tok) (s:Shared) (Q:Value->Shared->Prop) (E:Value->Shared->Prop),C i j->Q (.int (g i j) s.toks) { s with toks:=s.toks+1 }->wpAny (model X.prog X.w) X.A (f (.int i t) (.int j u)) Q E s) :
  OpR X f (rI C λi j=>.int (g i j)):=by
 intro pins s σ H x y v u Q I rx ry h
 obtain⟨i,j,rfl,rfl,hc,q⟩:=h
 obtain⟨t,rfl⟩:=rx
 obtain⟨t',rfl⟩:=ry
 exact rule i j t t' s _ _ hc ⟨.int (g i j),H,I.tok _,⟨_,O⟩,q⟩
def opI0 {f:Value->Value->Sem Value} {g:Int->Int->Int}
  (rule:∀ (i j:Int) (t u:Tok) (s:Shared) (Q:Value->Shared->Prop) (E:Value->Shared->Prop),Q (.int (g i j) s.toks) { s with toks:=s.toks+1 }->wpAny (model X.prog X.w) X.A (f (.int i t) (.int j u)) Q E s) :
  OpR X f (rI0 λi j=>.int (g i j)):=by
 intro pins s σ H x y v u Q I rx ry h
 obtain⟨i,j,rfl,rfl,q⟩:=h
 obtain⟨t,rfl⟩:=rx
 obtain⟨t',rfl⟩:=ry
 exact rule i j t t' s _ _ ⟨.int (g i j),H,I.tok _,⟨_,O⟩,q⟩
def opB0 {f:Value->Value->Sem Value} {g:Int->Int->Bool}
  (rule:∀ (i j:Int) (t u:Tok) (s:Shared) (Q:Value->Shared->Prop) (E:Value->Shared->Prop),Q (.bool (g i j)) s->wpAny (model X.prog X.w) X.A (f (.int i t) (.int j u)) Q E s) :
  OpR X f (rI0 λi j=>.bl (g i j)):=by
 intro pins s σ H x y v u Q I rx ry h
 obtain⟨i,j,rfl,rfl,q⟩:=h
 obtain⟨t,rfl⟩:=rx
 obtain⟨t',rfl⟩:=ry
 exact rule i j t t' s _ _ ⟨.bl (g i j),H,I,O,q⟩
def CDiv (i j:Int):Prop:=0 < j/\j < 1073741824
def CPow (i j:Int):Prop:=0<=j/\j<=1000000/\i.natAbs < 2 ^ 64
def CMul (i j:Int):Prop:=(-(2 ^ 64) < i/\i < 2 ^ 64)\/(-(2 ^ 64) < j/\j < 2 ^ 64)
def CMul.ok {i j:Int} (h:CMul i j):IntMulOk i j:=by
 rcases h with ⟨h1,h2⟩ | ⟨h1,h2⟩
 ·exact .of_left (intBits_le_64 h1 h2)
 ·exact .of_right (intBits_le_64 h1 h2)
def xm (k:Nat):(0:Int)<=2 ^ k:=by
 rw[two_pow_cast]
 exact Int.natCast_nonneg _
def qt:OpR X (binaryOp .Add) (rI0 λi j=>.int (i+j)):=opI0 λ_ _ _ _ _ _ _ q=>add_int q
def WW:OpR X (binaryOp .Sub) (rI0 λi j=>.int (i - j)):=opI0 λ_ _ _ _ _ _ _ q=>sub_int q
def jG:OpR X (binaryOp .Mult) (rI CMul λi j=>.int (i * j)):=opI λ_ _ _ _ _ _ _ hc q=>mul_int q hc.ok
def Qh:OpR X (binaryOp .FloorDiv) (rI CDiv λi j=>.int (i / j)):=opI λi j _ _ _ _ _ hc q=>by
 have h1:(0:Int) < j:=hc.1
 have h2:j < 1073741824:=hc.2
 exact floordiv_int (by lia) (by rw[Er i (by lia)];exact q) (.inl (PyProof.noPylong_small (by lia)))
def qK:OpR X (binaryOp .Mod) (rI (λ_ j=>0 < j) λi j=>.int (i % j)):=opI λi j _ _ _ _ _ hc q=>by
 have h1:(0:Int) < j:=hc
 exact mod_int' (by lia) (by rw[Int.fmod_eq_emod_of_nonneg i (by lia)];exact q)
def YG:OpR X (binaryOp .Pow) (rI CPow λi j=>.int (i ^ j.toNat)):=opI λ_ _ _ _ _ _ _ hc q=>pow_int_small hc.1 hc.2.1 hc.2.2 q
def op_shr:OpR X (binaryOp .RShift) (rI (λ_ j=>0<=j) λi j=>.int (i / 2 ^ j.toNat)):=opI λi j _ _ _ _ _ hc q=>
 rshift_int hc (by rw[Er i (xm _)];exact q)
def op_and:OpR X (binaryOp .BitAnd) (rI0 λi j=>.int (Builtin.bitAnd i j)):=opI0 λ_ _ _ _ _ _ _ q=>and_int q
def unI {f:Value->Sem Value} {g:Int->Int}
  (rule:∀ (i:Int) (t:Tok) (s:Shared) (Q:Value->Shared->Prop) (E:Value->Shared->Prop),Q (.int (g i) s.toks) { s with toks:=s.toks+1 }->wpAny (model X.prog X.w) X.A (f (.int i t)) Q E s) :
  UnR X f (rU λi=>.int (g i)):=by
 intro pins s σ H x v Q I rx h
 obtain⟨i,rfl,q⟩:=h
 obtain⟨t,rfl⟩:=rx
 exact rule i t s _ _ ⟨.int (g i),H,I.tok _,⟨_,O⟩,q⟩
def un_neg:UnR X (unaryOp .USub) (rU λi=>.int (-i)):=unI λ_ _ _ _ _ q=>neg_int q
end
def scal:V->V->Bool
 | .non,.non=>true | .non,.int _=>true | .int _,.non=>true | .non,.bl _=>true | .bl _,.non=>true | .non,.str _=>true | .str _,.non=>true
 | .int _,.int _=>true | .bl _,.bl _=>true | .str _,.str _=>true | .byt _,.byt _=>true
 | .int _,.str _=>true | .str _,.int _=>true | .bl _,.str _=>true | .str _,.bl _=>true
 | _,_=>false
def rEq:R2:=λx y H Q=>scal x y=true/\Q (.bl (decide (x=y))) H
def rNe:R2:=λx y H Q=>scal x y=true/\Q (.bl (!decide (x=y))) H
def Xn {i j:Int}:decide (V.int i=V.int j)=(i == j):=by
 rw[BU]
 simp
def dec_bl {i j:Bool}:decide (V.bl i=V.bl j)=(i == j):=by
 rw[BU]
 simp
def Xo {i j:Str}:decide (V.str i=V.str j)=(i == j):=by
 rw[BU]
 simp
def Xp {i j:Array UInt8}:decide (V.byt i=V.byt j)=(i.toList == j.toList):=by
 rw[BU]
 cases i
 cases j
 simp
section
variable {X:Cx} {a b c:Expr} {ta tb tc:TE} {pos:Pos}
def qg {pins:List (Addr×Obj)} {σ:St} {H:Hp} {s:Shared} {Q:VK} {k k':Bool} (I:Inv X pins σ H s) (q:Q (.bl k) H) (e:k=k'):EP X pins σ Q (.bool k') s:=by
 subst e
 exact⟨.bl k,H,I,O,q⟩
def Qi:OpR X (compareOp .Eq) rEq:=by
 intro pins s σ H x y v u Q I rx ry h
 obtain⟨hs,q⟩:=h
 cases x with
 | non=>
  cases rx
  cases y with
  | non=>cases ry;exact PySem.EqNone.eq_none_none (qg I q (by simp))
  | bl j=>cases ry;exact PySem.EqNone.eq_none_bool (qg I q (by simp))
  | int j=>obtain⟨t',rfl⟩:=ry;exact PySem.EqNone.eq_none_int (qg I q (by simp))
  | str j=>obtain⟨t',rfl⟩:=ry;exact PySem.EqNone.eq_none_str (qg I q (by simp))
  | _=>exact absurd (show false=true from hs) AS
 | bl i=>
  cases rx
  cases y with
  | non=>cases ry;exact PySem.EqNone.eq_bool_none (qg I q (by simp))
  | bl j=>cases ry;exact eq_bool (qg I q dec_bl)
  | str j=>obtain⟨t',rfl⟩:=ry;exact PySem.EqMixed.eq_bool_str (qg I q (by simp))
  | _=>exact absurd (show false=true from hs) AS
 | int i=>
  obtain⟨t,rfl⟩:=rx
  cases y with
  | non=>cases ry;exact PySem.EqNone.eq_int_none (qg I q (by simp))
  | int j=>obtain⟨t',rfl⟩:=ry;exact eq_int (qg I q Xn)
  | str j=>obtain⟨t',rfl⟩:=ry;exact PySem.EqMixed.eq_int_str (qg I q (by simp))
  | _=>exact absurd (show false=true from hs) AS
 | str i=>
  obtain⟨t,rfl⟩:=rx
  cases y with
  | non=>cases ry;exact PySem.EqNone.eq_str_none (qg I q (by simp))
  | bl j=>cases ry;exact PySem.EqMixed.eq_str_bool (qg I q (by simp))
  | int j=>obtain⟨t',rfl⟩:=ry;exact PySem.EqMixed.eq_str_int (qg I q (by simp))
  | str j=>obtain⟨t',rfl⟩:=ry;exact eq_str (qg I q Xo)
  | _=>exact absurd (show false=true from hs) AS
 | byt i=>
  obtain⟨t,rfl⟩:=rx
  cases y with
  | byt j=>obtain⟨t',rfl⟩:=ry;exact PySem.W.eq_bytes (qg I q Xp)
  | _=>exact absurd (show false=true from hs) AS
 | _=>cases y <;> exact absurd (show false=true from hs) AS
def op_ne:OpR X (compareOp .NotEq) rNe:=by
 intro pins s σ H x y v u Q I rx ry h
 obtain⟨hs,q⟩:=h
 cases x with
 | non=>
  cases rx
  cases y with
  | non=>cases ry;exact PySem.EqNone.ne_none_none (qg I q (by simp))
  | bl j=>cases ry;exact PySem.EqNone.ne_none_bool (qg I q (by simp))
  | int j=>obtain⟨t',rfl⟩:=ry;exact PySem.EqNone.ne_none_int (qg I q (by simp))
  | str j=>obtain⟨t',rfl⟩:=ry;exact PySem.EqNone.ne_none_str (qg I q (by simp))
  | _=>exact absurd (show false=true from hs) AS
 | bl i=>
  cases rx
  cases y with
  | non=>cases ry;exact PySem.EqNone.ne_bool_none (qg I q (by simp))
  | bl j=>cases ry;exact ne_bool (qg I q (BQ not dec_bl))
  | str j=>obtain⟨t',rfl⟩:=ry;exact PySem.EqMixed.ne_bool_str (qg I q (by simp))
  | _=>exact absurd (show false=true from hs) AS
 | int i=>
  obtain⟨t,rfl⟩:=rx
  cases y with
  | non=>cases ry;exact PySem.EqNone.ne_int_none (qg I q (by simp))
  | int j=>obtain⟨t',rfl⟩:=ry;exact ne_int (qg I q (BQ not Xn))
  | str j=>obtain⟨t',rfl⟩:=ry;exact PySem.EqMixed.ne_int_str (qg I q (by simp))
  | _=>exact absurd (show false=true from hs) AS
 | str i=>
  obtain⟨t,rfl⟩:=rx
  cases y with
  | non=>cases ry;exact PySem.EqNone.ne_str_none (qg I q (by simp))
  | bl j=>cases ry;exact PySem.EqMixed.ne_str_bool (qg I q (by simp))
  | int j=>obtain⟨t',rfl⟩:=ry;exact PySem.EqMixed.ne_str_int (qg I q (by simp))
  | str j=>obtain⟨t',rfl⟩:=ry;exact ne_str (qg I q (BQ not Xo))
  | _=>exact absurd (show false=true from hs) AS
 | byt i=>
  obtain⟨t,rfl⟩:=rx
  cases y with
  | byt j=>obtain⟨t',rfl⟩:=ry;exact PySem.W.ne_bytes (qg I q (BQ not Xp))
  | _=>exact absurd (show false=true from hs) AS
 | _=>cases y <;> exact absurd (show false=true from hs) AS
def op_lt:OpR X (compareOp .Lt) (rI0 λi j=>.bl (decide (i < j))):=opB0 λ_ _ _ _ _ _ _ q=>lt_int q
def op_le:OpR X (compareOp .LtE) (rI0 λi j=>.bl (decide (i<=j))):=opB0 λ_ _ _ _ _ _ _ q=>le_int q
def op_gt:OpR X (compareOp .Gt) (rI0 λi j=>.bl (decide (j < i))):=opB0 λ_ _ _ _ _ _ _ q=>gt_int q
def op_ge:OpR X (compareOp .GtE) (rI0 λi j=>.bl (decide (j<=i))):=opB0 λ_ _ _ _ _ _ _ q=>ge_int q
def op_isN:OpR X (compareOp .Is) (λx y H Q=>y=.non/\Q (.bl (decide (x=.non))) H):=by
 intro pins s σ H x y v u Q I rx ry h
 obtain⟨rfl,q⟩:=h
 cases ry
 refine is_none_gen (qg I q ?_)
 cases x <;> first
  | (cases rx;rfl)
  | (obtain⟨t,rfl⟩:=rx;rfl)
def qi (b:Expr) {op:CmpOp} (h:op ≠ .In:=by decide) (h2:op ≠ .NotIn:=by decide):behindInMarks op b=false:=by
 have e1:(op == CmpOp.In)=false:=by cases op <;> first | rfl | exact absurd rfl h
 have e2:(op == CmpOp.NotIn)=false:=by cases op <;> first | rfl | exact absurd rfl h2
 cases b <;> simp[behindInMarks,e1,e2]
def ZB {op:CmpOp} {r:R2} (ho:OpR X (compareOp op) r) (ha:PE X a ta) (hb:PE X b tb) (hm:behindInMarks op b=false):PE X (.Compare a [op] [b] pos) (tOp r ta tb):=by
 intro pins s σ H Q I h
 exact wpAny_Compare1 (binT ha hb I h λv u s2 x y H2 I2 rx ry q=>ho pins s2 σ H2 x y v u Q I2 rx ry q) hm
def tTest (t:TE):TT:=λσ H Q=>t σ H λx H'=>∃ k,x=.bl k/\Q k H'
def zH {op:CmpOp} {r:R2} (ho:OpR X (compareOp op) r) (ha:PE X a ta) (hb:PE X b tb) (hm:behindInMarks op b=false):PT X (.Compare a [op] [b] pos) (tTest (tOp r ta tb)):=by
 intro pins s σ H Q I h
 refine wpAny_isTrue_Compare1 (thn (ha pins s σ H _ I h) λv s1 ⟨x,H1,I1,r1,q1⟩=>thn (hb pins s1 σ H1 _ I1 q1) λu s2 ⟨y,H2,I2,r2,q2⟩=>
  thn (ho pins s2 σ H2 x y v u _ I2 r1 r2 q2) λc s3 ⟨z,H3,I3,r3,k,e,q3⟩=>?_) hm
 subst e
 cases r3
 exact B9 ⟨H3,I3,q3⟩
def tChain (r r':R2) (ta tb tc:TE):TE:=λσ H Q=>ta σ H λx H1=>tb σ H1 λy H2=>r x y H2 λz H3=>∃ k,z=.bl k /\
 (if k=true then tc σ H3 λw' H4=>r' y w' H4 Q else Q (.bl false) H3)
def pe_chain {op op':CmpOp} {r r':R2} (ho:OpR X (compareOp op) r) (ho':OpR X (compareOp op') r') (ha:PE X a ta) (hb:PE X b tb) (hc:PE X c tc)
  (hm:lastMarks [op,op'] [b,c]=false:=by with_unfolding_all rfl):PE X (.Compare a [op,op'] [b,c] pos) (tChain r r' ta tb tc):=by
 intro pins s σ H Q I h
 refine Compare_chain (thn (ha pins s σ H _ I h) λv s1 ⟨x,H1,I1,r1,q1⟩=>chain_link (thn (hb pins s1 σ H1 _ I1 q1) λu s2 ⟨y,H2,I2,r2,q2⟩=>
  thn (ho pins s2 σ H2 x y v u _ I2 r1 r2 q2) λd s3 ⟨z,H3,I3,r3,k,e,q3⟩=>?_)) hm
 subst e
 cases r3
 refine B9 ?_
 cases k with
 | false=>exact ite_ff ⟨.bl false,H3,I3,O,q3⟩
 | true=>exact ite_tt (chain_last (thn (hc pins s3 σ H3 _ I3 q3) λw' s4 ⟨z',H4,I4,r4,q4⟩=>ho' pins s4 σ H4 y z' u w' Q I4 r2 r4 q4))
def YH:(sizeLine:Nat) < 2 ^ 63:=by rw[Dw];decide
def wB:OpR X (binaryOp .Add) (λx y H Q=>∃ i j,x=.str i/\y=.str j/\i.length+j.length<=sizeLine/\Q (.str (i++j)) H):=by
 intro pins s σ H x y v u Q I rx ry h
 obtain⟨i,j,rfl,rfl,hz,q⟩:=h
 obtain⟨t,rfl⟩:=rx
 obtain⟨t',rfl⟩:=ry
 exact add_str (λt' tk=>⟨.str (i++j),H,I.tok _,⟨_,O⟩,q⟩) hz
def vals1 {x:V} {us:List Value} (r:qF [x] us):∃ u,us=[u]/\RelV x u:=by
 cases r with
 | cons r1 r2=>cases r2;exact⟨_,rfl,r1⟩
def vals2 {x y:V} {us:List Value} (r:qF [x,y] us):∃ u w',us=[u,w']/\RelV x u/\RelV y w':=by
 cases r with
 | cons r1 r2=>
  cases r2 with
  | cons r3 r4=>cases r4;exact⟨_,_,rfl,r1,r3⟩
def call_abs:j6 X (.builtin "abs") (λxs H Q=>∃ i,xs=[.int i]/\Q (.int (if i < 0 then -i else i)) H):=by
 intro pins s σ H xs us Q I r h
 obtain⟨i,rfl,q⟩:=h
 obtain⟨u,rfl,t,rfl⟩:=vals1 r
 exact call_abs_int λu tk=>⟨.int (if i < 0 then -i else i),H,I.tok _,⟨_,O⟩,q⟩
def LenV (K:Fs) (x:V) (H:Hp) (n:Nat):Prop:=
 match x with
 | .str y=>y.length<=sizeLine/\n=y.length
 | .byt y=>y.size<=sizeLine/\n=y.size
 | .ref p=>(∃ xs,SqL K H p xs/\n=xs.length)\/∃ xs,SqT K H p xs/\n=xs.length
 | _=>False
def call_len:j6 X (.builtin "len") (λxs H Q=>∃ x n,xs=[x]/\LenV X.K x H n/\Q (.int n) H):=by
 intro pins s σ H xs us Q I r h
 obtain⟨x,n,rfl,e,q⟩:=h
 obtain⟨u,rfl,rx⟩:=vals1 r
 have hl:=YH
 have hs:sizeLine=16777216:=Dw
 cases x with
 | str y=>
  obtain⟨t,rfl⟩:=rx
  obtain⟨hy,e'⟩:y.length<=sizeLine/\n=y.length:=e
  subst e'
  exact len_str (by lia) ⟨.int _,H,I.tok _,⟨_,O⟩,q⟩
 | byt y=>
  obtain⟨t,rfl⟩:=rx
  obtain⟨hy,e'⟩:y.size<=sizeLine/\n=y.size:=e
  subst e'
  exact PySem.W.len_bytes (by lia) ⟨.int _,H,I.tok _,⟨_,O⟩,q⟩
 | ref p=>
  cases rx
  have e':(∃ xs,SqL X.K H p xs/\n=xs.length)\/∃ xs,SqT X.K H p xs/\n=xs.length:=e
  rcases e' with ⟨xs,hx,e'⟩ | ⟨xs,hx,e'⟩
  ·subst e'
   obtain⟨its,r',pl,hz⟩:=I.list hx
   have hlen:=r'.length
   exact Calls.call_len_list pl.isList (by simp only[List.size_toArray];lia) ⟨.int xs.length,H,I.tok _,⟨_,by simp only[List.size_toArray];rw[hlen]⟩,q⟩
  ·subst e'
   obtain⟨its,r',pl,hz⟩:=I.tuple hx
   have hlen:=r'.length
   exact len_tuple pl (by simp only[List.size_toArray];lia) ⟨.int xs.length,H,I.tok _,⟨_,by simp only[List.size_toArray];rw[hlen]⟩,q⟩
 | _=>exact (show False from e).elim
end
structure ObjM (h:Heap) (x dx C:Addr) (mA:Str->Option Value):Prop where
 obj:h.get? x=some (PySem.W.instObj C dx)
 ns:h.Ns1 dx mA
 ne:dx ≠ x
def Xq {h:Heap} {dx:Addr} {mA:Str->Option Value} (n:h.Ns1 dx mA):∃ od,h.get? dx=some od/\∀ name,PySem.W.lookIn name od=some (mA name):=by
 obtain⟨o,es,ep,ho,hd,hk,_,hm⟩:=n
 refine⟨o,ho,λname=>?_⟩
 have e:=hm name
 unfold nsFind findBy at e
 rw[<- Array.find?_toList] at e
 unfold PySem.W.lookIn
 rw[hd]
 dsimp only
 split
 ·rename_i y q
  rw[q] at e
  exact BQ some e
 ·rename_i q
  rw[q] at e
  have a:es.toList.any (·.refKey)=false:=by
   rw[List.any_eq_false]
   intro y hy
   obtain⟨z,t,hkey⟩:=hk y (Array.mem_toList_iff.mp hy)
   simp[DictEntry.refKey,hkey]
  have a':¬ es.toList.any (·.refKey)=true:=by rw[a];exact AS
  rw[if_neg a']
  exact BQ some e
def ObjM.look {h:Heap} {x dx C:Addr} {mA:Str->Option Value} (I:ObjM h x dx C mA):∃ od,PySem.W.InstAt h x (PySem.W.instObj C dx) C (some od)/\∀ name,PySem.W.lookIn name od=some (mA name):=
 let ⟨od,ho,hl⟩:=Xq I.ns
 ⟨od,⟨I.obj,rfl,rfl,ho⟩,hl⟩
section
variable {prog:Program} {w:World} {A:Around} {E:Value->Shared->Prop} {s:Shared} {K:Fs} {x dx C f:Addr} {mA:Str->Option Value} {name:Str} {v:Value}
end
def Xb.some_of {v:V} {o:Option Value} (r:Xb (some v) o):∃ u,o=some u/\RelV v u:=by
 cases o with
 | none=>exact (show False from r).elim
 | some u=>exact⟨u,O,r⟩
section
variable {P:Program} {w:World} {H H':Hp} {h h':Heap} {a C dx:Addr} {fs fs':List (Str × V)}
def ins_get (hok:HOk P w H h) (e:H a=some (.ins C dx fs)):∃ mA,ObjM h a dx C mA/\(∀ f,Xb (fs.lookup f) (mA f))/\PySem.Within mA (fs.map (·.1))/\fs.length<=1000/\H dx=some (.own a):=by
 obtain⟨d,z,ne,ob,mA,n,r,q⟩:=(show qO P w H h a (.ins C dx fs) from hok a _ e)
 exact⟨mA,⟨ob,n,ne⟩,r,q,z,d⟩
end
structure Cls (K:Fs) (C:Addr):Prop where
 pg:PySem.W.plainGet K C Str.empty=true
 hd:PySem.W.hasDictIn K C=true
 po:PySem.W.plainOver K C=true
 sa:PySem.W.findIn K (.ref C) "__setattr__" = some (some (.builtin "object.__setattr__"))
def Cls.get {K:Fs} {C:Addr} (c:Cls K C) (f:Str):PySem.W.plainGet K C f=true:=c.pg
section
variable {X:Cx} {pins:List (Addr × Obj)} {σ:St} {H:Hp} {s:Shared} {a C dx:Addr} {fs:List (Str × V)} {f:Str} {v:V} {A:Around} {E:Value->Shared->Prop}
end
section
variable {X:Cx} {o e value:Expr} {f:Str} {pos pos' tpos:Pos} {ta tv:TE}
end
section
variable {X:Cx} {pins:List (Addr × Obj)} {σ:St} {H:Hp} {s:Shared} {A:Around} {E:Value->Shared->Prop} {Q:Value->Shared->Prop} {c:Value} {b:Bool}
inductive YI (K:Fs) (H:Hp):V->Value->Prop where
 | non:YI K H .non (.type "NoneType")
 | bl (x:Bool):YI K H (.bl x) (.type "bool")
 | int (i:Int):YI K H (.int i) (.type "int")
 | str (x:Str):YI K H (.str x) (.type "str")
 | flt (x:UInt64):YI K H (.flt x) (.type "float")
 | lst {a:Addr} {xs:List V} (e:H a=some (.lst xs)):YI K H (.ref a) (.type "list")
 | frz {a:Addr} {o:Obj} {xs:List V} (e:H a=some (.frz o (.lst xs))):YI K H (.ref a) (.type "list")
 | tup {a:Addr} {xs:List V} (e:H a=some (.tup xs)):YI K H (.ref a) (.type "tuple")
 | dK {a:Addr} {kvs:List (Key×V)} (e:H a=some (.dK kvs)):YI K H (.ref a) (.type "dict")
 | dT {a:Addr} {kvs:List (List Key×V)} (e:H a=some (.dT kvs)):YI K H (.ref a) (.type "dict")
 | ins {a C dx:Addr} {fs:List (Str×V)} (e:H a=some (.ins C dx fs)) (cl:Cls K C) (ha:PySem.W.findIn K (.ref C) "__class__" = some (some (.builtin "object.__class__")))
   (hn:PySem.W.specialIn K (.builtin "object.__class__") "__get__" = some (some (.builtin "getset_descriptor.__get__"))) (htk:PySem.W.takesIn K (.builtin "object.__class__")=some true)
   (hm:PySem.W.mroIn K C (.type "object")=some true):YI K H (.ref a) (.ref C)
def Xr {x:V} {u t:Value} (I:Inv X pins σ H s) (rx:RelV x u) (ty:YI X.K H x t) (e:PySem.W.kitOne X.K t c=some b) (h:∀ tk,Q (.bool b) { s with toks:=tk }) :
  wpAny (model X.prog X.w) A (call (.builtin "isinstance") [u,c]) Q E s:=by
 cases ty with
 | non=>cases (show u=Value.none from rx);exact Bl PySem.W.kitx_none I.kIn True.intro e (λz=>nomatch z) h
 | bl y=>cases (show u=Value.bool y from rx);exact Bl PySem.W.kitx_bool I.kIn True.intro e (λz=>nomatch z) h
 | int i=>obtain⟨t,q⟩:=(show ∃ t,u=Value.int i t from rx);cases q;exact Bl PySem.W.kitx_int I.kIn True.intro e (λz=>nomatch z) h
 | str y=>obtain⟨t,q⟩:=(show ∃ t,u=Value.str y t from rx);cases q;exact Bl PySem.W.kitx_str I.kIn True.intro e (λz=>nomatch z) h
 | flt y=>obtain⟨t,q⟩:=(show ∃ t,u=Value.float y t from rx);cases q;exact Bl PySem.W.kitx_float I.kIn True.intro e (λz=>nomatch z) h
 | @lst a xs ea=>
  cases (show u=Value.ref a from rx)
  obtain⟨_,_,n,_,h1⟩:=(show qO X.prog X.w H s.heap a (.lst xs) from I.hok a _ ea)
  exact Bl PySem.W.kitx_list I.kIn ⟨_,h1,rfl⟩ e (λz=>nomatch z) h
 | @frz a ob xs ea=>
  cases (show u=Value.ref a from rx)
  obtain⟨_,_,_,n,_,h1⟩:=(show qO X.prog X.w H s.heap a (.frz ob (.lst xs)) from I.hok a _ ea)
  exact Bl PySem.W.kitx_list I.kIn ⟨_,h1,rfl⟩ e (λz=>nomatch z) h
 | @tup a xs ea=>
  cases (show u=Value.ref a from rx)
  obtain⟨_,_,_,p⟩:=(show qO X.prog X.w H s.heap a (.tup xs) from I.hok a _ ea)
  obtain⟨o,h1,h2,_⟩:=p
  exact Bl PySem.W.kitx_tuple I.kIn ⟨o,h1,h2⟩ e (λz=>nomatch z) h
 | @dK a kvs ea=>
  cases (show u=Value.ref a from rx)
  obtain⟨_,_,vs,_,p⟩:=(show qO X.prog X.w H s.heap a (.dK kvs) from I.hok a _ ea)
  obtain⟨o,es,ep,h1,h2,_⟩:=p
  exact Bl PySem.W.kitx_dict I.kIn ⟨o,h1,h2.1⟩ e (λz=>nomatch z) h
 | @dT a kvs ea=>
  cases (show u=Value.ref a from rx)
  obtain⟨_,_,xs,_,o,es,ep,h1,h2,_⟩:=(show qO X.prog X.w H s.heap a (.dT kvs) from I.hok a _ ea)
  exact Bl PySem.W.kitx_dict I.kIn ⟨o,h1,h2.1⟩ e (λz=>nomatch z) h
 | @ins a C dx fs ea cl ha hn htk hm=>
  cases (show u=Value.ref a from rx)
  obtain⟨mA,Oo,_⟩:=ins_get I.hok ea
  obtain⟨od,J,_⟩:=Oo.look
  exact Bl (PySem.W.kitx_own (cl.get _) cl.hd ha hn htk hm) I.kIn J e (λz=>nomatch z) h
end
structure QP (k:Nat) (A:Around):Prop where
 hd:A.handled=none
 dp:A.depth+3 * k+5 < recursionLimit
 un:A.units+16 * k+200 < cLine
def QP.mono {j k:Nat} {A:Around} (r:QP k A) (h:j<=k):QP j A:=⟨r.hd,by have:=r.dp;lia,by have:=r.un;lia⟩
def QP.deeper {k:Nat} {A:Around} (r:QP (k+1) A) (env:Env):QP k (A.deeper env):=
 ⟨r.hd,by have:=r.dp;show A.depth+1+3 * k+5 < _;lia,by have:=r.un;show A.units+3+16 * k+200 < _;lia⟩
def QP.depth {k:Nat} {A:Around} (r:QP k A):A.depth < recursionLimit:=by have:=r.dp;lia
def QP.units {k:Nat} {A:Around} (r:QP k A):A.units+64 < cLine:=by have:=r.un;lia
def tNil:TA:=λ_ H Q=>Q [] H
def tCons (ta:TE) (tr:TA):TA:=λσ H Q=>ta σ H λx H1=>tr σ H1 λxs H2=>Q (x :: xs) H2
section
variable {X:Cx} {e:Expr} {es:List Expr} {te:TE} {t:TA} {pos:Pos}
def zg:PA X [] tNil:=λ_ _ _ _ H Q I h=>Calls.spliced_nil ⟨[],H,I,.nil,h⟩
def zd (ha:PE X e te) (hr:PA X es t) (hs:starEach (e :: es) X.env=(false,eval e X.env) :: starEach es X.env:=by rfl):PA X (e :: es) (tCons te t):=by
 intro pos pins s σ H Q I h
 rw[hs]
 show wpAny _ _ (spliced ((false,eval e X.env) :: backTo pos (starEach es X.env))) _ _ s
 refine Calls.spliced_cons (thn (ha pins s σ H _ I h) λu s1 ⟨x,H1,I1,r1,q1⟩=>?_)
 exact thn (hr pos pins s1 σ H1 _ I1 q1) λus s2 ⟨xs,H2,I2,r2,q2⟩=>⟨x :: xs,H2,I2,.cons r1 r2,q2⟩
def tTup (t:TA):TE:=λσ H Q=>t σ H λxs H1=>xs.length<=sizeLine/\∀ p,H1 p=none->Q (.ref p) (upd H1 p (.tup xs))
def tLst (t:TA):TE:=λσ H Q=>t σ H λxs H1=>xs.length<=sizeLine/\∀ p,H1 p=none->Q (.ref p) (upd H1 p (.lst xs))
def ql {x1} (h:PA X es t):PE X (.Tuple es x1 pos) (tTup t):=by
 intro pins s σ H Q I hq
 refine wpAny_Tuple_spliced (thn (h pos pins s σ H _ I hq) λus s1 ⟨xs,H1,I1,r,z,q⟩=>⟨by rw[<- r.length];exact z,?_⟩)
 have hf:H1 s1.heap.objs.size=none:=I1.hok.fresh (AM _)
 refine⟨.ref s1.heap.objs.size,upd H1 s1.heap.objs.size (.tup xs),I1.laid (t':=s1.toks) (λb u e=>AC _ e) (AM _) ?_,O,q _ hf⟩
 exact⟨z,us,r,⟨_,AN _ rfl,O,⟨_,O⟩,O⟩⟩
def zS (h:PA X es t):PE X (.List es pos) (tLst t):=by
 intro pins s σ H Q I hq
 refine wpAny_List_spliced (thn (h pos pins s σ H _ I hq) λus s1 ⟨xs,H1,I1,r,z,q⟩=>⟨by rw[<- r.length];exact z,?_⟩)
 have hf:H1 s1.heap.objs.size=none:=I1.hok.fresh (AM _)
 refine⟨.ref s1.heap.objs.size,upd H1 s1.heap.objs.size (.lst xs),I1.laid (t':=s1.toks) (λb u e=>AC _ e) (AM _) ?_,O,q _ hf⟩
 exact⟨z,us,0,r,AN _ rfl⟩
end
abbrev Sp:=List V->Hp->VK->XK->Prop
abbrev CXT:=List Env->Hp->Shared->XK->Value->Shared->Prop
structure Env0 (P:Program) (w:World) (K:Fs) (mg:Str->Option Value) (base:Heap) (A:Around) (outer:List Env) (s:Shared) (H:Hp):Prop where
 frames:A.frames=some outer
 mod:Mod K mg base
 bs:∀ b o,base.get? b=some o->s.heap.get? b=some o/\H b=none
 bsz:base.objs.size<=s.heap.objs.size
 funs:s.heap.FunFrames base outer
 frf:∀ b ∈ frs outer,H b=none
 hok:HOk P w H s.heap
 bare:AllBare s.gens
def CE (outer:List Env) (P:Program) (w:World) (H:Hp) (s:Shared) (Q:VK) (u:Value) (s':Shared):Prop:=
 ∃ v H',s'.os=s.os/\AllBare s'.gens/\Un (frs outer) [] H H' s.heap s'.heap/\HOk P w H' s'.heap/\RelV v u/\Q v H'
def CR (CX:CXT) (outer:List Env) (P:Program) (w:World) (H:Hp) (s:Shared) (Q:VK) (E:XK) (r:Result) (s':Shared):Prop:=
 match r with
 | .ok (.ret u)=>CE outer P w H s Q u s'
 | .ok _=>False
 | .error e=>CX outer H s E e s'
structure ji (P:Program) (w:World) (K:Fs) (mg:Str->Option Value) (base:Heap) (CX:CXT) (k:Nat) (f:Addr) (fd:FuncData) (ps:List Str) (sp:Sp):Prop where
 len:∀ vs H Q E,sp vs H Q E->vs.length=ps.length
 run:∀ (A:Around) (outer:List Env) (s:Shared) (H:Hp) (args:Args) (us:List Value) (vs:List V) (Q:VK) (E:XK),QP k A->Env0 P w K mg base A outer s H->BindsTo s fd args (ps.zip us)->qF vs us->sp vs H Q E ->
  codeAny (model P w) A (.call (.ref f) args) (CR CX outer P w H s Q E) s
section
variable {X:Cx} {pins:List (Addr × Obj)} {σ:St} {H:Hp} {s s':Shared}
def Inv.env0 (I:Inv X pins σ H s):Env0 X.prog X.w X.K X.mg X.base X.A X.stack s H:=
 ⟨I.ok.frames,I.ok.mod,I.bs,Aa I.ok.bsz I.sz,I.stack,I.stkFree,I.hok,I.bare⟩
def Inv.after {Q:VK} {u:Value} (I:Inv X pins σ H s) (h:CE X.stack X.prog X.w H s Q u s'):EP X pins σ Q u s':=by
 obtain⟨v,H',os,bare,un,hok,r,q⟩:=h
 obtain⟨hh,g,d,t,os'⟩:=s'
 obtain rfl:os'=s.os:=os
 exact⟨v,H',I.call (h':=hh) (g':=g) (d':=d) (t':=t) (ch:=[]) un hok bare (λb z=>absurd z (by simp)),r,q⟩
end
def tCall (sp:Sp) (dvs:List V) (E:XK) (t:TA):TE:=λσ H Q=>t σ H λvs H1=>sp (vs++dvs) H1 Q E
def Binds (K:Fs) (fd:FuncData) (ps:List Str) (ds:List Value):Prop:=
 ∀ (s:Shared) (us:List Value),K.In s.heap->(us++ds).length=ps.length->BindsTo s fd ⟨us,[]⟩ (ps.zip (us++ds))
def Binds.all {K:Fs} {fd:FuncData} {ps:List Str} (h:∀ us:List Value,us.length=ps.length->bindArgs fd ⟨us,[]⟩=pure (ps.zip us)):Binds K fd ps []:=λs us _ hl=>by
 rw[Bt] at hl ⊢
 exact .of_eq (h us hl)
def Xs (CX:CXT) (X:Cx) (E:XK):Prop:=∀ (pins:List (Addr×Obj)) (σ:St) (H:Hp) (s:Shared) (e:Value) (s':Shared),Inv X pins σ H s->CX X.stack H s E e s'->X.xe e s'
section
variable {X:Cx} {CX:CXT} {k:Nat} {f C:Addr} {fd:FuncData} {ps:List Str} {sp:Sp} {dvs:List V} {ds:List Value} {E:XK} {x m:Str} {p pos apos:Pos} {e o:Expr} {es:List Expr} {ta:TE} {t:TA}
def run_fn {pins:List (Addr×Obj)} {σ:St} {H:Hp} {s:Shared} {Q:VK} {us:List Value} {vs:List V} (F:ji X.prog X.w X.K X.mg X.base CX k f fd ps sp) (hr:QP k X.A) (hb:Binds X.K fd ps ds) (hd:qF dvs ds) (hx:Xs CX X E)
  (I:Inv X pins σ H s) (r:qF vs us) (h:sp (vs++dvs) H Q E):wpAny (model X.prog X.w) X.A (call (.ref f) us) (EP X pins σ Q) X.xe s:=by
 have r2:qF (vs++dvs) (us++ds):=r.append hd
 have hl:(us++ds).length=ps.length:=by rw[<- r2.length];exact F.len _ _ _ _ h
 refine wpAny_call (Ca (F.run X.A X.stack s H ⟨us,[]⟩ (us++ds) (vs++dvs) Q E hr I.env0 (hb s us I.kIn hl) r2 h) λr s' hq=>?_)
 cases r with
 | error e=>exact hx pins σ H s e s' I hq
 | ok fl=>
  cases fl with
  | ret u=>exact I.after hq
  | next=>exact False.elim hq
  | brk=>exact False.elim hq
  | cont=>exact False.elim hq
def pe_call (F:ji X.prog X.w X.K X.mg X.base CX k f fd ps sp) (hr:QP k X.A) (hg:Gl X x) (hm:X.mg x=some (.ref f)) (hk:PySem.W.keepIn X.K (.ref f)=true) (hb:Binds X.K fd ps ds) (hd:qF dvs ds) (hx:Xs CX X E)
  (ha:PA X (e :: es) t) (hdb:(x == ("__debug__" : Str))=false:=by decide) (he:starEach (e :: es) X.env=(false,eval e X.env) :: starEach es X.env:=by rfl) (hpl:(backTo pos (starEach es X.env)).any (·.1)=false:=by rfl) :
  PE X (.Call (.Name x p) (e :: es) [] pos) (tCall sp dvs E t):=by
 intro pins s σ H Q I h
 refine Ec (Xh I hg hm ?_ hdb)
 refine PySem.W.callWith_K (h₀:=X.base) I.ok.mod.kin hk (thn (ha pos pins s σ H _ I h) λus s1 ⟨vs,H1,I1,r,q⟩=>⟨I1.kIn,?_⟩) he hpl
 exact run_fn F hr hb hd hx I1 r q
end
section
variable {X:Cx} {CX:CXT} {k:Nat} {f C:Addr} {fd:FuncData} {ps ks:List Str} {sp:Sp} {E:XK} {x m:Str} {p pos apos kpos:Pos} {e o:Expr} {es:List Expr} {kws:List Keyword} {te ta:TE} {t tk:TA} {nm:Option Str}
variable {g:List Value->List Value->List Value} {gV:List V->List V->List V}
end
structure zC (N P:List Str) (sc:Scope):Prop where
 kind:sc.kind=.function
 co:sc.isCoroutine=false
 gen:sc.isGenerator=false
 nd:N.Nodup
 pre:N.take P.length=P
 par:∀ x ∈ P,sc.names.lookup x=some .local\/sc.names.lookup x=some .cell
 nofree:∀ y ∈ sc.names,y.2 ≠ .free
theorem WX {kindOf:Str->Option NameKind} {x:Str}:∀ {binds:List (Str×Value)} {m:Str->Option Value},(∀ v,(x,v) ∉ binds)->bindL kindOf binds m x=m x
 | [],_,_=>rfl
 | (n,v) :: r,m,h=>by
  unfold bindL
  rw[WX λw hw=>h w (Ah _ hw)]
  split
  ·have:x ≠ n:=by rintro rfl;exact h v Af
   simp[this]
  ·rfl
theorem WY {kindOf:Str->Option NameKind} {x:Str}:∀ {binds:List (Str×Value)} {m:Str->Option Value},(∀ v,(x,v) ∉ binds)->bindC kindOf binds m x=m x
 | [],_,_=>rfl
 | (n,v) :: r,m,h=>by
  unfold bindC
  rw[WY λw hw=>h w (Ah _ hw)]
  split
  ·rfl
  ·have:x ≠ n:=by rintro rfl;exact h v Af
   simp[this]
def WZ {kindOf:Str->Option NameKind} {x:Str} {v:Value}:∀ {P:List Str} {vs:List Value} {i:Nat} {m:Str->Option Value},P.Nodup->P[i]? = some x->vs[i]? = some v->kindOf x=some .local ->
  bindL kindOf (P.zip vs) m x=some v
 | [],_,_,_,_,h,_,_=>by simp at h
 | _ :: _,[],_,_,_,_,h,_=>by simp at h
 | p :: P,w :: vs,0,m,nd,h1,h2,hk=>by
  simp at h1 h2;subst h1;subst h2
  show bindL kindOf ((p,w) :: P.zip vs) m p=_
  unfold bindL
  rw[WX λv hv=>(BP.mp nd).1 (CH hv).1,if_pos hk]
  simp
 | p :: P,w :: vs,i+1,m,nd,h1,h2,hk=>by
  show bindL kindOf ((p,w) :: P.zip vs) m x=_
  unfold bindL
  exact WZ (i:=i) (BP.mp nd).2 (by simpa using h1) (by simpa using h2) hk
def W0 {kindOf:Str->Option NameKind} {x:Str} {v:Value}:∀ {P:List Str} {vs:List Value} {i:Nat} {m:Str->Option Value},P.Nodup->P[i]? = some x->vs[i]? = some v->kindOf x ≠ some .local ->
  bindC kindOf (P.zip vs) m x=some v
 | [],_,_,_,_,h,_,_=>by simp at h
 | _ :: _,[],_,_,_,_,h,_=>by simp at h
 | p :: P,w :: vs,0,m,nd,h1,h2,hk=>by
  simp at h1 h2;subst h1;subst h2
  show bindC kindOf ((p,w) :: P.zip vs) m p=_
  unfold bindC
  rw[WY λv hv=>(BP.mp nd).1 (CH hv).1,if_neg hk]
  simp
 | p :: P,w :: vs,i+1,m,nd,h1,h2,hk=>by
  show bindC kindOf ((p,w) :: P.zip vs) m x=_
  unfold bindC
  exact W0 (i:=i) (BP.mp nd).2 (by simpa using h1) (by simpa using h2) hk
def start (N:List Str) (vs:List V):St:=vs.map some++List.replicate (N.length - vs.length) none
def cxOf (CX:CXT) (P:Program) (w:World) (K:Fs) (mg:Str->Option Value) (base:Heap) (N:List Str) (qual:Str) (scope:Scope) (f:Addr) (cd:Value) (A:Around) (outer:List Env) (s:Shared) (H:Hp) (E:XK):Cx where
 prog:=P
 w:=w
 K:=K
 mg:=mg
 base:=base
 A:=A.deeper (envOfC qual scope s.heap.objs.size f cd)
 N:=N
 s₀:=s
 H₀:=H
 env:=envOfC qual scope s.heap.objs.size f cd
 outer:=outer
 stack:=envOfC qual scope s.heap.objs.size f cd :: outer
 ex:=[]
 calm:=true
 fn:=λ_=>true
 pn:=[]
 xe:=λe s'=>wpAny (model P w) (A.deeper (envOfC qual scope s.heap.objs.size f cd)) (leaving (envOfC qual scope s.heap.objs.size f cd) e) (λ_ s''=>CX outer H s E e s'') (λe' s''=>CX outer H s E e' s'') s'
def YJ {sc:Scope} {n:Nat} {x:Str} (h:sc.names.lookup x=some .cell):∃ c,(cellsFrom n sc.names []).lookup x=some c:=by
 have q:=PySem.W.cellsFrom_some sc.names n [] (.inl h)
 exact Option.isSome_iff_exists.mp q
def Xt {CX:CXT} {P:Program} {w:World} {K:Fs} {mg:Str->Option Value} {base:Heap} {N ps:List Str} {qual:Str} {scope:Scope} {f:Addr} {cd:Value} {A:Around} {outer:List Env} {s s1:Shared} {H:Hp} {E:XK} {us:List Value} {vs:List V}
  (S:zC N ps scope) (hd:A.handled=none) (e0:Env0 P w K mg base A outer s H) (hl:vs.length=ps.length) (r:qF vs us)
  (x:InCallC s s.heap.objs.size (bindL (envOfC qual scope s.heap.objs.size f cd).kindOf (ps.zip us) λ_=>none) (cellsFrom (s.heap.objs.size+1) scope.names []) (bindC (envOfC qual scope s.heap.objs.size f cd).kindOf (ps.zip us) λ_=>none) s1) :
  Inv (cxOf CX P w K mg base N qual scope f cd A outer s H E) [] (start N vs) H s1:=by
 have hpl:ps.length<=N.length:=by have:=BQ List.length S.pre;rw[Ai] at this;lia
 obtain⟨h1,tk,rfl,hk⟩:=x.done
 have noA:∀ b:Addr,b ∉ (cxOf CX P w K mg base N qual scope f cd A outer s H E).ex:=λb z=>absurd (show b ∈ ([]:List Addr) from z) (by simp)
 refine⟨⟨e0.mod,S.kind,O,O,AM _,λy z c h1 h2=>?_,λy hy=>?_,λy c _ h=>?_,λ_=>hd,Around.frames_deeper e0.frames,.inr ⟨O,O⟩,λb z=>absurd z (noA b),e0.bs,e0.bsz,λb _ _=>noA b,λb z=>absurd z (noA b),e0.funs,e0.frf⟩,
  rfl,e0.bare,Un.kept hk,⟨_,x.toInCall.ns,λi y v h1 h2 h3=>?_⟩,λy c h=>⟨_,x.cell y c h⟩,e0.hok.fresh (AM _),λy c h=>?_,λp hp=>absurd (show p ∈ ([]:List (Addr×Obj)) from hp) (by simp),e0.hok.kept hk,?_⟩
 ·exact name_of_addr x.apart (Bj h1) (Bj h2)
 ·have hy:scope.names.lookup y=some .cell\/scope.names.lookup y=some .free:=hy
  rcases hy with hy | hy
  ·exact YJ hy
  ·exact absurd rfl (S.nofree _ (Bj hy))
 ·exact CN (x.above y c (Bj h))
 ·have hi:i < vs.length:=by
   unfold start at h2
   by_cases hi:i < vs.length
   ·exact hi
   ·rw[Ep (by simpa using hi)] at h2
    rw[List.getElem?_replicate] at h2
    split at h2 <;> cases h2
  have ha:vs[i]? = some v:=by
   unfold start at h2
   rw[List.getElem?_append_left (by simpa using hi),AH] at h2
   cases e:vs[i]? with
   | none=>rw[e] at h2;cases h2
   | some a=>rw[e] at h2;cases h2;rfl
  obtain⟨u,hu,rv⟩:=r.get ha
  have hp:ps[i]? = some y:=by
   rw[<- S.pre,List.getElem?_take_of_lt (by lia)];exact h1
  have ndP:ps.Nodup:=by rw[<- S.pre];exact S.nd.sublist (List.take_sublist _ _)
  refine⟨u,rv,?_⟩
  rcases S.par y (AJ hp) with k | k
  ·exact .inl ⟨k,WZ ndP hp hu k⟩
  ·obtain⟨c,e⟩:=YJ (n:=s.heap.objs.size+1) k
   refine .inr ⟨.inl k,c,e,?_⟩
   have q:=x.cell y c e
   rw[W0 ndP hp hu (by show scope.names.lookup y ≠ _;rw[k];decide)] at q
   exact q
 ·exact e0.hok.fresh (CN (x.above y c (Bj h)))
 ·unfold start
  show _=N.length
  rw[AL,AB,List.length_replicate]
  lia
def fn_of {CX:CXT} {P:Program} {w:World} {K:Fs} {mg:Str->Option Value} {base:Heap} {k:Nat} {f:Addr} {name qual:Str} {params:Arguments} {body:List Stmt} {scope:Scope} {dV kV doc pm cdv ct oc:Value} {an od:Option Addr}
  {osl:Array (Option Value)} {N ps:List Str} {sp:Sp} (lk:K.lookup f=some ⟨oc,od,.func (PySem.W.fnOf name qual params body scope dV kV doc pm an cdv ct),osl⟩) (hcd:PySem.W.codeIn K cdv qual=true) (S:zC N ps scope)
  (len:∀ vs H Q E,sp vs H Q E->vs.length=ps.length)
  (hbody:∀ (A:Around) (outer:List Env) (s:Shared) (H:Hp) (vs:List V) (Q:VK) (E:XK),QP k (A.deeper (envOfC qual scope s.heap.objs.size f cdv))->sp vs H Q E ->
   ∃ t,PSs (cxOf CX P w K mg base N qual scope f cdv A outer s H E) body t/\t { nx:=λ_ H'=>Q .non H',rt:=Q } (start N vs) H) :
  ji P w K mg base CX (k+1) f (PySem.W.fnOf name qual params body scope dV kV doc pm an cdv ct) ps sp:=by
 refine⟨len,λA outer s H args us vs Q E hr e0 hb r hsp=>?_⟩
 have hl:=len _ _ _ _ hsp
 have KX:K.In s.heap:=e0.mod.kin.keeps λb o e=>(e0.bs b o e).1
 have lim:s.heap.NoLimit:=e0.mod.nolimit.keeps λb o e=>(e0.bs b o e).1
 have hkind:∀ y ∈ ps.zip us,scope.names.lookup y.1=some .local\/(scope.names.lookup y.1=some .cell/\((cellsFrom (s.heap.objs.size+1) scope.names []).lookup y.1).isSome=true):=λ⟨n,v⟩ hy=>by
  rcases S.par n (CH hy).1 with q | q
  ·exact .inl q
  ·exact .inr ⟨q,PySem.W.cellsFrom_some _ _ _ (.inl q)⟩
 refine codeAny_call_function hr.depth (KX _ _ lk) rfl S.co S.gen rfl (PySem.W.codeRec_of KX hcd) (hb _ _ _ _ ?_)
 refine wpAny_newFunctionEnv_cells S.kind hkind λenv he s1 x=>?_
 subst he
 refine⟨lim.keeps x.toInCall.keep,codeAny_func ?_⟩
 obtain⟨t,ht,hq⟩:=hbody A outer s H vs Q E (hr.deeper _) hsp
 have I:Inv (cxOf CX P w K mg base N qual scope f cdv A outer s H E) [] (start N vs) H s1:=Xt S hr.hd e0 hl r x
 refine DH (ht [] s1 (start N vs) H _ I hq) (λfl s' hs=>?_) λe s' hs=>hs
 have fin:∀ {σ':St} {H':Hp} {v:V} {u:Value},Inv (cxOf CX P w K mg base N qual scope f cdv A outer s H E) [] σ' H' s'->RelV v u->Q v H'->CE outer P w H s Q u s':=
  λ{σ' H' v u} J rv q=>⟨v,H',J.os,J.bare,J.base,J.hok,rv,q⟩
 cases fl with
 | ret u=>
  obtain⟨v,σ',H',J,rv,q⟩:=hs
  exact fin J rv q
 | next=>
  obtain⟨σ',H',J,q⟩:=hs
  exact fin (v:=V.non) (u:=Value.none) J rfl q
 | brk=>
  obtain⟨_,_,_,q⟩:=hs
  exact False.elim q
 | cont=>
  obtain⟨_,_,_,q⟩:=hs
  exact False.elim q
section
variable {X:Cx} {x:Str} {p pos:Pos} {e:Expr} {es:List Expr} {t:TA} {id T:String} {r:List V->Hp->VK->Prop}
def tCB (r:List V->Hp->VK->Prop) (t:TA):TE:=λσ H Q=>t σ H λvs H1=>r vs H1 Q
def zE (hc:j6 X (.builtin id) r) (hg:Gl X x) (hm:X.mg x=none) (hv:bootBuiltins x=some (.builtin id)) (ha:PA X (e :: es) t) (hn:x ≠ "__name__":=by decide) (hdb:(x == ("__debug__" : Str))=false:=by decide)
  (he:starEach (e :: es) X.env=(false,eval e X.env) :: starEach es X.env:=by rfl) (hpl:(backTo pos (starEach es X.env)).any (·.1)=false:=by rfl):PE X (.Call (.Name x p) (e :: es) [] pos) (tCB r t):=by
 intro pins s σ H Q I h
 refine Ec (Zx I hg hm hv ?_ hn hdb)
 exact PyProof.Rows.callWith_builtin1 (thn (ha pos pins s σ H _ I h) λus s1 ⟨vs,H1,I1,r1,q1⟩=>hc pins s1 σ H1 vs us Q I1 r1 q1) he hpl
def zy (hc:j6 X (.type T) r) (hg:Gl X x) (hm:X.mg x=none) (hv:bootBuiltins x=some (.type T)) (ha:PA X (e :: es) t) (hn:x ≠ "__name__":=by decide) (hdb:(x == ("__debug__" : Str))=false:=by decide)
  (he:starEach (e :: es) X.env=(false,eval e X.env) :: starEach es X.env:=by rfl) (hpl:(backTo pos (starEach es X.env)).any (·.1)=false:=by rfl):PE X (.Call (.Name x p) (e :: es) [] pos) (tCB r t):=by
 intro pins s σ H Q I h
 refine Ec (Zx I hg hm hv ?_ hn hdb)
 exact BC (thn (ha pos pins s σ H _ I h) λus s1 ⟨vs,H1,I1,r1,q1⟩=>hc pins s1 σ H1 vs us Q I1 r1 q1) he hpl
end
end L2
namespace HT
open PySem PyProof.Rows
section
open PySem.SeqAt
open PySem.AutoSeq1 (wpAny_loadPart')
open PySem.MeetsSeq PySem.MeetsSeq2 PySem.MeetsSeq3
end
section
variable {prog:Program} {w:World} {A:Around} {E:Value->Shared->Prop} {s:Shared}
def cat_tup {t b:Addr} {vs ws:List Value} {Q:Value->Shared->Prop} (ht:IsTup s.heap t vs.toArray) (hb:IsTup s.heap b ws.toArray) (hv:vs ≠ [])
  (h1:ws=[]->Q (.ref t) s) (h2:ws ≠ []->Q (.ref s.heap.objs.size) { s with heap:=s.heap.push { cls:=.type "tuple",data:=.seq (vs++ws).toArray } })
  (hsz:vs.length+ws.length<=sizeLine):wpAny (model prog w) A (binaryOp .Add (.ref t) (.ref b)) Q E s:=by
 obtain⟨⟨cls,dd,data,sl⟩,ho,hc,n,hd⟩:=id ht
 obtain⟨⟨cls2,dd2,data2,sl2⟩,ho2,hc2,n2,hd2⟩:=id hb
 simp only at hc hd hc2 hd2
 subst hc hd hc2 hd2
 have e:vs.toArray++ws.toArray=(vs++ws).toArray:=by simp
 by_cases hw:ws=[]
 ·exact concat_meets ⟨_,ho,O⟩ ⟨_,ho2,O⟩ noFill_tuple_add seq_tuple_add Dp Dk (Di _ _)
   (tuple_addW1 t b vs.toArray ws.toArray n n2 dd dd2 sl sl2 (by simpa using hv) (by simp[hw])) ⟨ho,ho2,h1 hw⟩
 ·refine concat_meets ⟨_,ho,O⟩ ⟨_,ho2,O⟩ noFill_tuple_add seq_tuple_add Dp Dk (Di _ _)
   (tuple_addW2 t b vs.toArray ws.toArray n n2 dd dd2 sl sl2 (by simpa using hv) (by simpa using hw) (by rw[List.size_toArray,List.size_toArray];exact hsz)) ⟨ho,ho2,?_⟩
  rw[e]
  exact h2 hw
def sIx (n d:Nat):Option Int->Nat
 | none=>d
 | some v=>if v < 0 then (v+(n:Int)).toNat else min v.toNat n
def sIx_none (n d:Nat):sIx n d none=d:=rfl
def sIx_nat (n d k:Nat):sIx n d (some (k:Int))=min k n:=by
 show (if (k:Int) < 0 then ((k:Int)+(n:Int)).toNat else min (k:Int).toNat n)=min k n
 rw[if_neg (by lia),Av]
def sIx_le (n d:Nat) (hd:d<=n) (o:Option Int):sIx n d o<=n:=by
 cases o with
 | none=>exact hd
 | some v=>
  show (if v < 0 then (v+(n:Int)).toNat else min v.toNat n)<=n
  by_cases hv:v < 0
  ·rw[if_pos hv];lia
  ·rw[if_neg hv];exact Nat.min_le_right _ _
def clip_eq (v:Int) (n d:Nat):(if v < 0 then max (v+(n:Int)) 0 else min v (n:Int))=((sIx n d (some v):Nat):Int):=by
 show (if v < 0 then max (v+(n:Int)) 0 else min v (n:Int))=(((if v < 0 then (v+(n:Int)).toNat else min v.toNat n):Nat):Int)
 by_cases hv:v < 0
 ·simp only[if_pos hv];lia
 ·simp only[if_neg hv];lia
def adjust_gen (lo hi:Option Int) (n:Nat):Builtin.Slice.sliceAdjust lo hi 1 (n:Int)=(((sIx n 0 lo:Nat):Int),((sIx n n hi:Nat):Int)):=by
 have h1:¬ ((1:Int) < 0):=by lia
 unfold Builtin.Slice.sliceAdjust
 simp only[h1,if_false]
 refine Prod.ext ?_ ?_
 ·cases lo with
  | none=>rfl
  | some v=>exact clip_eq v n 0
 ·cases hi with
  | none=>rfl
  | some v=>exact clip_eq v n n
def places_gen (i j:Nat):Builtin.Slice.slicePlaces (i:Int) (j:Int) 1=j - i:=by
 unfold Builtin.Slice.slicePlaces
 have h1:(1:Int) > 0:=by lia
 simp only[h1,if_true,Int.ediv_one]
 split <;> lia
def slicePart_ {v:Value} {o:Option Int} {Q:Option Int->Shared->Prop} (p:IsPart v o) (h:Q o s):wpAny (model prog w) A (Builtin.Slice.slicePartIndex v) Q E s:=by
 cases p with
 | none=>exact slicePart_none h
 | int i t=>exact slicePart_int h
def sliceApplied_gen {sl:Addr} {vl vu:Value} {lo hi:Option Int} {n:Nat} {Q:Int×Int×Nat->Shared->Prop} (hs:s.heap.IsSliceOf sl vl vu .none) (pl:IsPart vl lo) (pu:IsPart vu hi)
  (h:Q (((sIx n 0 lo:Nat):Int),1,sIx n n hi - sIx n 0 lo) s):wpAny (model prog w) A (Builtin.Slice.sliceApplied (.ref sl) (pure (n:Int))) Q E s:=by
 obtain⟨os,hos,hcs,hds⟩:=id hs
 unfold Builtin.Slice.sliceApplied Builtin.Slice.sliceFields
 refine AA (AA (BK hos hds (x:=vl) rfl (AA (BK hos hds (x:=vu) rfl (AA (BK hos hds (x:=.none) rfl (AE ?_)))))))
 refine AA (slicePart_none ?_)
 show wpAny _ _ (if ((1:Int) == 0)=true then _ else _) _ _ s
 rw[if_neg (by decide)]
 refine AA (slicePart_ pl (AA (slicePart_ pu (AA (AE ?_)))))
 show wpAny _ _ (match Builtin.Slice.sliceAdjust lo hi 1 (n:Int) with | (lo,hi)=>pure (lo,(1:Int),Builtin.Slice.slicePlaces lo hi 1)) _ _ s
 rw[adjust_gen lo hi n]
 show wpAny _ _ (pure (((sIx n 0 lo:Nat):Int),(1:Int),Builtin.Slice.slicePlaces ((sIx n 0 lo:Nat):Int) ((sIx n n hi:Nat):Int) 1)) _ _ s
 rw[places_gen]
 exact AE h
def pick_gen (xs:Array Value) (i k:Nat):((List.range k).filterMap λ(m:Nat)=>xs[((i:Int)+(m:Int) * 1).toNat]?).toArray=((xs.toList.drop i).take k).toArray:=by
 have e:(λ(m:Nat)=>xs[((i:Int)+(m:Int) * 1).toNat]?)=λm=>xs[i+m]?:=by
  funext m
  have:((i:Int)+(m:Int) * 1).toNat=i+m:=by lia
  rw[this]
 rw[e]
 have:=pick_run xs i k
 rw[List.filterMap_map] at this
 have e2:((λx=>xs[x]?) ∘ λx=>i+x)=λm=>xs[i+m]?:=rfl
 rw[e2] at this
 rw[this]
def getItem_tuple_cut {t sl:Addr} {items:Array Value} {vl vu:Value} {lo hi:Option Int} {Q:Value->Shared->Prop} (ht:IsTup s.heap t items) (hs:s.heap.IsSliceOf sl vl vu .none) (pl:IsPart vl lo) (pu:IsPart vu hi)
  (hw:¬ (sIx items.size 0 lo=0/\sIx items.size items.size hi=items.size))
  (h:Q (.ref s.heap.objs.size) { s with heap:=s.heap.push { cls:=.type "tuple",data:=.seq ((items.toList.drop (sIx items.size 0 lo)).take (sIx items.size items.size hi - sIx items.size 0 lo)).toArray } })
  (hsz:items.size<=sizeLine):wpAny (model prog w) A (getItem (.ref t) (.ref sl)) Q E s:=by
 have htake:sizeOk (.seq ((items.toList.drop (sIx items.size 0 lo)).take (sIx items.size items.size hi - sIx items.size 0 lo)).toArray):=by
  show ((items.toList.drop (sIx items.size 0 lo)).take (sIx items.size items.size hi - sIx items.size 0 lo)).toArray.size<=sizeLine
  rw[A0,Ai,CA,Au]
  lia
 have hj:sIx items.size items.size hi<=items.size:=sIx_le _ _ (AM _) hi
 obtain⟨os,hos,hcs,hds⟩:=id hs
 have hTs:s.TypeIs (.ref sl) "slice":=⟨os,hos,hcs⟩
 unfold getItem
 try with_reducible refine BL ?_
 first | refine AA (AE ?_) | skip
 refine AA (wpAny_sequenceKey ht.typeIs (by decide) ?_)
 refine AA (wpAny_callSpecial?_slot (name:=Str.ofString "__getitem__") ht.typeIs Be
  (Ay Be ht.typeIs entry_tuple_getitem ?_ (args_tuple_getitem _ _)))
 show wpAny _ _ (Builtin.Tuple.tupleItemsOf (.ref t) >>= _) _ _ s
 refine AA (tupleItemsOf_ ht ?_)
 refine AA (Bw hTs ?_)
 rw[if_pos (by decide)]
 refine AA (sliceApplied_gen hs pl pu ?_)
 have hno:¬ ((((sIx items.size 0 lo:Nat):Int) == 0 && (1:Int) == 1 && (sIx items.size items.size hi - sIx items.size 0 lo) == items.size)=true):=by
  intro q
  rw[BR,BR] at q
  have q1:((sIx items.size 0 lo:Nat):Int)=0:=eq_of_beq q.1.1
  have q2:sIx items.size items.size hi - sIx items.size 0 lo=items.size:=eq_of_beq q.2
  exact hw ⟨by lia,by lia⟩
 show wpAny _ _ (if (((sIx items.size 0 lo:Nat):Int) == 0 && (1:Int) == 1 && (sIx items.size items.size hi - sIx items.size 0 lo) == items.size)=true then _ else _) _ _ s
 rw[if_neg hno,pick_gen]
 first
  | exact AA (m:=Builtin.Tuple.tupleExact _) (Ax (AE ⟨_,rfl,AE h⟩) htake)
  | exact AA (m:=Builtin.Tuple.tupleExact _) (Ax (AA (AE (AE ⟨_,rfl,AE h⟩))) htake)
  | exact AA (AA (m:=Builtin.Tuple.tupleExact _) (Ax (AE (AE ⟨_,rfl,AE h⟩)) htake))
  | exact AA (AA (m:=Builtin.Tuple.tupleExact _) (Ax (AE ⟨_,rfl,AE h⟩) htake))
end
end HT
namespace L2
open PySem PySem.Spec PyProof.Rows
abbrev TO:=St->Hp->(Option Int->Hp->Prop)->Prop
def PO (X:Cx) (e:Option Expr) (t:TO):Prop:=
 ∀ (pins:List (Addr×Obj)) (s:Shared) (σ:St) (H:Hp) (Q:Option Int->Hp->Prop),Inv X pins σ H s->t σ H Q ->
  wpAny (model X.prog X.w) X.A (evalPart e X.env) (λu s'=>∃ o H',Inv X pins σ H' s'/\IsPart u o/\Q o H') X.xe s
def tNoPart:TO:=λ_ H Q=>Q none H
def tPart (t:TE):TO:=λσ H Q=>t σ H λx H1=>∃ i,x=.int i/\Q (some i) H1
section
variable {X:Cx} {e:Expr} {te:TE} {lo hi:Option Expr} {tl th:TO} {pos p2:Pos}
def Zh:PO X none tNoPart:=by
 intro pins s σ H Q I h
 rw[evalPart_none]
 exact AE ⟨none,H,I,.none,h⟩
def qV (h:PE X e te):PO X (some e) (tPart te):=by
 intro pins s σ H Q I hw
 rw[evalPart_some]
 refine thn (h pins s σ H _ I hw) λu s1 ⟨x,H1,I1,r1,q1⟩=>?_
 obtain⟨i,rfl,q⟩:=q1
 obtain⟨t,rfl⟩:=r1
 exact⟨some i,H1,I1,.int i t,q⟩
def SlR (X:Cx) (r:V->Option Int->Option Int->Hp->VK->Prop):Prop:=
 ∀ (pins:List (Addr×Obj)) (s:Shared) (σ:St) (H:Hp) (x:V) (v vl vu:Value) (lo hi:Option Int) (sl:Addr) (Q:VK),Inv X pins σ H s->RelV x v->s.heap.IsSliceOf sl vl vu .none->IsPart vl lo->IsPart vu hi->r x lo hi H Q ->
  ∃ T id,typeLookup (.type T) "__getitem__" = pure (some (.builtin id))/\s.TypeIs v T/\wpAny (model X.prog X.w) X.A (getItem v (.ref sl)) (EP X pins σ Q) X.xe s
def SlR.or {r r':V->Option Int->Option Int->Hp->VK->Prop} (h:SlR X r) (h':SlR X r'):SlR X (λx lo hi H Q=>r x lo hi H Q\/r' x lo hi H Q):=by
 intro pins s σ H x v vl vu lo hi sl Q I rx hs pl pu q
 rcases q with q | q
 ·exact h pins s σ H x v vl vu lo hi sl Q I rx hs pl pu q
 ·exact h' pins s σ H x v vl vu lo hi sl Q I rx hs pl pu q
def tSl (r:V->Option Int->Option Int->Hp->VK->Prop) (te:TE) (tl th:TO):TE:=λσ H Q=>te σ H λx H1=>tl σ H1 λl H2=>th σ H2 λu H3=>r x l u H3 Q
def qQ {r:V->Option Int->Option Int->Hp->VK->Prop} (hr:SlR X r) (he:PE X e te) (hl:PO X lo tl) (hu:PO X hi th):PE X (.Subscript e (.Slice lo hi none p2) pos) (tSl r te tl th):=by
 intro pins s σ H Q I h
 refine Subscript_ (thn (he pins s σ H _ I h) λv s1 ⟨x,H1,I1,r1,q1⟩=>?_)
 refine wpAny_Slice (thn (hl pins s1 σ H1 _ I1 q1) λvl s2 ⟨l,H2,I2,pl,q2⟩=>thn (hu pins s2 σ H2 _ I2 q2) λvu s3 ⟨u,H3,I3,pu,q3⟩=>?_)
 rw[evalPart_none]
 refine AE ?_
 have I4:Inv X pins σ H3 { s3 with heap:=s3.heap.push { cls:=.type "slice",data:=.fields #[vl,vu,.none] } }:=I3.kept (t':=s3.toks) λb ob q=>AC _ q
 obtain⟨T,id,hT,ht,hg⟩:=hr pins { s3 with heap:=s3.heap.push { cls:=.type "slice",data:=.fields #[vl,vu,.none] } } σ H3 x v vl vu l u s3.heap.objs.size Q I4 r1 (Heap.IsSliceOf.new ..) pl pu q3
 show wpAny (model X.prog X.w) X.A (subscriptTail e (.Slice lo hi none p2) v (.ref s3.heap.objs.size)) (EP X pins σ Q) X.xe { s3 with heap:=s3.heap.push { cls:=.type "slice",data:=.fields #[vl,vu,.none] } }
 exact tail_any (ops:=[.ref s3.heap.objs.size,v]) ht hT hg (by with_unfolding_all rfl)
def J9 (xs:List V) (lo hi:Option Int):List V:=(xs.drop (HT.sIx xs.length 0 lo)).take (HT.sIx xs.length xs.length hi - HT.sIx xs.length 0 lo)
def Js (xs:List V) (lo hi:Option Int):(J9 xs lo hi).length<=xs.length:=by
 unfold J9
 rw[Ai,CA]
 lia
def rSlT (K:Fs):V->Option Int->Option Int->Hp->VK->Prop:=λx lo hi H Q=>∃ a xs,x=.ref a/\SqT K H a xs /\
 ¬ (HT.sIx xs.length 0 lo=0/\HT.sIx xs.length xs.length hi=xs.length)/\∀ p,H p=none->Q (.ref p) (upd H p (.tup (J9 xs lo hi)))
def sl_tup:SlR X (rSlT X.K):=by
 intro pins s σ H x v vl vu lo hi sl Q I rx hs pl pu h
 obtain⟨a,xs,rfl,hx,hw,q⟩:=h
 cases rx
 obtain⟨its,r,ht,hz⟩:=I.tuple hx
 have hlen:its.toArray.size=xs.length:=by rw[A0];exact r.length.symm
 refine⟨"tuple",_,Be.lookup,ht.typeIs,?_⟩
 refine HT.getItem_tuple_cut ht hs pl pu (by rw[hlen];exact hw) ?_ (by rw[hlen];exact hz)
 rw[hlen]
 refine⟨.ref s.heap.objs.size,_,I.laid (t':=s.toks) (o:=.tup (J9 xs lo hi)) (λb ob q=>AC _ q) (AM _) ?_,O,q _ (I.hok.fresh (AM _))⟩
 exact⟨Aa (Js xs lo hi) hz,_,(r.drop (HT.sIx xs.length 0 lo)).take (HT.sIx xs.length xs.length hi - HT.sIx xs.length 0 lo),PTup.new _ _⟩
def rCatT (K:Fs):R2:=λx y H Q=>∃ a b xs ys,x=.ref a/\y=.ref b/\SqT K H a xs/\SqT K H b ys/\xs ≠ []/\xs.length+ys.length<=sizeLine /\
 (ys=[]->Q (.ref a) H)/\(ys ≠ []->∀ p,H p=none->Q (.ref p) (upd H p (.tup (xs++ys))))
def qF.nil_iff {xs:List V} {us:List Value} (r:qF xs us):us=[] ↔ xs=[]:=by
 cases r with
 | nil=>simp
 | cons _ _=>simp
def op_catT:OpR X (binaryOp .Add) (rCatT X.K):=by
 intro pins s σ H x y v u Q I rx ry h
 obtain⟨a,b,xs,ys,rfl,rfl,ha,hb,hx,hz,q1,q2⟩:=h
 cases rx
 cases ry
 obtain⟨its,r1,p1,_⟩:=I.tuple ha
 obtain⟨its2,r2,p2,_⟩:=I.tuple hb
 refine HT.cat_tup p1 p2 (λz=>hx (r1.nil_iff.mp z)) (λz=>⟨.ref a,H,I,O,q1 (r2.nil_iff.mp z)⟩) (λz=>?_) (by rw[<- r1.length,<- r2.length];exact hz)
 refine⟨.ref s.heap.objs.size,_,I.laid (t':=s.toks) (o:=.tup (xs++ys)) (λb ob q=>AC _ q) (AM _) ?_,O,q2 (λw=>z (r2.nil_iff.mpr w)) _ (I.hok.fresh (AM _))⟩
 exact⟨by rw[AL];exact hz,_,r1.append r2,PTup.new _ _⟩
end
def ixN (n:Nat) (i:Int):Option Nat:=if 0<=i then (if i < n then some i.toNat else none) else if -(n:Int)<=i then some (i+n).toNat else none
def atI {α:Type} (xs:List α) (i:Int):Option α:=(ixN xs.length i).bind λj=>xs[j]?
def ixN_seq {n:Nat} {i:Int} {j:Nat} (h:ixN n i=some j):seqIndex? i n=some j/\j < n /\ -(n:Int)<=i/\i < n:=by
 unfold ixN at h
 by_cases h0:0<=i
 ·rw[if_pos h0] at h
  by_cases h1:i < n
  ·rw[if_pos h1] at h
   have e:i.toNat=j:=AR h
   exact⟨by rw[seqIndex_of h0 h1,e],by lia,by lia,h1⟩
  ·rw[if_neg h1] at h;cases h
 ·rw[if_neg h0] at h
  by_cases h1:-(n:Int)<=i
  ·rw[if_pos h1] at h
   have e:(i+n).toNat=j:=AR h
   exact⟨by rw[seqIndex_neg (by lia) h1,e],by lia,h1,by lia⟩
  ·rw[if_neg h1] at h;cases h
def yS {α:Type} {xs:List α} {i:Int} {v:α} (h:atI xs i=some v):∃ j,seqIndex? i xs.length=some j/\xs[j]? = some v/\j < xs.length /\ -(xs.length:Int)<=i/\i < xs.length:=by
 unfold atI at h
 cases e:ixN xs.length i with
 | none=>rw[e] at h;cases h
 | some j=>
  rw[e] at h
  obtain⟨h1,h2,h3,h4⟩:=ixN_seq e
  exact⟨j,h1,h,h2,h3,h4⟩
def qj {α:Type} {xs:List α} {j:Nat} {v:α} (h:xs[j]? = some v):atI xs (j:Int)=some v:=by
 have hj:j < xs.length:=(AF.mp h).1
 have e:ixN xs.length (j:Int)=some j:=by
  unfold ixN
  rw[if_pos (by lia),if_pos (by lia)];simp
 unfold atI;rw[e];exact h
def atI_last {α:Type} (xs:List α) (v:α):atI (xs++[v]) (-1)=some v:=by
 have hl:(xs++[v]).length=xs.length+1:=by simp
 have e:ixN (xs++[v]).length (-1)=some xs.length:=by
  unfold ixN
  rw[hl,if_neg (by decide),if_pos (by lia)]
  congr 1
  lia
 unfold atI
 rw[e]
 show (xs++[v])[xs.length]? = some v
 simp
def PlainIx (b:Expr):Prop:=∀ o i,subscripted b false o i=operate [o,i] (getItem o i)
def IxR (X:Cx) (r:R2):Prop:=
 ∀ (value slice:Expr) (pins:List (Addr×Obj)) (s:Shared) (σ:St) (H:Hp) (x y:V) (v u:Value) (Q:VK),Inv X pins σ H s->RelV x v->RelV y u->r x y H Q ->
  subscripted slice false v u=operate [v,u] (getItem v u)->wpAny (model X.prog X.w) X.A (subscriptTail value slice v u) (EP X pins σ Q) X.xe s
def MtR (X:Cx) (id:String) (r:V->List V->Hp->VK->Prop):Prop:=
 ∀ (pins:List (Addr×Obj)) (s:Shared) (σ:St) (H:Hp) (x:V) (xs:List V) (v:Value) (us:List Value) (Q:VK),Inv X pins σ H s->RelV x v->qF xs us->r x xs H Q ->
  wpAny (model X.prog X.w) X.A (call (.builtin id) (v :: us)) (EP X pins σ Q) X.xe s
section
variable {X:Cx} {a b:Expr} {ta tb:TE} {pos:Pos}
def IxR.or {r r':R2} (h:IxR X r) (h':IxR X r'):IxR X (λx y H Q=>r x y H Q\/r' x y H Q):=by
 intro value slice pins s σ H x y v u Q I rx ry q hs
 rcases q with q | q
 ·exact h value slice pins s σ H x y v u Q I rx ry q hs
 ·exact h' value slice pins s σ H x y v u Q I rx ry q hs
def zu {r:R2} (hr:IxR X r) (ha:PE X a ta) (hb:PE X b tb) (hs:PlainIx b):PE X (.Subscript a b pos) (tOp r ta tb):=by
 intro pins s σ H Q I h
 exact Subscript_ (binT ha hb I h λv u s2 x y H2 I2 rx ry q=>hr a b pins s2 σ H2 x y v u Q I2 rx ry q (hs _ _))
def rIxL (K:Fs):R2:=λx y H Q=>∃ p xs i v,x=.ref p/\y=.int i/\SqL K H p xs/\atI xs i=some v/\Q v H
def rIxT (K:Fs):R2:=λx y H Q=>∃ p xs i v,x=.ref p/\y=.int i/\SqT K H p xs/\atI xs i=some v/\Q v H
def rIxS:R2:=λx y H Q=>∃ z i c,x=.str z/\y=.int i/\z.length<=sizeLine/\atI z.cps.toList i=some c/\Q (.str ⟨#[c]⟩) H
def ix_list:IxR X (rIxL X.K):=by
 intro value slice pins s σ H x y v u Q I rx ry h hs
 obtain⟨p,xs,i,z,rfl,rfl,hq,he,q⟩:=h
 cases rx
 obtain⟨t,rfl⟩:=ry
 obtain⟨its,r,pl,hz⟩:=I.list hq
 obtain⟨j,h1,h2,h3,h4,h5⟩:=yS he
 obtain⟨w,ew,rw'⟩:=r.get h2
 have hl:=r.length
 have hn:=YH
 have fin:EP X pins σ Q w s:=⟨z,H,I,rw',q⟩
 by_cases h0:0<=i
 ·have hj:i.toNat=j:=by
   rw[seqIndex_of h0 h5] at h1
   exact AR h1
  exact item_listR pl.isList h0 (by lia) (by rw[hj];simpa using ew) fin hs
 ·have hj:(i+(its.toArray.size:Int)).toNat=j:=by
   rw[seqIndex_neg (by lia) h4] at h1
   rw[A0,<- hl]
   exact AR h1
  exact subscriptTail_builtinR (x:=w) pl.isList.typeIs slot_list_getitem.lookup
   (wpAny_getItem_list_neg (Q:=λr s'=>r=w/\EP X pins σ Q r s') pl.isList (by lia) (by rw[A0] <;> lia) (by lia) (by rw[hj];simpa using ew) ⟨rfl,fin⟩) hs
def ix_tup:IxR X (rIxT X.K):=by
 intro value slice pins s σ H x y v u Q I rx ry h hs
 obtain⟨p,xs,i,z,rfl,rfl,hq,he,q⟩:=h
 cases rx
 obtain⟨t,rfl⟩:=ry
 obtain⟨its,r,pl,hz⟩:=I.tuple hq
 obtain⟨j,h1,h2,h3,h4,h5⟩:=yS he
 obtain⟨w,ew,rw'⟩:=r.get h2
 have hl:=r.length
 have hn:=YH
 have fin:EP X pins σ Q w s:=⟨z,H,I,rw',q⟩
 exact subscriptTail_builtinR (x:=w) pl.typeIs slot_tuple_getitem.lookup
  (getItem_tuple (j:=j) (Q:=λr s'=>r=w/\EP X pins σ Q r s') pl (by lia) (by lia) (by rw[A0,<- hl];exact h1) (by simpa using ew) ⟨rfl,fin⟩) hs
def ix_str:IxR X rIxS:=by
 intro value slice pins s σ H x y v u Q I rx ry h hs
 obtain⟨z,i,c,rfl,rfl,hz,he,q⟩:=h
 obtain⟨t,rfl⟩:=rx
 obtain⟨t',rfl⟩:=ry
 obtain⟨j,h1,h2,h3,h4,h5⟩:=yS he
 have hl:z.cps.toList.length=z.length:=by simp[Str.length]
 rw[hl] at h1 h4 h5
 have hn:=YH
 exact tail_any (typeIs_str s z t) slot_str_getitem.lookup (getItem_str (c:=c) (by
  have e1:decide (i < -(2 ^ 63:Int))=false:=As (by lia)
  have e2:decide (i ≥ 2 ^ 63)=false:=As (by lia)
  rw[e1,e2,Bool.or_false]) (by rw[h1];simpa using h2) ⟨.str ⟨#[c]⟩,H,I.tok _,⟨_,rfl⟩,q⟩) hs
def rIx (K:Fs):R2:=λx y H Q=>rIxL K x y H Q\/rIxT K x y H Q\/rIxS x y H Q
def ix_seq:IxR X (rIx X.K):=ix_list.or (ix_tup.or ix_str)
def W1 (lo hi:Option Int) (n:Nat):(sliceBounds lo hi none n).1=((HT.sIx n 0 lo:Nat):Int)/\(sliceBounds lo hi none n).2.1=((HT.sIx n n hi:Nat):Int)/\(sliceBounds lo hi none n).2.2=1:=by
 refine⟨?_,?_,O⟩
 ·cases lo with
  | none=>simp[sliceBounds,HT.sIx]
  | some i=>
   simp only[sliceBounds,HT.sIx,Option.getD_none,show (1:Int) > 0 by decide,if_true]
   by_cases h:i < 0
   ·simp only[h,if_true] <;> lia
   ·simp only[h,if_false] <;> lia
 ·cases hi with
  | none=>simp[sliceBounds,HT.sIx]
  | some i=>
   simp only[sliceBounds,HT.sIx,Option.getD_none,show (1:Int) > 0 by decide,if_true]
   by_cases h:i < 0
   ·simp only[h,if_true] <;> lia
   ·simp only[h,if_false] <;> lia
def Wa (its:List Value) (lo hi:Option Int):slicePick its.toArray lo hi none=((its.drop (HT.sIx its.length 0 lo)).take (HT.sIx its.length its.length hi - HT.sIx its.length 0 lo)).toArray:=by
 obtain⟨h1,h2,h3⟩:=W1 lo hi its.toArray.size
 unfold slicePick
 rw[h1,h2,h3]
 simp only[sliceRange_one,pick_run,List.size_toArray] <;> rfl
def rSlL (K:Fs):V->Option Int->Option Int->Hp->VK->Prop:=λx lo hi H Q=>∃ a xs,x=.ref a/\SqL K H a xs/\∀ p,H p=none->Q (.ref p) (upd H p (.lst (J9 xs lo hi)))
def sl_list:SlR X (rSlL X.K):=by
 intro pins s σ H x v vl vu lo hi sl Q I rx hs pl pu h
 obtain⟨a,xs,rfl,hx,q⟩:=h
 cases rx
 obtain⟨its,r,ht,hz⟩:=I.list hx
 have hlen:=r.length
 refine⟨"list",_,slot_list_getitem.lookup,ht.isList.typeIs,?_⟩
 refine wpAny_getItem_list_slice ht.isList hs pl pu .none (by simp) ?_ (by rw[List.size_toArray] <;> lia)
 rw[Wa,<- hlen]
 refine⟨.ref s.heap.objs.size,_,I.laid (t':=s.toks) (o:=.lst (J9 xs lo hi)) (λb ob q=>AC _ q) (AM _) ?_,O,q _ (I.hok.fresh (AM _))⟩
 exact⟨Aa (Js xs lo hi) hz,_,0,(r.drop (HT.sIx xs.length 0 lo)).take (HT.sIx xs.length xs.length hi - HT.sIx xs.length 0 lo),AN _ rfl⟩
def ju:V->Bool
 | .non=>true
 | .bl _=>true
 | .int _=>true
 | .str _=>true
 | _=>false
def eqV:V->V->Bool
 | .non,.non=>true
 | .bl a,.bl b=>a == b
 | .bl a,.int b=>(if a then 1 else 0) == b
 | .int a,.bl b=>a == (if b then 1 else 0)
 | .int a,.int b=>a == b
 | .str a,.str b=>a == b
 | _,_=>false
def eqAt_V {A:Around} {s:Shared} {y x:V} {u v:Value} (ry:RelV y u) (rx:RelV x v) (fy:ju y=true) (fx:ju x=true):SeqAt.EqAt A s u v (eqV y x):=by
 cases y with
 | non=>
  cases ry
  cases x with
  | non=>cases rx;exact SeqAt.EqAt.same _
  | bl b=>cases rx;exact SeqAt.EqAt.none_bool b
  | int b=>obtain⟨t,rfl⟩:=rx;exact SeqAt.EqAt.none_int b t
  | str b=>obtain⟨t,rfl⟩:=rx;exact SeqAt.EqAt.none_str b t
  | _=>exact absurd (show false=true from fx) AS
 | bl a=>
  cases ry
  cases x with
  | non=>cases rx;exact SeqAt.EqAt.bool_none a
  | bl b=>cases rx;exact SeqAt.EqAt.bool_bool a b
  | int b=>obtain⟨t,rfl⟩:=rx;exact SeqAt.EqAt.bool_int a b t
  | str b=>obtain⟨t,rfl⟩:=rx;exact SeqAt.EqAt.bool_str a b t
  | _=>exact absurd (show false=true from fx) AS
 | int a=>
  obtain⟨t',rfl⟩:=ry
  cases x with
  | non=>cases rx;exact SeqAt.EqAt.int_none a t'
  | bl b=>cases rx;exact SeqAt.EqAt.int_bool a t' b
  | int b=>obtain⟨t,rfl⟩:=rx;exact SeqAt.EqAt.int_int a t' b t
  | str b=>obtain⟨t,rfl⟩:=rx;exact SeqAt.EqAt.int_str a t' b t
  | _=>exact absurd (show false=true from fx) AS
 | str a=>
  obtain⟨t',rfl⟩:=ry
  cases x with
  | non=>cases rx;exact SeqAt.EqAt.str_none a t'
  | bl b=>cases rx;exact SeqAt.EqAt.str_bool a t' b
  | int b=>obtain⟨t,rfl⟩:=rx;exact SeqAt.EqAt.str_int a t' b t
  | str b=>obtain⟨t,rfl⟩:=rx;exact SeqAt.EqAt.str_str a t' b t
  | _=>exact absurd (show false=true from fx) AS
 | _=>exact absurd (show false=true from fy) AS
def eqU (x:V) (u:Value):Bool:=match u with
 | .none=>eqV .non x
 | .bool b=>eqV (.bl b) x
 | .int i _=>eqV (.int i) x
 | .str z _=>eqV (.str z) x
 | _=>false
def YK {x y:V} {u:Value} (r:RelV y u) (f:ju y=true):eqU x u=eqV y x:=by
 cases y with
 | non=>cases r;rfl
 | bl b=>cases r;rfl
 | int i=>obtain⟨t,rfl⟩:=r;rfl
 | str z=>obtain⟨t,rfl⟩:=r;rfl
 | _=>exact absurd (show false=true from f) AS
theorem Jt {x:V}:∀ {xs:List V} {us:List Value},qF xs us->xs.all ju=true->us.any (eqU x)=xs.any λy=>eqV y x
 | _,_,.nil,_=>rfl
 | y :: xs,u :: us,.cons r t,f=>by
  rw[CW,BR] at f
  rw[CV,CV,YK r f.1,Jt t f.2]
theorem Zi {A:Around} {s:Shared} {x:V} {v:Value} (rx:RelV x v) (fx:ju x=true):∀ {xs:List V} {us:List Value},qF xs us->xs.all ju=true->∀ u ∈ us,SeqAt.EqAt A s u v (eqU x u)
 | _,_,.nil,_=>λu hu=>by cases hu
 | y :: xs,u :: us,.cons r t,f=>λu' hu=>by
  rw[CW,BR] at f
  rcases AX.mp hu with rfl | hu
  ·rw[YK r f.1];exact eqAt_V r rx f.1 fx
  ·exact Zi rx fx t f.2 u' hu
def inV (x:V) (xs:List V):Bool:=xs.any λy=>eqV y x
def rIn (K:Fs) (neg:Bool):R2:=λx y H Q=>∃ p xs,y=.ref p/\(SqL K H p xs\/SqT K H p xs)/\ju x=true/\xs.all ju=true/\Q (.bl (if neg then !inV x xs else inV x xs)) H
def Xu:OpR X (compareOp .In) (rIn X.K false):=by
 intro pins s σ H x y v u Q I rx ry h
 obtain⟨p,xs,rfl,hq,fx,fs,q⟩:=h
 cases ry
 rcases hq with hq | hq
 ·obtain⟨its,r,pl,hz⟩:=I.list hq
  refine SeqAt.in_listAt (eqU x) pl.isList (λw hw=>Zi rx fx r fs w (by simpa using hw)) ⟨.bl _,H,I,O,?_⟩
  rw[show its.toArray.any (eqU x)=its.any (eqU x) by simp,Jt r fs]
  exact q
 ·obtain⟨its,r,pl,hz⟩:=I.tuple hq
  refine SeqAt.in_tupleAt (eqU x) pl (λw hw=>Zi rx fx r fs w (by simpa using hw)) ⟨.bl _,H,I,O,?_⟩
  rw[show its.toArray.any (eqU x)=its.any (eqU x) by simp,Jt r fs]
  exact q
def W2:OpR X (compareOp .NotIn) (rIn X.K true):=by
 intro pins s σ H x y v u Q I rx ry h
 obtain⟨p,xs,rfl,hq,fx,fs,q⟩:=h
 cases ry
 rcases hq with hq | hq
 ·obtain⟨its,r,pl,hz⟩:=I.list hq
  refine SeqAt.notIn_listAt (eqU x) pl.isList (λw hw=>Zi rx fx r fs w (by simpa using hw)) ⟨.bl _,H,I,O,?_⟩
  rw[show its.toArray.any (eqU x)=its.any (eqU x) by simp,Jt r fs]
  exact q
 ·obtain⟨its,r,pl,hz⟩:=I.tuple hq
  refine SeqAt.notIn_tupleAt (eqU x) pl (λw hw=>Zi rx fx r fs w (by simpa using hw)) ⟨.bl _,H,I,O,?_⟩
  rw[show its.toArray.any (eqU x)=its.any (eqU x) by simp,Jt r fs]
  exact q
def W3:j6 X (.type "list") (λxs H Q=>∃ p ys,xs=[.ref p]/\(SqL X.K H p ys\/SqT X.K H p ys)/\∀ l,H l=none->Q (.ref l) (upd H l (.lst ys))):=by
 intro pins s σ H xs us Q I r h
 obtain⟨p,ys,rfl,hq,q⟩:=h
 obtain⟨u,rfl,rx⟩:=vals1 r
 cases rx
 have fin:∀ (its:List Value),qF ys its->ys.length<=sizeLine->∀ (h':Heap) (c':Nat),(∀ b o',s.heap.get? b=some o'->h'.get? b=some o') ->
   h'.get? s.heap.objs.size=some { cls:=.type "list",dict:=none,data:=.seq its.toArray c',slots:=#[] }->EP X pins σ Q (.ref s.heap.objs.size) { s with heap:=h' }:=λits r' hz h' c' kp e=>
  ⟨.ref s.heap.objs.size,_,I.laid (t':=s.toks) kp (AM _) (show qO X.prog X.w _ h' _ (.lst ys) from⟨hz,its,c',r',e⟩),rfl,q _ (I.hok.fresh (AM _))⟩
 rcases hq with hq | hq
 ·obtain⟨its,r',pl,hz⟩:=I.list hq
  have hlen:=r'.length
  obtain⟨o,ho,hc,n,hd⟩:=pl.isList
  exact call_list_seq p (.inl rfl) ho hc hd (λh' c' kp e=>fin its r' hz h' c' kp e) (by simp only[List.size_toArray] <;> lia)
 ·obtain⟨its,r',pl,hz⟩:=I.tuple hq
  have hlen:=r'.length
  obtain⟨o,ho,hc,n,hd⟩:=pl
  exact call_list_seq p (.inr rfl) ho hc hd (λh' c' kp e=>fin its r' hz h' c' kp e) (by simp only[List.size_toArray] <;> lia)
def Wb:j6 X (.type "tuple") (λxs H Q=>∃ p ys,xs=[.ref p]/\((SqL X.K H p ys/\∀ l,H l=none->Q (.ref l) (upd H l (.tup ys)))\/(SqT X.K H p ys/\Q (.ref p) H))):=by
 intro pins s σ H xs us Q I r h
 obtain⟨p,ys,rfl,h⟩:=h
 obtain⟨u,rfl,rx⟩:=vals1 r
 cases rx
 rcases h with ⟨hq,q⟩ | ⟨hq,q⟩
 ·obtain⟨its,r',pl,hz⟩:=I.list hq
  have hlen:=r'.length
  refine call_tuple_list pl.isList (λh' kp=>?_) (by simp only[List.size_toArray] <;> lia)
  have I1:Inv X pins σ H { s with heap:=h' }:=I.kept (t':=s.toks) kp
  have I2:Inv X pins σ (upd H h'.objs.size (.tup ys)) { s with heap:=h'.push { cls:=.type "tuple",data:=.seq its.toArray } }:=
   I1.laid (t':=s.toks) (λb o e=>AC _ e) (AM _) (show qO X.prog X.w _ _ _ (.tup ys) from⟨hz,its,r',PTup.new _ _⟩)
  exact⟨.ref h'.objs.size,_,I2,O,q _ (I1.hok.fresh (AM _))⟩
 ·obtain⟨its,r',pl,hz⟩:=I.tuple hq
  exact call_tuple_same pl ⟨.ref p,H,I,O,q⟩
def tyV (K:Fs) (T:String) (x:V) (H:Hp):Prop:=match x with
 | .str _=>T = "str"
 | .int _=>T = "int"
 | .ref p=>(T = "list" /\ ∃ xs,SqL K H p xs)\/(T = "tuple" /\ ∃ o,K.lookup p=some o/\o.cls=.type "tuple" /\ o.dict=none) \/
   (T = "dict" /\ ((∃ kvs,H p=some (.dK kvs))\/∃ kvs,H p=some (.dT kvs)))\/(T = "set" /\ ∃ S n,H p=some (.set S n))\/(T = "tuple" /\ ∃ xs,H p=some (.tup xs))
 | _=>False
def tyV_is {pins:List (Addr×Obj)} {σ:St} {H:Hp} {s:Shared} {T:String} {x:V} {v:Value} (I:Inv X pins σ H s) (r:RelV x v) (ty:tyV X.K T x H) :
  s.TypeIs v T/\∀ a,v=.ref a->∃ ob,s.heap.get? a=some ob/\ob.dict=none:=by
 cases x with
 | str z=>
  obtain⟨t,rfl⟩:=r
  cases (show T = "str" from ty)
  exact⟨typeIs_str s z t,λ_ e=>nomatch e⟩
 | int i=>
  obtain⟨t,rfl⟩:=r
  cases (show T = "int" from ty)
  exact⟨typeIs_int s i t,λ_ e=>nomatch e⟩
 | ref p=>
  cases r
  rcases ty with ⟨rfl,xs,hq⟩ | ⟨rfl,o,hk,hc,hd⟩ | ⟨rfl,hk⟩ | ⟨rfl,S,n,hk⟩ | ⟨rfl,xs,hk⟩
  rotate_left 4
  ·obtain⟨_,its,_,o,e,c,_,hd⟩:=I.hok p _ hk
   exact⟨⟨o,e,c⟩,λa e2=>by cases e2;exact⟨o,e,hd⟩⟩
  ·obtain⟨its,_,pl,_⟩:=I.list hq
   refine⟨pl.isList.typeIs,λa e=>?_⟩
   cases e
   obtain⟨o,n,e,c,hd,_⟩:=pl
   exact⟨o,e,hd⟩
  ·refine⟨⟨o,I.kIn p o hk,hc⟩,λa e=>?_⟩
   cases e
   exact⟨o,I.kIn _ o hk,hd⟩
  ·have z:∃ o,s.heap.get? p=some o/\o.ExactDict:=by
    rcases hk with ⟨kvs,hk⟩ | ⟨kvs,hk⟩
    ·obtain⟨_,_,_,_,o,_,_,e,ex,_⟩:=I.hok p _ hk
     exact⟨o,e,ex⟩
    ·obtain⟨_,_,_,_,o,_,_,e,ex,_⟩:=I.hok p _ hk
     exact⟨o,e,ex⟩
   obtain⟨o,e,ex⟩:=z
   refine⟨⟨o,e,ex.1⟩,λa e2=>?_⟩
   cases e2
   exact⟨o,e,ex.2.1⟩
  ·obtain⟨o,_,_,_,e,ex,_⟩:=I.hok p _ hk
   refine⟨⟨o,e,ex.1⟩,λa e2=>?_⟩
   cases e2
   exact⟨o,e,ex.2.1⟩
 | _=>exact False.elim ty
def tBM0 (K:Fs) (T:String) (r:V->List V->Hp->VK->Prop) (to:TE):TE:=λσ H Q=>to σ H λx H1=>tyV K T x H1/\r x [] H1 Q
def tBM (K:Fs) (T:String) (r:V->List V->Hp->VK->Prop) (to:TE) (t:TA):TE:=λσ H Q=>to σ H λx H1=>tyV K T x H1/\t σ H1 λxs H2=>r x xs H2 Q
variable {o e:Expr} {es:List Expr} {to:TE} {t:TA} {name:Str} {apos cpos:Pos} {T id:String} {r:V->List V->Hp->VK->Prop}
def pe_bm0 (pa:PlainAttrs T) (slot:Slot T name id) (hty:typeOf (.builtin id)=pure (.type "method_descriptor")) (hm:MtR X id r) (ho:PE X o to)
  (hbase:attributeBase o name X.env (eval o X.env)=eval o X.env:=by rfl) (hline:(apos.endLine == cpos.line)=true:=by rfl):PE X (.Call (.Attribute o name apos) [] [] cpos) (tBM0 X.K T r to):=by
 intro pins s σ H Q I h
 refine wpAny_Call_method0_late hbase hline (thn (ho pins s σ H _ I h) λv s1 ⟨x,H1,I1,r1,ty,q1⟩=>?_)
 obtain⟨h1,h2⟩:=tyV_is I1 r1 ty
 exact⟨T,id,pa,slot,hty,h1,h2,Calls.callWith_builtin rfl (PySem.evalArgs_none (hm pins s1 σ H1 x [] v [] Q I1 r1 .nil q1))⟩
def pe_bm (pa:PlainAttrs T) (slot:Slot T name id) (hty:typeOf (.builtin id)=pure (.type "method_descriptor")) (hm:MtR X id r) (ho:PE X o to) (ha:PA X (e :: es) t)
  (hbase:attributeBase o name X.env (eval o X.env)=eval o X.env:=by rfl)
  (hfew:((backTo cpos (starEach (e :: es) X.env)).all (λx=>!x.1) && (backToKw cpos (keywordEach [] X.env)).all (λx=>x.1.isSome)
   && decide ((e :: es).length+([]:List Keyword).length+(if ([]:List Keyword).isEmpty then 0 else 1) < 30))=true:=by rfl)
  (hline:(apos.endLine == cpos.line)=true:=by rfl) (hs:starEach (e :: es) X.env=(false,eval e X.env) :: starEach es X.env:=by rfl) (hplain:(backTo cpos (starEach es X.env)).any (·.1)=false:=by rfl) :
  PE X (.Call (.Attribute o name apos) (e :: es) [] cpos) (tBM X.K T r to t):=by
 intro pins s σ H Q I h
 refine wpAny_Call_method_late hbase hfew hline rfl (thn (ho pins s σ H _ I h) λv s1 ⟨x,H1,I1,r1,ty,q1⟩=>?_)
 obtain⟨h1,h2⟩:=tyV_is I1 r1 ty
 refine⟨T,id,pa,slot,hty,h1,h2,?_⟩
 have hA:=ha cpos pins s1 σ H1 _ I1 q1
 rw[hs] at hA ⊢
 refine Calls.callWith_builtin (by show (false || (backTo cpos (starEach es X.env)).any (·.1))=false;rw[hplain] <;> rfl) (Calls.evalArgs_plain ?_)
 exact thn hA λus s2 ⟨vs,H2,I2,r2,q2⟩=>hm pins s2 σ H2 x vs v us Q I2 r1 r2 q2
end
def MtM (X:Cx) (id:String) (r:V->List V->Hp->VK->Prop):Prop:=
 ∀ (pins:List (Addr×Obj)) (s:Shared) (σ:St) (H:Hp) (x:V) (xs:List V) (v:Value) (us:List Value) (Q:VK),Inv X pins σ H s->RelV x v->qF xs us->r x xs H Q ->
  wpAny (model X.prog X.w) X.A (call (.builtin id) (v :: us)) (EP X pins σ Q) X.xe s
theorem qF.one:∀ {x:V} {us:List Value},qF [x] us->∃ u,us=[u]/\RelV x u
 | _,_,.cons r .nil=>⟨_,rfl,r⟩
theorem qF.zero:∀ {us:List Value},qF [] us->us=[]
 | _,.nil=>rfl
def qF.dropLast {xs:List V} {us:List Value} (h:qF xs us):qF xs.dropLast us.dropLast:=by
 induction h with
 | nil=>exact .nil
 | cons r t ih=>
  cases t with
  | nil=>exact .nil
  | cons q t'=>exact .cons r ih
theorem qF.eraseIdx:∀ {xs:List V} {us:List Value} (i:Nat),qF xs us->qF (xs.eraseIdx i) (us.eraseIdx i)
 | _,_,_,.nil=>.nil
 | _,_,0,.cons _ t=>t
 | _,_,i+1,.cons r t=>.cons r (qF.eraseIdx i t)
def xn {α:Type} (l:List α):l.eraseIdx (l.length - 1)=l.dropLast:=by
 induction l with
 | nil=>rfl
 | cons a r ih=>
  cases r with
  | nil=>rfl
  | cons b r=>
   have e:(a :: b :: r).length - 1=((b :: r).length - 1)+1:=by
    have h1:(a :: b :: r).length=r.length+2:=rfl
    have h2:(b :: r).length=r.length+1:=rfl
    lia
   rw[e,List.eraseIdx_cons_succ,ih]
   all_goals rfl
theorem W4 {α:Type}:∀ (l:List α) (i:Nat),(l.eraseIdx i).length<=l.length
 | [],_=>AM _
 | _ :: _,0=>CM _
 | _ :: r,i+1=>Cy (W4 r i)
section
variable {X:Cx} {pins:List (Addr × Obj)} {σ:St} {H:Hp} {s:Shared} {l b:Addr} {xs ys zs:List V}
def Inv.lset {its its':List Value} {n:Nat} {f:Array Value->Array Value} {t':Nat} (I:Inv X pins σ H s) (hH:H l=some (.lst xs))
  (e:s.heap.get? l=some { cls:=.type "list",data:=.seq its.toArray n }) (hf:f its.toArray=its'.toArray) (hv:qF ys its') (hz:ys.length<=sizeLine) :
  Inv X pins σ (upd H l (.lst ys)) { s with heap:=s.heap.update l (Obj.mapSeq f),toks:=t' }:=by
 have q:=PySem.IsL.update e f
 rw[hf] at q
 refine I.write (x:=l) (e:=l) (by rw[hH];exact trivial) (.inl rfl) (λb' u hb hu=>(BX s.heap (Obj.mapSeq f) (Aw hb)).trans hu) ⟨_,q⟩ ?_
 exact⟨hz,its',_,hv,q⟩
def Inv.lnew {its:List Value} {t':Nat} (I:Inv X pins σ H s) (hv:qF ys its) (hz:ys.length<=sizeLine) :
  Inv X pins σ (upd H s.heap.objs.size (.lst ys)) { s with heap:=s.heap.push { cls:=.type "list",data:=.seq its.toArray },toks:=t' }:=
 I.laid (λ_ _ q=>AC _ q) (AM _) ⟨hz,its,0,hv,AN _ rfl⟩
def Inv.fresh (I:Inv X pins σ H s):H s.heap.objs.size=none:=I.hok.fresh (AM _)
def Inv.lstM (I:Inv X pins σ H s) (hH:H l=some (.lst xs)):xs.length<=sizeLine/\∃ (its:List Value) (n:Nat),qF xs its/\xs.length=its.length/\s.heap.get? l=some { cls:=.type "list",data:=.seq its.toArray n }:=by
 obtain⟨z,its,n,r,e⟩:=I.hok l _ hH
 exact⟨z,its,n,r,r.length,e⟩
def notLongL {n:Nat} (h:n<=sizeLine):Builtin.List.listTooLong n=false:=by
 unfold Builtin.List.listTooLong
 exact As (by lia)
end
section
variable {X:Cx}
def rAppend:V->List V->Hp->VK->Prop:=λx vs H Q=>∃ l xs y,x=.ref l/\vs=[y]/\H l=some (.lst xs)/\xs.length < sizeLine/\Q .non (upd H l (.lst (xs++[y])))
def zT:MtM X "list.append" rAppend:=by
 intro pins s σ H x vs v us Q I rx rv h
 obtain⟨l,xs,y,rfl,rfl,hH,hz,q⟩:=h
 cases rx
 obtain⟨u,rfl,ru⟩:=rv.one
 obtain⟨z,its,n,r,hl,e⟩:=I.lstM hH
 refine DW F.slot_list_append ⟨_,e,O⟩ F.entry_list_append (F.args_list_append_2 _ _) (PySem.list_append l its.toArray n u (by rw[A0];lia)) ⟨e,?_⟩
 refine⟨.non,_,I.lset (its':=its++[u]) hH e (by simp) (r.append (.cons ru .nil)) ?_,O,q⟩
 rw[AL,List.length_singleton]
 lia
def rExtend:V->List V->Hp->VK->Prop:=λx vs H Q=>∃ l b xs zs,x=.ref l/\vs=[.ref b]/\H l=some (.lst xs)/\H b=some (.lst zs)/\xs.length+zs.length<=sizeLine/\Q .non (upd H l (.lst (xs++zs)))
def ZC:MtM X "list.extend" rExtend:=by
 intro pins s σ H x vs v us Q I rx rv h
 obtain⟨l,b,xs,zs,rfl,rfl,hH,hB,hz,q⟩:=h
 cases rx
 obtain⟨u,rfl,ru⟩:=rv.one
 cases ru
 obtain⟨z,its,n,r,hl,e⟩:=I.lstM hH
 obtain⟨z2,its2,n2,r2,hl2,e2⟩:=I.lstM hB
 have hsz:its.toArray.size+its2.toArray.size<=sizeLine:=by rw[A0,A0];lia
 have hlong:¬ (!its.toArray.isEmpty && Builtin.List.listTooLong (its.toArray.size+its2.toArray.size))=true:=by
  rw[notLongL hsz,Bool.and_false]
  exact AS
 refine DW F.slot_list_extend ⟨_,e,O⟩ F.entry_list_extend (F.args_list_extend_2 _ _)
  (AutoSeq1.list_extend_list_list_0 l its.toArray n b its2.toArray n2 hlong (by rw[A0];lia) (by lia)) ⟨e,e2,?_⟩
 refine⟨.non,_,I.lset (its':=its++its2) hH e (by simp) (r.append r2) ?_,O,q⟩
 rw[AL]
 lia
def rPop:V->List V->Hp->VK->Prop:=λx vs H Q=>∃ l xs y,x=.ref l/\vs=[]/\H l=some (.lst xs)/\xs[xs.length - 1]? = some y/\Q y (upd H l (.lst xs.dropLast))
def mt_pop:MtM X "list.pop" rPop:=by
 intro pins s σ H x vs v us Q I rx rv h
 obtain⟨l,xs,y,rfl,rfl,hH,hy,q⟩:=h
 cases rx
 have hus:=rv.zero
 subst hus
 obtain⟨z,its,n,r,hl,e⟩:=I.lstM hH
 obtain⟨u,hu,ru⟩:=r.get hy
 have hy':its.toArray[its.toArray.size - 1]? = some u:=by
  show its.toArray[its.length - 1]? = some u
  rw[<- By,<- hl]
  exact hu
 refine DW F.slot_list_pop ⟨_,e,O⟩ F.entry_list_pop (F.args_list_pop_1 _) (MeetsSeq.list_pop_last l its.toArray n u hy' (by rw[A0];lia)) ⟨e,?_⟩
 refine⟨y,_,I.lset (its':=its.dropLast) hH e ?_ r.dropLast ?_,ru,q⟩
 ·show its.toArray.eraseIdxIfInBounds (its.toArray.size - 1)=its.dropLast.toArray
  rw[A0,EV,xn]
 ·rw[D5]
  lia
def rPopAt:V->List V->Hp->VK->Prop:=λx vs H Q=>∃ l xs i k y,x=.ref l/\vs=[.int i]/\H l=some (.lst xs) /\ -(2 ^ 63)<=i/\i < 2 ^ 63/\seqIndex? i xs.length=some k/\xs[k]? = some y/\Q y (upd H l (.lst (xs.eraseIdx k)))
def mt_popAt:MtM X "list.pop" rPopAt:=by
 intro pins s σ H x vs v us Q I rx rv h
 obtain⟨l,xs,i,k,y,rfl,rfl,hH,h1,h2,hk,hy,q⟩:=h
 cases rx
 obtain⟨u,rfl,ru⟩:=rv.one
 obtain⟨t,rfl⟩:=ru
 obtain⟨z,its,n,r,hl,e⟩:=I.lstM hH
 obtain⟨w,hw,rw'⟩:=r.get hy
 refine DW F.slot_list_pop ⟨_,e,O⟩ F.entry_list_pop (F.args_list_pop_2 _ _)
  (MeetsSeq.list_pop_at l its.toArray n i t k w (fitsIndex_both h1 h2) (by rw[A0,<- hl];exact hk) (by rw[<- By];exact hw) (by rw[A0];lia)) ⟨e,?_⟩
 refine⟨y,_,I.lset (its':=its.eraseIdx k) hH e ?_ (r.eraseIdx k) ?_,rw',q⟩
 ·show its.toArray.eraseIdxIfInBounds k=(its.eraseIdx k).toArray
  rw[EV]
 ·have:=W4 xs k
  lia
def rCat:R2:=λx y H Q=>∃ l b xs zs,x=.ref l/\y=.ref b/\H l=some (.lst xs)/\H b=some (.lst zs)/\xs.length+zs.length<=sizeLine/\∀ p,H p=none->Q (.ref p) (upd H p (.lst (xs++zs)))
def Ju:OpR X (binaryOp .Add) rCat:=by
 intro pins s σ H x y v u Q I rx ry h
 obtain⟨l,b,xs,zs,rfl,rfl,hH,hB,hz,q⟩:=h
 cases rx
 cases ry
 obtain⟨z,its,n,r,hl,e⟩:=I.lstM hH
 obtain⟨z2,its2,n2,r2,hl2,e2⟩:=I.lstM hB
 refine PySem.P.add_list e e2 ?_ (by rw[A0,A0];lia)
 have ea:its.toArray++its2.toArray=(its++its2).toArray:=by simp
 rw[ea]
 exact⟨.ref _,_,I.lnew (t':=s.toks) (r.append r2) (by rw[AL];lia),O,q _ I.fresh⟩
end
section
variable {prog:Program} {w:World} {A:Around} {E:Value->Shared->Prop} {s:Shared}
set_option maxRecDepth 100000 in
end
section
variable {X:Cx}
end
end L2
namespace Att
open PySem PySem.W PySem.Calls PyProof.Rows
def ints_of_wellAll {P:Params} {h:Heap}:∀ (ns:List Int) (vs:List Value),WellAll P h vs (ns.map WData.int)->IntsAre vs ns:=by
 intro ns
 induction ns with
 | nil=>
  intro vs w
  rw[DY] at w
  cases w
  exact .nil
 | cons n ns ih=>
  intro vs w
  rw[Aj] at w
  cases w with
  | cons a b=>
   cases a
   exact .cons _ _ (ih _ b)
def script_of {l:OpenLaw} {n:Nat} (hn:l.most=some n) {P:Params} {h:Heap} {args:List WData} {vals:List Value}
  (hpre:l.row.toRowW.claim.pre args=true) (hwl:WellAll P h vals args) :
  ∃ a vs ns,vals=[Value.ref a]/\args=[WData.list (ns.map WData.int)]/\h.get? a=some { cls:=.type "list",data:=.seq vs.toArray }/\IntsAre vs ns/\ns.length<=n:=by
 have hsh:WShape.hasAll [] args [.list .int]=true:=(pre_splitW hpre).1
 have hc:l.pre.holds [] { args:=args } = true:=(pre_splitW hpre).2
 obtain⟨d,r,rfl,h1,h2⟩:=hasAllW_cons hsh
 obtain rfl:=hasAllW_nil h2
 obtain⟨xs,rfl,h3⟩:=hasW_list h1
 obtain⟨ns,rfl⟩:=items_int h3
 have hlen:ns.length<=n:=by
  unfold OpenLaw.pre at hc
  have h4:(WTm.not (.lt (.lit (.int (n:Int))) (.len (.arg 0)))).holds [] { args:=[.list (ns.map .int)] } = true:=by
   have h4:=(holds_andW hc).1
   rw[hn] at h4
   exact h4
  have h5:=condW_of h4 (w_not (w_lt w_lit (w_len_list (w_arg rfl))))
  rw[AB] at h5
  refine Nat.le_of_not_lt λq=>?_
  have q':(n:Int) < ((ns.length:Nat):Int):=by lia
  first
   | (rw[An q'] at h5;exact absurd h5 (by decide))
   | (simp at h5;lia)
 cases hwl with
 | cons w1 w2=>
  cases w2
  cases w1 with
  | list ho hall=>exact⟨_,_,ns,O,O,ho,ints_of_wellAll ns _ hall,hlen⟩
def post_true (l:OpenLaw) (args:List WData):l.row.toRowW.claim.post args (.bool true) args=true:=
 postW_of (r:=l.row.toRowW) (X:=(true == true))
  (show WShape.has [] (.bool true) .bool=true by first | rfl | decide | simp[WShape.has,WShape.arms,WShape.armsAll])
  (show (WTm.eq .res (.lit (.bool true))).value [] { args:=args,res:=some (.bool true),after:=args } = some (.bool (true == true)) from w_eq_bool (w_res rfl) w_lit) rfl
def attach_call {l:OpenLaw} {n:Nat} {q:Program} {loose:List Str} {XP:(Str->Option Value)->Heap->Prop} {YP:World->Heap->Prop} {d:DefRec}
  (hn:l.most=some n) (hdf:d.params.defaults=[])
  (call:∀ (w:World) (s₀ s₁:Shared) (mg mb:Str->Option Value) (fa:Addr) (o:Obj) (pm cd doc:Value) (a:Addr) (vs:List Value) (ns:List Int),
   Ground q loose [] XP w s₀ mg mb s₁.heap->YP w s₁.heap ->
   s₁.heap.get? fa=some o->o.data=.func (docDef d.name d.params d.body d.scope pm cd doc)->s₁.heap.CodeRec cd d.name->mg d.name=some (.ref fa) ->
   s₁.heap.get? a=some { cls:=.type "list",data:=.seq vs.toArray }->IntsAre vs ns->ns.length<=n->s₁.gens = #[] ->
   codeAny (model l.prog w) callerA (.call (.ref fa) ⟨[.ref a],[]⟩) (λr s'=>r=.ok (.ret (.bool true))/\OldK s₁.heap s'.heap/\s'.os=s₁.os/\AllBare s'.gens) s₁) :
  WalkO q loose XP YP l.row.toRowW d [] (λf vs=>PySem.call f vs):=by
 intro w s₀ s₁ mg mb G Y fa o pm cd doc dV kV ho hd hcd hD hmg hg args vals as hpre hlay hrd hwl hlo
 obtain rfl:dV=.none:=Dflts.none hD hdf
 obtain rfl:kV=.none:=Dflts.noKw hD
 obtain⟨a,vs,ns,rfl,rfl,hobj,hints,hlen⟩:=script_of hn hpre hwl
 refine enter_call (Ca (call w s₀ s₁ mg mb fa o pm cd doc a vs ns G Y ho (fd_plain hd) hcd hmg hobj hints hlen hg) λr s' hq=>?_)
 obtain⟨rfl,h2,h3,h4⟩:=hq
 exact⟨.inl ⟨.bool true,.bool true,[],rfl,λ_=>rfl,.bool true,post_true l _,λ_=>⟨List.Pairwise.nil,λ_ hm=>(nomatch hm)⟩⟩,h2,h3,h4⟩
section
variable {prog:Program} {w:World} {A:Around} {E:Value->Shared->Prop} {s:Shared} {K:Frag}
end
end Att
namespace L2
open PySem PySem.Spec PyProof.Rows
theorem W5:∀ {vs:List Value} {ns:List Int},IntsAre vs ns->qF (ns.map V.int) vs
 | _,_,.nil=>.nil
 | _,_,.cons n t h=>.cons ⟨t,rfl⟩ (W5 h)
def Only (H:Hp):Prop:=∀ b,H b=none\/∃ o xs,H b=some (.frz o (.lst xs))
def law_call {P:Program} {w:World} {K:Fs} {mg mb:Str->Option Value} {CX:CXT} {k:Nat} {fa a:Addr} {fd:FuncData} {x:Str} {sp:Sp} {s₁:Shared} {vs:List Value} {ns:List Int}
  (KX:K.In s₁.heap) (hns:s₁.heap.Ns mainGlobals mg) (hb:s₁.heap.Ns builtinsNs mb) (hbb:∀ x:Str,x ≠ "__name__" -> mb x=bootBuiltins x) (hlim:s₁.heap.NoLimit) (hg:s₁.gens = #[])
  (ha:s₁.heap.get? a=some { cls:=.type "list",data:=.seq vs.toArray }) (hi:IntsAre vs ns) (hl:ns.length<=sizeLine) (hr:QP k callerA)
  (F:∀ base:Heap,K.In base->base.Ns mainGlobals mg->ji P w K mg base CX k fa fd [x] sp) (hbind:∀ (s:Shared) (u:Value),BindsTo s fd ⟨[u],[]⟩ [(x,u)])
  (hsp:∀ H:Hp,Only H->SqL K H a (ns.map V.int)->sp [.ref a] H (λv _=>v=.bl true) λ_ _ _=>False)
  (hCX:∀ H e s',CX [] H s₁ (λ_ _ _=>False) e s'->False) :
  codeAny (model P w) callerA (.call (.ref fa) ⟨[.ref a],[]⟩) (λr s'=>r=.ok (.ret (.bool true))/\OldK s₁.heap s'.heap/\s'.os=s₁.os/\AllBare s'.gens) s₁:=by
 have rv:=W5 hi
 have lenV:=hi.length
 have core:∀ H:Hp,Only H->SqL K H a (ns.map V.int)->HOk P w H s₁.heap->(∀ b,H b ≠ none->b=a)->(H a ≠ none->K.lookup a=none) ->
   codeAny (model P w) callerA (.call (.ref fa) ⟨[.ref a],[]⟩) (λr s'=>r=.ok (.ret (.bool true))/\OldK s₁.heap s'.heap/\s'.os=s₁.os/\AllBare s'.gens) s₁:=by
  intro H hO hS hok hA hK
  have base_of:∀ {b:Addr} {o:Obj},s₁.heap.get? b=some o->H b=none->(hidT s₁.heap H).get? b=some o:=λe n=>hidT_get e n
  have noA:∀ {b:Addr} {o:Obj} {es:Array DictEntry} {ep:Nat},s₁.heap.get? b=some o->o.data=.dict es ep->H b=none:=λ{b o es ep} e d=>by
   cases q:H b with
   | none=>rfl
   | some u=>
    have e':b=a:=hA b (by rw[q];simp)
    subst e'
    rw[ha] at e;cases e
    have d':Data.seq vs.toArray _=Data.dict es ep:=d
    cases d'
  have nsK:∀ {b:Addr} {m:Str->Option Value},s₁.heap.Ns b m->(hidT s₁.heap H).Ns b m:=λ{b m} ⟨o,es,ep,e,d,r⟩=>⟨o,es,ep,base_of e (noA e d),d,r⟩
  have hKb:K.In (hidT s₁.heap H):=λb o e=>base_of (KX b o e) (by
   cases q:H b with
   | none=>rfl
   | some u=>
    have e':b=a:=hA b (by rw[q];simp)
    subst e'
    rw[hK (by rw[q];simp)] at e;cases e)
  have hM:Mod K mg (hidT s₁.heap H):=⟨hKb,nsK hns,⟨mb,nsK hb,hbb⟩,let ⟨mc,h1,h2⟩:=hlim;⟨mc,nsK h1,h2⟩⟩
  have e0:Env0 P w K mg (hidT s₁.heap H) callerA [] s₁ H:=⟨rfl,hM,λb o e=>of_hidT e,Nat.le_of_eq (Xg _ _),trivial,λb hb=>absurd (show b ∈ ([]:List Addr) from hb) (by simp),hok,.of_eq hg⟩
  refine Ca ((F _ hKb (nsK hns)).run callerA [] s₁ H ⟨[.ref a],[]⟩ [.ref a] [.ref a] _ _ hr e0 (hbind s₁ (.ref a)) (.cons rfl .nil) (hsp H hO hS)) λr s' h=>?_
  cases r with
  | error e=>exact (hCX H e s' h).elim
  | ok fl=>
   cases fl with
   | next=>exact False.elim h
   | brk=>exact False.elim h
   | cont=>exact False.elim h
   | ret u=>
    obtain⟨v,H',os,bare,un,hok',r',q⟩:=h
    have q':v=.bl true:=q
    subst q'
    obtain rfl:u=Value.bool true:=r'
    refine⟨O,OldK.of_keep λb o e=>?_,os,bare⟩
    cases q:H b with
    | none=>exact un.keep b o e q (by intro z;exact absurd (show b ∈ ([]:List Addr) from z) (by simp)) (by simp)
    | some u=>
     rcases hO b with z | ⟨ob,xs,z⟩
     ·rw[q] at z;cases z
     ·have z2:=un.frzs b ob _ z
      obtain⟨e1,_⟩:=hok b _ z
      obtain⟨e2,_⟩:=hok' b _ z2
      rw[e] at e1;cases e1
      exact e2
 cases hk:K.lookup a with
 | some o=>
  have e:=KX a o hk
  rw[ha] at e
  cases e
  refine core (λ_=>none) (λ_=>.inl rfl) (.inr ⟨_,vs.toArray,_,hk,O,O,O,by rw[A0,lenV];exact hl,by simpa using rv⟩) (λb u z=>by have z':(none:Option HO)=some u:=z;cases z') (λb z=>absurd rfl z) λz=>absurd rfl z
 | none=>
  refine core (λb=>if b=a then some (.frz { cls:=.type "list",data:=.seq vs.toArray } (.lst (ns.map V.int))) else none) (λb=>?_) (.inl (.inr ⟨{ cls:=.type "list",data:=.seq vs.toArray },if_pos rfl⟩)) (λb u z=>?_) (λb z=>?_) λ_=>hk
  ·by_cases hb:b=a
   ·exact .inr ⟨_,_,if_pos hb⟩
   ·exact .inl (if_neg hb)
  ·by_cases hb:b=a
   ·have z':=(if_pos hb).symm.trans z
    cases z'
    subst hb
    exact⟨ha,by rw[AB];exact hl,vs,_,rv,ha⟩
   ·have z':=(if_neg hb).symm.trans z
    cases z'
  ·by_cases hb:b=a
   ·exact hb
   ·exact absurd (if_neg hb) z
def Xv {l:PySem.W.OpenLaw} {n k:Nat} {q:Program} {loose:List Str} {XP:(Str->Option Value)->Heap->Prop} {YP:World->Heap->Prop} {d:DefRec} {K:Params->Fs} {CX:World->CXT} {sp:World->Sp} {x:Str}
  (hn:l.most=some n) (hn2:n<=sizeLine) (hdf:d.params.defaults=[]) (hr:QP k callerA)
  (hY:∀ (w:World) (h:Heap),YP w h->(K w.params).In h)
  (F:∀ (w:World) (mg:Str->Option Value) (fa:Addr) (h:Heap),(K w.params).In h->h.Ns mainGlobals mg->mg d.name=some (.ref fa) ->
   ∃ fd:FuncData,(∀ (s:Shared) (u:Value),BindsTo s fd ⟨[u],[]⟩ [(x,u)]) /\
    ∀ base:Heap,(K w.params).In base->base.Ns mainGlobals mg->ji l.prog w (K w.params) mg base (CX w) k fa fd [x] (sp w))
  (hsp:∀ (w:World) (H:Hp) (a:Addr) (ns:List Int),ns.length<=n->Only H->SqL (K w.params) H a (ns.map V.int)->sp w [.ref a] H (λv _=>v=.bl true) λ_ _ _=>False)
  (hCX:∀ (w:World) (H:Hp) (s:Shared) (e:Value) (s':Shared),CX w [] H s (λ_ _ _=>False) e s'->False) :
  PySem.W.WalkO q loose XP YP l.row.toRowW d [] (λf vs=>PySem.call f vs):=by
 refine Att.attach_call hn hdf λw s₀ s₁ mg mb fa o pm cd doc a vs ns G Y ho hd hcd hmg hobj hints hlen hg=>?_
 have KX:=hY w _ Y
 obtain⟨fd,hb,hF⟩:=F w mg fa _ KX G.T.g hmg
 exact law_call KX G.T.g G.T.b G.T.builtins G.T.nolimit hg hobj hints (Aa hlen hn2) hr hF hb (λH hO hS=>hsp w H a ns hlen hO hS) λH e s'=>hCX w H s₁ e s'
end L2
namespace L2
open PySem PySem.Spec PyProof.Rows
def ZD (s:Stmt):Arguments:=match s with
 | .FunctionDef _ a _ _ _ _ _ _ _ _=>a
 | _=>{ posonlyargs:=[],args:=[],vararg:=none,kwonlyargs:=[],kw_defaults:=[],kwarg:=none,defaults:=[] }
def Zj (s:Stmt):List Stmt:=match s with
 | .FunctionDef _ _ b _ _ _ _ _ _ _=>b
 | _=>[]
def zn (s:Stmt):Scope:=match s with
 | .FunctionDef _ _ _ _ _ _ sc _ _ _=>sc
 | _=>{ kind:=.function,names:=[],isGenerator:=false,isCoroutine:=false }
abbrev CX0:CXT:=λ_ _ _ _ _ _=>False
abbrev E0:XK:=λ_ _ _=>False
def pass0 {X:Cx}:Xs CX0 X E0:=λ_ _ _ _ _ _ _ h=>h.elim
structure Fun (K:Fs) (x qual:Str) (st:Stmt) (f:Addr) (fd:FuncData):Prop where
 ex:∃ (oc:Value) (od:Option Addr) (kV doc pm:Value) (an:Option Addr) (cdv ct:Value) (osl:Array (Option Value)),
  fd=PySem.W.fnOf x qual (ZD st) (Zj st) (zn st) .none kV doc pm an cdv ct/\K.lookup f=some ⟨oc,od,.func fd,osl⟩/\PySem.W.codeIn K cdv qual=true
 kp:PySem.W.keepIn K (.ref f)=true
section
variable {P:Program} {w:World} {K:Fs} {mg:Str->Option Value} {base:Heap}
def Fun.ok {x qual:Str} {st:Stmt} {f:Addr} {fd:FuncData} {N ps:List Str} {k:Nat} {sp:Sp} (F:Fun K x qual st f fd) (S:zC N ps (zn st)) (len:∀ vs H Q E,sp vs H Q E->vs.length=ps.length)
  (hbody:∀ (cdv:Value) (A:Around) (outer:List Env) (s:Shared) (H:Hp) (vs:List V) (Q:VK) (E:XK),QP k (A.deeper (envOfC qual (zn st) s.heap.objs.size f cdv))->sp vs H Q E ->
   ∃ t,PSs (cxOf CX0 P w K mg base N qual (zn st) f cdv A outer s H E).nox (Zj st) t/\t { nx:=λ_ H'=>Q .non H',rt:=Q } (start N vs) H):ji P w K mg base CX0 (k+1) f fd ps sp:=by
 obtain⟨oc,od,kV,doc,pm,an,cdv,ct,osl,rfl,lk,hcd⟩:=F.ex
 refine fn_of lk hcd S len λA outer s H vs Q E hr hsp=>?_
 obtain⟨t,h,q⟩:=hbody cdv A outer s H vs Q E hr hsp
 exact⟨t,h.nox,q⟩
def Fun.binds {x qual:Str} {st:Stmt} {f:Addr} {fd:FuncData} {ps:List Str} (F:Fun K x qual st f fd)
  (h:∀ (kV doc pm:Value) (an:Option Addr) (cdv ct:Value) (us:List Value),us.length=ps.length->bindArgs (PySem.W.fnOf x qual (ZD st) (Zj st) (zn st) .none kV doc pm an cdv ct) ⟨us,[]⟩=pure (ps.zip us)):Binds K fd ps []:=by
 obtain⟨oc,od,kV,doc,pm,an,cdv,ct,osl,rfl,lk,hcd⟩:=F.ex
 exact .all (h kV doc pm an cdv ct)
def fun_mk {x qual:Str} {st:Stmt} {f:Addr} {oc:Value} {od an:Option Addr} {osl:Array (Option Value)} {kV doc pm cdv ct:Value} (l:K.lookup f=some ⟨oc,od,.func (PySem.W.fnOf x qual (ZD st) (Zj st) (zn st) .none kV doc pm an cdv ct),osl⟩)
  (c:PySem.W.codeIn K cdv qual=true) (k:PySem.W.keepIn K (.ref f)=true):Fun K x qual st f (PySem.W.fnOf x qual (ZD st) (Zj st) (zn st) .none kV doc pm an cdv ct):=⟨⟨oc,od,kV,doc,pm,an,cdv,ct,osl,rfl,l,c⟩,k⟩
end
def hu_of {A:Around} {k:Nat} (hr:QP k A):A.units+1 < cLine:=EC (Nat.add_le_add_left (by decide:1<=64) _) hr.units
def zq {n:Nat} (h:n<=1000):n < sizeLine:=EC h (by decide)
def pgl {X:Cx} (i:Nat) (x:Str) (pos:Pos) (hN:X.N.Nodup) (hi:X.N[i]? = some x) (hl:X.env.scope.names.lookup x=some .local):PG X (.Name x pos) (jh i):=Zg hN hi (.inl hl) (.inr hl)
def vOk (n:List (Str×NameKind)) (x:Str):Bool:=(match n.lookup x with | some .local=>true | some .cell=>true | some .free=>true | _=>false) && (!(x == ("__debug__" : Str)) && !(x == ("__classdict__" : Str)))
def pw {X:Cx} (i:Nat) (x:Str) (pos:Pos) (hN:X.N[i]? = some x) (h:vOk X.env.scope.names x=true):PE X (.Name x pos) (tVar i):=by
 unfold vOk at h
 rw[BR,BR,ER,ER] at h
 refine pe_var hN ?_ h.2.1 h.2.2
 cases e:X.env.scope.names.lookup x with
 | none=>rw[e] at h;cases h.1
 | some k=>cases k <;> first | exact .inl e | exact .inr (.inl e) | exact .inr (.inr e) | (rw[e] at h;cases h.1)
section
variable {X:Cx}
theorem pv (i:Nat) {x:Str} {pos:Pos} (hN:X.N[i]? = some x:=by rfl) (hv:Vis X.env.scope x:=by first | exact Or.inl rfl | exact Or.inr (Or.inl rfl) | exact Or.inr (Or.inr rfl)) (hd:(x == ("__debug__" : Str))=false:=by decide)
  (hcd:(x == ("__classdict__" : Str))=false:=by decide):PE X (.Name x pos) (tVar i):=pe_var hN hv hd hcd
end
def wc {A B:Prop} (h:B):if false=true then A else B:=by
 rw[if_neg AS]
 exact h
def wC {A B:Prop} (h:A):if true=true then A else B:=by
 rw[if_pos rfl]
 exact h
def Zz {c A B:Prop} [Decidable c] (h1:c->A) (h2:¬ c->B):if c then A else B:=by
 by_cases h:c
 ·rw[if_pos h]
  exact h1 h
 ·rw[if_neg h]
  exact h2 h
def zD (H H':Hp):Prop:=∀ b o,H b=some o->H' b=some o
def zD.refl (H:Hp):zD H H:=λ_ _ h=>h
def zD.trans {H H1 H2:Hp} (a:zD H H1) (b:zD H1 H2):zD H H2:=λc o h=>b c o (a c o h)
def zD.free {H H':Hp} (e:zD H H') {l:Addr} (h:H' l=Option.none):H l=Option.none:=by
 cases q:H l with
 | none=>rfl
 | some o=>
  rw[e l o q] at h
  cases h
abbrev NoX:Value->Shared->Prop:=λ_ _=>False
def wpX {α:Type} {M:Model} {A:Around} {t:Sem α} {Q:α->Shared->Prop} {E:Value->Shared->Prop} {s:Shared} (h:wpAny M A t Q NoX s):wpAny M A t Q E s:=
 DH h (λ_ _ q=>q) λ_ _ f=>f.elim
def Xw (ifs:List Expr) (env:Env):Sem Bool:=
 forIn ifs true λc r=>if r=true then do let ok <- isTrue c env (eval c env);pure (ForInStep.yield ok) else pure (ForInStep.yield r)
def Wc {prog:Program} {w:World} {A:Around} {R:Result->Shared->Prop} {s:Shared} {elt tg iter:Expr} {ifs:List Expr} {scope:Scope} {pos:Pos} {it acc:Value} {env:Env} (Iv:Nat->Shared->Prop)
  (turn:∀ n s,Iv n s->wpAny (model prog w) A (pyNext it) (λr s1=>match r with
   | none=>R (.ok .next) s1
   | some v=>wpAny (model prog w) A (letOwnedTupleGo tg it v) (λ_ s2=>wpAny (model prog w) A (assign tg env v) (λ_ s3=>wpAny (model prog w) A (Xw ifs env) (λok s4=>
      if ok=true then wpAny (model prog w) A (eval elt env) (λx s5=>wpAny (model prog w) A (call (.builtin "list.append") [acc,x]) (λ_ s6=>∃ m,m < n/\Iv m s6) NoX s5) NoX s4
      else ∃ m,m < n/\Iv m s4) NoX s3) NoX s2) NoX s1) NoX s)
  (n:Nat) (h:Iv n s):codeAny (model prog w) A (.compLoop (.ListComp elt [⟨tg,iter,ifs,0⟩] scope pos) 0 it acc env) R s:=by
 refine codeAny_loop rfl Iv (λn s hI=>?_) n h
 show wpAny (model prog w) A ((compTurn (.ListComp elt [⟨tg,iter,ifs,0⟩] scope pos) 0 it acc env).onRaise (λx=>do noteFrame x env;theTreesLotGoes x)) _ _ s
 refine wpAny_noted (wpX ?_)
 rw[compTurn_list]
 refine AA (wpAny_standAt (AA (thn (turn n s hI) λr s1 h1=>?_)))
 cases r with
 | none=>exact AE h1
 | some v=>
  refine AA (thn h1 λ_ s2 h2=>AA (thn h2 λ_ s3 h3=>AA (thn h3 λok s4 h4=>?_)))
  cases ok with
  | false=>exact AE ⟨O,h4⟩
  | true=>exact AA (AA (thn h4 λx s5 h5=>AA (thn h5 λ_ s6 h6=>AE (AE ⟨O,h6⟩))))
def jH (env:Env) (y:Str×NameKind) (cs:List (Str×Addr)):List (Str×Addr):=if (y.2 == NameKind.free)=true then (y.1,(env.cells.lookup y.1).getD 0) :: cs else cs
def Xx (env:Env) (scope:Scope):List (Str×Addr):=scope.names.foldl (λc y=>jH env y c) []
theorem Jv {α β:Type} {f:α->β->Sem (ForInStep β)} {g:β->α->β}:∀ (l:List α) (c:β),(∀ x ∈ l,∀ c,f x c=pure (.yield (g c x)))->forIn l c f=pure (l.foldl g c)
 | [],c,_=>rfl
 | x :: l,c,h=>by
  rw[List.forIn_cons,h x Af,pure_bind]
  exact Jv l (g c x) λy hy=>h y (Ah _ hy)
def wD {env:Env} {scope:Scope} (h:∀ y ∈ scope.names,y.2=.free->∃ c,env.cells.lookup y.1=some c):closureFor scope env=pure (Xx env scope):=by
 simp only[closureFor]
 rw[Jv (g:=λc y=>jH env y c) scope.names [] (λy hy c=>?_)]
 ·rfl
 ·obtain⟨n,k⟩:=y
  by_cases hk:k=.free
  ·subst hk
   obtain⟨a,ha⟩:=h _ hy rfl
   have ha':env.cells.lookup n=some a:=ha
   simp[jH,cellOf,ha']
  ·have hb:(k == NameKind.free)=false:=by simpa using hk
   simp only[jH,hb,Bool.false_eq_true,if_false]
def QZ {env:Env}:∀ (ns:List (Str×NameKind)) (cs:List (Str×Addr)),(∀ y ∈ ns,y.2=.free->∃ c,env.cells.lookup y.1=some c)->(∀ x c,cs.lookup x=some c->env.cells.lookup x=some c) ->
  ∀ x c,(ns.foldl (λc y=>jH env y c) cs).lookup x=some c->env.cells.lookup x=some c
 | [],_,_,h=>h
 | y :: ns,cs,hf,h=>by
  refine QZ ns (jH env y cs) (λz hz=>hf z (Ah _ hz)) λx c e=>?_
  unfold jH at e
  split at e
  ·rename_i hk
   have hk':y.2=.free:=by simpa using hk
   obtain⟨a,ha⟩:=hf y Af hk'
   rw[Bh] at e
   split at e
   ·rename_i hx
    have hx':x=y.1:=by simpa using hx
    rw[ha] at e
    rw[hx',ha]
    exact e
   ·exact h x c e
  ·exact h x c e
theorem ZE {env:Env} (x:Str):∀ (ns:List (Str×NameKind)) (cs:List (Str×Addr)),((x,NameKind.free) ∈ ns\/∃ c,cs.lookup x=some c)->∃ c,(ns.foldl (λc y=>jH env y c) cs).lookup x=some c
 | [],_,h=>by
  rcases h with h | h
  ·exact absurd h (by simp)
  ·exact h
 | y :: ns,cs,h=>by
  refine ZE x ns (jH env y cs) ?_
  rcases h with h | ⟨c,h⟩
  ·rcases AX.mp h with e | h
   ·subst e
    exact .inr ⟨(List.lookup x env.cells).getD 0,by simp[jH]⟩
   ·exact .inl h
  ·refine .inr ?_
   unfold jH
   split
   ·rw[Bh]
    split
    ·exact⟨_,O⟩
    ·exact⟨c,h⟩
   ·exact⟨c,h⟩
def relK (env:Env) (n:Str) (k:NameKind):NameKind:=if (k == NameKind.free && env.scope.kind == .function && env.kindOf n == some .cell)=true then .cell else k
def relP (env:Env) (y:Str×NameKind):Str×NameKind:=if (y.2 == NameKind.free && env.scope.kind == .function && env.kindOf y.1 == some .cell)=true then (y.1,NameKind.cell) else (y.1,y.2)
def relP_eq (env:Env) (y:Str×NameKind):relP env y=(y.1,relK env y.1 y.2):=by
 unfold relP relK
 split <;> rfl
theorem wE {env:Env} (x:Str):∀ ns:List (Str×NameKind),(ns.map (relP env)).lookup x=(ns.lookup x).map (relK env x)
 | []=>rfl
 | (n,k) :: r=>by
  have ih:=wE (env:=env) x r
  rw[Aj,relP_eq,Bh,Bh]
  cases hx:x == n with
  | true=>
   have e:x=n:=by simpa using hx
   subst e
   rfl
  | false=>exact ih
def Z7 {env : Env} {scope : Scope} (x : Str) : (relabel scope env).names.lookup x = (scope.names.lookup x).map (relK env x) := wE x scope.names
def capOne (N:List Str) (scope:Scope) (p:Option Nat×Str):Bool:=match p.1 with
 | none=>true
 | some j=>decide (N[j]? = some p.2) && decide (scope.names.lookup p.2=some .free)
structure zJ (N:List Str) (sc:Scope) (N':List Str) (ix:List (Option Nat)) (scope:Scope):Prop where
 kind:scope.kind=.function
 nocell:∀ y ∈ scope.names,y.2 ≠ .cell
 locs:∀ y ∈ scope.names,y.2=.local->scope.names.lookup y.1=some .local
 frees:∀ y ∈ scope.names,y.2=.free->(sc.names.lookup y.1=some .cell\/sc.names.lookup y.1=some .free)
 nd:N'.Nodup
 len:ix.length=N'.length
 cap:(ix.zip N').all (capOne N scope)=true
def ixSt (ix:List (Option Nat)) (σ:St):St:=ix.map λo=>o.bind λi=>(σ[i]?).join
def jq (X:Cx) (N':List Str) (scope:Scope) (C:Addr) (fp:List Addr) (s₀:Shared) (H₀:Hp):Cx where
 prog:=X.prog
 w:=X.w
 K:=X.K
 mg:=X.mg
 base:=X.base
 A:=X.A
 N:=N'
 s₀:=s₀
 H₀:=H₀
 env:=compEnvC scope (Xx X.env scope) C X.env
 outer:=X.stack
 stack:=X.stack
 ex:=fp
 fn:=λ_=>false
 calm:=X.calm
 pn:=[]
 xe:=NoX
section
variable {X:Cx} {N':List Str} {ix:List (Option Nat)} {scope:Scope} {pins:List (Addr × Obj)} {σ:St} {H:Hp} {s:Shared} {fp:List Addr}
def zJ.has (S:zJ X.N X.env.scope N' ix scope) (ok:X.Ok):∀ y ∈ scope.names,y.2=.free->∃ c,X.env.cells.lookup y.1=some c:=λy hy hk=>ok.has y.1 (S.frees y hy hk)
def zJ.sub (S:zJ X.N X.env.scope N' ix scope) (ok:X.Ok):∀ x c,(Xx X.env scope).lookup x=some c->X.env.cells.lookup x=some c:=
 QZ scope.names [] (S.has ok) λx c e=>by simp at e
def zJ.frK (S : zJ X.N X.env.scope N' ix scope) {x : Str} (h : (relabel scope X.env).names.lookup x = some .cell \/ (relabel scope X.env).names.lookup x = some .free) : scope.names.lookup x = some .free := by
 rw [Z7] at h
 cases e:scope.names.lookup x with
 | none=>rw[e] at h;simp at h
 | some k=>
  rw[e] at h
  cases k with
  | free=>rfl
  | cell=>exact absurd rfl (S.nocell _ (Bj e))
  | «local»=>simp[relK] at h
  | globalExplicit=>simp[relK] at h
  | globalImplicit=>simp[relK] at h
def xo {h1:Heap} {m:Str->Option Value} {tk:Nat} (S:zJ X.N X.env.scope N' ix scope) (I:Inv X pins σ H s) (hf:∀ b ∈ fp,YF X pins H b) (hlt:∀ b ∈ fp,b < s.heap.objs.size)
  (ns:h1.Ns s.heap.objs.size m) (kp:∀ b o,s.heap.get? b=some o->h1.get? b=some o) :
  Inv (jq X N' scope s.heap.objs.size fp s H) [] (ixSt ix σ) H { s with heap:=h1,toks:=tk }:=by
 have sub:=S.sub I.ok
 have cellS:∀ x c,(Xx X.env scope).lookup x=some c->c < s.heap.objs.size:=λx c e=>by
  obtain⟨v,q⟩:=I.cell x c (sub x c e)
  exact q.lt
 refine⟨⟨I.ok.mod,S.kind,I.ok.glob,I.ok.blt,AM _,λx y c h1 h2=>I.ok.inj x y c (sub x c h1) (sub y c h2),λx hx=>?_,λx c z _=>?_,I.ok.hd,I.ok.frames,.inl rfl,λb hb=>⟨?_,λx c e=>?_⟩,I.bs,Aa I.ok.bsz I.sz,λb o e hb=>?_,λb hb z=>?_,I.stack,I.stkFree⟩,
  rfl,I.bare,Un.kept kp,⟨m,ns,λi x v h1 h2 h3=>?_⟩,λx c e=>?_,I.hok.fresh (AM _),λx c e=>I.freeC x c (sub x c e),λp hp=>absurd (show p ∈ ([]:List (Addr×Obj)) from hp) (by simp),I.hok.kept kp,?_⟩
 ·exact ZE x scope.names [] (.inl (Bj (S.frK hx)))
 ·exact absurd (show false=true from z) (by simp)
 ·exact AU (hlt b hb)
 ·exact (hf b hb).2.2.2.2.1 x c (sub x c e)
 ·rcases (hf b hb).2.2.2.1 with z | z
  ·exact I.ok.noex b o e z
  ·exact absurd (Ac (AO e) (Aa I.ok.bsz z)) (A1 _)
 ·rcases AX.mp (I.stkSub b z) with e | e
  ·exact (hf b hb).2.1 e
  ·exact (hf b hb).2.2.1 e
 ·have hi:i < ix.length:=by
   have:=(AF.mp h1).1
   rw[S.len];exact this
  have e1:ix[i]? = some ix[i]:=AD hi
  have h2':(ixSt ix σ)[i]? = some (some v):=h2
  rw[ixSt,AH,e1] at h2'
  have h2'':(ix[i].bind λj=>(σ[j]?).join)=some v:=AR h2'
  cases ej:ix[i] with
  | none=>rw[ej] at h2'';cases h2''
  | some j=>
   rw[ej] at h2''
   have h2j:(σ[j]?).join=some v:=h2''
   have hz:(ix[i],x) ∈ ix.zip N':=by
    have ez:(ix.zip N')[i]? = some (ix[i],x):=by rw[BJ];exact⟨e1,h1⟩
    exact AJ ez
   have cq:=Al.mp S.cap _ hz
   have cq':(decide (X.N[j]? = some x) && decide (scope.names.lookup x=some .free))=true:=by
    unfold capOne at cq
    simp only[ej] at cq
    exact cq
   rw[BR] at cq'
   have c1:=Ar cq'.1
   have c2:=Ar cq'.2
   have kx:X.env.scope.names.lookup x=some .cell\/X.env.scope.names.lookup x=some .free:=S.frees (x,.free) (Bj c2) rfl
   have hs:σ[j]? = some (some v):=by
    cases q:σ[j]? with
    | none=>rw[q] at h2j;cases h2j
    | some o=>rw[q] at h2j;have:o=some v:=h2j;rw[this]
   obtain⟨m0,hn0,hl0⟩:=I.loc
   obtain⟨u,ru,lk⟩:=hl0 j x v c1 hs (kx.elim (λz=>.inr (.inl z)) λz=>.inr (.inr z))
   refine⟨u,ru,.inr ⟨?_,?_⟩⟩
   ·show (relabel scope X.env).names.lookup x = some .cell \/ (relabel scope X.env).names.lookup x = some .free
    rw [Z7, c2]
    simp only[Option.map_some,relK]
    split
    ·exact .inl rfl
    ·exact .inr rfl
   ·rcases lk with ⟨k,_⟩ | ⟨_,c,ec,hc⟩
    ·have k':X.env.scope.names.lookup x=some .local:=k
     rw[k'] at kx
     rcases kx with z | z <;> cases z
    ·obtain⟨c',ec'⟩:=ZE (env:=X.env) x scope.names [] (.inl (Bj c2))
     have:=sub x c' ec'
     rw[ec] at this;cases this
     exact⟨c,ec',hc.keeps kp⟩
 ·obtain⟨v,q⟩:=I.cell x c (sub x c e)
  exact⟨v,q.keeps kp⟩
 ·show (ixSt ix σ).length=N'.length
  rw[ixSt,AB,S.len]
def PF (X:Cx) (ifs:List Expr) (t:TT):Prop:=∀ (pins:List (Addr×Obj)) (s:Shared) (σ:St) (H:Hp) (Q:Bool->Hp->Prop),Inv X pins σ H s->t σ H Q->wpAny (model X.prog X.w) X.A (Xw ifs X.env) (TP X pins σ Q) X.xe s
def tYes:TT:=λ_ H Q=>Q true H
def qd:PF X [] tYes:=λ_ _ _ H _ I h=>wpAny_tests_nil ⟨H,I,h⟩
def Jw {c:Expr} {t:TT} (hc:PT X c t):PF X [c] t:=λpins s σ H Q I h=>wpAny_tests_one (hc pins s σ H Q I h)
def jI (J:It) (g:TG) (tt:TT) (te:TE) (σ0:St) (H1:Hp) (Q:VK) (D:Addr):Prop:=∃ W:Nat->Nat->St->Hp->Prop,(∃ m,W 0 m σ0 (upd H1 D (.lst [])))/\∀ i m σ' H',W i m σ' H' ->
 (J.stop i H'/\Q (.ref D) H')\/(J.go i H'/\∀ x H2,J.yld i H' x H2->g x σ' H2 λσ2 H3=>tt σ2 H3 λb H4=>
  if b=true then te σ2 H4 λv H5=>∃ xs,H5 D=some (.lst xs)/\xs.length < sizeLine/\∃ m',m' < m/\W (i+1) m' σ2 (upd H5 D (.lst (xs++[v]))) else ∃ m',m' < m/\W (i+1) m' σ2 H4)
def tComp (ix:List (Option Nat)) (wi:TI) (g:TG) (tt:TT) (te:TE):TE:=λσ H Q=>wi σ H λJ H1=>∀ D,H1 D=none->jI J g tt te (ixSt ix σ) H1 Q D
def wF {elt tg iter:Expr} {ifs:List Expr} {pos:Pos} {g:TG} {tt:TT} {te:TE} {Q:VK} {Z:Value->Addr->Result->Shared->Prop} {it:Addr} {tn:Nat->Heap->Prop} {J:It}
  (S:zJ X.N X.env.scope N' ix scope) (hc:X.calm=true)
  (hg:∀ C fp s₀ H₀,PG (jq X N' scope C fp s₀ H₀) tg g) (ht:∀ C fp s₀ H₀,PF (jq X N' scope C fp s₀ H₀) ifs tt) (he:∀ C fp s₀ H₀,PE (jq X N' scope C fp s₀ H₀) elt te)
  (I:Inv X pins σ H s) (T:Turn X.prog X.w X.K tg J fp it tn) (st:tn 0 s.heap) (hf:∀ b ∈ fp,YF X pins H b)
  (h:∀ D,H D=none->∃ W:Nat->Nat->St->Hp->Prop,(∃ m,W 0 m (ixSt ix σ) (upd H D (.lst [])))/\∀ i m σ' H',W i m σ' H' ->
   (J.stop i H'/\Q (.ref D) H')\/(J.go i H'/\∀ x H2,J.yld i H' x H2->g x σ' H2 λσ2 H3=>tt σ2 H3 λb H4=>
    if b=true then te σ2 H4 λv H5=>∃ xs,H5 D=some (.lst xs)/\xs.length < sizeLine/\∃ m',m' < m/\W (i+1) m' σ2 (upd H5 D (.lst (xs++[v]))) else ∃ m',m' < m/\W (i+1) m' σ2 H4))
  (hZ:∀ D C H' s' m,Inv X pins σ H' s'->s'.heap.Ns C m->H' C=none->s.heap.objs.size<=C->Q (.ref D) H'->Z (.ref D) C (.ok .next) s') :
  wpAny (model X.prog X.w) X.A (newList []) (λacc s3=>wpAny (model X.prog X.w) X.A (newFunctionEnv scope X.env.globals (Xx X.env scope) [] X.env.qual none .none (some X.env)) (λcenv s4=>
   codeAny (model X.prog X.w) X.A (.compStart (.ListComp elt [⟨tg, iter, ifs, 0⟩] scope pos) 0 (.ref it) acc { cenv with scope := relabel scope X.env }) (Z acc cenv.locals) s4) X.xe s3) X.xe s := by
 refine Ax (wpAny_newFunctionEnv S.nocell (by intro y hy;simp at hy) (λh1 ns1 sb1=>?_) S.kind)
 have I3:Inv X pins σ (upd H s.heap.objs.size (.lst [])) { s with heap:=s.heap.push { cls:=.type "list",data:=.seq ([]:List Value).toArray },toks:=s.toks }:=I.lnew (ys:=[]) (its:=[]) .nil (BA _)
 generalize hs3:({ s with heap:=s.heap.push { cls:=.type "list",data:=.seq ([]:List Value).toArray } }:Shared)=s3 at ns1 sb1 ⊢
 have I3:Inv X pins σ (upd H s.heap.objs.size (.lst [])) s3:=by rw[<- hs3];exact I3
 have hsz:s3.heap.objs.size=s.heap.objs.size+1:=by rw[<- hs3];exact Bq _ _
 have st3:tn 0 s3.heap:=by
  rw[<- hs3]
  exact T.keep _ _ _ st λb _ o e=>AC _ e
 have blw:∀ b ∈ fp,b < s.heap.objs.size:=λb hb=>by
  obtain⟨o,e,_⟩:=T.obj _ _ st b hb
  exact AO e
 have hf3:∀ b ∈ fp,YF X pins (upd H s.heap.objs.size (.lst [])) b:=λb hb=>⟨by rw[zK (AU (blw b hb))];exact (hf b hb).1,(hf b hb).2⟩
 obtain⟨W,⟨m0,w0⟩,turn⟩:=h s.heap.objs.size I.fresh
 have kp:∀ b o,s3.heap.get? b=some o->h1.get? b=some o:=λb o e=>(sb1.2 b (AU (AO e))).trans (AC _ e)
 have J0:=xo (tk:=s3.toks+([]:List (Str×Value)).length) S I3 hf3 (λb hb=>by rw[hsz];exact BF (blw b hb)) ns1 kp
 have st4:tn 0 h1:=T.keep _ _ _ st3 λb _ o e=>kp b o e
 have stat:∀ {H':Hp} {pl:List (Addr×Obj)},(∀ b ∈ fp,H' b=none)->(∀ b ∈ fp,∀ p ∈ pl,p.1 ≠ b)->∀ b ∈ fp,YF (jq X N' scope s3.heap.objs.size fp s3 (upd H s.heap.objs.size (.lst []))) pl H' b:=λhn hp b hb=>
  ⟨hn b hb,(J0.ok.exf b hb).1,J0.ok.exfs b hb,.inl hb,(J0.ok.exf b hb).2,λp q=>hp b hb p q⟩
 have loop:codeAny (model X.prog X.w) X.A (.compLoop (.ListComp elt [⟨tg,iter,ifs,0⟩] scope pos) 0 (.ref it) (.ref s.heap.objs.size) (jq X N' scope s3.heap.objs.size fp s3 (upd H s.heap.objs.size (.lst []))).env) (Z (.ref s.heap.objs.size) s3.heap.objs.size)
   { s3 with heap:=h1,toks:=s3.toks+([]:List (Str×Value)).length }:=by
  refine Wc (λn s'=>∃ i σ' H',Inv (jq X N' scope s3.heap.objs.size fp s3 (upd H s.heap.objs.size (.lst []))) [] σ' H' s'/\tn i s'.heap/\(∀ b ∈ fp,H' b=none)/\W i n σ' H') ?_ m0
   ⟨0,_,_,J0,st4,λb hb=>(hf3 b hb).1,w0⟩
  rintro n s5 ⟨i,σ5,H5,I5,st5,fr5,w5⟩
  rcases turn i n σ5 H5 w5 with ⟨stop,q⟩ | ⟨go,step⟩
  ·refine thn (T.done (jq X N' scope s3.heap.objs.size fp s3 (upd H s.heap.objs.size (.lst []))) rfl rfl rfl hc i [] s5 σ5 H5 NoX I5 (stat (pl:=[]) fr5 (λ_ _ p hp=>absurd hp (by simp))) st5 stop) λr s6 ⟨hr,I6⟩=>?_
   subst hr
   have I7:Inv X pins σ H5 s6:=I3.call' (ch:=fp) I6.os I6.base I6.hok I6.bare λb hb=>⟨(hf3 b hb).2.2.2.1,(hf3 b hb).2.1,(hf3 b hb).2.2.2.2.1,(hf3 b hb).2.2.2.2.2⟩
   obtain⟨m6,n6,_⟩:=I6.loc
   exact hZ _ _ H5 s6 m6 I7 n6 I6.free (by rw[hsz];exact CM _) q
  ·refine thn (T.item (jq X N' scope s3.heap.objs.size fp s3 (upd H s.heap.objs.size (.lst []))) rfl rfl rfl hc i [] s5 σ5 H5 NoX I5 (stat (pl:=[]) fr5 (λ_ _ p hp=>absurd hp (by simp))) st5 go) λr s6 ⟨u,hr,h6⟩=>?_
   subst hr
   refine thn h6 λ_ s7 ⟨x,H7,I7,r7,y7,st7,fr7⟩=>?_
   have I7':=I7.pinned (stat (pl:=[]) fr7 (λ_ _ p hp=>absurd hp (by simp))) (T.obj _ _ st7)
   refine thn (hg _ _ _ _ _ s7 σ5 H7 x u _ I7' r7 (step x H7 y7)) λ_ s8 ⟨σ8,H8,I8,q8⟩=>?_
   refine thn (ht _ _ _ _ _ s8 σ8 H8 _ I8 q8) λb s9 ⟨H9,I9,q9⟩=>?_
   have again:∀ {σ':St} {H':Hp} {s':Shared} {m':Nat},Inv (jq X N' scope s3.heap.objs.size fp s3 (upd H s.heap.objs.size (.lst []))) ([]++WV fp s7.heap) σ' H' s'->m' < n->W (i+1) m' σ' H' ->
     ∃ m,m < n/\∃ i σ' H',Inv (jq X N' scope s3.heap.objs.size fp s3 (upd H s.heap.objs.size (.lst []))) [] σ' H' s'/\tn i s'.heap/\(∀ b ∈ fp,H' b=none)/\W i m σ' H':=λ{σ' H' s' m'} I' hm w'=>by
    refine⟨m',hm,i+1,σ',H',I'.unpinned,T.keep _ _ _ st7 λb hb o e=>(I'.pin (b,o) (Ae _ (Ae _ (ZV hb e)))).1,λb hb=>?_,w'⟩
    obtain⟨o,e,d⟩:=T.obj _ _ st7 b hb
    exact (I'.pin (b,o) (Ae _ (Ae _ (ZV hb e)))).2.1
   cases b with
   | false=>
    obtain⟨m',hm,w'⟩:=(show ∃ m',m' < n/\W (i+1) m' σ8 H9 from q9)
    exact again I9 hm w'
   | true=>
    refine thn (he _ _ _ _ _ s9 σ8 H9 _ I9 q9) λv s10 ⟨y,H10,I10,r10,q10⟩=>?_
    obtain⟨xs,hx,hl,m',hm,w'⟩:=q10
    refine thn (zT _ s10 σ8 H10 (.ref s.heap.objs.size) [y] (.ref s.heap.objs.size) [v] (λ_ H'=>W (i+1) m' σ8 H') I10 rfl (.cons r10 .nil) ⟨_,xs,y,O,O,hx,hl,w'⟩) λ_ s11 ⟨_,H11,I11,_,q11⟩=>?_
    exact again I11 hm q11
 exact codeAny_compStart_list loop (T.self _ _ _ _ _ st4 loop)
def zO {elt tg iter:Expr} {ifs:List Expr} {pos:Pos} {wi:TI} {g:TG} {tt:TT} {te:TE} (S:zJ X.N X.env.scope N' ix scope) (hc:X.calm=true) (hi:PI X tg iter wi)
  (hg:∀ C fp s₀ H₀,PG (jq X N' scope C fp s₀ H₀) tg g) (ht:∀ C fp s₀ H₀,PF (jq X N' scope C fp s₀ H₀) ifs tt) (he:∀ C fp s₀ H₀,PE (jq X N' scope C fp s₀ H₀) elt te)
  (hs:∀ x,foldedSetIterable iter X.env x=pure x:=by intro _;rfl):PE X (.ListComp elt [⟨tg,iter,ifs,0⟩] scope pos) (tComp ix wi g tt te):=by
 intro pins s σ H Q I h
 rw[eval_ListComp]
 refine wpAny_comprehension_free (use:=none) rfl hs (wD (S.has I.ok)) S.kind S.locs (thn (hi pins s σ H _ I h) λv s1 h1=>thn h1 λitv s2 h2=>?_)
 obtain⟨it,fp,tn,J,H2,e,I2,T,st2,f2,q⟩:=h2
 subst e
 refine wF (Z:=λacc C=>compPost (model X.prog X.w) X.A X.xe none (EP X pins σ Q) acc C) S hc hg ht he I2 T st2 f2 q ?_
 intro D C H' s' m I' hn hC hz qD
 refine⟨m,hn,λh' sb=>?_⟩
 have I'':Inv X pins σ H' { s' with heap:=h',toks:=s'.toks }:=I'.turned (it:=C) (λb o hb e=>(sb.2 b hb).trans e) hC (λz=>absurd (Ac I2.lt (by rw[<- z];exact hz)) (A1 _))
  (.inr (Aa I2.sz hz)) (λx c e z=>by obtain⟨v,w⟩:=I2.cell x c e;exact absurd (Ac w.lt (by rw[z];exact hz)) (A1 _)) (λp hp z=>absurd (Ac (AO (I2.pin p hp).1) (by rw[z];exact hz)) (A1 _))
 exact⟨.ref D,H',I'',O,qD⟩
def jF {i:Nat} {y:Str} {py spos:Pos} {elt tg iter:Expr} {ifs:List Expr} {pos:Pos} {wi:TI} {g:TG} {tt:TT} {te:TE} (S:zJ X.N X.env.scope N' ix scope) (hc:X.calm=true) (hi:PI X tg iter wi)
  (hg:∀ C fp s₀ H₀,PG (jq X N' scope C fp s₀ H₀) tg g) (ht:∀ C fp s₀ H₀,PF (jq X N' scope C fp s₀ H₀) ifs tt) (he:∀ C fp s₀ H₀,PE (jq X N' scope C fp s₀ H₀) elt te)
  (hN:X.N.Nodup) (hy:X.N[i]? = some y) (hl:X.env.scope.names.lookup y=some .local) (hsw:swapsWith (.ListComp elt [⟨tg,iter,ifs,0⟩] scope pos) (some (.Name y py)) spos.line X.env=pure true)
  (hs:∀ x,foldedSetIterable iter X.env x=pure x:=by intro _;rfl):PS X (.Assign [.Name y py] (.ListComp elt [⟨tg,iter,ifs,0⟩] scope pos) spos) (tAsg (tComp ix wi g tt te) (jh i)):=by
 intro pins s σ H D I h
 rw[exec_Assign_Name_used _ _ _ _ hsw]
 refine AA (wpAny_standAt (AA ?_))
 rw[arm_evalThenUse_ListComp]
 refine AA (thn (wpAny_comprehension_free (use:=some (assign (.Name y py) X.env)) (Q:=λ_ s'=>SP X pins D .next s') rfl hs (wD (S.has I.ok)) S.kind S.locs
  (thn (hi pins s σ H _ I h) λv s1 h1=>thn h1 λitv s2 h2=>?_)) λ_ s' q=>AE (AE q))
 obtain⟨it,fp,tn,J,H2,e,I2,T,st2,f2,q⟩:=h2
 subst e
 refine wF (Q:=λx H1=>jh i x σ H1 D.nx) (Z:=λacc C=>compPost (model X.prog X.w) X.A X.xe (some (assign (.Name y py) X.env)) (λ_ s'=>SP X pins D .next s') acc C) S hc hg ht he I2 T st2 f2 q ?_
 intro Dl C H' s' m I' hn hC hz qD
 have neL:C ≠ X.env.locals:=λz=>absurd (Ac I2.lt (by rw[<- z];exact hz)) (A1 _)
 have neC:∀ x c,X.env.cells.lookup x=some c->c ≠ C:=λx c e z=>by obtain⟨v,w⟩:=I2.cell x c e;exact absurd (Ac w.lt (by rw[z];exact hz)) (A1 _)
 show wpAny (model X.prog X.w) X.A (assign (.Name y py) X.env (.ref Dl)) _ X.xe s'
 refine wpAny_assign_Name (WS I' hN hy (.inl hl) (show RelV (.ref Dl) (.ref Dl) from rfl) (λs'' J' ⟨a,sb,ha⟩=>?_) (.inr hl))
 have na:C ≠ a:=by
  rcases ha with z | z
  ·rw[z];exact neL
  ·exact Aw (neC y a z)
 refine⟨m,hn.sameBut sb na,λh' sb'=>?_⟩
 have I'':Inv X pins (σ.set i (some (.ref Dl))) H' { s'' with heap:=h',toks:=s''.toks }:=J'.turned (it:=C) (λb o hb e=>(sb'.2 b hb).trans e) hC neL (.inr (Aa I2.sz hz)) neC
  (λp hp z=>absurd (Ac (AO (I2.pin p hp).1) (by rw[z];exact hz)) (A1 _))
 exact⟨_,H',I'',qD⟩
end
def bt_abs:bootBuiltins "abs" = some (.builtin "abs"):=by ac_rfl
def jf:bootBuiltins "len" = some (.builtin "len"):=by ac_rfl
def W6:bootBuiltins "all" = some (.builtin "all"):=by ac_rfl
def Zk:bootBuiltins "isinstance" = some (.builtin "isinstance"):=by ac_rfl
def Xy:bootBuiltins "str" = some (.type "str"):=by ac_rfl
def qk:bootBuiltins "tuple" = some (.type "tuple"):=by ac_rfl
def Qj:bootBuiltins "list" = some (.type "list"):=by ac_rfl
def Def (P:Program) (w:World) (K:Fs) (mg:Str->Option Value) (base:Heap) (k:Nat) (x:Str) (ps:List Str) (sp:Sp):Prop:=
 ∃ (f:Addr) (fd:FuncData),ji P w K mg base CX0 k f fd ps sp/\mg x=some (.ref f)/\PySem.W.keepIn K (.ref f)=true/\Binds K fd ps []
section
variable {X:Cx}
def zw {k k':Nat} {x:Str} {ps:List Str} {sp:Sp} {e:Expr} {es:List Expr} {t:TA} {p pos:Pos} (D:Def X.prog X.w X.K X.mg X.base k x ps sp) (hr:QP k' X.A) (hk:k<=k') (hg:Gl X x) (ha:PA X (e :: es) t)
  (hdb:(x == ("__debug__" : Str))=false:=by decide) (he:starEach (e :: es) X.env=(false,eval e X.env) :: starEach es X.env:=by rfl) (hpl:(backTo pos (starEach es X.env)).any (·.1)=false:=by rfl) :
  PE X (.Call (.Name x p) (e :: es) [] pos) (tCall sp [] E0 t):=by
 obtain⟨f,fd,F,m,kp,b⟩:=D
 exact pe_call F (hr.mono hk) hg m kp b .nil pass0 ha hdb he hpl
def xp {ys:List Str}:∀ {us:List Value},qF (ys.map V.str) us->StrsAre us ys:=by
 induction ys with
 | nil=>intro us r;rw[DY] at r;cases r;exact .nil
 | cons y ys ih=>
  intro us r
  rw[Aj] at r
  cases r with
  | cons r1 r2=>
   obtain⟨t,e⟩:=r1
   subst e
   exact .cons y t (ih r2)
def Xz:j6 X (.builtin "isinstance") (λxs H Q=>∃ x n t b,xs=[x,.ty n]/\YI X.K H x t/\PySem.W.kitOne X.K t (.type n)=some b/\Q (.bl b) H):=by
 intro pins s σ H xs us Q I r h
 obtain⟨x,n,t,b,rfl,ty,e,q⟩:=h
 obtain⟨u,w',rfl,r1,r2⟩:=vals2 r
 cases r2
 exact Xr I r1 ty e λtk=>⟨.bl b,H,I.tok tk,O,q⟩
def Jh {K:Fs} (n:String):PySem.W.kitOne K (.type n) (.type n)=some true:=by simp[PySem.W.kitOne]
def Its (z:Str):It:=⟨λi _=>i < z.cps.size,λi H x H'=>H'=H/\∃ c,z.cps[i]? = some c/\x=.str ⟨#[c]⟩,λi _=>z.cps.size<=i⟩
def iStr (tl:TE):TI:=λσ H R=>tl σ H λx H1=>∃ z,x=.str z/\R (Its z) H1
def turn_str {P:Program} {w:World} {K:Fs} {tg:Expr} {z:Str} {tk:Tok} {it:Addr} {ty:String} (hty:ty = "str_ascii_iterator" \/ ty = "str_iterator") :
  Turn P w K tg (Its z) [it] it (λi h=>h.IsStrIter it ty z tk i/\i<=z.cps.size) where
 mem:=by simp
 obj:=λi h st b hb=>by
  have e:b=it:=by simpa using hb
  subst e
  obtain⟨⟨o,h1,h2,h3⟩,_⟩:=st
  exact⟨o,h1,λv q=>by rw[h3] at q;cases q⟩
 keep:=λi h h' st k=>by
  obtain⟨⟨o,h1,h2⟩,h3⟩:=st
  exact⟨⟨o,k it (by simp) o h1,h2⟩,h3⟩
 item:=by
  intro X hP hw hK hc i pins s σ H E I hf st hg
  subst hP hw hK
  obtain⟨f0,f1,f2,f3,f4,f5⟩:=hf it (by simp)
  have fin:∀ (v:Value) (h':Heap) (tk':Nat),SignAt z i v->h'.IsStrIter it ty z tk (i+1)->(∀ b o,b ∉ [it]->s.heap.get? b=some o->h'.get? b=some o) ->
    ∃ u,some v=some u/\wpAny (model X.prog X.w) X.A (letOwnedTupleGo tg (.ref it) u) (λ_ s2=>∃ x H',Inv X pins σ H' s2/\RelV x u/\(Its z).yld i H x H'/\(s2.heap.IsStrIter it ty z tk (i+1)/\i+1<=z.cps.size)/\∀ b ∈ [it],H' b=none) E { s with heap:=h',toks:=tk' }:=by
   intro v h' tk' hv st' kk
   obtain⟨c,t,hcx,rfl⟩:=hv
   have I1:Inv X pins σ H { s with heap:=h',toks:=tk' }:=I.turned (λb o hb e=>kk b o (by simpa using hb) e) f0 f1 f3 f4 f5
   obtain⟨o,h1,h2,h3⟩:=id st'
   refine⟨_,O,go_of (s:={ s with heap:=h',toks:=tk' }) (n:=ty) h1 h2 h3 ?_ ⟨.str ⟨#[c]⟩,H,I1,⟨t,O⟩,⟨O,c,hcx,O⟩,⟨st',hg⟩,λb hb=>(hf b hb).1⟩⟩
   rcases hty with rfl | rfl <;> decide
  rcases hty with rfl | rfl
  ·exact (Walks.strAscii (I.ok.hd hc) it z tk).item i s _ _ hg st.1 λv h' tk' hv st' kk=>fin v h' tk' hv st' kk
  ·exact (Walks.strWide (I.ok.hd hc) it z tk).item i s _ _ hg st.1 λv h' tk' hv st' kk=>fin v h' tk' hv st' kk
 done:=by
  intro X hP hw hK hc i pins s σ H E I hf st hg
  subst hP hw hK
  obtain⟨f0,f1,f2,f3,f4,f5⟩:=hf it (by simp)
  have e:i=z.cps.size:=Ef st.2 hg
  subst e
  rcases hty with rfl | rfl
  ·exact (Walks.strAscii (I.ok.hd hc) it z tk).done s _ _ st.1 λh' tk' kk=>⟨O,I.turned (λb o hb e=>kk b o (by simpa using hb) e) f0 f1 f3 f4 f5⟩
  ·exact (Walks.strWide (I.ok.hd hc) it z tk).done s _ _ st.1 λh' tk' kk=>⟨O,I.turned (λb o hb e=>kk b o (by simpa using hb) e) f0 f1 f3 f4 f5⟩
 self:=λA i s Q E st h=>by
  rcases hty with rfl | rfl
  ·exact wpAny_pyIter_striter_ascii st.1 h
  ·exact wpAny_pyIter_striter_wide st.1 h
def pi_str {tg l:Expr} {tl:TE} (hl:PE X l tl):PI X tg l (iStr tl):=by
 intro pins s σ H R I h
 refine thn (hl pins s σ H _ I h) λv s1 ⟨x,H1,I1,r1,q1⟩=>?_
 obtain⟨z,rfl,q⟩:=q1
 obtain⟨t,rfl⟩:=r1
 have fin:∀ ty:String,ty = "str_ascii_iterator" \/ ty = "str_iterator" -> PIE X pins σ tg R (.ref s1.heap.objs.size) { s1 with heap:=s1.heap.push { cls:=.type ty,data:=.fields #[.str z t,.int 0 0] } }:=λty hty=>by
  refine⟨s1.heap.objs.size,[s1.heap.objs.size],_,_,H1,O,I1.kept (t':=s1.toks) λb o e=>AC _ e,turn_str (z:=z) (tk:=t) hty,⟨⟨_,AN _ rfl,O,O⟩,BA _⟩,λb hb=>?_,q⟩
  have e:b=s1.heap.objs.size:=by simpa using hb
  subst e
  exact I1.fpOk (AM _) (I1.hok.fresh (AM _))
 cases ha:z.cps.all (· < 128)
 ·exact wpAny_pyIter_wide ha (fin _ (.inr rfl))
 ·exact wpAny_pyIter_ascii ha (fin _ (.inl rfl))
def rSlS:V->Option Int->Option Int->Hp->VK->Prop:=λx lo hi H Q=>∃ z,x=.str z/\z.length<=sizeLine/\Q (.str (PySem.Txt.slice z lo hi)) H
def sl_str:SlR X rSlS:=by
 intro pins s σ H x v vl vu lo hi sl Q I rx hs pl pu h
 obtain⟨z,rfl,hz,q⟩:=h
 obtain⟨t,rfl⟩:=rx
 refine⟨"str",_,F.slot_str_getitem.lookup,typeIs_str _ _ _,?_⟩
 cases pl with
 | none=>
  cases pu with
  | none=>exact DJ (l:=none) (u:=none) (st:=none) hs rfl (D7 ⟨Aa (DZ z _ _) hz,λt' k=>⟨.str _,H,I.tok k,⟨t',O⟩,q⟩⟩)
  | int j uj=>exact DJ (l:=none) (u:=some (j,uj)) (st:=none) hs rfl (D7 ⟨Aa (DZ z _ _) hz,λt' k=>⟨.str _,H,I.tok k,⟨t',O⟩,q⟩⟩)
 | int i ui=>
  cases pu with
  | none=>exact DJ (l:=some (i,ui)) (u:=none) (st:=none) hs rfl (D7 ⟨Aa (DZ z _ _) hz,λt' k=>⟨.str _,H,I.tok k,⟨t',O⟩,q⟩⟩)
  | int j uj=>exact DJ (l:=some (i,ui)) (u:=some (j,uj)) (st:=none) hs rfl (D7 ⟨Aa (DZ z _ _) hz,λt' k=>⟨.str _,H,I.tok k,⟨t',O⟩,q⟩⟩)
def sl_any:SlR X (λx lo hi H Q=>rSlL X.K x lo hi H Q\/(rSlT X.K x lo hi H Q\/rSlS x lo hi H Q)):=sl_list.or (sl_tup.or sl_str)
end
def cW (R:St->Prop) (P:Nat->List V->Hp->Prop) (n:Nat) (D:Addr):Nat->Nat->St->Hp->Prop:=λi m σ' H=>m=n - i/\i<=n/\R σ'/\∃ ys,P i ys H/\H D=some (.lst ys)
def XA (R:St->Prop) (P:Nat->List V->Hp->Prop) (n:Nat) (D:Addr) (σ:St) (i:Nat):VK:=λv H5=>∃ xs,H5 D=some (.lst xs)/\xs.length < sizeLine/\∃ m',m' < n - i/\cW R P n D (i+1) m' σ (upd H5 D (.lst (xs++[v])))
def cNo (R:St->Prop) (P:Nat->List V->Hp->Prop) (n:Nat) (D:Addr) (σ:St) (i:Nat):Hp->Prop:=λH4=>∃ m',m' < n - i/\cW R P n D (i+1) m' σ H4
def Q6 {R:St->Prop} {P:Nat->List V->Hp->Prop} {n:Nat} {D:Addr} {σ:St} {i:Nat} {ys:List V} {v:V} {H:Hp} (hi:i < n) (r:R σ) (h:H D=some (.lst ys)) (hl:ys.length < sizeLine) (p:P (i+1) (ys++[v]) (upd H D (.lst (ys++[v])))):XA R P n D σ i v H:=
 ⟨ys,h,hl,n - (i+1),by lia,rfl,hi,r,_,p,ze⟩
def cno {R:St->Prop} {P:Nat->List V->Hp->Prop} {n:Nat} {D:Addr} {σ:St} {i:Nat} {ys:List V} {H:Hp} (hi:i < n) (r:R σ) (h:H D=some (.lst ys)) (p:P (i+1) ys H):cNo R P n D σ i H:=
 ⟨n - (i+1),by lia,rfl,hi,r,_,p,h⟩
def ZW {J:It} {g:TG} {tt:TT} {te:TE} {σ0:St} {H1:Hp} {Q:VK} {D:Addr} {n:Nat} {xv:Nat->V} {st:Nat->St} (R:St->Prop) (P:Nat->List V->Hp->Prop) (r0:R σ0) (h0:P 0 [] (upd H1 D (.lst [])))
  (hj:∀ i ys H,i < n->P i ys H->H D=some (.lst ys)->J.go i H/\∀ x H2,J.yld i H x H2->H2=H/\x=xv i) (he:∀ ys H,P n ys H->H D=some (.lst ys)->J.stop n H)
  (hg:∀ i ys σ' H (K:St->Hp->Prop),i < n->R σ'->P i ys H->K (st i) H->g (xv i) σ' H K)
  (hs:∀ i ys H,i < n->P i ys H->H D=some (.lst ys)->tt (st i) H λb H4=>if b=true then te (st i) H4 (XA R P n D (st i) i) else cNo R P n D (st i) i H4)
  (hd:∀ ys H,P n ys H->H D=some (.lst ys)->Q (.ref D) H) :
  jI J g tt te σ0 H1 Q D:=by
 refine⟨cW R P n D,⟨n,by simp[cW,r0];exact⟨_,h0,ze⟩⟩,?_⟩
 rintro i m σ' H' ⟨rfl,hi,r,ys,p,hD⟩
 by_cases hlt:i < n
 ·obtain⟨g1,g2⟩:=hj i ys H' hlt p hD
  refine .inr ⟨g1,λx H2 y=>?_⟩
  obtain⟨rfl,rfl⟩:=g2 x H2 y
  exact hg i ys σ' H2 _ hlt r p (hs i ys H2 hlt p hD)
 ·have e:i=n:=by lia
  subst e
  exact .inl ⟨he ys H' p hD,hd ys H' p hD⟩
def YL (t:Nat) (σ0:St):St->Prop:=λσ'=>∀ v,σ'.set t v=σ0.set t v
def rset0 {t:Nat} {σ0:St}:YL t σ0 σ0:=λ_=>rfl
def jj {t:Nat} {σ0:St} {x:Option V}:YL t σ0 (σ0.set t x):=λv=>by rw[List.set_set]
def qL {t:Nat} {tt:TT} {te:TE} {σ0:St} {H1:Hp} {Q:VK} {D:Addr} {lo:Int} {n:Nat} (P:Nat->List V->Hp->Prop) (h0:P 0 [] (upd H1 D (.lst [])))
  (hs:∀ i ys H,i < n->P i ys H->H D=some (.lst ys)->tt (σ0.set t (some (.int (lo+i)))) H λb H4=>if b=true then te (σ0.set t (some (.int (lo+i)))) H4 (XA (YL t σ0) P n D (σ0.set t (some (.int (lo+i)))) i) else cNo (YL t σ0) P n D (σ0.set t (some (.int (lo+i)))) i H4)
  (hd:∀ ys H,P n ys H->H D=some (.lst ys)->Q (.ref D) H) :
  jI (Itr lo n) (jh t) tt te σ0 H1 Q D:=
 ZW (xv:=λi=>.int (lo+i)) (st:=λi=>σ0.set t (some (.int (lo+i)))) (YL t σ0) P rset0 h0 (λi _ H hi _ _=>⟨hi,λx H2 y=>y⟩) (λ_ _ _ _=>AM n)
  (λi _ σ' H K _ r _ k=>by show K (σ'.set t (some (.int (lo+i)))) H;rw[r];exact k) hs hd
def Za {K:Fs} {a:Addr} {xs:List V} {t:Nat} {tt:TT} {te:TE} {σ0:St} {H1:Hp} {Q:VK} {D:Addr} (P:Nat->List V->Hp->Prop) (h0:P 0 [] (upd H1 D (.lst []))) (hl:∀ i ys H,P i ys H->H D=some (.lst ys)->SqL K H a xs)
  (hs:∀ i ys H x,xs[i]? = some x->P i ys H->H D=some (.lst ys)->tt (σ0.set t (some x)) H λb H4=>if b=true then te (σ0.set t (some x)) H4 (XA (YL t σ0) P xs.length D (σ0.set t (some x)) i) else cNo (YL t σ0) P xs.length D (σ0.set t (some x)) i H4)
  (hd:∀ ys H,P xs.length ys H->H D=some (.lst ys)->Q (.ref D) H) :
  jI (Itl K a) (jh t) tt te σ0 H1 Q D:=by
 have get:∀ i,i < xs.length->xs[i]? = some (xs.getD i .non):=λi hi=>by simp[List.getD,hi]
 refine ZW (xv:=λi=>xs.getD i .non) (st:=λi=>σ0.set t (some (xs.getD i .non))) (YL t σ0) P rset0 h0 (λi ys H hi p hD=>⟨⟨xs,_,hl i ys H p hD,get i hi⟩,λx H2 y=>⟨y.1,?_⟩⟩) (λys H p hD=>⟨xs,hl _ ys H p hD,AM _⟩)
  (λi _ σ' H K _ r _ k=>by show K (σ'.set t (some (xs.getD i .non))) H;rw[r];exact k) (λi ys H hi p hD=>hs i ys H _ (get i hi) p hD) hd
 have e:=y.2 xs (hl i ys H p hD)
 rw[get i hi] at e
 exact (AR e).symm
def Ji {K:Fs} {a:Addr} {xs:List V} {t:Nat} {tt:TT} {te:TE} {σ0:St} {H1:Hp} {Q:VK} {D:Addr} (P:Nat->List V->Hp->Prop) (h0:P 0 [] (upd H1 D (.lst []))) (hl:∀ i ys H,P i ys H->H D=some (.lst ys)->SqT K H a xs)
  (hs:∀ i ys H x,xs[i]? = some x->P i ys H->H D=some (.lst ys)->tt (σ0.set t (some x)) H λb H4=>if b=true then te (σ0.set t (some x)) H4 (XA (YL t σ0) P xs.length D (σ0.set t (some x)) i) else cNo (YL t σ0) P xs.length D (σ0.set t (some x)) i H4)
  (hd:∀ ys H,P xs.length ys H->H D=some (.lst ys)->Q (.ref D) H) :
  jI (Itt K a) (jh t) tt te σ0 H1 Q D:=by
 have get:∀ i,i < xs.length->xs[i]? = some (xs.getD i .non):=λi hi=>by simp[List.getD,hi]
 refine ZW (xv:=λi=>xs.getD i .non) (st:=λi=>σ0.set t (some (xs.getD i .non))) (YL t σ0) P rset0 h0 (λi ys H hi p hD=>⟨⟨xs,_,hl i ys H p hD,get i hi⟩,λx H2 y=>⟨y.1,?_⟩⟩) (λys H p hD=>⟨xs,hl _ ys H p hD,AM _⟩)
  (λi _ σ' H K _ r _ k=>by show K (σ'.set t (some (xs.getD i .non))) H;rw[r];exact k) (λi ys H hi p hD=>hs i ys H _ (get i hi) p hD) hd
 have e:=y.2 xs (hl i ys H p hD)
 rw[get i hi] at e
 exact (AR e).symm
def comp_str {z:Str} {t:Nat} {tt:TT} {te:TE} {σ0:St} {H1:Hp} {Q:VK} {D:Addr} (P:Nat->List V->Hp->Prop) (h0:P 0 [] (upd H1 D (.lst [])))
  (hs:∀ i ys H c,z.cps[i]? = some c->P i ys H->H D=some (.lst ys)->tt (σ0.set t (some (.str ⟨#[c]⟩))) H λb H4=>if b=true then te (σ0.set t (some (.str ⟨#[c]⟩))) H4 (XA (YL t σ0) P z.cps.size D (σ0.set t (some (.str ⟨#[c]⟩))) i) else cNo (YL t σ0) P z.cps.size D (σ0.set t (some (.str ⟨#[c]⟩))) i H4)
  (hd:∀ ys H,P z.cps.size ys H->H D=some (.lst ys)->Q (.ref D) H) :
  jI (Its z) (jh t) tt te σ0 H1 Q D:=by
 have get:∀ i,i < z.cps.size->z.cps[i]? = some (z.cps.getD i 0):=λi hi=>by simp[Array.getD,hi]
 refine ZW (xv:=λi=>.str ⟨#[z.cps.getD i 0]⟩) (st:=λi=>σ0.set t (some (.str ⟨#[z.cps.getD i 0]⟩))) (YL t σ0) P rset0 h0 (λi ys H hi p hD=>⟨hi,λx H2 y=>⟨y.1,?_⟩⟩) (λys H p hD=>AM _)
  (λi _ σ' H K _ r _ k=>by show K (σ'.set t (some (.str ⟨#[z.cps.getD i 0]⟩))) H;rw[r];exact k) (λi ys H hi p hD=>hs i ys H _ (get i hi) p hD) hd
 obtain⟨c,e,ex⟩:=y.2
 rw[get i hi] at e
 rw[ex,<- AR e]
def comp_tt3 {K:Fs} {a:Addr} {n:Nat} {xs:List V} {ad:Nat->Addr} {v1 v2 v3:Nat->V} {tt:TT} {te:TE} {H1:Hp} {Q:VK} {D:Addr} (P:Nat->List V->Hp->Prop) (h0:P 0 [] (upd H1 D (.lst []))) (hn:xs.length=n) (hx:∀ i,i < n->xs[i]? = some (.ref (ad i)))
  (hl:∀ i ys H,P i ys H->H D=some (.lst ys)->SqT K H a xs) (ht:∀ i ys H,i < n->P i ys H->SqT K H (ad i) [v1 i,v2 i,v3 i])
  (hs:∀ i ys H,i < n->P i ys H->H D=some (.lst ys)->tt [some (v1 i),some (v2 i),some (v3 i)] H λb H4=>if b=true then te [some (v1 i),some (v2 i),some (v3 i)] H4 (XA (λσ=>σ.length=3) P n D [some (v1 i),some (v2 i),some (v3 i)] i) else cNo (λσ=>σ.length=3) P n D [some (v1 i),some (v2 i),some (v3 i)] i H4)
  (hd:∀ ys H,P n ys H->H D=some (.lst ys)->Q (.ref D) H) :
  jI (Itt K a) (gTup K 3 (Qg (jh 0) (Qg (jh 1) (Qg (jh 2) gNil)))) tt te [none,none,none] H1 Q D:=by
 refine ZW (xv:=λi=>.ref (ad i)) (st:=λi=>[some (v1 i),some (v2 i),some (v3 i)]) (λσ=>σ.length=3) P rfl h0 (λi ys H hi p hD=>⟨⟨xs,_,hl i ys H p hD,hx i hi⟩,λx H2 y=>⟨y.1,?_⟩⟩) (λys H p hD=>⟨xs,hl _ ys H p hD,Nat.le_of_eq hn⟩)
  (λi ys σ' H K' hi r p k=>?_) hs hd
 ·have e:=y.2 xs (hl i ys H p hD)
  rw[hx i hi] at e
  exact (AR e).symm
 ·match σ',r with
  | [s1,s2,s3],_=>exact⟨ad i,_,O,ht i ys H hi p,O,_,_,O,_,_,O,_,_,O,O,k⟩
def yes {σ:St} {H:Hp} {A B:Hp->Prop} (h:A H):tYes σ H λb H4=>if b=true then A H4 else B H4:=by
 show if true=true then A H else B H
 rw[if_pos rfl]
 exact h
section
variable {X:Cx} (K:Fs)
def zm (hK:X.K=K:=by rfl):IxR X (rIx K):=hK ▸ ix_seq
def qv (hK:X.K=K:=by rfl):OpR X (compareOp .In) (rIn K false):=hK ▸ Xu
def Qw (hK:X.K=K:=by rfl):OpR X (compareOp .NotIn) (rIn K true):=hK ▸ W2
def ZF (hK:X.K=K:=by rfl):SlR X (λx lo hi H Q=>rSlL K x lo hi H Q\/(rSlT K x lo hi H Q\/rSlS x lo hi H Q)):=hK ▸ sl_any
def qe (hK:X.K=K:=by rfl):j6 X (.builtin "len") (λxs H Q=>∃ x n,xs=[x]/\LenV K x H n/\Q (.int n) H):=hK ▸ call_len
def Zl (hK:X.K=K:=by rfl):j6 X (.type "list") (λxs H Q=>∃ p ys,xs=[.ref p]/\(SqL K H p ys\/SqT K H p ys)/\∀ l,H l=none->Q (.ref l) (upd H l (.lst ys))):=hK ▸ W3
def zx (hK:X.K=K:=by rfl):j6 X (.type "tuple") (λxs H Q=>∃ p ys,xs=[.ref p]/\((SqL K H p ys/\∀ l,H l=none->Q (.ref l) (upd H l (.tup ys)))\/(SqT K H p ys/\Q (.ref p) H))):=hK ▸ Wb
def QQ (hK:X.K=K:=by rfl):j6 X (.builtin "isinstance") (λxs H Q=>∃ x n t b,xs=[x,.ty n]/\YI K H x t/\PySem.W.kitOne K t (.type n)=some b/\Q (.bl b) H):=hK ▸ Xz
def zG {tg l:Expr} {tl:TE} (hl:PE X l tl) (hK:X.K=K:=by rfl):PI X tg l (iList K tl):=hK ▸ pi_list hl
def qW {tg l:Expr} {tl:TE} (hl:PE X l tl) (hK:X.K=K:=by rfl):PI X tg l (iTup K tl):=hK ▸ pi_tup hl
def qw {o e:Expr} {es:List Expr} {to:TE} {t:TA} {name:Str} {apos cpos:Pos} {T id:String} {r:V->List V->Hp->VK->Prop} (pa:PlainAttrs T) (slot:Slot T name id) (hty:typeOf (.builtin id)=pure (.type "method_descriptor")) (hm:MtR X id r) (ho:PE X o to) (ha:PA X (e :: es) t)
  (hbase:attributeBase o name X.env (eval o X.env)=eval o X.env:=by rfl)
  (hfew:((backTo cpos (starEach (e :: es) X.env)).all (λx=>!x.1) && (backToKw cpos (keywordEach [] X.env)).all (λx=>x.1.isSome)
   && decide ((e :: es).length+([]:List Keyword).length+(if ([]:List Keyword).isEmpty then 0 else 1) < 30))=true:=by rfl)
  (hline:(apos.endLine == cpos.line)=true:=by rfl) (hs:starEach (e :: es) X.env=(false,eval e X.env) :: starEach es X.env:=by rfl) (hplain:(backTo cpos (starEach es X.env)).any (·.1)=false:=by rfl) (hK:X.K=K:=by rfl) :
  PE X (.Call (.Attribute o name apos) (e :: es) [] cpos) (tBM K T r to t):=hK ▸ pe_bm pa slot hty hm ho ha hbase hfew hline hs hplain
def kpe_bm0 {o:Expr} {to:TE} {name:Str} {apos cpos:Pos} {T id:String} {r:V->List V->Hp->VK->Prop} (pa:PlainAttrs T) (slot:Slot T name id) (hty:typeOf (.builtin id)=pure (.type "method_descriptor")) (hm:MtR X id r) (ho:PE X o to)
  (hbase:attributeBase o name X.env (eval o X.env)=eval o X.env:=by rfl) (hline:(apos.endLine == cpos.line)=true:=by rfl) (hK:X.K=K:=by rfl):PE X (.Call (.Attribute o name apos) [] [] cpos) (tBM0 K T r to):=hK ▸ pe_bm0 pa slot hty hm ho hbase hline
def jv {es:List Expr} {k:Nat} {pos:Pos} {t:TGs} {n:Nat} (hc:X.calm=true) (h:PGs X es t) (hn:(assignEach es X.env).length=n:=by rfl) (hst:(assignEach es X.env).findIdx? (·.1)=none:=by rfl) (hK:X.K=K:=by rfl):PG X (.Tuple es k pos) (gTup K n t):=hK ▸ pg_tup hc h hn hst
end
section
variable {X:Cx}
end
section
variable {X:Cx} {pins:List (Addr × Obj)} {σ:St} {H H':Hp} {s s':Shared} {h2:Heap}
end
section
variable {P:Program} {w:World} {K:Fs} {mg:Str->Option Value} {base:Heap} {N:List Str} {qual:Str} {scope:Scope} {f:Addr} {cd:Value} {A:Around} {outer:List Env} {s:Shared} {H:Hp} {E:XK}
end
section
variable {X:Cx}
end
section
variable {X:Cx}
end
section
variable {X:Cx} {pins:List (Addr × Obj)} {σ:St} {H:Hp} {s:Shared}
def Inv.adopt {e:Addr} {u:HO} (I:Inv X pins σ H s) (hn:H e=none) (h0:X.s₀.heap.get? e=none) (nL:e ≠ X.env.locals) (nC:∀ x c,X.env.cells.lookup x=some c->c ≠ e) (nP:∀ p ∈ X.pn++pins,p.1 ≠ e)
  (ok:qO X.prog X.w (upd H e u) s.heap e u):Inv X pins σ (upd H e u) s:=by
 have ne:∀ {b:Addr} {v:HO},H b=some v->b ≠ e:=λq=>zL q hn
 refine⟨I.ok,I.os,I.bare,⟨I.base.keep,I.base.slot,λb o q n hx=>?_,I.base.there,λb xs q=>?_,λb o v q=>?_,λb ps q=>?_⟩,I.loc,I.cell,?_,λx c q=>?_,λp hp=>?_,λa o q=>?_,I.len⟩
 ·have z:b ≠ e:=λz=>by rw[z,h0] at q;cases q
  rw[zK z]
  exact I.base.free b o q n hx
 ·have q1:=I.base.tups b xs q
  rw[zK (ne q1)]
  exact q1
 ·have q1:=I.base.frzs b o v q
  rw[zK (ne q1)]
  exact q1
 ·obtain⟨more,q1⟩:=I.base.tbls b ps q
  exact⟨more,by rw[zK (ne q1)];exact q1⟩
 ·rw[zK (Aw nL)]
  exact I.free
 ·rw[zK (nC x c q)]
  exact I.freeC x c q
 ·obtain⟨p1,p2,p3⟩:=I.pin p hp
  exact⟨p1,by rw[zK (nP p hp)];exact p2,p3⟩
 ·by_cases z:a=e
  ·subst z
   rw[ze] at q
   cases q
   exact ok
  ·rw[zK z] at q
   exact (I.hok a o q).stay (λ_ _ _ r=>r) (λc r=>by rw[zK (ne r)];exact r) λc xs r=>by rw[zK (ne r)];exact r
end
section
variable {X:Cx} {pins:List (Addr × Obj)} {R:Value->St->Hp->Prop} {e:Value} {s':Shared}
end
section
variable {X:Cx} {pins:List (Addr × Obj)} {σ:St} {H:Hp} {s:Shared} {ea:Addr}
end
section
variable {X:Cx} {k k':Nat} {x:Str} {ps:List Str} {sp:Sp} {e:Expr} {es:List Expr} {t:TA} {p pos:Pos}
end
section
variable {P:Program} {w:World} {K:Fs} {mg:Str->Option Value} {base:Heap}
end
section
variable {prog:Program} {w:World} {A:Around} {E:Value->Shared->Prop} {s:Shared} {K:Fs} {e C:Addr} {h:Heap}
end
def Wd (xs ys:List V):Bool:=(xs.zip ys).all (λp=>eqV p.1 p.2) && xs.length == ys.length
def YM {A:Around} {s:Shared} {xs ys:List V} {us vs:List Value} (rx:qF xs us) (ry:qF ys vs) (fx:xs.all ju=true) (fy:ys.all ju=true) (j:Nat) (h1:j < us.toArray.size) (h2:j < vs.toArray.size) :
  SeqAt.EqAt A s us.toArray[j] vs.toArray[j] (eqV (xs.getD j .non) (ys.getD j .non)):=by
 have l1:=rx.length
 have l2:=ry.length
 have g1:j < us.length:=by simpa using h1
 have g2:j < vs.length:=by simpa using h2
 have k1:xs[j]? = some (xs.getD j .non):=by simp[List.getD,show j < xs.length by lia]
 have k2:ys[j]? = some (ys.getD j .non):=by simp[List.getD,show j < ys.length by lia]
 obtain⟨u,e1,r1⟩:=rx.get k1
 obtain⟨v,e2,r2⟩:=ry.get k2
 have f1:=Al.mp fx _ (AJ k1)
 have f2:=Al.mp fy _ (AJ k2)
 have w1:us.toArray[j]=u:=by
  rw[AD g1] at e1
  simpa using AR e1
 have w2:vs.toArray[j]=v:=by
  rw[AD g2] at e2
  simpa using AR e2
 rw[w1,w2]
 exact eqAt_V r1 r2 f1 f2
theorem Jx:∀ (xs ys:List V),xs.length=ys.length->((List.range xs.length).all λj=>eqV (xs.getD j .non) (ys.getD j .non))=(xs.zip ys).all λp=>eqV p.1 p.2
 | [],[],_=>rfl
 | [],_ :: _,h=>by cases h
 | _ :: _,[],h=>by cases h
 | x :: xs,y :: ys,h=>by
  have ih:=Jx xs ys (by simpa using h)
  rw[Am,DD,CW,Ci,Cd,CW,<- ih]
  rfl
section
variable {X:Cx}
def YN {bs:List Bool}:∀ {us:List Value},qF (bs.map V.bl) us->us=bs.map Value.bool:=by
 induction bs with
 | nil=>intro us r;rw[DY] at r;cases r;rfl
 | cons b bs ih=>
  intro us r
  rw[Aj] at r
  cases r with
  | cons r1 r2=>rw[Aj,<- ih r2];cases r1;rfl
theorem Jy:∀ bs:List Bool,((List.range bs.length).all λi=>bs.getD i true)=bs.all id
 | []=>rfl
 | b :: bs=>by
  have ih:=Jy bs
  rw[Am,DD,CW,Ci,CW,<- ih]
  rfl
def call_all (hc:X.calm=true):j6 X (.builtin "all") (λxs H Q=>∃ (p:Addr) (bs:List Bool),xs=[.ref p]/\SqL X.K H p (bs.map V.bl)/\Q (.bl (bs.all id)) H):=by
 intro pins s σ H xs us Q I r h
 obtain⟨p,bs,rfl,hq,q⟩:=h
 obtain⟨u,rfl,ru⟩:=vals1 r
 cases ru
 obtain⟨its,rv,pl,_⟩:=I.list hq
 have hl:s.heap.IsList p its.toArray:=pl.isList
 have hlt:p < s.heap.objs.size:=by obtain⟨_,e,_⟩:=hl;exact AO e
 refine call_all_walk (Bx hl ⟨_,_,_,_,_,_,λi=>bs.getD i true,O,Walks.list (A:=X.A.in1) (I.ok.hd hc) _ p (AU hlt) its.toArray,⟨⟨_,AN _ rfl,O,O⟩,hl.push _⟩,λi v s' Q' E' hv hQ=>?_,λh' tk hk=>⟨.bl _,H,I.kept (old_kept hk),O,?_⟩⟩)
 ·have hv':its[i]? = some v:=by simpa using hv
  rw[YN rv,AH] at hv'
  obtain⟨b,hb,rfl⟩:=AW.mp hv'
  have e:bs.getD i true=b:=by simp[List.getD,hb]
  have z:Q' (bs.getD i true) s':=hQ
  rw[e] at z
  exact B9 z
 ·have e1:its.toArray.size=bs.length:=by
   have:=rv.length
   rw[AB] at this
   simp;lia
  rw[e1]
  have e2:=Jy bs
  rw[e2]
  exact q
def ZG (K:Fs) (hc:X.calm=true) (hK:X.K=K:=by rfl):j6 X (.builtin "all") (λxs H Q=>∃ (p:Addr) (bs:List Bool),xs=[.ref p]/\SqL K H p (bs.map V.bl)/\Q (.bl (bs.all id)) H):=hK ▸ call_all hc
end
section
variable {X:Cx} {tg:Expr}
end
def XB {α:Type} [DecidableEq α] (l:List α) (v:α):List α:=if v ∈ l then l else l++[v]
def Q0 {α:Type} [DecidableEq α] (vs:List α):List α:=vs.foldl XB []
def YO {α:Type} [DecidableEq α] {l:List α} {v x:α}:x ∈ XB l v ↔ x ∈ l\/x=v:=by
 unfold XB
 split
 ·rename_i h
  constructor
  ·exact .inl
  ·rintro (z | rfl)
   ·exact z
   ·exact h
 ·simp
def YQ {α:Type} [DecidableEq α] {l:List α} {v:α}:(XB l v).length=if v ∈ l then l.length else l.length+1:=by
 unfold XB
 split <;> simp
def W7 {α:Type} [DecidableEq α] (vs:List α) (v:α):Q0 (vs++[v])=XB (Q0 vs) v:=by
 unfold Q0
 rw[EO]
 rfl
theorem W8 {α:Type} [DecidableEq α]:∀ (vs l:List α),(vs.foldl XB l).length<=l.length+vs.length
 | [],l=>AM _
 | v :: vs,l=>by
  have h:=W8 vs (XB l v)
  rw[YQ] at h
  rw[CI,Am]
  split at h <;> lia
def dedK_len {α:Type} [DecidableEq α] (vs:List α):(Q0 vs).length<=vs.length:=by
 have:=W8 vs []
 simpa [Q0] using this
section
variable {prog:Program} {w:World} {A:Around} {E:Value->Shared->Prop} {s:Shared}
theorem XC:∀ {us:List Value} {ys:List Str},StrsAre us ys->∀ (i:Nat) (v:Value),us[i]? = some v->∃ t,v=.str (ys.getD i "") t
 | _,_,.nil,i,v,h=>by simp at h
 | _,_,.cons y t r,0,v,h=>⟨t,(AR h).symm⟩
 | _,_,.cons y t r,i+1,v,h=>by
  obtain⟨t',e⟩:=XC r i v (by simpa using h)
  exact⟨t',by rw[e];rfl⟩
def qu (b:Bool):Obj:={ cls:=.type "set",dict:=none,data:=.set #[] 0 (.fresh 0 0 b) }
end
section
variable {X:Cx}
def Jz:bootBuiltins "set" = some (.type "set"):=by ac_rfl
end
section
variable {prog:Program} {w:World} {A:Around} {E:Value->Shared->Prop} {s:Shared}
def JA {it t:Addr} {k:Nat} {items:Array Value} {x:Value} {Q:Value->Shared->Prop} (hi:s.heap.IsTupleIter it t k) (ht:s.heap.IsTuple t items) (hx:items[k]? = some x)
  (q:∀ h',h'.IsTupleIter it t (k+1)->Heap.SameBut it s.heap h'->Q x { s with heap:=h' }):wpAny (model prog w) A (Builtin.SmallTypes.nextOf (.ref it)) Q E s:=by
 obtain⟨oi,a1,a2,a3⟩:=id hi
 obtain⟨ot,b1,_,nt,b3⟩:=ht
 unfold Builtin.SmallTypes.nextOf
 refine AA (wpAny_callSpecial?_slot (name:=Str.ofString "__next__") hi.typeIs CJ (Ay CJ hi.typeIs EF ?_ (EB _)))
 refine AA (m:=field (.ref it) 0) (BK a1 a3 (x:=.ref t) rfl ?_)
 show wpAny _ _ (if (Value.ref t == Value.none)=true then _ else field (.ref it) 1 >>= _) _ _ s
 rw[if_neg (show ¬ ((Value.ref t == Value.none)=true) from AS)]
 refine AA (BK a1 a3 (x:=.int k 0) rfl (AA (m:=seqItems? (.ref t)) (Bm b1 b3 ?_)))
 simp only[Int.toNat_natCast,hx]
 refine AA (Ba a1 a3 (by simp) (AE ⟨x,O,AE (q _ ⟨_,Az _ a1 (Bd (A4 a3 _)),(Cc ..).trans a2,?_⟩ (A6 ..))⟩))
 rw[A4 a3];simp[rawInt]
def JB {it t:Addr} {k:Nat} {items:Array Value} {Q:Value->Shared->Prop} (hh:A.handled=none) (hi:s.heap.IsTupleIter it t k) (ht:s.heap.IsTuple t items) (hx:items[k]? = none)
  (q:∀ h' e,Heap.ExtBut it s.heap h'->(∃ o,h'.get? e=some o/\o.cls=.type "StopIteration")->E (.ref e) { s with heap:=h' }):wpAny (model prog w) A (Builtin.SmallTypes.nextOf (.ref it)) Q E s:=by
 obtain⟨oi,a1,a2,a3⟩:=id hi
 obtain⟨ot,b1,_,nt,b3⟩:=ht
 unfold Builtin.SmallTypes.nextOf
 refine AA (wpAny_callSpecial?_slot (name:=Str.ofString "__next__") hi.typeIs CJ (Ay CJ hi.typeIs EF ?_ (EB _)))
 refine AA (m:=field (.ref it) 0) (BK a1 a3 (x:=.ref t) rfl ?_)
 show wpAny _ _ (if (Value.ref t == Value.none)=true then _ else field (.ref it) 1 >>= _) _ _ s
 rw[if_neg (show ¬ ((Value.ref t == Value.none)=true) from AS)]
 refine AA (BK a1 a3 (x:=.int k 0) rfl (AA (m:=seqItems? (.ref t)) (Bm b1 b3 ?_)))
 simp only[Int.toNat_natCast,hx]
 refine AA (Bi (AA (Ba a1 a3 (by simp) (wpAny_bind (m:=newExc (.type "StopIteration") []) ?_))))
 simp only[newExc,newTuple];refine AA (Ax (AA (m:=firstArgMember _ _) (Bc (a:=Value.none) (by first | rfl | (simp only[firstArgMember];rfl)) (Ax ?_ (by size_fits)))) (by size_fits))
 simp only[raiseNew];refine AA (Dz ?_)
 first | rw[show A.in1.handled=none from hh] | rw[hh]
 exact AA (AE (EI (q _ _ (((A6 ..).extBut.push _).push _) ⟨_,AN _ rfl,O⟩)))
def HSq (k:Bool) (h:Heap) (a:Addr) (xs:Array Value):Prop:=∃ o,h.get? a=some o/\o.cls=.type (bif k then "tuple" else "list")/\∃ n,o.data=.seq xs n
def HIt (k:Bool) (h:Heap) (a t:Addr) (i:Nat):Prop:=∃ o,h.get? a=some o/\o.cls=.type (bif k then "tuple_iterator" else "list_iterator")/\o.data=.fields #[.ref t,.int i 0]
def HSq.ext {k:Bool} {h h':Heap} {a b:Addr} {xs:Array Value}:HSq k h a xs->Heap.ExtBut b h h'->a ≠ b->HSq k h' a xs:=λ⟨o,e,r⟩ f n=>⟨o,f _ _ n e,r⟩
def HIt.ext {k:Bool} {h h':Heap} {a b t:Addr} {i:Nat}:HIt k h a t i->Heap.ExtBut b h h'->a ≠ b->HIt k h' a t i:=λ⟨o,e,r⟩ f n=>⟨o,f _ _ n e,r⟩
variable {kd:Bool}
def nextI {it t:Addr} {k:Nat} {items:Array Value} {x:Value} {Q:Value->Shared->Prop} (hi:HIt kd s.heap it t k) (ht:HSq kd s.heap t items) (hx:items[k]? = some x)
  (q:∀ h',HIt kd h' it t (k+1)->Heap.SameBut it s.heap h'->Q x { s with heap:=h' }):wpAny (model prog w) A (Builtin.SmallTypes.nextOf (.ref it)) Q E s:=by
 cases kd
 ·exact wpAny_nextOf_list_item hi ht hx q
 ·exact JA hi ht hx q
def nextE {it t:Addr} {k:Nat} {items:Array Value} {Q:Value->Shared->Prop} (hh:A.handled=none) (hi:HIt kd s.heap it t k) (ht:HSq kd s.heap t items) (hx:items[k]? = none)
  (q:∀ h' e,Heap.ExtBut it s.heap h'->(∃ o,h'.get? e=some o/\o.cls=.type "StopIteration")->E (.ref e) { s with heap:=h' }):wpAny (model prog w) A (Builtin.SmallTypes.nextOf (.ref it)) Q E s:=by
 cases kd
 ·exact wpAny_nextOf_list_end hh hi ht hx q
 ·exact JB hh hi ht hx q
def iterK {l:Addr} {xs:Array Value} {Q:Value->Shared->Prop} (h:HSq kd s.heap l xs) (q:Q (.ref s.heap.objs.size) { s with heap:=s.heap.push { cls:=.type (bif kd then "tuple_iterator" else "list_iterator"),data:=.fields #[.ref l,.int 0 0] } }):wpAny (model prog w) A (pyIter (.ref l)) Q E s:=by
 cases kd
 ·exact Bx h q
 ·exact DG h q
structure yT (kd:Bool) (z TI TO i1 i2 t1 t2:Addr) (xs ys:Array Value) (f0:Value) (k1 k2:Nat) (h:Heap):Prop where
 zi:IsZip h z TI TO f0
 ti:IsPair h TI (.ref i1) (.ref i2)
 to:∃ a b,IsPair h TO a b
 a1:HIt kd h i1 t1 k1
 a2:HIt kd h i2 t2 k2
 b1:HSq kd h t1 xs
 b2:HSq kd h t2 ys
structure Far (z TI TO i1 i2 t1 t2:Addr):Prop where
 nd:[z,TI,TO,i1,i2].Nodup
 f1:t1 ∉ [z,TO,i1,i2]
 f2:t2 ∉ [z,TO,i1,i2]
def xq (z TO i1 i2:Addr) (h h':Heap):Prop:=∀ c o,c ∉ [z,TO,i1,i2]->h.get? c=some o->h'.get? c=some o
variable {z TI TO i1 i2 t1 t2:Addr} {xs ys:Array Value} {k1 k2:Nat}
def zip_item {x y:Value} {Q:Value->Shared->Prop} (D:Far z TI TO i1 i2 t1 t2) (Z:yT kd z TI TO i1 i2 t1 t2 xs ys .none k1 k2 s.heap) (hx:xs[k1]? = some x) (hy:ys[k2]? = some y)
  (q:∀ h',yT kd z TI TO i1 i2 t1 t2 xs ys (rawInt s.heap.objs.size) (k1+1) (k2+1) h'->IsPair h' s.heap.objs.size x y->xq z TO i1 i2 s.heap h'->Q (.ref s.heap.objs.size) { s with heap:=h' }) :
  wpAny (model prog w) A (Builtin.«zip.__next__» ⟨[.ref z],[]⟩) (λfin s'=>∃ v,fin=.done (.ret v)/\Q v s') E s:=by
 obtain⟨nd,f1,f2⟩:=D
 simp only[List.nodup_cons,List.mem_cons,List.not_mem_nil,or_false,not_or,List.nodup_nil,and_true,not_false_eq_true] at nd f1 f2
 obtain⟨⟨nzI,nzO,nz1,nz2⟩,⟨nIO,nI1,nI2⟩,⟨nO1,nO2⟩,n12⟩:=nd
 obtain⟨p1z,p1O,p11,p12⟩:=f1
 obtain⟨p2z,p2O,p21,p22⟩:=f2
 obtain⟨zi,ti,⟨a,b,to⟩,a1,a2,b1,b2⟩:=Z
 refine AA (m:=field (.ref z) 2) (BK zi rfl (x:=.bool false) rfl ?_)
 refine AA (m:=field (.ref z) 3) (BK zi rfl (x:=.ref TI) rfl (AA (Bm ti rfl ?_)))
 refine AA (m:=Builtin.SmallTypes.ownedTupleIsFree (.ref z)) ?_
 unfold Builtin.SmallTypes.ownedTupleIsFree;refine AA (BK zi rfl (x:=.none) rfl (AE ?_))
 simp only[if_true];refine AA (Bi (AA (BK zi rfl (x:=.ref TO) rfl (AA (Cr zi (by simp) λg1 zi1' s1=>?_)))))
 have zi1:IsZip g1 z TI TO .ellipsis:=zi1'
 refine AA ?_
 simp only[List.zipIdx_cons,List.zipIdx_nil,List.forIn_cons,List.forIn_nil]
 refine AA (AA (Ea (AA (m:=Builtin.SmallTypes.nextOf (.ref i1)) ?_)))
 refine nextI (a1.ext s1.extBut (Aw nz1)) (b1.ext s1.extBut p1z) hx λg2 a1' s2=>AE ?_
 have to2:IsPair g2 TO a b:=s2.extBut _ _ nO1 (s1.extBut _ _ (Aw nzO) to)
 refine AA (Bm to2 rfl (AA (EH to2 λg3 to3' s3=>AA (wpAny_letGo (AE ?_)))))
 have to3:IsPair g3 TO x b:=to3'
 refine AA (AA (Ea (AA (m:=Builtin.SmallTypes.nextOf (.ref i2)) ?_)))
 refine nextI (((a2.ext s1.extBut (Aw nz2)).ext s2.extBut (Aw n12)).ext s3.extBut (Aw nO2)) (((b2.ext s1.extBut p2z).ext s2.extBut p21).ext s3.extBut p2O) hy λg4 a2' s4=>AE ?_
 have to4:IsPair g4 TO x b:=s4.extBut _ _ nO2 to3
 refine AA (Bm to4 rfl (AA (EH to4 λg5 to5' s5=>AA (wpAny_letGo (AE (AE ?_))))))
 have to5:IsPair g5 TO x y:=to5'
 refine AA (Bm to5 rfl (AA (wpAny_newTuple ?_)))
 have sz:g5.objs.size=s.heap.objs.size:=by rw[s5.1,s4.1,s3.1,s2.1,s1.1]
 have zi5:IsZip g5 z TI TO .ellipsis:=s5.extBut _ _ nzO (s4.extBut _ _ nz2 (s3.extBut _ _ nzO (s2.extBut _ _ nz1 zi1)))
 have k5:∀ c o,c ≠ z->c ≠ TO->c ≠ i1->c ≠ i2->s.heap.get? c=some o->g5.get? c=some o:=λc o c1 c2 c3 c4 e=>s5.extBut _ _ c2 (s4.extBut _ _ c4 (s3.extBut _ _ c2 (s2.extBut _ _ c3 (s1.extBut _ _ c1 e))))
 have a15:HIt kd g5 i1 t1 (k1+1):=((a1'.ext s3.extBut (Aw nO1)).ext s4.extBut n12).ext s5.extBut (Aw nO1)
 have a25:HIt kd g5 i2 t2 (k2+1):=a2'.ext s5.extBut (Aw nO2)
 refine AA (m:=Builtin.SmallTypes.ownedTupleHandOut (.ref z) (.ref g5.objs.size)) ?_
 unfold Builtin.SmallTypes.ownedTupleHandOut
 have zi6:IsZip (g5.push { cls:=.type "tuple",data:=.seq #[x,y] }) z TI TO .ellipsis:=AC _ zi5
 refine AA (Cr zi6 (by simp) λg7 zi7' s7=>?_)
 have zi7:IsZip g7 z TI TO (rawInt g5.objs.size):=zi7'
 refine Cr zi7 (by simp) λg8 zi8' s8=>?_
 have zi8:IsZip g8 z TI TO (rawInt g5.objs.size):=zi8'
 have up:∀ c o,c ≠ z->g5.get? c=some o->g8.get? c=some o:=λc o c1 e=>s8.extBut _ _ c1 (s7.extBut _ _ c1 (AC _ e))
 have new:IsPair g8 g5.objs.size x y:=s8.extBut _ _ (BD (AO zi5)) (s7.extBut _ _ (BD (AO zi5)) (AN _ rfl))
 have tp:∀ {c:Addr} {us:Array Value},c ≠ z->c ≠ TO->c ≠ i1->c ≠ i2->HSq kd s.heap c us->HSq kd g8 c us:=λ{c us} c1 c2 c3 c4 ⟨o,e,r⟩=>⟨o,up c o c1 (k5 c o c1 c2 c3 c4 e),r⟩
 have il:∀ {c u:Addr} {n:Nat},c ≠ z->HIt kd g5 c u n->HIt kd g8 c u n:=λ{c u n} c1 ⟨o,e,r⟩=>⟨o,up c o c1 e,r⟩
 refine AE ⟨_,O,?_⟩
 have fin:=q g8 ⟨by rw[<- sz];exact zi8,up _ _ (Aw nzI) (k5 _ _ (Aw nzI) nIO nI1 nI2 ti),⟨x,y,up _ _ (Aw nzO) to5⟩,il (Aw nz1) a15,il (Aw nz2) a25,tp p1z p1O p11 p12 b1,tp p2z p2O p21 p22 b2⟩ (by rw[<- sz];exact new) λc o hc e=>by
  simp only[List.mem_cons,List.not_mem_nil,or_false,not_or] at hc
  obtain⟨c1,c2,c3,c4⟩:=hc
  exact up c o c1 (k5 c o c1 c2 c3 c4 e)
 rw[<- sz] at fin
 exact fin
def zip_end {Q:Fin->Shared->Prop} (hh:A.handled=none) (D:Far z TI TO i1 i2 t1 t2) (Z:yT kd z TI TO i1 i2 t1 t2 xs ys .none k1 k2 s.heap) (hend:xs[k1]? = none\/ys[k2]? = none)
  (q:∀ h' e,xq z TO i1 i2 s.heap h'->(∃ o,h'.get? e=some o/\o.cls=.type "StopIteration")->E (.ref e) { s with heap:=h' }):wpAny (model prog w) A (Builtin.«zip.__next__» ⟨[.ref z],[]⟩) Q E s:=by
 obtain⟨nd,f1,f2⟩:=D
 simp only[List.nodup_cons,List.mem_cons,List.not_mem_nil,or_false,not_or,List.nodup_nil,and_true,not_false_eq_true] at nd f1 f2
 obtain⟨⟨nzI,nzO,nz1,nz2⟩,⟨nIO,nI1,nI2⟩,⟨nO1,nO2⟩,n12⟩:=nd
 obtain⟨p1z,p1O,p11,p12⟩:=f1
 obtain⟨p2z,p2O,p21,p22⟩:=f2
 obtain⟨zi,ti,⟨a,b,to⟩,a1,a2,b1,b2⟩:=Z
 refine AA (m:=field (.ref z) 2) (BK zi rfl (x:=.bool false) rfl ?_)
 refine AA (m:=field (.ref z) 3) (BK zi rfl (x:=.ref TI) rfl (AA (Bm ti rfl ?_)))
 refine AA (m:=Builtin.SmallTypes.ownedTupleIsFree (.ref z)) ?_
 unfold Builtin.SmallTypes.ownedTupleIsFree;refine AA (BK zi rfl (x:=.none) rfl (AE ?_))
 simp only[if_true];refine AA (Bi (AA (BK zi rfl (x:=.ref TO) rfl (AA (Cr zi (by simp) λg1 zi1' s1=>?_)))))
 have zi1:IsZip g1 z TI TO .ellipsis:=zi1'
 refine AA ?_
 simp only[List.zipIdx_cons,List.zipIdx_nil,List.forIn_cons,List.forIn_nil]
 refine AA (AA (Ea (AA (m:=Builtin.SmallTypes.nextOf (.ref i1)) ?_)))
 cases hx:xs[k1]? with
 | none=>
  refine nextE hh (a1.ext s1.extBut (Aw nz1)) (b1.ext s1.extBut p1z) hx λg2 e s2 ⟨oe,oe1,oe2⟩=>?_
  have zi2:IsZip g2 z TI TO .ellipsis:=s2 _ _ nz1 zi1
  have ez:e ≠ z:=λc=>by rw[c,zi2] at oe1;cases oe1;simp at oe2
  refine Cr zi2 (by simp) λg3 _ s3=>q g3 e (λc o hc e'=>?_) ⟨oe,s3.extBut _ _ ez oe1,oe2⟩
  simp only[List.mem_cons,List.not_mem_nil,or_false,not_or] at hc
  exact s3.extBut _ _ hc.1 (s2 _ _ hc.2.2.1 (s1.extBut _ _ hc.1 e'))
 | some x=>
  have hy:ys[k2]? = none:=hend.elim (λc=>by rw[hx] at c;cases c) id
  refine nextI (a1.ext s1.extBut (Aw nz1)) (b1.ext s1.extBut p1z) hx λg2 a1' s2=>AE ?_
  have to2:IsPair g2 TO a b:=s2.extBut _ _ nO1 (s1.extBut _ _ (Aw nzO) to)
  refine AA (Bm to2 rfl (AA (EH to2 λg3 to3' s3=>AA (wpAny_letGo (AE ?_)))))
  refine AA (AA (Ea (AA (m:=Builtin.SmallTypes.nextOf (.ref i2)) ?_)))
  refine nextE hh (((a2.ext s1.extBut (Aw nz2)).ext s2.extBut (Aw n12)).ext s3.extBut (Aw nO2)) (((b2.ext s1.extBut p2z).ext s2.extBut p21).ext s3.extBut p2O) hy λg4 e s4 ⟨oe,oe1,oe2⟩=>?_
  have zi4:IsZip g4 z TI TO .ellipsis:=s4 _ _ nz2 (s3.extBut _ _ nzO (s2.extBut _ _ nz1 zi1))
  have ez:e ≠ z:=λc=>by rw[c,zi4] at oe1;cases oe1;simp at oe2
  refine Cr zi4 (by simp) λg5 _ s5=>q g5 e (λc o hc e'=>?_) ⟨oe,s5.extBut _ _ ez oe1,oe2⟩
  simp only[List.mem_cons,List.not_mem_nil,or_false,not_or] at hc
  exact s5.extBut _ _ hc.1 (s4 _ _ hc.2.2.2 (s3.extBut _ _ hc.2.1 (s2.extBut _ _ hc.2.2.1 (s1.extBut _ _ hc.1 e'))))
def yU {x y:Value} {Q:Option Value->Shared->Prop} (D:Far z TI TO i1 i2 t1 t2) (Z:yT kd z TI TO i1 i2 t1 t2 xs ys .none k1 k2 s.heap) (hx:xs[k1]? = some x) (hy:ys[k2]? = some y)
  (q:∀ h',yT kd z TI TO i1 i2 t1 t2 xs ys (rawInt s.heap.objs.size) (k1+1) (k2+1) h'->IsPair h' s.heap.objs.size x y->xq z TO i1 i2 s.heap h'->Q (some (.ref s.heap.objs.size)) { s with heap:=h' }):wpAny (model prog w) A (pyNext (.ref z)) Q E s:=by
 have ty:s.TypeIs (.ref z) "zip":=⟨_,Z.zi,rfl⟩
 unfold pyNext
 exact AA (Bn (wpAny_callSpecial?_slot (name:=Str.ofString "__next__") ty DK (Ay DK ty PySem.F.entry_zip_next (zip_item D Z hx hy λh' u1 u2 u3=>AE (q h' u1 u2 u3)) (PySem.F.args_zip_next_1 _))))
def yV {Q:Option Value->Shared->Prop} (hh:A.handled=none) (D:Far z TI TO i1 i2 t1 t2) (Z:yT kd z TI TO i1 i2 t1 t2 xs ys .none k1 k2 s.heap) (hend:xs[k1]? = none\/ys[k2]? = none)
  (q:∀ h',xq z TO i1 i2 s.heap h'->Q none { s with heap:=h' }):wpAny (model prog w) A (pyNext (.ref z)) Q E s:=by
 have ty:s.TypeIs (.ref z) "zip":=⟨_,Z.zi,rfl⟩
 unfold pyNext
 refine AA (Bn (wpAny_callSpecial?_slot (name:=Str.ofString "__next__") ty DK (Ay DK ty PySem.F.entry_zip_next (zip_end hh D Z hend λh' e hk ⟨o,o1,o2⟩=>?_) (PySem.F.args_zip_next_1 _))))
 exact AA (B3 (T := "StopIteration") (b:=true) ⟨o,o1,o2⟩ Dj (AE (q h' hk)))
def zp1 (kd:Bool) (h:Heap) (t1:Addr):Heap:=h.push { cls:=.type (bif kd then "tuple_iterator" else "list_iterator"),data:=.fields #[.ref t1,.int 0 0] }
def zp2 (kd:Bool) (h:Heap) (t1 t2:Addr):Heap:=(zp1 kd h t1).push { cls:=.type (bif kd then "tuple_iterator" else "list_iterator"),data:=.fields #[.ref t2,.int 0 0] }
def zp3 (kd:Bool) (h:Heap) (t1 t2:Addr):Heap:=(zp2 kd h t1 t2).push { cls:=.type "tuple",data:=.seq #[.ref h.objs.size,.ref (zp1 kd h t1).objs.size] }
def zp4 (kd:Bool) (h:Heap) (t1 t2:Addr):Heap:=(zp3 kd h t1 t2).push { cls:=.type "tuple",data:=.seq #[.none,.none] }
def zp5 (kd:Bool) (h:Heap) (t1 t2:Addr):Heap:=(zp4 kd h t1 t2).push { cls:=.type "zip",data:=.fields #[.none,.bool false,.bool false,.ref (zp2 kd h t1 t2).objs.size,.ref (zp3 kd h t1 t2).objs.size] }
def zip_new (kd:Bool) (t1 t2:Addr) (xs ys:Array Value):Meets (Builtin.«zip.__new__» ⟨[.type "zip",.ref t1,.ref t2],[]⟩) (λ_ R s=>HSq kd s.heap t1 xs/\HSq kd s.heap t2 ys/\R (.ok (.ret (.ref (zp4 kd s.heap t1 t2).objs.size))) { s with heap:=zp5 kd s.heap t1 t2 }):=
 .of_wp λprog w A R s h=>by
  obtain⟨hp,g,d,tk,os⟩:=s
  obtain⟨u1,u2,h⟩:=h
  have subz:=PySem.sub_zip
  have T1:HSq kd (Shared.heap ⟨hp,g,d,tk,os⟩) t1 xs:=u1
  have T2:HSq kd (Shared.heap ⟨hp.push { cls:=.type (bif kd then "tuple_iterator" else "list_iterator"),data:=.fields #[.ref t1,.int 0 0] },g,d,tk,os⟩) t2 ys:=(by obtain⟨o,e,r⟩:=u2;exact⟨o,AC _ e,r⟩)
  wp_walk using iterK T1,iterK T2
  exact⟨_,O,h⟩
def XD {Q:Value->Shared->Prop} (h1:HSq kd s.heap t1 xs) (h2:HSq kd s.heap t2 ys)
  (q:∀ h' z TI TO i1 i2,Far z TI TO i1 i2 t1 t2->yT kd z TI TO i1 i2 t1 t2 xs ys .none 0 0 h'->(∀ b ∈ [z,TI,TO,i1,i2],s.heap.objs.size<=b)->(∀ c o,s.heap.get? c=some o->h'.get? c=some o)->Q (.ref z) { s with heap:=h' }) :
  wpAny (model prog w) A (call (.type "zip") [.ref t1,.ref t2]) Q E s:=by
 refine Ej PySem.F.called_zip (by decide) (PySem.F.typeCall_zip_2 _ _) (PySem.F.newCall_zip_2 _ _) (λobj=>PySem.F.args_object_init_3 obj _ _) PySem.F.entry_zip_new (zip_new kd t1 t2 xs ys) ⟨h1,h2,?_⟩
 have l1:t1 < s.heap.objs.size:=by obtain⟨_,e,_⟩:=h1;exact AO e
 have l2:t2 < s.heap.objs.size:=by obtain⟨_,e,_⟩:=h2;exact AO e
 have z1:(zp1 kd s.heap t1).objs.size=s.heap.objs.size+1:=Bq ..
 have z2:(zp2 kd s.heap t1 t2).objs.size=s.heap.objs.size+2:=by unfold zp2;rw[Heap.size_push,z1]
 have z3:(zp3 kd s.heap t1 t2).objs.size=s.heap.objs.size+3:=by unfold zp3;rw[Heap.size_push,z2]
 have z4:(zp4 kd s.heap t1 t2).objs.size=s.heap.objs.size+4:=by unfold zp4;rw[Heap.size_push,z3]
 have kp:∀ c o,s.heap.get? c=some o->(zp5 kd s.heap t1 t2).get? c=some o:=λc o e=>AC _ (AC _ (AC _ (AC _ (AC _ e))))
 have g5:(zp5 kd s.heap t1 t2).get? (zp4 kd s.heap t1 t2).objs.size=some _:=AN _ rfl
 have g4:(zp5 kd s.heap t1 t2).get? (zp3 kd s.heap t1 t2).objs.size=some _:=AC _ (AN _ rfl)
 have g3:(zp5 kd s.heap t1 t2).get? (zp2 kd s.heap t1 t2).objs.size=some _:=AC _ (AC _ (AN _ rfl))
 have g2:(zp5 kd s.heap t1 t2).get? (zp1 kd s.heap t1).objs.size=some _:=AC _ (AC _ (AC _ (AN _ rfl)))
 have g1:(zp5 kd s.heap t1 t2).get? s.heap.objs.size=some _:=AC _ (AC _ (AC _ (AC _ (AN _ rfl))))
 refine⟨⟨_,g5,O⟩,q _ _ (zp2 kd s.heap t1 t2).objs.size (zp3 kd s.heap t1 t2).objs.size s.heap.objs.size (zp1 kd s.heap t1).objs.size ⟨?_,?_,?_⟩ ⟨g5,g3,⟨_,_,g4⟩,⟨_,g1,O,O⟩,⟨_,g2,O,O⟩,?_,?_⟩ ?_ kp⟩
 ·rw[z1,z2,z3,z4]
  generalize s.heap.objs.size=n
  simp
 ·rw[z1,z3,z4]
  generalize s.heap.objs.size=n at *
  have:∀ a b:Nat,a < b->¬ (a=b):=λa b h=>AU h
  simp only[List.mem_cons,List.not_mem_nil,or_false,not_or]
  exact⟨this _ _ (Ac l1 (Bo ..)),this _ _ (Ac l1 (Bo ..)),this _ _ l1,this _ _ (Ac l1 (Bo ..))⟩
 ·rw[z1,z3,z4]
  generalize s.heap.objs.size=n at *
  have:∀ a b:Nat,a < b->¬ (a=b):=λa b h=>AU h
  simp only[List.mem_cons,List.not_mem_nil,or_false,not_or]
  exact⟨this _ _ (Ac l2 (Bo ..)),this _ _ (Ac l2 (Bo ..)),this _ _ l2,this _ _ (Ac l2 (Bo ..))⟩
 ·obtain⟨o,e,r⟩:=h1
  exact⟨o,kp _ _ e,r⟩
 ·obtain⟨o,e,r⟩:=h2
  exact⟨o,kp _ _ e,r⟩
 ·rw[z1,z2,z3,z4]
  generalize s.heap.objs.size=n
  intro b hb
  simp only[List.mem_cons,List.not_mem_nil,or_false] at hb
  rcases hb with rfl | rfl | rfl | rfl | rfl
  ·exact Bo ..
  ·exact Bo ..
  ·exact Bo ..
  ·exact AM _
  ·exact Bo ..
end
def SqK (b:Bool) (K:Fs) (H:Hp) (a:Addr) (xs:List V):Prop:=bif b then SqT K H a xs else SqL K H a xs
def Inv.sqK {X:Cx} {pins:List (Addr×Obj)} {σ:St} {H:Hp} {s:Shared} {a:Addr} {xs:List V} {kd:Bool} (I:Inv X pins σ H s) (h:SqK kd X.K H a xs):∃ its,qF xs its/\HSq kd s.heap a its.toArray/\xs.length<=sizeLine:=by
 cases kd
 ·obtain⟨its,rv,p,l⟩:=I.list h
  exact⟨its,rv,p.isList,l⟩
 ·exact I.tuple h
def Inv.sqK_inj {X:Cx} {pins:List (Addr×Obj)} {σ:St} {H:Hp} {s:Shared} {a:Addr} {xs ys:List V} {kd:Bool} (I:Inv X pins σ H s) (h:SqK kd X.K H a xs) (k:SqK kd X.K H a ys):xs=ys:=by
 cases kd
 ·exact I.list_inj h k
 ·exact I.tuple_inj h k
def ItzK (kd : Bool) (K : Fs) (p q : Addr) : It :=
  ⟨λi H => ∃ xs ys x y, SqK kd K H p xs /\ SqK kd K H q ys /\ xs[i]? = some x /\ ys[i]? = some y,
   λi H v H' => ∃ T x y, H T = none /\ v = .ref T /\ H' = upd H T (.tup [x, y]) /\ ∀ xs ys, SqK kd K H p xs -> SqK kd K H q ys -> xs[i]? = some x /\ ys[i]? = some y,
   λi H => ∃ xs ys, SqK kd K H p xs /\ SqK kd K H q ys /\ (xs.length <= i \/ ys.length <= i)⟩
def Inv.zipped {X:Cx} {pins:List (Addr×Obj)} {σ:St} {H:Hp} {s:Shared} {z TO i1 i2:Addr} {h':Heap} {t':Nat} (I:Inv X pins σ H s) (hf:∀ b ∈ [z,TO,i1,i2],YF X pins H b) (k:xq z TO i1 i2 s.heap h'):Inv X pins σ H { s with heap:=h',toks:=t' }:=by
 have nt:∀ b u,H b=some u->b ∉ [z,TO,i1,i2]:=λb u e hb=>by
  rw[(hf b hb).1] at e
  cases e
 have nl:X.env.locals ∉ [z,TO,i1,i2]:=λhb=>(hf _ hb).2.1 rfl
 refine I.step (g':=s.gens) (d':=s.drawn) (ch:=[z,TO,i1,i2]) (λb hb=>⟨(hf b hb).2.2.2.1,(hf b hb).2.1,(hf b hb).2.2.2.2.1,(hf b hb).2.2.2.2.2⟩) (λb o _ _ hc e _=>k b o hc e) (λb o _ _ hc e _=>⟨o.slots,k b o hc e⟩) (λ_ _ _ _ n=>n)
  (λb o hc e=>⟨o,k b o hc e⟩) (λ_ _ e=>e) (λ_ _ _ e=>e) (λb ps e=>⟨#[],by rw[e];simp⟩) (λm hm=>?_) (λb u e=>?_) I.bare
 ·obtain⟨o,es,ep,ho,r⟩:=hm
  exact⟨o,es,ep,k _ o nl ho,r⟩
 ·refine (I.hok b u e).stay (λc v hc q=>k c v ?_ q) (λ_ q=>q) λ_ _ q=>q
  rcases hc with z | z
  ·rw[z];exact nt b u e
  ·exact nt c _ z
structure ZipTn (kd:Bool) (z TI TO i1 i2 t1 t2:Addr) (k:Nat) (h:Heap):Prop where
 zi:IsZip h z TI TO .none
 ti:IsPair h TI (.ref i1) (.ref i2)
 to:∃ a b,IsPair h TO a b
 a1:HIt kd h i1 t1 k
 a2:HIt kd h i2 t2 k
def turn_zip {kd:Bool} {P:Program} {w:World} {K:Fs} {elts:List Expr} {kk:Nat} {pos:Pos} {z TI TO i1 i2 t1 t2:Addr} (D:Far z TI TO i1 i2 t1 t2) :
  Turn P w K (.Tuple elts kk pos) (ItzK kd K t1 t2) [z,TI,TO,i1,i2] z (λi h=>ZipTn kd z TI TO i1 i2 t1 t2 i h) where
 mem:=by simp
 obj:=λi h st b hb=>by
  obtain⟨u1,u2,⟨a,c,u3⟩,⟨o4,u4,_,d4⟩,⟨o5,u5,_,d5⟩⟩:=st
  simp only[List.mem_cons,List.not_mem_nil,or_false] at hb
  rcases hb with rfl | rfl | rfl | rfl | rfl
  ·exact⟨_,u1,λv zz=>by cases zz⟩
  ·exact⟨_,u2,λv zz=>by cases zz⟩
  ·exact⟨_,u3,λv zz=>by cases zz⟩
  ·exact⟨_,u4,λv zz=>by rw[d4] at zz;cases zz⟩
  ·exact⟨_,u5,λv zz=>by rw[d5] at zz;cases zz⟩
 keep:=λi h h' st k=>by
  obtain⟨u1,u2,⟨a,c,u3⟩,⟨o4,u4,r4⟩,⟨o5,u5,r5⟩⟩:=st
  exact⟨k _ (by simp) _ u1,k _ (by simp) _ u2,⟨a,c,k _ (by simp) _ u3⟩,⟨o4,k _ (by simp) _ u4,r4⟩,⟨o5,k _ (by simp) _ u5,r5⟩⟩
 item:=by
  intro X hP hw hK hc i pins s σ H E I hf st hg
  subst hP hw hK
  obtain⟨xs,ys,x,y,hq1,hq2,hx,hy⟩:=hg
  obtain⟨its1,rv1,p1,hz1⟩:=I.sqK hq1
  obtain⟨its2,rv2,p2,hz2⟩:=I.sqK hq2
  obtain⟨u,hu,ru⟩:=rv1.get hx
  obtain⟨v,hv,rv⟩:=rv2.get hy
  refine yU (s:=s) D ⟨st.zi,st.ti,st.to,st.a1,st.a2,p1,p2⟩ (x:=u) (y:=v) (by simpa using hu) (by simpa using hv) λh' Z hp hk=>⟨_,O,wpAny_letOwnedTupleGo_zip Z.zi λh2 z2 sb=>?_⟩
  have hf4:∀ b ∈ [z,TO,i1,i2],YF X pins H b:=λb hb=>hf b (by simp only[List.mem_cons,List.not_mem_nil,or_false] at hb ⊢;rcases hb with e | e | e | e <;> simp[e])
  have k2:xq z TO i1 i2 s.heap h2:=λc o hc e=>(sb.2 c (λzz=>hc (by simp[zz]))).trans (hk c o hc e)
  have I1:Inv X pins σ H { s with heap:=h2 }:=I.zipped (t':=s.toks) hf4 k2
  have zlt:z < s.heap.objs.size:=AO st.zi
  have at2:IsPair h2 s.heap.objs.size u v:=(sb.2 _ (BD zlt)).trans hp
  have Hn:H s.heap.objs.size=none:=I.hok.fresh (AM _)
  have I2:Inv X pins σ (upd H s.heap.objs.size (.tup [x,y])) { s with heap:=h2 }:=by
   refine I1.adopt Hn (C6 I.sz) (BD I.lt) (λxx cc e zz=>?_) (λp hp zz=>?_) ⟨by show 2<=sizeLine;decide,[u,v],.cons ru (.cons rv .nil),⟨_,at2,O,⟨0,O⟩,O⟩⟩
   ·obtain⟨_,q⟩:=I.cell xx cc e
    exact absurd q.lt (by rw[zz];exact A1 _)
   ·exact absurd (AO (I.pin p hp).1) (by rw[zz];exact A1 _)
  have n5:∀ b ∈ [z,TI,TO,i1,i2],b ≠ s.heap.objs.size:=λb hb zz=>by
   obtain⟨u1,u2,⟨a,c,u3⟩,⟨o4,u4,_⟩,⟨o5,u5,_⟩⟩:=st
   simp only[List.mem_cons,List.not_mem_nil,or_false] at hb
   rcases hb with e | e | e | e | e
   ·rw[e] at zz;exact absurd (AO u1) (by rw[zz];exact A1 _)
   ·rw[e] at zz;exact absurd (AO u2) (by rw[zz];exact A1 _)
   ·rw[e] at zz;exact absurd (AO u3) (by rw[zz];exact A1 _)
   ·rw[e] at zz;exact absurd (AO u4) (by rw[zz];exact A1 _)
   ·rw[e] at zz;exact absurd (AO u5) (by rw[zz];exact A1 _)
  obtain⟨nd,_,_⟩:=D
  simp only[List.nodup_cons,List.mem_cons,List.not_mem_nil,or_false,not_or,List.nodup_nil,and_true,not_false_eq_true] at nd
  obtain⟨⟨nzI,nzO,nz1,nz2⟩,_,_,_⟩:=nd
  obtain⟨a,b,to⟩:=Z.to
  refine⟨.ref s.heap.objs.size,_,I2,O,⟨_,x,y,Hn,O,O,λxs' ys' h1 h2=>?_⟩,⟨z2,(sb.2 _ (Aw nzI)).trans Z.ti,⟨a,b,(sb.2 _ (Aw nzO)).trans to⟩,Z.a1.ext sb.extBut (Aw nz1),Z.a2.ext sb.extBut (Aw nz2)⟩,λb hb=>?_⟩
  ·rw[I.sqK_inj h1 hq1,I.sqK_inj h2 hq2]
   exact⟨hx,hy⟩
  ·rw[zK (n5 b hb)]
   exact (hf b hb).1
 done:=by
  intro X hP hw hK hc i pins s σ H E I hf st hg
  subst hP hw hK
  obtain⟨xs,ys,hq1,hq2,hx⟩:=hg
  obtain⟨its1,rv1,p1,hz1⟩:=I.sqK hq1
  obtain⟨its2,rv2,p2,hz2⟩:=I.sqK hq2
  have l1:=rv1.length
  have l2:=rv2.length
  have hf4:∀ b ∈ [z,TO,i1,i2],YF X pins H b:=λb hb=>hf b (by simp only[List.mem_cons,List.not_mem_nil,or_false] at hb ⊢;rcases hb with e | e | e | e <;> simp[e])
  exact yV (I.ok.hd hc) D ⟨st.zi,st.ti,st.to,st.a1,st.a2,p1,p2⟩ (by rcases hx with h | h;exact .inl (by simp;lia);exact .inr (by simp;lia)) λh' hk=>⟨rfl,I.zipped (t':=s.toks) hf4 hk⟩
 self:=λA i s Q E st h=>wpAny_pyIter_zip st.zi h
section
variable {X:Cx}
def bt_zip:bootBuiltins "zip" = some (.type "zip"):=by ac_rfl
def iZipK (kd:Bool) (K:Fs) (ta:TA):TI:=λσ H R=>ta σ H λvs H1=>∃ p q xs ys,vs=[.ref p,.ref q]/\SqK kd K H1 p xs/\SqK kd K H1 q ys/\R (ItzK kd K p q) H1
def YR (kd:Bool) (K:Fs) {elts:List Expr} {kk:Nat} {tpos:Pos} {a b:Expr} {ta:TA} {p pos:Pos} (hg:Gl X "zip") (hm:X.mg "zip" = none) (ha:PA X [a,b] ta) (hs:starEach [a,b] X.env=[(false,eval a X.env),(false,eval b X.env)]:=by rfl) (hs2:starEach [b] X.env=[(false,eval b X.env)]:=by rfl) (hK:X.K=K:=by rfl) :
  PI X (.Tuple elts kk tpos) (.Call (.Name "zip" p) [a,b] [] pos) (iZipK kd K ta):=by
 subst hK
 intro pins s σ H R I h
 refine Call_ (Zx I hg hm bt_zip (BC (thn (ha pos pins s σ H _ I h) λus s1 ⟨vs,H1,I1,r1,q1⟩=>?_) (by rw[hs,hs2]) (by rw[hs2];rfl)))
 obtain⟨p1,p2,xs,ys,e,hq1,hq2,q⟩:=q1
 subst e
 obtain⟨u1,u2,rfl,r1,r2⟩:=vals2 r1
 cases r1
 cases r2
 obtain⟨its1,rv1,t1,_⟩:=I1.sqK hq1
 obtain⟨its2,rv2,t2,_⟩:=I1.sqK hq2
 refine XD t1 t2 λh' z TI TO i1 i2 D Z new kp=>wpAny_pyIter_zip Z.zi ?_
 have I2:Inv X pins σ H1 { s1 with heap:=h' }:=I1.kept (t':=s1.toks) kp
 exact⟨z,[z,TI,TO,i1,i2],_,ItzK kd X.K p1 p2,H1,O,I2,turn_zip D,⟨Z.zi,Z.ti,Z.to,Z.a1,Z.a2⟩,λb hb=>I1.fpOk (new b hb) (I1.hok.fresh (new b hb)),q⟩
abbrev Itz:=ItzK true
end
section
variable {X:Cx}
def W9:OpR X (compareOp .LtE) (λx y H Q=>∃ i j,x=.str i/\y=.str j/\Q (.bl (!decide (j.cps.toList < i.cps.toList))) H):=by
 intro pins s σ H x y v u Q I rx ry h
 obtain⟨i,j,rfl,rfl,q⟩:=h
 obtain⟨t,rfl⟩:=rx
 obtain⟨t',rfl⟩:=ry
 exact PySem.P.le_str (qg I q rfl)
end
def YS {v:V} (h:ju v=true):eqV v v=true:=by
 cases v with
 | non=>rfl
 | bl b=>simp[eqV]
 | int i=>simp[eqV]
 | str x=>simp[eqV]
 | _=>cases h
theorem Paired.at {α β:Type} {F:α->β->Prop}:∀ {l₁:List α} {l₂:List β},Paired F l₁ l₂->∀ (i:Nat) (x:α) (y:β),l₁[i]? = some x->l₂[i]? = some y->F x y
 | _,_,.nil,i,x,y,h,_=>by simp at h
 | _,_,.cons r t,0,x,y,h,k=>by simp at h k;subst h k;exact r
 | _,_,.cons r t,i+1,x,y,h,k=>Paired.at t i x y (by simpa using h) (by simpa using k)
section
variable {X:Cx} {pins:List (Addr × Obj)} {σ:St} {H:Hp} {s:Shared}
end
def for_zip {K:Fs} {p q:Addr} {xs ys:List V} {n a b:Nat} {tb:TS} {D:Xc} {σ:St} {H:Hp} (Pv:Nat->St->Hp->Prop) (hn:n=min xs.length ys.length) (h0:Pv 0 σ H) (hl:∀ i σ H,i<=n->Pv i σ H->SqT K H p xs/\SqT K H q ys)
  (hs:∀ i x y σ H T,i < n->xs[i]? = some x->ys[i]? = some y->H T=none->Pv i σ H->tb { D with nx:=Pv (i+1),ct:=Pv (i+1),bk:=D.nx } ((σ.set a (some x)).set b (some y)) (upd H T (.tup [x,y]))) (hd:∀ σ H,Pv n σ H->D.nx σ H) :
  ∃ W:Nat->Nat->St->Hp->Prop,(∃ m,W 0 m σ H)/\∀ i m σ H,W i m σ H ->
   ((Itz K p q).stop i H/\D.nx σ H)\/((Itz K p q).go i H/\∃ N:St->Hp->Prop,(∀ σ' H',N σ' H'->∃ m',m' < m/\W (i+1) m' σ' H')/\∀ x H',(Itz K p q).yld i H x H'->(gTup K 2 (Qg (jh a) (Qg (jh b) gNil))) x σ H' λσ2 H2=>tb { D with nx:=N,ct:=N,bk:=D.nx } σ2 H2):=by
 refine⟨λi m σ H=>m=n - i/\i<=n/\Pv i σ H,⟨n,by simp,BA _,h0⟩,?_⟩
 rintro i m σ H ⟨rfl,hi,pp⟩
 obtain⟨q1,q2⟩:=hl i σ H hi pp
 by_cases hlt:i < n
 ·have k1:xs[i]? = some (xs.getD i .non):=by simp[List.getD,show i < xs.length by lia]
  have k2:ys[i]? = some (ys.getD i .non):=by simp[List.getD,show i < ys.length by lia]
  refine .inr ⟨⟨xs,ys,_,_,q1,q2,k1,k2⟩,Pv (i+1),λσ' H' p'=>⟨n - (i+1),by lia,O,hlt,p'⟩,?_⟩
  rintro v H2 ⟨T,x,y,hT,rfl,rfl,hall⟩
  obtain⟨e1,e2⟩:=hall xs ys q1 q2
  exact⟨T,_,O,SqT.of ze,O,_,_,O,_,_,O,O,hs i x y σ H T hlt e1 e2 hT pp⟩
 ·have e:i=n:=by lia
  subst e
  exact .inl ⟨⟨xs,ys,q1,q2,by lia⟩,hd σ H pp⟩
end L2
namespace L4
open PySem L2
def Tk (H H':Hp):Prop:=∀ b xs,H b=some (.tup xs)->H' b=some (.tup xs)
def Tk.trans {H H1 H2:Hp} (a:Tk H H1) (b:Tk H1 H2):Tk H H2:=λc xs h=>b c xs (a c xs h)
def Tk.put {t:Addr} {H:Hp} {xs:List V} {o:HO} (h:H t=some (.lst xs)):Tk H (upd H t o):=λc u q=>by rw[zK (ne_of q h (by intro z;cases z))];exact q
def zf {H:Hp} {p:Addr} (h:H p=none) (o:HO):zD H (upd H p o):=λb u q=>by rw[zK (zL q h)];exact q
def Tk.of {H H':Hp} (s:zD H H'):Tk H H':=λb xs q=>s b _ q
def take_snoc {α:Type} {xs:List α} {i:Nat} {x:α} (h:xs[i]? = some x):xs.take (i+1)=xs.take i++[x]:=by rw[EN,h];rfl
def zt {n:Nat} (h:n<=1000):n<=sizeLine:=CN (zq h)
end L4
namespace Fr
end Fr
namespace Fr
end Fr
namespace L4
open PySem L2
def _root_.L2.zD.put {H H':Hp} {l:Addr} {o:HO} (h:zD H H') (n:H l=none):zD H (upd H' l o):=λb u e=>by rw[zK (zL e n)];exact h b u e
end L4
namespace L2
open PySem PySem.Spec PyProof.Rows
variable {X:Cx}
def pe_globR {x:Str} {v:V} {pos:Pos} (hg:Gl X x) (hm:∃ u,X.mg x=some u/\RelV v u) (hd:(x == ("__debug__" : Str))=false:=by decide):PE X (.Name x pos) (tC v):=by
 obtain⟨u,h,r⟩:=hm
 exact pe_glob hg h r hd
end L2
namespace HT
open PySem PyProof.Rows
open PySem.SeqAt
open PySem.AutoSeq1 (wpAny_loadPart')
open PySem.MeetsSeq PySem.MeetsSeq2 PySem.MeetsSeq3
variable {prog:Program} {w:World} {A:Around} {E:Value->Shared->Prop} {s:Shared}
def getItem_tuple_whole {t sl:Addr} {items:Array Value} {vl vu:Value} {lo hi:Option Int} {Q:Value->Shared->Prop} (ht:IsTup s.heap t items) (hs:s.heap.IsSliceOf sl vl vu .none) (pl:IsPart vl lo) (pu:IsPart vu hi)
  (hw:sIx items.size 0 lo=0/\sIx items.size items.size hi=items.size)
  (h:Q (.ref t) s):wpAny (model prog w) A (getItem (.ref t) (.ref sl)) Q E s:=by
 obtain⟨os,hos,hcs,hds⟩:=id hs
 have hTs:s.TypeIs (.ref sl) "slice":=⟨os,hos,hcs⟩
 unfold getItem
 try with_reducible refine BL ?_
 first | refine AA (AE ?_) | skip
 refine AA (wpAny_sequenceKey ht.typeIs (by decide) ?_)
 refine AA (wpAny_callSpecial?_slot (name:=Str.ofString "__getitem__") ht.typeIs Be
  (Ay Be ht.typeIs entry_tuple_getitem ?_ (args_tuple_getitem _ _)))
 show wpAny _ _ (Builtin.Tuple.tupleItemsOf (.ref t) >>= _) _ _ s
 refine AA (tupleItemsOf_ ht ?_)
 refine AA (Bw hTs ?_)
 rw[if_pos (by decide)]
 refine AA (sliceApplied_gen hs pl pu ?_)
 have hyes:(((sIx items.size 0 lo:Nat):Int) == 0 && (1:Int) == 1 && (sIx items.size items.size hi - sIx items.size 0 lo) == items.size)=true:=by
  rw[hw.1,hw.2]
  simp
 show wpAny _ _ (if (((sIx items.size 0 lo:Nat):Int) == 0 && (1:Int) == 1 && (sIx items.size items.size hi - sIx items.size 0 lo) == items.size)=true then _ else _) _ _ s
 rw[if_pos hyes]
 refine AA (m:=Builtin.Tuple.tupleIsExact _) (AA (Bw ht.typeIs (AE ?_)))
 rw[if_pos (by decide)]
 first
  | exact AA (Bi (AE ⟨_,rfl,AE h⟩))
  | exact Bi (AE ⟨_,rfl,AE h⟩)
  | exact AA (Bi ⟨_,rfl,AE h⟩)
  | exact AE ⟨_,rfl,AE h⟩
end HT
namespace L2
open PySem PySem.Spec PyProof.Rows
variable {X:Cx}
def rSlTW (K:Fs):V->Option Int->Option Int->Hp->VK->Prop:=λx lo hi H Q=>∃ a xs,x=.ref a/\SqT K H a xs /\
 (HT.sIx xs.length 0 lo=0/\HT.sIx xs.length xs.length hi=xs.length)/\Q (.ref a) H
def sl_tupW:SlR X (rSlTW X.K):=by
 intro pins s σ H x v vl vu lo hi sl Q I rx hs pl pu h
 obtain⟨a,xs,rfl,hx,hw,q⟩:=h
 cases rx
 obtain⟨its,r,ht,hz⟩:=I.tuple hx
 have hlen:its.toArray.size=xs.length:=by rw[A0];exact r.length.symm
 refine⟨"tuple",_,Be.lookup,ht.typeIs,?_⟩
 exact HT.getItem_tuple_whole ht hs pl pu (by rw[hlen];exact hw) ⟨.ref a,H,I,O,q⟩
section
variable {X:Cx}
def rCatA (K:Fs):R2:=λx y H Q=>∃ a b xs ys,x=.ref a/\y=.ref b/\SqT K H a xs/\SqT K H b ys/\xs.length+ys.length<=sizeLine /\
 (xs=[]->Q (.ref b) H)/\(xs ≠ []->ys=[]->Q (.ref a) H)/\(xs ≠ []->ys ≠ []->∀ p,H p=none->Q (.ref p) (upd H p (.tup (xs++ys))))
def op_catA (K:Fs) (hK:X.K=K:=by rfl):OpR X (binaryOp .Add) (rCatA K):=by
 subst hK
 intro pins s σ H x y v u Q I rx ry h
 obtain⟨a,b,xs,ys,rfl,rfl,ha,hb,hz,q0,q1,q2⟩:=h
 by_cases hx:xs=[]
 ·cases rx
  cases ry
  obtain⟨its,r1,p1,_⟩:=I.tuple ha
  obtain⟨its2,r2,p2,_⟩:=I.tuple hb
  obtain⟨⟨cls,dd,data,sl⟩,ho,hc,n,hd⟩:=id p1
  obtain⟨⟨cls2,dd2,data2,sl2⟩,ho2,hc2,n2,hd2⟩:=id p2
  simp only at hc hd hc2 hd2
  subst hc hd hc2 hd2
  have hv:its=[]:=(qF.nil_iff r1).mpr hx
  exact concat_meets ⟨_,ho,O⟩ ⟨_,ho2,O⟩ noFill_tuple_add seq_tuple_add Dp Dk (Di _ _)
   (tuple_addW0 a b its.toArray its2.toArray n n2 dd dd2 sl sl2 (by simp[hv])) ⟨ho,ho2,⟨.ref b,H,I,rfl,q0 hx⟩⟩
 ·exact op_catT pins s σ H _ _ v u Q I rx ry ⟨a,b,xs,ys,O,O,ha,hb,hx,hz,q1 hx,q2 hx⟩
end
end L2
namespace L4
open PySem L2
theorem jJ:∀ (l ns:List Str),l.Nodup->(∀ x ∈ l,x ∈ ns)->l.length<=ns.length
 | [],ns,_,_=>BA _
 | x :: l,ns,nd,h=>by
  obtain⟨n1,n2⟩:=BP.mp nd
  have ih:=jJ l (ns.erase x) n2 λy hy=>(D4 (λ(e:y=x)=>n1 (e ▸ hy))).mpr (h y (Ah _ hy))
  have hx:=h x Af
  have e:=C5 hx
  have pos:0 < ns.length:=DE hx
  rw[Am]
  lia
open PySem L2 PySem.StrLaws
def Small (x:Str):Prop:=∀ c ∈ x.cps.toList,97<=c/\c<=122
def XE {α:Type} {K:Fs} {a D:Addr} {t:Nat} {te:TE} {σ0:St} {H1:Hp} {Q:VK} (as:List α) (g h:α->V) (ha:H1 a=some (.tup (as.map g))) (hl:as.length<=1000) (hD:H1 D=none)
  (he:∀ z ∈ as,∀ H' Q',zD H1 H'->(∀ H'',zD H' H''->Q' (h z) H'')->te (σ0.set t (some (g z))) H' Q')
  (q:∀ H',zD H1 H'->H' D=some (.lst (as.map h))->Q (.ref D) H'):jI (Itt K a) (jh t) tYes te σ0 H1 Q D:=by
 refine Ji (xs:=as.map g) (λi ys H'=>zD H1 H'/\ys=(as.take i).map h) ⟨zf hD _,O⟩ (λi ys H' hh _=>SqT.of (hh.1 _ _ ha)) ?_ ?_
 ·rintro i ys H' x hx ⟨s1,rfl⟩ hD'
  have hi:i < (as.map g).length:=(AF.mp hx).1
  rw[AH] at hx
  obtain⟨z,hz,rfl⟩:=AW.mp hx
  refine yes (he z (AJ hz) H' _ s1 λH'' s2=>?_)
  rw[AB] at hi
  refine Q6 (by rw[AB];exact hi) jj (s2 _ _ hD') (by rw[AB,Ai];exact zq (by lia)) ⟨λb o qb=>?_,?_⟩
  ·rw[zK (zL qb hD)]
   exact s2 b o (s1 b o qb)
  ·rw[take_snoc hz,AK]
   rfl
 ·rintro ys H' ⟨s1,rfl⟩ hD'
  rw[AB,Ag] at hD'
  exact q H' s1 hD'
def qB {α:Type} {K:Fs} {a D:Addr} {t:Nat} {te:TE} {σ0:St} {H1:Hp} {Q:VK} (as:List α) (g h:α->V) (ha:H1 a=some (.lst (as.map g))) (hl:as.length<=1000) (hD:H1 D=none)
  (he:∀ z ∈ as,∀ H' Q',zD H1 H'->(∀ H'',zD H' H''->Q' (h z) H'')->te (σ0.set t (some (g z))) H' Q')
  (q:∀ H',zD H1 H'->H' D=some (.lst (as.map h))->Q (.ref D) H'):jI (Itl K a) (jh t) tYes te σ0 H1 Q D:=by
 refine Za (xs:=as.map g) (λi ys H'=>zD H1 H'/\ys=(as.take i).map h) ⟨zf hD _,O⟩ (λi ys H' hh _=>SqL.of (hh.1 _ _ ha)) ?_ ?_
 ·rintro i ys H' x hx ⟨s1,rfl⟩ hD'
  have hi:i < (as.map g).length:=(AF.mp hx).1
  rw[AH] at hx
  obtain⟨z,hz,rfl⟩:=AW.mp hx
  refine yes (he z (AJ hz) H' _ s1 λH'' s2=>?_)
  rw[AB] at hi
  refine Q6 (by rw[AB];exact hi) jj (s2 _ _ hD') (by rw[AB,Ai];exact zq (by lia)) ⟨λb o qb=>?_,?_⟩
  ·rw[zK (zL qb hD)]
   exact s2 b o (s1 b o qb)
  ·rw[take_snoc hz,AK]
   rfl
 ·rintro ys H' ⟨s1,rfl⟩ hD'
  rw[AB,Ag] at hD'
  exact q H' s1 hD'
def map_str {z:Str} {D:Addr} {t:Nat} {te:TE} {σ0:St} {H1:Hp} {Q:VK} (h:Nat->V) (hl:z.length<=1000) (hD:H1 D=none)
  (he:∀ c ∈ z.cps.toList,∀ H' Q',zD H1 H'->(∀ H'',zD H' H''->Q' (h c) H'')->te (σ0.set t (some (.str ⟨#[c]⟩))) H' Q')
  (q:∀ H',zD H1 H'->H' D=some (.lst (z.cps.toList.map h))->Q (.ref D) H'):jI (Its z) (jh t) tYes te σ0 H1 Q D:=by
 refine comp_str (λi ys H'=>zD H1 H'/\ys=(z.cps.toList.take i).map h) ⟨zf hD _,O⟩ ?_ ?_
 ·rintro i ys H' c hc ⟨s1,rfl⟩ hD'
  have hi:i < z.cps.size:=(Cw.mp hc).1
  have hc':z.cps.toList[i]? = some c:=by simpa using hc
  have hs:z.cps.size=z.length:=rfl
  refine yes (he c (AJ hc') H' _ s1 λH'' s2=>?_)
  refine Q6 hi jj (s2 _ _ hD') (by rw[AB,Ai];exact zq (by lia)) ⟨λb o qb=>?_,?_⟩
  ·rw[zK (zL qb hD)]
   exact s2 b o (s1 b o qb)
  ·rw[take_snoc hc',AK]
   rfl
 ·rintro ys H' ⟨s1,rfl⟩ hD'
  rw[B8 (by simp)] at hD'
  exact q H' s1 hD'
def trues {α:Type} (as:List α):as.map (λ_=>V.bl true)=(as.map λ_=>true).map V.bl:=by rw[Ak];rfl
def XF {α:Type} (as:List α):(as.map λ_=>true).all id=true:=by
 rw[Al]
 intro x hx
 obtain⟨_,_,rfl⟩:=AI.mp hx
 rfl
def zD.rfl' {H:Hp}:zD H H:=λ_ _ h=>h
inductive Th where
 | non
 | bl (b:Bool)
 | int (i:Int)
 | str (x:Str)
 | lst
 | dct
 | tup (ts:List Th)
def tyTh:Th->Value
 | .non=>.type "NoneType"
 | .bl _=>.type "bool"
 | .int _=>.type "int"
 | .str _=>.type "str"
 | .lst=>.type "list"
 | .dct=>.type "dict"
 | .tup _=>.type "tuple"
def isStrB:Th->Bool
 | .str _=>true
 | _=>false
theorem yW {K:Fs} (t:Th):PySem.W.kitOne K (tyTh t) (.type "str")=some (isStrB t):=by cases t <;> first | rfl | exact Jh _
open Classical in
section
variable {X:Addr->Prop} {H0:Hp} {σ:St}
end
end L4
namespace L2
open PySem PySem.Spec PyProof.Rows
open Builtin
section
variable {X:Cx}
end
end L2
namespace L4
open PySem L2
section
variable {B:Th->Bool} {H0 H:Hp} {l:Addr} {n:Nat} {σ:St}
end
open PySem L2 PySem.StrLaws
end L4
namespace L2
open PySem PySem.Spec PyProof.Rows
open PySem PySem.Spec PyProof.Rows PySem.Builtin PySem.Builtin.Str
section
variable {X:Cx} {e:Expr} {es:List Expr} {te ta tb:TE} {t:TA} {pos:Pos} {a b:Expr} {st:Stmt} {rest:List Stmt} {ts us:TS}
end
section
variable {X:Cx}
def op_mulS:OpR X (binaryOp .Mult) (λx y H Q=>∃ (i:Str) (n:Int),x=.str i/\y=.int n/\0<=n/\n<=100/\i.length<=10/\Q (.str (Txt.mul i n)) H):=by
 intro pins s σ H x y v u Q I rx ry h
 obtain⟨i,n,rfl,rfl,n0,n1,il,q⟩:=h
 obtain⟨t,rfl⟩:=rx
 obtain⟨t',rfl⟩:=ry
 refine SB.mul ⟨by simp;lia,λh1 _=>?_,λh1 _=>?_⟩ λt' k=>⟨.str _,H,I.tok _,⟨_,O⟩,q⟩
 ·have h2:(2 ^ 63 - 1:Int) / 100<=(2 ^ 63 - 1) / n:=by
   rw[Int.le_ediv_iff_mul_le (by lia)]
   have h3:(2 ^ 63 - 1:Int) / 100 * n<=(2 ^ 63 - 1:Int) / 100 * 100:=Int.mul_le_mul_of_nonneg_left n1 (by decide)
   have h4:(2 ^ 63 - 1:Int) / 100 * 100<=2 ^ 63 - 1:=by decide
   lia
  have h5:(10:Int)<=(2 ^ 63 - 1:Int) / 100:=by decide
  lia
 ·have:i.length * n.toNat<=10 * 100:=D0 il (by lia)
  unfold tooLong sizeLine
  exact As (by lia)
end
end L2
namespace L4
open PySem L2 PySem.StrLaws
section
end
open PySem L2
section
variable {X:Addr->Prop} {H0 H:Hp} {σ:St} {B:Th->Bool} {l:Addr} {n:Nat}
end
section
end
section
variable {X:Addr->Prop} {H0:Hp} {σ:St} {K:Fs}
end
section
end
section
end
end L4
namespace L2
open PySem PySem.Spec PyProof.Rows
section
variable {X:Cx}
end
def iteDT {c A B:Prop} [Decidable c] (hc:decide c=true) (h:A):if decide c=true then A else B:=by rw[if_pos hc];exact h
def XG {c A B:Prop} [Decidable c] (hc:decide c=false) (h:B):if decide c=true then A else B:=by rw[if_neg (by rw[hc];exact AS)];exact h
end L2
namespace L4
open PySem L2
end L4
namespace Fr
end Fr
namespace PySem
open Sem (wp)
section
variable {prog:Program} {w:World} {A:Around} {E:Value->Shared->Prop} {s:Shared}
def wpAny_collect_range {Q:List Value->Shared->Prop} {it:Addr} {a b c:Int} {t u v:Tok} {n:Nat} (hh:A.handled=none) (hr:IsRange s.heap it a b c t u v) (hsmall:Builtin.Range.small a b c=true)
  (hn:Builtin.Range.rangeSize a b c=n) (hlen:n<=2 ^ 24)
  (hQ:∀ h' tk (acc:Array Value),(∀ b o',s.heap.get? b=some o'->h'.get? b=some o')->ItemsOf (λi v=>∃ t,v=.int (a+i * c) t) acc n->Q acc.toList { s with heap:=h',toks:=tk }) :
  wpAny (model prog w) A (collect (.ref it)) Q E s:=by
 unfold collect
 refine AA (EJ (BG F.entry_proto_collect ?_))
 rw[A7 F.plain_proto_collect _]
 show wpAny _ A.in1 (newList [] >>= λl=>again (.builtin "list.__iadd__" ⟨[l,.ref it],[]⟩)) _ _ s
 refine AA (Ax ?_)
 refine AE ⟨Bb F.plain_list_iadd _,BG F.entry_list_iadd ?_⟩
 rw[A7 F.plain_list_iadd _]
 show wpAny _ A.in1 (Builtin.List.listExtendWith (.ref s.heap.objs.size) (.ref it) (.ref s.heap.objs.size)) _ _ _
 have hS:(s.heap.push { cls:=.type "list",data:=.seq ([]:List Value).toArray }).get? s.heap.objs.size=some { cls:=.type "list",data:=.seq #[] 0 }:=AN _ rfl
 have fin':∀ (s':Shared),(∃ h' tk acc c',s' = { s with heap:=h',toks:=tk }/\(∀ b o,b ≠ s.heap.objs.size->(s.heap.push { cls:=.type "list",data:=.seq ([]:List Value).toArray }).get? b=some o->h'.get? b=some o)/\h'.get? s.heap.objs.size=some { cls:=.type "list",dict:=none,data:=.seq acc c',slots:=#[] }/\ItemsOf (λi v=>∃ t,v=.int (a+i * c) t) acc n)->wpAny (model prog w) A (match Value.ref s.heap.objs.size with
   | Value.ref a=>do
    match (<- load a).data with
     | Data.seq xs _=>pure xs.toList
     | _=>unsupported "internal:collect"
   | _=>unsupported "internal:collect") Q E s':=by
  rintro s' ⟨h',tk,acc,c',rfl,kp,e,hacc⟩
  show wpAny _ A (load s.heap.objs.size >>= _) _ _ _
  refine AA (Eb e ?_)
  refine AE ?_
  exact hQ h' tk acc (λb o' hb=>kp b o' (AU (AO hb)) (AC _ hb)) hacc
 refine DH (wpAny_extend_range (A:=A) (R:=λr s'=>r=.ok (.ret (.ref s.heap.objs.size))/\∃ h' tk acc c',s' = { s with heap:=h',toks:=tk }/\(∀ b o,b ≠ s.heap.objs.size->(s.heap.push { cls:=.type "list",data:=.seq ([]:List Value).toArray }).get? b=some o->h'.get? b=some o)/\h'.get? s.heap.objs.size=some { cls:=.type "list",dict:=none,data:=.seq acc c',slots:=#[] }/\ItemsOf (λi v=>∃ t,v=.int (a+i * c) t) acc n)
  (s:={ s with heap:=s.heap.push { cls:=.type "list",data:=.seq ([]:List Value).toArray } }) hh (AC _ hr) hsmall hn hlen _ _ 0 hS λh' tk acc' c' k1 k2 k3=>⟨rfl,h',tk,acc',c',rfl,k1,k2,k3⟩) (λfin s' h=>?_) (λe s' h=>?_)
 ·cases fin with
  | done f=>
   obtain⟨e,h⟩:=h
   cases e
   exact fin' _ h
  | again c'=>exact⟨h.1,Ca h.2 λr s'' hr=>by obtain⟨rfl,hr⟩:=hr;exact fin' _ hr⟩
 ·exact absurd h.1 (by simp)
end
def meets_tuple_new_range (l:Addr) (a b c:Int) (t u v:Tok) (n:Nat) (hsmall:Builtin.Range.small a b c=true) (hn:Builtin.Range.rangeSize a b c=n) (hlen:n<=2 ^ 20) :
  Meets (Builtin.«tuple.__new__» ⟨[.type "tuple",.ref l],[]⟩)
   (λA R s=>A.handled=none/\IsRange s.heap l a b c t u v/\∀ (h':Heap) (tk:Nat) (acc:Array Value),(∀ b o',s.heap.get? b=some o'->h'.get? b=some o')->ItemsOf (λi v=>∃ t,v=.int (a+i * c) t) acc n->R (.ok (.ret (.ref h'.objs.size))) { s with heap:=h'.push { cls:=.type "tuple",data:=.seq acc },toks:=tk }):=
 .of_wp λprog w A R s h=>by
  obtain⟨hp,g,d,tk,os⟩:=s;obtain⟨hh,ht,h⟩:=h
  have hsub:=sub_tuple_self
  have hinit:=init_tuple_lookup
  have hmh:=madeHere_tuple
  have hT:Shared.TypeIs ⟨hp,g,d,tk,os⟩ (.ref l) "range":=⟨_,ht,rfl⟩
  wp_walk using B5 ht,Bw hT,wpAny_collect_range (A:=A.in1) hh ht hsmall hn (by lia)
  intro h' tk' acc hk hacc
  show wpAny _ _ (Builtin.Tuple.tupleExact acc.toList.toArray >>= λv=>ret v) _ _ _
  unfold Builtin.Tuple.tupleExact
  have hsz:acc.size<=sizeLine:=by rw[hacc.1];exact Aa hlen (by ac_rfl)
  refine AA (Ax ?_ (by show acc.toList.toArray.size<=sizeLine;simpa using hsz))
  refine AE ⟨_,O,?_⟩
  have e:acc.toList.toArray=acc:=by simp
  rw[e]
  exact h h' tk' acc hk hacc
section
variable {prog:Program} {w:World} {A:Around} {E:Value->Shared->Prop} {s:Shared}
def call_tuple_range {l:Addr} {a b c:Int} {t u v:Tok} {n:Nat} {Q:Value->Shared->Prop} (hh:A.handled=none) (hr:IsRange s.heap l a b c t u v) (hsmall:Builtin.Range.small a b c=true) (hn:Builtin.Range.rangeSize a b c=n) (hlen:n<=2 ^ 20)
  (h:∀ (h':Heap) (tk:Nat) (acc:Array Value),(∀ b o',s.heap.get? b=some o'->h'.get? b=some o')->ItemsOf (λi v=>∃ t,v=.int (a+i * c) t) acc n->Q (.ref h'.objs.size) { s with heap:=h'.push { cls:=.type "tuple",data:=.seq acc },toks:=tk }) :
  wpAny (model prog w) A (call (.type "tuple") [.ref l]) Q E s:=
 Ej F.called_tuple (by decide) (F.typeCall_tuple_1 _) (F.newCall_tuple_1 _) (λobj=>F.args_object_init_2 obj _) F.entry_tuple_new
  (meets_tuple_new_range l a b c t u v n hsmall hn hlen) ⟨hh,hr,λh' tk acc hk hacc=>⟨⟨_,AN _ rfl,rfl⟩,h h' tk acc hk hacc⟩⟩
end
end PySem
namespace PySem.SeqAt
open PySem
def wpAny_forRange {M:Model} {A:Around} {E:Value->Shared->Prop} {s:Shared} {β:Type} {a b:Nat} (f:Nat->β->Sem (ForInStep β)) (I:Nat->β->Shared->Prop) (Q:β->Shared->Prop)
  (turn:∀ i c s,a<=i->i < b->I i c s->wpAny M A (f i c) (λr s'=>match r with | .yield c'=>I (i+1) c' s' | .done c'=>Q c' s') E s)
  (fin:∀ c s,I (max a b) c s->Q c s) (c:β) (h:I a c s):wpAny M A (forIn [a:b] c f) Q E s:=by
 rw[Std.Legacy.Range.forIn_eq_forIn_range']
 have hsz:([a:b]:Std.Legacy.Range).size=b - a:=by simp[Std.Legacy.Range.size]
 show wpAny M A (forIn (List.range' a ([a:b]:Std.Legacy.Range).size 1) c f) Q E s
 rw[hsz]
 refine wpAny_forIn_list f (λl c st=>∃ i,a<=i/\i<=max a b/\l=List.range' i (max a b - i) 1/\I i c st) Q ?_ ?_ _ c ⟨a,AM _,by lia,by congr 1;lia,h⟩
 ·rintro x rest c st ⟨i,hai,hib,hl,hI⟩
  have hlt:i < max a b:=by
   rcases Dr i (max a b) with h' | h'
   ·exact h'
   ·rw[show max a b - i=0 by lia] at hl;simp at hl
  obtain⟨n,hn⟩:∃ n,max a b - i=n+1:=⟨max a b - i - 1,by lia⟩
  rw[hn,List.range'_succ] at hl
  obtain⟨rfl,rfl⟩:=List.cons.inj hl
  refine DH (turn x c st hai (by lia) hI) (λr st' h'=>?_) λ_ _ h'=>h'
  cases r with
  | done c'=>exact h'
  | yield c'=>exact⟨x+1,by lia,by lia,by congr 1;lia,h'⟩
 ·rintro c st ⟨i,hai,hib,hl,hI⟩
  have:i=max a b:=by
   rcases Dr i (max a b) with h' | h'
   ·obtain⟨n,hn⟩:∃ n,max a b - i=n+1:=⟨max a b - i - 1,by lia⟩
    rw[hn,List.range'_succ] at hl
    cases hl
   ·lia
  rw[this] at hI
  exact fin c st hI
def tuple_indexAt (l:Addr) (items:Array Value) (n:Nat) (dd:Option Addr) (sl:Array (Option Value)) (x:Value) (e:Value->Bool) (j:Nat) (hj:j < items.size)
  (hit:e items[j]=true) (hno:∀ m (hm:m < items.size),m < j->e items[m]=false) :
  Meets (Builtin.«tuple.index» ⟨[.ref l,x],[]⟩)
   (λA R s=>s.heap.get? l=some { cls:=.type "tuple",dict:=dd,data:=.seq items n,slots:=sl }/\(∀ y,y ∈ items->EqAt A.in1 s y x (e y))/\R (.ok (.ret (.int j s.toks))) { s with toks:=s.toks+1 }):=
 .of_wp λprog w A R s h=>by
  obtain⟨hp,g,d,tk,os⟩:=s;obtain⟨hl,he,h⟩:=h
  wp_walk using B5 hl,wpAny_forRange _ (λi c s'=>c=(none,())/\s'=⟨hp,g,d,tk,os⟩/\i<=j) _
  case turn=>
   rintro i c s' hi1 hi2 ⟨rfl,rfl,hij⟩
   have hi:i < items.size:=by lia
   rw[Bv hi]
   refine AA (he _ (Array.getElem_mem hi) prog w _ _ ?_)
   rcases Dr i j with h' | h'
   ·rw[hno i hi h']
    wp_walk
    exact⟨O,O,h'⟩
   ·have e1:i=j:=by lia
    subst e1
    rw[hit]
    wp_walk
    exact⟨_,O,h⟩
  case fin=>
   rintro c s' ⟨rfl,rfl,hij⟩
   lia
  case h=>
   exact⟨O,O,BA _⟩
end PySem.SeqAt
namespace L2
open PySem PySem.Spec PyProof.Rows
def XH {ns:List Int} {us:List Value} (h:IntsAre us ns):qF (ns.map V.int) us:=by
 induction h with
 | nil=>exact .nil
 | cons n t _ ih=>exact .cons ⟨t,O⟩ ih
theorem We:∀ {xs:List V} {us:List Value},xs.length=us.length->(∀ (i:Nat) x u,xs[i]? = some x->us[i]? = some u->RelV x u)->qF xs us
 | [],[],_,_=>.nil
 | [],_ :: _,h,_=>by cases h
 | _ :: _,[],h,_=>by cases h
 | x :: xs,u :: us,h,k=>.cons (k 0 x u rfl rfl) (We (by simpa using h) λi y v a b=>k (i+1) y v (by simpa using a) (by simpa using b))
def xr {n:Nat} {acc:Array Value} (h:ItemsOf (λi v=>∃ t,v=.int (0+i * 1) t) acc n):qF ((List.range n).map λ(i:Nat)=>V.int (i:Int)) acc.toList:=by
 refine We (by rw[AB,AZ];simpa using h.1.symm) λi x u hx hu=>?_
 rw[AH] at hx
 obtain⟨j,hj,rfl⟩:=AW.mp hx
 have ej:j=i:=by
  have:=AF.mp hj
  obtain⟨_,e⟩:=this
  rw[List.getElem_range] at e
  exact e.symm
 subst ej
 obtain⟨t,e⟩:=h.2 j u (by simpa using hu)
 rw[e,BS,Int.mul_one]
 exact⟨t,O⟩
section
variable {X:Cx}
def rIndexT:V->List V->Hp->VK->Prop:=λx vs H Q=>∃ p xs y j,x=.ref p/\vs=[y]/\H p=some (.tup xs)/\ju y=true/\xs.all ju=true/\(∃ v,xs[j]? = some v/\eqV v y=true)/\(∀ m v,m < j->xs[m]? = some v->eqV v y=false)/\Q (.int (j:Nat)) H
def XI:MtR X "tuple.index" rIndexT:=by
 intro pins s σ H x vs v us Q I rx rv h
 obtain⟨p,xs,y,j,rfl,rfl,hq,fy,fx,⟨vj,hj,ej⟩,hno,q⟩:=h
 cases rx
 obtain⟨u,rfl,ru⟩:=vals1 rv
 obtain⟨_,its,r,o,e,hc,⟨n,hd⟩,_⟩:=I.hok p _ hq
 obtain⟨c,d,dt,sl⟩:=o
 cases hc
 cases hd
 have hlen:=r.length
 have at_:∀ m (hm:m < its.toArray.size),∃ v,xs[m]? = some v/\eqU y its.toArray[m]=eqV v y:=λm hm=>by
  have hm':m < xs.length:=by
   rw[hlen]
   simpa using hm
  have k1:xs[m]? = some xs[m]:=AD hm'
  obtain⟨w,e1,r1⟩:=r.get k1
  have w1:its.toArray[m]=w:=by
   have g1:m < its.length:=by simpa using hm
   rw[AD g1] at e1
   simpa using AR e1
  refine⟨_,k1,?_⟩
  rw[w1]
  exact YK r1 (Al.mp fx _ (AJ k1))
 have hjl:j < its.toArray.size:=by
  have:=(AF.mp hj).1
  simp
  lia
 refine DW F.slot_tuple_index ⟨_,e,O⟩ F.entry_tuple_index (F.args_tuple_index_2 _ _) (SeqAt.tuple_indexAt p its.toArray n d sl u (eqU y) j hjl ?_ ?_) ⟨e,λw hw=>Zi ru fy r fx w (by simpa using hw),⟨.int _,H,I.tok _,⟨_,O⟩,q⟩⟩
 ·obtain⟨v,e1,e2⟩:=at_ j hjl
  rw[hj] at e1
  cases e1
  rw[e2]
  exact ej
 ·intro m hm hmj
  obtain⟨v,e1,e2⟩:=at_ m hm
  rw[e2]
  exact hno m v hmj e1
def tRng (ta:TA):TE:=λσ H Q=>ta σ H λvs H1=>∃ j:Int,vs=[.int j]/\∀ p,H1 p=none->Q (.ref p) (upd H1 p (.rng 0 j))
def XJ {a:Expr} {ta:TA} {p pos:Pos} (hg:Gl X "range") (hm:X.mg "range" = none) (ha:PA X [a] ta) (hs:starEach [a] X.env=[(false,eval a X.env)]:=by rfl):PE X (.Call (.Name "range" p) [a] [] pos) (tRng ta):=by
 intro pins s σ H Q I h
 refine Call_ (Zx I hg hm boot_range (BC (thn (ha pos pins s σ H _ I h) λus s1 ⟨vs,H1,I1,r1,q1⟩=>?_) hs rfl))
 obtain⟨j,e,q⟩:=q1
 subst e
 cases r1 with
 | cons r rr=>
  cases rr
  obtain⟨t,rfl⟩:=r
  refine call_range_1 ⟨.ref s1.heap.objs.size,_,I1.laid (t':=_) (o:=.rng 0 j) (λb o q=>AC _ q) (AM _) ?_,O,q _ (I1.hok.fresh (AM _))⟩
  exact⟨_,_,_,AN _ rfl⟩
def QR (hc:X.calm=true):j6 X (.type "list") (λxs H Q=>∃ (p:Addr) (j:Int),xs=[.ref p]/\H p=some (.rng 0 j)/\0<=j/\j<=1000/\∀ l,H l=none->Q (.ref l) (upd H l (.lst ((List.range j.toNat).map λ(i:Nat)=>V.int (i:Int))))):=by
 intro pins s σ H xs us Q I r h
 obtain⟨p,j,rfl,hp,j0,j1,q⟩:=h
 obtain⟨u,rfl,rx⟩:=vals1 r
 cases rx
 obtain⟨t,u,v,e⟩:=I.hok p _ hp
 have hn:Builtin.Range.rangeSize 0 j 1=(j.toNat:Nat):=by rw[rangeSize_one];split <;> lia
 refine call_list_range (I.ok.hd hc) e (small_one (by lia) (by lia) (by lia) (by lia)) hn (by lia) λh' tk acc c' kp he hacc=>?_
 refine⟨.ref s.heap.objs.size,_,I.laid (t':=tk) (o:=.lst ((List.range j.toNat).map λ(i:Nat)=>V.int (i:Int))) kp (AM _) ?_,O,q _ (I.hok.fresh (AM _))⟩
 refine⟨by rw[AB,AZ];exact CN (zq (by lia)),acc.toList,c',?_,by simpa using he⟩
 exact xr hacc
def piOr {tg l:Expr} {w1 w2:TI} (h1:PI X tg l w1) (h2:PI X tg l w2):PI X tg l (λσ H R=>w1 σ H R\/w2 σ H R):=λpins s σ H R I h=>by
 rcases h with h | h
 ·exact h1 pins s σ H R I h
 ·exact h2 pins s σ H R I h
end
def Inv.changed {X:Cx} {pins:List (Addr×Obj)} {σ:St} {H:Hp} {s:Shared} {ch:List Addr} {h':Heap} {t':Nat} (I:Inv X pins σ H s) (hf:∀ b ∈ ch,YF X pins H b) (k:∀ c o,c ∉ ch->s.heap.get? c=some o->h'.get? c=some o):Inv X pins σ H { s with heap:=h',toks:=t' }:=by
 have nt:∀ b u,H b=some u->b ∉ ch:=λb u e hb=>by
  rw[(hf b hb).1] at e
  cases e
 have nl:X.env.locals ∉ ch:=λhb=>(hf _ hb).2.1 rfl
 refine I.step (g':=s.gens) (d':=s.drawn) (ch:=ch) (λb hb=>⟨(hf b hb).2.2.2.1,(hf b hb).2.1,(hf b hb).2.2.2.2.1,(hf b hb).2.2.2.2.2⟩) (λb o _ _ hc e _=>k b o hc e) (λb o _ _ hc e _=>⟨o.slots,k b o hc e⟩) (λ_ _ _ _ n=>n)
  (λb o hc e=>⟨o,k b o hc e⟩) (λ_ _ e=>e) (λ_ _ _ e=>e) (λb ps e=>⟨#[],by rw[e];simp⟩) (λm hm=>?_) (λb u e=>?_) I.bare
 ·obtain⟨o,es,ep,ho,r⟩:=hm
  exact⟨o,es,ep,k _ o nl ho,r⟩
 ·refine (I.hok b u e).stay (λc v hc q=>k c v ?_ q) (λ_ q=>q) λ_ _ q=>q
  rcases hc with z | z
  ·rw[z];exact nt b u e
  ·exact nt c _ z
def Ite (K : Fs) (a : Addr) : It :=
  ⟨λi H => ∃ xs x, SqL K H a xs /\ xs[i]? = some x,
   λi H v H' => ∃ T x, H T = none /\ v = .ref T /\ H' = upd H T (.tup [.int (i : Nat), x]) /\ ∀ xs, SqL K H a xs -> xs[i]? = some x,
   λi H => ∃ xs, SqL K H a xs /\ xs.length <= i⟩
def XL {P:Program} {w:World} {K:Fs} {elts:List Expr} {kk:Nat} {pos:Pos} {e it a:Addr} (hei:e ≠ it) :
  Turn P w K (.Tuple elts kk pos) (Ite K a) [e,it] e (λi h=>(∃ old,IsEnum h e it i old)/\h.IsListIter it a i) where
 mem:=by simp
 obj:=λi h st b hb=>by
  obtain⟨⟨old,u1⟩,⟨o4,u4,_,d4⟩⟩:=st
  simp only[List.mem_cons,List.not_mem_nil,or_false] at hb
  rcases hb with rfl | rfl
  ·exact⟨_,u1,λv zz=>by cases zz⟩
  ·exact⟨_,u4,λv zz=>by rw[d4] at zz;cases zz⟩
 keep:=λi h h' st k=>by
  obtain⟨⟨old,u1⟩,⟨o4,u4,r4⟩⟩:=st
  exact⟨⟨old,k _ (by simp) _ u1⟩,⟨o4,k _ (by simp) _ u4,r4⟩⟩
 item:=by
  intro X hP hw hK hc i pins s σ H E I hf st hg
  subst hP hw hK
  obtain⟨xs,x,hq,hx⟩:=hg
  obtain⟨⟨old,he⟩,hit⟩:=st
  obtain⟨its,rv,p,hz⟩:=I.list hq
  obtain⟨u,hu,ru⟩:=rv.get hx
  have elt:e < s.heap.objs.size:=AO he
  have ilt:it < s.heap.objs.size:=by
   obtain⟨o,x,_⟩:=hit
   exact AO x
  refine wpAny_pyNext_enum_item (s:=s) he hit p.isList (x:=u) (by simpa using hu) hei λh' ho hit' hT hsz hk=>⟨_,O,wpAny_letOwnedTupleGo_enum ho λh2 he' hs'=>?_⟩
  have k2:∀ c o,c ∉ [e,it]->s.heap.get? c=some o->h2.get? c=some o:=λc o hc q=>(hs'.2 c (λzz=>hc (by simp[zz]))).trans (hk c o (λzz=>hc (by simp[zz])) (λzz=>hc (by simp[zz])) q)
  have I1:Inv X pins σ H { s with heap:=h2,toks:=s.toks+1 }:=I.changed (t':=s.toks+1) hf k2
  have at2:h2.get? s.heap.objs.size=some { cls:=.type "tuple",data:=.seq #[.int i s.toks,u] }:=(hs'.2 _ (BD elt)).trans hT
  have Hn:H s.heap.objs.size=none:=I.hok.fresh (AM _)
  have I2:Inv X pins σ (upd H s.heap.objs.size (.tup [.int (i:Nat),x])) { s with heap:=h2,toks:=s.toks+1 }:=by
   refine I1.adopt Hn (C6 I.sz) (BD I.lt) (λxx cc e zz=>?_) (λp hp zz=>?_) ⟨by show 2<=sizeLine;decide,[.int i s.toks,u],.cons ⟨_,O⟩ (.cons ru .nil),⟨_,at2,O,⟨0,O⟩,O⟩⟩
   ·obtain⟨_,q⟩:=I.cell xx cc e
    exact absurd q.lt (by rw[zz];exact A1 _)
   ·exact absurd (AO (I.pin p hp).1) (by rw[zz];exact A1 _)
  refine⟨.ref s.heap.objs.size,_,I2,O,⟨_,x,Hn,O,O,λxs' h1=>?_⟩,⟨⟨_,by simpa using he'⟩,hit'.at λo y=>(hs'.2 it (Aw hei)).trans y⟩,λb hb=>?_⟩
  ·rw[I.list_inj h1 hq]
   exact hx
  ·have:b ≠ s.heap.objs.size:=by
    simp only[List.mem_cons,List.not_mem_nil,or_false] at hb
    rcases hb with rfl | rfl
    ·exact AU elt
    ·exact AU ilt
   rw[zK this]
   exact (hf b hb).1
 done:=by
  intro X hP hw hK hc i pins s σ H E I hf st hg
  subst hP hw hK
  obtain⟨xs,hq,hx⟩:=hg
  obtain⟨⟨old,he⟩,hit⟩:=st
  obtain⟨its,rv,p,hz⟩:=I.list hq
  have l1:=rv.length
  exact wpAny_pyNext_enum_end (I.ok.hd hc) he hit p.isList (by simp;lia) λh' eb=>⟨O,I.changed (t':=s.toks) (ch:=[it]) (λb hb=>hf b (by simp only[List.mem_cons,List.not_mem_nil,or_false] at hb ⊢;exact .inr hb)) λc o hc q=>eb c o (λzz=>hc (by simp[zz])) q⟩
 self:=λA i s Q E st h=>by
  obtain⟨⟨old,he⟩,_⟩:=st
  exact Dv he h
section
variable {X:Cx}
def Q1:bootBuiltins "enumerate" = some (.type "enumerate"):=by ac_rfl
def iEnum (K:Fs) (ta:TA):TI:=λσ H R=>ta σ H λvs H1=>∃ p xs,vs=[.ref p]/\SqL K H1 p xs/\R (Ite K p) H1
def kpi_enum (K:Fs) {elts:List Expr} {kk:Nat} {tpos:Pos} {a:Expr} {ta:TA} {p pos:Pos} (hg:Gl X "enumerate") (hm:X.mg "enumerate" = none) (ha:PA X [a] ta) (hs:starEach [a] X.env=[(false,eval a X.env)]:=by rfl) (hK:X.K=K:=by rfl) :
  PI X (.Tuple elts kk tpos) (.Call (.Name "enumerate" p) [a] [] pos) (iEnum K ta):=by
 subst hK
 intro pins s σ H R I h
 refine Call_ (Zx I hg hm Q1 (BC (thn (ha pos pins s σ H _ I h) λus s1 ⟨vs,H1,I1,r1,q1⟩=>?_) hs rfl))
 obtain⟨p1,xs,e,hq,q⟩:=q1
 subst e
 obtain⟨u1,rfl,r2⟩:=vals1 r1
 cases r2
 obtain⟨its,rv,pl,_⟩:=I1.list hq
 refine call_enumerate_list pl.isList λh' he hit hsz kp=>?_
 refine Dv he ?_
 have I2:Inv X pins σ H1 { s1 with heap:=h' }:=I1.kept (t':=s1.toks) kp
 refine⟨s1.heap.objs.size+1,[s1.heap.objs.size+1,s1.heap.objs.size],_,Ite X.K p1,H1,O,I2,XL (Nat.succ_ne_self _),⟨⟨_,he⟩,hit⟩,λb hb=>?_,q⟩
 simp only[List.mem_cons,List.not_mem_nil,or_false] at hb
 rcases hb with rfl | rfl
 ·exact I1.fpOk (CM _) (I1.hok.fresh (CM _))
 ·exact I1.fpOk (AM _) (I1.hok.fresh (AM _))
end
def XM {K:Fs} {a:Addr} {xs:List V} {tt:TT} {te:TE} {H1:Hp} {Q:VK} {D:Addr} {more:St} (P:Nat->List V->Hp->Prop) (h0:P 0 [] (upd H1 D (.lst [])))
  (hp:∀ i zs H,P i zs H->H D=some (.lst zs)->SqL K H a xs)
  (hs:∀ i zs H T x,xs[i]? = some x->P i zs H->H D=some (.lst zs)->H T=none->tt (some (.int (i:Nat)) :: some x :: more) (upd H T (.tup [.int (i:Nat),x])) λb H4=>if b=true then te (some (.int (i:Nat)) :: some x :: more) H4 (XA (λσ=>∃ x y,σ=x :: y :: more) P xs.length D (some (.int (i:Nat)) :: some x :: more) i) else cNo (λσ=>∃ x y,σ=x :: y :: more) P xs.length D (some (.int (i:Nat)) :: some x :: more) i H4)
  (hd:∀ zs H,P xs.length zs H->H D=some (.lst zs)->Q (.ref D) H) :
  jI (Ite K a) (gTup K 2 (Qg (jh 0) (Qg (jh 1) gNil))) tt te (none :: none :: more) H1 Q D:=by
 refine⟨cW (λσ=>∃ x y,σ=x :: y :: more) P xs.length D,⟨xs.length,(Dq _).symm,BA _,⟨_,_,O⟩,_,h0,ze⟩,?_⟩
 rintro i m σ' H' ⟨rfl,hi,⟨s1,s2,rfl⟩,zs,pp,hD⟩
 have q1:=hp i zs H' pp hD
 by_cases hlt:i < xs.length
 ·have k1:xs[i]? = some (xs.getD i .non):=by simp[List.getD,hlt]
  refine .inr ⟨⟨xs,_,q1,k1⟩,?_⟩
  rintro v H2 ⟨T,x,hT,rfl,rfl,hall⟩
  exact⟨T,_,O,SqT.of ze,O,_,_,O,_,_,O,O,hs i zs H' T x (hall xs q1) pp hD hT⟩
 ·have e:i=xs.length:=by lia
  subst e
  exact .inl ⟨⟨xs,q1,AM _⟩,hd zs H' pp hD⟩
def jK:bootBuiltins "sorted" = some (.builtin "sorted"):=by ac_rfl
end L2
namespace L4
open PySem L2
abbrev nV (i:Nat):V:=.int (i:Int)
def mul_len (x:Str) (n:Int):(Txt.mul x n).length<=x.length * n.toNat:=by
 unfold Txt.mul
 split
 ·exact BA _
 ·split
  ·rename_i h1 h2
   simp at h2
   rcases h2 with h2 | h2
   ·rw[h2]
    simp
   ·rw[h2]
    simp
  ·have aux:∀ (k:Nat) (a acc:Array Nat),((List.replicate k a).foldl (· ++ ·) acc).size=acc.size+k * a.size:=by
    intro k a
    induction k with
    | zero=>intro acc;simp
    | succ k ih=>
     intro acc
     rw[List.replicate_succ,CI,ih,Array.size_append,Bz]
     lia
   show ((List.replicate n.toNat x.cps).foldl (· ++ ·) #[]).size<=_
   rw[aux]
   simp
   rw[B0]
   exact AM _
end L4
namespace Tn
def place (m:Nat) (r:List Nat):Nat:=r.foldl (λp x=>p * m+x) 0
def place_snoc (m:Nat) (r:List Nat) (x:Nat):place m (r++[x])=place m r * m+x:=by
 unfold place
 rw[EO]
 rfl
def pls (m:Nat) (gs:List Nat):Nat->List Nat
 | 0=>[0]
 | k+1=>(pls m gs k).flatMap λp=>gs.map λg=>p * m+g
theorem flat_get {α β:Type} (f:α->List β) (b:Nat) (hf:∀ x,(f x).length=b):∀ (xs:List α) (i j:Nat) (x:α),xs[i]? = some x->j < b->(xs.flatMap f)[i * b+j]? = (f x)[j]?
 | [],i,j,x,h,_=>by simp at h
 | y :: ys,0,j,x,h,hj=>by
  have e:y=x:=by simpa using h
  subst e
  rw[B4,Nat.zero_mul,Nat.zero_add,List.getElem?_append_left (by rw[hf];exact hj)]
 | y :: ys,i+1,j,x,h,hj=>by
  have h':ys[i]? = some x:=by simpa using h
  have e:(i+1) * b+j=(f y).length+(i * b+j):=by rw[hf,Bz];lia
  rw[B4,e,Ep (by lia),Nat.add_sub_cancel_left]
  exact flat_get f b hf ys i j x h' hj
theorem flat_len {α β:Type} (f:α->List β) (b:Nat) (hf:∀ x,(f x).length=b):∀ (xs:List α),(xs.flatMap f).length=xs.length * b
 | []=>by simp
 | y :: ys=>by rw[B4,AL,hf,flat_len f b hf ys,Am,Bz];lia
theorem pls_len (m:Nat) (gs:List Nat):∀ k,(pls m gs k).length=gs.length ^ k
 | 0=>rfl
 | k+1=>by
  show ((pls m gs k).flatMap λp=>gs.map λg=>p * m+g).length=_
  rw[flat_len _ gs.length (λx=>by rw[AB]),pls_len m gs k,CK]
def Rw (m k:Nat) (r:List Nat):Prop:=r.length=k/\∀ x ∈ r,x < m
def place_lt {m:Nat}:∀ (k:Nat) (r:List Nat),Rw m k r->place m r < m ^ k:=by
 intro k
 induction k with
 | zero=>
  intro r h
  have:r=[]:=Bp.mp h.1
  subst this
  show 0 < m ^ 0
  rw[EL]
  decide
 | succ k ih=>
  intro r h
  obtain⟨h1,h2⟩:=h
  have hne:r ≠ []:=by intro z;rw[z] at h1;cases h1
  have e:=Eg hne
  have hr:Rw m k r.dropLast:=⟨by rw[D5,h1];rfl,λx hx=>h2 x ((List.dropLast_sublist r).subset hx)⟩
  have h3:=ih _ hr
  have h4:=h2 (r.getLast hne) (List.getLast_mem hne)
  rw[<- e,place_snoc,CK]
  have h5:(place m r.dropLast+1) * m<=m ^ k * m:=BM m h3
  rw[Bz] at h5
  lia
def row_of {m:Nat}:∀ (k p:Nat),p < m ^ k->∃ r,Rw m k r/\place m r=p:=by
 intro k
 induction k with
 | zero=>
  intro p hp
  have:p=0:=by simpa using hp
  exact⟨[],⟨O,λx hx=>by cases hx⟩,this.symm⟩
 | succ k ih=>
  intro p hp
  have hm:0 < m:=by
   rcases Dc m with z | z
   ·rw[z,CK,Nat.mul_zero] at hp
    lia
   ·exact z
  have hq:p / m < m ^ k:=by
   rw[Ck hm,<- CK]
   exact hp
  obtain⟨r,⟨h1,h2⟩,h3⟩:=ih (p / m) hq
  refine⟨r++[p % m],⟨by rw[AL,h1];rfl,λx hx=>?_⟩,?_⟩
  ·rcases AV.mp hx with h | h
   ·exact h2 x h
   ·rw[AG.mp h]
    exact BZ _ hm
  ·rw[place_snoc,h3,B0]
   exact DU p m
def pls_get {m:Nat} {gs:List Nat} (hg:gs.length=m):∀ (k:Nat) (r:List Nat),Rw m k r->(pls m gs k)[place m r]? = some (place m (r.map λx=>gs.getD x 0)):=by
 intro k
 induction k with
 | zero=>
  intro r h
  have:r=[]:=Bp.mp h.1
  subst this
  rfl
 | succ k ih=>
  intro r h
  obtain⟨h1,h2⟩:=h
  have hne:r ≠ []:=by intro z;rw[z] at h1;cases h1
  have e:=Eg hne
  have hr:Rw m k r.dropLast:=⟨by rw[D5,h1];rfl,λx hx=>h2 x ((List.dropLast_sublist r).subset hx)⟩
  have h3:=ih _ hr
  have h4:=h2 (r.getLast hne) (List.getLast_mem hne)
  rw[<- e,place_snoc,AK,Aj,DY,place_snoc]
  show ((pls m gs k).flatMap λp=>gs.map λg=>p * m+g)[_]? = _
  rw[flat_get _ m (λx=>by rw[AB,hg]) _ _ _ _ h3 h4,AH]
  have e2:gs[r.getLast hne]? = some (gs.getD (r.getLast hne) 0):=by
   rw[AQ,AD (by lia)]
   rfl
  rw[e2]
  rfl
structure Or (m:Nat) (o:List Nat):Prop where
 len:o.length=m
 lt:∀ x ∈ o,x < m
 nd:o.Nodup
def at' (o:List Nat) (i:Nat):Nat:=o.getD i 0
def Or.at_mem {m:Nat} {o:List Nat} (h:Or m o) {i:Nat} (hi:i < m):o[i]? = some (at' o i):=by
 unfold at'
 rw[AQ,AD (by rw[h.len];exact hi)]
 rfl
def Or.at_lt {m:Nat} {o:List Nat} (h:Or m o) {i:Nat} (hi:i < m):at' o i < m:=h.lt _ (AJ (h.at_mem hi))
theorem nodup_len:∀ (m:Nat) (xs:List Nat),xs.Nodup->(∀ x ∈ xs,x < m)->xs.length<=m
 | 0,[],_,_=>AM _
 | 0,x :: xs,_,h=>absurd (h x (Af ..)) (CG _)
 | m+1,xs,nd,h=>by
  have h1:=nodup_len m (xs.erase m) (nd.erase m) λx hx=>by
   obtain⟨ne,hm⟩:=nd.mem_erase_iff.mp hx
   have:=h x hm
   lia
  by_cases hm:m ∈ xs
  ·rw[C5 hm] at h1
   lia
  ·rw[List.erase_of_not_mem hm] at h1
   lia
def inv (m:Nat) (o:List Nat):List Nat:=(List.range m).map λi=>o.idxOf i
def Or.mem {m:Nat} {o:List Nat} (h:Or m o) {i:Nat} (hi:i < m):i ∈ o:=by
 refine Bu λhn=>?_
 have:=nodup_len m (i :: o) (BP.mpr ⟨hn,h.nd⟩) λx hx=>by
  rcases AX.mp hx with rfl | hx
  ·exact hi
  ·exact h.lt x hx
 rw[Am,h.len] at this
 lia
def inv_at {m:Nat} {o:List Nat} {i:Nat} (hi:i < m):at' (inv m o) i=o.idxOf i:=by
 unfold at' inv
 rw[AQ,AH,A2 hi]
 rfl
def Or.inv_l {m:Nat} {o:List Nat} (h:Or m o) {i:Nat} (hi:i < m):at' o (at' (inv m o) i)=i:=by
 rw[inv_at hi]
 have hm:=h.mem hi
 unfold at'
 rw[AQ,AD (BH hm),Cf]
 rfl
def Or.inv_lt {m:Nat} {o:List Nat} (h:Or m o) {i:Nat} (hi:i < m):at' (inv m o) i < m:=by
 rw[inv_at hi,<- h.len]
 exact BH (h.mem hi)
def Or.inv_r {m:Nat} {o:List Nat} (h:Or m o) {i:Nat} (hi:i < m):at' (inv m o) (at' o i)=i:=by
 rw[inv_at (h.at_lt hi)]
 have e:=h.at_mem hi
 have hl:i < o.length:=by rw[h.len];exact hi
 have e2:at' o i=o[i]:=by
  rw[AD hl] at e
  exact (AR e).symm
 rw[e2]
 exact h.nd.idxOf_getElem i hl
def inv_len (m:Nat) (o:List Nat):(inv m o).length=m:=by unfold inv;rw[List.length_map,List.length_range]
def Or.inv {m:Nat} {o:List Nat} (h:Or m o):Or m (inv m o):=by
 refine⟨inv_len m o,λx hx=>?_,?_⟩
 ·obtain⟨i,hi,e⟩:=AI.mp hx
  have:=h.inv_lt (Ab.mp hi)
  rw[inv_at (Ab.mp hi),e] at this
  exact this
 ·unfold Tn.inv
  rw[Eo,CO]
  refine List.Pairwise.imp_of_mem ?_ (Eo.mp EZ)
  intro a b ha hb ne e
  apply ne
  have h1:=h.inv_l (Ab.mp ha)
  have h2:=h.inv_l (Ab.mp hb)
  rw[inv_at (Ab.mp ha)] at h1
  rw[inv_at (Ab.mp hb)] at h2
  rw[<- h1,<- h2,e]
def tc (m:Nat) (o:List Nat) (k:Nat) (cs:List Nat):List Nat:=(pls m (inv m o) k).map λp=>at' o (at' cs p)
def tc_len (m:Nat) (o:List Nat) (k:Nat) (cs:List Nat):(tc m o k cs).length=m ^ k:=by
 unfold tc
 rw[AB,pls_len,inv_len]
def tc_at {m:Nat} {o:List Nat} {k:Nat} {cs:List Nat} {r:List Nat} (hr:Rw m k r):at' (tc m o k cs) (place m r)=at' o (at' cs (place m (r.map (at' (inv m o))))):=by
 have e:=pls_get (inv_len m o) k r hr
 unfold at' tc
 rw[AQ,AH,e]
 rfl
structure Cs (m k:Nat) (cs:List Nat):Prop where
 len:cs.length=m ^ k
 lt:∀ x ∈ cs,x < m
def Cs.at_lt {m k:Nat} {cs:List Nat} (h:Cs m k cs) {p:Nat} (hp:p < m ^ k):at' cs p < m:=by
 unfold at'
 rw[AQ,AD (by rw[h.len];exact hp)]
 exact h.lt _ (Cz _)
def Rw.map {m k:Nat} {r:List Nat} {f:Nat->Nat} (h:Rw m k r) (hf:∀ x,x < m->f x < m):Rw m k (r.map f):=⟨by rw[AB];exact h.1,λx hx=>by
 obtain⟨y,hy,e⟩:=AI.mp hx
 rw[<- e]
 exact hf y (h.2 y hy)⟩
def map_inv {m:Nat} {r:List Nat} {f g:Nat->Nat} (h:∀ x ∈ r,g (f x)=x):(r.map f).map g=r:=by
 rw[Ak]
 conv=>rhs;rw[<- List.map_id r]
 exact Bk λx hx=>h x hx
def tc_cs {m k:Nat} {o cs:List Nat} (h:Or m o) (c:Cs m k cs):Cs m k (tc m o k cs):=⟨tc_len ..,λx hx=>by
 obtain⟨i,hi⟩:=Cv hx
 have hl:i < m ^ k:=by
  have:=(AF.mp hi).1
  rw[tc_len] at this
  exact this
 obtain⟨r,hr,e⟩:=row_of k i hl
 have e2:at' (tc m o k cs) i=x:=by
  unfold at'
  rw[AQ,hi]
  rfl
 rw[<- e2,<- e,tc_at hr]
 exact h.at_lt (c.at_lt (place_lt k _ (hr.map λx hx=>h.inv_lt hx)))⟩
def tc_row {m k:Nat} {o cs r:List Nat} (h:Or m o) (hr:Rw m k r):at' (tc m o k cs) (place m (r.map (at' o)))=at' o (at' cs (place m r)):=by
 rw[tc_at (hr.map λx hx=>h.at_lt hx),map_inv (m:=m) λx hx=>h.inv_r (hr.2 x hx)]
def tw (m:Nat) (o ws:List Nat):List Nat:=(List.range m).filter λi=>decide (at' (inv m o) i ∈ ws)
theorem tw_mem {m:Nat} {o ws:List Nat} {i:Nat}:i ∈ tw m o ws ↔ i < m/\at' (inv m o) i ∈ ws:=by
 unfold tw
 rw[Bf,Ab,decide_eq_true_iff]
def sub_range {m:Nat} {ws:List Nat} (hs:ws.Pairwise (· < ·)) (hl:∀ x ∈ ws,x < m):(List.range m).filter (λi=>decide (i ∈ ws))=ws:=by
 have h1:((List.range m).filter (λi=>decide (i ∈ ws))).Pairwise (· < ·):=B2 _ Bg
 refine List.Perm.eq_of_pairwise (le:=(· < ·)) (λa b _ _ x y=>absurd x (Nat.lt_asymm y)) h1 hs ?_
 refine (Dd ?_ ?_).mpr λa=>?_
 ·exact h1.imp λh=>AU h
 ·exact hs.imp λh=>AU h
 ·rw[Bf,Ab,decide_eq_true_iff]
  exact⟨λh=>h.2,λh=>⟨hl a h,h⟩⟩
theorem tw_ris (m:Nat) (o ws:List Nat):(tw m o ws).Pairwise (· < ·):=B2 _ Bg
end Tn
namespace L2
open PySem PySem.Spec PyProof.Rows
section
variable {prog:Program} {w:World} {A:Around} {E:Value->Shared->Prop} {s:Shared}
variable {z TI TO i1 i2 t1 t2:Addr} {xs ys:Array Value} {k1 k2:Nat}
end
section
variable {X:Cx}
end
def ya {a:List V} (h:a.all ju=true):Wd a a=true:=by
 unfold Wd
 rw[BR]
 refine⟨?_,by simp⟩
 rw[Al]
 intro p hp
 have h1:=CH hp
 have e:p.1=p.2:=by
  obtain⟨i,hi⟩:=Cv hp
  rw[BJ] at hi
  exact AR (hi.1.symm.trans hi.2)
 rw[<- e]
 exact YS (Al.mp h _ h1.1)
theorem wG {α:Type} (d:α) (f:α->α->Bool):∀ (xs ys:List α),xs.length=ys.length->((List.range xs.length).all λj=>f (xs.getD j d) (ys.getD j d))=(xs.zip ys).all λp=>f p.1 p.2
 | [],[],_=>rfl
 | [],_ :: _,h=>by cases h
 | _ :: _,[],h=>by cases h
 | x :: xs,y :: ys,h=>by
  have ih:=wG d f xs ys (by simpa using h)
  rw[Am,DD,CW,Ci,Cd,CW,<- ih]
  rfl
def yM (H:Hp) (as:List (List V)) (xs:List V):Prop:=Paired (λa v=>∃ t,v=.ref t/\H t=some (.tup a)) as xs
def yM.same {H H':Hp} (s:zD H H') {as:List (List V)} {xs:List V} (h:yM H as xs):yM H' as xs:=by
 unfold yM at h ⊢
 induction h with
 | nil=>exact .nil
 | cons r _ ih=>
  obtain⟨t,e,h1⟩:=r
  exact .cons ⟨t,e,s _ _ h1⟩ ih
def yM.snoc {H:Hp} {as:List (List V)} {xs:List V} {a:List V} {t:Addr} (h:yM H as xs) (h1:H t=some (.tup a)):yM H (as++[a]) (xs++[.ref t]):=by
 unfold yM at h ⊢
 induction h with
 | nil=>exact .cons ⟨t,O,h1⟩ .nil
 | cons r _ ih=>exact .cons r ih
def yM.keep {H H':Hp} (s:∀ b xs,H b=some (.tup xs)->H' b=some (.tup xs)) {as:List (List V)} {xs:List V} (h:yM H as xs):yM H' as xs:=by
 unfold yM at h ⊢
 induction h with
 | nil=>exact .nil
 | cons r _ ih=>
  obtain⟨t,e,h1⟩:=r
  exact .cons ⟨t,e,s _ _ h1⟩ ih
def xt (as bs:List (List V)):Bool:=(as.zip bs).all (λp=>Wd p.1 p.2) && as.length == bs.length
section
variable {X:Cx}
def rNeLT (n:Nat):R2:=λx y H Q=>∃ p q as bs xs ys,x=.ref p/\y=.ref q/\H p=some (.lst xs)/\H q=some (.lst ys)/\yM H as xs/\yM H bs ys/\(∀ a ∈ as,a.length=n/\a.all ju=true)/\(∀ b ∈ bs,b.length=n/\b.all ju=true)/\Q (.bl (!xt as bs)) H
def op_neLT (n:Nat) {k:Nat} (hr:QP k X.A):OpR X (compareOp .NotEq) (rNeLT n):=by
 intro pins s σ H x y v u Q I rx ry h
 obtain⟨p,q,as,bs,xs,ys,rfl,rfl,hp,hq,ta,tb,fa,fb,hQ⟩:=h
 cases rx
 cases ry
 have hu:X.A.units+64 < cLine:=hr.units
 obtain⟨us,r1,pl1,_⟩:=I.list (SqL.of hp)
 obtain⟨vs,r2,pl2,_⟩:=I.list (SqL.of hq)
 have l1:=r1.length
 have l2:=r2.length
 have la:=A3 ta
 have lb:=A3 tb
 by_cases hz:as.length=bs.length
 ·refine SeqAt.RcNeAt.lists pl1.isList pl2.isList (e:=λj=>Wd (as.getD j []) (bs.getD j [])) (by simp;lia) (by lia) (λj h1 h2=>?_) X.prog X.w _ _ ⟨.bl _,H,I,O,?_⟩
  ·have g1:j < us.length:=by simpa using h1
   have g2:j < vs.length:=by simpa using h2
   have ja:as[j]? = some (as.getD j []):=by simp[List.getD,show j < as.length by lia]
   have jb:bs[j]? = some (bs.getD j []):=by simp[List.getD,show j < bs.length by lia]
   have jx:xs[j]? = some (xs.getD j .non):=by simp[List.getD,show j < xs.length by lia]
   have jy:ys[j]? = some (ys.getD j .non):=by simp[List.getD,show j < ys.length by lia]
   obtain⟨t,et,ht⟩:=Paired.at ta j _ _ ja jx
   obtain⟨t',et',ht'⟩:=Paired.at tb j _ _ jb jy
   obtain⟨u1,e1,q1⟩:=r1.get jx
   obtain⟨u2,e2,q2⟩:=r2.get jy
   rw[et] at q1
   rw[et'] at q2
   cases q1
   cases q2
   have w1:us.toArray[j]=.ref t:=by
    rw[AD g1] at e1
    simpa using AR e1
   have w2:vs.toArray[j]=.ref t':=by
    rw[AD g2] at e2
    simpa using AR e2
   rw[w1,w2]
   obtain⟨n1,f1⟩:=fa _ (AJ ja)
   obtain⟨n2,f2⟩:=fb _ (AJ jb)
   by_cases tt:t=t'
   ·subst tt
    have ee:=ht.symm.trans ht'
    have e3:as.getD j []=bs.getD j []:=by
     injection ee with e4
     injection e4
    show SeqAt.EqAt _ _ _ _ (Wd (as.getD j []) (bs.getD j []))
    rw[<- e3,ya f1]
    exact SeqAt.EqAt.same _
   ·obtain⟨_,us',v1,p1⟩:=I.hok t _ ht
    obtain⟨_,vs',v2,p2⟩:=I.hok t' _ ht'
    have m1:=v1.length
    have m2:=v2.length
    have z:=SeqAt.RcAt.tuples (A:=X.A.in1) (s:=s) p1.isTup p2.isTup (by show X.A.units+1 < cLine;lia) (YM v1 v2 f1 f2)
    have e:((List.range (min us'.toArray.size vs'.toArray.size)).all (λj'=>eqV ((as.getD j []).getD j' .non) ((bs.getD j []).getD j' .non)) && us'.toArray.size == vs'.toArray.size)=Wd (as.getD j []) (bs.getD j []):=by
     have z1:us'.toArray.size=(as.getD j []).length:=by rw[A0];exact m1.symm
     have z2:vs'.toArray.size=(bs.getD j []).length:=by rw[A0];exact m2.symm
     have e5:min us'.toArray.size vs'.toArray.size=(as.getD j []).length:=by rw[z1,z2,n1,n2,Nat.min_self]
     rw[e5,Jx _ _ (n1.trans n2.symm),z1,z2]
     rfl
    rw[e] at z
    exact SeqAt.EqAt.of_refs tt z
  ·have e:us.toArray.size=as.length:=by simp;lia
   rw[e,wG [] Wd as bs hz]
   unfold xt at hQ
   rw[hz] at hQ
   simpa using hQ
 ·refine SeqAt.RcNeAt.lists_lengths pl1.isList pl2.isList (by simp;lia) (by lia) X.prog X.w _ _ ⟨.bl _,H,I,O,?_⟩
  have e:xt as bs=false:=by
   unfold xt
   simp[hz]
  rw[e] at hQ
  exact hQ
end
def XN {K:Fs} {p q:Addr} {xs ys:List V} {n:Nat} {tt:TT} {te:TE} {H1:Hp} {Q:VK} {D:Addr} {more:St} (P:Nat->List V->Hp->Prop) (hn:n=min xs.length ys.length) (h0:P 0 [] (upd H1 D (.lst [])))
  (hp:∀ i zs H,P i zs H->H D=some (.lst zs)->SqL K H p xs/\SqL K H q ys)
  (hs:∀ i zs H T x y,xs[i]? = some x->ys[i]? = some y->i < n->P i zs H->H D=some (.lst zs)->H T=none->tt (some x :: some y :: more) (upd H T (.tup [x,y])) λb H4=>if b=true then te (some x :: some y :: more) H4 (XA (λσ=>∃ x y,σ=x :: y :: more) P n D (some x :: some y :: more) i) else cNo (λσ=>∃ x y,σ=x :: y :: more) P n D (some x :: some y :: more) i H4)
  (hd:∀ zs H,P n zs H->H D=some (.lst zs)->Q (.ref D) H) :
  jI (ItzK false K p q) (gTup K 2 (Qg (jh 0) (Qg (jh 1) gNil))) tt te (none :: none :: more) H1 Q D:=by
 refine⟨cW (λσ=>∃ x y,σ=x :: y :: more) P n D,⟨n,(Dq _).symm,BA _,⟨_,_,O⟩,_,h0,ze⟩,?_⟩
 rintro i m σ' H' ⟨rfl,hi,⟨s1,s2,rfl⟩,zs,pp,hD⟩
 obtain⟨q1,q2⟩:=hp i zs H' pp hD
 by_cases hlt:i < n
 ·have k1:xs[i]? = some (xs.getD i .non):=by simp[List.getD,show i < xs.length by lia]
  have k2:ys[i]? = some (ys.getD i .non):=by simp[List.getD,show i < ys.length by lia]
  refine .inr ⟨⟨xs,ys,_,_,q1,q2,k1,k2⟩,?_⟩
  rintro v H2 ⟨T,x,y,hT,rfl,rfl,hall⟩
  obtain⟨e1,e2⟩:=hall xs ys q1 q2
  exact⟨T,_,O,SqT.of ze,O,_,_,O,_,_,O,O,hs i zs H' T x y e1 e2 hlt pp hD hT⟩
 ·have e:i=n:=by lia
  subst e
  exact .inl ⟨⟨xs,ys,q1,q2,by lia⟩,hd zs H' pp hD⟩
end L2
namespace Tn
theorem pls_lt' {m:Nat} {gs:List Nat} (hl:∀ x ∈ gs,x < m):∀ (k:Nat),∀ p ∈ pls m gs k,p < m ^ k
 | 0,p,hp=>by
  have e:p=0:=by simpa [pls] using hp
  rw[e,EL]
  decide
 | k+1,p,hp=>by
  obtain⟨q,hq,hp⟩:=BW.mp hp
  obtain⟨g,hg,rfl⟩:=AI.mp hp
  have h1:=pls_lt' hl k q hq
  have h2:=hl g hg
  rw[CK]
  have h3:(q+1) * m<=m ^ k * m:=BM m h1
  rw[Bz] at h3
  lia
def rowsR (n:Nat):Nat->List (List Nat)
 | 0=>[[]]
 | 1=>(List.range n).map λi=>[i]
 | 2=>(List.range (n * n)).map λi=>[i / n,i % n]
 | _=>[]
theorem rows_rw {n:Nat}:∀ {k:Nat},∀ r ∈ rowsR n k,Rw n k r
 | 0,r,h=>by
  rw[AG.mp h]
  exact⟨O,λx hx=>by cases hx⟩
 | 1,r,h=>by
  obtain⟨i,hi,rfl⟩:=AI.mp h
  exact⟨O,λx hx=>by rw[AG.mp hx];exact Ab.mp hi⟩
 | 2,r,h=>by
  obtain⟨i,hi,rfl⟩:=AI.mp h
  have hi:=Ab.mp hi
  have mp:0 < n:=by
   rcases Dc n with z | z
   ·rw[z] at hi
    lia
   ·exact z
  refine⟨O,λx hx=>?_⟩
  rcases AX.mp hx with h | h
  ·rw[h]
   exact (Ck mp).mpr hi
  ·rw[AG.mp h]
   exact BZ _ mp
 | k+3,r,h=>by cases h
theorem rows_len {n:Nat}:∀ {k:Nat},k<=2->(rowsR n k).length=n ^ k
 | 0,_=>rfl
 | 1,_=>by
  show ((List.range n).map _).length=n ^ 1
  rw[AB,AZ,C9]
 | 2,_=>by
  show ((List.range (n * n)).map _).length=n ^ 2
  rw[AB,AZ,Nat.pow_two]
 | k+3,h=>by lia
def at_map {gs:List Nat} {i:Nat} (hi:i < gs.length):gs[i]? = some (at' gs i):=by
 unfold at'
 rw[AQ,AD hi]
 rfl
theorem pls_rows {m:Nat} {gs:List Nat}:∀ {k:Nat},k<=2->pls m gs k=(rowsR gs.length k).map λr=>place m (r.map (at' gs))
 | 0,_=>rfl
 | 1,_=>by
  show ([0].flatMap λp=>gs.map λg=>p * m+g)=((List.range gs.length).map λi=>[i]).map _
  rw[Ak]
  refine CP λi=>?_
  simp only[List.flatMap_cons,List.flatMap_nil,List.append_nil]
  rw[AH,AH]
  by_cases hi:i < gs.length
  ·rw[at_map hi,A2 hi]
   rfl
  ·rw[BB (by lia),BB (by rw[AZ];lia)]
   rfl
 | 2,_=>by
  have e1:pls m gs 1=gs.map λg=>0 * m+g:=by
   show ([0].flatMap λp=>gs.map λg=>p * m+g)=_
   simp
  show ((pls m gs 1).flatMap λp=>gs.map λg=>p * m+g)=((List.range (gs.length * gs.length)).map λi=>[i / gs.length,i % gs.length]).map _
  rw[Ak]
  refine CP λi=>?_
  rw[AH]
  have fl:((pls m gs 1).flatMap λp=>gs.map λg=>p * m+g).length=gs.length * gs.length:=by
   rw[flat_len _ gs.length (λx=>by rw[AB]),e1,AB]
  by_cases hi:i < gs.length * gs.length
  ·have np:0 < gs.length:=by
    rcases Dc gs.length with z | z
    ·rw[z] at hi
     lia
    ·exact z
   have h1:i / gs.length < gs.length:=(Ck np).mpr hi
   have h2:i % gs.length < gs.length:=BZ _ np
   have e2:(pls m gs 1)[i / gs.length]? = some (0 * m+at' gs (i / gs.length)):=by
    rw[e1,AH,at_map h1]
    rfl
   have e3:=flat_get (λp=>gs.map λg=>p * m+g) gs.length (λx=>by rw[AB]) (pls m gs 1) (i / gs.length) (i % gs.length) _ e2 h2
   have e4:i / gs.length * gs.length+i % gs.length=i:=by
    rw[B0]
    exact DU i gs.length
   rw[e4] at e3
   rw[e3,AH,at_map h2,A2 hi]
   rfl
  ·rw[BB (by lia),BB (by rw[AZ];lia)]
   rfl
 | k+3,h=>by lia
theorem zip_same {α β γ:Type} (f:α->β) (g:α->γ):∀ L:List α,(L.map f).zip (L.map g)=L.map λr=>(f r,g r)
 | []=>rfl
 | x :: L=>by
  rw[Aj,Aj,Aj,Cd,zip_same f g L]
def pw (n b:Nat) (ws us:List Nat):List Nat:=(List.range n).filter λp=>decide (p / b ∈ ws) && decide (p % b ∈ us)
def dw (b:Nat) (ws us:List Nat):List Nat:=ws.flatMap λf=>us.map λs=>f * b+s
def dw_mem {b:Nat} {ws us:List Nat} (hu:∀ x ∈ us,x < b) {p:Nat}:p ∈ dw b ws us ↔ p / b ∈ ws/\p % b ∈ us:=by
 unfold dw
 rw[BW]
 constructor
 ·rintro⟨f,hf,hp⟩
  obtain⟨s,hs,rfl⟩:=AI.mp hp
  have hb:=hu s hs
  have e1:(f * b+s) / b=f:=by
   rw[B0,Ee (by lia),EX hb,EM]
  have e2:(f * b+s) % b=s:=by
   rw[B0,Ed,EW hb]
  rw[e1,e2]
  exact⟨hf,hs⟩
 ·rintro⟨h1,h2⟩
  refine⟨_,h1,AI.mpr ⟨_,h2,?_⟩⟩
  rw[B0]
  exact DU p b
theorem dw_ris {b:Nat} {us:List Nat} (hu:∀ x ∈ us,x < b) (ru:us.Pairwise (· < ·)):∀ {ws:List Nat},ws.Pairwise (· < ·)->(dw b ws us).Pairwise (· < ·)
 | [],_=>.nil
 | w :: ws,h=>by
  obtain⟨h1,h2⟩:=Ce.mp h
  show ((us.map λs=>w * b+s)++dw b ws us).Pairwise (· < ·)
  rw[B1]
  refine⟨?_,dw_ris hu ru h2,λx hx y hy=>?_⟩
  ·rw[CO]
   exact ru.imp λhab=>by lia
  ·obtain⟨s,hs,rfl⟩:=AI.mp hx
   obtain⟨h3,h4⟩:=(dw_mem hu).mp hy
   have h5:=h1 _ h3
   have h6:=hu s hs
   have h7:=DU y b
   have h8:(w+1) * b<=y / b * b:=BM b h5
   rw[Bz] at h8
   rw[B0] at h7
   lia
def pw_dw {a b:Nat} {ws us:List Nat} (rw':ws.Pairwise (· < ·)) (hw:∀ x ∈ ws,x < a) (ru:us.Pairwise (· < ·)) (hu:∀ x ∈ us,x < b):pw (a * b) b ws us=dw b ws us:=by
 have hl:∀ x ∈ dw b ws us,x < a * b:=λx hx=>by
  obtain⟨h1,h2⟩:=(dw_mem hu).mp hx
  have h3:=hw _ h1
  have h4:=hu _ h2
  have h5:=DU x b
  have h6:(x / b+1) * b<=a * b:=BM b h3
  rw[Bz] at h6
  rw[B0] at h5
  lia
 rw[<- sub_range (dw_ris hu ru rw') hl]
 unfold pw
 refine List.filter_congr λp hp=>?_
 rw[<- Bool.decide_and]
 exact decide_eq_decide.mpr (dw_mem hu).symm
def fsts (n b:Nat):List Nat:=(List.range n).map λp=>p / b
def snds (n b:Nat):List Nat:=(List.range n).map λp=>p % b
def pc (n a b k:Nat) (cs ds:List Nat):List Nat:=((pls a (fsts n b) k).zip (pls b (snds n b) k)).map λz=>at' cs z.1 * b+at' ds z.2
def dc (n a b k:Nat) (cs ds:List Nat):List Nat:=(rowsR n k).map λr=>at' cs (place a (r.map (· / b))) * b+at' ds (place b (r.map (· % b)))
def fsts_len (n b:Nat):(fsts n b).length=n:=by unfold fsts;rw[List.length_map,List.length_range]
def snds_len (n b:Nat):(snds n b).length=n:=by unfold snds;rw[List.length_map,List.length_range]
def fsts_at {n b i:Nat} (h:i < n):at' (fsts n b) i=i / b:=by
 unfold at' fsts
 rw[AQ,AH,A2 h]
 rfl
def snds_at {n b i:Nat} (h:i < n):at' (snds n b) i=i % b:=by
 unfold at' snds
 rw[AQ,AH,A2 h]
 rfl
def pc_dc {n a b k:Nat} (hk:k<=2) (cs ds:List Nat):pc n a b k cs ds=dc n a b k cs ds:=by
 unfold pc dc
 rw[pls_rows hk,pls_rows hk,fsts_len,snds_len,zip_same,Ak]
 refine Bk λr hr=>?_
 have h:=rows_rw r hr
 have e1:r.map (at' (fsts n b))=r.map (· / b):=Bk λx hx=>fsts_at (h.2 x hx)
 have e2:r.map (at' (snds n b))=r.map (· % b):=Bk λx hx=>snds_at (h.2 x hx)
 show at' cs (place a (r.map (at' (fsts n b)))) * b+at' ds (place b (r.map (at' (snds n b))))=_
 rw[e1,e2]
def div_lt' {a b x:Nat} (h:x < a * b):x / b < a:=by
 have bp:0 < b:=by
  rcases Dc b with z | z
  ·rw[z] at h
   lia
  ·exact z
 exact (Ck bp).mpr h
def dc_cs {a b k:Nat} {cs ds:List Nat} (hk:k<=2) (bp:0 < b) (hc:Cs a k cs) (hd:Cs b k ds):Cs (a * b) k (dc (a * b) a b k cs ds):=by
 refine⟨by unfold dc;rw[List.length_map,rows_len hk],λx hx=>?_⟩
 obtain⟨r,hr,rfl⟩:=AI.mp hx
 have h:=rows_rw r hr
 have h1:=hc.at_lt (place_lt k _ (Rw.map (m:=a) (k:=k) (r:=r.map (· / b)) (f:=id) ⟨by rw[AB];exact h.1,λx hx=>by
  obtain⟨y,hy,rfl⟩:=AI.mp hx
  exact div_lt' (h.2 y hy)⟩ λx hx=>hx))
 rw[List.map_id] at h1
 have h2:=hd.at_lt (place_lt k (r.map (· % b)) ⟨by rw[AB];exact h.1,λx hx=>by
  obtain⟨y,hy,rfl⟩:=AI.mp hx
  exact BZ _ bp⟩)
 have h3:(at' cs (place a (r.map (· / b)))+1) * b<=a * b:=BM b h1
 rw[Bz] at h3
 show at' cs (place a (r.map (· / b))) * b+at' ds (place b (r.map (· % b))) < a * b
 lia
end Tn
namespace L2
open PySem PySem.Spec PyProof.Rows
section
variable {X:Cx}
def kslT (K:Fs) (hK:X.K=K:=by rfl):SlR X (λx lo hi H Q=>rSlT K x lo hi H Q\/rSlTW K x lo hi H Q):=by
 subst hK
 exact sl_tup.or sl_tupW
end
def XO {K:Fs} {a:Addr} {n:Nat} {xs:List V} {ad:Nat->Addr} {v1 v2 v3:Nat->V} {tt:TT} {te:TE} {H1:Hp} {Q:VK} {D:Addr} {more:St} (P:Nat->List V->Hp->Prop) (h0:P 0 [] (upd H1 D (.lst []))) (hn:xs.length=n) (hx:∀ i,i < n->xs[i]? = some (.ref (ad i)))
  (hl:∀ i ys H,P i ys H->H D=some (.lst ys)->SqT K H a xs) (ht:∀ i ys H,i < n->P i ys H->SqT K H (ad i) [v1 i,v2 i,v3 i])
  (hs:∀ i ys H,i < n->P i ys H->H D=some (.lst ys)->tt (some (v1 i) :: some (v2 i) :: some (v3 i) :: more) H λb H4=>if b=true then te (some (v1 i) :: some (v2 i) :: some (v3 i) :: more) H4 (XA (λσ=>∃ x y z,σ=x :: y :: z :: more) P n D (some (v1 i) :: some (v2 i) :: some (v3 i) :: more) i) else cNo (λσ=>∃ x y z,σ=x :: y :: z :: more) P n D (some (v1 i) :: some (v2 i) :: some (v3 i) :: more) i H4)
  (hd:∀ ys H,P n ys H->H D=some (.lst ys)->Q (.ref D) H) :
  jI (Itt K a) (gTup K 3 (Qg (jh 0) (Qg (jh 1) (Qg (jh 2) gNil)))) tt te (none :: none :: none :: more) H1 Q D:=by
 refine ZW (xv:=λi=>.ref (ad i)) (st:=λi=>some (v1 i) :: some (v2 i) :: some (v3 i) :: more) (λσ=>∃ x y z,σ=x :: y :: z :: more) P ⟨_,_,_,O⟩ h0 (λi ys H hi p hD=>⟨⟨xs,_,hl i ys H p hD,hx i hi⟩,λx H2 y=>⟨y.1,?_⟩⟩) (λys H p hD=>⟨xs,hl _ ys H p hD,Nat.le_of_eq hn⟩)
  (λi ys σ' H K' hi r p k=>?_) hs hd
 ·have e:=y.2 xs (hl i ys H p hD)
  rw[hx i hi] at e
  exact (AR e).symm
 ·obtain⟨x,y,z,rfl⟩:=r
  exact⟨ad i,_,O,ht i ys H hi p,O,_,_,O,_,_,O,_,_,O,O,k⟩
def yc {prog:Program} {w:World} {A:Around} (hh:A.handled=none) (it l:Addr) (hne:l ≠ it) (items:Array Value) :
  Draws prog w A it [it,l] items.size (λi v=>items[i]? = some v) (λi h=>h.IsTupleIter it l i/\h.IsTuple l items) where
 live:=λi h st=>let ⟨⟨o,e,_⟩,_⟩:=st;⟨o,e⟩
 frame:=λi h h' st k=>by
  obtain⟨⟨o,e,r⟩,⟨o2,e2,r2⟩⟩:=st
  exact⟨⟨o,k it (by simp) _ e,r⟩,⟨o2,k l (by simp) _ e2,r2⟩⟩
 item:=λi s Q E hi st hQ=>by
  obtain⟨x,hx⟩:∃ x,items[i]? = some x:=⟨items[i],by simp[hi]⟩
  exact JA st.1 st.2 hx λh' a sb=>hQ x h' s.toks hx ⟨a,st.2.extBut sb.extBut hne⟩ sb
 done:=λs Q E st hE=>JB hh st.1 st.2 (by simp) λh' e a b=>hE h' e a b
def Z5 (l:Addr) (items:Array Value) (n:Nat) (dct:Option Addr) (sl:Array (Option Value)) :
  Meets (Builtin.«enumerate.__new__» ⟨[.type "enumerate",.ref l],[]⟩) (λ_ R s=>s.heap.get? l=some { cls:=.type "tuple",dict:=dct,data:=.seq items n,slots:=sl } /\
   R (.ok (.ret (.ref (s.heap.push { cls:=.type "tuple_iterator",data:=.fields #[.ref l,.int 0 0] }).objs.size)))
    { s with heap:=(s.heap.push { cls:=.type "tuple_iterator",data:=.fields #[.ref l,.int 0 0] }).push { cls:=.type "enumerate",data:=.fields #[.none,.bool false,.ref s.heap.objs.size,rawInt 0,.none,.none] } }):=
 .of_wp λprog w A R s h=>by
  obtain⟨hp,g,d,tk,os⟩:=s;obtain⟨hl,h⟩:=h
  have hsub:=sub_enumerate
  have hL:Heap.IsTuple (Shared.heap ⟨hp,g,d,tk,os⟩) l items:=⟨_,hl,rfl,n,rfl⟩
  wp_walk using B5 hl
  refine wpAny_stack_any λst=>AE ?_
  split
  ·rename_i c _ _ _ _ _
   cases (c == Value.type "enumerate")
   ·wp_walk using B5 hl,DG hL
    exact⟨_,O,h⟩
   ·wp_walk using B5 hl,DG hL
    exact⟨_,O,h⟩
  ·wp_walk using B5 hl,DG hL
   exact⟨_,O,h⟩
def Z6 {prog:Program} {w:World} {A:Around} {E:Value->Shared->Prop} {s:Shared} {l:Addr} {items:Array Value} {Q:Value->Shared->Prop} (hL:s.heap.IsTuple l items)
  (h:∀ h',IsEnum h' (s.heap.objs.size+1) s.heap.objs.size 0 .none->h'.IsTupleIter s.heap.objs.size l 0->h'.objs.size=s.heap.objs.size+2 ->
   (∀ b o,s.heap.get? b=some o->h'.get? b=some o)->Q (.ref (s.heap.objs.size+1)) { s with heap:=h' }) :
  wpAny (model prog w) A (call (.type "enumerate") [.ref l]) Q E s:=by
 obtain⟨⟨c,dct,dt,sl⟩,hl,hc,n,hd⟩:=hL
 replace hc:c=.type "tuple":=hc
 replace hd:dt=.seq items n:=hd
 subst hc hd
 refine Ej PySem.F.called_enumerate (by decide) (PySem.F.typeCall_enumerate_1 _) (PySem.F.newCall_enumerate_1 _) (λobj=>En obj _) PySem.F.entry_enumerate_new
  (Z5 l items n dct sl) ⟨hl,?_⟩
 have hz:(s.heap.push { cls:=.type "tuple_iterator",data:=.fields #[.ref l,.int 0 0] }).objs.size=s.heap.objs.size+1:=Bq ..
 show _/\_
 rw[hz]
 have he:IsEnum ((s.heap.push { cls:=.type "tuple_iterator",data:=.fields #[.ref l,.int 0 0] }).push
   { cls:=.type "enumerate",data:=.fields #[.none,.bool false,.ref s.heap.objs.size,rawInt 0,.none,.none] }) (s.heap.objs.size+1) s.heap.objs.size 0 .none:=by
  have:=AN (s.heap.push { cls:=.type "tuple_iterator",data:=.fields #[.ref l,.int 0 0] })
   (o:={ cls:=.type "enumerate",data:=.fields #[.none,.bool false,.ref s.heap.objs.size,rawInt 0,.none,.none] }) rfl
  rw[hz] at this;exact this
 refine⟨⟨_,he,O⟩,h _ he ⟨_,AC _ (AN _ rfl),O,O⟩ (by rw[Bq,hz]) λb o x=>AC _ (AC _ x)⟩
def Itet (K : Fs) (a : Addr) : It :=
  ⟨λi H => ∃ xs x, SqT K H a xs /\ xs[i]? = some x,
   λi H v H' => ∃ T x, H T = none /\ v = .ref T /\ H' = upd H T (.tup [.int (i : Nat), x]) /\ ∀ xs, SqT K H a xs -> xs[i]? = some x,
   λi H => ∃ xs, SqT K H a xs /\ xs.length = i⟩
def xu {P:Program} {w:World} {K:Fs} {elts:List Expr} {kk:Nat} {pos:Pos} {e it a:Addr} (hei:e ≠ it) (hai:a ≠ it) (hea:e ≠ a) :
  Turn P w K (.Tuple elts kk pos) (Itet K a) [e,it] e (λi h=>(∃ old,IsEnum h e it i old)/\h.IsTupleIter it a i) where
 mem:=by simp
 obj:=λi h st b hb=>by
  obtain⟨⟨old,u1⟩,⟨o4,u4,_,d4⟩⟩:=st
  simp only[List.mem_cons,List.not_mem_nil,or_false] at hb
  rcases hb with rfl | rfl
  ·exact⟨_,u1,λv zz=>by cases zz⟩
  ·exact⟨_,u4,λv zz=>by rw[d4] at zz;cases zz⟩
 keep:=λi h h' st k=>by
  obtain⟨⟨old,u1⟩,⟨o4,u4,r4⟩⟩:=st
  exact⟨⟨old,k _ (by simp) _ u1⟩,⟨o4,k _ (by simp) _ u4,r4⟩⟩
 item:=by
  intro X hP hw hK hc i pins s σ H E I hf st hg
  subst hP hw hK
  obtain⟨xs,x,hq,hx⟩:=hg
  obtain⟨⟨old,he⟩,hit⟩:=st
  obtain⟨its,rv,p,hz⟩:=I.tuple hq
  obtain⟨u,hu,ru⟩:=rv.get hx
  have elt:e < s.heap.objs.size:=AO he
  have ilt:it < s.heap.objs.size:=by
   obtain⟨o,x,_⟩:=hit
   exact AO x
  have hu':its.toArray[i]? = some u:=by simpa using hu
  have hil:i < its.toArray.size:=by
   rcases Dr i its.toArray.size with z | z
   ·exact z
   ·rw[Bs z] at hu';cases hu'
  refine wpAny_pyNext_enum_itemD (s:=s) (yc (A:=X.A.in1) (I.ok.hd hc) it a hai its.toArray) he ⟨hit,show s.heap.IsTuple a its.toArray from p⟩ hil hei (by simp[hei,hea]) λx' h' tk hP ho hit' hT hsz hk=>?_
  obtain rfl:x'=u:=AR (hP.symm.trans hu')
  refine⟨_,O,wpAny_letOwnedTupleGo_enum ho λh2 he' hs'=>?_⟩
  have k2:∀ c o,c ∉ [e,it]->s.heap.get? c=some o->h2.get? c=some o:=λc o hc q=>(hs'.2 c (λzz=>hc (by simp[zz]))).trans (hk c o (λzz=>hc (by simp[zz])) (λzz=>hc (by simp[zz])) q)
  have I1:Inv X pins σ H { s with heap:=h2,toks:=tk+1 }:=I.changed (t':=tk+1) hf k2
  have at2:h2.get? s.heap.objs.size=some { cls:=.type "tuple",data:=.seq #[.int i tk,x'] }:=(hs'.2 _ (BD elt)).trans hT
  have Hn:H s.heap.objs.size=none:=I.hok.fresh (AM _)
  have I2:Inv X pins σ (upd H s.heap.objs.size (.tup [.int (i:Nat),x])) { s with heap:=h2,toks:=tk+1 }:=by
   refine I1.adopt Hn (C6 I.sz) (BD I.lt) (λxx cc e zz=>?_) (λp hp zz=>?_) ⟨by show 2<=sizeLine;decide,[.int i tk,x'],.cons ⟨_,O⟩ (.cons ru .nil),⟨_,at2,O,⟨0,O⟩,O⟩⟩
   ·obtain⟨_,q⟩:=I.cell xx cc e
    exact absurd q.lt (by rw[zz];exact A1 _)
   ·exact absurd (AO (I.pin p hp).1) (by rw[zz];exact A1 _)
  refine⟨.ref s.heap.objs.size,_,I2,O,⟨_,x,Hn,O,O,λxs' h1=>?_⟩,⟨⟨_,by simpa using he'⟩,hit'.1.at λo y=>(hs'.2 it (Aw hei)).trans y⟩,λb hb=>?_⟩
  ·rw[I.tuple_inj h1 hq]
   exact hx
  ·have:b ≠ s.heap.objs.size:=by
    simp only[List.mem_cons,List.not_mem_nil,or_false] at hb
    rcases hb with rfl | rfl
    ·exact AU elt
    ·exact AU ilt
   rw[zK this]
   exact (hf b hb).1
 done:=by
  intro X hP hw hK hc i pins s σ H E I hf st hg
  subst hP hw hK
  obtain⟨xs,hq,hx⟩:=hg
  obtain⟨⟨old,he⟩,hit⟩:=st
  obtain⟨its,rv,p,hz⟩:=I.tuple hq
  have l1:=rv.length
  have hi:i=its.toArray.size:=by simp;lia
  subst hi
  exact wpAny_pyNext_enum_endD (yc (A:=X.A.in1) (I.ok.hd hc) it a hai its.toArray) he ⟨hit,show s.heap.IsTuple a its.toArray from p⟩ λh' eb=>⟨O,I.changed (t':=s.toks) (ch:=[it]) (λb hb=>hf b (by simp only[List.mem_cons,List.not_mem_nil,or_false] at hb ⊢;exact .inr hb)) λc o hc q=>eb c o (λzz=>hc (by simp[zz])) q⟩
 self:=λA i s Q E st h=>by
  obtain⟨⟨old,he⟩,_⟩:=st
  exact Dv he h
section
variable {X:Cx}
def iEnumT (K:Fs) (ta:TA):TI:=λσ H R=>ta σ H λvs H1=>∃ p xs,vs=[.ref p]/\SqT K H1 p xs/\R (Itet K p) H1
def JC (K:Fs) {elts:List Expr} {kk:Nat} {tpos:Pos} {a:Expr} {ta:TA} {p pos:Pos} (hg:Gl X "enumerate") (hm:X.mg "enumerate" = none) (ha:PA X [a] ta) (hs:starEach [a] X.env=[(false,eval a X.env)]:=by rfl) (hK:X.K=K:=by rfl) :
  PI X (.Tuple elts kk tpos) (.Call (.Name "enumerate" p) [a] [] pos) (iEnumT K ta):=by
 subst hK
 intro pins s σ H R I h
 refine Call_ (Zx I hg hm Q1 (BC (thn (ha pos pins s σ H _ I h) λus s1 ⟨vs,H1,I1,r1,q1⟩=>?_) hs rfl))
 obtain⟨p1,xs,e,hq,q⟩:=q1
 subst e
 obtain⟨u1,rfl,r2⟩:=vals1 r1
 cases r2
 obtain⟨its,rv,pl,_⟩:=I1.tuple hq
 have plt:p1 < s1.heap.objs.size:=PyProof.Rows.IsTup.lt pl
 refine Z6 (show s1.heap.IsTuple p1 its.toArray from pl) λh' he hit hsz kp=>?_
 refine Dv he ?_
 have I2:Inv X pins σ H1 { s1 with heap:=h' }:=I1.kept (t':=s1.toks) kp
 refine⟨s1.heap.objs.size+1,[s1.heap.objs.size+1,s1.heap.objs.size],_,Itet X.K p1,H1,O,I2,xu (Nat.succ_ne_self _) (AU plt) (BD (BF plt)),⟨⟨_,he⟩,hit⟩,λb hb=>?_,q⟩
 simp only[List.mem_cons,List.not_mem_nil,or_false] at hb
 rcases hb with rfl | rfl
 ·exact I1.fpOk (CM _) (I1.hok.fresh (CM _))
 ·exact I1.fpOk (AM _) (I1.hok.fresh (AM _))
end
def wH {K:Fs} {a:Addr} {xs:List V} {tt:TT} {te:TE} {H1:Hp} {Q:VK} {D:Addr} {more:St} (P:Nat->List V->Hp->Prop) (h0:P 0 [] (upd H1 D (.lst [])))
  (hp:∀ i zs H,P i zs H->H D=some (.lst zs)->SqT K H a xs)
  (hs:∀ i zs H T x,xs[i]? = some x->P i zs H->H D=some (.lst zs)->H T=none->tt (some (.int (i:Nat)) :: some x :: more) (upd H T (.tup [.int (i:Nat),x])) λb H4=>if b=true then te (some (.int (i:Nat)) :: some x :: more) H4 (XA (λσ=>∃ x y,σ=x :: y :: more) P xs.length D (some (.int (i:Nat)) :: some x :: more) i) else cNo (λσ=>∃ x y,σ=x :: y :: more) P xs.length D (some (.int (i:Nat)) :: some x :: more) i H4)
  (hd:∀ zs H,P xs.length zs H->H D=some (.lst zs)->Q (.ref D) H) :
  jI (Itet K a) (gTup K 2 (Qg (jh 0) (Qg (jh 1) gNil))) tt te (none :: none :: more) H1 Q D:=by
 refine⟨cW (λσ=>∃ x y,σ=x :: y :: more) P xs.length D,⟨xs.length,(Dq _).symm,BA _,⟨_,_,O⟩,_,h0,ze⟩,?_⟩
 rintro i m σ' H' ⟨rfl,hi,⟨s1,s2,rfl⟩,zs,pp,hD⟩
 have q1:=hp i zs H' pp hD
 by_cases hlt:i < xs.length
 ·have k1:xs[i]? = some (xs.getD i .non):=by simp[List.getD,hlt]
  refine .inr ⟨⟨xs,_,q1,k1⟩,?_⟩
  rintro v H2 ⟨T,x,hT,rfl,rfl,hall⟩
  exact⟨T,_,O,SqT.of ze,O,_,_,O,_,_,O,O,hs i zs H' T x (hall xs q1) pp hD hT⟩
 ·have e:i=xs.length:=by lia
  subst e
  exact .inl ⟨⟨xs,q1,O⟩,hd zs H' pp hD⟩
section
variable {κ:Type} [DecidableEq κ]
def jz (kvs:List (κ×V)) (k:κ):Option V:=(kvs.find? λkv=>decide (kv.1=k)).map (·.2)
def ZX (kvs:List (κ×V)) (k:κ) (v:V):List (κ×V):=
 if (kvs.any λkv=>decide (kv.1=k))=true then kvs.map (λkv=>if kv.1=k then (kv.1,v) else kv) else kvs++[(k,v)]
def qM {p:κ×V} {r:List (κ×V)} {k:κ} (e:p.1=k):jz (p :: r) k=some p.2:=by simp[jz,List.find?_cons,e]
def qI {p:κ×V} {r:List (κ×V)} {k:κ} (e:¬ p.1=k):jz (p :: r) k=jz r k:=by simp[jz,List.find?_cons,e]
theorem Qx (k:κ):∀ kvs:List (κ×V),(kvs.any λkv=>decide (kv.1=k))=(jz kvs k).isSome
 | []=>rfl
 | p :: r=>by
  rw[CV]
  by_cases e:p.1=k
  ·simp only[qM e,decide_eq_true e,Bool.true_or,Option.isSome_some]
  ·rw[qI e,As e,Bool.false_or];exact Qx k r
theorem YT (k j:κ) (y:V):∀ kvs:List (κ×V),jz (kvs.map λkv=>if kv.1=k then (kv.1,y) else kv) j=(jz kvs j).map λx=>if j=k then y else x
 | []=>rfl
 | p :: r=>by
  have ih:=YT k j y r
  rw[Aj]
  by_cases h:p.1=k
  ·rw[if_pos h]
   by_cases e:p.1=j
   ·rw[qM (p:=(p.1,y)) e,qM e,Dx,if_pos (e.symm.trans h)]
   ·rw[qI (p:=(p.1,y)) e,qI e,ih]
  ·rw[if_neg h]
   by_cases e:p.1=j
   ·rw[qM (p:=p) e,qM e,Dx,if_neg (λz=>h (e.trans z))]
   ·rw[qI (p:=p) e,qI e,ih]
theorem yd (k j:κ) (y:V):∀ kvs:List (κ×V),jz kvs k=none->jz (kvs++[(k,y)]) j=if j=k then some y else jz kvs j
 | [],_=>by
  by_cases e:k=j
  ·rw[if_pos e.symm];exact qM (p:=(k,y)) e
  ·rw[if_neg (λz=>e z.symm)];exact qI (p:=(k,y)) e
 | p :: r,hn=>by
  rw[List.cons_append]
  have hk:¬ p.1=k:=λz=>by rw[qM z] at hn;cases hn
  rw[qI hk] at hn
  have ih:=yd k j y r hn
  by_cases e:p.1=j
  ·rw[qM e,qM e,if_neg (λz=>hk (e.trans z))]
  ·rw[qI e,qI e,ih]
def Jj (kvs:List (κ×V)) (k j:κ) (y:V):jz (ZX kvs k y) j=if j=k then some y else jz kvs j:=by
 unfold ZX
 by_cases a:(kvs.any λkv=>decide (kv.1=k))=true
 ·rw[if_pos a,YT]
  rw[Qx] at a
  by_cases e:j=k
  ·obtain⟨x,hx⟩:=Option.isSome_iff_exists.mp a
   rw[if_pos e,e,hx,Dx,if_pos rfl]
  ·rw[if_neg e]
   cases jz kvs j with
   | none=>rfl
   | some x=>rw[Dx,if_neg e]
 ·rw[if_neg a]
  refine yd k j y kvs ?_
  rw[Qx] at a
  cases q:jz kvs k with
  | none=>rfl
  | some x=>rw[q] at a;exact (a rfl).elim
def Zm (kvs:List (κ×V)) (k:κ) (v:V):(ZX kvs k v).length<=kvs.length+1:=by
 unfold ZX
 split
 ·rw[AB];lia
 ·rw[AL,Am,List.length_nil];lia
def putK_new {kvs:List (κ×V)} {k:κ} (v:V) (h:jz kvs k=none):ZX kvs k v=kvs++[(k,v)]:=by
 unfold ZX
 rw[Qx,h]
 exact if_neg (by decide)
def Xb.isSome_eq {o:Option V} {u:Option Value} (r:Xb o u):o.isSome=u.isSome:=by
 cases o with
 | none=>cases u with
  | none=>rfl
  | some _=>exact (show False from r).elim
 | some _=>cases u with
  | none=>exact (show False from r).elim
  | some _=>rfl
def KV.val {kvs:List (κ×V)} {vs:List (κ×Value)} (r:KV kvs vs) (k:κ):Xb (jz kvs k) (valueAt vs k):=by
 unfold KV at r
 induction r with
 | nil=>exact True.intro
 | @cons p q ps qs h t ih=>
  obtain⟨h1,h2⟩:=h
  by_cases e:p.1=k
  ·have e':q.1=k:=h1.symm.trans e
   have b:valueAt (q :: qs) k=some q.2:=by simp[valueAt,List.find?_cons,e']
   rw[qM e,b];exact h2
  ·have e':¬ q.1=k:=λz=>e (h1.trans z)
   have b:valueAt (q :: qs) k=valueAt qs k:=by simp[valueAt,List.find?_cons,e']
   rw[qI e,b];exact ih
def KV.any {kvs:List (κ×V)} {vs:List (κ×Value)} (r:KV kvs vs) (k:κ):(kvs.any λkv=>decide (kv.1=k))=vs.any λkv=>decide (kv.1=k):=by
 unfold KV at r
 induction r with
 | nil=>rfl
 | cons h t ih=>rw[CV,CV,ih,h.1]
def KV.repl {kvs:List (κ×V)} {vs:List (κ×Value)} (r:KV kvs vs) (k:κ) {y:V} {u:Value} (ry:RelV y u) :
  KV (kvs.map λkv=>if kv.1=k then (kv.1,y) else kv) (vs.map λkv=>if kv.1=k then (kv.1,u) else kv):=by
 unfold KV at r ⊢
 induction r with
 | nil=>exact .nil
 | @cons p q ps qs h t ih=>
  rw[Aj,Aj]
  refine .cons ?_ ih
  obtain⟨h1,h2⟩:=h
  by_cases e:p.1=k
  ·rw[if_pos e,if_pos (h1.symm.trans e)];exact⟨h1,ry⟩
  ·rw[if_neg e,if_neg (λz=>e (h1.trans z))];exact⟨h1,h2⟩
def KV.put {kvs:List (κ×V)} {vs:List (κ×Value)} (r:KV kvs vs) (k:κ) {y:V} {u:Value} (ry:RelV y u):KV (ZX kvs k y) (stored vs k u):=by
 unfold ZX stored
 rw[r.any k]
 by_cases e:(vs.any λkv=>decide (kv.1=k))=true
 ·rw[if_pos e,if_pos e];exact r.repl k ry
 ·rw[if_neg e,if_neg e];exact Paired.snoc r ⟨rfl,ry⟩
def KV.length {kvs:List (κ×V)} {vs:List (κ×Value)} (r:KV kvs vs):kvs.length=vs.length:=A3 r
end
def yX {P:Program} {w:World} {k:Key} {u:Value} (r:RelV (kV k) u):(zW P w).is k u=true:=by
 cases k with
 | inl i=>obtain⟨t,e⟩:=(show ∃ t,u=Value.int i t from r);subst e;exact yO P w i t
 | inr x=>obtain⟨t,e⟩:=(show ∃ t,u=Value.str x t from r);subst e;exact yP P w x t
theorem ye {P:Program} {w:World}:∀ {ks:List Key} {us:List Value},qF (ks.map kV) us->ItemsAre (zW P w) ks us
 | [],_,r=>by rw[DY] at r;cases r;exact .nil
 | k :: ks,_,r=>by
  rw[Aj] at r
  cases r with
  | cons h t=>exact .cons (yX h) (ye t)
abbrev KT (H:Hp):List (List Key×V)->List (List Key×Addr×Value)->Prop:=Paired λp q=>p.1=q.1/\H q.2.1=some (.tup (p.1.map kV))/\RelV p.2 q.2.2
def KT.val {H:Hp} {kvs:List (List Key×V)} {xs:List (List Key×Addr×Value)} (r:KT H kvs xs) (k:List Key):Xb (jz kvs k) ((atKey xs k).map (·.2)):=by
 induction r with
 | nil=>exact True.intro
 | @cons p q ps qs h t ih=>
  obtain⟨h1,_,h2⟩:=h
  by_cases e:p.1=k
  ·have e':q.1=k:=h1.symm.trans e
   have b:atKey (q :: qs) k=some q.2:=by simp[atKey,List.find?_cons,e']
   rw[qM e,b];exact h2
  ·have e':¬ q.1=k:=λz=>e (h1.trans z)
   have b:atKey (q :: qs) k=atKey qs k:=by simp[atKey,List.find?_cons,e']
   rw[qI e,b];exact ih
def KT.repl {H:Hp} {kvs:List (List Key×V)} {xs:List (List Key×Addr×Value)} (r:KT H kvs xs) (k:List Key) {y:V} {u:Value} (ry:RelV y u) :
  KT H (kvs.map λkv=>if kv.1=k then (kv.1,y) else kv) (xs.map (putAt k u)):=by
 induction r with
 | nil=>exact .nil
 | @cons p q ps qs h t ih=>
  rw[Aj,Aj]
  refine .cons ?_ ih
  obtain⟨h1,h2,h3⟩:=h
  unfold putAt
  by_cases e:p.1=k
  ·rw[if_pos e,if_pos (h1.symm.trans e)];exact⟨h1,h2,ry⟩
  ·rw[if_neg e,if_neg (λz=>e (h1.trans z))];exact⟨h1,h2,h3⟩
def KT.put {H:Hp} {kvs:List (List Key×V)} {xs:List (List Key×Addr×Value)} (r:KT H kvs xs) (k:List Key) {b:Addr} {y:V} {u:Value} (hb:H b=some (.tup (k.map kV))) (ry:RelV y u) :
  KT H (ZX kvs k y) (storedH xs k b u):=by
 have e:(kvs.any λkv=>decide (kv.1=k))=(atKey xs k).isSome:=by
  rw[Qx,(r.val k).isSome_eq,EK]
 unfold ZX storedH
 rw[e]
 by_cases q:(atKey xs k).isSome=true
 ·rw[if_pos q,if_pos q];exact r.repl k ry
 ·rw[if_neg q,if_neg q];exact Paired.snoc r ⟨rfl,hb,ry⟩
def KT.keeps {H H':Hp} {kvs:List (List Key×V)} {xs:List (List Key×Addr×Value)} (r:KT H kvs xs) (ht:∀ b ys,H b=some (.tup ys)->H' b=some (.tup ys)):KT H' kvs xs:=
 Paired.mapP r λ_ _ z=>⟨z.1,ht _ _ z.2.1,z.2.2⟩
section
variable {P:Program} {w:World} {H:Hp} {h:Heap} {a:Addr}
def rd_of {u:HO} (ok:HOk P w H h) (e:Rd H a u):qO P w H h a u:=e.ok ok
def yY {kvs:List (Key×V)} (ok:HOk P w H h) (e:Rd H a (.dK kvs)):kvs.length<=sizeLine/\(a == sysModules)=false/\∃ vs,KV kvs vs/\h.DictOf (zW P w) a vs:=
 show qO P w H h a (.dK kvs) from rd_of ok e
def dk_of {kvs:List (Key×V)} (ok:HOk P w H h) (e:H a=some (.dK kvs)):kvs.length<=sizeLine/\(a == sysModules)=false/\∃ vs,KV kvs vs/\h.DictOf (zW P w) a vs:=yY ok (.inl e)
def wI {ks:List Key} (ok:HOk P w H h) (e:H a=some (.tup (ks.map kV))):(tupleKind (zW P w)).is h ks a:=by
 obtain⟨_,its,r,o,h1,h2,⟨n,h3⟩,_⟩:=(show qO P w H h a (.tup (ks.map kV)) from ok a _ e)
 exact⟨o,its.toArray,n,h1,h2,h3,by simpa using ye r⟩
def XQ {kvs:List (List Key×V)} (ok:HOk P w H h) (e:Rd H a (.dT kvs)):kvs.length<=sizeLine/\(a == sysModules)=false /\
  ∃ xs,KT H kvs xs/\h.DictOfH (tupleKind (zW P w)) a xs:=by
 obtain⟨z,y,xs,r,o,es,ep,h1,h2,h3,h4,h5⟩:=(show qO P w H h a (.dT kvs) from rd_of ok e)
 refine⟨z,y,xs,r,o,es,ep,h1,h2,h3,h4,λx hx=>?_,h5⟩
 have all:∀ {l:List (List Key×V)} {m:List (List Key×Addr×Value)},KT H l m->∀ x ∈ m,(tupleKind (zW P w)).is h x.1 x.2.1:=by
  intro l m q
  induction q with
  | nil=>intro x hx;exact nomatch hx
  | @cons p q ps qs hq t ih=>
   intro x hx
   rcases AX.mp hx with e | hx
   ·subst e
    exact wI ok (by rw[<- hq.1];exact hq.2.1)
   ·exact ih x hx
 exact all r x hx
def dt_of {kvs:List (List Key×V)} (ok:HOk P w H h) (e:H a=some (.dT kvs)):kvs.length<=sizeLine/\(a == sysModules)=false /\
  ∃ xs,KT H kvs xs/\h.DictOfH (tupleKind (zW P w)) a xs:=XQ ok (.inl e)
end
def Wf (H:Hp) (a:Addr) (y:V) (r:Option V):Prop:=
 (∃ kvs k,Rd H a (.dK kvs)/\y=kV k/\r=jz kvs k)\/∃ kvs k b,Rd H a (.dT kvs)/\y=.ref b/\H b=some (.tup (k.map kV))/\r=jz kvs k
def DPut (H:Hp) (a:Addr) (y v:V) (H':Hp):Prop:=
 (∃ kvs k,H a=some (.dK kvs)/\y=kV k/\kvs.length < sizeLine/\H'=upd H a (.dK (ZX kvs k v))) \/
 ∃ kvs k b,H a=some (.dT kvs)/\y=.ref b/\H b=some (.tup (k.map kV))/\kvs.length < sizeLine/\H'=upd H a (.dT (ZX kvs k v))
def Wf.k {H:Hp} {a:Addr} {kvs:List (Key×V)} {k:Key} (e:H a=some (.dK kvs)):Wf H a (kV k) (jz kvs k):=.inl ⟨kvs,k,.inl e,rfl,rfl⟩
def Wf.t {H:Hp} {a b:Addr} {kvs:List (List Key×V)} {k:List Key} (e:H a=some (.dT kvs)) (eb:H b=some (.tup (k.map kV))):Wf H a (.ref b) (jz kvs k):=.inr ⟨kvs,k,b,.inl e,rfl,eb,rfl⟩
def DPut.k {H:Hp} {a:Addr} {kvs:List (Key×V)} {k:Key} {v:V} (e:H a=some (.dK kvs)) (hl:kvs.length < sizeLine):DPut H a (kV k) v (upd H a (.dK (ZX kvs k v))):=.inl ⟨kvs,k,e,rfl,hl,rfl⟩
section
variable {X:Cx} {pins:List (Addr × Obj)} {σ:St} {H:Hp} {s:Shared} {a:Addr} {y v:V} {u r:Value} {o:Option V} {A:Around} {E:Value->Shared->Prop}
def Inv.big (I:Inv X pins σ H s):sysModules < s.heap.objs.size:=by
 have h:mainGlobals < s.heap.objs.size:=(I.mod.glob.keeps I.bk).lt
 exact DX (by decide) h
def XR {Q:Value->Shared->Prop} (hu:A.units+1 < cLine) (I:Inv X pins σ H s) (g:Wf H a y (some v)) (ry:RelV y u) (h:∀ w' s',Inv X pins σ H s'->RelV v w'->Q w' s') :
  wpAny (model X.prog X.w) A (getItem (.ref a) u) Q E s:=by
 rcases g with ⟨kvs,k,e,ey,l⟩ | ⟨kvs,k,b,e,ey,eb,l⟩
 ·subst ey
  obtain⟨z,hd,vs,rel,dd⟩:=yY I.hok e
  obtain⟨w',hw,rw'⟩:=Xb.some_of (v:=v) (o:=valueAt vs k) (by rw[l];exact rel.val k)
  exact wpAny_getItem_of (yX ry) dd.mapOf hw (h w' _ (I.tok _) rw')
 ·subst ey
  cases (show u=Value.ref b from ry)
  obtain⟨z,hd,xs,rel,dd⟩:=XQ I.hok e
  obtain⟨w',hw,rw'⟩:=Xb.some_of (v:=v) (o:=(atKey xs k).map (·.2)) (by rw[l];exact rel.val k)
  obtain⟨p,hp,hp2⟩:=AW.mp hw
  refine wpAny_getItem_heap (DI hu) (wI I.hok eb) dd hp ?_
  rw[hp2]
  exact h w' _ (I.tok _) rw'
def d_in {Q:Value->Shared->Prop} (hu:A.units+1 < cLine) (I:Inv X pins σ H s) (g:Wf H a y o) (ry:RelV y u) (h:∀ s',Inv X pins σ H s'->Q (.bool o.isSome) s') :
  wpAny (model X.prog X.w) A (compareOp .In u (.ref a)) Q E s:=by
 rcases g with ⟨kvs,k,e,ey,l⟩ | ⟨kvs,k,b,e,ey,eb,l⟩
 ·subst ey
  obtain⟨z,hd,vs,rel,dd⟩:=yY I.hok e
  refine wpAny_in_of (yX ry) hd dd.mapOf ?_
  rw[<- (rel.val k).isSome_eq,<- l]
  exact h _ (I.tok _)
 ·subst ey
  cases (show u=Value.ref b from ry)
  obtain⟨z,hd,xs,rel,dd⟩:=XQ I.hok e
  refine wpAny_in_heap (DI hu) (wI I.hok eb) hd dd ?_
  have q:=(rel.val k).isSome_eq
  rw[EK] at q
  rw[<- q,<- l]
  exact h _ (I.tok _)
def d_notIn {Q:Value->Shared->Prop} (hu:A.units+1 < cLine) (I:Inv X pins σ H s) (g:Wf H a y o) (ry:RelV y u) (h:∀ s',Inv X pins σ H s'->Q (.bool (!o.isSome)) s') :
  wpAny (model X.prog X.w) A (compareOp .NotIn u (.ref a)) Q E s:=by
 rcases g with ⟨kvs,k,e,ey,l⟩ | ⟨kvs,k,b,e,ey,eb,l⟩
 ·subst ey
  obtain⟨z,hd,vs,rel,dd⟩:=yY I.hok e
  refine wpAny_notIn_of (yX ry) hd dd.mapOf ?_
  rw[<- (rel.val k).isSome_eq,<- l]
  exact h _ (I.tok _)
 ·subst ey
  cases (show u=Value.ref b from ry)
  obtain⟨z,hd,xs,rel,dd⟩:=XQ I.hok e
  refine wpAny_notIn_heap (DI hu) (wI I.hok eb) hd dd ?_
  have q:=(rel.val k).isSome_eq
  rw[EK] at q
  rw[<- q,<- l]
  exact h _ (I.tok _)
def XS {h':Heap} {t':Nat} {ob:HO} (I:Inv X pins σ H s) (mu:Mut (H a)) (hs:Heap.SameBut a s.heap h') (he:∃ q,h'.get? a=some q) (new:qO X.prog X.w (upd H a ob) h' a ob) :
  Inv X pins σ (upd H a ob) { s with heap:=h',toks:=t' }:=
 I.write (x:=a) (e:=a) mu (.inl rfl) (λb q hb z=>(hs.2 b hb).trans z) he new
def dk_new {P:Program} {w:World} {H':Hp} {h':Heap} {kvs:List (Key×V)} {vs:List (Key×Value)} (z:kvs.length<=sizeLine) (hd:(a == sysModules)=false) (rel:KV kvs vs) (dd:h'.DictOf (zW P w) a vs) :
  qO P w H' h' a (.dK kvs):=⟨z,hd,vs,rel,dd⟩
def XT {H':Hp} {Q:Unit->Shared->Prop} (hu:A.units+1 < cLine) (I:Inv X pins σ H s) (g:DPut H a y v H') (ry:RelV y u) (rv:RelV v r) (h:∀ s',Inv X pins σ H' s'->Q () s') :
  wpAny (model X.prog X.w) A (setItem (.ref a) u r) Q E s:=by
 rcases g with ⟨kvs,k,e,ey,l,eH⟩ | ⟨kvs,k,b,e,ey,eb,l,eH⟩
 ·subst ey eH
  obtain⟨z,hd,vs,rel,dd⟩:=dk_of I.hok e
  have hz:vs.length<=sizeLine:=by rw[<- rel.length];exact z
  have hl:(ZX kvs k v).length<=sizeLine:=by have:=Zm kvs k v;lia
  refine wpAny_setItem_pairs (hsz:=hz) (yX ry) dd λh' dd' hs=>h _ ?_
  have he:∃ q,h'.get? a=some q:=let ⟨q,_,_,hq,_⟩:=dd';⟨q,hq⟩
  exact XS I (by rw[e];exact True.intro) hs he (dk_new hl hd (rel.put k rv) dd')
 ·subst ey eH
  cases (show u=Value.ref b from ry)
  obtain⟨z,hd,xs,rel,dd⟩:=dt_of I.hok e
  have hz:xs.length<=sizeLine:=by rw[<- A3 rel];exact z
  have hl:(ZX kvs k v).length<=sizeLine:=by have:=Zm kvs k v;lia
  refine wpAny_setItem_heap (hsz:=hz) (DI hu) (wI I.hok eb) dd λh' dd' hs=>h _ ?_
  obtain⟨q,es,ep,hq,h2,h3,h4,_,h5⟩:=dd'
  refine XS I (by rw[e];exact True.intro) hs ⟨q,hq⟩ ⟨hl,hd,_,(rel.put k eb rv).keeps λc ys ec=>?_,q,es,ep,hq,h2,h3,h4,h5⟩
  rw[zK (ne_of ec e (λz=>nomatch z))]
  exact ec
end
section
variable {X:Cx} {pins:List (Addr × Obj)} {σ:St} {H:Hp} {s:Shared} {a:Addr} {kvs:List (Key × V)} {k:Key} {u:Value} {A:Around} {E:Value->Shared->Prop}
def d_len {Q:Value->Shared->Prop} (I:Inv X pins σ H s) (e:Rd H a (.dK kvs)) (h:∀ t s',Inv X pins σ H s'->Q (.int kvs.length t) s'):wpAny (model X.prog X.w) A (call (.builtin "len") [.ref a]) Q E s:=by
 obtain⟨z,hd,vs,rel,dd⟩:=yY I.hok e
 refine call_len_dict hd dd (by rw[<- rel.length];rw[Dw] at z;lia) ?_
 rw[<- rel.length]
 exact h _ _ (I.tok _)
end
def NoSl (i:Expr):Prop:=∀ ov iv,subscripted i false ov iv=operate [ov,iv] (getItem ov iv)
def XU {prog:Program} {w:World} {A:Around} {E:Value->Shared->Prop} {s:Shared} {env:Env} {value slice:Expr} {pos:Pos} {T id:String} {Q:Value->Shared->Prop}
  (hl:typeLookup (.type T) "__getitem__" = pure (some (.builtin id))) (hs:NoSl slice)
  (h:wpAny (model prog w) A (eval value env) (λo s₁=>wpAny (model prog w) A (eval slice env) (λi s₂=>s₂.TypeIs o T/\wpAny (model prog w) A (getItem o i) Q E s₂) E s₁) E s) :
  wpAny (model prog w) A (eval (.Subscript value slice pos) env) Q E s:=by
 refine Subscript_ (DH h (λo s₁ h₁=>DH h₁ (λi s₂ h₂=>?_) λ_ _ x=>x) λ_ _ x=>x)
 obtain⟨hT,h₂⟩:=h₂
 unfold subscriptTail
 refine AA ?_
 rw[getitemInPython_of_ne hT.not_modules]
 refine AA (Ct hT hl ?_)
 have fin:wpAny (model prog w) A (subscripted slice false o i) (λr s₃=>wpAny (model prog w) A (letTemporaryGo value o r >>= λ_=>pure r) Q E s₃) E s₂:=by
  rw[hs o i]
  exact wpAny_operating (DH h₂ (λr s₃ h₃=>AA (wpAny_letTemporaryGo (AE h₃))) λ_ _ x=>x)
 first
  | exact AE (AA fin)
  | exact AA (AE (AA fin))
  | exact AA fin
def yZ {X:Cx} {pins:List (Addr×Obj)} {σ:St} {H:Hp} {s:Shared} {a:Addr} {y:V} {o:Option V} (I:Inv X pins σ H s) (g:Wf H a y o):s.TypeIs (.ref a) "dict":=by
 rcases g with ⟨kvs,k,e,_,_⟩ | ⟨kvs,k,b,e,_,_,_⟩
 ·obtain⟨_,_,vs,_,dd⟩:=yY I.hok e
  exact dd.typeIs
 ·obtain⟨_,_,xs,_,dd⟩:=XQ I.hok e
  exact dd.typeIs
def tDGet (td ty:TE):TE:=λσ H Q=>td σ H λx H1=>ty σ H1 λy H2=>∃ a v,x=.ref a/\Wf H2 a y (some v)/\Q v H2
section
variable {X:Cx} {o i e value:Expr} {pos pos' tpos:Pos} {td ty tv:TE}
def Wg (hu:X.A.units+1 < cLine) (ho:PE X o td) (hi:PE X i ty) (hs:NoSl i):PE X (.Subscript o i pos) (tDGet td ty):=by
 intro pins s σ H Q I h
 refine XU PySem.F.slot_dict_getitem.lookup hs (thn (ho pins s σ H _ I h) λu s1 ⟨x,H1,I1,rx,q1⟩=>thn (hi pins s1 σ H1 _ I1 q1) λiv s2 ⟨y,H2,I2,ry,a,v,ex,g,q2⟩=>?_)
 subst ex
 obtain rfl:u=Value.ref a:=rx
 exact⟨yZ I2 g,XR hu I2 g ry λw' s3 I3 rw'=>⟨v,H2,I3,rw',q2⟩⟩
end
def dk_empty {P:Program} {w:World} {H:Hp} (h:Heap) (hb:sysModules < h.objs.size):qO P w H (h.push { cls:=.type "dict",data:=.dict #[] }) h.objs.size (.dK []):=
 ⟨BA _,beq_eq_false_iff_ne.mpr (Aw (AU hb)),[],.nil,Heap.DictOf.new h⟩
def tDNewK:TE:=λ_ H Q=>∀ p,H p=none->Q (.ref p) (upd H p (.dK []))
section
variable {X:Cx} {pos:Pos}
def Wh:PE X (.Dict [] [] pos) tDNewK:=λpins s σ H Q I h=>
 wpAny_Dict_empty ⟨.ref s.heap.objs.size,_,I.laid (a:=s.heap.objs.size) (o:=.dK []) (t':=s.toks) (λ_ _ q=>AC _ q) (AM _) (dk_empty s.heap I.big),rfl,h _ (I.hok.fresh (AM _))⟩
end
section
variable {X:Cx} {pins:List (Addr × Obj)} {σ:St} {H:Hp} {s:Shared} {a:Addr} {y d:V} {u r:Value} {o:Option V} {A:Around} {E:Value->Shared->Prop}
end
section
end
section
variable {X:Cx} {pins:List (Addr × Obj)} {σ:St} {H:Hp} {s:Shared} {a:Addr} {kvs:List (Key × V)} {A:Around} {E:Value->Shared->Prop}
def d_copyOf {Q:Value->Shared->Prop} (I:Inv X pins σ H s) (e:Rd H a (.dK kvs)) (h:∀ p s',H p=none->Inv X pins σ (upd H p (.dK kvs)) s'->Q (.ref p) s'):wpAny (model X.prog X.w) A (call (.type "dict") [.ref a]) Q E s:=by
 obtain⟨z,hd,vs,rel,dd⟩:=yY I.hok e
 refine kt_call_dict hd dd (by rw[<- rel.length];exact z) λh' dd' hs=>?_
 refine h _ _ (I.hok.fresh (AM _)) (I.laid (a:=s.heap.objs.size) (o:=.dK kvs) (t':=s.toks) (λb q hq=>?_) (AM _) (dk_new z (beq_eq_false_iff_ne.mpr (Aw (AU I.big))) rel dd'))
 exact (hs.2 b (AU (AO hq))).trans (AC _ hq)
end
section
variable {X:Cx} {pins:List (Addr × Obj)} {σ:St} {H:Hp} {s:Shared} {a:Addr} {y:V} {u:Value} {A:Around} {E:Value->Shared->Prop}
end
def no_keys:typeLookup (.type "list") "keys" = pure none:=am_miss_of_fast (by ac_rfl)
def zN:plainId "dict.update.loop" = true:=by ac_rfl
def qG:entryFor table "dict.update.loop" = some Builtin.«dict.update.loop»:=entryFor_of_fast (by kernel_rfl)
def Q2:isSubtype (.type "AttributeError") (.type "AttributeError")=pure true:=by rw[B6];kernel_rfl
def keys_by {prog:Program} {w:World} {A:Around} {E:Value->Shared->Prop} {s:Shared} {a:Addr} {o:Obj} {xs:Array Value} {k:Nat} {t:Tok} {Q:Value->Shared->Prop}
  (hx:s.heap.get? a=some o) (hc:o.cls=.type "list") (hdat:o.data=.seq xs k) (hd:o.dict=none) (hA:A.handled=none)
  (h:∀ h' tk e,Heap.NewExcOf s.heap h' e "AttributeError" -> E (.ref e) { s with heap:=h',toks:=tk }) :
  wpAny (model prog w) A (getAttrBy (.ref a) (.str "keys" t) false) Q E s:=by
 obtain⟨c,dct,dat,sl⟩:=o
 simp only at hc hdat hd
 subst hc hdat hd
 obtain⟨hp,g,d,tk,os⟩:=s
 have hT:∀ tk',(⟨hp,g,d,tk',os⟩:Shared).TypeIs (.ref a) "list":=λ_=>⟨_,hx,rfl⟩
 have f1:=Q2
 have f3:=DN.lookup
 have f4:=DN.bind (.ref a)
 have f5:=am_list_getattr_none
 unfold getAttrBy
 repeat (any_goals (first | assumption | exact hT _ | ((with_reducible show wpAny _ _ (call (Value.builtin "list.__getattribute__") _ _) _ _ _);refine DW DN (hT _) am_entry_list_getattribute (PySem.F.args_list_getattribute_2 _ _) (meets_getattribute_miss_list a xs k sl "keys" _ no_keys (by decide) (by decide)) ⟨hx,hA,λh' tk' e hx'=>?_⟩) | wp_step))
 obtain⟨t',u',he⟩:=hx'.there
 show wpAny _ _ (getattributeRaised _ _ _ _ _ _ _) _ _ _
 unfold getattributeRaised
 repeat (any_goals (first | assumption | wp_step))
 exact h _ _ _ hx'.of
def JD {prog:Program} {w:World} {A:Around} {E:Value->Shared->Prop} {s:Shared} {a:Addr} {o:Obj} {xs:Array Value} {k:Nat} {Q:Option Value->Shared->Prop}
  (hx:s.heap.get? a=some o) (hc:o.cls=.type "list") (hdat:o.data=.seq xs k) (hd:o.dict=none) (hA:A.handled=none)
  (h:∀ h' tk,(∀ b ob,s.heap.get? b=some ob->h'.get? b=some ob)->Q none { s with heap:=h',toks:=tk }) :
  wpAny (model prog w) A (getAttr? (.ref a) "keys") Q E s:=by
 unfold getAttr? getAttrBy?
 refine AA (wpAny_mkText (AA (Bn (keys_by (s:={ s with toks:=s.toks+1 }) hx hc hdat hd hA λh' tk e ne=>?_))))
 obtain⟨kp,nw,ob,vs,he,h1,h2⟩:=ne
 refine AA (B3 (T := "AttributeError") (b:=true) ⟨ob,he,h1⟩ Q2 ?_)
 exact AE (h h' tk kp)
def putAll (kvs:List (Key×V)) (ps:List (Key×V)):List (Key×V):=ps.foldl (λacc p=>ZX acc p.1 p.2) kvs
section
variable {prog:Program} {w:World} {A:Around} {R:Result->Shared->Prop}
def Z8 (prog:Program) (w:World) (h:Heap) (v:Value) (k:Key) (x:Value):Prop:=∃ b key,v=.ref b/\h.IsTuple b #[key,x]/\(zW prog w).is k key=true
def Z8.keep {prog:Program} {w:World} {h h':Heap} {v x:Value} {k:Key} {b0:Addr} (p:Z8 prog w h v k x) (hs:∀ b o,b ≠ b0->h.get? b=some o->h'.get? b=some o) (hn:∀ o,h.get? b0=some o->o.cls ≠ .type "tuple"):Z8 prog w h' v k x:=by
 obtain⟨b,key,rfl,⟨o,e,c,r⟩,hk⟩:=p
 exact⟨b,key,O,⟨o,hs b o (λz=>by subst z;exact hn o e c) e,c,r⟩,hk⟩
def upd_loop (hh:A.handled=none) (D L it:Addr) (items:Array Value) (hDL:D ≠ L) (hDi:D ≠ it) (hLi:L ≠ it) (ps:List (Key×Value)) (hlen:ps.length=items.size) (hsz:ps.length<=sizeLine) :
  ∀ (n i:Nat) (s:Shared) (acc:List (Key×Value)),n+i=items.size->acc.length<=i->s.heap.IsListIter it L i->s.heap.IsList L items->s.heap.DictOf (zW prog w) D acc ->
  (∀ (j:Nat) (p:Key×Value) (v:Value),ps[j]? = some p->items[j]? = some v->Z8 prog w s.heap v p.1 p.2) ->
  (∀ h' tk,h'.DictOf (zW prog w) D ((ps.drop i).foldl (λ(acc:List (Key×Value)) (p:Key×Value)=>stored acc p.1 p.2) acc)->(∀ b o,b ≠ D->b ≠ it->s.heap.get? b=some o->h'.get? b=some o)->R (.ok (.ret .none)) { s with heap:=h',toks:=tk }) ->
  codeAny (model prog w) A (.builtin "dict.update.loop" ⟨[.ref D,.ref it,rawInt i,.none],[]⟩) R s:=by
 intro n
 induction n with
 | zero=>
  intro i s acc hn hacc hit hl hd hp hR
  refine BG qG ?_
  rw[A7 zN _]
  show wpAny _ A.in1 (pyNext (.ref it) >>= _) _ _ s
  refine AA (CQ (show A.in1.handled=none from hh) hit hl (by simp;lia) λh' eb=>?_)
  show wpAny _ _ (Builtin.Dict.addKeywords D [] >>= _) _ _ _
  refine AA (AE (AE (hR h' s.toks ?_ λb o _ h2 e=>eb b o h2 e)))
  rw[Dt (by lia)]
  exact hd.extBut eb hDi
 | succ n ih=>
  intro i s acc hn hacc hit hl hd hp hR
  have hi:i < items.size:=by lia
  obtain⟨v,hv⟩:∃ v,items[i]? = some v:=⟨items[i],by simp[hi]⟩
  obtain⟨p,hpi⟩:∃ p,ps[i]? = some p:=⟨ps[i]'(by lia),by rw[AD (by lia)]⟩
  refine BG qG ?_
  rw[A7 zN _]
  show wpAny _ A.in1 (pyNext (.ref it) >>= _) _ _ s
  refine AA (CD hit hl hv λh1 hit1 hs1=>?_)
  obtain⟨oi,hoi,hci,_⟩:=hit
  have hp1:∀ (j:Nat) (p:Key×Value) (v:Value),ps[j]? = some p->items[j]? = some v->Z8 prog w h1 v p.1 p.2:=λj p v a b=>(hp j p v a b).keep (b0:=it) (λb o hb e=>hs1.extBut b o hb e) λo e=>by
   rw[hoi] at e;cases e;rw[hci];decide
  obtain⟨b,key,rfl,hb,hk⟩:=hp1 i p v hpi hv
  obtain⟨ot,e1,e2,nt,e3⟩:=id hb
  have hd1:=hd.extBut hs1.extBut hDi
  refine AA (BL (AA (wpAny_tryCatch ?_)))
  unfold Builtin.Dict.pairItems
  refine AA (Bw (T := "tuple") ⟨ot,e1,e2⟩ ?_)
  rw[if_pos (by decide)]
  refine AA (Bm e1 e3 (AE ?_))
  show wpAny _ _ (holding [key,p.2] (dictSet D key p.2)) _ _ _
  refine BL (wpAny_dictSet_pairs (hsz:=by lia) hk hd1 λh2 hd2 hs2=>?_)
  refine AE ⟨Bb zN _,?_⟩
  have hl1:h1.IsList L items:=hl.extBut hs1.extBut hLi
  have hle:(stored acc p.1 p.2).length<=i+1:=by
   unfold stored
   split
   ·rw[AB];lia
   ·rw[AL];simp;lia
  obtain⟨oD,_,_,hoD,hcD,_⟩:=hd1
  have:=ih (i+1) { s with heap:=h2,toks:=s.toks+1 } (stored acc p.1 p.2) (by lia) hle (hit1.extBut hs2.extBut (Aw hDi)) (hl1.extBut hs2.extBut (Aw hDL)) hd2 (λj p v a b=>(hp1 j p v a b).keep (b0:=D) (λb o hb e=>hs2.extBut b o hb e) λo e=>by
    rw[hoD] at e;cases e;rw[hcD.1];decide) λh' tk hd' hk'=>?_
  ·simpa using this
  ·refine hR h' tk ?_ λb o h1 h2 e=>hk' b o h1 h2 (hs2.extBut b o h1 (hs1.extBut b o h2 e))
   have e4:ps.drop i=p :: ps.drop (i+1):=by
    rw[AF] at hpi
    obtain⟨h5,h6⟩:=hpi
    rw[<- h6]
    exact CF h5
   rw[e4,CI]
   exact hd'
def JE {E:Value->Shared->Prop} {Q:Value->Shared->Prop} {s:Shared} {L:Addr} {o:Obj} {items:Array Value} {k:Nat} {ps:List (Key×Value)} (hh:A.handled=none) (hx:s.heap.get? L=some o) (hc:o.cls=.type "list") (hdat:o.data=.seq items k) (hdn:o.dict=none)
  (hlen:ps.length=items.size) (hsz:ps.length<=sizeLine) (hp:∀ (j:Nat) (p:Key×Value) (v:Value),ps[j]? = some p->items[j]? = some v->Z8 prog w s.heap v p.1 p.2)
  (h:∀ h' tk,h'.DictOf (zW prog w) s.heap.objs.size (ps.foldl (λ(acc:List (Key×Value)) (p:Key×Value)=>stored acc p.1 p.2) [])->(∀ b o,s.heap.get? b=some o->h'.get? b=some o)->Q (.ref s.heap.objs.size) { s with heap:=h',toks:=tk }) :
  wpAny (model prog w) A (call (.type "dict") [.ref L]) Q E s:=by
 refine callType_codes (Q₁:=λobj s₁=>obj=.ref s.heap.objs.size/\s₁ = { s with heap:=s.heap.push { cls:=.type "dict",data:=.dict #[] } }) PySem.F.kt_called_dict (Em _) PySem.F.entry_dict_init (kt_code_dict_new _ ⟨O,O⟩) ?_
 rintro obj s₁ ⟨rfl,rfl⟩
 have hnew:(s.heap.push { cls:=.type "dict",data:=.dict #[] }).DictOf (zW prog w) s.heap.objs.size []:=Heap.DictOf.new s.heap
 have hx1:=AC { cls:=.type "dict",data:=.dict #[] } hx
 have Llt:L < s.heap.objs.size:=AO hx
 refine⟨hnew.typeIs,PySem.F.args_dict_init_2 _ _,?_⟩
 unfold Builtin.«dict.__init__»
 refine AA ?_
 unfold Builtin.Dict.selfAndRest
 refine AA (EA hnew.typeIs ?_)
 show wpAny _ _ (pure (s.heap.objs.size,[Value.ref L])) _ _ _
 refine AE ?_
 show wpAny _ _ (Builtin.Dict.updateFrom "dict.__init__" s.heap.objs.size (.ref L) [] .none) _ _ _
 unfold Builtin.Dict.updateFrom
 refine AA (Bw (T := "list") ⟨o,hx1,hc⟩ ?_)
 rw[if_pos (by decide)]
 refine AA (JD hx1 hc hdat hdn (show A.in1.in1.handled=none from hh) λh' tk kp=>?_)
 rw[if_pos (by rfl)]
 have hL':h'.IsList L items:=⟨o,kp _ _ hx1,hc,k,hdat⟩
 refine AA (Bi (AA (Bx hL' ?_)))
 have Dget:∃ od,h'.get? s.heap.objs.size=some od:=⟨_,kp _ _ (AN _ rfl)⟩
 have Dlt:s.heap.objs.size < h'.objs.size:=let ⟨_,e⟩:=Dget;AO e
 refine AE ⟨Bb zN _,?_⟩
 have it0:(h'.push { cls:=.type "list_iterator",data:=.fields #[.ref L,.int 0 0] }).IsListIter h'.objs.size L 0:=⟨_,AN _ rfl,rfl,rfl⟩
 have hd':(h'.push { cls:=.type "list_iterator",data:=.fields #[.ref L,.int 0 0] }).DictOf (zW prog w) s.heap.objs.size []:=by
  obtain⟨od,es,ep,e,r⟩:=hnew
  exact⟨od,es,ep,AC _ (kp _ _ e),r⟩
 refine upd_loop (A:=A.in1) (show A.in1.handled=none from hh) s.heap.objs.size L h'.objs.size items (BD Llt) (AU Dlt) (AU (DX Llt Dlt)) ps hlen hsz items.size 0 { s with heap:=h'.push { cls:=.type "list_iterator",data:=.fields #[.ref L,.int 0 0] },toks:=tk } [] rfl (AM _) it0 ⟨o,AC _ (kp _ _ hx1),hc,k,hdat⟩ hd' (λj p v a b=>?_) λh2 tk2 hd2 hk2=>?_
 ·obtain⟨bb,key,e1,⟨ot,e2,r⟩,e3⟩:=hp j p v a b
  exact⟨bb,key,e1,⟨ot,AC _ (kp _ _ (AC _ e2)),r⟩,e3⟩
 ·refine⟨O,h h2 tk2 ?_ λb ob e=>hk2 b ob (AU (AO e)) (AU (DX (AO e) Dlt)) (AC _ (kp _ _ (AC _ e)))⟩
  rw[De] at hd2
  exact hd2
end
def Prs (H:Hp):List V->List (Key×V)->Prop:=Paired λx p=>∃ b,x=.ref b/\H b=some (.tup [kV p.1,p.2])
def prs_at {P:Program} {w:World} {H:Hp} {h:Heap} (ok:HOk P w H h) {xs:List V} {ps:List (Key×V)} (r:Prs H xs ps):∀ {us:List Value},qF xs us->∃ rs:List (Key×Value),KV ps rs/\∀ (j:Nat) (p:Key×Value) (v:Value),rs[j]? = some p->us[j]? = some v->Z8 P w h v p.1 p.2:=by
 unfold Prs at r
 induction r with
 | nil=>
  intro us rv
  exact⟨[],.nil,λj p v e=>by simp at e⟩
 | @cons x p xs ps hx t ih=>
  intro us rv
  cases rv with
  | @cons _ u _ us hu rv=>
   obtain⟨rs,r1,r2⟩:=ih rv
   obtain⟨b,rfl,hb⟩:=hx
   obtain⟨_,its,ri,o,e1,e2,⟨n,e3⟩,_⟩:=(show qO P w H h b (.tup [kV p.1,p.2]) from ok b _ hb)
   cases ri with
   | @cons _ ku _ _ hk ri=>
    cases ri with
    | @cons _ vu _ _ hv ri=>
     cases ri
     refine⟨(p.1,vu) :: rs,.cons ⟨O,hv⟩ r1,λj q v ej ev=>?_⟩
     cases j with
     | zero=>
      cases (AR ej)
      cases (AR ev)
      obtain rfl:u=Value.ref b:=hu
      exact⟨b,ku,O,⟨o,e1,e2,n,e3⟩,yX hk⟩
     | succ j=>exact r2 j q v ej ev
def XV {ps:List (Key×V)} {rs:List (Key×Value)} (r:KV ps rs):∀ {acc:List (Key×V)} {bcc:List (Key×Value)},KV acc bcc->KV (putAll acc ps) (rs.foldl (λ(acc:List (Key×Value)) (p:Key×Value)=>stored acc p.1 p.2) bcc):=by
 unfold KV at r
 induction r with
 | nil=>exact λq=>q
 | @cons p q ps qs h t ih=>
  intro acc bcc ra
  obtain⟨h1,h2⟩:=h
  show KV (putAll (ZX acc p.1 p.2) ps) _
  rw[CI,<- h1]
  exact ih (KV.put ra p.1 h2)
theorem jA:∀ (ps acc:List (Key×V)),(putAll acc ps).length<=acc.length+ps.length
 | [],acc=>AM _
 | p :: ps,acc=>by
  have h1:=jA ps (ZX acc p.1 p.2)
  have h2:=Zm acc p.1 p.2
  show (putAll (ZX acc p.1 p.2) ps).length<=_
  rw[Am];lia
def Wi:bootBuiltins "dict" = some (.type "dict"):=by ac_rfl
section
variable {X:Cx}
def tDictP (K:Fs) (ta:TA):TE:=λσ H Q=>ta σ H λvs H1=>∃ p xs ps,vs=[.ref p]/\H1 p=some (.lst xs)/\Prs H1 xs ps/\∀ D,H1 D=none->Q (.ref D) (upd H1 D (.dK (putAll [] ps)))
def YU (K:Fs) {a:Expr} {ta:TA} {p pos:Pos} (hg:Gl X "dict") (hm:X.mg "dict" = none) (ha:PA X [a] ta) (hs:starEach [a] X.env=[(false,eval a X.env)]:=by rfl) (hc:X.calm=true:=by rfl) (hK:X.K=K:=by rfl) :
  PE X (.Call (.Name "dict" p) [a] [] pos) (tDictP K ta):=by
 subst hK
 intro pins s σ H Q I h
 refine Call_ (Zx I hg hm Wi (BC (thn (ha pos pins s σ H _ I h) λus s1 ⟨vs,H1,I1,r1,q1⟩=>?_) hs rfl))
 obtain⟨p1,xs,ps,e,hq,hps,q⟩:=q1
 subst e
 obtain⟨u1,rfl,r2⟩:=vals1 r1
 cases r2
 obtain⟨hz,its,n,rv,eo⟩:=(show qO X.prog X.w H1 s1.heap p1 (.lst xs) from I1.hok p1 _ hq)
 obtain⟨rs,rk,hpa⟩:=prs_at I1.hok hps rv
 have l1:rs.length=its.toArray.size:=by
  have a1:=rk.length
  have a2:=A3 hps
  have a3:=rv.length
  simp;lia
 have l2:ps.length<=sizeLine:=by
  have a2:=A3 hps
  lia
 refine JE (ps:=rs) (I1.ok.hd hc) eo rfl rfl rfl l1 (by have:=rk.length;lia) (λj p v a b=>hpa j p v a (by simpa using b)) λh' tk hd' kp=>?_
 have hb:(s1.heap.objs.size == sysModules)=false:=beq_eq_false_iff_ne.mpr (Aw (AU I1.big))
 have hl:(putAll [] ps).length<=sizeLine:=by
  have:=jA ps []
  simp at this;lia
 exact⟨.ref s1.heap.objs.size,_,I1.laid (a:=s1.heap.objs.size) (o:=.dK (putAll [] ps)) (t':=tk) kp (AM _) ⟨hl,hb,_,XV rk .nil,hd'⟩,O,q _ (I1.hok.fresh (AM _))⟩
def tKGet (td ty:TE):TE:=λσ H Q=>td σ H λx H1=>ty σ H1 λy H2=>∃ a kvs k v,x=.ref a/\H2 a=some (.dK kvs)/\y=kV k/\jz kvs k=some v/\Q v H2
def Wj {o i:Expr} {pos:Pos} {td ty:TE} (ho:PE X o td) (hi:PE X i ty) (hs:NoSl i):PE X (.Subscript o i pos) (tKGet td ty):=by
 intro pins s σ H Q I h
 refine XU PySem.F.slot_dict_getitem.lookup hs (thn (ho pins s σ H _ I h) λu s1 ⟨x,H1,I1,rx,q1⟩=>thn (hi pins s1 σ H1 _ I1 q1) λiv s2 ⟨y,H2,I2,ry,a,kvs,k,v,ex,ea,ey,l,q2⟩=>?_)
 subst ex ey
 obtain rfl:u=Value.ref a:=rx
 obtain⟨z,hd,vs,rel,dd⟩:=dk_of I2.hok ea
 obtain⟨w',hw,rw'⟩:=Xb.some_of (v:=v) (o:=valueAt vs k) (by rw[<- l];exact rel.val k)
 exact⟨dd.typeIs,wpAny_getItem_of (yX ry) dd.mapOf hw ⟨v,H2,I2.tok _,rw',q2⟩⟩
end
open PySem PySem.Spec PyProof.Rows L4
def Prs.tk {H H':Hp} (s:Tk H H') {xs:List V} {ps:List (Key×V)} (h:Prs H xs ps):Prs H' xs ps:=by
 unfold Prs at h ⊢
 induction h with
 | nil=>exact .nil
 | cons r _ ih=>
  obtain⟨b,e,hb⟩:=r
  exact .cons ⟨b,e,s _ _ hb⟩ ih
def Prs.snoc {H:Hp} {xs:List V} {ps:List (Key×V)} {p:Key×V} {b:Addr} (h:Prs H xs ps) (hb:H b=some (.tup [kV p.1,p.2])):Prs H (xs++[.ref b]) (ps++[p]):=by
 unfold Prs at h ⊢
 induction h with
 | nil=>exact .cons ⟨b,O,hb⟩ .nil
 | cons r _ ih=>exact .cons r ih
def y4 (ps:List (Key×V)) (p:Key×V) (acc:List (Key×V)):putAll acc (ps++[p])=ZX (putAll acc ps) p.1 p.2:=by
 unfold putAll
 rw[EO]
 rfl
def ixs (G:List Nat) (n:Nat):List (Key×V):=(List.range n).map λi=>((Sum.inl ((Tn.at' G i:Nat):Int):Key),nV i)
theorem ixs_at {G:List Nat} (nd:G.Nodup):∀ n,n<=G.length->∀ j,j < n->jz (putAll [] (ixs G n)) (Sum.inl ((Tn.at' G j:Nat):Int))=some (nV j)
 | 0,_,j,hj=>absurd hj (CG _)
 | n+1,hn,j,hj=>by
  have e:ixs G (n+1)=ixs G n++[(Sum.inl ((Tn.at' G n:Nat):Int),nV n)]:=by
   unfold ixs
   rw[BI,AK]
   rfl
  rw[e,y4,Jj]
  by_cases h:j=n
  ·subst h
   rw[if_pos rfl]
  ·have hne:¬ ((Sum.inl ((Tn.at' G j:Nat):Int):Key)=Sum.inl ((Tn.at' G n:Nat):Int)):=λz=>by
    have z1:((Tn.at' G j:Nat):Int)=((Tn.at' G n:Nat):Int):=Sum.inl.inj z
    have z2:Tn.at' G j=Tn.at' G n:=by lia
    have a1:=Tn.at_map (gs:=G) (i:=j) (by lia)
    have a2:=Tn.at_map (gs:=G) (i:=n) (by lia)
    rw[z2,<- a2] at a1
    rw[AD (by lia),AD (by lia)] at a1
    have i1:=nd.idxOf_getElem j (by lia)
    have i2:=nd.idxOf_getElem n (by lia)
    rw[AR a1] at i1
    lia
   rw[if_neg hne]
   exact ixs_at nd n (by lia) j (by lia)
def ixs_idx {G:List Nat} (nd:G.Nodup) {x:Nat} (hx:x ∈ G):jz (putAll [] (ixs G G.length)) (Sum.inl (x:Int))=some (nV (G.idxOf x)):=by
 have hl:=BH hx
 have h:=ixs_at nd G.length (AM _) (G.idxOf x) hl
 have e:Tn.at' G (G.idxOf x)=x:=by
  unfold Tn.at'
  rw[AQ,AD hl,Cf]
  rfl
 rw[e] at h
 exact h
section
variable {prog:Program} {w:World} {K:Type} [DecidableEq K] {knd:KeyKind prog w K} {A:Around} {E:Value->Shared->Prop} {s:Shared}
end
section
variable {X:Cx}
def wJ:j6 X (.type "dict") (λxs H Q=>∃ g kvs,xs=[.ref g]/\H g=some (.dK kvs)/\∀ p,H p=none->Q (.ref p) (upd H p (.dK kvs))):=by
 intro pins s σ H xs us Q I rv h
 obtain⟨g,kvs,rfl,hg,q⟩:=h
 obtain⟨u1,rfl,r2⟩:=vals1 rv
 cases r2
 exact d_copyOf I (.inl hg) λp s' hp I'=>⟨.ref p,_,I',O,q p hp⟩
end
def JF:Manifest.owners.lookup (String.ofList ['d','e','s','r','e','v','e','r'].reverse)=some Manifest.sig_reversed:=by kernel_rfl
def qZ:Slot "reversed" "__next__" "reversed.__next__":=
 .of (owner := "reversed") (n := "__next__") (by rw[DF,CS];kernel_rfl) (by ac_rfl) (by ac_rfl) (by ac_rfl)
  (by first | exact .inl (by ac_rfl) | exact .inr (by ac_rfl)) (by rw[B6];kernel_rfl)
def Z9:entryFor table "reversed.__next__" = some Builtin.«reversed.__next__»:=entryFor_of_tree (by kernel_rfl)
def ZH (a:Value):argsOk "reversed.__next__" ⟨[a],[]⟩:=by
 unfold argsOk;rw[signature?_of (id := "reversed.__next__") (n:=['_','_','t','x','e','n','_','_']) (o:=['d','e','s','r','e','v','e','r']) (by kernel_rfl) JF];kernel_rfl
def Zn:Slot "reversed" "__length_hint__" "reversed.__length_hint__":=
 .of (owner := "reversed") (n := "__length_hint__") (by rw[DF,CS];kernel_rfl) (by ac_rfl) (by ac_rfl) (by ac_rfl)
  (by first | exact .inl (by ac_rfl) | exact .inr (by ac_rfl)) (by rw[B6];kernel_rfl)
def we:entryFor table "reversed.__length_hint__" = some Builtin.«reversed.__length_hint__»:=entryFor_of_tree (by kernel_rfl)
def JG (a:Value):argsOk "reversed.__length_hint__" ⟨[a],[]⟩:=by
 unfold argsOk;rw[signature?_of (id := "reversed.__length_hint__") (n:=['_','_','t','n','i','h','_','h','t','g','n','e','l','_','_']) (o:=['d','e','s','r','e','v','e','r']) (by kernel_rfl) JF];kernel_rfl
def Qy:Slot "reversed" "__iter__" "reversed.__iter__":=
 .of (owner := "reversed") (n := "__iter__") (by rw[DF,CS];kernel_rfl) (by ac_rfl) (by ac_rfl) (by ac_rfl)
  (by first | exact .inl (by ac_rfl) | exact .inr (by ac_rfl)) (by rw[B6];kernel_rfl)
def JH (a:Value):argsOk "reversed.__iter__" ⟨[a],[]⟩:=by
 unfold argsOk;rw[signature?_of (id := "reversed.__iter__") (n:=['_','_','r','e','t','i','_','_']) (o:=['d','e','s','r','e','v','e','r']) (by kernel_rfl) JF];kernel_rfl
def wf:entryFor table "reversed.__iter__" = some Builtin.«dict_keyiterator.__iter__»:=
 entryFor_alias (id' := "dict_keyiterator.__iter__") (by kernel_rfl) (by first | rfl | ac_rfl | (unfold String.splitOn;simp +decide [String.splitOnAux])) (by ac_rfl) (by kernel_rfl)
def xw:typeLookup (.type "tuple") "__reversed__" = pure none:=am_miss_of_fast (by ac_rfl)
def xy:typeLookup (.type "reversed") "__len__" = pure none:=am_miss_of_fast (by ac_rfl)
def Wl:Slot "reversed" "__init__" "object.__init__":=
 .of (owner := "object") (n := "__init__") (by rw[DF,CS];kernel_rfl) (by ac_rfl) (by ac_rfl) (by ac_rfl)
  (by first | exact .inl (by ac_rfl) | exact .inr (by ac_rfl)) (by rw[B6];kernel_rfl)
def xz:TypeCalled "reversed" "reversed.__new__" "object.__init__":=
 ⟨by ac_rfl,by ac_rfl,⟨_,_,PySem.F.mro_reversed⟩,PySem.F.made_reversed,by ac_rfl,by rw[B6];kernel_rfl,Wl⟩
def yf:isSubtype (.type "tuple") (.type "dict")=pure false:=by rw[B6];kernel_rfl
def seq_nat' {v n:Nat} (h:v < n):seqIndex? (v:Int) n=some v:=by
 unfold seqIndex?
 have h1:¬ ((v:Int) < 0):=by lia
 simp only[h1,if_false]
 rw[if_pos (by simp;lia)]
 rfl
def revO (t:Addr) (i:Int):Obj:={ cls:=.type "reversed",data:=.fields #[.ref t,rawInt i] }
def Qk (h:Heap) (a t:Addr) (i:Int):Prop:=∃ o,h.get? a=some o/\o.cls=.type "reversed" /\ o.data=.fields #[.ref t,rawInt i]
def Qk.typeIs {s:Shared} {a t:Addr} {i:Int} (x:Qk s.heap a t i):s.TypeIs (.ref a) "reversed":=let ⟨o,ho,hc,_⟩:=x;⟨o,ho,hc⟩
def Qk.at {h h':Heap} {a t:Addr} {i:Int} (x:Qk h a t i) (e:∀ o,h.get? a=some o->h'.get? a=some o):Qk h' a t i:=let ⟨o,ho,r⟩:=x;⟨o,e _ ho,r⟩
def Wm (t:Addr) (items:Array Value) (hz:(items.size:Int) < 2 ^ 63) :
  Meets (Builtin.«reversed.__new__» ⟨[.type "reversed",.ref t],[]⟩) (λ_ R s=>IsTup s.heap t items/\∀ tk,R (.ok (.ret (.ref s.heap.objs.size))) { s with heap:=s.heap.push (revO t ((items.size:Int) - 1)),toks:=tk }):=
 .of_wp λprog w A R s h=>by
  obtain⟨ht,h⟩:=h
  have hT:s.TypeIs (.ref t) "tuple":=ht.typeIs
  unfold Builtin.«reversed.__new__»
  refine AA (Bc (newClass_reversed _) ?_)
  try dsimp only
  refine AA (Bc (a:=()) (by first | rfl | kernel_rfl) ?_)
  refine AA (Bc (a:=()) (by first | rfl | kernel_rfl) ?_)
  try dsimp only
  refine AA (Ct hT xw ?_)
  try dsimp only
  refine AA ?_
  refine AA (m:=isInstance (.ref t) (.type "dict")) (B3 (T := "tuple") (b:=false) hT yf ?_)
  rw[if_neg AS]
  refine AA (m:=specialOf (.ref t) "__getitem__") (Ct hT El.lookup ?_)
  refine Bc (a:=true) (by first | rfl | kernel_rfl) ?_
  show wpAny _ _ (call (.builtin "len") [.ref t] >>= _) _ _ _
  refine AA (len_tuple ht hz ?_)
  show wpAny _ _ (asInt? (.int items.size (s.toks+1)) >>= _) _ _ _
  refine AA (Bc (a:=some (items.size:Int)) rfl ?_)
  show wpAny _ _ (newObj (.type "reversed") (.fields #[.ref t,rawInt ((items.size:Int) - 1)]) >>= _) _ _ _
  refine AA (Ax (AE ?_) (by size_fits))
  exact⟨_,O,h _⟩
section
variable {prog:Program} {w:World} {A:Around} {E:Value->Shared->Prop} {s:Shared}
def Ql {t:Addr} {items:Array Value} {Q:Value->Shared->Prop} (ht:IsTup s.heap t items) (hz:(items.size:Int) < 2 ^ 63)
  (h:∀ tk,Q (.ref s.heap.objs.size) { s with heap:=s.heap.push (revO t ((items.size:Int) - 1)),toks:=tk }):wpAny (model prog w) A (call (.type "reversed") [.ref t]) Q E s:=by
 refine Ej xz (by decide) (PySem.F.typeCall_reversed_1 _) (PySem.F.newCall_reversed_1 _) (λobj=>En obj _) PySem.F.entry_reversed_new (Wm t items hz) ⟨ht,λtk=>?_⟩
 exact⟨⟨_,AN _ rfl,O⟩,h tk⟩
def Wn {it t:Addr} {i:Nat} {items:Array Value} {x:Value} {Q:Option Value->Shared->Prop} (hit:Qk s.heap it t (i:Int)) (ht:IsTup s.heap t items) (hx:items[i]? = some x) (hz:(items.size:Int) < 2 ^ 63)
  (hQ:∀ h' tk,Qk h' it t ((i:Int) - 1)->Heap.SameBut it s.heap h'->Q (some x) { s with heap:=h',toks:=tk }):wpAny (model prog w) A (pyNext (.ref it)) Q E s:=by
 obtain⟨o,ho,hc,hd⟩:=id hit
 have hi:i < items.size:=by
  rcases Dr i items.size with z | z
  ·exact z
  ·rw[Bs z] at hx;cases hx
 unfold pyNext
 refine AA (Bn (wpAny_callSpecial?_slot (name:=Str.ofString "__next__") hit.typeIs qZ
  (Ay qZ hit.typeIs Z9 ?_ (ZH _))))
 unfold Builtin.«reversed.__next__»
 refine AA (Bc (a:=(Value.ref it,[])) rfl ?_)
 try dsimp only
 refine AA (BK ho hd (x:=.ref t) rfl ?_)
 refine AA (BK ho hd (x:=rawInt (i:Int)) rfl ?_)
 show wpAny _ _ (if (i:Int) < 0 then _ else _) _ _ s
 rw[if_neg (by lia)]
 show wpAny _ _ (specialOf (.ref t) "__getitem__" >>= _) _ _ s
 refine AA (Ct ht.typeIs El.lookup ?_)
 show wpAny _ _ (mkInt (i:Int) >>= _) _ _ _
 refine AA (wpAny_mkInt ?_)
 refine AA (Bn (getItem_tuple (s:={ s with toks:=s.toks+1 }) ht (by lia) (by lia) (j:=i) (seq_nat' hi) hx ?_))
 show wpAny _ _ (field (.ref it) 1 >>= _) _ _ _
 refine AA (BK ho hd (x:=rawInt (i:Int)) rfl ?_)
 show wpAny _ _ (setField (.ref it) 1 (rawInt ((i:Int) - 1)) >>= _) _ _ _
 refine AA (Ba ho hd (by simp) (AE ⟨x,O,AE (hQ _ _ ?_ (A6 ..))⟩))
 exact⟨_,Az _ ho (Bd (A4 hd _)),(Cc ..).trans hc,by
  rw[A4 hd];simp⟩
def yg {it t:Addr} {Q:Option Value->Shared->Prop} (hh:A.handled=none) (hit:Qk s.heap it t (-1))
  (hQ:∀ h',Heap.ExtBut it s.heap h'->Q none { s with heap:=h' }):wpAny (model prog w) A (pyNext (.ref it)) Q E s:=by
 obtain⟨o,ho,hc,hd⟩:=id hit
 unfold pyNext
 refine AA (Bn (wpAny_callSpecial?_slot (name:=Str.ofString "__next__") hit.typeIs qZ
  (Ay qZ hit.typeIs Z9 ?_ (ZH _))))
 unfold Builtin.«reversed.__next__»
 refine AA (Bc (a:=(Value.ref it,[])) rfl ?_)
 try dsimp only
 refine AA (BK ho hd (x:=.ref t) rfl ?_)
 refine AA (BK ho hd (x:=rawInt (-1)) rfl ?_)
 show wpAny _ _ (if (-1:Int) < 0 then _ else _) _ _ s
 rw[if_pos (by decide)]
 refine AA (Bi ?_)
 refine AA ?_
 refine AA (m:=setField (.ref it) 1 (rawInt (-1))) (Ba ho hd (by simp) ?_)
 have ho2:=Az (Obj.mapFields λvs=>vs.set! 1 (rawInt (-1))) ho (Bd (A4 hd _))
 have hd2:=A4 hd (λvs=>vs.set! 1 (rawInt (-1)))
 refine Ba ho2 hd2 (by simp) ?_
 refine AA ?_
 show wpAny _ _ (newExc (.type "StopIteration") [] >>= _) _ _ _
 refine AA ?_
 simp only[newExc,newTuple]
 refine AA (Ax ?_ (by size_fits))
 refine AA (m:=firstArgMember _ _) (Bc (a:=Value.none) (by first | rfl | (simp only[firstArgMember];rfl)) ?_)
 refine Ax ?_ (by size_fits)
 simp only[raiseNew]
 refine AA (Dz ?_)
 first | rw[show A.in1.handled=none from hh] | rw[hh]
 refine AA (AE (EI ?_))
 refine AA (B3 (T := "StopIteration") (b:=true) ⟨_,AN _ rfl,O⟩ Dj ?_)
 refine AE (hQ _ ?_)
 intro b o' hb e
 exact AC _ (AC _ ((BX _ _ (Aw hb)).trans ((BX _ _ (Aw hb)).trans e)))
def wK {it t:Addr} {i:Int} {Q:Value->Shared->Prop} (hit:Qk s.heap it t i) (h:Q (.ref it) s):wpAny (model prog w) A (pyIter (.ref it)) Q E s:=by
 refine C0 hit.typeIs Qy (Ay Qy hit.typeIs wf ?_ (JH _))
 show wpAny _ _ (ret (.ref it)) _ _ s
 exact AE ⟨_,O, "reversed",_,hit.typeIs,qZ.lookup,h⟩
def hint_rev {it t:Addr} {i:Nat} {items:Array Value} {Q:Bool->Shared->Prop} (hit:Qk s.heap it t ((i:Int) - 1)) (ht:IsTup s.heap t items) (hi:i<=items.size) (hz:items.size<=1000)
  (h:∀ b tk,Q b { s with toks:=tk }):wpAny (model prog w) A (Builtin.List.listLengthHint (.ref it)) Q E s:=by
 obtain⟨o,ho,hc,hd⟩:=id hit
 unfold Builtin.List.listLengthHint
 refine AA (Ct hit.typeIs xy ?_)
 show wpAny _ _ (specialOf (Value.ref it) (Str.ofString "__length_hint__") >>= _) _ _ _
 refine AA (Ct hit.typeIs Zn.lookup ?_)
 generalize hid:("reversed.__length_hint__" : String)=id0
 wp_delta
 rw[show splitId id0=some ("reversed", "__length_hint__") from by subst hid;ac_rfl]
 subst hid
 refine AA (B3 (T := "reversed") (b:=true) hit.typeIs PySem.F.sub_reversed_self ?_)
 refine BE (λhab=>absurd hab (by decide)) (λ_=>?_)
 refine BE (λhab=>absurd hab (by ac_rfl)) (λ_=>?_)
 refine AA (Bi ?_)
 refine AA (Bc (Zn.bind _) ?_)
 have htl:Builtin.List.listTooLong ((i:Int).toNat)=false:=by simp[Builtin.List.listTooLong,sizeLine];lia
 have hfi:Builtin.List.listFitsIndex (i:Int)=true:=by simp[Builtin.List.listFitsIndex];lia
 refine AA (Bn (Ay Zn hit.typeIs we ?_ (JG _)))
 unfold Builtin.«reversed.__length_hint__»
 refine AA (Bc (a:=Value.ref it) rfl ?_)
 refine AA (BK ho hd (x:=.ref t) rfl ?_)
 show wpAny _ _ (if (Value.ref t == Value.none)=true then _ else call (.builtin "len") [.ref t] >>= _) _ _ s
 rw[if_neg (show ¬ ((Value.ref t == Value.none)=true) from AS)]
 refine AA (len_tuple ht (by lia) ?_)
 show wpAny _ _ (asInt? (.int items.size (s.toks+1)) >>= _) _ _ _
 refine AA (Bc (a:=some (items.size:Int)) rfl ?_)
 refine AA (BK ho hd (x:=rawInt ((i:Int) - 1)) rfl ?_)
 show wpAny _ _ (if ((items.size:Nat):Int) < ((i:Int) - 1)+1 then _ else _) _ _ _
 rw[if_neg (by lia)]
 rw[show (i:Int) - 1+1=(i:Int) by lia]
 show wpAny _ _ (mkInt (i:Int) >>= λv=>ret v) _ _ _
 refine AA (wpAny_mkInt (AE ⟨_,O,?_⟩))
 have h0:¬ ((i:Int) < 0):=by lia
 dsimp only
 generalize (i:Int)=k at *
 refine AA (m:=asInt? (Value.int k _)) (AE ?_)
 refine BE (λhab=>absurd hab (by rw[hfi];decide)) (λ_=>?_)
 refine BE (λhab=>absurd hab h0) (λ_=>?_)
 exact BE (λhab=>absurd hab (by rw[htl];decide)) (λ_=>AE (h _ _))
end
def Walks.rev {prog:Program} {w:World} {A:Around} (hh:A.handled=none) (I l:Addr) (hne:l ≠ I) (items:Array Value) (hz:(items.size:Int) < 2 ^ 63) :
  Walks prog w A I [I,l] [I] items.size (λi v=>items[items.size - 1 - i]? = some v) (λi h=>i<=items.size/\Qk h I l ((items.size:Int) - 1 - (i:Int))/\IsTup h l items) where
 sub:=λb hb=>by simp at hb;simp[hb]
 frame:=λ_ _ _ x hk=>⟨x.1,x.2.1.at λo e=>hk I (by simp) o e,let ⟨o,e,r⟩:=x.2.2;⟨o,hk l (by simp) o e,r⟩⟩
 item:=λi s Q E hi x hQ=>by
  have e:(items.size:Int) - 1 - (i:Int)=((items.size - 1 - i:Nat):Int):=by lia
  have hit:=x.2.1
  rw[e] at hit
  have hx:items[items.size - 1 - i]? = some (items[items.size - 1 - i]'(by lia)):=Bv (by lia)
  refine Wn hit x.2.2 hx hz λh' tk hit' hs'=>?_
  have e2:((items.size - 1 - i:Nat):Int) - 1=(items.size:Int) - 1 - ((i+1:Nat):Int):=by lia
  rw[e2] at hit'
  exact hQ _ h' tk hx ⟨hi,hit',let ⟨o,e,r⟩:=x.2.2;⟨o,(hs'.2 l hne).trans e,r⟩⟩ λb o hb eo=>hs'.extBut b o (λh=>hb (by simp[h])) eo
 done:=λs Q E x hQ=>by
  have e:(items.size:Int) - 1 - (items.size:Int) = -1:=by lia
  have hit:=x.2.1
  rw[e] at hit
  exact yg hh hit λh' he'=>hQ h' s.toks λb o hb eo=>he' b o (λh=>hb (by simp[h])) eo
 self:=λ_ _ _ _ x hQ=>wK x.2.1 hQ
section
variable {prog:Program} {w:World} {A:Around} {s:Shared}
def xA {R:Result->Shared->Prop} {it t:Addr} {items:Array Value} (hh:A.handled=none) (hit:Qk s.heap it t ((items.size:Int) - 1)) (ht:IsTup s.heap t items) (hne:t ≠ it) (hz:items.size<=1000)
  (S:Addr) (res:Value) (c₀:Nat) (hS:s.heap.get? S=some { cls:=.type "list",data:=.seq #[] c₀ })
  (hR:∀ h' tk acc' c',(∀ b o,b ≠ S->b ≠ it->s.heap.get? b=some o->h'.get? b=some o)->h'.get? S=some { cls:=.type "list",dict:=none,data:=.seq acc' c',slots:=#[] } ->
   ItemsOf (λi v=>items[items.size - 1 - i]? = some v) acc' items.size->R (.ok (.ret res)) { s with heap:=h',toks:=tk }) :
  wpAny (model prog w) A.in1 (Builtin.List.listExtendWith (.ref S) (.ref it) res)
   (λfin s'=>match fin with | .done f=>R (.ok f) s' | .again c'=>c'.quiet=true/\codeAny (model prog w) A c' R s') (λe s'=>R (.error e) s') s:=by
 have hSit:S ≠ it:=λe=>by
  obtain⟨o,ho,hc,_⟩:=hit
  rw[e,ho] at hS
  have:=AR hS
  rw[this] at hc
  exact absurd hc (show ¬ (Value.type "list" = Value.type _) by decide)
 have hSt:S ≠ t:=λe=>by
  obtain⟨o,ho,hc,_⟩:=ht
  rw[e,ho] at hS
  have:=AR hS
  rw[this] at hc
  exact absurd hc (show ¬ (Value.type "list" = Value.type _) by decide)
 have hSf:S ∉ [it,t]:=λhm=>by
  rcases AX.mp hm with h | h
  ·exact hSit h
  ·exact hSt (AG.mp h)
 have W:=(Walks.rev (prog:=prog) (w:=w) (A:=A.in1) hh it t hne items (by lia)).toS
 have key:∀ (h:Heap) (c₁ tk:Nat),Qk h it t ((items.size:Int) - 1)->IsTup h t items->(∀ b o,b ≠ S->s.heap.get? b=some o->h.get? b=some o) ->
   h.get? S=some { cls:=.type "list",data:=.seq #[] c₁ }->codeAny (model prog w) A (.builtin "list.extend.loop" ⟨[.ref S,.ref it,res],[]⟩) R { s with heap:=h,toks:=tk }:=by
  intro h c₁ tk hit' ht' hk hS₁
  refine codeAny_extend_loopS W (by rw[Dw];lia) S hSf res items.size 0 _ #[] c₁ rfl (BA _) ⟨BA _,by simpa using hit',ht'⟩ hS₁ (ItemsOf.nil _) λs' acc' c' hm hS' hacc=>?_
  rw[Moved.eq_with hm]
  refine hR s'.heap s'.toks acc' c' (λb o hb hi e=>hm.heap b o (λhmem=>?_) (hk b o hb e)) hS' hacc
  rcases AX.mp hmem with e' | hmem
  ·exact hb e'
  ·exact hi (AG.mp hmem)
 unfold Builtin.List.listExtendWith
 refine AA (Bw (T := "reversed") hit.typeIs ?_)
 have h1:Builtin.List.listSameRef (.ref S) (.ref it)=false:=by simp[Builtin.List.listSameRef,hSit]
 have h2:(Value.type "reversed" == Value.type "list")=false:=by decide
 have h3:(Value.type "reversed" == Value.type "tuple")=false:=by decide
 simp only[h1,h2,h3,Bool.or_false,Bool.false_eq_true,if_false]
 refine AA (wK hit ?_)
 refine AA (BL (hint_rev (i:=items.size) hit ht (AM _) hz λb tk=>?_))
 refine BE (λ_=>?_) (λ_=>AE ⟨Bb C1 _,key _ c₀ _ hit ht (λb o _ e=>e) hS⟩)
 refine AA (Bi ?_)
 refine AA ?_
 show wpAny _ _ (updateSeq S (·.push .none) >>= λ_=>updateSeq S (·.pop)) _ _ _
 refine AA (Df hS rfl ?_)
 have hS₂:=Az (Obj.mapSeq (·.push Value.none)) hS rfl
 refine Df (hz:=by seq_fits) hS₂ rfl ?_
 have hS₃:=Az (Obj.mapSeq (·.pop)) hS₂ rfl
 have oth:∀ b o,b ≠ S->s.heap.get? b=some o->((s.heap.update S (Obj.mapSeq (·.push Value.none))).update S (Obj.mapSeq (·.pop))).get? b=some o:=λb o hb e=>(BX _ _ (Aw hb)).trans ((BX _ _ (Aw hb)).trans e)
 refine AE ⟨Bb C1 _,key _ _ _ (hit.at λo e=>oth it o (Aw hSit) e) (let ⟨o,e,r⟩:=ht;⟨o,oth t o (Aw hSt) e,r⟩) oth hS₃⟩
def init_rev {R:Result->Shared->Prop} {it t:Addr} {items:Array Value} (hh:A.handled=none) (hit:Qk s.heap it t ((items.size:Int) - 1)) (ht:IsTup s.heap t items) (hne:t ≠ it) (hz:items.size<=1000) (S:Addr) (hS:s.heap.get? S=some { cls:=.type "list",data:=.seq #[] })
  (hSt:S ≠ t) (hSi:S ≠ it) (hR:∀ h' tk acc' c',(∀ b o,b ≠ S->b ≠ it->s.heap.get? b=some o->h'.get? b=some o)->h'.get? S=some { cls:=.type "list",dict:=none,data:=.seq acc' c',slots:=#[] } ->
   ItemsOf (λi v=>items[items.size - 1 - i]? = some v) acc' items.size->R (.ok (.ret .none)) { s with heap:=h',toks:=tk }) :
  wpAny (model prog w) A.in1 (Builtin.«list.__init__» ⟨[.ref S,.ref it],[]⟩)
   (λfin s'=>match fin with | .done f=>R (.ok f) s' | .again c'=>c'.quiet=true/\codeAny (model prog w) A c' R s') (λe s'=>R (.error e) s') s:=by
 show wpAny _ _ (do let old <- Builtin.List.listItems (.ref S);Builtin.List.listUpdate (.ref S) (λ_=>#[]);letGo old.toList.reverse;Builtin.List.listExtendWith (.ref S) (.ref it) .none) _ _ s
 refine AA ?_
 unfold Builtin.List.listItems
 refine AA (Bm hS rfl (AE ?_))
 show wpAny _ _ (updateSeq S (λ_=>#[]) >>= λ_=>letGo (#[]:Array Value).toList.reverse >>= λ_=>Builtin.List.listExtendWith (.ref S) (.ref it) .none) _ _ s
 refine AA (Df hS rfl ?_)
 have hS₂:=Az (Obj.mapSeq (λ_=>(#[]:Array Value))) hS rfl
 have oth:∀ b o,b ≠ S->s.heap.get? b=some o->(s.heap.update S (Obj.mapSeq (λ_=>(#[]:Array Value)))).get? b=some o:=
  λb o hb e=>(BX _ _ (Aw hb)).trans e
 refine AA (wpAny_letGo ?_)
 refine xA hh (hit.at λo e=>oth it o (Aw hSi) e) (let ⟨o,e,r⟩:=ht;⟨o,oth t o (Aw hSt) e,r⟩) hne hz S .none _ hS₂ λh' tk acc' c' hk hS' hacc=>?_
 exact hR h' tk acc' c' (λb o hb hi e=>hk b o hb hi (oth b o hb e)) hS' hacc
def Wo {E:Value->Shared->Prop} {Q:Value->Shared->Prop} {it t:Addr} {items:Array Value} (hh:A.handled=none) (hit:Qk s.heap it t ((items.size:Int) - 1)) (ht:IsTup s.heap t items) (hne:t ≠ it) (hz:items.size<=1000)
  (hQ:∀ h' tk acc' c',(∀ b o,b ≠ it->s.heap.get? b=some o->h'.get? b=some o) ->
   h'.get? s.heap.objs.size=some { cls:=.type "list",dict:=none,data:=.seq acc' c',slots:=#[] }->ItemsOf (λi v=>items[items.size - 1 - i]? = some v) acc' items.size->Q (.ref s.heap.objs.size) { s with heap:=h',toks:=tk }) :
  wpAny (model prog w) A (call (.type "list") [.ref it]) Q E s:=by
 refine callType_codes (Q₁:=λobj s₁=>obj=.ref s.heap.objs.size/\s₁ = { s with heap:=s.heap.push { cls:=.type "list",data:=.seq #[] } }) PySem.F.called_list (PySem.F.typeCall_list_1 _) PySem.F.entry_list_init
  (code_list_new _ ⟨rfl,rfl⟩) λobj s₁ h₁=>?_
 obtain⟨rfl,rfl⟩:=h₁
 have hS:(s.heap.push { cls:=.type "list",data:=.seq #[] }).get? s.heap.objs.size=some { cls:=.type "list",data:=.seq #[] }:=AN _ rfl
 have lt1:it < s.heap.objs.size:=let ⟨_,e,_⟩:=hit;AO e
 have lt2:t < s.heap.objs.size:=let ⟨_,e,_⟩:=ht;AO e
 refine⟨⟨_,hS,O⟩,PySem.F.args_list_init_2 _ _,init_rev (A:=A.in1) hh (hit.at λo e=>AC _ e) (let ⟨o,e,r⟩:=ht;⟨o,AC _ e,r⟩) hne hz _ hS (BD lt2) (BD lt1) λh' tk acc' c' hk hS' hacc=>?_⟩
 exact⟨O,hQ h' tk acc' c' (λb o hi e=>hk b o (AU (AO e)) hi (AC _ e)) hS' hacc⟩
end
def y6:bootBuiltins "reversed" = some (.type "reversed"):=by ac_rfl
def vals_rev {xs:List V} {its:List Value} {acc:Array Value} (r:qF xs its) (h:ItemsOf (λi v=>its.toArray[its.toArray.size - 1 - i]? = some v) acc its.toArray.size):qF xs.reverse acc.toList:=by
 have l:=r.length
 refine We (by rw[C3];have:=h.1;simp at this ⊢;lia) λi x u hx hu=>?_
 have hi:i < xs.length:=by
  have:=(AF.mp hx).1
  rw[C3] at this
  exact this
 rw[List.getElem?_reverse hi] at hx
 obtain⟨u',hu',ru⟩:=r.get hx
 have e:=h.2 i u (by simpa using hu)
 have e2:its[its.length - 1 - i]? = some u:=by simpa using e
 rw[<- l,hu'] at e2
 rw[<- AR e2]
 exact ru
section
variable {X:Cx}
def tListRev (K:Fs) (ta:TA):TE:=λσ H Q=>ta σ H λvs H1=>∃ p xs,vs=[.ref p]/\SqT K H1 p xs/\xs.length<=1000/\∀ l,H1 l=none->Q (.ref l) (upd H1 l (.lst xs.reverse))
def xB (K:Fs) {a:Expr} {ta:TA} {p p2 pos pos2:Pos} (hg:Gl X "list") (hm:X.mg "list" = none) (hg2:Gl X "reversed") (hm2:X.mg "reversed" = none) (ha:PA X [a] ta) (hs:starEach [a] X.env=[(false,eval a X.env)]:=by rfl) (hs2:starEach [.Call (.Name "reversed" p2) [a] [] pos2] X.env=[(false,eval (.Call (.Name "reversed" p2) [a] [] pos2) X.env)]:=by rfl) (hc:X.calm=true:=by rfl) (hK:X.K=K:=by rfl) :
  PE X (.Call (.Name "list" p) [.Call (.Name "reversed" p2) [a] [] pos2] [] pos) (tListRev K ta):=by
 subst hK
 intro pins s σ H Q I h
 refine Call_ (Zx I hg hm Qj (BC ?_ hs2 rfl))
 rw[hs2]
 show wpAny _ _ (spliced [(false,eval (.Call (.Name "reversed" p2) [a] [] pos2) X.env)]) _ _ s
 refine Calls.spliced_cons ?_
 refine Call_ (Zx I hg2 hm2 y6 (BC (thn (ha pos2 pins s σ H _ I h) λus s1 ⟨vs,H1,I1,r1,q1⟩=>?_) hs rfl))
 obtain⟨p1,xs,e,hq,hz,q⟩:=q1
 subst e
 obtain⟨u1,rfl,r2⟩:=vals1 r1
 cases r2
 obtain⟨its,rv,pl,_⟩:=I1.tuple hq
 have lv:=rv.length
 have plt:p1 < s1.heap.objs.size:=PyProof.Rows.IsTup.lt pl
 have sz:its.toArray.size<=1000:=by simp;lia
 refine Ql pl (by lia) λtk=>?_
 refine Calls.spliced_nil ?_
 have I2:Inv X pins σ H1 { s1 with heap:=s1.heap.push (revO p1 ((its.toArray.size:Int) - 1)),toks:=tk }:=I1.kept (t':=tk) λ_ _ e=>AC _ e
 have hsz:(s1.heap.push (revO p1 ((its.toArray.size:Int) - 1))).objs.size=s1.heap.objs.size+1:=Bq ..
 refine Wo (s:={ s1 with heap:=s1.heap.push (revO p1 ((its.toArray.size:Int) - 1)),toks:=tk }) (I1.ok.hd hc) (it:=s1.heap.objs.size) (t:=p1) (items:=its.toArray) ⟨_,AN _ rfl,O,O⟩ (let ⟨o,e,r⟩:=pl;⟨o,AC _ e,r⟩) (AU plt) sz λh' tk2 acc c' kp he hacc=>?_
 have he':h'.get? (s1.heap.objs.size+1)=some { cls:=.type "list",dict:=none,data:=.seq acc c',slots:=#[] }:=by
  have:({ s1 with heap:=s1.heap.push (revO p1 ((its.toArray.size:Int) - 1)),toks:=tk }:Shared).heap.objs.size=s1.heap.objs.size+1:=hsz
  rw[this] at he
  exact he
 have I3:Inv X pins σ H1 { s1 with heap:=h',toks:=tk2 }:=by
  refine I1.changed (t':=tk2) (ch:=[]) (λb hb=>by cases hb) λc o _ e=>kp c o (AU (AO e)) (AC _ e)
 have Hn:H1 (s1.heap.objs.size+1)=none:=I1.hok.fresh (CM _)
 have I4:Inv X pins σ (upd H1 (s1.heap.objs.size+1) (.lst xs.reverse)) { s1 with heap:=h',toks:=tk2 }:=by
  refine I3.adopt Hn (C6 (Cp I1.sz)) (BD (BF I1.lt)) (λxx cc e zz=>?_) (λp hp zz=>?_) ⟨by rw[C3];exact CN (zq (by lia)),acc.toList,c',vals_rev rv hacc,by simpa using he'⟩
  ·obtain⟨_,q⟩:=I1.cell xx cc e
   exact absurd q.lt (by rw[zz];exact Nat.not_lt.mpr (CM _))
  ·exact absurd (AO (I1.pin p hp).1) (by rw[zz];exact Nat.not_lt.mpr (CM _))
 rw[hsz]
 exact⟨.ref (s1.heap.objs.size+1),_,I4,O,q _ Hn⟩
open Classical in
def sKPut (td ty tv:TE):TS:=λD σ H=>tv σ H λv H1=>td σ H1 λx H2=>ty σ H2 λy H3=>∃ a kvs k,x=.ref a/\y=kV k/\H3 a=some (.dK kvs)/\kvs.length < sizeLine/\D.nx σ (upd H3 a (.dK (ZX kvs k v)))
def XW {o i value:Expr} {pos pos':Pos} {td ty tv:TE} {j:Nat} (hr:QP j X.A) (ho:PE X o td) (hi:PE X i ty) (hv:PE X value tv) (hs:swapsWith value (some (.Subscript o i pos')) pos.line X.env=pure false) :
  PS X (.Assign [.Subscript o i pos'] value pos) (sKPut td ty tv):=by
 intro pins s σ H D I h
 have hu:X.A.units+64 < cLine:=hr.units
 refine wpAny_Assign_Subscript (thn (hv pins s σ H _ I h) λr s1 ⟨v,H1,I1,rv,q1⟩=>thn (ho pins s1 σ H1 _ I1 q1) λu s2 ⟨x,H2,I2,rx,q2⟩=>thn (hi pins s2 σ H2 _ I2 q2) λiv s3 ⟨y,H3,I3,ry,a,kvs,k,ex,ey,e,l,q3⟩=>?_) hs
 subst ex ey
 obtain rfl:u=Value.ref a:=rx
 exact XT (by lia) I3 (DPut.k e l) ry rv λs4 I4=>⟨σ,_,I4,q3⟩
end
section
variable {X:Cx}
def rNeNil (K:Fs):R2:=λx y H Q=>∃ p q xs,x=.ref p/\y=.ref q/\SqL K H p xs/\SqL K H q []/\Q (.bl (!xs.isEmpty)) H
def YV (K:Fs) {k:Nat} (hr:QP k X.A) (hK:X.K=K:=by rfl):OpR X (compareOp .NotEq) (rNeNil K):=by
 subst hK
 intro pins s σ H x y v u Q I rx ry h
 obtain⟨p,q,xs,rfl,rfl,h1,h2,hq⟩:=h
 cases rx
 cases ry
 obtain⟨us,r1,pl1,_⟩:=I.list h1
 obtain⟨vs,r2,pl2,_⟩:=I.list h2
 have hu:X.A.units < cLine:=Nat.lt_of_succ_lt (hu_of hr)
 cases r2
 cases xs with
 | nil=>
  cases r1
  exact SeqAt.RcNeAt.lists (e:=λ_=>true) pl1.isList pl2.isList rfl hu (λj h _=>absurd h (CG _)) X.prog X.w _ _ ⟨.bl _,H,I,O,hq⟩
 | cons x xs=>
  have l1:=r1.length
  exact SeqAt.RcNeAt.lists_lengths pl1.isList pl2.isList (by simp at l1 ⊢;intro z;rw[z] at l1;cases l1) hu X.prog X.w _ _ ⟨.bl _,H,I,O,hq⟩
end
end L2
namespace L4
open PySem L2
end L4
namespace L2
open PySem PySem.Spec PyProof.Rows
section
variable {prog:Program} {w:World} {A:Around} {R:Result->Shared->Prop}
abbrev TK (prog:Program) (w:World):HeapKind prog w (List Key):=tupleKind (zW prog w)
def yh {h h':Heap} {ks:List Key} {a b0:Addr} (x:(TK prog w).is h ks a) (hs:∀ b o,b ≠ b0->h.get? b=some o->h'.get? b=some o) (hn:∀ o,h.get? b0=some o->o.cls ≠ .type "tuple"):(TK prog w).is h' ks a:=by
 obtain⟨o,items,n,e,c,r⟩:=x
 exact⟨o,items,n,hs a o (λz=>by subst z;exact hn o e c) e,c,r⟩
def wL {h h':Heap} {d b0:Addr} {xs:List (List Key×Addr×Value)} (m:h.DictOfH (TK prog w) d xs) (hd:d ≠ b0) (hs:∀ b o,b ≠ b0->h.get? b=some o->h'.get? b=some o) (hn:∀ o,h.get? b0=some o->o.cls ≠ .type "tuple"):h'.DictOfH (TK prog w) d xs:=by
 obtain⟨o,es,ep,ho,hc,hd',he,his,hn'⟩:=m
 exact⟨o,es,ep,hs d o hd ho,hc,hd',he,λx hx=>yh (his x hx) hs hn,hn'⟩
def Qm (prog:Program) (w:World) (h:Heap) (v:Value) (p:List Key×Addr×Value):Prop:=∃ b,v=.ref b/\h.IsTuple b #[.ref p.2.1,p.2.2]/\(TK prog w).is h p.1 p.2.1
def Qm.keep {h h':Heap} {v:Value} {p:List Key×Addr×Value} {b0:Addr} (x:Qm prog w h v p) (hs:∀ b o,b ≠ b0->h.get? b=some o->h'.get? b=some o) (hn:∀ o,h.get? b0=some o->o.cls ≠ .type "tuple"):Qm prog w h' v p:=by
 obtain⟨b,rfl,⟨o,e,c,r⟩,hk⟩:=x
 exact⟨b,O,⟨o,hs b o (λz=>by subst z;exact hn o e c) e,c,r⟩,yh hk hs hn⟩
def XX (acc ps:List (List Key×Addr×Value)):List (List Key×Addr×Value):=ps.foldl (λacc p=>storedH acc p.1 p.2.1 p.2.2) acc
def y8 (acc:List (List Key×Addr×Value)) (k:List Key) (a:Addr) (v:Value):(storedH acc k a v).length<=acc.length+1:=by
 unfold storedH
 split
 ·rw[AB];lia
 ·rw[AL];simp
def XY (hh:A.handled=none) (hu:A.units+1 < cLine) (D L it:Addr) (items:Array Value) (hDL:D ≠ L) (hDi:D ≠ it) (hLi:L ≠ it) (ps:List (List Key×Addr×Value)) (hlen:ps.length=items.size) (hsz:ps.length<=sizeLine) :
  ∀ (n i:Nat) (s:Shared) (acc:List (List Key×Addr×Value)),n+i=items.size->acc.length<=i->s.heap.IsListIter it L i->s.heap.IsList L items->s.heap.DictOfH (TK prog w) D acc ->
  (∀ (j:Nat) (p:List Key×Addr×Value) (v:Value),ps[j]? = some p->items[j]? = some v->Qm prog w s.heap v p) ->
  (∀ h' tk,h'.DictOfH (TK prog w) D (XX acc (ps.drop i))->(∀ b o,b ≠ D->b ≠ it->s.heap.get? b=some o->h'.get? b=some o)->R (.ok (.ret .none)) { s with heap:=h',toks:=tk }) ->
  codeAny (model prog w) A (.builtin "dict.update.loop" ⟨[.ref D,.ref it,rawInt i,.none],[]⟩) R s:=by
 intro n
 induction n with
 | zero=>
  intro i s acc hn hacc hit hl hd hp hR
  obtain⟨oi,hoi,hci,_⟩:=id hit
  refine BG qG ?_
  rw[A7 zN _]
  show wpAny _ A.in1 (pyNext (.ref it) >>= _) _ _ s
  refine AA (CQ (show A.in1.handled=none from hh) hit hl (by simp;lia) λh' eb=>?_)
  show wpAny _ _ (Builtin.Dict.addKeywords D [] >>= _) _ _ _
  refine AA (AE (AE (hR h' s.toks ?_ λb o _ h2 e=>eb b o h2 e)))
  rw[Dt (by lia)]
  exact wL hd hDi (λb o hb e=>eb b o hb e) λo e=>by rw[hoi] at e;cases e;rw[hci];decide
 | succ n ih=>
  intro i s acc hn hacc hit hl hd hp hR
  have hi:i < items.size:=by lia
  obtain⟨v,hv⟩:∃ v,items[i]? = some v:=⟨items[i],by simp[hi]⟩
  obtain⟨p,hpi⟩:∃ p,ps[i]? = some p:=⟨ps[i]'(by lia),by rw[AD (by lia)]⟩
  refine BG qG ?_
  rw[A7 zN _]
  show wpAny _ A.in1 (pyNext (.ref it) >>= _) _ _ s
  refine AA (CD hit hl hv λh1 hit1 hs1=>?_)
  obtain⟨oi,hoi,hci,_⟩:=hit
  have nti:∀ o,s.heap.get? it=some o->o.cls ≠ .type "tuple":=λo e=>by rw[hoi] at e;cases e;rw[hci];decide
  have hp1:∀ (j:Nat) (p:List Key×Addr×Value) (v:Value),ps[j]? = some p->items[j]? = some v->Qm prog w h1 v p:=λj p v a b=>(hp j p v a b).keep (b0:=it) (λb o hb e=>hs1.extBut b o hb e) nti
  obtain⟨b,rfl,hb,hk⟩:=hp1 i p v hpi hv
  obtain⟨ot,e1,e2,nt,e3⟩:=id hb
  have hd1:=wL hd hDi (λb o hb e=>hs1.extBut b o hb e) nti
  refine AA (BL (AA (wpAny_tryCatch ?_)))
  unfold Builtin.Dict.pairItems
  refine AA (Bw (T := "tuple") ⟨ot,e1,e2⟩ ?_)
  rw[if_pos (by decide)]
  refine AA (Bm e1 e3 (AE ?_))
  show wpAny _ _ (holding [.ref p.2.1,p.2.2] (dictSet D (.ref p.2.1) p.2.2)) _ _ _
  refine BL (wpAny_dictSet_heap (s:={ s with heap:=h1 }) (hsz:=by lia) (DI hu) hk hd1 λh2 hd2 hs2=>?_)
  refine AE ⟨Bb zN _,?_⟩
  have hl1:h1.IsList L items:=hl.extBut hs1.extBut hLi
  have hle:(storedH acc p.1 p.2.1 p.2.2).length<=i+1:=Aa (y8 ..) (by lia)
  obtain⟨oD,_,_,hoD,hcD,_⟩:=id hd1
  have:=ih (i+1) { s with heap:=h2,toks:=s.toks+(TK prog w).draws p.1 } (storedH acc p.1 p.2.1 p.2.2) (by lia) hle (hit1.extBut hs2.extBut (Aw hDi)) (hl1.extBut hs2.extBut (Aw hDL)) hd2 (λj p v a b=>(hp1 j p v a b).keep (b0:=D) (λb o hb e=>hs2.extBut b o hb e) λo e=>by
    rw[hoD] at e;cases e;rw[hcD.1];decide) λh' tk hd' hk'=>?_
  ·simpa using this
  ·refine hR h' tk ?_ λb o h1 h2 e=>hk' b o h1 h2 (hs2.extBut b o h1 (hs1.extBut b o h2 e))
   have e4:ps.drop i=p :: ps.drop (i+1):=by
    rw[AF] at hpi
    obtain⟨h5,h6⟩:=hpi
    rw[<- h6]
    exact CF h5
   unfold XX
   rw[e4,CI]
   exact hd'
def Q7 {E:Value->Shared->Prop} {Q:Value->Shared->Prop} {s:Shared} {L:Addr} {o:Obj} {items:Array Value} {k:Nat} {ps:List (List Key×Addr×Value)} (hh:A.handled=none) (hu:A.units+2 < cLine) (hx:s.heap.get? L=some o) (hc:o.cls=.type "list") (hdat:o.data=.seq items k) (hdn:o.dict=none)
  (hlen:ps.length=items.size) (hsz:ps.length<=sizeLine) (hp:∀ (j:Nat) (p:List Key×Addr×Value) (v:Value),ps[j]? = some p->items[j]? = some v->Qm prog w s.heap v p)
  (h:∀ h' tk,h'.DictOfH (TK prog w) s.heap.objs.size (XX [] ps)->(∀ b o,s.heap.get? b=some o->h'.get? b=some o)->Q (.ref s.heap.objs.size) { s with heap:=h',toks:=tk }) :
  wpAny (model prog w) A (call (.type "dict") [.ref L]) Q E s:=by
 refine callType_codes (Q₁:=λobj s₁=>obj=.ref s.heap.objs.size/\s₁ = { s with heap:=s.heap.push { cls:=.type "dict",data:=.dict #[] } }) PySem.F.kt_called_dict (Em _) PySem.F.entry_dict_init (kt_code_dict_new _ ⟨O,O⟩) ?_
 rintro obj s₁ ⟨rfl,rfl⟩
 have hnew:(s.heap.push { cls:=.type "dict",data:=.dict #[] }).DictOf (zW prog w) s.heap.objs.size []:=Heap.DictOf.new s.heap
 have hnewH:(s.heap.push { cls:=.type "dict",data:=.dict #[] }).DictOfH (TK prog w) s.heap.objs.size []:=⟨_,#[],0,AN _ rfl,⟨rfl,rfl,rfl⟩,rfl,rfl,λx hx=>(by cases hx),.nil⟩
 have hx1:=AC { cls:=.type "dict",data:=.dict #[] } hx
 have Llt:L < s.heap.objs.size:=AO hx
 refine⟨hnew.typeIs,PySem.F.args_dict_init_2 _ _,?_⟩
 unfold Builtin.«dict.__init__»
 refine AA ?_
 unfold Builtin.Dict.selfAndRest
 refine AA (EA hnew.typeIs ?_)
 show wpAny _ _ (pure (s.heap.objs.size,[Value.ref L])) _ _ _
 refine AE ?_
 show wpAny _ _ (Builtin.Dict.updateFrom "dict.__init__" s.heap.objs.size (.ref L) [] .none) _ _ _
 unfold Builtin.Dict.updateFrom
 refine AA (Bw (T := "list") ⟨o,hx1,hc⟩ ?_)
 rw[if_pos (by decide)]
 refine AA (JD hx1 hc hdat hdn (show A.in1.in1.handled=none from hh) λh' tk kp=>?_)
 rw[if_pos (by rfl)]
 have hL':h'.IsList L items:=⟨o,kp _ _ hx1,hc,k,hdat⟩
 refine AA (Bi (AA (Bx hL' ?_)))
 have Dget:∃ od,h'.get? s.heap.objs.size=some od:=⟨_,kp _ _ (AN _ rfl)⟩
 have Dlt:s.heap.objs.size < h'.objs.size:=let ⟨_,e⟩:=Dget;AO e
 refine AE ⟨Bb zN _,?_⟩
 have it0:(h'.push { cls:=.type "list_iterator",data:=.fields #[.ref L,.int 0 0] }).IsListIter h'.objs.size L 0:=⟨_,AN _ rfl,rfl,rfl⟩
 have hd':(h'.push { cls:=.type "list_iterator",data:=.fields #[.ref L,.int 0 0] }).DictOfH (TK prog w) s.heap.objs.size []:=by
  obtain⟨od,es,ep,e,h1,h2,h3,_,h5⟩:=hnewH
  exact⟨od,es,ep,AC _ (kp _ _ e),h1,h2,h3,(λx hx=>by cases hx),h5⟩
 refine XY (A:=A.in1) (show A.in1.handled=none from hh) (show A.units+1+1 < cLine from hu) s.heap.objs.size L h'.objs.size items (BD Llt) (AU Dlt) (AU (DX Llt Dlt)) ps hlen hsz items.size 0 { s with heap:=h'.push { cls:=.type "list_iterator",data:=.fields #[.ref L,.int 0 0] },toks:=tk } [] rfl (AM _) it0 (hL'.push _) hd' (λj p v a b=>?_) λh2 tk2 hd2 hk2=>?_
 ·obtain⟨bb,e1,⟨ot,e2,r⟩,⟨o3,i3,n3,e3,r3⟩⟩:=hp j p v a b
  exact⟨bb,e1,⟨ot,AC _ (kp _ _ (AC _ e2)),r⟩,⟨o3,i3,n3,AC _ (kp _ _ (AC _ e3)),r3⟩⟩
 ·refine⟨O,h h2 tk2 ?_ λb ob e=>hk2 b ob (AU (AO e)) (AU (DX (AO e) Dlt)) (AC _ (kp _ _ (AC _ e)))⟩
  rw[De] at hd2
  exact hd2
end
def Ya (H:Hp):List V->List (List Key×V)->Prop:=Paired λx p=>∃ b kb,x=.ref b/\H b=some (.tup [.ref kb,p.2])/\H kb=some (.tup (p.1.map kV))
def putAllT (kvs ps:List (List Key×V)):List (List Key×V):=ps.foldl (λacc p=>ZX acc p.1 p.2) kvs
def prsT_at {P:Program} {w:World} {H:Hp} {h:Heap} (ok:HOk P w H h) {xs:List V} {ps:List (List Key×V)} (r:Ya H xs ps):∀ {us:List Value},qF xs us->∃ rs:List (List Key×Addr×Value),KT H ps rs/\∀ (j:Nat) (p:List Key×Addr×Value) (v:Value),rs[j]? = some p->us[j]? = some v->Qm P w h v p:=by
 unfold Ya at r
 induction r with
 | nil=>
  intro us rv
  exact⟨[],.nil,λj p v e=>by simp at e⟩
 | @cons x p xs ps hx t ih=>
  intro us rv
  cases rv with
  | @cons _ u _ us hu rv=>
   obtain⟨rs,r1,r2⟩:=ih rv
   obtain⟨b,kb,rfl,hb,hkb⟩:=hx
   obtain⟨_,its,ri,o,e1,e2,⟨n,e3⟩,_⟩:=(show qO P w H h b (.tup [.ref kb,p.2]) from ok b _ hb)
   cases ri with
   | @cons _ ku _ _ hk ri=>
    cases ri with
    | @cons _ vu _ _ hv ri=>
     cases ri
     obtain rfl:ku=Value.ref kb:=hk
     refine⟨(p.1,kb,vu) :: rs,.cons ⟨O,hkb,hv⟩ r1,λj q v ej ev=>?_⟩
     cases j with
     | zero=>
      cases (AR ej)
      cases (AR ev)
      obtain rfl:u=Value.ref b:=hu
      exact⟨b,O,⟨o,e1,e2,n,e3⟩,wI ok hkb⟩
     | succ j=>exact r2 j q v ej ev
def put_allT {H:Hp} {ps:List (List Key×V)} {rs:List (List Key×Addr×Value)} (r:KT H ps rs):∀ {acc:List (List Key×V)} {bcc:List (List Key×Addr×Value)},KT H acc bcc->KT H (putAllT acc ps) (XX bcc rs):=by
 unfold KT at r
 induction r with
 | nil=>exact λq=>q
 | @cons p q ps qs h t ih=>
  intro acc bcc ra
  obtain⟨h1,h2,h3⟩:=h
  show KT H (putAllT (ZX acc p.1 p.2) ps) (XX (storedH bcc q.1 q.2.1 q.2.2) qs)
  rw[<- h1]
  exact ih (KT.put ra p.1 h2 h3)
theorem Qa:∀ (ps acc:List (List Key×V)),(putAllT acc ps).length<=acc.length+ps.length
 | [],acc=>AM _
 | p :: ps,acc=>by
  have h1:=Qa ps (ZX acc p.1 p.2)
  have h2:=Zm acc p.1 p.2
  show (putAllT (ZX acc p.1 p.2) ps).length<=_
  rw[Am];lia
section
variable {X:Cx}
def tDictPT (ta:TA):TE:=λσ H Q=>ta σ H λvs H1=>∃ p xs ps,vs=[.ref p]/\H1 p=some (.lst xs)/\Ya H1 xs ps/\∀ D,H1 D=none->Q (.ref D) (upd H1 D (.dT (putAllT [] ps)))
def XZ {k:Nat} (hr:QP k X.A) {a:Expr} {ta:TA} {p pos:Pos} (hg:Gl X "dict") (hm:X.mg "dict" = none) (ha:PA X [a] ta) (hs:starEach [a] X.env=[(false,eval a X.env)]:=by rfl) (hc:X.calm=true:=by rfl) :
  PE X (.Call (.Name "dict" p) [a] [] pos) (tDictPT ta):=by
 intro pins s σ H Q I h
 have hu:X.A.units+64 < cLine:=hr.units
 refine Call_ (Zx I hg hm Wi (BC (thn (ha pos pins s σ H _ I h) λus s1 ⟨vs,H1,I1,r1,q1⟩=>?_) hs rfl))
 obtain⟨p1,xs,ps,e,hq,hps,q⟩:=q1
 subst e
 obtain⟨u1,rfl,r2⟩:=vals1 r1
 cases r2
 obtain⟨hz,its,n,rv,eo⟩:=(show qO X.prog X.w H1 s1.heap p1 (.lst xs) from I1.hok p1 _ hq)
 obtain⟨rs,rk,hpa⟩:=prsT_at I1.hok hps rv
 have a1:ps.length=rs.length:=A3 rk
 have a2:=A3 hps
 have l1:rs.length=its.toArray.size:=by
  have a3:=rv.length
  simp;lia
 refine Q7 (ps:=rs) (I1.ok.hd hc) (by lia) eo rfl rfl rfl l1 (by lia) (λj p v a b=>hpa j p v a (by simpa using b)) λh' tk hd' kp=>?_
 have hb:(s1.heap.objs.size == sysModules)=false:=beq_eq_false_iff_ne.mpr (Aw (AU I1.big))
 have hl:(putAllT [] ps).length<=sizeLine:=by
  have:=Qa ps []
  simp at this;lia
 have Hn:H1 s1.heap.objs.size=none:=I1.hok.fresh (AM _)
 obtain⟨od,es,ep,f1,f2,f3,f4,_,f6⟩:=hd'
 exact⟨.ref s1.heap.objs.size,_,I1.laid (a:=s1.heap.objs.size) (o:=.dT (putAllT [] ps)) (t':=tk) kp (AM _) ⟨hl,hb,_,(put_allT rk .nil).keeps λb ys e=>by rw[zK (zL e Hn)];exact e,od,es,ep,f1,f2,f3,f4,f6⟩,O,q _ Hn⟩
def hu1 {k:Nat} {A:Around} (hr:QP k A):A.units+1 < cLine:=by
 have:A.units+64 < cLine:=hr.units
 lia
def rTNotIn:R2:=λy x H Q=>∃ a b kvs k,x=.ref a/\y=.ref b/\H a=some (.dT kvs)/\H b=some (.tup (k.map kV))/\Q (.bl (!(jz kvs k).isSome)) H
def X0 {j:Nat} (hr:QP j X.A):OpR X (compareOp .NotIn) rTNotIn:=by
 intro pins s σ H x y v u Q I rx ry h
 obtain⟨a,b,kvs,k,rfl,rfl,ha,hb,q⟩:=h
 have hu:X.A.units+64 < cLine:=hr.units
 obtain rfl:u=Value.ref a:=ry
 exact d_notIn (by lia) I (Wf.t ha hb) rx λs' I'=>⟨.bl _,H,I',O,q⟩
end
open PySem
abbrev Rs (xs:Array Nat):Prop:=xs.toList.Pairwise (· < ·)
def wM (xs:List Nat) (j:Nat):Nat:=(xs.filter λx=>decide (x < j)).length
def YW (xs:List Nat) (j:Nat):wM xs j<=xs.length:=DL _ _
theorem Zo:∀ (xs:List Nat) (j i:Nat) (x:Nat),xs.Pairwise (· < ·)->xs[i]? = some x->(x < j ↔ i < wM xs j)
 | [],j,i,x,_,h=>by simp at h
 | y :: xs,j,0,x,hp,h=>by
  obtain rfl:y=x:=by simpa using h
  unfold wM
  rw[CB]
  by_cases hy:y < j
  ·simp[hy]
  ·have:xs.filter (λx=>decide (x < j))=[]:=by
    rw[List.filter_eq_nil_iff]
    intro z hz
    have:=(Ce.mp hp).1 z hz
    simp
    lia
   simp[hy,this]
 | y :: xs,j,i+1,x,hp,h=>by
  have h':xs[i]? = some x:=by simpa using h
  have ih:=Zo xs j i x (Ce.mp hp).2 h'
  have hyx:=(Ce.mp hp).1 x (AJ h')
  unfold wM at ih ⊢
  rw[CB]
  by_cases hy:y < j
  ·simp only[hy,decide_true,if_true,List.length_cons]
   rw[ih]
   lia
  ·simp only[hy,decide_false,Bool.false_eq_true,if_false]
   constructor
   ·intro hx
    lia
   ·intro hi
    have:=ih.mpr (by lia)
    lia
theorem Wp {xs:Array Nat} {j:Nat} (hr:Rs xs):∀ (fuel lo hi:Nat),hi - lo<=fuel->lo<=wM xs.toList j->wM xs.toList j<=hi->hi<=xs.size->SetTable.below.go xs j fuel lo hi=wM xs.toList j
 | 0,lo,hi,h1,h2,h3,h4=>by
  unfold SetTable.below.go
  lia
 | fuel+1,lo,hi,h1,h2,h3,h4=>by
  unfold SetTable.below.go
  by_cases hlt:lo < hi
  ·rw[if_pos hlt]
   have hm:(lo+hi) / 2 < xs.size:=by lia
   have hx:xs.toList[(lo+hi) / 2]? = some xs[(lo+hi) / 2]:=by simp[hm]
   have hc:=Zo xs.toList j _ _ hr hx
   have eg:xs.getD ((lo+hi) / 2) j=xs[(lo+hi) / 2]:=by simp[Array.getD,hm]
   dsimp only
   rw[eg]
   by_cases hy:xs[(lo+hi) / 2] < j
   ·rw[if_pos hy]
    have:=hc.mp hy
    exact Wp hr fuel _ _ (by lia) (by lia) h3 h4
   ·rw[if_neg hy]
    have:¬ (lo+hi) / 2 < wM xs.toList j:=λz=>hy (hc.mpr z)
    exact Wp hr fuel _ _ (by lia) h2 (by lia) (by lia)
  ·rw[if_neg hlt]
   lia
def Qz {xs:Array Nat} (hr:Rs xs) (j:Nat):SetTable.below xs j=wM xs.toList j:=by
 unfold SetTable.below
 have:=YW xs.toList j
 exact Wp hr _ _ _ (by lia) (BA _) (by simpa using this) (AM _)
def at_below {xs:Array Nat} (hr:Rs xs) {j:Nat}:xs[SetTable.below xs j]? = some j ↔ j ∈ xs.toList:=by
 rw[Qz hr]
 constructor
 ·intro h
  have:xs.toList[wM xs.toList j]? = some j:=by simpa using h
  exact AJ this
 ·intro h
  obtain⟨i,hi⟩:=BN.mp h
  have h1:¬ i < wM xs.toList j:=λz=>A1 _ ((Zo _ _ _ _ hr hi).mpr z)
  have hil:=(AF.mp hi).1
  have hcl:wM xs.toList j<=i:=by lia
  have hc:wM xs.toList j < xs.toList.length:=by lia
  have hx:xs.toList[wM xs.toList j]? = some xs.toList[wM xs.toList j]:=AD hc
  have h2:¬ xs.toList[wM xs.toList j] < j:=λz=>A1 _ ((Zo _ _ _ _ hr hx).mp z)
  have e:wM xs.toList j=i:=by
   rcases Nat.lt_or_eq_of_le hcl with h3 | h3
   ·exfalso
    have:=C2.mp hr (wM xs.toList j) i hc hil h3
    have ei:xs.toList[i]=j:=(AF.mp hi).2
    lia
   ·exact h3
  rw[e]
  simpa using hi
def wN {xs:Array Nat} (hr:Rs xs) {i x:Nat} (h:xs[i]? = some x):SetTable.below xs (x+1)=i+1:=by
 rw[Qz hr]
 have hx:xs.toList[i]? = some x:=by simpa using h
 have h1:=(Zo _ (x+1) _ _ hr hx).mp (BV _)
 by_cases h2:i+1 < xs.toList.length
 ·have hy:xs.toList[i+1]? = some xs.toList[i+1]:=AD h2
  have h3:¬ xs.toList[i+1] < x+1:=by
   have hil:=(AF.mp hx).1
   have:=C2.mp hr i (i+1) hil h2 (BV _)
   have ei:xs.toList[i]=x:=(AF.mp hx).2
   lia
  have hn:¬ i+1 < wM xs.toList (x+1):=λz=>h3 ((Zo _ (x+1) _ _ hr hy).mpr z)
  lia
 ·have:=YW xs.toList (x+1)
  lia
def QA {α:Type} (xs:Array α) (p:Nat) (x:α):(SetTable.insertAt xs p x).toList=xs.toList.take p++x :: xs.toList.drop p:=by
 unfold SetTable.insertAt
 simp
 exact B8 (by simp)
def wO {xs:Array Nat} (hr:Rs xs) {j:Nat} (hj:j ∉ xs.toList):Rs (SetTable.insertAt xs (SetTable.below xs j) j):=by
 unfold Rs
 rw[QA,Qz hr]
 have hle:=YW xs.toList j
 rw[B1]
 refine⟨hr.sublist (List.take_sublist _ _),?_,?_⟩
 ·rw[Ce]
  refine⟨λy hy=>?_,hr.sublist (List.drop_sublist _ _)⟩
  obtain⟨i,hi⟩:=BN.mp hy
  rw[List.getElem?_drop] at hi
  have h1:¬ y < j:=λz=>by
   have:=(Zo _ j _ _ hr hi).mp z
   lia
  have h2:y ≠ j:=λz=>hj (z ▸ AJ hi)
  lia
 ·intro a ha b hb
  obtain⟨i,hi⟩:=BN.mp ha
  have hil:=(AF.mp hi).1
  rw[Ai] at hil
  rw[List.getElem?_take_of_lt (by lia)] at hi
  have haj:a < j:=(Zo _ j _ _ hr hi).mpr (by lia)
  rcases AX.mp hb with rfl | hb
  ·exact haj
  ·obtain⟨i',hi'⟩:=BN.mp hb
   rw[List.getElem?_drop] at hi'
   have h1:¬ b < j:=λz=>by
    have:=(Zo _ j _ _ hr hi').mp z
    lia
   lia
structure Qb (t:SetTable) (b:Bool):Prop where
 dum:t.dummies = #[]
 rs:Rs t.place
 led:t.led=b
def Qb.plainOff {t:SetTable} {b:Bool} (h:Qb t b):Qb { t with plain:=false } b:=⟨h.dum,h.rs,h.led⟩
def rs_range (n:Nat):Rs (Array.range n):=by
 unfold Rs
 rw[Array.toList_range]
 exact Bg
def Qb.standIn {t:SetTable} {b:Bool} (h:Qb t b) (n:Nat):Qb (t.standIn n) b:=⟨rfl,rs_range n,h.led⟩
def Qb.fresh (b:Bool):Qb (.fresh 0 0 b) b:=⟨rfl,List.Pairwise.nil,rfl⟩
def Yb (j:Nat):SetTable.has #[] j=false:=by
 unfold SetTable.has
 simp
def xC {t:SetTable} {b:Bool} (h:Qb t b) {j:Nat} (e:t.slot j=.empty):j ∉ t.place.toList:=λhm=>by
 unfold SetTable.slot at e
 have:=(at_below h.rs).mpr hm
 dsimp only at e
 rw[this] at e
 simp at e
def Yc {t:SetTable} {b:Bool} (h:Qb t b) {j:Nat}:t.slot j ≠ .dummy:=λe=>by
 unfold SetTable.slot at e
 rw[h.dum,Yb] at e
 dsimp only at e
 split at e
 ·cases e
 ·simp at e
def X1 (t:SetTable) (p:SetTable.Probe):(t.advance p).dummy=p.dummy:=by
 unfold SetTable.advance
 split <;> rfl
theorem wP {t:SetTable} {b:Bool} (h:Qb t b) {f:Nat->Int} {x:Int}:∀ (fuel:Nat) (p:SetTable.Probe) (j:Nat) (d:Option Nat),p.dummy=none->SetTable.probe.go t f x fuel p=some (.empty j d)->d=none/\t.slot j=.empty
 | 0,p,j,d,_,e=>by
  unfold SetTable.probe.go at e
  cases e
 | fuel+1,p,j,d,hp,e=>by
  unfold SetTable.probe.go at e
  cases hs:t.slot p.j with
  | empty=>
   rw[hs] at e
   dsimp only at e
   injection e with e
   injection e with e1 e2
   rw[<- e1,<- e2]
   exact⟨hp,hs⟩
  | dummy=>exact absurd hs (Yc h)
  | live i=>
   rw[hs] at e
   dsimp only at e
   split at e
   ·cases e
   ·exact wP h fuel _ j d (by rw[X1];exact hp) e
def X2 {t:SetTable} {b:Bool} (h:Qb t b) {x:Int} {sl:Nat} {wd:Bool} (e:t.freeSlot x=some (sl,wd)):wd=false/\sl ∉ t.place.toList:=by
 unfold SetTable.freeSlot SetTable.probe at e
 split at e
 ·rename_i j d hg
  obtain⟨rfl,hs⟩:=wP h _ _ j d rfl hg
  injection e with e
  injection e with e1 e2
  rw[<- e1,<- e2]
  exact⟨O,xC h hs⟩
 ·cases e
def Qb.put {t:SetTable} {b:Bool} (h:Qb t b) {sl:Nat} (hs:sl ∉ t.place.toList):Qb (t.put sl).1 b:=by
 unfold SetTable.put
 refine⟨?_,wO h.rs hs,h.led⟩
 dsimp only
 rw[h.dum,Yb]
 rfl
def Qb.orStandIn {t:SetTable} {b:Bool} (h:Qb t b) (n:Nat):Qb (t.orStandIn n) b:=by
 unfold SetTable.orStandIn
 split
 ·exact h
 ·exact h.standIn n
def X3 {t:SetTable} {b:Bool} (h:Qb t b) (es:Array (Int×Value)) (x:Int) (v:Value):Qb (layNew t es x v).2.1 b:=by
 unfold layNew
 split
 ·rename_i sl wd hf
  exact (h.put (X2 h hf).2).orStandIn _
 ·exact h.standIn _
def yi {f:Nat->Option Nat}:∀ (n:Nat),(((List.range n).filterMap λj=>(f j).map (j,·)).map (·.1)).Pairwise (· < ·):=by
 intro n
 have e:(((List.range n).filterMap λj=>(f j).map (j,·)).map (·.1))=(List.range n).filter λj=>(f j).isSome:=by
  induction List.range n with
  | nil=>rfl
  | cons a l ih=>
   rw[C4,CB]
   cases hf:f a with
   | none=>simpa using ih
   | some k=>simpa using ih
 rw[e]
 exact B2 _ Bg
def Yd {t:SetTable} {b:Bool} (h:Qb t b) (es:Array (Int×Value)) (w:Nat):Qb (relayAll t es w).2.1 b:=by
 unfold relayAll
 split
 ·rename_i t' order hr
  dsimp only
  split
  ·unfold SetTable.relaid SetTable.laid at hr
   cases ho:SetTable.layClean (SetTable.sizeAbove w - 1) (es.map (·.1)) with
   | none=>
    rw[ho] at hr
    cases hr
   | some owner=>
    rw[ho] at hr
    have hr':=AR hr
    have e1:_=t':=BQ Prod.fst hr'
    rw[<- e1]
    exact⟨O,yi (f:=λj=>owner.getD j none) _,h.led⟩
  ·exact h.standIn _
 ·exact h.standIn _
section
variable {prog:Program} {w:World} {K:Type} [DecidableEq K] {knd:KeyKind prog w K} {A:Around} {E:Value->Shared->Prop} {s:Shared}
def SetT (knd:KeyKind prog w K) (h:Heap) (a:Addr) (S:K->Bool) (n:Nat) (b:Bool):Prop:=
 ∃ o es ep t,h.get? a=some o/\o.ExactSet/\o.data=.set es ep t/\ElemsOf knd es.toList/\(∀ k,S k=true ↔ ∃ e ∈ es.toList,knd.is k e.2=true)/\es.size < scanBound/\t.fits es.size=true/\es.size=n/\Qb t b
def wQ {h:Heap} {a:Addr} {o:Obj} {es:Array (Int×Value)} {ep:Nat} {t:SetTable} {b:Bool} (ho:h.get? a=some o) (hex:o.ExactSet) (hd:o.data=.set es ep t)
  {es':Array (Int×Value)} {t':SetTable} {S':K->Bool} (hel:ElemsOf knd es'.toList) (hmem:∀ k,S' k=true ↔ ∃ e ∈ es'.toList,knd.is k e.2=true) (hb:es'.size < scanBound) (hf:t'.fits es'.size=true) (ht:Qb t' b) :
  (h.update a (Obj.putSet es' t')).get? a=some { o with data:=.set es' (ep+1) t' }/\SetT knd (h.update a (Obj.putSet es' t')) a S' es'.size b:=by
 have hg:(h.update a (Obj.putSet es' t')).get? a=some { o with data:=.set es' (ep+1) t' }:=by
  have:=Az (Obj.putSet es' t') ho (by rw[ET es' t' hd];rfl)
  rw[ET es' t' hd] at this;exact this
 exact⟨hg,_,es',ep+1,t',hg,hex,O,hel,hmem,hb,hf,O,ht⟩
def YX {g:Bool->Sem Unit} (hg:∀ (b:Bool) (s₁:Shared) (Q':Unit->Shared->Prop),Q' () s₁->wpAny (model prog w) A (g b) Q' E s₁)
  {a:Addr} {o:Obj} {es:Array (Int×Value)} {ep:Nat} {t:SetTable} (ho:s.heap.get? a=some o) (hex:o.ExactSet) (hd:o.data=.set es ep t)
  {es1:Array (Int×Value)} {t2:SetTable} {S':K->Bool} {bb:Bool} (hel1:ElemsOf knd es1.toList) (hmem1:∀ k',S' k'=true ↔ ∃ e ∈ es1.toList,knd.is k' e.2=true)
  (hb1:es1.size < scanBound) (hf2:t2.fits es1.size=true) (ht2:Qb t2 bb) {wasDummy:Bool} {R:Option Bool->Shared->Prop}
  (h:∀ h',Heap.SameBut a s.heap h'->SetT knd h' a S' es1.size bb->R (some true) { s with heap:=h' }) :
  wpAny (model prog w) A (do
    storeSet a es1 t2
    if (!wasDummy && t2.tooFull)=true then do
      g (relayAll t2 es1 (SetTable.grown es1.size)).2.2
      storeSet a (relayAll t2 es1 (SetTable.grown es1.size)).1 (relayAll t2 es1 (SetTable.grown es1.size)).2.1
      pure (some true)
     else pure (some true)) R E s:=by
 refine AA (Du ho hd ?_ (CZ hb1))
 obtain⟨ho1,hS1⟩:=wQ (knd:=knd) ho hex hd hel1 hmem1 hb1 hf2 ht2
 have hsb1:=A6 s.heap a (Obj.putSet es1 t2)
 split
 ·have hp:=relayAll_perm t2 es1 (SetTable.grown es1.size)
  have hfr:=relayAll_fits t2 es1 (SetTable.grown es1.size)
  have htr:=Yd ht2 es1 (SetTable.grown es1.size)
  generalize hRl:relayAll t2 es1 (SetTable.grown es1.size)=Rl at hp hfr htr ⊢
  obtain⟨es2,t3,gave2⟩:=Rl
  dsimp only at hp hfr htr ⊢
  have hel2:ElemsOf knd es2.toList:=hel1.perm hp
  have hmem2:∀ k',S' k'=true ↔ ∃ e ∈ es2.toList,knd.is k' e.2=true:=λk'=>(hmem1 k').trans ⟨λ⟨e,he,q⟩=>⟨e,hp.mem_iff.mpr he,q⟩,λ⟨e,he,q⟩=>⟨e,hp.mem_iff.mp he,q⟩⟩
  have hsz:es2.size=es1.size:=by rw[<- Au,hp.length_eq,Au]
  have hb2:es2.size < scanBound:=by rw[hsz];exact hb1
  refine AA (hg _ _ _ ?_)
  refine AA (Du ho1 rfl ?_ (CZ hb2))
  obtain⟨_,hS2⟩:=wQ (knd:=knd) ho1 hex rfl hel2 hmem2 hb2 hfr htr
  rw[hsz] at hS2
  exact AE (h _ (hsb1.trans (A6 _ a _)) hS2)
 ·exact AE (h _ hsb1 hS1)
def setAddT {a:Addr} {S:K->Bool} {n:Nat} {bb:Bool} {k:K} {x:Value} {Q:Bool->Shared->Prop} (hkey:knd.is k x=true) (hsc:x.scannable=true) (hS:SetT knd s.heap a S n bb)
  (hroom:n+1 < scanBound)
  (h:∀ h',Heap.SameBut a s.heap h'->SetT knd h' a (λk'=>S k' || decide (k'=k)) (if S k then n else n+1) bb->Q (!S k) { s with heap:=h' }) :
  wpAny (model prog w) A (setAddHashed a x (knd.hash k)) Q E s:=by
 obtain⟨o,es,ep,t,ho,hex,hd,hel,hmem,hb,hf,hn,ht⟩:=hS
 have hb1:es.size+1 < scanBound:=by rw[hn];exact hroom
 unfold setAddHashed setAddHashedIn
 refine BL (AA (A5 ho hd hf ?_))
 dsimp only
 rw[byScan_of hsc hb hel]
 simp only[↓reduceIte]
 unfold setAddByScan
 refine AA ?_
 refine AA (Bi ?_)
 refine AA (wpAny_setScan_of hkey ho hd hf hel ?_)
 cases hr:List.findIdx? (λe=>knd.is k e.2) es.toList with
 | some j=>
  dsimp only
  obtain⟨hj,hpj,_⟩:=EG.mp hr
  have hSk:S k=true:=(hmem k).mpr ⟨es.toList[j],Cz hj,hpj⟩
  refine AE (AE ?_)
  have e:s = { s with heap:=s.heap }:=by cases s;rfl
  have:=h s.heap (Heap.SameBut.refl a s.heap) ⟨o,es,ep,t,ho,hex,hd,hel,λk'=>by
   rw[Bool.or_eq_true,decide_eq_true_eq,<- hmem k']
   exact⟨λhk=>hk.elim id (λe=>e ▸ hSk),.inl⟩,hb,hf,by rw[hSk];exact hn,ht⟩
  rw[hSk] at this;rw[e];exact this
 | none=>
  dsimp only
  have hSk:S k=false:=by
   cases hk:S k with
   | false=>rfl
   | true=>obtain⟨e,he,hp⟩:=(hmem k).mp hk;have:=List.findIdx?_eq_none_iff.mp hr e he;rw[hp] at this;exact Bool.noConfusion this
  have hgw:∀ (b:Bool) {s₁:Shared} {Q':Unit->Shared->Prop},Q' () s₁->wpAny (model prog w) A (match b with | true=>rule "set.scan.the-table-gave-way" | false=>pure ()) Q' E s₁:=
   λb s₁ Q' hq=>by cases b <;> first | exact AE hq | exact Bi hq
  have hperm:=layNew_perm t es (knd.hash k) x
  have hfits:=layNew_fits t es (knd.hash k) x
  have hti:=X3 ht es (knd.hash k) x
  generalize hL:layNew t es (knd.hash k) x=L at hperm hfits hti ⊢
  obtain⟨es1,t1,wasDummy,gave⟩:=L
  dsimp only at hperm hfits hti ⊢
  rw[ES] at hperm
  have hel1:ElemsOf knd es1.toList:=(hel.push hkey hsc).perm hperm
  have hmem1:∀ k',(S k' || decide (k'=k))=true ↔ ∃ e ∈ es1.toList,knd.is k' e.2=true:=mem_push_iff hkey hmem hperm
  have hb1':es1.size < scanBound:=by rw[<- Au,hperm.length_eq,AL,Au];simpa using hb1
  refine AA (hgw _ ?_)
  have hsz1:es1.size=n+1:=by rw[<- Au,hperm.length_eq,AL,Au,hn];rfl
  have hend:∀ h',Heap.SameBut a s.heap h'->SetT knd h' a (λk'=>S k' || decide (k'=k)) es1.size bb->Q true { s with heap:=h' }:=by
   intro h' hsb hS';have:=h h' hsb;rw[hSk] at this;rw[hsz1] at hS';exact this hS'
  split
  ·refine AA ?_
   rw[hashByValue_scannable 8 hsc]
   refine AE ?_
   refine YX (bb:=bb) ?_ ho hex hd hel1 hmem1 hb1' ?_ ?_ ?_
   ·intro b s₁ Q' hq;cases b <;> first | exact AE hq | exact Bi hq
   ·split
    ·exact hfits
    ·exact SetTable.fits_plain_off hfits
   ·split
    ·exact hti
    ·exact hti.plainOff
   ·intro h' hsb hS';dsimp only;exact AE (hend h' hsb hS')
  ·refine AA (AE ?_)
   simp only[↓reduceIte]
   refine YX (bb:=bb) ?_ ho hex hd hel1 hmem1 hb1' hfits hti ?_
   ·intro b s₁ Q' hq;cases b <;> first | exact AE hq | exact Bi hq
   ·intro h' hsb hS';dsimp only;exact AE (hend h' hsb hS')
end
def tt0 (mask:Nat) (P:List Nat):SetTable:={ mask:=mask,place:=P.toArray,dummies:=#[],finger:=0,led:=true,moves:=0,plain:=true }
def xD:Nat->Nat->List (List Nat)
 | 0,_=>[[]]
 | hi+1,n=>xD hi n++(if n=0 then [] else (xD hi (n - 1)).map (·++[hi]))
theorem Wq:∀ (hi n:Nat),[] ∈ xD hi n
 | 0,n=>AG.mpr rfl
 | hi+1,n=>Ao _ (Wq hi n)
theorem Jk:∀ (hi n:Nat) (P:List Nat),P.Pairwise (· < ·)->(∀ p ∈ P,p < hi)->P.length<=n->P ∈ xD hi n
 | 0,n,P,_,hl,_=>by
  cases P with
  | nil=>exact Wq 0 n
  | cons p P=>exact absurd (hl p (Af ..)) (CG _)
 | hi+1,n,P,hp,hl,hn=>by
  rcases DM P with rfl | ⟨Q,q,rfl⟩
  ·exact Wq _ _
  ·rw[Co] at *
   rw[B1] at hp
   obtain⟨h1,_,h3⟩:=hp
   have hq:=hl q (by simp)
   rw[AL] at hn
   have hn':Q.length+1<=n:=hn
   by_cases e:q=hi
   ·refine Ae _ ?_
    rw[if_neg (by lia),e]
    exact AI.mpr ⟨Q,Jk hi (n - 1) Q h1 (λp hp=>by have:=h3 p hp q (by simp);lia) (by lia),O⟩
   ·refine Ao _ (Jk hi n _ ?_ (λp hp=>?_) (by rw[AL];exact hn))
    ·rw[B1]
     exact⟨h1,DA _ _,h3⟩
    ·rcases AV.mp hp with h | h
     ·have:=h3 p h q (by simp)
      lia
     ·rw[AG.mp h]
      lia
theorem free7':((xD 8 4).all λP=>(List.range 9).all λd=>match (tt0 7 P).freeSlot (d:Int) with
  | some (sl,_)=>decide (sl < 8)
  | none=>false)=true:=by ac_rfl
def free31':((xD 9 9).all λP=>(List.range 9).all λd=>P.contains d || (tt0 31 P).freeSlot (d:Int) == some (d,false))=true:=by ac_rfl
def X4 (t:SetTable) (hd:t.dummies = #[]) (h:Int):t.freeSlot h=(tt0 t.mask t.place.toList).freeSlot h:=by
 obtain⟨mask,place,dummies,finger,led,moves,plain⟩:=t
 dsimp only at hd
 subst hd
 obtain⟨pl⟩:=place
 unfold SetTable.freeSlot SetTable.probe
 have slot_as:∀ j,SetTable.slot ⟨mask,⟨pl⟩,#[],finger,led,moves,plain⟩ j=SetTable.slot (tt0 mask pl) j:=λj=>rfl
 have adv_as:∀ p,SetTable.advance ⟨mask,⟨pl⟩,#[],finger,led,moves,plain⟩ p=SetTable.advance (tt0 mask pl) p:=λp=>rfl
 have go_as:∀ (f:Nat->Int) (x:Int) (fuel:Nat) (p:SetTable.Probe),SetTable.probe.go ⟨mask,⟨pl⟩,#[],finger,led,moves,plain⟩ f x fuel p=SetTable.probe.go (tt0 mask pl) f x fuel p:=by
  intro f x fuel
  induction fuel with
  | zero=>intro p;rfl
  | succ fuel ih=>
   intro p
   unfold SetTable.probe.go
   rw[slot_as]
   cases SetTable.slot (tt0 mask pl) p.j with
   | empty=>rfl
   | dummy=>
    dsimp only
    rw[adv_as]
    exact ih _
   | live i=>
    dsimp only
    rw[adv_as,ih]
 rw[go_as]
 rfl
structure Dg (es:Array (Int×Value)) (t:SetTable) (b:Bool):Prop where
 ti:Qb t b
 plain:t.plain=true
 len:t.place.size=es.size
 form:(t.mask=7/\es.size<=4/\∀ p ∈ t.place.toList,p < 8)\/(t.mask=31/\es.size<=9/\es.toList.map (·.1)=t.place.toList.map (λ(p:Nat)=>(p:Int))/\∀ p ∈ t.place.toList,p < 9)
def dg_fresh (b:Bool):Dg #[] (.fresh 0 0 b) b:=⟨Qb.fresh b,rfl,rfl,.inl ⟨rfl,BA _,λp hp=>by cases hp⟩⟩
def Jl {α:Type} (xs:Array α) (p:Nat) (x:α) (hp:p<=xs.size):(SetTable.insertAt xs p x).size=xs.size+1:=by
 rw[<- Au,QA,AL,Am,Ai,CA,Au]
 lia
def YY {xs:Array Nat} (hr:Rs xs) (j:Nat):SetTable.below xs j<=xs.size:=by
 rw[Qz hr]
 simpa using YW xs.toList j
def lay7 {es:Array (Int×Value)} {t:SetTable} {b:Bool} (h:Dg es t b) (h7:t.mask=7) (h4:es.size<=4) (h8:∀ p ∈ t.place.toList,p < 8) {d:Nat} (hd:d < 9) (v:Value) :
  ∃ sl,sl < 8/\sl ∉ t.place.toList/\t.freeSlot (d:Int)=some (sl,false):=by
 have hm:=Jk 8 4 t.place.toList h.ti.rs h8 (by have:=h.len;simp;lia)
 have hc:=Al.mp (Al.mp free7' _ hm) d (Ab.mpr hd)
 have e:=X4 t h.ti.dum (d:Int)
 rw[h7] at e
 rw[<- e] at hc
 cases hf:t.freeSlot (d:Int) with
 | none=>rw[hf] at hc;cases hc
 | some z=>
  obtain⟨sl,wd⟩:=z
  rw[hf] at hc
  obtain⟨h1,h2⟩:=X2 h.ti hf
  exact⟨sl,Ar hc,h2,by rw[h1]⟩
def lay31 {es:Array (Int×Value)} {t:SetTable} {b:Bool} (h:Dg es t b) (h31:t.mask=31) (h9:∀ p ∈ t.place.toList,p < 9) (hs:es.size<=9) {d:Nat} (hd:d < 9) (hn:d ∉ t.place.toList):t.freeSlot (d:Int)=some (d,false):=by
 have hm:=Jk 9 9 t.place.toList h.ti.rs h9 (by have:=h.len;simp;lia)
 have hc:=Al.mp (Al.mp free31' _ hm) d (Ab.mpr hd)
 have e:=X4 t h.ti.dum (d:Int)
 rw[h31] at e
 rw[<- e] at hc
 rcases (Bool.or_eq_true _ _).mp hc with hc | hc
 ·exact absurd (by simpa using hc) hn
 ·exact eq_of_beq hc
structure Own (ds:List Nat) (owner:Array (Option Nat)) (k:Nat):Prop where
 size:owner.size=32
 own:∀ j i,owner.getD j none=some i ↔ (i < k/\ds[i]? = some j)
def bits_dig {d:Nat} (hd:d < 9):SetTable.bits (d:Int) % (31+1)=d:=by
 unfold SetTable.bits
 have e:((d:Int) % (2 ^ 64:Int))=(d:Int):=Int.emod_eq_of_lt (by lia) (by rw[show (2 ^ 64:Int)=18446744073709551616 from by decide];lia)
 rw[e,Av]
 lia
def free_own {ds:List Nat} {owner:Array (Option Nat)} {k d:Nat} (h:Own ds owner k) (hd:d < 9) (hn:∀ i,i < k->ds[i]? ≠ some d) (p:Nat):SetTable.layClean.free 31 owner (SetTable.turns 31) d p=some d:=by
 show SetTable.layClean.free 31 owner 46 d p=some d
 unfold SetTable.layClean.free
 have hr:SetTable.runEnd 31 d+1 - d=10:=by
  unfold SetTable.runEnd
  rw[if_pos (by lia)]
  lia
 rw[hr]
 have h0:(owner.getD (d+0) (some 0)).isNone=true:=by
  have h1:owner.getD d none=none:=by
   cases e:owner.getD d none with
   | none=>rfl
   | some i=>
    obtain⟨a,b⟩:=(h.own d i).mp e
    exact absurd b (hn i a)
  have hs:d < owner.size:=by rw[h.size];lia
  rw[EM]
  simp[Array.getD,hs] at h1 ⊢
  exact h1
 rw[show List.range 10=0 :: [1,2,3,4,5,6,7,8,9] from rfl,List.find?_cons_of_pos (p:=λk=>(owner.getD (d+k) (some 0)).isNone) h0]
 rfl
def own_step {ds:List Nat} {owner:Array (Option Nat)} {k d:Nat} (h:Own ds owner k) (hd:d < 9) (hk:ds[k]? = some d) (hn:∀ i,i < k->ds[i]? ≠ some d):Own ds (owner.setIfInBounds d (some k)) (k+1):=by
 refine⟨by simp[h.size],λj i=>?_⟩
 have hs:d < owner.size:=by rw[h.size];lia
 by_cases e:j=d
 ·subst e
  have e1:(owner.setIfInBounds j (some k)).getD j none=some k:=by simp[Array.getD,hs]
  rw[e1]
  constructor
  ·intro z
   cases z
   exact⟨BV _,hk⟩
  ·rintro⟨a,b⟩
   rcases Nat.lt_succ_iff_lt_or_eq.mp a with a | a
   ·exact absurd b (hn i a)
   ·rw[a]
 ·have e1:(owner.setIfInBounds d (some k)).getD j none=owner.getD j none:=by
   simp only[Array.getD_eq_getD_getElem?,Array.getElem?_setIfInBounds]
   rw[if_neg (λz=>e z.symm)]
  rw[e1,h.own]
  constructor
  ·rintro⟨a,b⟩
   exact⟨BF a,b⟩
  ·rintro⟨a,b⟩
   rcases Nat.lt_succ_iff_lt_or_eq.mp a with a | a
   ·exact⟨a,b⟩
   ·subst a
    rw[hk] at b
    exact absurd (AR b).symm e
def X5 {ds:List Nat} (hd:∀ d ∈ ds,d < 9) (nd:ds.Nodup):∃ owner,SetTable.layClean 31 (ds.map λ(d:Nat)=>(d:Int)).toArray=some owner/\Own ds owner ds.length:=by
 unfold SetTable.layClean
 rw[<- Array.foldl_toList]
 have key:∀ (r:List Nat) (pre:List Nat) (owner:Array (Option Nat)),ds=pre++r->Own ds owner pre.length ->
   ∃ owner',(r.map λ(d:Nat)=>(d:Int)).foldl (λ(acc:Option (Array (Option Nat)×Nat)) h=>do
    let (owner,k) <- acc
    let j <- SetTable.layClean.free 31 owner (SetTable.turns 31) (SetTable.bits h % (31+1)) (SetTable.bits h)
    pure (owner.setIfInBounds j (some k),k+1)) (some (owner,pre.length))=some (owner',ds.length)/\Own ds owner' ds.length:=by
  intro r
  induction r with
  | nil=>
   intro pre owner e ho
   rw[Bt] at e
   rw[e] at ho ⊢
   exact⟨owner,O,ho⟩
  | cons d r ih=>
   intro pre owner e ho
   have hk:ds[pre.length]? = some d:=by rw[e];simp
   have hdd:d < 9:=hd d (by rw[e];simp)
   have hn:∀ i,i < pre.length->ds[i]? ≠ some d:=λi hi z=>by
    have hk2:=hk
    have:=(List.getElem?_inj (AF.mp z).1 nd).mp (z.trans hk2.symm)
    lia
   have hs:=own_step ho hdd hk hn
   have hf:=free_own ho hdd hn (SetTable.bits (d:Int))
   rw[Aj,CI]
   have e2:(do
    let (owner,k) <- some (owner,pre.length)
    let j <- SetTable.layClean.free 31 owner (SetTable.turns 31) (SetTable.bits (d:Int) % (31+1)) (SetTable.bits (d:Int))
    pure (owner.setIfInBounds j (some k),k+1))=some (owner.setIfInBounds d (some pre.length),pre.length+1):=by
    show (SetTable.layClean.free 31 owner (SetTable.turns 31) (SetTable.bits (d:Int) % (31+1)) (SetTable.bits (d:Int)) >>= λj=>some (owner.setIfInBounds j (some pre.length),pre.length+1))=_
    rw[bits_dig hdd,hf]
    rfl
   rw[e2]
   have:=ih (pre++[d]) (owner.setIfInBounds d (some pre.length)) (by rw[e];simp) (by rw[List.length_append];exact hs)
   rw[AL] at this
   exact this
 obtain⟨owner,e,ho⟩:=key ds [] (Array.replicate 32 none) rfl ⟨by simp,λj i=>by
  constructor
  ·intro z
   exfalso
   by_cases hj:j < 32
   ·simp[Array.getD,hj] at z
   ·simp[Array.getD,hj] at z
  ·rintro⟨a,_⟩
   exact absurd a (CG _)⟩
 refine⟨owner,?_,ho⟩
 rw[show ((ds.map λ(d:Nat)=>(d:Int)).toArray).toList=ds.map λ(d:Nat)=>(d:Int) from rfl]
 exact BQ (Option.map (·.1)) e
def jg (owner:Array (Option Nat)):List (Nat×Nat):=(List.range 32).filterMap λj=>(owner.getD j none).map (j,·)
def ZY {ds:List Nat} {owner:Array (Option Nat)} (h:Own ds owner ds.length) (hd:∀ d ∈ ds,d < 9) {z:Nat×Nat}:z ∈ jg owner ↔ ds[z.2]? = some z.1:=by
 unfold jg
 rw[ED]
 constructor
 ·rintro⟨j,hj,e⟩
  obtain⟨i,e1,rfl⟩:=AW.mp e
  exact ((h.own j i).mp e1).2
 ·intro e
  have hi:=(AF.mp e).1
  have h9:=hd _ (AJ e)
  refine⟨z.1,Ab.mpr (by lia),?_⟩
  rw[(h.own z.1 z.2).mpr ⟨hi,e⟩]
  rfl
def X6 (owner:Array (Option Nat)):((jg owner).map (·.1)).Pairwise (· < ·):=yi (f:=λj=>owner.getD j none) 32
def X7 {ds:List Nat} {owner:Array (Option Nat)} (h:Own ds owner ds.length) (hd:∀ d ∈ ds,d < 9):List.Perm ((jg owner).map (·.2)) (List.range ds.length):=by
 have rs:=X6 owner
 rw[CO] at rs
 refine (Dd ?_ EZ).mpr λi=>?_
 ·unfold List.Nodup
  rw[CO]
  refine List.Pairwise.imp_of_mem (λ{a b} ha hb hab e=>?_) rs
  have h1:=(ZY h hd).mp ha
  have h2:=(ZY h hd).mp hb
  rw[e,h2] at h1
  have:=AR h1
  lia
 ·rw[AI,Ab]
  constructor
  ·rintro⟨z,hz,rfl⟩
   exact (AF.mp ((ZY h hd).mp hz)).1
  ·intro hi
   exact⟨(ds[i],i),(ZY h hd).mpr (AD hi),O⟩
theorem X8 {es:Array (Int×Value)}:∀ (L:List Nat),(∀ i ∈ L,i < es.size)->L.filterMap (es[·]?)=L.map λi=>es.getD i (0,.none)
 | [],_=>rfl
 | i :: L,h=>by
  have hi:=h i (Af ..)
  rw[C4,Aj,X8 L λk hk=>h k (Ah _ hk)]
  simp[hi,Array.getD]
def X9 {es:Array (Int×Value)} {t:SetTable} {b:Bool} {ds:List Nat} (ti:Qb t b) (hp:t.plain=true) (he:es.toList.map (·.1)=ds.map λ(d:Nat)=>(d:Int)) (hd:∀ d ∈ ds,d < 9) (nd:ds.Nodup) (h9:ds.length<=9) {w:Nat} (hw:SetTable.sizeAbove w=32) :
  Dg (relayAll t es w).1 (relayAll t es w).2.1 b/\List.Perm (relayAll t es w).1.toList es.toList:=by
 have hl:es.size=ds.length:=by
  have:=BQ List.length he
  simpa using this
 obtain⟨owner,eo,ho⟩:=X5 hd nd
 have eh:es.map (·.1)=(ds.map λ(d:Nat)=>(d:Int)).toArray:=by
  apply Array.toList_inj.mp
  rw[Array.toList_map]
  exact he
 have er:t.relaid (es.map (·.1)) w=some ({ mask:=31,place:=((jg owner).map (·.1)).toArray,dummies:=#[],finger:=t.finger,led:=t.led,moves:=t.movedTo 31,plain:=t.plain },((jg owner).map (·.2)).toArray):=by
  unfold SetTable.relaid SetTable.laid
  rw[hw,eh,eo]
  rfl
 have perm:=X7 ho hd
 have ll:(jg owner).length=ds.length:=by
  have:=perm.length_eq
  rwa [AB,AZ] at this
 have hin:∀ i ∈ (jg owner).map (·.2),i < es.size:=λi hi=>by
  rw[hl]
  exact Ab.mp (perm.mem_iff.mp hi)
 have efm:(((jg owner).map (·.2)).toArray.filterMap (es[·]?)).toList=((jg owner).map (·.2)).map λi=>es.getD i (0,.none):=by
  rw[Array.toList_filterMap]
  exact X8 _ hin
 have esz:(((jg owner).map (·.2)).toArray.filterMap (es[·]?)).size=ds.length:=by
  rw[<- Au,efm,AB,AB,ll]
 have cov:coversAll ((jg owner).map (·.2)).toArray es.size=true:=by
  unfold coversAll
  rw[List.isPerm_iff,hl]
  exact perm
 have ra:relayAll t es w=(((jg owner).map (·.2)).toArray.filterMap (es[·]?),{ mask:=31,place:=((jg owner).map (·.1)).toArray,dummies:=#[],finger:=t.finger,led:=t.led,moves:=t.movedTo 31,plain:=t.plain },false):=by
  unfold relayAll
  rw[er]
  dsimp only
  rw[cov,esz]
  rw[if_pos]
  simp only[SetTable.fits,SetTable.fill,Bool.true_and,List.size_toArray,List.length_map,ll,Array.size_empty,Bool.and_eq_true,beq_iff_eq,decide_eq_true_eq]
  refine⟨trivial,?_⟩
  show _+0<=31
  lia
 have pm:=relayAll_perm t es w
 rw[ra] at pm ⊢
 refine⟨⟨⟨O,X6 owner,ti.led⟩,hp,?_,.inr ⟨O,by rw[esz];exact h9,?_,λp hp'=>?_⟩⟩,pm⟩
 ·show ((jg owner).map (·.1)).toArray.size=_
  rw[esz,A0,AB,ll]
 ·show (((jg owner).map (·.2)).toArray.filterMap (es[·]?)).toList.map (·.1)=((jg owner).map (·.1)).map λ(p:Nat)=>(p:Int)
  rw[efm,Ak,Ak,Ak]
  refine Bk λz hz=>?_
  have hz':=(ZY ho hd).mp hz
  have hi:=(AF.mp hz').1
  have:(es.toList.map (·.1))[z.2]? = some ((z.1:Nat):Int):=by rw[he,AH,hz'];rfl
  rw[AH] at this
  obtain⟨y,hy,ey⟩:=AW.mp this
  have hes:z.2 < es.size:=by lia
  show (es.getD z.2 (0,.none)).1=((z.1:Nat):Int)
  rw[<- ey]
  have:es[z.2]? = some y:=by simpa using hy
  simp[Array.getD,hes] at this ⊢
  rw[this]
 ·have hp'':p ∈ (jg owner).map (·.1):=by simpa using hp'
  obtain⟨z,hz,rfl⟩:=AI.mp hp''
  exact hd _ (AJ ((ZY ho hd).mp hz))
structure DgE (es:Array (Int×Value)) (t:SetTable) (b:Bool) (ds:List Nat):Prop where
 dg:Dg es t b
 he:es.toList.map (·.1)=ds.map λ(d:Nat)=>(d:Int)
 hd:∀ d ∈ ds,d < 9
 nd:ds.Nodup
def DgE.len {es:Array (Int×Value)} {t:SetTable} {b:Bool} {ds:List Nat} (h:DgE es t b ds):es.size=ds.length:=by
 have:=BQ List.length h.he
 simpa using this
def zaa (b:Bool):DgE #[] (.fresh 0 0 b) b []:=⟨dg_fresh b,rfl,(λd h=>by cases h),.nil⟩
theorem nine:∀ (m:Nat) (xs:List Nat),xs.Nodup->(∀ x ∈ xs,x < m)->xs.length<=m
 | 0,xs,_,h=>by
  cases xs with
  | nil=>exact AM _
  | cons x xs=>exact absurd (h x (Af ..)) (CG _)
 | m+1,xs,nd,h=>by
  have h1:=nine m (xs.erase m) (nd.erase m) λx hx=>by
   have h2:=h x (List.mem_of_mem_erase hx)
   have h3:x ≠ m:=λe=>by
    rw[e] at hx
    exact (List.Nodup.not_mem_erase nd) hx
   lia
  have h2:xs.length - 1<=(xs.erase m).length:=by
   rw[List.length_erase]
   split <;> lia
  lia
def addE (t:SetTable) (es:Array (Int×Value)) (x:Int) (v:Value):Array (Int×Value)×SetTable:=
 if (layNew t es x v).2.1.tooFull=true then ((relayAll (layNew t es x v).2.1 (layNew t es x v).1 (SetTable.grown (layNew t es x v).1.size)).1,(relayAll (layNew t es x v).2.1 (layNew t es x v).1 (SetTable.grown (layNew t es x v).1.size)).2.1) else ((layNew t es x v).1,(layNew t es x v).2.1)
def zab {t:SetTable} {es:Array (Int×Value)} {x:Int} {v:Value} {sl:Nat} {b:Bool} (h:Qb t b) (hl:t.place.size=es.size) (hf:t.freeSlot x=some (sl,false)) (hm:es.size+1<=t.mask) :
  layNew t es x v=(SetTable.insertAt es (SetTable.below t.place sl) (x,v),{ t with place:=SetTable.insertAt t.place (SetTable.below t.place sl) sl },false,false):=by
 have hp:(t.put sl)=({ t with place:=SetTable.insertAt t.place (SetTable.below t.place sl) sl },SetTable.below t.place sl):=by
  unfold SetTable.put
  rw[h.dum,Yb]
  obtain⟨mask,place,dummies,finger,led,moves,plain⟩:=t
  have:=h.dum
  dsimp only at this
  subst this
  rfl
 have bl:=YY h.rs sl
 have s1:(SetTable.insertAt es (SetTable.below t.place sl) (x,v)).size=es.size+1:=Jl _ _ _ (by lia)
 have s2:(SetTable.insertAt t.place (SetTable.below t.place sl) sl).size=es.size+1:=by rw[Jl _ _ _ bl,hl]
 have fit:({ t with place:=SetTable.insertAt t.place (SetTable.below t.place sl) sl }:SetTable).fits (es.size+1)=true:=by
  unfold SetTable.fits SetTable.fill
  dsimp only
  rw[s2,h.dum]
  simp
  lia
 unfold layNew
 rw[hf]
 dsimp only
 rw[hp]
 dsimp only
 rw[s1]
 unfold SetTable.orStandIn
 rw[if_pos fit,fit]
 rfl
def ins_map {α β:Type} (f:α->β) (xs:Array α) (p:Nat) (x:α):(SetTable.insertAt xs p x).toList.map f=(xs.toList.map f).take p++f x :: (xs.toList.map f).drop p:=by
 rw[QA,AK,Aj,DP,DQ]
def zac {xs ys:List Nat} (h:List.Perm (xs.map λ(d:Nat)=>(d:Int)) (ys.map λ(d:Nat)=>(d:Int))):List.Perm xs ys:=by
 have:=h.map Int.toNat
 simpa [List.map_map,Function.comp_def] using this
def dig_add {es:Array (Int×Value)} {t:SetTable} {b:Bool} {ds:List Nat} (h:DgE es t b ds) {d:Nat} (hd9:d < 9) (hn:d ∉ ds) (v:Value) :
  (layNew t es (d:Int) v).2.2.1=false/\(layNew t es (d:Int) v).2.1.plain=true/\∃ ds',DgE (addE t es (d:Int) v).1 (addE t es (d:Int) v).2 b ds'/\List.Perm ds' (d :: ds):=by
 have hl:=h.dg.len
 have el:=h.len
 have n9:ds.length+1<=9:=nine 9 (d :: ds) (BP.mpr ⟨hn,h.nd⟩) (λx hx=>by
  rcases AX.mp hx with rfl | hx
  ·exact hd9
  ·exact h.hd x hx)
 have perm:∀ p,List.Perm (ds.take p++d :: ds.drop p) (d :: ds):=λp=>by
  refine EY.trans ?_
  rw[Cm]
 have good:∀ p,(∀ x ∈ ds.take p++d :: ds.drop p,x < 9)/\(ds.take p++d :: ds.drop p).Nodup:=λp=>by
  refine⟨λx hx=>?_,?_⟩
  ·rcases AX.mp ((perm p).mem_iff.mp hx) with rfl | hx
   ·exact hd9
   ·exact h.hd x hx
  ·exact (perm p).nodup_iff.mpr (BP.mpr ⟨hn,h.nd⟩)
 have main:∀ sl,t.freeSlot (d:Int)=some (sl,false)->es.size+1<=t.mask->sl ∉ t.place.toList ->
   Qb { t with place:=SetTable.insertAt t.place (SetTable.below t.place sl) sl } b/\(SetTable.insertAt es (SetTable.below t.place sl) ((d:Int),v)).toList.map (·.1)=(ds.take (SetTable.below t.place sl)++d :: ds.drop (SetTable.below t.place sl)).map (λ(d:Nat)=>(d:Int))/\(SetTable.insertAt es (SetTable.below t.place sl) ((d:Int),v)).size=es.size+1/\(SetTable.insertAt t.place (SetTable.below t.place sl) sl).size=es.size+1:=λsl hf hm hs=>by
  have bl:=YY h.dg.ti.rs sl
  refine⟨⟨h.dg.ti.dum,wO h.dg.ti.rs hs,h.dg.ti.led⟩,?_,Jl _ _ _ (by lia),by rw[Jl _ _ _ bl,hl]⟩
  rw[ins_map,h.he,AK,Aj,DP,DQ]
 rcases h.dg.form with ⟨f7,f4,f8⟩ | ⟨f31,f9,fe,f99⟩
 ·obtain⟨sl,s8,hs,hf⟩:=lay7 h.dg f7 f4 f8 hd9 v
  have hm:es.size+1<=t.mask:=by lia
  have eL:=zab (v:=v) h.dg.ti hl hf hm
  obtain⟨ti',he',s1,s2⟩:=main sl hf hm hs
  obtain⟨g1,g2⟩:=good (SetTable.below t.place sl)
  have pp:=perm (SetTable.below t.place sl)
  generalize ds.take (SetTable.below t.place sl)++d :: ds.drop (SetTable.below t.place sl)=ds' at he' g1 g2 pp
  refine⟨by rw[eL],by rw[eL];exact h.dg.plain,?_⟩
  unfold addE
  rw[eL]
  dsimp only
  by_cases hfull:({ t with place:=SetTable.insertAt t.place (SetTable.below t.place sl) sl }:SetTable).tooFull=true
  ·rw[if_pos hfull]
   have h5:es.size+1=5:=by
    unfold SetTable.tooFull SetTable.fill at hfull
    dsimp only at hfull
    rw[s2,h.dg.ti.dum,f7] at hfull
    have:=Ar hfull
    simp at this
    lia
   have hw:SetTable.sizeAbove (SetTable.grown (SetTable.insertAt es (SetTable.below t.place sl) ((d:Int),v)).size)=32:=by
    rw[s1,h5]
    decide
   have r:=X9 (es:=SetTable.insertAt es (SetTable.below t.place sl) ((d:Int),v)) (t:={ t with place:=SetTable.insertAt t.place (SetTable.below t.place sl) sl }) (b:=b) ti' h.dg.plain he' g1 g2 (by rw[pp.length_eq];exact n9) hw
   obtain⟨r1,r2⟩:=r
   have rl:=r2.length_eq
   rw[Au,Au] at rl
   replace rl:=rl.trans s1
   rcases r1.form with ⟨_,q4,_⟩ | ⟨q1,q2,q3,q4⟩
   ·exfalso
    lia
   ·have pl:=r2.map Prod.fst
    have he2:=he'
    rw[show (λ(x:Int×Value)=>x.1)=Prod.fst from rfl] at q3 he2
    rw[q3,he2] at pl
    replace pl:=zac pl
    refine⟨_,⟨r1,q3,q4,pl.nodup_iff.mpr g2⟩,pl.trans pp⟩
  ·rw[if_neg hfull]
   have h4:es.size+1<=4:=by
    unfold SetTable.tooFull SetTable.fill at hfull
    dsimp only at hfull
    rw[s2,h.dg.ti.dum,f7] at hfull
    simp at hfull
    lia
   refine⟨ds',⟨⟨ti',h.dg.plain,by dsimp only;rw[s1,s2],.inl ⟨f7,by dsimp only;rw[s1];exact h4,λp hp=>?_⟩⟩,he',g1,g2⟩,pp⟩
   have hp':p ∈ (SetTable.insertAt t.place (SetTable.below t.place sl) sl).toList:=hp
   rw[QA] at hp'
   rcases AV.mp hp' with hp' | hp'
   ·exact f8 p (DT hp')
   ·rcases AX.mp hp' with rfl | hp'
    ·exact s8
    ·exact f8 p (List.mem_of_mem_drop hp')
 ·have eds:ds=t.place.toList:=by
   have h1:=h.he.symm.trans fe
   exact List.map_inj_right (λa b e=>by lia) |>.mp h1
  have hs:d ∉ t.place.toList:=eds ▸ hn
  have hf:=lay31 h.dg f31 f99 f9 hd9 hs
  have hm:es.size+1<=t.mask:=by lia
  have eL:=zab (v:=v) h.dg.ti hl hf hm
  obtain⟨ti',he',s1,s2⟩:=main d hf hm hs
  obtain⟨g1,g2⟩:=good (SetTable.below t.place d)
  have pp:=perm (SetTable.below t.place d)
  have ed':ds.take (SetTable.below t.place d)++d :: ds.drop (SetTable.below t.place d)=(SetTable.insertAt t.place (SetTable.below t.place d) d).toList:=by rw[QA,eds]
  rw[ed'] at he' g1 g2 pp
  refine⟨by rw[eL],by rw[eL];exact h.dg.plain,_,?_,pp⟩
  unfold addE
  rw[eL]
  dsimp only
  have hfull:¬ ({ t with place:=SetTable.insertAt t.place (SetTable.below t.place d) d }:SetTable).tooFull=true:=by
   unfold SetTable.tooFull SetTable.fill
   dsimp only
   rw[s2,h.dg.ti.dum,f31]
   simp
   lia
  rw[if_neg hfull]
  exact⟨⟨ti',h.dg.plain,by dsimp only;rw[s1,s2],.inr ⟨f31,by dsimp only;rw[s1];lia,he',g1⟩⟩,he',g1,g2⟩
def DIs (b:Bool) (h:Heap) (a:Addr) (ds:List Nat):Prop:=
 ∃ o es ep t,h.get? a=some o/\o.ExactSet/\o.data=.set es ep t/\DgE es t b ds/\∀ e ∈ es.toList,∃ tk,e.2=Value.int e.1 tk
def DIs.keep {b:Bool} {h h':Heap} {a:Addr} {ds:List Nat} (x:DIs b h a ds) (k:∀ o,h.get? a=some o->h'.get? a=some o):DIs b h' a ds:=by
 obtain⟨o,es,ep,t,ho,r⟩:=x
 exact⟨o,es,ep,t,k o ho,r⟩
def Dg.fits {es:Array (Int×Value)} {t:SetTable} {b:Bool} (h:Dg es t b):t.fits es.size=true:=by
 unfold SetTable.fits SetTable.fill
 rw[h.len,h.ti.dum]
 simp
 rcases h.form with ⟨h1,h2,_⟩ | ⟨h1,h2,_⟩ <;> lia
def Dg.small {es:Array (Int×Value)} {t:SetTable} {b:Bool} (h:Dg es t b):es.size<=9:=by
 rcases h.form with ⟨h1,h2,_⟩ | ⟨h1,h2,_⟩ <;> lia
def Wr:∀ d:Nat,d < 9->hashInt (d:Int)=(d:Int):=by decide
def DgE.mem {es:Array (Int×Value)} {t:SetTable} {b:Bool} {ds:List Nat} (h:DgE es t b ds) {e:Int×Value} (he:e ∈ es.toList):∃ d ∈ ds,e.1=(d:Int):=by
 have:=List.mem_map_of_mem (f:=λ(x:Int×Value)=>x.1) he
 rw[h.he] at this
 obtain⟨d,hd,e'⟩:=AI.mp this
 exact⟨d,hd,e'.symm⟩
def DgE.at {es:Array (Int×Value)} {t:SetTable} {b:Bool} {ds:List Nat} (h:DgE es t b ds) {d:Nat} (hd:d ∈ ds):∃ e ∈ es.toList,e.1=(d:Int):=by
 have:(d:Int) ∈ ds.map λ(d:Nat)=>(d:Int):=List.mem_map_of_mem hd
 rw[<- h.he] at this
 obtain⟨e,he,e'⟩:=AI.mp this
 exact⟨e,he,e'⟩
section
variable {prog:Program} {w:World} {A:Around} {E:Value->Shared->Prop} {s:Shared}
def zad {es:Array (Int×Value)} {t:SetTable} {b:Bool} {ds:List Nat} (h:DgE es t b ds) (hv:∀ e ∈ es.toList,∃ tk,e.2=Value.int e.1 tk):ElemsOf (intKind prog w) es.toList:=λe he=>by
 obtain⟨tk,ev⟩:=hv e he
 obtain⟨d,hd,e1⟩:=h.mem he
 rw[ev]
 refine⟨⟨e.1,by simp[intKind,Value.isInt],?_⟩,O⟩
 show e.1=hashInt e.1
 rw[e1,Wr d (h.hd d hd)]
def yj {h:Heap} {a:Addr} {o:Obj} {es es':Array (Int×Value)} {ep:Nat} {t t':SetTable} {b:Bool} {ds':List Nat} (ho:h.get? a=some o) (hex:o.ExactSet) (hd:o.data=.set es ep t) (hg:DgE es' t' b ds') (hv:∀ e ∈ es'.toList,∃ tk,e.2=Value.int e.1 tk) :
  DIs b (h.update a (Obj.putSet es' t')) a ds':=by
 have hgt:(h.update a (Obj.putSet es' t')).get? a=some { o with data:=.set es' (ep+1) t' }:=by
  have:=Az (Obj.putSet es' t') ho (by rw[ET es' t' hd];rfl)
  rw[ET es' t' hd] at this;exact this
 exact⟨_,es',ep+1,t',hgt,hex,O,hg,hv⟩
def setAddD {a:Addr} {ds:List Nat} {b:Bool} {d:Nat} {tk:Tok} {Q:Bool->Shared->Prop} (hS:DIs b s.heap a ds) (hd9:d < 9)
  (h:∀ h' ds',Heap.SameBut a s.heap h'->DIs b h' a ds'->List.Perm ds' (if d ∈ ds then ds else d :: ds)->Q (!decide (d ∈ ds)) { s with heap:=h' }) :
  wpAny (model prog w) A (setAddHashed a (.int (d:Int) tk) (hashInt (d:Int))) Q E s:=by
 obtain⟨o,es,ep,t,ho,hex,hd,hg,hv⟩:=hS
 have hf:=hg.dg.fits
 have hel:=zad (prog:=prog) (w:=w) hg hv
 have hb:es.size < scanBound:=by have:=hg.dg.small;unfold scanBound;lia
 have hkey:(intKind prog w).is (d:Int) (.int (d:Int) tk)=true:=by simp[intKind,Value.isInt]
 unfold setAddHashed setAddHashedIn
 refine BL (AA (A5 ho hd hf ?_))
 dsimp only
 rw[byScan_of (knd:=intKind prog w) rfl hb hel]
 simp only[↓reduceIte]
 unfold setAddByScan
 refine AA ?_
 refine AA (Bi ?_)
 refine AA (wpAny_setScan_of (knd:=intKind prog w) hkey ho hd hf hel ?_)
 cases hr:List.findIdx? (λe=>(intKind prog w).is (d:Int) e.2) es.toList with
 | some j=>
  dsimp only
  obtain⟨hj,hpj,_⟩:=EG.mp hr
  have hm:=Cz hj
  have hin:d ∈ ds:=by
   obtain⟨tk',ev⟩:=hv _ hm
   obtain⟨d',hd',e1⟩:=hg.mem hm
   rw[ev] at hpj
   have:es.toList[j].1=(d:Int):=by
    simp[intKind,Value.isInt] at hpj
    exact hpj
   rw[e1] at this
   rwa [show d'=d by lia] at hd'
  refine AE (AE ?_)
  have e:s = { s with heap:=s.heap }:=by cases s;rfl
  have:=h s.heap ds (Heap.SameBut.refl a s.heap) ⟨o,es,ep,t,ho,hex,hd,hg,hv⟩ (by rw[if_pos hin])
  rw[An hin] at this;rw[e];exact this
 | none=>
  dsimp only
  have hin:d ∉ ds:=λhin=>by
   obtain⟨e,he,e1⟩:=hg.at hin
   obtain⟨tk',ev⟩:=hv e he
   have:=List.findIdx?_eq_none_iff.mp hr e he
   rw[ev,e1] at this
   simp[intKind,Value.isInt] at this
  have hgw:∀ (b:Bool) {s₁:Shared} {Q':Unit->Shared->Prop},Q' () s₁->wpAny (model prog w) A (match b with | true=>rule "set.scan.the-table-gave-way" | false=>pure ()) Q' E s₁:=
   λb s₁ Q' hq=>by cases b <;> first | exact AE hq | exact Bi hq
  have eh:(intKind prog w).hash (d:Int)=(d:Int):=Wr d hd9
  have eh':hashInt (d:Int)=(d:Int):=Wr d hd9
  obtain⟨a1,a2,ds',a3,a4⟩:=dig_add hg hd9 hin (.int (d:Int) tk)
  have hperm:=layNew_perm t es (d:Int) (.int (d:Int) tk)
  unfold addE at a3
  rw[show (intKind prog w).hash (d:Int)=(d:Int) from eh] at *
  try rw[eh']
  generalize hL:layNew t es (d:Int) (.int (d:Int) tk)=L at a1 a2 a3 hperm ⊢
  obtain⟨es1,t1,wasDummy,gave⟩:=L
  dsimp only at a1 a2 a3 hperm ⊢
  subst a1
  rw[ES] at hperm
  have hv1:∀ e ∈ es1.toList,∃ tk,e.2=Value.int e.1 tk:=λe he=>by
   rcases AV.mp (hperm.mem_iff.mp he) with he | he
   ·exact hv e he
   ·rw[AG.mp he]
    exact⟨tk,O⟩
  have s1:es1.size=es.size+1:=by
   rw[<- Au,hperm.length_eq,AL,Au]
   rfl
  have hsm:=hg.dg.small
  have hb1:es1.size < scanBound:=by unfold scanBound;lia
  have pp:List.Perm ds' (if d ∈ ds then ds else d :: ds):=by rw[if_neg hin];exact a4
  have fin:∀ h',Heap.SameBut a s.heap h'->DIs b h' a ds'->Q true { s with heap:=h' }:=λh' z1 z2=>by
   have:=h h' ds' z1 z2 pp
   rw[As hin] at this
   exact this
  refine AA (hgw _ ?_)
  rw[if_pos a2]
  refine AA ?_
  rw[hashByValue_scannable 8 rfl]
  refine AE ?_
  simp only[plainKind,↓reduceIte,Bool.not_false,Bool.true_and]
  have hgt:(s.heap.update a (Obj.putSet es1 t1)).get? a=some { o with data:=.set es1 (ep+1) t1 }:=by
   have:=Az (Obj.putSet es1 t1) ho (by rw[ET es1 t1 hd];rfl)
   rw[ET es1 t1 hd] at this;exact this
  have hsb1:=A6 s.heap a (Obj.putSet es1 t1)
  refine AA (Du ho hd ?_ (CZ hb1))
  by_cases hfull:t1.tooFull=true
  ·rw[if_pos hfull] at a3 ⊢
   have hp:=relayAll_perm t1 es1 (SetTable.grown es1.size)
   generalize hRl:relayAll t1 es1 (SetTable.grown es1.size)=Rl at hp a3 ⊢
   obtain⟨es2,t3,gave2⟩:=Rl
   dsimp only at hp a3 ⊢
   refine AA (hgw _ ?_)
   have hb2:es2.size < scanBound:=by have:=a3.dg.small;unfold scanBound;lia
   refine AA (Du hgt rfl ?_ (CZ hb2))
   exact AE (AE (fin _ (hsb1.trans (A6 _ a _)) (yj hgt hex rfl a3 λe he=>hv1 e (hp.mem_iff.mp he))))
  ·rw[if_neg hfull] at a3 ⊢
   exact AE (AE (fin _ hsb1 (yj ho hex hd a3 hv1)))
end
abbrev qC (w:World):Bool:=w.params.followText "set-order"
section
variable {prog:Program} {w:World} {A:Around} {E:Value->Shared->Prop} {s:Shared}
def QB (a:Value) {Q₁:Value->Shared->Prop}
  (h:Q₁ (.ref s.heap.objs.size) { s with heap:=s.heap.push { cls:=.type "set",dict:=none,data:=.set #[] 0 (.fresh 0 0 (!qC w)) } }) :
  codeAny (model prog w) A (.call (.builtin "set.__new__") ⟨[.type "set",a],[]⟩) (wants Q₁ E) s:=by
 refine codeAny_of_tree ?_
 show wpAny _ A.in1 (do checkBuiltinCall "set.__new__" ⟨[.type "set",a],[]⟩;again (.builtin "set.__new__" ⟨[.type "set",a],[]⟩)) _ _ s
 refine AA (Bc (PySem.F.newCall_set_1 a) (AE ⟨Bb PySem.F.plain_set_new _,BG PySem.F.entry_set_new ?_⟩))
 rw[A7 PySem.F.plain_set_new _]
 unfold Builtin.«set.__new__» Builtin.Frozenset.newClass
 have hsub:=sub_set_self
 obtain⟨hp,g,d,tk,os⟩:=s
 dsimp only
 wp_walk
 refine Br (AE ?_)
 dsimp only
 simp only[newObj]
 refine AA (wpAny_alloc (AE ?_))
 exact AE h
def zae {R:Result->Shared->Prop} {J l a:Addr} {items:Array Value} {ys:List Nat} {bb:Bool} (hh:A.in1.handled=none) (hJ:l ≠ J) (aJ:a ≠ J) (al:a ≠ l) (hv:∀ (i:Nat) (v:Value),items[i]? = some v->∃ t,v=.int ((ys.getD i 0:Nat):Int) t) (hn:items.size=ys.length) (hb:∀ y ∈ ys,y < 9) :
  ∀ (k i:Nat) (s:Shared) (ds:List Nat),ys.length - i=k->i<=ys.length->s.heap.IsListIter J l i->s.heap.IsList l items->DIs bb s.heap a ds->(∀ d,d ∈ ds ↔ d ∈ ys.take i) ->
   (∀ h' tk ds',(∀ b o,b ≠ a->b ≠ J->s.heap.get? b=some o->h'.get? b=some o)->DIs bb h' a ds'->(∀ d,d ∈ ds' ↔ d ∈ ys)->R (.ok (.ret .none)) { s with heap:=h',toks:=tk }) ->
   codeAny (model prog w) A (.builtin "set.update.loop" ⟨[.ref a,.ref J],[]⟩) R s:=by
 intro k
 induction k with
 | zero=>
  intro i s ds hk hi h1 h2 h3 hds hR
  have e:i=ys.length:=by lia
  subst e
  refine BG B7 ?_
  rw[A7 BO _]
  show wpAny _ A.in1 (pyNext (.ref J) >>= _) _ _ s
  refine AA (CQ hh h1 h2 (by first | lia | (simp;lia)) λh' eb=>?_)
  show wpAny _ A.in1 (ret Value.none) _ _ _
  rw[Ag] at hds
  exact AE (hR h' s.toks ds (λb o _ nb e=>eb b o nb e) (h3.keep λo e=>eb a o aJ e) hds)
 | succ k ih=>
  intro i s ds hk hi h1 h2 h3 hds hR
  have hlt:i < ys.length:=by lia
  refine BG B7 ?_
  rw[A7 BO _]
  show wpAny _ A.in1 (pyNext (.ref J) >>= _) _ _ s
  have hi2:items[i]? = some (items[i]'(by lia)):=by simp[show i < items.size by lia]
  refine AA (CD h1 h2 hi2 λh' h1' sb=>?_)
  obtain⟨t,et⟩:=hv i _ hi2
  rw[et]
  have h3':DIs bb h' a ds:=h3.keep λo e=>(sb.2 a aJ).trans e
  show wpAny _ A.in1 (holding [Value.int ((ys.getD i 0:Nat):Int) t] (setAdd a (.int ((ys.getD i 0:Nat):Int) t)) >>= _) _ _ _
  refine AA (BL ?_)
  unfold setAdd
  have is1:(PySem.intKind prog w).is ((ys.getD i 0:Nat):Int) (.int ((ys.getD i 0:Nat):Int) t)=true:=by
   simp[PySem.intKind,Value.isInt]
  refine BL (AA ((PySem.intKind prog w).pyHash (k:=((ys.getD i 0:Nat):Int)) is1 ?_))
  have ey:ys[i]? = some (ys.getD i 0):=by simp[List.getD,hlt]
  have e1:ys.take (i+1)=ys.take i++[ys.getD i 0]:=by rw[EN,ey];rfl
  refine setAddD (s:={ s with heap:=h',toks:=s.toks+1 }) h3' (hb _ (AJ ey)) λh'' ds' sb2 h4 pm=>?_
  have hds':∀ d,d ∈ ds' ↔ d ∈ ys.take (i+1):=λd=>by
   rw[pm.mem_iff,e1,AV,AG,<- hds d]
   split
   ·rename_i hc
    constructor
    ·exact .inl
    ·rintro (z | rfl)
     ·exact z
     ·exact hc
   ·rw[AX]
    exact Or.comm
  refine AE ⟨Bb BO _,ih (i+1) { s with heap:=h'',toks:=s.toks+1 } ds' (by lia) hlt ?_ ?_ h4 hds' λh6 tk ds6 k6 s6 m6=>hR h6 tk ds6 (λb o na nJ e=>k6 b o na nJ ((sb2.2 b na).trans ((sb.2 b nJ).trans e))) s6 m6⟩
  ·obtain⟨o,q1,q2⟩:=h1'
   exact⟨o,(sb2.2 J (Aw aJ)).trans q1,q2⟩
  ·obtain⟨o,q1,q2⟩:=h2
   exact⟨o,(sb2.2 l (Aw al)).trans ((sb.2 l hJ).trans q1),q2⟩
def zaf {l:Addr} {items:Array Value} {ys:List Nat} {Q:Value->Shared->Prop} (hh:A.handled=none) (hl:s.heap.IsList l items) (hi:∀ (i:Nat) (v:Value),items[i]? = some v->∃ t,v=.int ((ys.getD i 0:Nat):Int) t) (hn:items.size=ys.length) (hb:∀ y ∈ ys,y < 9)
  (h:∀ h' tk ds,DIs (!qC w) h' s.heap.objs.size ds->(∀ d,d ∈ ds ↔ d ∈ ys)->(∀ b o,b < s.heap.objs.size->s.heap.get? b=some o->h'.get? b=some o)->Q (.ref s.heap.objs.size) { s with heap:=h',toks:=tk }) :
  wpAny (model prog w) A (call (.type "set") [.ref l]) Q E s:=by
 obtain⟨c0,tl0,hmro⟩:=A9.mro
 have made:=A9.made;have subs:=A9.sub
 have nt:=A9.notType;have cc:=A9.canCreate;have tcall:=PySem.F.typeCall_set_1 (.ref l)
 refine wpAny_call (codeAny_of_tree ?_)
 show wpAny _ _ (callAny (.type "set") ⟨[.ref l],[]⟩) _ _ _
 refine AE ⟨Code.quiet_builtin _ (by ac_rfl),BG PySem.F.entry_type_call ?_⟩
 rw[Around.under_plain (weight_type_call_type "set" [.ref l] []) rfl]
 repeat (any_goals (first | assumption | wp_step))
 refine Ca (QB (.ref l) (E:=E) (Q₁:=λv s1=>∃ b:Bool,b=(!qC w)/\v=.ref s.heap.objs.size/\s1 = { s with heap:=s.heap.push (qu b) }) ⟨_,O,O,O⟩) λr s1 hr=>?_
 match r,hr with
 | .error e,hr=>exact hr
 | .ok (.ret v),hr=>
  obtain⟨b,eb,ev,es⟩:=hr
  subst ev es
  have at0:(s.heap.push (qu b)).get? s.heap.objs.size=some (qu b):=AN _ rfl
  have ty0:Shared.TypeIs { s with heap:=s.heap.push (qu b) } (.ref s.heap.objs.size) "set":=⟨_,at0,rfl⟩
  have il:=A9.init.lookup
  have ib:=A9.init.bind (.ref s.heap.objs.size)
  repeat (any_goals (first | assumption | wp_step))
  refine Ca (codeAny_call_builtin (R:=wants (λr s2=>r=.none/\∃ h' tk ds,s2 = { s with heap:=h',toks:=tk }/\DIs (!qC w) h' s.heap.objs.size ds/\(∀ d,d ∈ ds ↔ d ∈ ys)/\∀ b o,b < s.heap.objs.size->s.heap.get? b=some o->h'.get? b=some o) E) A9.init.plain PySem.F.entry_set_init (check_set_init_1 ty0 ?_)) λr2 s2 hr2=>?_
  ·obtain⟨⟨oc,od,odt,osl⟩,hol,hcl,nl,hdl⟩:=id hl
   have hcl':oc=_:=hcl;have hdl':odt=_:=hdl
   subst hcl' hdl'
   have hol1:(s.heap.push (qu b)).get? l=some { cls:=.type "list",dict:=od,data:=.seq items nl,slots:=osl }:=AC _ hol
   have n1:=PySem.F.sub_list_set;have n2:=Ek
   have n3:(Value.type "list" == Value.type "dict")=false:=by decide
   have hl1:(s.heap.push (qu b)).IsList l items:=⟨_,hol1,rfl,nl,rfl⟩
   have lS:l < s.heap.objs.size:=AO hol
   have jS:(s.heap.push (qu b)).objs.size=s.heap.objs.size+1:=Bq ..
   unfold Builtin.«set.__init__» noKeywords Builtin.Frozenset.updateFrom
   generalize ePI:pyIter=PI
   wp_walk
   subst ePI
   refine Bx hl1 (AA (EJ ?_))
   refine zae (bb:=!qC w) (J:=(s.heap.push (qu b)).objs.size) (l:=l) (a:=s.heap.objs.size) (items:=items) (ys:=ys) (by simp[hh]) (AU (by rw[jS];exact BF lS)) (AU (by rw[jS];exact BV _)) (BD lS) hi hn hb (ys.length - 0) 0 _ [] rfl (BA _) ⟨_,AN _ rfl,O,O⟩ (hl1.push _) ?_ (λd=>by simp) λh' tk ds hk hS hm=>?_
   ·exact⟨_,#[],0,.fresh 0 0 b,AC _ at0,⟨O,O,O⟩,O,eb ▸ zaa b,λe he=>by cases he⟩
   ·show wpAny _ _ _ _ _ _
    refine AE ?_
    show wpAny _ _ (ret Value.none) _ _ _
    refine AE ⟨O,h',tk,ds,O,hS,hm,λc o hc e=>hk c o (AU hc) (AU (by rw[jS];exact BF hc)) (AC _ (AC _ e))⟩
  ·match r2,hr2 with
   | .error e,hr2=>exact hr2
   | .ok (.ret v),hr2=>
    obtain⟨ev,h',tk,ds,es,hS,hm,hk⟩:=hr2
    subst ev es
    repeat (any_goals (first | assumption | wp_step))
    exact h _ _ _ hS hm hk
   | .ok .next,hr2=>exact hr2.elim
   | .ok .brk,hr2=>exact hr2.elim
   | .ok .cont,hr2=>exact hr2.elim
 | .ok .next,hr=>exact hr.elim
 | .ok .brk,hr=>exact hr.elim
 | .ok .cont,hr=>exact hr.elim
end
theorem zag {α:Type} (next:Nat->Nat):∀ (fuel k:Nat) (left:List α) (out:Array α),left.length=fuel->List.Perm (pickOrder.go next fuel k left out).toList (out.toList++left)
 | 0,k,left,out,h=>by
  unfold pickOrder.go
  rw[Bp.mp h,Bt]
 | fuel+1,k,left,out,h=>by
  unfold pickOrder.go
  have hlt:next k % left.length < left.length:=BZ _ (by lia)
  rw[AD hlt]
  dsimp only
  refine (zag next fuel (k+1) _ _ (by rw[List.length_eraseIdx,if_pos hlt,h];rfl)).trans ?_
  rw[ES,Cq]
  refine List.Perm.append_left _ ?_
  generalize next k % left.length=i at hlt
  rw[EU]
  show List.Perm (left[i] :: (left.take i++left.drop (i+1))) left
  refine EY.symm.trans ?_
  rw[<- CF hlt,Cm]
def zah {α:Type} (next:Nat->Nat) (xs:Array α):List.Perm (pickOrder next xs).toList xs.toList:=by
 have:=zag next xs.size 0 xs.toList #[] (by simp)
 simpa [pickOrder] using this
def zA:Slot "set_iterator" "__next__" "set_iterator.__next__":=
 .of (owner := "set_iterator") (n := "__next__") (by rw[DF,CS];kernel_rfl) (by ac_rfl) (by ac_rfl) (by ac_rfl)
  (by first | exact .inl (by ac_rfl) | exact .inr (by ac_rfl)) (by rw[B6];kernel_rfl)
def qx:entryFor table "set_iterator.__next__" = some Builtin.«set_iterator.__next__»:=entryFor_of_tree (by kernel_rfl)
def qH (a:Value):argsOk "set_iterator.__next__" ⟨[a],[]⟩:=by
 unfold argsOk;kernel_rfl
def jm:Slot "set_iterator" "__iter__" "set_iterator.__iter__":=
 .of (owner := "set_iterator") (n := "__iter__") (by rw[DF,CS];kernel_rfl) (by ac_rfl) (by ac_rfl) (by ac_rfl)
  (by first | exact .inl (by ac_rfl) | exact .inr (by ac_rfl)) (by rw[B6];kernel_rfl)
def ZI:entryFor table "set_iterator.__iter__" = some Builtin.«dict_keyiterator.__iter__»:=entryFor_alias (id' := "dict_keyiterator.__iter__") (by kernel_rfl) rfl (by ac_rfl) (by kernel_rfl)
def Qc (a:Value):argsOk "set_iterator.__iter__" ⟨[a],[]⟩:=by
 unfold argsOk;kernel_rfl
def jL:entryFor table "set.__iter__" = some Builtin.«frozenset.__iter__»:=entryFor_alias (id' := "frozenset.__iter__") (by kernel_rfl) rfl (by ac_rfl) (by kernel_rfl)
def JI (w:World) (a:Addr) (es:Array (Int×Value)) (ep:Nat):Array (Int×Value):=if qC w=true then pickOrder (w.params.setOrder a ep) es else es
def JJ (w:World) (a:Addr) (es:Array (Int×Value)) (ep:Nat):List.Perm (JI w a es ep).toList es.toList:=by
 unfold JI
 split
 ·exact zah _ _
 ·exact .refl _
def jr (w:World) (a:Addr) (es:Array (Int×Value)) (ep:Nat):(JI w a es ep).size=es.size:=by
 have:=(JJ w a es ep).length_eq
 simpa using this
def Zb (w:World) (t:SetTable):Nat->Nat
 | 0=>0
 | i+1=>if qC w=true then 0 else t.place.getD i 0+1
theorem yk {w:World} {t:SetTable} (h:qC w=true):∀ i,Zb w t i=0
 | 0=>rfl
 | i+1=>if_pos h
def QC {w:World} {t:SetTable} (h:qC w=false) (i:Nat):Zb w t (i+1)=t.place.getD i 0+1:=if_neg (by rw[h];simp)
def QD (h:Heap) (I a:Addr) (sl i n ep:Nat):Prop:=∃ o,h.get? I=some o/\o.cls=.type "set_iterator" /\ o.data=.fields #[.int (sl:Nat) 0,.int (i:Nat) 0,.ref a,.int (n:Nat) 0,.int (ep:Nat) 0]
def QD.typeIs {s:Shared} {I a:Addr} {sl i n ep:Nat} (x:QD s.heap I a sl i n ep):s.TypeIs (.ref I) "set_iterator":=let ⟨o,ho,hc,_⟩:=x;⟨o,ho,hc⟩
def DAt (b:Bool) (h:Heap) (a:Addr) (es:Array (Int×Value)) (ep:Nat) (t:SetTable):Prop:=∃ o,h.get? a=some o/\o.ExactSet/\o.data=.set es ep t/\Dg es t b
section
variable {prog:Program} {w:World} {A:Around} {E:Value->Shared->Prop} {s:Shared} {a I:Addr} {es:Array (Int × Value)} {ep:Nat} {t:SetTable}
def QS {Q:Value->Shared->Prop} (hd:DAt (!qC w) s.heap a es ep t)
  (hQ:Q (.ref s.heap.objs.size) { s with heap:=s.heap.push { cls:=.type "set_iterator",data:=.fields #[.int (0:Nat) 0,.int (0:Nat) 0,.ref a,.int (es.size:Nat) 0,.int (ep:Nat) 0] } }) :
  wpAny (model prog w) A (pyIter (.ref a)) Q E s:=by
 obtain⟨o,ho,hx,hdat,hg⟩:=hd
 have hf:=hg.fits
 have hT:s.TypeIs (.ref a) "set":=⟨o,ho,hx.1⟩
 refine C0 hT CC (Ay CC hT jL ?_ (Dm _))
 unfold Builtin.«frozenset.__iter__» Builtin.Frozenset.slot0
 refine AA (AA (AE ?_))
 refine AE ?_
 unfold Builtin.Frozenset.sizeOf setEntries
 refine AA (AA (AA (A5 ho hdat hf (AE (AE ?_)))))
 unfold setDrawn setsByText
 refine AA (AA (A5 ho hdat hf ?_))
 refine AA (AA (Br (AE (AE ?_))))
 refine BE (λhab=>absurd (show (!(qC w) && (!t.plain && decide (es.size > 1)))=true from hab) (by rw[hg.plain];simp)) (λ_=>AA (AE ?_))
 refine AA (Ei ho hdat hf ?_)
 refine AA (Ax ?_)
 exact AE ⟨_,O, "set_iterator",_,⟨_,AN _ rfl,O⟩,zA.lookup,hQ⟩
def wR {xs:Array Nat} (hr:Rs xs):SetTable.below xs 0=0:=by
 rw[Qz hr]
 unfold wM
 rw[List.filter_eq_nil_iff.mpr λx _=>by simp]
 rfl
theorem xE {b:Bool} (hg:Dg es t b) (ht:qC w=false):∀ (i:Nat),i<=t.place.size->SetTable.below t.place (Zb w t i)=i
 | 0,_=>wR hg.ti.rs
 | i+1,hi=>by
  rw[QC ht]
  exact wN hg.ti.rs (by simp[Array.getD,show i < t.place.size by lia])
def YZ {Q:Option (Value×Nat)->Shared->Prop} {i:Nat} (hi:i<=es.size) (hd:DAt (!qC w) s.heap a es ep t)
  (hQ:Q ((JI w a es ep)[i]?.map λe=>(e.2,Zb w t (i+1))) s) :
  wpAny (model prog w) A (setNext a (Zb w t i) i ep) Q E s:=by
 obtain⟨o,ho,hx,hdat,hg⟩:=id hd
 have hf:=hg.fits
 unfold setNext setsByText
 refine AA (A5 ho hdat hf ?_)
 refine AA (AA (Br (AE ?_)))
 refine BE (λhab=>?_) (λhab=>?_)
 ·have ht:qC w=true:=hab
  rw[if_neg (by simp)]
  unfold setWalk setsByText
  refine AA (AA (A5 ho hdat hf ?_))
  refine AA (AA (Br (AE ?_)))
  refine BE (λ_=>?_) (λhn=>absurd hab hn)
  refine AA (Br (AE (AE ?_)))
  rw[yk ht] at hQ ⊢
  unfold JI at hQ
  rw[if_pos ht] at hQ
  exact hQ
 ·have ht:qC w=false:=Dh.mpr hab
  refine BE (λhdr=>absurd (show (!t.plain && decide (es.size > 1))=true from hdr) (by rw[hg.plain];simp)) (λ_=>?_)
  have hled:t.led=true:=by rw[hg.ti.led,ht];rfl
  show wpAny _ _ (_ >>= _) _ _ _
  refine AA (Bc (a:=()) (show (if (!t.led && !es.isEmpty)=true then (unsupported "set:maker-not-led" : Sem Unit) else pure ())=pure () by rw[hled];rfl) ?_)
  refine AE ?_
  rw[xE hg ht i (by rw[hg.len];exact hi)]
  unfold JI at hQ
  rw[if_neg (by rw[ht];simp),QC ht] at hQ
  by_cases hlt:i < es.size
  ·have e1:es[i]? = some es[i]:=by simp[hlt]
   have hlt':i < t.place.size:=by rw[hg.len];exact hlt
   have e2:t.place[i]? = some (t.place.getD i 0):=by simp[Array.getD,hlt']
   rw[e1] at hQ ⊢
   rw[e2]
   exact hQ
  ·have e1:es[i]? = none:=Bs (by lia)
   rw[e1] at hQ ⊢
   exact hQ
def Q8 {Q:Option Value->Shared->Prop} {i:Nat} {e:Int×Value} (hit:QD s.heap I a (Zb w t i) i es.size ep) (hd:DAt (!qC w) s.heap a es ep t) (he:(JI w a es ep)[i]? = some e)
  (hQ:∀ h',QD h' I a (Zb w t (i+1)) (i+1) es.size ep->Heap.SameBut I s.heap h'->Q (some e.2) { s with heap:=h' }) :
  wpAny (model prog w) A (pyNext (.ref I)) Q E s:=by
 obtain⟨oI,hoI,hcI,hdI⟩:=id hit
 obtain⟨o,ho,hx,hdat,hg⟩:=id hd
 have hf:=hg.fits
 unfold pyNext
 refine AA (Bn (wpAny_callSpecial?_slot (name:=Str.ofString "__next__") hit.typeIs zA
  (Ay zA hit.typeIs qx ?_ (qH _))))
 unfold Builtin.«set_iterator.__next__»
 refine AA (AE ?_)
 refine AA (DR hoI hdI ?_)
 dsimp only
 unfold setEntries
 refine AA (AA (A5 ho hdat hf (AE ?_)))
 rw[if_neg (by simp)]
 have hi:i < es.size:=by
  have:=(Cw.mp he).1
  rwa [jr] at this
 simp only[Int.toNat_natCast]
 refine AA (YZ (CN hi) hd ?_)
 rw[he]
 dsimp only[Option.map_some]
 refine AA (Ba hoI hdI (by simp) ?_)
 have h1:=Az (Obj.mapFields (·.setIfInBounds 0 (rawInt ((Zb w t (i+1):Nat):Int)))) hoI (Bd (A4 hdI _))
 have d1:=A4 hdI (·.setIfInBounds 0 (rawInt ((Zb w t (i+1):Nat):Int)))
 refine AA (Ba h1 d1 (by simp) ?_)
 refine AE ⟨_,O,AE (hQ _ ⟨_,Az _ h1 (Bd (A4 d1 _)),?_,?_⟩ ((A6 ..).trans (A6 ..)))⟩
 ·rw[Cc,Cc]
  exact hcI
 ·rw[A4 d1]
  simp[rawInt]
def JK {Q:Option Value->Shared->Prop} (hh:A.handled=none) (hit:QD s.heap I a (Zb w t es.size) es.size es.size ep) (hd:DAt (!qC w) s.heap a es ep t)
  (hQ:∀ h',Heap.ExtBut I s.heap h'->Q none { s with heap:=h' }) :
  wpAny (model prog w) A (pyNext (.ref I)) Q E s:=by
 obtain⟨oI,hoI,hcI,hdI⟩:=id hit
 obtain⟨o,ho,hx,hdat,hg⟩:=id hd
 have hf:=hg.fits
 unfold pyNext
 refine AA (Bn (wpAny_callSpecial?_slot (name:=Str.ofString "__next__") hit.typeIs zA
  (Ay zA hit.typeIs qx ?_ (qH _))))
 unfold Builtin.«set_iterator.__next__»
 refine AA (AE ?_)
 refine AA (DR hoI hdI ?_)
 dsimp only
 unfold setEntries
 refine AA (AA (A5 ho hdat hf (AE ?_)))
 rw[if_neg (by simp)]
 simp only[Int.toNat_natCast]
 refine AA (YZ (AM _) hd ?_)
 rw[Bs (by rw[jr];exact AM _)]
 dsimp only[Option.map_none]
 refine AA (Ba hoI hdI (by simp) ?_)
 show wpAny _ _ (newExc (.type "StopIteration") [] >>= _) _ _ _
 refine AA ?_
 simp only[newExc,newTuple]
 refine AA (Ax ?_ (by size_fits))
 refine AA (m:=firstArgMember _ _) (Bc (a:=Value.none) (by first | rfl | (simp only[firstArgMember];rfl)) ?_)
 refine Ax ?_ (by size_fits)
 simp only[raiseNew]
 refine AA (Dz ?_)
 rw[show A.in1.handled=none from hh]
 refine AA (AE (EI ?_))
 refine AA (B3 (T := "StopIteration") (b:=true) ⟨_,AN _ rfl,O⟩ Dj ?_)
 exact AE (hQ _ (((A6 ..).extBut.push _).push _))
end
open PySem PySem.Spec PyProof.Rows PySem.W
section
variable {prog:Program} {w:World} {A:Around} {E:Value->Shared->Prop} {s:Shared} {a:Addr} {es:Array (Int × Value)} {ep:Nat} {t:SetTable}
def JL {Q:Bool->Shared->Prop} (hT:s.TypeIs (.ref a) "set") (h:Q false s):wpAny (model prog w) A (Builtin.List.listLengthHint (.ref a)) Q E s:=by
 unfold Builtin.List.listLengthHint
 refine AA (Ct hT PySem.F.slot_set_len.lookup ?_)
 generalize hid:("set.__len__" : String)=id0
 wp_delta
 rw[show splitId id0=some ("set", "__len__") from by subst hid;ac_rfl]
 subst hid
 refine AA (B3 (T := "set") (b:=true) hT (by rw[B6];kernel_rfl) ?_)
 refine BE (λhab=>absurd hab (by decide)) (λ_=>?_)
 refine BE (λ_=>?_) (λhab=>absurd (by ac_rfl) hab)
 refine AA (Bw hT ?_)
 exact AE h
def DAt.keep {b:Bool} {h h':Heap} (x:DAt b h a es ep t) (k:∀ o,h.get? a=some o->h'.get? a=some o):DAt b h' a es ep t:=let ⟨o,ho,r⟩:=x;⟨o,k o ho,r⟩
def QD.keep {h h':Heap} {I a:Addr} {sl i n ep:Nat} (x:QD h I a sl i n ep) (k:∀ o,h.get? I=some o->h'.get? I=some o):QD h' I a sl i n ep:=let ⟨o,ho,r⟩:=x;⟨o,k o ho,r⟩
def JM {Q:Value->Shared->Prop} {I a:Addr} {sl i n ep:Nat} (hit:QD s.heap I a sl i n ep) (h:Q (.ref I) s):wpAny (model prog w) A (pyIter (.ref I)) Q E s:=by
 refine C0 hit.typeIs jm (Ay jm hit.typeIs ZI ?_ (Qc _))
 show wpAny _ _ (ret (.ref I)) _ _ s
 exact AE ⟨_,O, "set_iterator",_,hit.typeIs,zA.lookup,h⟩
def xF (hh:A.handled=none) (I:Addr) (hne:a ≠ I):Walks prog w A I [I,a] [I] es.size (λi v=>∃ e,(JI w a es ep)[i]? = some e/\v=e.2) (λi h=>QD h I a (Zb w t i) i es.size ep/\DAt (!qC w) h a es ep t) where
 sub:=λb hb=>by simp at hb;simp[hb]
 frame:=λ_ _ _ st hk=>⟨st.1.keep λo e=>hk I (by simp) o e,st.2.keep λo e=>hk a (by simp) o e⟩
 item:=λi s Q E hi st hQ=>by
  have hi':i < (JI w a es ep).size:=by rw[jr];exact hi
  have he:(JI w a es ep)[i]? = some ((JI w a es ep)[i]'hi'):=Bv hi'
  refine Q8 st.1 st.2 he λh' hit' hs'=>?_
  exact hQ _ h' s.toks ⟨_,he,O⟩ ⟨hit',st.2.keep λo e=>hs'.extBut a o hne e⟩ λb o hb e=>hs'.extBut b o (λh=>hb (by simp[h])) e
 done:=λs Q E st hQ=>JK hh st.1 st.2 λh' he'=>hQ h' s.toks λb o hb e=>he' b o (λh=>hb (by simp[h])) e
 self:=λ_ _ _ _ st hQ=>JM st.1 hQ
def kdl_setD:KdlSrc prog w "set" a a es.size (λi v=>∃ e,(JI w a es ep)[i]? = some e/\v=e.2) (λh=>DAt (!qC w) h a es ep t) where
 type:=λ_ hm=>let ⟨o,ho,hx,_⟩:=hm;⟨o,ho,hx.1⟩
 there:=λ_ hm=>let ⟨o,ho,_⟩:=hm;⟨AO ho,AO ho⟩
 keep:=λ_ _ hm hk=>hm.keep λo e=>hk a (.inl rfl) o e
 notList:=by decide
 notTuple:=by decide
 hint:=λ_ _ _ _ hm hq=>JL (let ⟨o,ho,hx,_⟩:=hm;⟨o,ho,hx.1⟩) hq
 iter:=λ_ s hh hm=>⟨_,_,(λ_ _ hq=>QS hm hq),xF hh _ (let ⟨o,ho,_⟩:=hm;AU (AO ho)),⟨⟨_,AN _ rfl,rfl,rfl⟩,hm.keep λo e=>AC _ e⟩⟩
def xG {ns:List Int} {acc:Array Value} {W:Array (Int×Value)} (hi:ItemsOf (λi v=>∃ e,W[i]? = some e/\v=e.2) acc W.size) (hv:∀ e ∈ W.toList,∃ tk,e.2=Value.int e.1 tk):IntsAre acc.toList (W.toList.map Prod.fst):=by
 have key:∀ (us:List Value) (es:List (Int×Value)),us.length=es.length->(∀ (i:Nat) u,us[i]? = some u->∃ e,es[i]? = some e/\u=e.2)->(∀ e ∈ es,∃ tk,e.2=Value.int e.1 tk)->IntsAre us (es.map Prod.fst):=by
  intro us
  induction us with
  | nil=>
   intro es hl _ _
   cases es with
   | nil=>exact .nil
   | cons e es=>cases hl
  | cons u us ih=>
   intro es hl hi hv
   cases es with
   | nil=>cases hl
   | cons e es=>
    obtain⟨e',h1,h2⟩:=hi 0 u rfl
    obtain rfl:e=e':=by simpa using h1
    obtain⟨tk,h3⟩:=hv e (Af ..)
    rw[h2,h3]
    exact .cons _ tk (ih es (by simpa using hl) (λi u hu=>hi (i+1) u (by simpa using hu)) λe he=>hv e (Ah _ he))
 refine key _ _ ?_ (λi u hu=>?_) hv
 ·rw[Au,Au]
  exact hi.1
 ·obtain⟨e,h1,h2⟩:=hi.2 i u (by rw[<- By];exact hu)
  exact⟨e,by rw[By];exact h1,h2⟩
def Ye {ds:List Nat} {Q:Value->Shared->Prop} (hh:A.handled=none) (hd:DIs (!qC w) s.heap a ds)
  (h:∀ (h1 h':Heap) (tk:Nat) (out:Array Value) (e:Nat) (ns':List Int),(∀ b o,s.heap.get? b=some o->h1.get? b=some o)->(∀ b o,h1.get? b=some o->h'.get? b=some o)->h'.get? h1.objs.size=some (seqObj "list" out e)->IntsAre out.toList ns'->ns'.Perm (ds.map λ(d:Nat)=>(d:Int))->ns'.Pairwise (· <= ·)->Q (.ref h1.objs.size) { s with heap:=h',toks:=tk }) :
  wpAny (model prog w) A (call (.builtin "sorted") [.ref a]) Q E s:=by
 obtain⟨o,es,ep,t,ho,hx,hdat,hg,hv⟩:=hd
 have hs:=hg.dg.small
 have h9:es.size<=sizeLine:=CZ (by unfold scanBound;lia)
 refine Calls.call_function_entry kind_sorted plain_sorted entry_sorted (args_sorted1 _) ?_
 unfold Builtin.«sorted»
 refine AA (m:=checkCount "sorted" 1 1 _) (AE ?_)
 refine AA (kdu_collect (A:=A.in1) (kdl_setD (a:=a) (es:=es) (ep:=ep) (t:=t)) hh ⟨o,ho,hx,hdat,hg.dg⟩ h9 λh' tk acc hk hacc=>?_)
 have wp:=JJ w a es ep
 have hacc':=hacc
 rw[<- jr w a es ep] at hacc'
 have hI:=xG (ns:=[]) hacc' λe he=>hv e (wp.mem_iff.mp he)
 have hl:acc.toList.length=es.size:=by rw[Au];exact hacc.1
 have hp:List.Perm ((JI w a es ep).toList.map Prod.fst) (ds.map λ(d:Nat)=>(d:Int)):=by
  have:=wp.map Prod.fst
  have he:=hg.he
  rw[show (λ(x:Int×Value)=>x.1)=Prod.fst from rfl] at he
  rwa [he] at this
 refine AA (wpAny_newList ?_ (by rw[hl];exact h9))
 have hoL:(h'.push (seqObj "list" acc.toList.toArray 0)).get? h'.objs.size=some (seqObj "list" acc.toList.toArray 0):=AN _ rfl
 show wpAny _ _ _ _ _ { s with heap:=h'.push (seqObj "list" acc.toList.toArray 0),toks:=tk }
 refine AA (BL (Ay slot_list_sort ⟨_,hoL,O⟩ entry_list_sort (list_sort_tree hoL hI (by lia) λout ns' a1 a2 a3=>⟨_,O,?_⟩) (args_list_sort _)))
 obtain⟨e,he⟩:=sortedHeap_at (vs:=acc.toList) (out:=out) hoL
 exact AE ⟨_,O,h h' _ tk out e ns' hk (λb o q1=>by
  have hb:=AO q1
  rw[sortedHeap_old (AU hb) (by rw[Bq];exact BF hb)]
  exact AC _ q1) he a1 (a2.trans hp) a3⟩
end
def DSet (w:World) (a:Addr) (ds:List Nat):HO:=.ext λh=>DIs (!qC w) h a ds
def nI (d:Nat):V:=.int (d:Int)
section
variable {X:Cx}
def Zc (K:Fs) (hc:X.calm=true) (hK:X.K=K:=by rfl):j6 X (.type "set") (λxs H Q=>∃ (p:Addr) (ys:List Nat),xs=[.ref p]/\SqL K H p (ys.map nI)/\(∀ y ∈ ys,y < 9)/\∀ (a:Addr) (ds:List Nat),H a=none->ds.Nodup->(∀ d,d ∈ ds ↔ d ∈ ys)->Q (.ref a) (upd H a (DSet X.w a ds))):=by
 subst hK
 intro pins s σ H xs us Q I r h
 obtain⟨p,ys,rfl,hq,hz,q⟩:=h
 obtain⟨u,rfl,ru⟩:=vals1 r
 cases ru
 obtain⟨its,rv,pl,_⟩:=I.list hq
 have hl:=rv.length
 rw[AB] at hl
 refine zaf (I.ok.hd hc) pl.isList (ys:=ys) (λi v hv=>?_) (by simpa using hl.symm) hz λh' tk ds hS hm hk=>?_
 ·have hv':its[i]? = some v:=by simpa using hv
  have hi:=(AF.mp hv').1
  have e1:(ys.map nI)[i]? = some (nI (ys.getD i 0)):=by
   rw[AH]
   simp[List.getD,show i < ys.length by lia]
  obtain⟨u,hu,t,e⟩:=rv.get e1
  rw[hv'] at hu
  cases hu
  exact⟨t,e⟩
 have fr:=I.hok.fresh (AM s.heap.objs.size)
 have nd:ds.Nodup:=by obtain⟨_,_,_,_,_,_,_,hg,_⟩:=hS;exact hg.nd
 refine⟨.ref s.heap.objs.size,_,I.laid (t':=tk) (o:=DSet X.w s.heap.objs.size ds) (λb o e=>hk b o (AO e) e) (AM _) ⟨hS,?_,λh1 h2 z k=>z.keep k⟩,O,q _ ds fr nd hm⟩
 obtain⟨o,_,_,_,ho,_⟩:=hS
 exact⟨o,ho⟩
def jc (hc:X.calm=true):j6 X (.builtin "sorted") (λxs H Q=>∃ (a:Addr) (ds:List Nat),xs=[.ref a]/\H a=some (DSet X.w a ds)/\∀ (l:Addr) (ms:List Nat),H l=none->ms.Perm ds->ms.Pairwise (· <= ·)->Q (.ref l) (upd H l (.lst (ms.map nI)))):=by
 intro pins s σ H xs us Q I r h
 obtain⟨a,ds,rfl,ha,q⟩:=h
 obtain⟨u,rfl,rx⟩:=vals1 r
 cases rx
 have hd:=(I.hok a _ ha).1
 refine Ye (I.ok.hd hc) hd λh1 h' tk out e ns' k1 k2 he a1 a2 a3=>?_
 have I1:Inv X pins σ H { s with heap:=h1,toks:=tk }:=I.un (Un.kept k1) (I.hok.kept k1)
 have sm:ds.length<=9:=by
  obtain⟨_,_,_,_,_,_,_,hg,_⟩:=hd
  rw[<- hg.len]
  exact hg.dg.small
 have en:ns'=(ns'.map Int.toNat).map λ(d:Nat)=>(d:Int):=by
  rw[Ak]
  have:ns'.map id=ns'.map ((λ(d:Nat)=>(d:Int)) ∘ Int.toNat):=Bk λz hz=>by
   obtain⟨d,_,e⟩:=AI.mp (a2.mem_iff.mp hz)
   rw[<- e]
   rfl
  rwa [List.map_id] at this
 have ep:List.Perm (ns'.map Int.toNat) ds:=by
  have:=a2.map Int.toNat
  simpa [List.map_map,Function.comp_def] using this
 refine⟨.ref h1.objs.size,_,I1.laid (t':=tk) (o:=.lst ((ns'.map Int.toNat).map nI)) k2 (AM _) ?_,O,q _ (ns'.map Int.toNat) (I1.hok.fresh (AM _)) ep ?_⟩
 ·refine⟨by rw[AB,ep.length_eq];exact Aa sm (CZ (by unfold scanBound;lia)),out.toList,e,?_,?_⟩
  ·have:=XH a1
   rw[en,Ak] at this
   rw[Ak] at *
   exact this
  ·simpa [seqObj] using he
 ·rw[CO]
  exact a3.imp λh=>Int.toNat_le_toNat h
end
section
variable {X:Cx}
def rIndexL:V->List V->Hp->VK->Prop:=λx vs H Q=>∃ p xs y j,x=.ref p/\vs=[y]/\H p=some (.lst xs)/\ju y=true/\xs.all ju=true/\(∃ v,xs[j]? = some v/\eqV v y=true)/\(∀ m v,m < j->xs[m]? = some v->eqV v y=false)/\Q (.int (j:Nat)) H
def zai:MtR X "list.index" rIndexL:=by
 intro pins s σ H x vs v us Q I rx rv h
 obtain⟨p,xs,y,j,rfl,rfl,hq,fy,fx,⟨vj,hj,ej⟩,hno,q⟩:=h
 cases rx
 obtain⟨u,rfl,ru⟩:=vals1 rv
 obtain⟨z,its,n,r,hlen,e⟩:=I.lstM hq
 have at_:∀ m (hm:m < its.toArray.size),∃ v,xs[m]? = some v/\eqU y its.toArray[m]=eqV v y:=λm hm=>by
  have hm':m < xs.length:=by
   rw[hlen]
   simpa using hm
  have k1:xs[m]? = some xs[m]:=AD hm'
  obtain⟨w,e1,r1⟩:=r.get k1
  have w1:its.toArray[m]=w:=by
   have g1:m < its.length:=by simpa using hm
   rw[AD g1] at e1
   simpa using AR e1
  refine⟨_,k1,?_⟩
  rw[w1]
  exact YK r1 (Al.mp fx _ (AJ k1))
 have hjx:=(AF.mp hj).1
 have hjl:j < its.toArray.size:=by
  simp
  lia
 have hjs:(j:Int) < 2 ^ 63 - 1:=by
  have:(sizeLine:Nat)<=2 ^ 60:=by decide
  have h2:j < 2 ^ 60:=by lia
  lia
 refine DW F.slot_list_index ⟨_,e,O⟩ F.entry_list_index (F.args_list_index_2 _ _) (SeqAt.list_indexAt p its.toArray n none #[] u (eqU y) j hjl hjs ?_ ?_) ⟨e,λw hw=>Zi ru fy r fx w (by simpa using hw),⟨.int _,H,I.tok _,⟨_,O⟩,q⟩⟩
 ·obtain⟨v,e1,e2⟩:=at_ j hjl
  rw[hj] at e1
  cases e1
  rw[e2]
  exact ej
 ·intro m hm hmj
  obtain⟨v,e1,e2⟩:=at_ m hm
  rw[e2]
  exact hno m v hmj e1
def ZZ {α β:Type} {R:α->β->Prop} {as:List α} {bs:List β} (h:Paired R as bs):∀ {i:Nat} {a:α},as[i]? = some a->∃ b,bs[i]? = some b/\R a b:=by
 induction h with
 | nil=>intro i a e;simp at e
 | cons r _ ih=>
  intro i a e
  cases i with
  | zero=>
   simp at e
   subst e
   exact⟨_,O,r⟩
  | succ i=>
   obtain⟨b,e1,e2⟩:=ih (i:=i) (by simpa using e)
   exact⟨b,by simpa using e1,e2⟩
def Lls (H:Hp):List (List V)->List V->Prop:=Paired λzs v=>∃ a,v=.ref a/\H a=some (.lst zs)
def lsAt (H:Hp) (ys:List V):Value->Bool
 | .ref a=>match H a with
  | some (.lst zs)=>Wd zs ys
  | _=>false
 | _=>false
def zaj {xs:List V} (h:xs.all ju=true):Wd xs xs=true:=by
 unfold Wd
 rw[BR]
 refine⟨?_,by simp⟩
 rw[Al]
 intro p hp
 have h1:=CH hp
 have e:p.1=p.2:=by
  obtain⟨i,hi⟩:=Cv hp
  rw[BJ] at hi
  rw[hi.1] at hi
  exact AR hi.2
 rw[<- e]
 exact YS (Al.mp h _ h1.1)
def rIndexLL:V->List V->Hp->VK->Prop:=λx vs H Q=>∃ (p b:Addr) (xs:List V) (yss:List (List V)) (ys:List V) (j:Nat),x=.ref p/\vs=[.ref b]/\H p=some (.lst xs)/\Lls H yss xs/\(∀ zs ∈ yss,zs.all ju=true/\zs.length=ys.length)/\H b=some (.lst ys)/\ys.all ju=true/\(∃ zs,yss[j]? = some zs/\Wd zs ys=true)/\(∀ m zs,m < j->yss[m]? = some zs->Wd zs ys=false)/\Q (.int (j:Nat)) H
def xH {k:Nat} (hr:QP k X.A):MtR X "list.index" rIndexLL:=by
 intro pins s σ H x vs v us Q I rx rv h
 obtain⟨p,b,xs,yss,ys,j,rfl,rfl,hq,hL,hf,hb,fy,⟨zj,hj,ej⟩,hno,q⟩:=h
 cases rx
 obtain⟨u,rfl,ru⟩:=vals1 rv
 cases ru
 obtain⟨z,its,n,r,hlen,e⟩:=I.lstM hq
 obtain⟨zb,itb,nb,rb,hlb,eb⟩:=I.lstM hb
 have hun:X.A.in1.in1.units < cLine:=by
  have:=hr.units
  show X.A.units+1+1 < cLine
  lia
 have hxl:=A3 hL
 have at_:∀ m (hm:m < its.toArray.size),∃ a zs,its.toArray[m]=.ref a/\H a=some (.lst zs)/\yss[m]? = some zs:=λm hm=>by
  have hm':m < xs.length:=by
   rw[hlen]
   simpa using hm
  have k1:xs[m]? = some xs[m]:=AD hm'
  obtain⟨w,e1,r1⟩:=r.get k1
  have w1:its.toArray[m]=w:=by
   have g1:m < its.length:=by simpa using hm
   rw[AD g1] at e1
   simpa using AR e1
  have k2:yss[m]? = some (yss[m]'(by lia)):=AD (by lia)
  obtain⟨v',k3,a,ea,ha⟩:=ZZ hL k2
  rw[k1] at k3
  cases k3
  rw[ea] at r1
  cases r1
  exact⟨a,_,w1,ha,k2⟩
 have te:∀ m (hm:m < its.toArray.size) zs,yss[m]? = some zs->lsAt H ys its.toArray[m]=Wd zs ys:=λm hm zs hz=>by
  obtain⟨a,zs',e1,e2,e3⟩:=at_ m hm
  rw[hz] at e3
  cases e3
  rw[e1]
  show (match H a with | some (.lst zs)=>Wd zs ys | _=>false)=_
  rw[e2]
 have hjy:=(AF.mp hj).1
 have hjl:j < its.toArray.size:=by
  simp
  lia
 have hjs:(j:Int) < 2 ^ 63 - 1:=by
  have:(sizeLine:Nat)<=2 ^ 60:=by decide
  have h2:j < 2 ^ 60:=by lia
  lia
 refine DW F.slot_list_index ⟨_,e,O⟩ F.entry_list_index (F.args_list_index_2 _ _) (SeqAt.list_indexAt p its.toArray n none #[] (.ref b) (lsAt H ys) j hjl hjs ?_ ?_) ⟨e,λw hw=>?_,⟨.int _,H,I.tok _,⟨_,O⟩,q⟩⟩
 ·rw[te j hjl zj hj]
  exact ej
 ·intro m hm hmj
  obtain⟨a,zs,_,_,e3⟩:=at_ m hm
  rw[te m hm zs e3]
  exact hno m zs hmj e3
 ·obtain⟨m,hm,rfl⟩:=Array.mem_iff_getElem.mp hw
  obtain⟨a,zs,e1,e2,e3⟩:=at_ m hm
  obtain⟨f1,f2⟩:=hf zs (AJ e3)
  rw[te m hm zs e3,e1]
  by_cases hab:a=b
  ·subst hab
   rw[hb] at e2
   cases e2
   rw[zaj fy]
   exact SeqAt.EqAt.same _
  ·obtain⟨za,ita,na,ra,hla,ea⟩:=I.lstM e2
   have hz':ita.toArray.size=itb.toArray.size:=by simp;lia
   have k:=SeqAt.RcAt.lists (A:=X.A.in1.in1) (s:=s) (PySem.IsL.isList ea) (PySem.IsL.isList eb) hz' hun (YM ra rb f1 fy)
   have e4:ita.toArray.size=zs.length:=by simp;lia
   rw[e4,Jx zs ys f2] at k
   have e5:Wd zs ys=(zs.zip ys).all λp=>eqV p.1 p.2:=by
    unfold Wd
    rw[f2]
    simp
   rw[e5]
   exact SeqAt.EqAt.of_in1 (SeqAt.EqAt.of_refs hab k)
end
section
variable {prog:Program} {w:World} {A:Around} {R:Result->Shared->Prop}
def zak (hh:A.handled=none) (D L it:Addr) (items:Array Value) (c:Nat) (hDL:D ≠ L) (hDi:D ≠ it) (hLi:L ≠ it) (ps:List (Key×Value)) (hlen:ps.length=items.size) (hsz:c+ps.length<=sizeLine) :
  ∀ (n i:Nat) (s:Shared) (acc:List (Key×Value)),n+i=items.size->acc.length<=c+i->s.heap.IsListIter it L i->s.heap.IsList L items->s.heap.DictOf (zW prog w) D acc ->
  (∀ (j:Nat) (p:Key×Value) (v:Value),ps[j]? = some p->items[j]? = some v->Z8 prog w s.heap v p.1 p.2) ->
  (∀ h' tk,h'.DictOf (zW prog w) D ((ps.drop i).foldl (λ(acc:List (Key×Value)) (p:Key×Value)=>stored acc p.1 p.2) acc)->(∀ b o,b ≠ D->b ≠ it->s.heap.get? b=some o->h'.get? b=some o)->R (.ok (.ret .none)) { s with heap:=h',toks:=tk }) ->
  codeAny (model prog w) A (.builtin "dict.update.loop" ⟨[.ref D,.ref it,rawInt i,.none],[]⟩) R s:=by
 intro n
 induction n with
 | zero=>
  intro i s acc hn hacc hit hl hd hp hR
  refine BG qG ?_
  rw[A7 zN _]
  show wpAny _ A.in1 (pyNext (.ref it) >>= _) _ _ s
  refine AA (CQ (show A.in1.handled=none from hh) hit hl (by simp;lia) λh' eb=>?_)
  show wpAny _ _ (Builtin.Dict.addKeywords D [] >>= _) _ _ _
  refine AA (AE (AE (hR h' s.toks ?_ λb o _ h2 e=>eb b o h2 e)))
  rw[Dt (by lia)]
  exact hd.extBut eb hDi
 | succ n ih=>
  intro i s acc hn hacc hit hl hd hp hR
  have hi:i < items.size:=by lia
  obtain⟨v,hv⟩:∃ v,items[i]? = some v:=⟨items[i],by simp[hi]⟩
  obtain⟨p,hpi⟩:∃ p,ps[i]? = some p:=⟨ps[i]'(by lia),by rw[AD (by lia)]⟩
  refine BG qG ?_
  rw[A7 zN _]
  show wpAny _ A.in1 (pyNext (.ref it) >>= _) _ _ s
  refine AA (CD hit hl hv λh1 hit1 hs1=>?_)
  obtain⟨oi,hoi,hci,_⟩:=hit
  have hp1:∀ (j:Nat) (p:Key×Value) (v:Value),ps[j]? = some p->items[j]? = some v->Z8 prog w h1 v p.1 p.2:=λj p v a b=>(hp j p v a b).keep (b0:=it) (λb o hb e=>hs1.extBut b o hb e) λo e=>by
   rw[hoi] at e;cases e;rw[hci];decide
  obtain⟨b,key,rfl,hb,hk⟩:=hp1 i p v hpi hv
  obtain⟨ot,e1,e2,nt,e3⟩:=id hb
  have hd1:=hd.extBut hs1.extBut hDi
  refine AA (BL (AA (wpAny_tryCatch ?_)))
  unfold Builtin.Dict.pairItems
  refine AA (Bw (T := "tuple") ⟨ot,e1,e2⟩ ?_)
  rw[if_pos (by decide)]
  refine AA (Bm e1 e3 (AE ?_))
  show wpAny _ _ (holding [key,p.2] (dictSet D key p.2)) _ _ _
  refine BL (wpAny_dictSet_pairs (hsz:=by lia) hk hd1 λh2 hd2 hs2=>?_)
  refine AE ⟨Bb zN _,?_⟩
  have hl1:h1.IsList L items:=hl.extBut hs1.extBut hLi
  have hle:(stored acc p.1 p.2).length<=c+(i+1):=by
   unfold stored
   split
   ·rw[AB];lia
   ·rw[AL];simp;lia
  obtain⟨oD,_,_,hoD,hcD,_⟩:=hd1
  have:=ih (i+1) { s with heap:=h2,toks:=s.toks+1 } (stored acc p.1 p.2) (by lia) hle (hit1.extBut hs2.extBut (Aw hDi)) (hl1.extBut hs2.extBut (Aw hDL)) hd2 (λj p v a b=>(hp1 j p v a b).keep (b0:=D) (λb o hb e=>hs2.extBut b o hb e) λo e=>by
    rw[hoD] at e;cases e;rw[hcD.1];decide) λh' tk hd' hk'=>?_
  ·simpa using this
  ·refine hR h' tk ?_ λb o h1 h2 e=>hk' b o h1 h2 (hs2.extBut b o h1 (hs1.extBut b o h2 e))
   have e4:ps.drop i=p :: ps.drop (i+1):=by
    rw[AF] at hpi
    obtain⟨h5,h6⟩:=hpi
    rw[<- h6]
    exact CF h5
   rw[e4,CI]
   exact hd'
def JN (D L:Addr) (hDL:D ≠ L) (kvs ps:List (Key×Value)) (items:Array Value) (k:Nat) (hlen:ps.length=items.size) (hsz:kvs.length+ps.length<=sizeLine) :
  MeetsIn prog w (Builtin.«dict.update» ⟨[.ref D,.ref L],[]⟩) (λA R s=>A.handled=none/\s.heap.get? L=some { cls:=.type "list",data:=.seq items k }/\s.heap.DictOf (zW prog w) D kvs/\(∀ (j:Nat) (p:Key×Value) (v:Value),ps[j]? = some p->items[j]? = some v->Z8 prog w s.heap v p.1 p.2) /\
   ∀ h' tk,h'.DictOf (zW prog w) D (ps.foldl (λ(acc:List (Key×Value)) (p:Key×Value)=>stored acc p.1 p.2) kvs)->(∀ b o,b ≠ D->s.heap.get? b=some o->h'.get? b=some o)->R (.ok (.ret .none)) { s with heap:=h',toks:=tk }):=by
 intro A R s ⟨hh,hx,hd,hp,h⟩
 unfold Builtin.«dict.update»
 refine AA ?_
 unfold Builtin.Dict.selfAndRest
 refine AA (EA hd.typeIs ?_)
 show wpAny _ _ (pure (D,[Value.ref L])) _ _ s
 refine AE ?_
 show wpAny _ _ (Builtin.Dict.updateFrom "dict.update" D (.ref L) [] .none) _ _ s
 unfold Builtin.Dict.updateFrom
 refine AA (Bw (T := "list") ⟨_,hx,O⟩ ?_)
 rw[if_pos (by decide)]
 refine AA (JD hx rfl rfl rfl (show A.in1.handled=none from hh) λh' tk kp=>?_)
 rw[if_pos (by rfl)]
 have hL':h'.IsList L items:=⟨_,kp _ _ hx,rfl,k,rfl⟩
 refine AA (Bi (AA (Bx hL' ?_)))
 have Llt:L < h'.objs.size:=AO (kp _ _ hx)
 have Dlt:D < h'.objs.size:=by
  obtain⟨o,_,_,e,_⟩:=id hd
  exact AO (kp _ _ e)
 refine AE ⟨Bb zN _,?_⟩
 have it0:(h'.push { cls:=.type "list_iterator",data:=.fields #[.ref L,.int 0 0] }).IsListIter h'.objs.size L 0:=⟨_,AN _ rfl,rfl,rfl⟩
 have hd':(h'.push { cls:=.type "list_iterator",data:=.fields #[.ref L,.int 0 0] }).DictOf (zW prog w) D kvs:=by
  obtain⟨od,es,ep,e,r⟩:=hd
  exact⟨od,es,ep,AC _ (kp _ _ e),r⟩
 refine zak (A:=A) hh D L h'.objs.size items kvs.length hDL (AU Dlt) (AU Llt) ps hlen hsz items.size 0 { s with heap:=h'.push { cls:=.type "list_iterator",data:=.fields #[.ref L,.int 0 0] },toks:=tk } kvs rfl (AM _) it0 ⟨_,AC _ (kp _ _ hx),O,k,O⟩ hd' (λj p v a b=>?_) λh2 tk2 hd2 hk2=>?_
 ·obtain⟨bb,key,e1,⟨ot,e2,r⟩,e3⟩:=hp j p v a b
  exact⟨bb,key,e1,⟨ot,AC _ (kp _ _ e2),r⟩,e3⟩
 ·refine h h2 tk2 ?_ λb ob hb e=>hk2 b ob hb (AU (AO (kp _ _ e))) (AC _ (kp _ _ e))
  rw[De] at hd2
  exact hd2
end
section
variable {X:Cx}
def rUpdP:V->List V->Hp->VK->Prop:=λx vs H Q=>∃ d p kvs xs ps,x=.ref d/\vs=[.ref p]/\H d=some (.dK kvs)/\H p=some (.lst xs)/\Prs H xs ps/\kvs.length+ps.length<=sizeLine/\Q .non (upd H d (.dK (putAll kvs ps)))
def mt_updP (hc:X.calm=true):MtR X "dict.update" rUpdP:=by
 intro pins s σ H x vs v us Q I rx rv h
 obtain⟨d,p,kvs,xs,ps,rfl,rfl,hd0,hq,hps,hz,q⟩:=h
 cases rx
 obtain⟨u,rfl,ru⟩:=vals1 rv
 cases ru
 obtain⟨z,hb,es,rel,dd⟩:=dk_of I.hok hd0
 obtain⟨hzl,its,n,rvl,eo⟩:=(show qO X.prog X.w H s.heap p (.lst xs) from I.hok p _ hq)
 obtain⟨rs,rk,hpa⟩:=prs_at I.hok hps rvl
 have a1:=rk.length
 have a2:=A3 hps
 have a3:=rvl.length
 have a4:=rel.length
 have ne:d ≠ p:=λe=>by
  rw[e,hq] at hd0
  cases hd0
 refine call_meetsIn PySem.F.slot_dict_update dd.typeIs PySem.F.entry_dict_update (PySem.F.args_dict_update_2 _ _) (JN d p ne es rs its.toArray n (by simp;lia) (by lia)) ⟨I.ok.hd hc,eo,dd,λj p v a b=>hpa j p v a (by simpa using b),λh' tk hd' kp=>?_⟩
 have hl:(putAll kvs ps).length<=sizeLine:=by
  have:=jA ps kvs
  lia
 have he:∃ o,h'.get? d=some o:=let ⟨o,_,_,ho,_⟩:=hd';⟨o,ho⟩
 refine⟨.non,_,I.write (x:=d) (e:=d) (t':=tk) (o:=.dK (putAll kvs ps)) (by rw[hd0];exact True.intro) (.inl rfl) kp he ⟨hl,hb,_,XV rk rel,hd'⟩,O,q⟩
end
section
variable {X:Cx}
end
end L2
namespace L4
open PySem L2
inductive Sy where
 | ltr (x:Str)
 | n0 (nm:Str)
 | n1 (nm:Str) (a:Sy)
 | n2 (nm:Str) (a b:Sy)
namespace Sy
def nm:Sy->Str
 | ltr x=>x
 | n0 n=>n
 | n1 n _=>n
 | n2 n _ _=>n
def ps:Sy->List Sy
 | ltr _=>[]
 | n0 _=>[]
 | n1 _ a=>[a]
 | n2 _ a b=>[a,b]
def isL:Sy->Bool
 | ltr _=>true
 | _=>false
def dp:Sy->Nat
 | ltr _=>0
 | n0 _=>1
 | n1 _ a=>a.dp+1
 | n2 _ a b=>max a.dp b.dp+1
def sz:Sy->Nat
 | ltr _=>1
 | n0 _=>1
 | n1 _ a=>a.sz+1
 | n2 _ a b=>a.sz+b.sz+1
def mk (nm:Str):List Sy->Sy
 | []=>n0 nm
 | [a]=>n1 nm a
 | a :: b :: _=>n2 nm a b
end Sy
def Sy.dp_lt {s a:Sy} (h:a ∈ s.ps):a.dp < s.dp:=by
 cases s with
 | ltr x=>cases h
 | n0 n=>cases h
 | n1 n b=>
  rw[AG.mp h]
  exact BV _
 | n2 n b c=>
  show a.dp < max b.dp c.dp+1
  rcases AX.mp h with rfl | h
  ·lia
  ·rw[AG.mp h]
   lia
def Sy.sz_ps (s:Sy):(s.ps.map Sy.sz).sum+1=s.sz:=by
 cases s <;> simp[Sy.ps,Sy.sz]
def jU (H:Hp):Sy->V->Prop
 | .ltr x,v=>v=.str x
 | .n0 nm,v=>∃ t,v=.ref t/\H t=some (.tup [.str nm])
 | .n1 nm a,v=>∃ t u,v=.ref t/\H t=some (.tup [.str nm,u])/\jU H a u
 | .n2 nm a b,v=>∃ t u w,v=.ref t/\H t=some (.tup [.str nm,u,w])/\jU H a u/\jU H b w
theorem jU.tk {H H':Hp} (k:Tk H H'):∀ {s:Sy} {v:V},jU H s v->jU H' s v
 | .ltr x,v,h=>h
 | .n0 nm,v,⟨t,e,h⟩=>⟨t,e,k _ _ h⟩
 | .n1 nm a,v,⟨t,u,e,h,ha⟩=>⟨t,u,e,k _ _ h,jU.tk k ha⟩
 | .n2 nm a b,v,⟨t,u,w,e,h,ha,hb⟩=>⟨t,u,w,e,k _ _ h,jU.tk k ha,jU.tk k hb⟩
def jU.same {H H':Hp} (k:zD H H') {s:Sy} {v:V} (h:jU H s v):jU H' s v:=h.tk (Tk.of k)
def jU.node {H:Hp} {s:Sy} {v:V} (h:jU H s v) (hs:s.isL=false):∃ t us,v=.ref t/\H t=some (.tup (.str s.nm :: us))/\Paired (jU H) s.ps us:=by
 cases s with
 | ltr x=>cases hs
 | n0 nm=>
  obtain⟨t,e,h⟩:=h
  exact⟨t,[],e,h,.nil⟩
 | n1 nm a=>
  obtain⟨t,u,e,h,ha⟩:=h
  exact⟨t,[u],e,h,.cons ha .nil⟩
 | n2 nm a b=>
  obtain⟨t,u,w,e,h,ha,hb⟩:=h
  exact⟨t,[u,w],e,h,.cons ha (.cons hb .nil)⟩
def jU.letter {H:Hp} {s:Sy} {v:V} (h:jU H s v) (hs:s.isL=true):v=.str s.nm:=by
 cases s with
 | ltr x=>exact h
 | _=>cases hs
def jU.of {H:Hp} {nm:Str} {ss:List Sy} {us:List V} {t:Addr} (h:H t=some (.tup (.str nm :: us))) (hp:Paired (jU H) ss us) (hl:ss.length<=2):jU H (Sy.mk nm ss) (.ref t):=by
 cases hp with
 | nil=>exact⟨t,O,h⟩
 | @cons a u ss us ha hp=>
  cases hp with
  | nil=>exact⟨t,u,O,h,ha⟩
  | @cons b w ss us hb hp=>
   cases hp with
   | nil=>exact⟨t,u,w,O,h,ha,hb⟩
   | cons _ _=>
    exfalso
    simp at hl
def Ltr (x:Str):Prop:=x.length=1/\Small x
open PySem L2
def Ya.tk {H H':Hp} (s:Tk H H') {xs:List V} {ps:List (List Key×V)} (h:Ya H xs ps):Ya H' xs ps:=by
 unfold Ya at h ⊢
 induction h with
 | nil=>exact .nil
 | cons r _ ih=>
  obtain⟨b,kb,e,hb,hk⟩:=r
  exact .cons ⟨b,kb,e,s _ _ hb,s _ _ hk⟩ ih
def Ya.snoc {H:Hp} {xs:List V} {ps:List (List Key×V)} {p:List Key×V} {b kb:Addr} (h:Ya H xs ps) (hb:H b=some (.tup [.ref kb,p.2])) (hk:H kb=some (.tup (p.1.map kV))):Ya H (xs++[.ref b]) (ps++[p]):=by
 unfold Ya at h ⊢
 induction h with
 | nil=>exact .cons ⟨b,kb,O,hb,hk⟩ .nil
 | cons r _ ih=>exact .cons r ih
theorem wS:∀ (ps acc:List (List Key×V)) (k:List Key),k ∉ ps.map Prod.fst->jz (putAllT acc ps) k=jz acc k
 | [],acc,k,_=>rfl
 | p :: ps,acc,k,h=>by
  rw[Aj,AX,not_or] at h
  show jz (putAllT (ZX acc p.1 p.2) ps) k=_
  rw[wS ps _ k h.2,Jj,if_neg h.1]
theorem zal:∀ (ps acc:List (List Key×V)) (p:List Key×V),(ps.map Prod.fst).Nodup->p ∈ ps->jz (putAllT acc ps) p.1=some p.2
 | [],acc,p,_,h=>by cases h
 | z :: ps,acc,p,hn,h=>by
  rw[Aj,BP] at hn
  show jz (putAllT (ZX acc z.1 z.2) ps) p.1=_
  rcases AX.mp h with rfl | h
  ·rw[wS ps _ _ hn.1,Jj,if_pos rfl]
  ·exact zal ps _ p hn.2 h
end L4
namespace Tn
def fp {α:Type} [DecidableEq α] (xs:List α):List Nat:=xs.map λx=>xs.idxOf x
def fp_len {α:Type} [DecidableEq α] (xs:List α):(fp xs).length=xs.length:=AB _
def fp_at {α:Type} [DecidableEq α] {xs:List α} {i:Nat} {x:α} (h:xs[i]? = some x):at' (fp xs) i=xs.idxOf x:=by
 unfold at' fp
 rw[AQ,AH,h]
 rfl
def idx_get {α:Type} [DecidableEq α] {xs:List α} {x:α} (h:x ∈ xs):xs[xs.idxOf x]? = some x:=by
 have hl:=BH h
 rw[AD hl,Cf]
theorem idx_le {α:Type} [DecidableEq α]:∀ {xs:List α} {x:α} {i:Nat},xs[i]? = some x->xs.idxOf x<=i
 | [],x,i,h=>by simp at h
 | y :: xs,x,i,h=>by
  rw[List.idxOf_cons]
  by_cases e:y=x
  ·simp[e]
  ·have e':(y == x)=false:=by simpa using e
   rw[e']
   cases i with
   | zero=>simp at h;exact absurd h e
   | succ i=>
    have:=idx_le (xs:=xs) (x:=x) (i:=i) (by simpa using h)
    simpa using this
structure Mk (n:Nat) (ms:List Nat):Prop where
 len:ms.length=n
 le:∀ i,i < n->at' ms i<=i
 rep:∀ i,i < n->at' ms (at' ms i)=at' ms i
def fp_mk {α:Type} [DecidableEq α] (xs:List α):Mk xs.length (fp xs):=by
 refine⟨fp_len xs,λi hi=>?_,λi hi=>?_⟩
 ·rw[fp_at (AD hi)]
  exact idx_le (AD hi)
 ·rw[fp_at (AD hi),fp_at (idx_get (Cz hi))]
def fp_eq {α:Type} [DecidableEq α] {xs:List α} {i j:Nat} {x y:α} (hi:xs[i]? = some x) (hj:xs[j]? = some y):at' (fp xs) i=at' (fp xs) j ↔ x=y:=by
 rw[fp_at hi,fp_at hj]
 constructor
 ·intro e
  have h1:=idx_get (AJ hi)
  have h2:=idx_get (AJ hj)
  rw[e,h2] at h1
  exact (AR h1).symm
 ·intro e
  rw[e]
def at_ext {xs ys:List Nat} {n:Nat} (h1:xs.length=n) (h2:ys.length=n) (h:∀ i,i < n->at' xs i=at' ys i):xs=ys:=by
 refine CP λi=>?_
 by_cases hi:i < n
 ·have:=h i hi
  unfold at' at this
  rw[AQ,AQ,AD (by lia),AD (by lia)] at this
  rw[AD (by lia),AD (by lia)]
  exact BQ some this
 ·rw[BB (by lia),BB (by lia)]
def Mk.lt {n:Nat} {ms:List Nat} (h:Mk n ms) {i:Nat} (hi:i < n):at' ms i < n:=EC (h.le i hi) hi
def mk_ext {n:Nat} {ms ks:List Nat} (h1:Mk n ms) (h2:Mk n ks) (h:∀ i j,i < n->j < n->(at' ms i=at' ms j ↔ at' ks i=at' ks j)):ms=ks:=by
 refine at_ext h1.len h2.len λi hi=>Ef ?_ ?_
 ·have a:=h2.lt hi
  have:=(h _ i a hi).mpr (h2.rep i hi)
  rw[<- this]
  exact h1.le _ a
 ·have a:=h1.lt hi
  have:=(h _ i a hi).mp (h1.rep i hi)
  rw[<- this]
  exact h2.le _ a
def reps (n:Nat) (ms:List Nat):List Nat:=(List.range n).filter λi=>decide (at' ms i=i)
theorem count_back {p q:Nat->Bool}:∀ {l:List Nat},(∀ i ∈ l,p i=true->q i=true)->(l.filter q).length<=(l.filter p).length->∀ i ∈ l,q i=true->p i=true
 | [],_,_,i,hi,_=>by cases hi
 | a :: l,h,hc,i,hi,hq=>by
  have ha:=h a (Af ..)
  have ht:=λi hi=>h i (Ah a hi)
  have mono:(l.filter p).length<=(l.filter q).length:=by
   have:∀ l:List Nat,(∀ i ∈ l,p i=true->q i=true)->(l.filter p).length<=(l.filter q).length:=by
    intro l
    induction l with
    | nil=>intro _;exact AM _
    | cons b l ih=>
     intro hb
     have h1:=ih λi hi=>hb i (Ah _ hi)
     have h2:=hb b (Af ..)
     rw[CB,CB]
     cases hpb:p b <;> cases hqb:q b <;> simp_all <;> lia
   exact this l ht
  rw[CB,CB] at hc
  cases hpa:p a with
  | true=>
   rw[hpa,ha hpa] at hc
   simp at hc
   rcases AX.mp hi with rfl | hi
   ·exact hpa
   ·exact count_back ht hc i hi hq
  | false=>
   rw[hpa] at hc
   cases hqa:q a with
   | true=>rw[hqa] at hc;simp at hc;lia
   | false=>
    rw[hqa] at hc
    simp at hc
    rcases AX.mp hi with rfl | hi
    ·rw[hqa] at hq;cases hq
    ·exact count_back ht hc i hi hq
def reps_grow {n:Nat} {ms ks:List Nat} (h1:Mk n ms) (h2:Mk n ks) (h:∀ i j,i < n->j < n->at' ks i=at' ks j->at' ms i=at' ms j) (ne:¬ ks=ms):(reps n ms).length < (reps n ks).length:=by
 refine Bu λhc=>ne ?_
 have up:∀ i ∈ List.range n,decide (at' ms i=i)=true->decide (at' ks i=i)=true:=λi hi e=>by
  have hi:=Ab.mp hi
  have e:=Ar e
  refine An ?_
  have a:=h2.lt hi
  have h3:=h _ i a hi (h2.rep i hi)
  have h4:=h1.le _ a
  have h5:=h2.le i hi
  lia
 have dn:=count_back up (by unfold reps at hc;lia)
 refine mk_ext h2 h1 λi j hi hj=>⟨h i j hi hj,λe=>?_⟩
 have a:=h2.lt hi
 have b:=h2.lt hj
 have ra:=Ar (dn _ (Ab.mpr a) (An (h2.rep i hi)))
 have rb:=Ar (dn _ (Ab.mpr b) (An (h2.rep j hj)))
 have ea:=h _ i a hi (h2.rep i hi)
 have eb:=h _ j b hj (h2.rep j hj)
 lia
def sgn (fs:List (Nat->Nat)) (ms:List Nat) (x:Nat):List Nat:=at' ms x :: fs.map λf=>at' ms (f x)
def refn (n:Nat) (fs:List (Nat->Nat)) (ms:List Nat):List Nat:=fp ((List.range n).map (sgn fs ms))
def refn_mk (n:Nat) (fs:List (Nat->Nat)) (ms:List Nat):Mk n (refn n fs ms):=by
 have:=fp_mk ((List.range n).map (sgn fs ms))
 rwa [AB,AZ] at this
def refn_eq {n:Nat} {fs:List (Nat->Nat)} {ms:List Nat} {i j:Nat} (hi:i < n) (hj:j < n):at' (refn n fs ms) i=at' (refn n fs ms) j ↔ at' ms i=at' ms j/\∀ f ∈ fs,at' ms (f i)=at' ms (f j):=by
 unfold refn
 rw[fp_eq (x:=sgn fs ms i) (y:=sgn fs ms j) (by rw[AH,A2 hi];rfl) (by rw[AH,A2 hj];rfl)]
 unfold sgn
 rw[List.cons.injEq]
 constructor
 ·intro ⟨a,b⟩
  refine⟨a,λf hf=>?_⟩
  exact List.map_inj_left.mp b f hf
 ·intro ⟨a,b⟩
  exact⟨a,Bk b⟩
def itr (n:Nat) (fs:List (Nat->Nat)) (ms:List Nat):Nat->List Nat
 | 0=>ms
 | k+1=>refn n fs (itr n fs ms k)
theorem itr_mk {n:Nat} {fs:List (Nat->Nat)} {ms:List Nat} (h:Mk n ms):∀ k,Mk n (itr n fs ms k)
 | 0=>h
 | k+1=>refn_mk ..
theorem itr_sub {n:Nat} {fs:List (Nat->Nat)} {ms:List Nat}:∀ k i j,i < n->j < n->at' (itr n fs ms k) i=at' (itr n fs ms k) j->at' ms i=at' ms j
 | 0,_,_,_,_,e=>e
 | k+1,i,j,hi,hj,e=>itr_sub k i j hi hj ((refn_eq hi hj).mp e).1
def reps_le (n:Nat) (ms:List Nat):(reps n ms).length<=n:=by
 have:=DL (λi=>decide (at' ms i=i)) (List.range n)
 rwa [AZ] at this
def itr_stop {n:Nat} {fs:List (Nat->Nat)} {ms:List Nat} (h:Mk n ms) (hn:1<=n):refn n fs (itr n fs ms n)=itr n fs ms n:=by
 have all:∀ k,refn n fs (itr n fs ms k)=itr n fs ms k\/k+1<=(reps n (itr n fs ms k)).length:=by
  intro k
  induction k with
  | zero=>
   refine .inr ?_
   have h0:0 ∈ reps n ms:=Bf.mpr ⟨Ab.mpr (by lia),An (by have:=h.le 0 (by lia);lia)⟩
   exact DE h0
  | succ k ih=>
   by_cases e:refn n fs (itr n fs ms k)=itr n fs ms k
   ·refine .inl ?_
    show refn n fs (refn n fs (itr n fs ms k))=refn n fs (itr n fs ms k)
    rw[e,e]
   ·have:=reps_grow (itr_mk h k) (itr_mk h (k+1)) (λi j hi hj z=>((refn_eq hi hj).mp z).1) e
    rcases ih with ih | ih
    ·exact absurd ih e
    ·exact .inr (by lia)
 rcases all n with h1 | h1
 ·exact h1
 ·have:=reps_le n (itr n fs ms n)
  lia
structure Fix (n:Nat) (ws:List Nat) (fs:List (Nat->Nat)) (M:List Nat):Prop where
 mks:Mk n M
 wish:∀ i j,i < n->j < n->at' M i=at' M j->(i ∈ ws ↔ j ∈ ws)
 step:∀ i j,i < n->j < n->at' M i=at' M j->∀ f ∈ fs,at' M (f i)=at' M (f j)
def mk0 (n:Nat) (ws:List Nat):List Nat:=fp ((List.range n).map λi=>decide (i ∈ ws))
def mkN (n:Nat) (ws:List Nat) (fs:List (Nat->Nat)):List Nat:=itr n fs (mk0 n ws) n
def mk0_mk (n:Nat) (ws:List Nat):Mk n (mk0 n ws):=by
 have:=fp_mk ((List.range n).map λi=>decide (i ∈ ws))
 rwa [AB,AZ] at this
def mkN_fix {n:Nat} (ws:List Nat) (fs:List (Nat->Nat)) (hn:1<=n):Fix n ws fs (mkN n ws fs):=by
 refine⟨itr_mk (mk0_mk n ws) n,λi j hi hj e=>?_,λi j hi hj e f hf=>?_⟩
 ·have h1:=itr_sub n i j hi hj e
  unfold mk0 at h1
  rw[fp_eq (x:=decide (i ∈ ws)) (y:=decide (j ∈ ws)) (by rw[AH,A2 hi];rfl) (by rw[AH,A2 hj];rfl)] at h1
  simpa using h1
 ·have h1:=itr_stop (fs:=fs) (mk0_mk n ws) hn
  have e':at' (itr n fs (mk0 n ws) n) i=at' (itr n fs (mk0 n ws) n) j:=e
  rw[<- h1] at e'
  exact ((refn_eq hi hj).mp e').2 f hf
def reps_mem {n:Nat} {M:List Nat} {r:Nat}:r ∈ reps n M ↔ r < n/\at' M r=r:=by
 unfold reps
 rw[Bf,Ab,decide_eq_true_iff]
def reps_ris (n:Nat) (M:List Nat):(reps n M).Pairwise (· < ·):=B2 _ Bg
def Mk.mem_reps {n:Nat} {M:List Nat} (h:Mk n M) {i:Nat} (hi:i < n):at' M i ∈ reps n M:=reps_mem.mpr ⟨h.lt hi,h.rep i hi⟩
def Mk.mem_iff {n:Nat} {M:List Nat} (h:Mk n M) (d:Nat):d ∈ M ↔ d ∈ reps n M:=by
 constructor
 ·intro hd
  obtain⟨i,hi⟩:=BN.mp hd
  have hil:i < n:=by rw[<- h.len];exact (AF.mp hi).1
  have:at' M i=d:=by
   unfold at'
   rw[AQ,hi]
   rfl
  rw[<- this]
  exact h.mem_reps hil
 ·intro hd
  obtain⟨h1,h2⟩:=reps_mem.mp hd
  have:M[d]? = some (at' M d):=by
   unfold at'
   rw[AQ,AD (by rw[h.len];exact h1)]
   rfl
  rw[h2] at this
  exact AJ this
def ris_eq {xs ys:List Nat} (h1:xs.Pairwise (· <= ·)) (n1:xs.Nodup) (h2:ys.Pairwise (· < ·)) (h:∀ d,d ∈ xs ↔ d ∈ ys):xs=ys:=by
 have n2:ys.Nodup:=h2.imp λh=>AU h
 exact ((Dd n1 n2).mpr h).eq_of_pairwise (λa b _ _ h k=>Ef h k) h1 (h2.imp CN)
def partF (n:Nat) (M:List Nat) (r:Nat):List Nat:=(List.range n).filter λi=>decide (at' M i=r)
def part_mem {n:Nat} {M:List Nat} {r i:Nat}:i ∈ partF n M r ↔ i < n/\at' M i=r:=by
 unfold partF
 rw[Bf,Ab,decide_eq_true_iff]
def part_head {n:Nat} {M:List Nat} (h:Mk n M) {r:Nat} (hr:r ∈ reps n M):(partF n M r)[0]? = some r:=by
 obtain⟨h1,h2⟩:=reps_mem.mp hr
 have hm:r ∈ partF n M r:=part_mem.mpr ⟨h1,h2⟩
 have ris:(partF n M r).Pairwise (· < ·):=B2 _ Bg
 cases e:partF n M r with
 | nil=>rw[e] at hm;cases hm
 | cons a l=>
  have ha:a ∈ partF n M r:=by rw[e];exact Af ..
  obtain⟨a1,a2⟩:=part_mem.mp ha
  have:=h.le a a1
  rw[e] at hm ris
  rcases AX.mp hm with rfl | hm
  ·rfl
  ·have:=(Ce.mp ris).1 r hm
   lia
def homes (n:Nat) (M:List Nat):List Nat:=(List.range n).map λi=>(reps n M).idxOf (at' M i)
def homes_at {n:Nat} {M:List Nat} {i:Nat} (hi:i < n):at' (homes n M) i=(reps n M).idxOf (at' M i):=by
 unfold homes
 show ((List.range n).map _).getD i 0=_
 rw[AQ,AH,A2 hi]
 rfl
def homes_lt {n:Nat} {M:List Nat} (h:Mk n M) {i:Nat} (hi:i < n):at' (homes n M) i < (reps n M).length:=by
 rw[homes_at hi]
 exact BH (h.mem_reps hi)
def reps_home {n:Nat} {M:List Nat} (h:Mk n M) {i:Nat} (hi:i < n):at' (reps n M) (at' (homes n M) i)=at' M i:=by
 rw[homes_at hi]
 show (reps n M).getD ((reps n M).idxOf (at' M i)) 0=_
 rw[AQ,idx_get (h.mem_reps hi)]
 rfl
def homes_eq {n:Nat} {M:List Nat} (h:Mk n M) {i j:Nat} (hi:i < n) (hj:j < n):at' (homes n M) i=at' (homes n M) j ↔ at' M i=at' M j:=by
 constructor
 ·intro e
  rw[<- reps_home h hi,e,reps_home h hj]
 ·intro e
  rw[homes_at hi,homes_at hj,e]
def homes_reps {n:Nat} {M:List Nat} (h:Mk n M) {y:Nat} (hy:y < (reps n M).length):at' (reps n M) y < n/\at' (homes n M) (at' (reps n M) y)=y:=by
 have hg:(reps n M)[y]? = some (at' (reps n M) y):=by
  unfold at'
  rw[AQ,AD hy]
  rfl
 obtain⟨h1,h2⟩:=reps_mem.mp (AJ hg)
 refine⟨h1,?_⟩
 rw[homes_at h1,h2]
 have nd:(reps n M).Nodup:=(reps_ris n M).imp λh=>AU h
 have:=List.Nodup.idxOf_getElem nd y hy
 have e:at' (reps n M) y=(reps n M)[y]:=by
  rw[AD hy] at hg
  exact (AR hg).symm
 rw[e]
 exact this
end Tn
namespace L2
open PySem PySem.Spec PyProof.Rows
section
variable {X:Cx} {N':List Str} {ix:List (Option Nat)} {scope:Scope} {y:Str} {pins:List (Addr × Obj)} {σ:St} {H:Hp} {s:Shared} {fp:List Addr}
end
def zam {K:Fs} {a:Addr} {xs:List V} {g:TG} {tb:TS} {D:Xc} {σ:St} {H:Hp} (Pv:Nat->St->Hp->Prop) (h0:Pv 0 σ H) (hl:∀ i σ H,i<=xs.length->Pv i σ H->SqT K H a xs)
  (hs:∀ i x σ H T,xs[i]? = some x->Pv i σ H->H T=none->g (.ref T) σ (upd H T (.tup [.int (i:Nat),x])) λσ2 H2=>tb { D with nx:=Pv (i+1),ct:=Pv (i+1),bk:=D.nx } σ2 H2) (hd:∀ σ H,Pv xs.length σ H->D.nx σ H) :
  ∃ W:Nat->Nat->St->Hp->Prop,(∃ m,W 0 m σ H)/\∀ i m σ H,W i m σ H ->
   ((Itet K a).stop i H/\D.nx σ H)\/((Itet K a).go i H/\∃ N:St->Hp->Prop,(∀ σ' H',N σ' H'->∃ m',m' < m/\W (i+1) m' σ' H')/\∀ x H',(Itet K a).yld i H x H'->g x σ H' λσ2 H2=>tb { D with nx:=N,ct:=N,bk:=D.nx } σ2 H2):=by
 refine⟨λi m σ H=>m=xs.length - i/\i<=xs.length/\Pv i σ H,⟨xs.length,by simp,BA _,h0⟩,?_⟩
 rintro i m σ H ⟨rfl,hi,p⟩
 have q:=hl i σ H hi p
 by_cases hlt:i < xs.length
 ·refine .inr ⟨⟨xs,xs[i],q,by simp[hlt]⟩,Pv (i+1),λσ' H' p'=>⟨xs.length - (i+1),by lia,O,hlt,p'⟩,?_⟩
  rintro v H' ⟨T,x,hT,rfl,rfl,hall⟩
  exact hs i x σ H T (hall xs q) p hT
 ·have e:i=xs.length:=by lia
  subst e
  exact .inl ⟨⟨xs,q,O⟩,hd σ H p⟩
open PySem PySem.Spec PyProof.Rows PySem.W
section
variable {prog:Program} {w:World} {A:Around} {E:Value->Shared->Prop} {s:Shared} {d it:Addr} {es:Array DictEntry} {ep i:Nat}
end
section
variable {prog:Program} {w:World} {A:Around} {E:Value->Shared->Prop} {s:Shared}
end
section
variable {X:Cx}
end
theorem ZJ:∀ bs:List Bool,((List.range bs.length).any λi=>bs.getD i false)=bs.any id
 | []=>rfl
 | b :: bs=>by
  have ih:=ZJ bs
  rw[Am,DD,CV,List.any_map,CV,<- ih]
  rfl
def bt_any:bootBuiltins "any" = some (.builtin "any"):=by ac_rfl
section
variable {X:Cx}
def ym (K:Fs) (hc:X.calm=true) (hK:X.K=K:=by rfl):j6 X (.builtin "any") (λxs H Q=>∃ (p:Addr) (bs:List Bool),xs=[.ref p]/\SqL K H p (bs.map V.bl)/\Q (.bl (bs.any id)) H):=by
 subst hK
 intro pins s σ H xs us Q I r h
 obtain⟨p,bs,rfl,hq,q⟩:=h
 obtain⟨u,rfl,ru⟩:=vals1 r
 cases ru
 obtain⟨its,rv,pl,_⟩:=I.list hq
 have hl:s.heap.IsList p its.toArray:=pl.isList
 have hlt:p < s.heap.objs.size:=by obtain⟨_,e,_⟩:=hl;exact AO e
 refine call_any_walk (Bx hl ⟨_,_,_,_,_,_,λi=>bs.getD i false,O,Walks.list (A:=X.A.in1) (I.ok.hd hc) _ p (AU hlt) its.toArray,⟨⟨_,AN _ rfl,O,O⟩,hl.push _⟩,λi v s' Q' E' hv hQ=>?_,λh' tk hk=>⟨.bl _,H,I.kept (old_kept hk),O,?_⟩⟩)
 ·have hv':its[i]? = some v:=by simpa using hv
  rw[YN rv,AH] at hv'
  obtain⟨b,hb,rfl⟩:=AW.mp hv'
  have e:bs.getD i false=b:=by simp[List.getD,hb]
  have z:Q' (bs.getD i false) s':=hQ
  rw[e] at z
  exact B9 z
 ·have e1:its.toArray.size=bs.length:=by
   have:=rv.length
   rw[AB] at this
   simp;lia
  rw[e1,ZJ bs]
  exact q
end
section
variable {X:Cx}
end
section
variable {prog:Program} {w:World} {A:Around} {E:Value->Shared->Prop} {s:Shared}
abbrev zan (prog:Program) (w:World) (b:Bool) (h:Heap) (a:Addr) (l:List Str):Prop:=SetT (PySem.strKind prog w) h a (λx=>decide (x ∈ l)) l.length b
def JO {b:Bool} {h h':Heap} {a:Addr} {l:List Str} (x:zan prog w b h a l) (k:∀ o,h.get? a=some o->h'.get? a=some o):zan prog w b h' a l:=by
 obtain⟨o,es,ep,t,ho,r⟩:=x
 exact⟨o,es,ep,t,k o ho,r⟩
def xI {K:Type} [DecidableEq K] {knd:KeyKind prog w K} {h:Heap} {a:Addr} {S S':K->Bool} {n n':Nat} {b:Bool} (x:SetT knd h a S n b) (e:∀ k,S k=S' k) (en:n=n'):SetT knd h a S' n' b:=by
 obtain rfl:S=S':=funext e
 subst en
 exact x
def zao {R:Result->Shared->Prop} {J l a:Addr} {items:Array Value} {ys:List Str} {bb:Bool} (hh:A.in1.handled=none) (hJ:l ≠ J) (aJ:a ≠ J) (al:a ≠ l) (hv:∀ (i:Nat) (v:Value),items[i]? = some v->∃ t,v=.str (ys.getD i "") t) (hn:items.size=ys.length) (hb:ys.length+1 < scanBound) :
  ∀ (k i:Nat) (s:Shared),ys.length - i=k->i<=ys.length->s.heap.IsListIter J l i->s.heap.IsList l items->zan prog w bb s.heap a (Q0 (ys.take i)) ->
   (∀ h' tk,(∀ b o,b ≠ a->b ≠ J->s.heap.get? b=some o->h'.get? b=some o)->zan prog w bb h' a (Q0 ys)->R (.ok (.ret .none)) { s with heap:=h',toks:=tk }) ->
   codeAny (model prog w) A (.builtin "set.update.loop" ⟨[.ref a,.ref J],[]⟩) R s:=by
 intro k
 induction k with
 | zero=>
  intro i s hk hi h1 h2 h3 hR
  have e:i=ys.length:=by lia
  subst e
  refine BG B7 ?_
  rw[A7 BO _]
  show wpAny _ A.in1 (pyNext (.ref J) >>= _) _ _ s
  refine AA (CQ hh h1 h2 (by first | lia | (simp;lia)) λh' eb=>?_)
  show wpAny _ A.in1 (ret Value.none) _ _ _
  rw[Ag] at h3
  exact AE (hR h' s.toks (λb o _ nb e=>eb b o nb e) (JO h3 λo e=>eb a o aJ e))
 | succ k ih=>
  intro i s hk hi h1 h2 h3 hR
  have hlt:i < ys.length:=by lia
  refine BG B7 ?_
  rw[A7 BO _]
  show wpAny _ A.in1 (pyNext (.ref J) >>= _) _ _ s
  have hi2:items[i]? = some (items[i]'(by lia)):=by simp[show i < items.size by lia]
  refine AA (CD h1 h2 hi2 λh' h1' sb=>?_)
  obtain⟨t,et⟩:=hv i _ hi2
  rw[et]
  have h3':zan prog w bb h' a (Q0 (ys.take i)):=JO h3 λo e=>(sb.2 a aJ).trans e
  show wpAny _ A.in1 (holding [Value.str (ys.getD i "") t] (setAdd a (.str (ys.getD i "") t)) >>= _) _ _ _
  refine AA (BL ?_)
  unfold setAdd
  have is1:(PySem.strKind prog w).is (ys.getD i "") (.str (ys.getD i "") t)=true:=by
   simp[PySem.strKind,Value.isStrOf]
  refine BL (AA ((PySem.strKind prog w).pyHash (k:=ys.getD i "") is1 ?_))
  have room:(Q0 (ys.take i)).length+1 < scanBound:=by
   have:=dedK_len (ys.take i)
   rw[Ai] at this
   lia
  refine setAddT (knd:=PySem.strKind prog w) (s:={ s with heap:=h',toks:=s.toks+1 }) is1 rfl h3' room λh'' sb2 h4=>?_
  have ey:ys[i]? = some (ys.getD i ""):=by simp[List.getD,hlt]
  have e1:ys.take (i+1)=ys.take i++[ys.getD i ""]:=by rw[EN,ey];rfl
  have h5:zan prog w bb h'' a (Q0 (ys.take (i+1))):=by
   refine xI h4 (λx=>?_) ?_
   ·rw[e1,W7]
    by_cases c1:x ∈ Q0 (ys.take i) <;> by_cases c2:x=ys.getD i "" <;> simp[YO,c1,c2]
   ·rw[e1,W7,YQ]
    by_cases c1:ys.getD i "" ∈ Q0 (ys.take i) <;> simp[c1]
  refine AE ⟨Bb BO _,ih (i+1) { s with heap:=h'',toks:=s.toks+1 } (by lia) hlt ?_ ?_ h5 λh6 tk k6 s6=>hR h6 tk (λb o na nJ e=>k6 b o na nJ ((sb2.2 b na).trans ((sb.2 b nJ).trans e))) s6⟩
  ·obtain⟨o,q1,q2⟩:=h1'
   exact⟨o,(sb2.2 J (Aw aJ)).trans q1,q2⟩
  ·obtain⟨o,q1,q2⟩:=h2
   exact⟨o,(sb2.2 l (Aw al)).trans ((sb.2 l hJ).trans q1),q2⟩
def zap {l:Addr} {items:Array Value} {ys:List Str} {Q:Value->Shared->Prop} (hh:A.handled=none) (hl:s.heap.IsList l items) (hi:StrsAre items.toList ys) (hb:ys.length+1 < scanBound)
  (h:∀ h' tk,zan prog w (!qC w) h' s.heap.objs.size (Q0 ys)->(∀ b o,b < s.heap.objs.size->s.heap.get? b=some o->h'.get? b=some o)->Q (.ref s.heap.objs.size) { s with heap:=h',toks:=tk }) :
  wpAny (model prog w) A (call (.type "set") [.ref l]) Q E s:=by
 obtain⟨c0,tl0,hmro⟩:=A9.mro
 have made:=A9.made;have subs:=A9.sub
 have nt:=A9.notType;have cc:=A9.canCreate;have tcall:=PySem.F.typeCall_set_1 (.ref l)
 refine wpAny_call (codeAny_of_tree ?_)
 show wpAny _ _ (callAny (.type "set") ⟨[.ref l],[]⟩) _ _ _
 refine AE ⟨Code.quiet_builtin _ (by ac_rfl),BG PySem.F.entry_type_call ?_⟩
 rw[Around.under_plain (weight_type_call_type "set" [.ref l] []) rfl]
 repeat (any_goals (first | assumption | wp_step))
 refine Ca (QB (.ref l) (E:=E) (Q₁:=λv s1=>∃ b:Bool,b=(!qC w)/\v=.ref s.heap.objs.size/\s1 = { s with heap:=s.heap.push (qu b) }) ⟨_,O,O,O⟩) λr s1 hr=>?_
 match r,hr with
 | .error e,hr=>exact hr
 | .ok (.ret v),hr=>
  obtain⟨b,eb,ev,es⟩:=hr
  subst ev es
  have at0:(s.heap.push (qu b)).get? s.heap.objs.size=some (qu b):=AN _ rfl
  have ty0:Shared.TypeIs { s with heap:=s.heap.push (qu b) } (.ref s.heap.objs.size) "set":=⟨_,at0,rfl⟩
  have il:=A9.init.lookup
  have ib:=A9.init.bind (.ref s.heap.objs.size)
  repeat (any_goals (first | assumption | wp_step))
  refine Ca (codeAny_call_builtin (R:=wants (λr s2=>r=.none/\∃ h' tk,s2 = { s with heap:=h',toks:=tk }/\zan prog w (!qC w) h' s.heap.objs.size (Q0 ys)/\∀ b o,b < s.heap.objs.size->s.heap.get? b=some o->h'.get? b=some o) E) A9.init.plain PySem.F.entry_set_init (check_set_init_1 ty0 ?_)) λr2 s2 hr2=>?_
  ·obtain⟨⟨oc,od,odt,osl⟩,hol,hcl,nl,hdl⟩:=id hl
   have hcl':oc=_:=hcl;have hdl':odt=_:=hdl
   subst hcl' hdl'
   have hol1:(s.heap.push (qu b)).get? l=some { cls:=.type "list",dict:=od,data:=.seq items nl,slots:=osl }:=AC _ hol
   have n1:=PySem.F.sub_list_set;have n2:=Ek
   have n3:(Value.type "list" == Value.type "dict")=false:=by decide
   have hl1:(s.heap.push (qu b)).IsList l items:=⟨_,hol1,rfl,nl,rfl⟩
   have lS:l < s.heap.objs.size:=AO hol
   have jS:(s.heap.push (qu b)).objs.size=s.heap.objs.size+1:=Bq ..
   unfold Builtin.«set.__init__» noKeywords Builtin.Frozenset.updateFrom
   generalize ePI:pyIter=PI
   wp_walk
   subst ePI
   refine Bx hl1 (AA (EJ ?_))
   have hn:items.size=ys.length:=by
    have:=hi.length
    simpa using this
   refine zao (bb:=!qC w) (J:=(s.heap.push (qu b)).objs.size) (l:=l) (a:=s.heap.objs.size) (items:=items) (ys:=ys) (by simp[hh]) (AU (by rw[jS];exact BF lS)) (AU (by rw[jS];exact BV _)) (BD lS) (λi v hv=>XC hi i v (by rw[By];exact hv)) hn hb (ys.length - 0) 0 _ rfl (BA _) ⟨_,AN _ rfl,O,O⟩ (hl1.push _) ?_ λh' tk hk hS=>?_
   ·exact⟨_,#[],0,.fresh 0 0 b,AC _ at0,⟨O,O,O⟩,O,(λe he=>by cases he),(λk=>by simp[Q0]),by unfold scanBound;decide,O,O,eb ▸ Qb.fresh b⟩
   ·show wpAny _ _ _ _ _ _
    refine AE ?_
    show wpAny _ _ (ret Value.none) _ _ _
    refine AE ⟨O,h',tk,O,hS,λc o hc e=>hk c o (AU hc) (AU (by rw[jS];exact BF hc)) (AC _ (AC _ e))⟩
  ·match r2,hr2 with
   | .error e,hr2=>exact hr2
   | .ok (.ret v),hr2=>
    obtain⟨ev,h',tk,es,hS,hk⟩:=hr2
    subst ev es
    repeat (any_goals (first | assumption | wp_step))
    exact h _ _ hS hk
   | .ok .next,hr2=>exact hr2.elim
   | .ok .brk,hr2=>exact hr2.elim
   | .ok .cont,hr2=>exact hr2.elim
 | .ok .next,hr=>exact hr.elim
 | .ok .brk,hr=>exact hr.elim
 | .ok .cont,hr=>exact hr.elim
end
structure Wk (w:World) (es:Array (Int×Value)) (t:SetTable):Prop where
 ti:Qb t (!qC w)
 fits:t.fits es.size=true
 nd:qC w=true\/(!t.plain && decide (es.size > 1))=false
def Wk.len {w:World} {es:Array (Int×Value)} {t:SetTable} (h:Wk w es t):t.place.size=es.size:=by
 have:=h.fits
 unfold SetTable.fits at this
 simp at this
 exact this.1
def WAt (w:World) (h:Heap) (a:Addr) (es:Array (Int×Value)) (ep:Nat) (t:SetTable):Prop:=∃ o,h.get? a=some o/\o.ExactSet/\o.data=.set es ep t/\Wk w es t
section
variable {prog:Program} {w:World} {A:Around} {E:Value->Shared->Prop} {s:Shared} {a I:Addr} {es:Array (Int × Value)} {ep:Nat} {t:SetTable}
def QT {Q:Value->Shared->Prop} (hd:WAt w s.heap a es ep t)
  (hQ:Q (.ref s.heap.objs.size) { s with heap:=s.heap.push { cls:=.type "set_iterator",data:=.fields #[.int (0:Nat) 0,.int (0:Nat) 0,.ref a,.int (es.size:Nat) 0,.int (ep:Nat) 0] } }) :
  wpAny (model prog w) A (pyIter (.ref a)) Q E s:=by
 obtain⟨o,ho,hx,hdat,hg⟩:=hd
 have hf:=hg.fits
 have hT:s.TypeIs (.ref a) "set":=⟨o,ho,hx.1⟩
 refine C0 hT CC (Ay CC hT jL ?_ (Dm _))
 unfold Builtin.«frozenset.__iter__» Builtin.Frozenset.slot0
 refine AA (AA (AE ?_))
 refine AE ?_
 unfold Builtin.Frozenset.sizeOf setEntries
 refine AA (AA (AA (A5 ho hdat hf (AE (AE ?_)))))
 unfold setDrawn setsByText
 refine AA (AA (A5 ho hdat hf ?_))
 refine AA (AA (Br (AE (AE ?_))))
 refine BE (λhab=>absurd (show (!(qC w) && (!t.plain && decide (es.size > 1)))=true from hab) (by rcases hg.nd with e | e <;> rw[e] <;> simp)) (λ_=>AA (AE ?_))
 refine AA (Ei ho hdat hf ?_)
 refine AA (Ax ?_)
 exact AE ⟨_,O, "set_iterator",_,⟨_,AN _ rfl,O⟩,zA.lookup,hQ⟩
theorem Yf (hg:Wk w es t) (ht:qC w=false):∀ (i:Nat),i<=t.place.size->SetTable.below t.place (Zb w t i)=i
 | 0,_=>wR hg.ti.rs
 | i+1,hi=>by
  rw[QC ht]
  exact wN hg.ti.rs (by simp[Array.getD,show i < t.place.size by lia])
def Y0 {Q:Option (Value×Nat)->Shared->Prop} {i:Nat} (hi:i<=es.size) (hd:WAt w s.heap a es ep t)
  (hQ:Q ((JI w a es ep)[i]?.map λe=>(e.2,Zb w t (i+1))) s) :
  wpAny (model prog w) A (setNext a (Zb w t i) i ep) Q E s:=by
 obtain⟨o,ho,hx,hdat,hg⟩:=id hd
 have hf:=hg.fits
 unfold setNext setsByText
 refine AA (A5 ho hdat hf ?_)
 refine AA (AA (Br (AE ?_)))
 refine BE (λhab=>?_) (λhab=>?_)
 ·have ht:qC w=true:=hab
  rw[if_neg (by simp)]
  unfold setWalk setsByText
  refine AA (AA (A5 ho hdat hf ?_))
  refine AA (AA (Br (AE ?_)))
  refine BE (λ_=>?_) (λhn=>absurd hab hn)
  refine AA (Br (AE (AE ?_)))
  rw[yk ht] at hQ ⊢
  unfold JI at hQ
  rw[if_pos ht] at hQ
  exact hQ
 ·have ht:qC w=false:=Dh.mpr hab
  refine BE (λhdr=>absurd (show (!t.plain && decide (es.size > 1))=true from hdr) (by rw[hg.nd.resolve_left (by rw[ht];simp)];simp)) (λ_=>?_)
  have hled:t.led=true:=by rw[hg.ti.led,ht];rfl
  show wpAny _ _ (_ >>= _) _ _ _
  refine AA (Bc (a:=()) (show (if (!t.led && !es.isEmpty)=true then (unsupported "set:maker-not-led" : Sem Unit) else pure ())=pure () by rw[hled];rfl) ?_)
  refine AE ?_
  rw[Yf hg ht i (by rw[hg.len];exact hi)]
  unfold JI at hQ
  rw[if_neg (by rw[ht];simp),QC ht] at hQ
  by_cases hlt:i < es.size
  ·have e1:es[i]? = some es[i]:=by simp[hlt]
   have hlt':i < t.place.size:=by rw[hg.len];exact hlt
   have e2:t.place[i]? = some (t.place.getD i 0):=by simp[Array.getD,hlt']
   rw[e1] at hQ ⊢
   rw[e2]
   exact hQ
  ·have e1:es[i]? = none:=Bs (by lia)
   rw[e1] at hQ ⊢
   exact hQ
def Q9 {Q:Option Value->Shared->Prop} {i:Nat} {e:Int×Value} (hit:QD s.heap I a (Zb w t i) i es.size ep) (hd:WAt w s.heap a es ep t) (he:(JI w a es ep)[i]? = some e)
  (hQ:∀ h',QD h' I a (Zb w t (i+1)) (i+1) es.size ep->Heap.SameBut I s.heap h'->Q (some e.2) { s with heap:=h' }) :
  wpAny (model prog w) A (pyNext (.ref I)) Q E s:=by
 obtain⟨oI,hoI,hcI,hdI⟩:=id hit
 obtain⟨o,ho,hx,hdat,hg⟩:=id hd
 have hf:=hg.fits
 unfold pyNext
 refine AA (Bn (wpAny_callSpecial?_slot (name:=Str.ofString "__next__") hit.typeIs zA
  (Ay zA hit.typeIs qx ?_ (qH _))))
 unfold Builtin.«set_iterator.__next__»
 refine AA (AE ?_)
 refine AA (DR hoI hdI ?_)
 dsimp only
 unfold setEntries
 refine AA (AA (A5 ho hdat hf (AE ?_)))
 rw[if_neg (by simp)]
 have hi:i < es.size:=by
  have:=(Cw.mp he).1
  rwa [jr] at this
 simp only[Int.toNat_natCast]
 refine AA (Y0 (CN hi) hd ?_)
 rw[he]
 dsimp only[Option.map_some]
 refine AA (Ba hoI hdI (by simp) ?_)
 have h1:=Az (Obj.mapFields (·.setIfInBounds 0 (rawInt ((Zb w t (i+1):Nat):Int)))) hoI (Bd (A4 hdI _))
 have d1:=A4 hdI (·.setIfInBounds 0 (rawInt ((Zb w t (i+1):Nat):Int)))
 refine AA (Ba h1 d1 (by simp) ?_)
 refine AE ⟨_,O,AE (hQ _ ⟨_,Az _ h1 (Bd (A4 d1 _)),?_,?_⟩ ((A6 ..).trans (A6 ..)))⟩
 ·rw[Cc,Cc]
  exact hcI
 ·rw[A4 d1]
  simp[rawInt]
def JP {Q:Option Value->Shared->Prop} (hh:A.handled=none) (hit:QD s.heap I a (Zb w t es.size) es.size es.size ep) (hd:WAt w s.heap a es ep t)
  (hQ:∀ h',Heap.ExtBut I s.heap h'->Q none { s with heap:=h' }) :
  wpAny (model prog w) A (pyNext (.ref I)) Q E s:=by
 obtain⟨oI,hoI,hcI,hdI⟩:=id hit
 obtain⟨o,ho,hx,hdat,hg⟩:=id hd
 have hf:=hg.fits
 unfold pyNext
 refine AA (Bn (wpAny_callSpecial?_slot (name:=Str.ofString "__next__") hit.typeIs zA
  (Ay zA hit.typeIs qx ?_ (qH _))))
 unfold Builtin.«set_iterator.__next__»
 refine AA (AE ?_)
 refine AA (DR hoI hdI ?_)
 dsimp only
 unfold setEntries
 refine AA (AA (A5 ho hdat hf (AE ?_)))
 rw[if_neg (by simp)]
 simp only[Int.toNat_natCast]
 refine AA (Y0 (AM _) hd ?_)
 rw[Bs (by rw[jr];exact AM _)]
 dsimp only[Option.map_none]
 refine AA (Ba hoI hdI (by simp) ?_)
 show wpAny _ _ (newExc (.type "StopIteration") [] >>= _) _ _ _
 refine AA ?_
 simp only[newExc,newTuple]
 refine AA (Ax ?_ (by size_fits))
 refine AA (m:=firstArgMember _ _) (Bc (a:=Value.none) (by first | rfl | (simp only[firstArgMember];rfl)) ?_)
 refine Ax ?_ (by size_fits)
 simp only[raiseNew]
 refine AA (Dz ?_)
 rw[show A.in1.handled=none from hh]
 refine AA (AE (EI ?_))
 refine AA (B3 (T := "StopIteration") (b:=true) ⟨_,AN _ rfl,O⟩ Dj ?_)
 exact AE (hQ _ (((A6 ..).extBut.push _).push _))
def WAt.keep {h h':Heap} (x:WAt w h a es ep t) (k:∀ o,h.get? a=some o->h'.get? a=some o):WAt w h' a es ep t:=let ⟨o,ho,r⟩:=x;⟨o,k o ho,r⟩
def xJ (hh:A.handled=none) (I:Addr) (hne:a ≠ I):Walks prog w A I [I,a] [I] es.size (λi v=>∃ e,(JI w a es ep)[i]? = some e/\v=e.2) (λi h=>QD h I a (Zb w t i) i es.size ep/\WAt w h a es ep t) where
 sub:=λb hb=>by simp at hb;simp[hb]
 frame:=λ_ _ _ st hk=>⟨st.1.keep λo e=>hk I (by simp) o e,st.2.keep λo e=>hk a (by simp) o e⟩
 item:=λi s Q E hi st hQ=>by
  have hi':i < (JI w a es ep).size:=by rw[jr];exact hi
  have he:(JI w a es ep)[i]? = some ((JI w a es ep)[i]'hi'):=Bv hi'
  refine Q9 st.1 st.2 he λh' hit' hs'=>?_
  exact hQ _ h' s.toks ⟨_,he,O⟩ ⟨hit',st.2.keep λo e=>hs'.extBut a o hne e⟩ λb o hb e=>hs'.extBut b o (λh=>hb (by simp[h])) e
 done:=λs Q E st hQ=>JP hh st.1 st.2 λh' he'=>hQ h' s.toks λb o hb e=>he' b o (λh=>hb (by simp[h])) e
 self:=λ_ _ _ _ st hQ=>JM st.1 hQ
def kdl_setW:KdlSrc prog w "set" a a es.size (λi v=>∃ e,(JI w a es ep)[i]? = some e/\v=e.2) (λh=>WAt w h a es ep t) where
 type:=λ_ hm=>let ⟨o,ho,hx,_⟩:=hm;⟨o,ho,hx.1⟩
 there:=λ_ hm=>let ⟨o,ho,_⟩:=hm;⟨AO ho,AO ho⟩
 keep:=λ_ _ hm hk=>hm.keep λo e=>hk a (.inl rfl) o e
 notList:=by decide
 notTuple:=by decide
 hint:=λ_ _ _ _ hm hq=>JL (let ⟨o,ho,hx,_⟩:=hm;⟨o,ho,hx.1⟩) hq
 iter:=λ_ s hh hm=>⟨_,_,(λ_ _ hq=>QT hm hq),xJ hh _ (let ⟨o,ho,_⟩:=hm;AU (AO ho)),⟨⟨_,AN _ rfl,rfl,rfl⟩,hm.keep λo e=>AC _ e⟩⟩
end
section
variable {prog:Program} {w:World} {A:Around} {E:Value->Shared->Prop} {s:Shared}
def yn {src:Source} {n:Nat} {M:Model} {Q:Nat->Shared->Prop} (hn:n ≠ 0) (h:∀ i d',i < n->Q i { s with drawn:=d' }):wpAny M A (choose src n) Q E s:=λ_ _ _=>⟨hn,h _ _ (BZ _ (Nat.pos_of_ne_zero hn))⟩
def JQ {α:Type} {M:Model}:∀ (n:Nat) (xs:List α) (s:Shared) (Q:List α->Shared->Prop),xs.length=n->(∀ ys d',ys.Perm xs->Q ys { s with drawn:=d' })->wpAny M A (drawOrder n xs) Q E s:=by
 intro n
 induction n with
 | zero=>
  intro xs s Q hl h
  obtain rfl:=Bp.mp hl
  exact AE (h [] s.drawn (.refl _))
 | succ n ih=>
  intro xs s Q hl h
  have hn:0 < xs.length:=by lia
  have he:drawOrder (n+1) xs=(choose .order xs.length >>= λi=>match xs[i]? with
   | some x=>drawOrder n (xs.eraseIdx i) >>= λys=>pure (x :: ys)
   | none=>unsupported "internal:drawOrder"):=by
   cases xs with
   | nil=>cases hn
   | cons x xs=>rfl
  rw[he]
  refine AA (yn (by lia) λi d' hi=>?_)
  rw[AD hi]
  dsimp only
  refine AA (ih (xs.eraseIdx i) _ _ (by rw[List.length_eraseIdx,if_pos hi,hl];rfl) λys d2 hp=>AE ?_)
  refine h _ d2 ?_
  refine (hp.cons _).trans ?_
  rw[EU]
  refine EY.symm.trans ?_
  rw[<- CF hi,Cm]
def DrIt (h:Heap) (I a p:Addr) (i n ep:Nat) (pl:List Nat):Prop:=(∃ o,h.get? I=some o/\o.cls=.type "set_iterator" /\ o.data=.fields #[.ref p,.int (i:Nat) 0,.ref a,.int (n:Nat) 0,.int (ep:Nat) 0])/\∃ o,h.get? p=some o/\∃ m,o.data=.seq (pl.map λ(i:Nat)=>rawInt i).toArray m
def EnAt (h:Heap) (a:Addr) (es:Array (Int×Value)) (ep:Nat) (t:SetTable):Prop:=∃ o,h.get? a=some o/\o.ExactSet/\o.data=.set es ep t/\t.fits es.size=true
section
variable {a I p:Addr} {es:Array (Int × Value)} {ep:Nat} {t:SetTable} {pl:List Nat}
def DrIt.typeIs {i n:Nat} (x:DrIt s.heap I a p i n ep pl):s.TypeIs (.ref I) "set_iterator":=let ⟨⟨o,ho,hc,_⟩,_⟩:=x;⟨o,ho,hc⟩
def zaq {Q:Value->Shared->Prop} (hd:EnAt s.heap a es ep t) (hdr:(!qC w && (!t.plain && decide (es.size > 1)))=true) (hz:es.size<=sizeLine)
  (hQ:∀ (pl:List Nat) (d':Drawn),pl.Perm (List.range es.size)->Q (.ref (s.heap.objs.size+1)) { s with heap:=(s.heap.push { cls:=.type "tuple",data:=.seq (pl.map λ(i:Nat)=>rawInt i).toArray }).push { cls:=.type "set_iterator",data:=.fields #[.ref s.heap.objs.size,.int (0:Nat) 0,.ref a,.int (es.size:Nat) 0,.int (ep:Nat) 0] },drawn:=d' }) :
  wpAny (model prog w) A (pyIter (.ref a)) Q E s:=by
 obtain⟨o,ho,hx,hdat,hf⟩:=hd
 have hT:s.TypeIs (.ref a) "set":=⟨o,ho,hx.1⟩
 refine C0 hT CC (Ay CC hT jL ?_ (Dm _))
 unfold Builtin.«frozenset.__iter__» Builtin.Frozenset.slot0
 refine AA (AA (AE ?_))
 refine AE ?_
 unfold Builtin.Frozenset.sizeOf setEntries
 refine AA (AA (AA (A5 ho hdat hf (AE (AE ?_)))))
 unfold setDrawn setsByText
 refine AA (AA (A5 ho hdat hf ?_))
 refine AA (AA (Br (AE (AE ?_))))
 refine BE (λ_=>?_) (λhab=>absurd (show (!(qC w) && (!t.plain && decide (es.size > 1)))=true from hdr) hab)
 refine AA (JQ es.size (List.range es.size) _ _ AZ λpl d' hp=>?_)
 have hl:pl.length=es.size:=by rw[hp.length_eq,AZ]
 refine AA (wpAny_newTuple ?_ (by rw[AB,hl];exact hz))
 refine AA (Ei (AC _ ho) hdat hf ?_)
 refine AA (Ax ?_)
 have q:=hQ pl d' hp
 refine AE ⟨_,O, "set_iterator",_,⟨_,AN _ rfl,O⟩,zA.lookup,?_⟩
 have e:(s.heap.push { cls:=.type "tuple",data:=.seq (pl.map λ(i:Nat)=>rawInt i).toArray }).objs.size=s.heap.objs.size+1:=Bq ..
 dsimp only
 rw[e]
 exact q
def wg {Q:Option Value->Shared->Prop} {i n:Nat} {k:Nat} {e:Int×Value} (Ip:I ≠ p) (hit:DrIt s.heap I a p i n ep pl) (hn:n=es.size) (hd:EnAt s.heap a es ep t) (hk:pl[i]? = some k) (he:es[k]? = some e)
  (hQ:∀ h',DrIt h' I a p (i+1) n ep pl->Heap.SameBut I s.heap h'->Q (some e.2) { s with heap:=h' }) :
  wpAny (model prog w) A (pyNext (.ref I)) Q E s:=by
 obtain⟨⟨oI,hoI,hcI,hdI⟩,op,hop,m,hdp⟩:=id hit
 obtain⟨o,ho,hx,hdat,hf⟩:=id hd
 subst hn
 unfold pyNext
 refine AA (Bn (wpAny_callSpecial?_slot (name:=Str.ofString "__next__") hit.typeIs zA
  (Ay zA hit.typeIs qx ?_ (qH _))))
 unfold Builtin.«set_iterator.__next__»
 refine AA (AE ?_)
 refine AA (DR hoI hdI ?_)
 dsimp only
 unfold setEntries
 refine AA (AA (A5 ho hdat hf (AE ?_)))
 rw[if_neg (by simp)]
 unfold seqItems?
 refine AA (AA (Eb hop ?_))
 rw[hdp]
 refine AE ?_
 dsimp only
 have ek:(pl.map λ(i:Nat)=>rawInt i).toArray[((i:Nat):Int).toNat]? = some (rawInt k):=by
  rw[Av]
  simp[hk]
 rw[ek]
 dsimp only[rawInt]
 unfold setNextDrawn
 refine AA (AA (A5 ho hdat hf ?_))
 dsimp only
 rw[if_neg (by simp)]
 rw[Av,he]
 refine AE ?_
 refine AA (Ba hoI hdI (by simp) ?_)
 refine AE ⟨_,O,AE (hQ _ ⟨⟨_,Az _ hoI (Bd (A4 hdI _)),?_,?_⟩,op,?_,m,hdp⟩ (A6 ..))⟩
 ·rw[Cc]
  exact hcI
 ·rw[A4 hdI]
  simp[rawInt]
 ·exact (BX _ _ Ip).trans hop
def Ws {Q:Option Value->Shared->Prop} {n:Nat} (hh:A.handled=none) (hit:DrIt s.heap I a p n n ep pl) (hn:n=es.size) (hl:pl.length=n) (hd:EnAt s.heap a es ep t)
  (hQ:∀ h',Heap.ExtBut I s.heap h'->Q none { s with heap:=h' }) :
  wpAny (model prog w) A (pyNext (.ref I)) Q E s:=by
 obtain⟨⟨oI,hoI,hcI,hdI⟩,op,hop,m,hdp⟩:=id hit
 obtain⟨o,ho,hx,hdat,hf⟩:=id hd
 subst hn
 unfold pyNext
 refine AA (Bn (wpAny_callSpecial?_slot (name:=Str.ofString "__next__") hit.typeIs zA
  (Ay zA hit.typeIs qx ?_ (qH _))))
 unfold Builtin.«set_iterator.__next__»
 refine AA (AE ?_)
 refine AA (DR hoI hdI ?_)
 dsimp only
 unfold setEntries
 refine AA (AA (A5 ho hdat hf (AE ?_)))
 rw[if_neg (by simp)]
 unfold seqItems?
 refine AA (AA (Eb hop ?_))
 rw[hdp]
 refine AE ?_
 dsimp only
 have ek:(pl.map λ(i:Nat)=>rawInt i).toArray[((es.size:Nat):Int).toNat]? = none:=by
  rw[Av]
  simp[hl]
 rw[ek]
 dsimp only
 refine AA (Ba hoI hdI (by simp) ?_)
 have h1:=Az (Obj.mapFields (·.setIfInBounds 0 (rawInt 0))) hoI (Bd (A4 hdI _))
 have d1:=A4 hdI (·.setIfInBounds 0 (rawInt 0))
 refine AA (Ba h1 d1 (by simp) ?_)
 show wpAny _ _ (newExc (.type "StopIteration") [] >>= _) _ _ _
 refine AA ?_
 simp only[newExc,newTuple]
 refine AA (Ax ?_ (by size_fits))
 refine AA (m:=firstArgMember _ _) (Bc (a:=Value.none) (by first | rfl | (simp only[firstArgMember];rfl)) ?_)
 refine Ax ?_ (by size_fits)
 simp only[raiseNew]
 refine AA (Dz ?_)
 rw[show A.in1.handled=none from hh]
 refine AA (AE (EI ?_))
 refine AA (B3 (T := "StopIteration") (b:=true) ⟨_,AN _ rfl,O⟩ Dj ?_)
 exact AE (hQ _ ((((A6 ..).trans (A6 ..)).extBut.push _).push _))
def walks_dr (hh:A.handled=none) (hp:I ≠ p) (ha:I ≠ a) (hl:pl.Perm (List.range es.size)):Walks prog w A I [I,a,p] [I] es.size (λi v=>∃ k e,pl[i]? = some k/\es[k]? = some e/\v=e.2) (λi h=>DrIt h I a p i es.size ep pl/\EnAt h a es ep t) where
 sub:=λb hb=>by simp at hb;simp[hb]
 frame:=λ_ _ _ st hk=>by
  obtain⟨⟨⟨o1,e1,r1⟩,o2,e2,r2⟩,o3,e3,r3⟩:=st
  exact⟨⟨⟨o1,hk I (by simp) o1 e1,r1⟩,o2,hk p (by simp) o2 e2,r2⟩,o3,hk a (by simp) o3 e3,r3⟩
 item:=λi s Q E hi st hQ=>by
  have hi':i < pl.length:=by rw[hl.length_eq,AZ];exact hi
  have hk:pl[i]? = some pl[i]:=AD hi'
  have hm:pl[i] < es.size:=Ab.mp (hl.mem_iff.mp (Cz hi'))
  have he:es[pl[i]]? = some es[pl[i]]:=Bv hm
  refine wg hp st.1 rfl st.2 hk he λh' hit' hs'=>?_
  obtain⟨o3,e3,r3⟩:=st.2
  exact hQ _ h' s.toks ⟨_,_,hk,he,O⟩ ⟨hit',o3,hs'.extBut a o3 (Aw ha) e3,r3⟩ λb o hb e=>hs'.extBut b o (λh=>hb (by simp[h])) e
 done:=λs Q E st hQ=>Ws hh st.1 rfl (by rw[hl.length_eq,AZ]) st.2 λh' he'=>hQ h' s.toks λb o hb e=>he' b o (λh=>hb (by simp[h])) e
 self:=λ_ _ _ _ st hQ=>by
  refine C0 st.1.typeIs jm (Ay jm st.1.typeIs ZI ?_ (Qc _))
  show wpAny _ _ (ret (.ref I)) _ _ _
  exact AE ⟨_,O, "set_iterator",_,st.1.typeIs,zA.lookup,hQ⟩
def xK {R:List Value->Shared->Prop} (hh:A.handled=none) (hd:EnAt s.heap a es ep t) (hdr:(!qC w && (!t.plain && decide (es.size > 1)))=true) (hz:es.size<=sizeLine)
  (h:∀ (h':Heap) (tk:Nat) (d':Drawn) (pl:List Nat) (acc:Array Value),(∀ b o,s.heap.get? b=some o->h'.get? b=some o)->pl.Perm (List.range es.size)->ItemsOf (λi v=>∃ k e,pl[i]? = some k/\es[k]? = some e/\v=e.2) acc es.size->R acc.toList { s with heap:=h',toks:=tk,drawn:=d' }) :
  wpAny (model prog w) A (collect (.ref a)) R E s:=by
 obtain⟨o,ho,hx,hdat,hf⟩:=id hd
 have la:=AO ho
 unfold collect
 refine AA (EJ (BG entry_proto_collect' ?_))
 rw[A7 PySem.F.plain_proto_collect _]
 show wpAny _ A.in1 (newList [] >>= λl=>again (.builtin "list.__iadd__" ⟨[l,.ref a],[]⟩)) _ _ s
 refine AA (Ax ?_)
 refine AE ⟨Bb PySem.F.plain_list_iadd _,BG entry_list_iadd' ?_⟩
 rw[A7 PySem.F.plain_list_iadd _]
 have hS1:(s.heap.push { cls:=.type "list",data:=.seq ([]:List Value).toArray }).get? s.heap.objs.size=some { cls:=.type "list",data:=.seq #[] }:=AN _ rfl
 show wpAny _ A.in1 (Builtin.List.listExtendWith (.ref s.heap.objs.size) (.ref a) (.ref s.heap.objs.size)) _ _ _
 have hd1:EnAt (s.heap.push { cls:=.type "list",data:=.seq ([]:List Value).toArray }) a es ep t:=⟨o,AC _ ho,hx,hdat,hf⟩
 have sz1:(s.heap.push { cls:=.type "list",data:=.seq ([]:List Value).toArray }).objs.size=s.heap.objs.size+1:=Bq ..
 have kp1:∀ b ob,s.heap.get? b=some ob->(s.heap.push { cls:=.type "list",data:=.seq ([]:List Value).toArray }).get? b=some ob:=λb ob e=>AC _ e
 generalize s.heap.push { cls:=.type "list",data:=.seq ([]:List Value).toArray } = g1 at hS1 hd1 sz1 kp1 ⊢
 have key:∀ (g2:Heap) (tk c1:Nat) (d':Drawn) (I p:Addr) (pl:List Nat),pl.Perm (List.range es.size)->s.heap.objs.size < I->s.heap.objs.size < p->I ≠ p->DrIt g2 I a p 0 es.size ep pl->EnAt g2 a es ep t->(∀ b ob,b < s.heap.objs.size->g1.get? b=some ob->g2.get? b=some ob)->g2.get? s.heap.objs.size=some { cls:=.type "list",data:=.seq #[] c1 } ->
   codeAny (model prog w) A (.builtin "list.extend.loop" ⟨[.ref s.heap.objs.size,.ref I,.ref s.heap.objs.size],[]⟩) (λr s'=>∃ (h':Heap) (tk:Nat) (acc':Array Value) (c':Nat) (d':Drawn) (pl:List Nat),r=.ok (.ret (.ref s.heap.objs.size))/\s' = { s with heap:=h',toks:=tk,drawn:=d' }/\(∀ b o,s.heap.get? b=some o->h'.get? b=some o)/\h'.get? s.heap.objs.size=some { cls:=.type "list",dict:=none,data:=.seq acc' c',slots:=#[] }/\pl.Perm (List.range es.size)/\ItemsOf (λi v=>∃ k e,pl[i]? = some k/\es[k]? = some e/\v=e.2) acc' es.size) { s with heap:=g2,toks:=tk,drawn:=d' }:=by
  intro g2 tk c1 d' I p pl hpl hI hp hne hit hen kp hS
  refine codeAny_extend_loopS (walks_dr (A:=A.in1) (t:=t) (ep:=ep) hh hne (BD (DX la hI)) hpl).toS hz s.heap.objs.size (by
   simp only[List.mem_cons,List.not_mem_nil,or_false,not_or]
   exact⟨AU hI,BD la,AU hp⟩) _ es.size 0 _ #[] c1 rfl (BA _) ⟨hit,hen⟩ hS (ItemsOf.nil _) λs' acc' c' hm hS' hacc=>?_
  refine⟨s'.heap,s'.toks,acc',c',d',pl,O,?_,λb ob e=>hm.heap b ob (λhb=>?_) (kp b ob (AO e) (kp1 b ob e)),hS',hpl,hacc⟩
  ·have e1:=hm.gens
   have e2:=hm.drawn
   have e3:=hm.os
   obtain⟨q1,q2,q3,q4,q5⟩:=s'
   dsimp only at e1 e2 e3 ⊢
   rw[e1,e2,e3]
  ·have hl:=AO e
   rcases AX.mp hb with z | z
   ·exact absurd hl (z ▸ A1 _)
   ·rw[AG.mp z] at hl
    exact absurd hl (Nat.not_lt_of_gt hI)
 have fin:∀ (r:Result) (s':Shared),(∃ (h':Heap) (tk:Nat) (acc':Array Value) (c':Nat) (d':Drawn) (pl:List Nat),r=.ok (.ret (.ref s.heap.objs.size))/\s' = { s with heap:=h',toks:=tk,drawn:=d' }/\(∀ b o,s.heap.get? b=some o->h'.get? b=some o)/\h'.get? s.heap.objs.size=some { cls:=.type "list",dict:=none,data:=.seq acc' c',slots:=#[] }/\pl.Perm (List.range es.size)/\ItemsOf (λi v=>∃ k e,pl[i]? = some k/\es[k]? = some e/\v=e.2) acc' es.size)->r=.ok (.ret (.ref s.heap.objs.size))/\wpAny (model prog w) A (load s.heap.objs.size >>= λo=>match o.data with
     | Data.seq xs _=>pure xs.toList
     | _=>unsupported "internal:collect") R E s':=by
  rintro r s' ⟨h',tk,acc',c',d',pl,e,rfl,hk,hS',hpl,hacc⟩
  exact⟨e,AA (Eb hS' (AE (h h' tk d' pl acc' hk hpl hacc)))⟩
 unfold Builtin.List.listExtendWith
 have hT:Shared.TypeIs { s with heap:=g1 } (.ref a) "set":=by
  obtain⟨o',ho',hx',_⟩:=hd1
  exact⟨o',ho',hx'.1⟩
 refine AA (Bw (T := "set") hT ?_)
 have h1:Builtin.List.listSameRef (.ref s.heap.objs.size) (.ref a)=false:=by simp[Builtin.List.listSameRef,Nat.ne_of_gt la]
 simp only[h1,show (Value.type "set" == Value.type "list")=false by decide,show (Value.type "set" == Value.type "tuple")=false by decide,Bool.or_false,Bool.false_eq_true,if_false]
 refine AA (zaq hd1 hdr hz λpl d' hpl=>?_)
 have k2:∀ b ob,g1.get? b=some ob->((g1.push { cls:=.type "tuple",data:=.seq (pl.map λ(i:Nat)=>rawInt i).toArray }).push { cls:=.type "set_iterator",data:=.fields #[.ref g1.objs.size,.int (0:Nat) 0,.ref a,.int (es.size:Nat) 0,.int (ep:Nat) 0] }).get? b=some ob:=λb ob e=>AC _ (AC _ e)
 have hit:DrIt ((g1.push { cls:=.type "tuple",data:=.seq (pl.map λ(i:Nat)=>rawInt i).toArray }).push { cls:=.type "set_iterator",data:=.fields #[.ref g1.objs.size,.int (0:Nat) 0,.ref a,.int (es.size:Nat) 0,.int (ep:Nat) 0] }) (g1.objs.size+1) a g1.objs.size 0 es.size ep pl:=by
  refine⟨⟨{ cls:=.type "set_iterator",data:=.fields #[.ref g1.objs.size,.int (0:Nat) 0,.ref a,.int (es.size:Nat) 0,.int (ep:Nat) 0] },?_,O,O⟩,_,AC _ (AN _ rfl),_,O⟩
  have e:(g1.push { cls:=.type "tuple",data:=.seq (pl.map λ(i:Nat)=>rawInt i).toArray }).objs.size=g1.objs.size+1:=Bq ..
  rw[<- e]
  exact AN _ rfl
 dsimp only
 generalize (g1.push { cls:=.type "tuple",data:=.seq (pl.map λ(i:Nat)=>rawInt i).toArray }).push { cls:=.type "set_iterator",data:=.fields #[.ref g1.objs.size,.int (0:Nat) 0,.ref a,.int (es.size:Nat) 0,.int (ep:Nat) 0] } = g2 at k2 hit ⊢
 have hS2:=k2 _ _ hS1
 have hd2:EnAt g2 a es ep t:=by
  obtain⟨o',ho',r'⟩:=hd1
  exact⟨o',k2 _ _ ho',r'⟩
 have nI:s.heap.objs.size < g1.objs.size+1:=by rw[sz1];exact BF (BV _)
 have np:s.heap.objs.size < g1.objs.size:=by rw[sz1];exact BV _
 refine AA (BL (JL (by
  obtain⟨o',ho',hx',_⟩:=hd2
  exact⟨o',ho',hx'.1⟩) ?_))
 refine BE (λ_=>?_) (λ_=>?_)
 ·refine AA (Bi ?_)
  refine AA ?_
  show wpAny _ _ (updateSeq s.heap.objs.size (·.push .none) >>= λ_=>updateSeq s.heap.objs.size (·.pop)) _ _ _
  refine AA (Df hS2 rfl ?_)
  have hS3:=Az (Obj.mapSeq (·.push Value.none)) hS2 rfl
  refine Df (hz:=by seq_fits) hS3 rfl ?_
  have hS4:=Az (Obj.mapSeq (·.pop)) hS3 rfl
  have k4:∀ b ob,b ≠ s.heap.objs.size->g2.get? b=some ob->((g2.update s.heap.objs.size (Obj.mapSeq (·.push Value.none))).update s.heap.objs.size (Obj.mapSeq (·.pop))).get? b=some ob:=λb ob hb e=>(BX _ _ (Aw hb)).trans ((BX _ _ (Aw hb)).trans e)
  refine AE ⟨Bb C1 _,Ca (key _ s.toks _ d' (g1.objs.size+1) g1.objs.size pl hpl nI np (BD (BV _)) ?_ ?_ (λb ob hb e=>k4 b ob (AU hb) (k2 b ob e)) hS4) λr s' z=>?_⟩
  ·obtain⟨⟨o1,e1,r1⟩,o2,e2,r2⟩:=hit
   exact⟨⟨o1,k4 _ _ (BD nI) e1,r1⟩,o2,k4 _ _ (BD np) e2,r2⟩
  ·obtain⟨o3,e3,r3⟩:=hd2
   exact⟨o3,k4 _ _ (AU la) e3,r3⟩
  ·obtain⟨e,z2⟩:=fin r s' z
   cases e
   exact z2
 ·refine AE ⟨Bb C1 _,Ca (key _ s.toks _ d' (g1.objs.size+1) g1.objs.size pl hpl nI np (BD (BV _)) hit hd2 (λb ob _ e=>k2 b ob e) hS2) λr s' z=>?_⟩
  obtain⟨e,z2⟩:=fin r s' z
  cases e
  exact z2
end
theorem JR {α:Type} [DecidableEq α]:∀ (l m:List α),l.Nodup->(∀ x ∈ l,x ∈ m)->m.length=l.length->m.Perm l
 | [],m,_,_,h=>by rw[Bp.mp h]
 | x :: l,m,nd,hs,hl=>by
  obtain⟨n1,n2⟩:=BP.mp nd
  have hx:=hs x Af
  refine (List.perm_cons_erase hx).trans (List.Perm.cons _ (JR l (m.erase x) n2 (λy hy=>?_) ?_))
  ·exact (D4 (λ(e:y=x)=>n1 (e ▸ hy))).mpr (hs y (Ah _ hy))
  ·rw[C5 hx,hl,Am]
   lia
def wT {acc:Array Value} {W:List (Int×Value)} (hl:acc.size=W.length) (hi:∀ (i:Nat) (v:Value),acc[i]? = some v->∃ e:Int×Value,W[i]? = some e/\v=e.2) (hv:∀ e ∈ W,∃ x tk,e.2=Value.str x tk):∃ ss,StrsAre acc.toList ss/\StrsAre (W.map (·.2)) ss:=by
 have e:acc.toList=W.map (·.2):=by
  refine CP λi=>?_
  rw[AH,By]
  by_cases h:i < acc.size
  ·have g:acc[i]? = some acc[i]:=Bv h
   obtain⟨e,he,ee⟩:=hi i _ g
   rw[g,he,ee]
   rfl
  ·rw[Bs (by lia),BB (by lia)]
   rfl
 rw[e]
 clear e hi hl
 induction W with
 | nil=>exact⟨[],.nil,.nil⟩
 | cons z W ih=>
  obtain⟨ss,h1,h2⟩:=ih λe he=>hv e (Ah _ he)
  obtain⟨x,tk,ex⟩:=hv z Af
  refine⟨x :: ss,?_,?_⟩ <;> · rw[Aj,ex];exact .cons x tk (by assumption)
def yo {us vs:List Value} (h:us.Perm vs):∀ {ss ts:List Str},StrsAre us ss->StrsAre vs ts->ss.Perm ts:=by
 have e:∀ {us:List Value} {ss:List Str},StrsAre us ss->us.map strOf=ss:=λh=>h.strs
 intro ss ts h1 h2
 rw[<- e h1,<- e h2]
 exact h.map _
def xL {a:Addr} {l:List Str} {R:List Value->Shared->Prop} (hh:A.handled=none) (hS:zan prog w (!qC w) s.heap a l) (nd:l.Nodup)
  (h:∀ (h':Heap) (tk:Nat) (d':Drawn) (vs:List Value) (ss:List Str),(∀ b o,s.heap.get? b=some o->h'.get? b=some o)->StrsAre vs ss->ss.Perm l->R vs { s with heap:=h',toks:=tk,drawn:=d' }) :
  wpAny (model prog w) A (collect (.ref a)) R E s:=by
 obtain⟨o,es,ep,t,ho,hx,hdat,hel,hmem,hb,hf,hn,ti⟩:=hS
 have hz:es.size<=sizeLine:=CZ hb
 have hv:∀ e ∈ es.toList,∃ x tk,e.2=Value.str x tk:=λe he=>by
  obtain⟨⟨k,hk,_⟩,_⟩:=hel e he
  cases hs:e.2 with
  | str x tk=>exact⟨x,tk,O⟩
  | _=>rw[hs] at hk;simp[PySem.strKind,Value.isStrOf] at hk
 have lp:∀ (ss:List Str),StrsAre (es.toList.map (·.2)) ss->ss.Perm l:=λss hss=>by
  refine JR l ss nd (λx hx=>?_) ?_
  ·obtain⟨e,he,hk⟩:=(hmem x).mp (An hx)
   have e1:=hss.strs
   have:strOf e.2 ∈ ss:=by
    rw[<- e1]
    exact AI.mpr ⟨e.2,AI.mpr ⟨e,he,O⟩,O⟩
   obtain⟨y,tk,ey⟩:=hv e he
   rw[ey] at hk this
   have:x=y:=by
    simp[PySem.strKind,Value.isStrOf] at hk
    first | exact hk | exact hk.symm
   subst this
   assumption
  ·have:=hss.length
   rw[AB,Au] at this
   lia
 by_cases hdr:(!qC w && (!t.plain && decide (es.size > 1)))=true
 ·refine xK hh ⟨o,ho,hx,hdat,hf⟩ hdr hz λh' tk d' pl acc hk hpl hacc=>?_
  have pl2:pl.length=es.size:=by rw[hpl.length_eq,AZ]
  have hW:List.Perm (pl.map λk=>es.getD k (0,.none)) es.toList:=by
   have h1:=hpl.map λk=>es.getD k (0,Value.none)
   refine h1.trans (.of_eq ?_)
   refine CP λi=>?_
   rw[AH]
   by_cases hi:i < es.size
   ·rw[A2 hi]
    simp[Array.getD,hi]
   ·rw[BB (by rw[AZ];lia),BB (by rw[Au];lia)]
    rfl
  obtain⟨ss,h1,h2⟩:=wT (acc:=acc) (W:=pl.map λk=>es.getD k (0,.none)) (by rw[AB,pl2];exact hacc.1) (λi v hiv=>by
   obtain⟨k,e,e1,e2,e3⟩:=hacc.2 i v hiv
   refine⟨e,?_,e3⟩
   rw[AH,e1]
   show some (es.getD k (0,.none))=some e
   have hk':=(Cw.mp e2)
   obtain⟨hk1,hk2⟩:=hk'
   simp[Array.getD,hk1,hk2]) λe he=>hv e (hW.mem_iff.mp he)
  refine h h' tk d' acc.toList ss hk h1 ?_
  have h3:∃ ts,StrsAre (es.toList.map (·.2)) ts:=⟨_,strsAre_map _ λv hv'=>by
   obtain⟨e,he,rfl⟩:=AI.mp hv'
   exact hv e he⟩
  obtain⟨ts,h3⟩:=h3
  exact (yo (hW.map _) h2 h3).trans (lp ts h3)
 ·have wk:Wk w es t:=⟨ti,hf,by
   cases hb:qC w with
   | true=>exact .inl rfl
   | false=>
    rw[hb] at hdr
    exact .inr (Dh.mpr (by simpa using hdr))⟩
  refine kdu_collect (kdl_setW (a:=a) (es:=es) (ep:=ep) (t:=t)) hh ⟨o,ho,hx,hdat,wk⟩ hz λh' tk acc hk hacc=>?_
  have wp:=JJ w a es ep
  obtain⟨ss,h1,h2⟩:=wT (acc:=acc) (W:=(JI w a es ep).toList) (by rw[Au,jr];exact hacc.1) (λi v hiv=>by
   obtain⟨e,e1,e2⟩:=hacc.2 i v hiv
   exact⟨e,by rw[By];exact e1,e2⟩) λe he=>hv e (wp.mem_iff.mp he)
  have h3:∃ ts,StrsAre (es.toList.map (·.2)) ts:=⟨_,strsAre_map _ λv hv'=>by
   obtain⟨e,he,rfl⟩:=AI.mp hv'
   exact hv e he⟩
  obtain⟨ts,h3⟩:=h3
  exact h h' tk s.drawn acc.toList ss hk h1 ((yo (wp.map _) h2 h3).trans (lp ts h3))
def zar {a:Addr} {l:List Str} {Q:Value->Shared->Prop} (hh:A.handled=none) (hS:zan prog w (!qC w) s.heap a l) (nd:l.Nodup) (h64:l.length < 64)
  (h:∀ (h1 h':Heap) (tk:Nat) (d':Drawn) (out:Array Value) (e:Nat) (ss:List Str),(∀ b o,s.heap.get? b=some o->h1.get? b=some o)->(∀ b o,h1.get? b=some o->h'.get? b=some o)->h'.get? h1.objs.size=some (seqObj "list" out e)->StrsAre out.toList ss->ss.Perm l->sortedS ss=true->Q (.ref h1.objs.size) { s with heap:=h',toks:=tk,drawn:=d' }) :
  wpAny (model prog w) A (call (.builtin "sorted") [.ref a]) Q E s:=by
 refine Calls.call_function_entry kind_sorted plain_sorted entry_sorted (args_sorted1 _) ?_
 unfold Builtin.«sorted»
 refine AA (m:=checkCount "sorted" 1 1 _) (AE ?_)
 refine AA (xL (A:=A.in1) hh hS nd λh' tk d' vs ss hk hv hp=>?_)
 have hl:vs.length=l.length:=by rw[hv.length,hp.length_eq]
 refine AA (wpAny_newList ?_ (by rw[hl,Dw];lia))
 have hoL:(h'.push (seqObj "list" vs.toArray 0)).get? h'.objs.size=some (seqObj "list" vs.toArray 0):=AN _ rfl
 show wpAny _ _ _ _ _ { s with heap:=h'.push (seqObj "list" vs.toArray 0),toks:=tk,drawn:=d' }
 refine AA (BL (Ay slot_list_sort ⟨_,hoL,O⟩ entry_list_sort (list_sort_treeK strKind_oneLt hoL hv.keysOf (λv1 v2 rest e=>keyKind_strs (by rw[<- e];exact hv)) (by lia) λst' a1 a2=>⟨_,O,?_⟩) (args_list_sort _)))
 obtain⟨ss',b1,b2,b3⟩:=sorted_out_str hv a1 a2
 obtain⟨e,he⟩:=sortedHeap_at (vs:=vs) (out:=(arrOf st').map (·.2)) hoL
 exact AE ⟨_,O,h h' _ tk d' _ e ss' hk (λb o q1=>by
  have hb:=AO q1
  rw[sortedHeap_old (AU hb) (by rw[Bq];exact BF hb)]
  exact AC _ q1) he b1 (b2.trans hp) b3⟩
end
def TxSet (P:Program) (w:World) (a:Addr) (l:List Str):HO:=.ext λh=>zan P w (!qC w) h a l
def Inv.lots {X:Cx} {pins:List (Addr×Obj)} {σ:List (Option V)} {H:Hp} {s:Shared} (I:Inv X pins σ H s) (d':Drawn):Inv X pins σ H { s with drawn:=d' }:=⟨I.ok,I.os,I.bare,I.base,I.loc,I.cell,I.free,I.freeC,I.pin,I.hok,I.len⟩
def ZK {α:Type} [DecidableEq α] (vs:List α):(Q0 vs).Nodup:=by
 have key:∀ (vs l:List α),l.Nodup->(vs.foldl XB l).Nodup:=by
  intro vs
  induction vs with
  | nil=>exact λl h=>h
  | cons v vs ih=>
   intro l h
   refine ih _ ?_
   unfold XB
   split
   ·exact h
   ·rename_i hv
    refine List.nodup_append.mpr ⟨h,by simp,λa ha b hb=>?_⟩
    rw[AG.mp hb]
    exact λe=>hv (e ▸ ha)
 exact key vs [] .nil
def Z0 {α:Type} [DecidableEq α] {vs:List α} {x:α}:x ∈ Q0 vs ↔ x ∈ vs:=by
 have key:∀ (vs l:List α),x ∈ vs.foldl XB l ↔ x ∈ l\/x ∈ vs:=by
  intro vs
  induction vs with
  | nil=>intro l;simp
  | cons v vs ih=>
   intro l
   rw[CI,ih,YO,AX,or_assoc]
 have:=key vs []
 simpa [Q0] using this
section
variable {X:Cx}
def wU (K:Fs) (hc:X.calm=true) (hK:X.K=K:=by rfl):j6 X (.type "set") (λxs H Q=>∃ p ys,xs=[.ref p]/\SqL K H p (ys.map V.str)/\ys.length<=1000/\∀ a,H a=none->Q (.ref a) (upd H a (TxSet X.prog X.w a (Q0 ys)))):=by
 subst hK
 intro pins s σ H xs us Q I r h
 obtain⟨p,ys,rfl,hq,hz,q⟩:=h
 obtain⟨u,rfl,ru⟩:=vals1 r
 cases ru
 obtain⟨its,rv,pl,_⟩:=I.list hq
 have hb:ys.length+1 < scanBound:=by unfold scanBound;lia
 refine zap (I.ok.hd hc) pl.isList (xp rv) hb λh' tk hS hk=>?_
 have fr:=I.hok.fresh (AM s.heap.objs.size)
 refine⟨.ref s.heap.objs.size,_,I.laid (t':=tk) (o:=TxSet X.prog X.w s.heap.objs.size (Q0 ys)) (λb o e=>hk b o (AO e) e) (AM _) ⟨hS,?_,λh1 h2 z k=>JO z k⟩,O,q _ fr⟩
 obtain⟨o,_,_,_,ho,_⟩:=hS
 exact⟨o,ho⟩
def zas {us:List Value} {ss:List Str} (h:StrsAre us ss):qF (ss.map V.str) us:=by
 induction h with
 | nil=>exact .nil
 | cons x t _ ih=>exact .cons ⟨t,O⟩ ih
def QE (hc:X.calm=true):j6 X (.builtin "sorted") (λxs H Q=>∃ (a:Addr) (l:List Str),xs=[.ref a]/\H a=some (TxSet X.prog X.w a l)/\l.Nodup/\l.length < 64/\∀ (k:Addr) (ss:List Str),H k=none->ss.Perm l->sortedS ss=true->Q (.ref k) (upd H k (.lst (ss.map V.str)))):=by
 intro pins s σ H xs us Q I r h
 obtain⟨a,l,rfl,ha,nd,h64,q⟩:=h
 obtain⟨u,rfl,rx⟩:=vals1 r
 cases rx
 have hd:=(I.hok a _ ha).1
 refine zar (I.ok.hd hc) hd nd h64 λh1 h' tk d' out e ss k1 k2 he a1 a2 a3=>?_
 have I1:Inv X pins σ H { s with heap:=h1,toks:=tk,drawn:=d' }:=(I.un (t':=tk) (Un.kept k1) (I.hok.kept k1)).lots d'
 refine⟨.ref h1.objs.size,_,I1.laid (t':=tk) (o:=.lst (ss.map V.str)) k2 (AM _) ?_,O,q _ ss (I1.hok.fresh (AM _)) a2 a3⟩
 refine⟨by rw[AB,a2.length_eq,Dw];lia,out.toList,e,zas a1,?_⟩
 simpa [seqObj] using he
end
section
variable {X:Cx}
def rKIn:R2:=λy x H Q=>∃ a kvs k,x=.ref a/\y=kV k/\H a=some (.dK kvs)/\Q (.bl (jz kvs k).isSome) H
def op_kIn {j:Nat} (hr:QP j X.A):OpR X (compareOp .In) rKIn:=by
 intro pins s σ H x y v u Q I rx ry h
 obtain⟨a,kvs,k,rfl,rfl,ha,q⟩:=h
 have hu:X.A.units+64 < cLine:=hr.units
 obtain rfl:u=Value.ref a:=ry
 exact d_in (by lia) I (Wf.k ha) rx λs' I'=>⟨.bl _,H,I',O,q⟩
def yp:j6 X (.builtin "len") (λxs H Q=>∃ a kvs,xs=[.ref a]/\H a=some (.dK kvs)/\Q (.int (kvs.length:Nat)) H):=by
 intro pins s σ H xs us Q I r h
 obtain⟨a,kvs,rfl,ha,q⟩:=h
 obtain⟨u,rfl,rx⟩:=vals1 r
 cases rx
 exact d_len I (.inl ha) λt s' I'=>⟨.int _,H,I',⟨_,O⟩,q⟩
end
end L2
namespace L4
open PySem L2
structure Cn where
 nm:Str
 pl:Nat
 cs:List Nat
structure Tb where
 m:Nat
 ws:List Nat
 cs:List Cn
def Cns (H:Hp):List Cn->List V->Prop:=Paired λc v=>∃ t u,v=.ref t/\H t=some (.tup [.str c.nm,nV c.pl,.ref u])/\H u=some (.tup (c.cs.map nV))
def Cns.same {H H':Hp} (s:zD H H') {cs:List Cn} {vs:List V} (h:Cns H cs vs):Cns H' cs vs:=by
 unfold Cns at h ⊢
 induction h with
 | nil=>exact .nil
 | cons r _ ih=>
  obtain⟨t,u,e,h1,h2⟩:=r
  exact .cons ⟨t,u,e,s _ _ h1,s _ _ h2⟩ ih
def Cns.snoc {H:Hp} {cs:List Cn} {vs:List V} {c:Cn} {t u:Addr} (h:Cns H cs vs) (h1:H t=some (.tup [.str c.nm,nV c.pl,.ref u])) (h2:H u=some (.tup (c.cs.map nV))):Cns H (cs++[c]) (vs++[.ref t]):=by
 unfold Cns at h ⊢
 induction h with
 | nil=>exact .cons ⟨t,u,O,h1,h2⟩ .nil
 | cons r _ ih=>exact .cons r ih
def Cns.len {H:Hp} {cs:List Cn} {vs:List V} (h:Cns H cs vs):cs.length=vs.length:=A3 h
def Cns.get {H:Hp} {cs:List Cn} {vs:List V} (h:Cns H cs vs) {i:Nat} {c:Cn} (hc:cs[i]? = some c):∃ t u,vs[i]? = some (.ref t)/\H t=some (.tup [.str c.nm,nV c.pl,.ref u])/\H u=some (.tup (c.cs.map nV)):=by
 have hi:i < vs.length:=by
  rw[<- h.len]
  exact (AF.mp hc).1
 have e:vs[i]? = some vs[i]:=AD hi
 obtain⟨t,u,e1,h1,h2⟩:=Paired.at h i c _ hc e
 exact⟨t,u,by rw[e,e1],h1,h2⟩
def QF (H:Hp) (v:V) (T:Tb):Prop:=∃ a w c vs,v=.ref a/\H a=some (.tup [nV T.m,.ref w,.ref c])/\H w=some (.tup (T.ws.map nV))/\H c=some (.tup vs)/\Cns H T.cs vs
def QF.same {H H':Hp} (s:zD H H') {v:V} {T:Tb} (h:QF H v T):QF H' v T:=by
 obtain⟨a,w,c,vs,e,h1,h2,h3,h4⟩:=h
 exact⟨a,w,c,vs,e,s _ _ h1,s _ _ h2,s _ _ h3,h4.same s⟩
structure zP (T:Tb):Prop where
 m1:1<=T.m
 m9:T.m<=9
 ris:T.ws.Pairwise (· < ·)
 wlt:∀ x ∈ T.ws,x < T.m
 cl:T.cs.length<=16
 cn:∀ c ∈ T.cs,c.nm.length<=100/\c.pl<=2/\Tn.Cs T.m c.pl c.cs
def JS {m k:Nat} (h9:m<=9) (k2:k<=2):m ^ k<=81:=by
 have h1:m ^ k<=9 ^ k:=CY h9 k
 have h2:(9:Nat) ^ k<=9 ^ 2:=CL (by decide) k2
 exact Aa h1 h2
def Cns.tk {H H':Hp} (s:Tk H H') {cs:List Cn} {vs:List V} (h:Cns H cs vs):Cns H' cs vs:=by
 unfold Cns at h ⊢
 induction h with
 | nil=>exact .nil
 | cons r _ ih=>
  obtain⟨t,u,e,h1,h2⟩:=r
  exact .cons ⟨t,u,e,s _ _ h1,s _ _ h2⟩ ih
def jM {xs:List Nat} {i:Nat} (hi:i < xs.length):atI (xs.map nV) (i:Int)=some (nV (Tn.at' xs i)):=by
 refine qj ?_
 rw[AH,AD hi]
 unfold Tn.at'
 rw[AQ,AD hi]
 rfl
def j7 (a:Nat) (ws:List Nat):inV (nV a) (ws.map nV)=decide (a ∈ ws):=by
 induction ws with
 | nil=>rfl
 | cons w ws ih=>
  unfold inV at ih ⊢
  rw[Aj,CV,ih]
  have e:eqV (nV w) (nV a)=decide (a=w):=by
   by_cases h:a=w
   ·rw[h]
    simp[eqV]
   ·rw[As h]
    simp[eqV]
    lia
  rw[e,<- Bool.decide_or]
  exact decide_eq_decide.mpr AX.symm
def qm (ws:List Nat):(ws.map nV).all ju=true:=by
 rw[Ci,Al]
 intro i _
 rfl
def qc (T:Tb):List Str:=T.cs.map Cn.nm
def Wt (T:Tb) (nm:Str):Option Cn:=T.cs.find? λc=>decide (c.nm=nm)
def qR {T:Tb} (hn:(qc T).Nodup) {c:Cn} (hc:c ∈ T.cs):Wt T c.nm=some c:=by
 obtain⟨m,ws,cs⟩:=T
 unfold Wt qc at *
 dsimp only at *
 induction cs with
 | nil=>cases hc
 | cons d cs ih=>
  rw[Aj,BP] at hn
  rw[List.find?_cons]
  rcases AX.mp hc with rfl | hc
  ·rw[An rfl]
  ·have ne:¬ d.nm=c.nm:=λe=>hn.1 (e ▸ AI.mpr ⟨c,hc,rfl⟩)
   rw[As ne]
   exact ih hn.2 hc
def cellOf (T:Tb) (nm:Str) (r:List Nat):Nat:=match Wt T nm with
 | some c=>Tn.at' c.cs (Tn.place T.m r)
 | none=>0
def zP.cell_lt {T:Tb} (g:zP T) (hn:(qc T).Nodup) {c:Cn} (hc:c ∈ T.cs) {r:List Nat} (hr:Tn.Rw T.m c.pl r):cellOf T c.nm r < T.m:=by
 unfold cellOf
 rw[qR hn hc]
 exact (g.cn c hc).2.2.at_lt (Tn.place_lt _ _ hr)
def d0:Cn:=⟨"",0,[]⟩
def yq (c:Cn):List Key:=[Sum.inr c.nm,Sum.inl (c.pl:Int)]
def IsCd (H:Hp) (d:Addr) (T:Tb):Prop:=∃ kvs,H d=some (.dT kvs)/\∀ c ∈ T.cs,∃ u,jz kvs (yq c)=some (.ref u)/\H u=some (.tup (c.cs.map nV))
def IsCd.same {H H':Hp} {d:Addr} {T:Tb} (h:IsCd H d T) (s:zD H H'):IsCd H' d T:=by
 obtain⟨kvs,h1,h2⟩:=h
 refine⟨kvs,s _ _ h1,λc hc=>?_⟩
 obtain⟨u,e1,e2⟩:=h2 c hc
 exact⟨u,e1,s _ _ e2⟩
def ctOf (T:Tb) (au:Nat->Addr) (n:Nat):List (List Key×V):=(List.range n).map λi=>(yq (T.cs.getD i d0),.ref (au i))
def ct_snoc (T:Tb) (au:Nat->Addr) (n:Nat):ctOf T au (n+1)=ctOf T au n++[(yq (T.cs.getD n d0),.ref (au n))]:=by
 unfold ctOf
 rw[BI,AK]
 rfl
def Z1 {ls:List (Str×Nat)} {x:Str} {o:Nat} (h:ls.lookup x=some o):(x,o) ∈ ls:=by
 induction ls with
 | nil=>cases h
 | cons p ls ih=>
  obtain⟨y,q⟩:=p
  rw[Bh] at h
  by_cases e:x=y
  ·subst e
   rw[Cb] at h
   cases h
   exact Af
  ·rw[beq_eq_false_iff_ne.mpr e] at h
   exact Ah _ (ih h)
def ct_keys (T:Tb) (au:Nat->Addr):(ctOf T au T.cs.length).map Prod.fst=T.cs.map yq:=by
 unfold ctOf
 rw[Ak]
 refine CP λi=>?_
 rw[AH,AH]
 by_cases hi:i < T.cs.length
 ·rw[A2 hi,AD hi]
  simp[List.getD,hi]
 ·rw[BB (by rw[AZ];lia),BB (by lia)]
  rfl
def ct_nd {T:Tb} {au:Nat->Addr} (h:(qc T).Nodup):((ctOf T au T.cs.length).map Prod.fst).Nodup:=by
 rw[ct_keys]
 unfold qc at h
 unfold List.Nodup at h ⊢
 rw[CO] at h ⊢
 exact h.imp λhab e=>hab (by
  unfold yq at e
  exact DS (List.cons.inj e).1)
namespace Sy
def sub:Sy->List Sy
 | .ltr x=>[.ltr x]
 | .n0 n=>[.n0 n]
 | .n1 n a=>.n1 n a :: a.sub
 | .n2 n a b=>.n2 n a b :: (a.sub++b.sub)
end Sy
def Sy.sub_ps (s:Sy):s.sub=s :: s.ps.flatMap Sy.sub:=by
 cases s <;> simp[Sy.sub,Sy.ps]
def Sy.sub_len (s:Sy):s.sub.length=s.sz:=by
 induction s with
 | ltr x=>rfl
 | n0 n=>rfl
 | n1 n a ih=>show a.sub.length+1=a.sz+1;rw[ih]
 | n2 n a b iha ihb=>show (a.sub++b.sub).length+1=a.sz+b.sz+1;rw[AL,iha,ihb]
def Sy.dp_sz (s:Sy):s.dp<=s.sz:=by
 induction s with
 | ltr x=>exact BA _
 | n0 n=>exact AM _
 | n1 n a ih=>exact Cy ih
 | n2 n a b iha ihb=>show max a.dp b.dp+1<=a.sz+b.sz+1;lia
def Sy.ps_le (s:Sy):s.ps.length<=2:=by cases s <;> simp[Sy.ps]
def Sy.ps_mk {nm:Str} {ss:List Sy} (h:ss.length<=2):(Sy.mk nm ss).ps=ss:=by
 match ss,h with
 | [],_=>rfl
 | [a],_=>rfl
 | [a,b],_=>rfl
def GSt (T:Tb) (L:List Str):Sy->Prop
 | .ltr x=>x ∈ L
 | .n0 nm=>∃ c ∈ T.cs,c.nm=nm/\c.pl=0
 | .n1 nm a=>(∃ c ∈ T.cs,c.nm=nm/\c.pl=1)/\GSt T L a
 | .n2 nm a b=>(∃ c ∈ T.cs,c.nm=nm/\c.pl=2)/\GSt T L a/\GSt T L b
def GSt.node {T:Tb} {L:List Str} {s:Sy} (h:GSt T L s) (hs:s.isL=false):(∃ c ∈ T.cs,c.nm=s.nm/\c.pl=s.ps.length)/\∀ a ∈ s.ps,GSt T L a:=by
 cases s with
 | ltr x=>cases hs
 | n0 nm=>exact⟨h,λa ha=>by cases ha⟩
 | n1 nm a=>exact⟨h.1,λb hb=>by rw[AG.mp hb];exact h.2⟩
 | n2 nm a b=>
  refine⟨h.1,λc hc=>?_⟩
  rcases AX.mp hc with rfl | hc
  ·exact h.2.1
  ·rw[AG.mp hc]
   exact h.2.2
def GSt.letter {T:Tb} {L:List Str} {s:Sy} (h:GSt T L s) (hs:s.isL=true):s.nm ∈ L:=by
 cases s with
 | ltr x=>exact h
 | _=>cases hs
def GSt.of {T:Tb} {L:List Str} {c:Cn} {ss:List Sy} (hc:c ∈ T.cs) (hl:c.pl=ss.length) (h:∀ a ∈ ss,GSt T L a) (h2:ss.length<=2):GSt T L (Sy.mk c.nm ss):=by
 match ss,hl,h,h2 with
 | [],hl,_,_=>exact⟨c,hc,O,hl⟩
 | [a],hl,h,_=>exact⟨⟨c,hc,O,hl⟩,h a (by simp)⟩
 | [a,b],hl,h,_=>exact⟨⟨c,hc,O,hl⟩,h a (by simp),h b (by simp)⟩
theorem GSt.sub {T:Tb} {L:List Str}:∀ {s a:Sy},GSt T L s->a ∈ s.sub->GSt T L a
 | .ltr x,a,h,ha=>by rw[AG.mp ha];exact h
 | .n0 n,a,h,ha=>by rw[AG.mp ha];exact h
 | .n1 n b,a,h,ha=>by
  rcases AX.mp ha with rfl | ha
  ·exact h
  ·exact GSt.sub h.2 ha
 | .n2 n b c,a,h,ha=>by
  rcases AX.mp ha with rfl | ha
  ·exact h
  ·rcases AV.mp ha with ha | ha
   ·exact GSt.sub h.2.1 ha
   ·exact GSt.sub h.2.2 ha
theorem GSt.mono {T:Tb} {L M:List Str} (k:∀ x ∈ L,x ∈ M):∀ {s:Sy},GSt T L s->GSt T M s
 | .ltr x,h=>k x h
 | .n0 n,h=>h
 | .n1 n a,h=>⟨h.1,h.2.mono k⟩
 | .n2 n a b,h=>⟨h.1,h.2.1.mono k,h.2.2.mono k⟩
def Sy.lets:Sy->List Str
 | .ltr x=>[x]
 | .n0 _=>[]
 | .n1 _ a=>a.lets
 | .n2 _ a b=>a.lets++b.lets
theorem GSt.lets {T:Tb} {L:List Str}:∀ {s:Sy},GSt T L s->GSt T s.lets s
 | .ltr x,h=>AG.mpr rfl
 | .n0 n,h=>h
 | .n1 n a,h=>⟨h.1,h.2.lets⟩
 | .n2 n a b,h=>⟨h.1,h.2.1.lets.mono λx hx=>Ao _ hx,h.2.2.lets.mono λx hx=>Ae _ hx⟩
theorem GSt.lets_in {T:Tb} {L:List Str}:∀ {s:Sy} {x:Str},GSt T L s->x ∈ s.lets->x ∈ L
 | .ltr y,x,h,hx=>by rw[AG.mp hx];exact h
 | .n0 n,x,h,hx=>by cases hx
 | .n1 n a,x,h,hx=>GSt.lets_in (s:=a) h.2 hx
 | .n2 n a b,x,h,hx=>by
  rcases AV.mp hx with hx | hx
  ·exact GSt.lets_in h.2.1 hx
  ·exact GSt.lets_in h.2.2 hx
def ltrs (ss:List Sy):List Str:=ss.filterMap λs=>if s.isL=true then some s.nm else none
def Wu (a b:List Sy):ltrs (a++b)=ltrs a++ltrs b:=List.filterMap_append
theorem Jm:∀ s:Sy,ltrs s.sub=s.lets
 | .ltr x=>rfl
 | .n0 n=>rfl
 | .n1 n a=>Jm a
 | .n2 n a b=>by
  show ltrs (a.sub++b.sub)=_
  rw[Wu,Jm a,Jm b]
  rfl
def grT (T:Tb) (γ:Str->Nat):Sy->Nat
 | .ltr x=>γ x
 | .n0 nm=>cellOf T nm []
 | .n1 nm a=>cellOf T nm [grT T γ a]
 | .n2 nm a b=>cellOf T nm [grT T γ a,grT T γ b]
def grT_node {T:Tb} {γ:Str->Nat} {s:Sy} (hs:s.isL=false):grT T γ s=cellOf T s.nm (s.ps.map (grT T γ)):=by
 cases s with
 | ltr x=>cases hs
 | _=>rfl
def xM {T:Tb} {γ:Str->Nat} {s:Sy} (hs:s.isL=true):grT T γ s=γ s.nm:=by
 cases s with
 | ltr x=>rfl
 | _=>cases hs
theorem Y1 {T:Tb} (g:zP T) (nd:(qc T).Nodup) {L:List Str} {γ:Str->Nat} (hγ:∀ x ∈ L,γ x < T.m):∀ {s:Sy},GSt T L s->grT T γ s < T.m
 | .ltr x,h=>hγ x h
 | .n0 nm,⟨c,hc,e,p⟩=>by
  show cellOf T nm [] < T.m
  rw[<- e]
  exact g.cell_lt nd hc ⟨p.symm,λx hx=>by cases hx⟩
 | .n1 nm a,⟨⟨c,hc,e,p⟩,h⟩=>by
  show cellOf T nm [grT T γ a] < T.m
  rw[<- e]
  exact g.cell_lt nd hc ⟨p.symm,λx hx=>by rw[AG.mp hx];exact Y1 g nd hγ h⟩
 | .n2 nm a b,⟨⟨c,hc,e,p⟩,h1,h2⟩=>by
  show cellOf T nm [grT T γ a,grT T γ b] < T.m
  rw[<- e]
  refine g.cell_lt nd hc ⟨p.symm,λx hx=>?_⟩
  rcases AX.mp hx with rfl | hx
  ·exact Y1 g nd hγ h1
  ·rw[AG.mp hx]
   exact Y1 g nd hγ h2
theorem Zd {T:Tb} {γ δ:Str->Nat}:∀ {s:Sy},(∀ x ∈ s.lets,γ x=δ x)->grT T γ s=grT T δ s
 | .ltr x,h=>h x (AG.mpr rfl)
 | .n0 nm,h=>rfl
 | .n1 nm a,h=>by
  show cellOf T nm [grT T γ a]=cellOf T nm [grT T δ a]
  rw[Zd (s:=a) h]
 | .n2 nm a b,h=>by
  show cellOf T nm [grT T γ a,grT T γ b]=cellOf T nm [grT T δ a,grT T δ b]
  rw[Zd (s:=a) λx hx=>h x (Ao _ hx),Zd (s:=b) λx hx=>h x (Ae _ hx)]
def WQ (T:Tb) (ls:List (Str×Nat)):Sy->Nat->Prop
 | .ltr x,y=>match ls.lookup x with
  | some o=>y=o
  | none=>y < T.m
 | .n0 nm,y=>y=cellOf T nm []
 | .n1 nm a,y=>∃ p,WQ T ls a p/\y=cellOf T nm [p]
 | .n2 nm a b,y=>∃ p q,WQ T ls a p/\WQ T ls b q/\y=cellOf T nm [p,q]
def PosL (T:Tb) (ls:List (Str×Nat)):List Sy->List Nat->Prop:=Paired (WQ T ls)
def zat {T:Tb} {ls:List (Str×Nat)} {ss:List Sy} {r:List Nat} {s:Sy} {y:Nat} (h:PosL T ls ss r) (k:WQ T ls s y):PosL T ls (ss++[s]) (r++[y]):=by
 unfold PosL at h ⊢
 induction h with
 | nil=>exact .cons k .nil
 | cons z _ ih=>exact .cons z ih
theorem Q3 {T:Tb} {ls:List (Str×Nat)} {s:Sy}:∀ {ss:List Sy} {r:List Nat},PosL T ls (ss++[s]) r->∃ r' y,r=r'++[y]/\PosL T ls ss r'/\WQ T ls s y
 | [],_,.cons k .nil=>⟨[],_,rfl,.nil,k⟩
 | a :: ss,_,.cons k t=>by
  obtain⟨r',y,rfl,h1,h2⟩:=Q3 (ss:=ss) t
  exact⟨_ :: r',y,O,.cons k h1,h2⟩
def pos_node {T:Tb} {ls:List (Str×Nat)} {s:Sy} (hs:s.isL=false) (y:Nat):WQ T ls s y ↔ ∃ r,PosL T ls s.ps r/\y=cellOf T s.nm r:=by
 cases s with
 | ltr x=>cases hs
 | n0 nm=>
  constructor
  ·intro h
   exact⟨[],.nil,h⟩
  ·rintro⟨r,h,e⟩
   cases h
   exact e
 | n1 nm a=>
  constructor
  ·rintro⟨p,h,e⟩
   exact⟨[p],.cons h .nil,e⟩
  ·rintro⟨r,h,e⟩
   cases h with
   | cons k t=>
    cases t
    exact⟨_,k,e⟩
 | n2 nm a b=>
  constructor
  ·rintro⟨p,q,h,k,e⟩
   exact⟨[p,q],.cons h (.cons k .nil),e⟩
  ·rintro⟨r,h,e⟩
   cases h with
   | cons k t=>
    cases t with
    | cons k2 t=>
     cases t
     exact⟨_,_,k,k2,e⟩
theorem wV {T:Tb} {ls:List (Str×Nat)} {s:Sy} (hs:s.isL=true) (y:Nat):WQ T ls s y ↔ (match ls.lookup s.nm with
  | some o=>y=o
  | none=>y < T.m):=by
 cases s with
 | ltr x=>exact Iff.rfl
 | _=>cases hs
theorem Y2 {T:Tb} (g:zP T) (nd:(qc T).Nodup) {L:List Str} {ls:List (Str×Nat)} (hls:∀ p ∈ ls,p.2 < T.m):∀ {s:Sy} {y:Nat},GSt T L s->WQ T ls s y->y < T.m
 | .ltr x,y,h,hy=>by
  unfold WQ at hy
  cases e:ls.lookup x with
  | none=>
   rw[e] at hy
   exact hy
  | some o=>
   rw[e] at hy
   have hy:y=o:=hy
   rw[hy]
   exact hls (x,o) (Z1 e)
 | .n0 nm,y,⟨c,hc,e,p⟩,hy=>by
  have hy:y=cellOf T nm []:=hy
  rw[hy,<- e]
  exact g.cell_lt nd hc ⟨p.symm,λx hx=>by cases hx⟩
 | .n1 nm a,y,⟨⟨c,hc,e,p⟩,h⟩,⟨u,hu,hy⟩=>by
  rw[hy,<- e]
  exact g.cell_lt nd hc ⟨p.symm,λx hx=>by rw[AG.mp hx];exact Y2 g nd hls h hu⟩
 | .n2 nm a b,y,⟨⟨c,hc,e,p⟩,h1,h2⟩,⟨u,v,hu,hv,hy⟩=>by
  rw[hy,<- e]
  refine g.cell_lt nd hc ⟨p.symm,λx hx=>?_⟩
  rcases AX.mp hx with rfl | hx
  ·exact Y2 g nd hls h1 hu
  ·rw[AG.mp hx]
   exact Y2 g nd hls h2 hv
def Keeps (γ:Str->Nat) (ls:List (Str×Nat)):Prop:=∀ p ∈ ls,γ p.1=p.2
theorem yr {T:Tb} {ls:List (Str×Nat)} {γ:Str->Nat} (hγ:∀ x,γ x < T.m) (k:Keeps γ ls):∀ (s:Sy),WQ T ls s (grT T γ s)
 | .ltr x=>by
  unfold WQ
  cases e:ls.lookup x with
  | none=>exact hγ x
  | some o=>exact k (x,o) (Z1 e)
 | .n0 nm=>rfl
 | .n1 nm a=>⟨_,yr hγ k a,rfl⟩
 | .n2 nm a b=>⟨_,_,yr hγ k a,yr hγ k b,rfl⟩
theorem JT {T:Tb} {ls:List (Str×Nat)} {γ:Str->Nat}:∀ {s:Sy} {y:Nat},(∀ x ∈ s.lets,ls.lookup x=some (γ x))->WQ T ls s y->y=grT T γ s
 | .ltr x,y,h,hy=>by
  unfold WQ at hy
  rw[h x (AG.mpr rfl)] at hy
  exact hy
 | .n0 nm,y,h,hy=>hy
 | .n1 nm a,y,h,⟨p,hp,e⟩=>by
  rw[e,JT (s:=a) h hp]
  rfl
 | .n2 nm a b,y,h,⟨p,q,hp,hq,e⟩=>by
  rw[e,JT (λx hx=>h x (Ao _ hx)) hp,JT (λx hx=>h x (Ae _ hx)) hq]
  rfl
def Clo (T:Tb) (ls:List (Str×Nat)) (ps:List Sy) (S:Sy):Prop:=(∃ p ∈ ps,∀ y,WQ T ls p y->y ∉ T.ws)\/∀ y,WQ T ls S y->y ∈ T.ws
def Bar (T:Tb) (γ:Str->Nat) (ps:List Sy) (S:Sy):Prop:=(∀ p ∈ ps,grT T γ p ∈ T.ws)/\grT T γ S ∉ T.ws
def Gd (T:Tb) (γ:Str->Nat):Prop:=∀ x,γ x < T.m
def FolL (T:Tb) (ls:List (Str×Nat)) (ps:List Sy) (S:Sy):Prop:=∀ γ,Gd T γ->Keeps γ ls->¬ Bar T γ ps S
def Fol (T:Tb) (ps:List Sy) (S:Sy):Prop:=∀ γ,Gd T γ->¬ Bar T γ ps S
def fol_nil {T:Tb} {ps:List Sy} {S:Sy}:FolL T [] ps S ↔ Fol T ps S:=⟨λh γ g=>h γ g (λp hp=>by cases hp),λh γ g _=>h γ g⟩
def clo_fol {T:Tb} {ls:List (Str×Nat)} {ps:List Sy} {S:Sy} (h:Clo T ls ps S):FolL T ls ps S:=λγ g k b=>by
 rcases h with ⟨p,hp,hn⟩ | h
 ·exact hn _ (yr g k p) (b.1 p hp)
 ·exact b.2 (h _ (yr g k S))
def bar_of {T:Tb} {ls:List (Str×Nat)} {ps:List Sy} {S:Sy} {γ:Str->Nat} (h:¬ Clo T ls ps S) (hp:∀ p ∈ ps,∀ x ∈ p.lets,ls.lookup x=some (γ x)) (hS:∀ x ∈ S.lets,ls.lookup x=some (γ x)):Bar T γ ps S:=by
 refine⟨λp hpp=>Bu λhn=>h (.inl ⟨p,hpp,λy hy=>?_⟩),λhn=>h (.inr λy hy=>?_)⟩
 ·rw[JT (hp p hpp) hy]
  exact hn
 ·rw[JT hS hy]
  exact hn
def zau {T:Tb} {ls:List (Str×Nat)} {ps:List Sy} {S:Sy} (x:Str) (h:∀ o,o < T.m->FolL T (ls++[(x,o)]) ps S):FolL T ls ps S:=λγ g k=>h (γ x) (g x) γ g λp hp=>by
 rcases AV.mp hp with hp | hp
 ·exact k p hp
 ·rw[AG.mp hp]
def xN {γ:Str->Nat} {ls ms:List (Str×Nat)} (h:Keeps γ (ls++ms)):Keeps γ ls:=λp hp=>h p (Ao _ hp)
def ZL (H:Hp) (g:Addr) (ls:List (Str×Nat)):Prop:=∃ kvs:List (Key×V),H g=some (.dK kvs)/\Paired (λ(p:Str×Nat) (kv:Key×V)=>kv.1=Sum.inr p.1/\∃ u,kv.2=.ref u/\H u=some (.tup [nV p.2])) ls kvs
def ZL.tk' {H H':Hp} {g:Addr} {ls:List (Str×Nat)} (h:ZL H g ls) (k:Tk H H') (e:∀ kvs,H g=some (.dK kvs)->H' g=some (.dK kvs)):ZL H' g ls:=by
 obtain⟨kvs,h1,h2⟩:=h
 refine⟨kvs,e kvs h1,Paired.imp' (λ_ _ z=>?_) h2⟩
 obtain⟨e1,u,e2,e3⟩:=z
 exact⟨e1,u,e2,k _ _ e3⟩
def ZL.same {H H':Hp} {g:Addr} {ls:List (Str×Nat)} (h:ZL H g ls) (s:zD H H'):ZL H' g ls:=h.tk' (Tk.of s) λkvs e=>s _ _ e
def Y3 {H:Hp} {ls:List (Str×Nat)} {kvs:List (Key×V)} (h:Paired (λ(p:Str×Nat) (kv:Key×V)=>kv.1=Sum.inr p.1/\∃ u,kv.2=.ref u/\H u=some (.tup [nV p.2])) ls kvs) (x:Str) :
  match ls.lookup x with
  | some o=>∃ u,jz kvs (Sum.inr x)=some (.ref u)/\H u=some (.tup [nV o])
  | none=>jz kvs (Sum.inr x)=none:=by
 induction h with
 | nil=>exact rfl
 | @cons p kv ls kvs r _ ih=>
  obtain⟨e1,u,e2,e3⟩:=r
  obtain⟨y,o⟩:=p
  rw[Bh]
  by_cases e:x=y
  ·subst e
   rw[Cb]
   refine⟨u,?_,e3⟩
   rw[qM e1,e2]
  ·rw[beq_eq_false_iff_ne.mpr e,qI (by rw[e1];intro z;exact e (DS z).symm)]
   exact ih
def sets_put {ls:List (Str×Nat)} {kvs:List (Key×V)} {H:Hp} {x:Str} {v:V} (h:Paired (λ(p:Str×Nat) (kv:Key×V)=>kv.1=Sum.inr p.1/\∃ u,kv.2=.ref u/\H u=some (.tup [nV p.2])) ls kvs) (hx:x ∉ ls.map Prod.fst):ZX kvs (Sum.inr x) v=kvs++[(Sum.inr x,v)]:=by
 unfold ZX
 rw[if_neg]
 intro z
 obtain⟨kv,hkv,e⟩:=DO.mp z
 refine hx ?_
 clear z
 induction h with
 | nil=>cases hkv
 | @cons p kv' ls kvs r _ ih=>
  rcases AX.mp hkv with rfl | hkv
  ·rw[Aj]
   have e2:=Ar e
   rw[r.1] at e2
   exact AX.mpr (.inl (DS e2).symm)
  ·exact Ah _ (ih (λz=>hx (Ah _ z)) hkv)
def xO {L:List Str} {ls:List (Str×Nat)} (nd:L.Nodup) (e:ls.map Prod.fst=L) {x:Str} (hx:x ∈ L):∃ o,ls.lookup x=some o:=by
 rw[<- e] at hx
 obtain⟨p,hp,rfl⟩:=AI.mp hx
 clear e nd
 induction ls with
 | nil=>cases hp
 | cons q ls ih=>
  obtain⟨y,o⟩:=q
  rw[Bh]
  by_cases e:p.1=y
  ·rw[e,Cb]
   exact⟨o,O⟩
  ·rw[beq_eq_false_iff_ne.mpr e]
   rcases AX.mp hp with rfl | hp
   ·exact absurd rfl e
   ·exact ih hp (AI.mpr ⟨p,hp,O⟩)
end L4
namespace L2
open PySem PySem.Spec PyProof.Rows
section
variable {prog:Program} {w:World} {A:Around} {E:Value->Shared->Prop} {s:Shared}
end
section
variable {X:Cx}
end
end L2
namespace L4
open PySem L2
theorem wW {α:Type}:∀ (xs:List α) (i:Nat) (x:α),xs[i]? = some x->xs.Perm (x :: xs.eraseIdx i)
 | [],i,x,h=>by simp at h
 | y :: ys,0,x,h=>by
  have e:y=x:=by simpa using h
  subst e
  exact List.Perm.refl _
 | y :: ys,i+1,x,h=>((wW ys i x (by simpa using h)).cons y).trans (List.Perm.swap x y _)
theorem yt {α β:Type} (f:α->β):∀ (xs:List α) (i:Nat),(xs.map f).eraseIdx i=(xs.eraseIdx i).map f
 | [],_=>rfl
 | _ :: _,0=>rfl
 | x :: xs,i+1=>by
  show f x :: (xs.map f).eraseIdx i=f x :: (xs.eraseIdx i).map f
  rw[yt f xs i]
def seq_nat {v n:Nat} (h:v < n):seqIndex? (v:Int) n=some v:=by
 unfold seqIndex?
 have h1:¬ ((v:Int) < 0):=by lia
 simp only[h1,if_false]
 rw[if_pos (by simp;lia)]
 rfl
theorem GSt.into {T U:Tb} {L:List Str} (h:∀ c ∈ T.cs,∃ d ∈ U.cs,d.nm=c.nm/\d.pl=c.pl):∀ {s:Sy},GSt T L s->GSt U L s
 | .ltr x,k=>k
 | .n0 n,⟨c,hc,e,p⟩=>by
  obtain⟨d,hd,e1,e2⟩:=h c hc
  exact⟨d,hd,e1.trans e,e2.trans p⟩
 | .n1 n a,⟨⟨c,hc,e,p⟩,k⟩=>by
  obtain⟨d,hd,e1,e2⟩:=h c hc
  exact⟨⟨d,hd,e1.trans e,e2.trans p⟩,k.into h⟩
 | .n2 n a b,⟨⟨c,hc,e,p⟩,k1,k2⟩=>by
  obtain⟨d,hd,e1,e2⟩:=h c hc
  exact⟨⟨d,hd,e1.trans e,e2.trans p⟩,k1.into h,k2.into h⟩
structure HomN (N T U:Tb) (h:Nat->Nat):Prop where
 cell:∀ c ∈ N.cs,∀ r,Tn.Rw T.m c.pl r->L4.cellOf U c.nm (r.map h)=h (L4.cellOf T c.nm r)/\L4.cellOf T c.nm r < T.m
 lt:∀ x,x < T.m->h x < U.m
 ws:∀ x,x < T.m->(x ∈ T.ws ↔ h x ∈ U.ws)
theorem HomN.gr {N T U:Tb} {h:Nat->Nat} (hh:HomN N T U h) {γ:Str->Nat} (g:Gd T γ) {L:List Str}:∀ {s:Sy},GSt N L s->grT U (λx=>h (γ x)) s=h (grT T γ s)/\grT T γ s < T.m
 | .ltr x,_=>⟨rfl,g x⟩
 | .n0 nm,⟨c,hc,e,p⟩=>by
  have:=hh.cell c hc [] ⟨p.symm,λx hx=>by cases hx⟩
  rw[e] at this
  exact this
 | .n1 nm a,⟨⟨c,hc,e,p⟩,k⟩=>by
  obtain⟨i1,i2⟩:=hh.gr g k
  have:=hh.cell c hc [grT T γ a] ⟨p.symm,λx hx=>by rw[AG.mp hx];exact i2⟩
  rw[e] at this
  refine⟨?_,this.2⟩
  show L4.cellOf U nm [grT U _ a]=_
  rw[i1]
  exact this.1
 | .n2 nm a b,⟨⟨c,hc,e,p⟩,k1,k2⟩=>by
  obtain⟨i1,i2⟩:=hh.gr g k1
  obtain⟨j1,j2⟩:=hh.gr g k2
  have:=hh.cell c hc [grT T γ a,grT T γ b] ⟨p.symm,λx hx=>by
   rcases AX.mp hx with rfl | hx
   ·exact i2
   ·rw[AG.mp hx]
    exact j2⟩
  rw[e] at this
  refine⟨?_,this.2⟩
  show L4.cellOf U nm [grT U _ a,grT U _ b]=_
  rw[i1,j1]
  exact this.1
def HomN.fol {N T U:Tb} {h:Nat->Nat} (hh:HomN N T U h) {L:List Str} {ps:List Sy} {S:Sy} (hp:∀ p ∈ ps,GSt N L p) (hS:GSt N L S) (f:Fol U ps S):Fol T ps S:=λγ g b=>by
 refine f (λx=>h (γ x)) (λx=>hh.lt _ (g x)) ⟨λp hpp=>?_,λhn=>?_⟩
 ·obtain⟨e1,e2⟩:=hh.gr g (hp p hpp)
  rw[e1]
  exact (hh.ws _ e2).mp (b.1 p hpp)
 ·obtain⟨e1,e2⟩:=hh.gr g hS
  rw[e1] at hn
  exact b.2 ((hh.ws _ e2).mpr hn)
end L4
namespace L2
open PySem PySem.Spec PyProof.Rows
section
variable {prog:Program} {w:World} {A:Around} {E:Value->Shared->Prop} {s:Shared}
variable {z TI TO i1 i2 t1 t2:Addr} {xs ys:Array Value} {k:Nat} {a0:Addr} {b:Bool}
variable {R:Result->Shared->Prop}
end
section
variable {X:Cx}
end
section
variable {X:Cx}
end
end L2
namespace L4
open PySem L2
end L4
namespace L2
open PySem PySem.Spec PyProof.Rows
section
variable {prog:Program} {w:World} {A:Around} {E:Value->Shared->Prop} {s:Shared}
variable {z TI TO i1 i2 t1 t2:Addr} {xs ys:Array Value} {k1 k2:Nat}
end
section
variable {X:Cx}
end
section
variable {prog:Program} {w:World} {A:Around} {R:Result->Shared->Prop}
end
section
variable {X:Cx}
end
section
variable {X:Cx}
end
section
variable {prog:Program} {w:World} {A:Around} {E:Value->Shared->Prop} {s:Shared}
end
section
variable {X:Cx}
end
section
variable {X:Cx}
end
section
variable {X:Cx}
end
section
variable {prog:Program} {w:World} {A:Around} {E:Value->Shared->Prop} {s:Shared}
end
section
variable {X:Cx}
end
section
variable {X:Cx} {pins:List (Addr × Obj)} {σ:List (Option V)} {H:Hp} {s:Shared}
end
section
variable {X:Cx}
end
open PySem PySem.Spec PyProof.Rows PySem.W
section
variable {α β:Type} {a:Nat->Nat->Bool} {n:Nat}
end
section
variable {a:Nat->Nat->Bool} {n:Nat}
end
section
variable {prog:Program} {w:World} {A:Around} {E:Value->Shared->Prop} {s:Shared}
end
open PySem PySem.Spec PyProof.Rows PySem.W L4
section
variable {prog:Program} {w:World} {A:Around} {E:Value->Shared->Prop} {s:Shared}
end
section
variable {X:Cx}
end
section
variable {prog:Program} {w:World} {A:Around} {E:Value->Shared->Prop} {s:Shared} {d it:Addr} {es:Array DictEntry} {ep i:Nat}
end
section
variable {X:Cx}
end
open PySem PySem.Spec PyProof.Rows L4
section
variable {X:Cx}
end
open Builtin
section
variable {X:Cx}
end
section
variable {prog:Program} {w:World} {A:Around} {E:Value->Shared->Prop} {s:Shared}
end
section
variable {X:Cx}
end
end L2
namespace K97
open PySem L2 L4
local macro_rules | `(tactic| walk_at "hp") => `(tactic| first | assumption | exact ze | (rw [zK (by first | assumption | exact Ne.symm (by assumption) | exact zL (by assumption) (by assumption) | exact Ne.symm (zL (by assumption) (by assumption)))]; walk_at "hp"))
local macro_rules | `(tactic| walk_at "r1") => `(tactic| first | refine ⟨_, rfl, ?_⟩ | refine .inl ⟨_, _, _, _, rfl, rfl, SqL.of (by walk_at "hp"), rfl, ?_⟩ | refine .inr (.inl ⟨_, _, _, _, rfl, rfl, SqT.of (by walk_at "hp"), rfl, ?_⟩) | refine ⟨_, _, rfl, rfl, ?_⟩ | refine ⟨(show CMul _ _ from .inr ⟨by lia, by lia⟩), ?_⟩ | refine ⟨(show CMul _ _ from .inl ⟨by lia, by lia⟩), ?_⟩ | refine ⟨(show CDiv _ _ from ⟨by lia, by lia⟩), ?_⟩ | refine ⟨(show CPow _ _ from ⟨by decide, by decide, by decide⟩), ?_⟩ | refine ⟨(show (0 : Int) < _ by lia), ?_⟩ | refine ⟨_, _, _, _, rfl, rfl, (by walk_at "hp"), rfl, ?_⟩)
local macro_rules | `(tactic| walk_at "rd") => `(tactic| repeat walk_at "r1")
local macro_rules | `(tactic| walk_at "dc") => `(tactic| first | refine wC ?_ | refine wc ?_ | refine iteDT (by decide +kernel) ?_ | refine XG (by decide +kernel) ?_ | refine ⟨_, rfl, rfl, _, rfl, ?_⟩)
local macro_rules | `(tactic| walk_at "ds") => `(tactic| repeat walk_at "dc")
local macro_rules | `(tactic| walk_at "v") => `(tactic| first | exact Or.inl rfl | exact Or.inr (Or.inl rfl) | exact Or.inr (Or.inr rfl))
local macro_rules | `(tactic| walk_at "f") => `(tactic| first | exact .inl rfl | exact .inr rfl | assumption)
def at0 {x:V} {us:List V}:atI (x :: us) 0=some x:=qj (j:=0) rfl
def QG {xs:List V} (h:1<=xs.length):J9 xs (some 1) none=xs.drop 1:=by
 unfold J9
 rw[show HT.sIx xs.length 0 (some 1)=1 by rw[show (1:Int)=((1:Nat):Int) from rfl,HT.sIx_nat];lia,HT.sIx_none]
 exact B8 (by rw[CA];lia)
def Y4 {K:Fs} {H:Hp} {a:Addr} {xs:List V} {lo hi:Option Int} {Q:VK} (ha:H a=some (.tup xs)) (F:∀ t H',zD H H'->H' t=some (.tup (J9 xs lo hi))->Q (.ref t) H'):rSlT K (.ref a) lo hi H Q\/rSlTW K (.ref a) lo hi H Q:=by
 by_cases h:HT.sIx xs.length 0 lo=0/\HT.sIx xs.length xs.length hi=xs.length
 ·refine .inr ⟨a,xs,O,SqT.of ha,h,F a H (zD.refl H) ?_⟩
  unfold J9
  rw[h.1,h.2,De,Dq,Ag]
  exact ha
 ·exact .inl ⟨a,xs,O,SqT.of ha,h,λp hp=>F p _ (zf hp _) ze⟩
def catA_of {K:Fs} {H:Hp} {a b:Addr} {xs ys:List V} {Q:VK} (ha:H a=some (.tup xs)) (hb:H b=some (.tup ys)) (hz:xs.length+ys.length<=1000) (F:∀ t H',zD H H'->H' t=some (.tup (xs++ys))->Q (.ref t) H'):rCatA K (.ref a) (.ref b) H Q:=
 ⟨a,b,xs,ys,rfl,rfl,SqT.of ha,SqT.of hb,zt hz,λz=>F b H (zD.refl H) (by rw[z];exact hb),λ_ z=>F a H (zD.refl H) (by rw[z,Bt];exact ha),λ_ _ p hp=>F p _ (zf hp _) ze⟩
def Ls (L:List Str):Prop:=∀ x ∈ L,Ltr x
def Yg:Sp:=λvs H Q _=>∃ x:Str,vs=[.str x]/\Small x/\x.length<=8/\∀ H',zD H H'->Q (.bl true) H'
def xP:Sp:=λvs H Q _=>∃ (v:V) (s:Sy),vs=[v]/\jU H s v/\(s.isL=true->Ltr s.nm)/\∀ H',zD H H'->Q (.bl s.isL) H'
def zav {α:Type} {f:α->Nat} (xs:List α) (h:∀ x,1<=f x):xs.length<=(xs.map f).sum:=by
 induction xs with
 | nil=>exact AM _
 | cons x xs ih=>
  rw[Am,Aj,List.sum_cons]
  have:=h x
  lia
def Sq2 (H:Hp) (a:Addr) (xs:List V):Prop:=H a=some (.lst xs)\/H a=some (.tup xs)
def Y5 {H H':Hp} {a:Addr} {xs:List V} (s:zD H H') (h:Sq2 H a xs):Sq2 H' a xs:=h.elim (λh=>.inl (s _ _ h)) λh=>.inr (s _ _ h)
def peOr {X:Cx} {e:Expr} {t1 t2:TE} (h1:PE X e t1) (h2:PE X e t2):PE X e λσ H Q=>t1 σ H Q\/t2 σ H Q:=λpins s σ H Q I h=>h.elim (h1 pins s σ H Q I) (h2 pins s σ H Q I)
def Y6:Sp:=λvs H Q _=>∃ (ps gs:Addr) (m:Nat) (P G:List Nat),vs=[.ref ps,nV m,.ref gs]/\m<=9/\H ps=some (.lst (P.map nV))/\Sq2 H gs (G.map nV)/\P.length<=9/\G.length<=9/\∀ l H',zD H H'->H' l=some (.lst ((P.flatMap λp=>G.map λg=>p * m+g).map nV))->Q (.ref l) H'
def WR (s:Sy):Prop:=∀ x ∈ s.lets,Ltr x
def WR.part {s a:Sy} (h:WR s) (ha:a ∈ s.ps):WR a:=by
 cases s with
 | ltr x=>cases ha
 | n0 n=>cases ha
 | n1 n b=>
  rw[AG.mp ha]
  exact h
 | n2 n b c=>
  rcases AX.mp ha with rfl | ha
  ·exact λx hx=>h x (Ao _ hx)
  ·rw[AG.mp ha]
   exact λx hx=>h x (Ae _ hx)
def WR.isl {s:Sy} (h:WR s) (hs:s.isL=true):Ltr s.nm:=by
 cases s with
 | ltr x=>exact h x (AG.mpr rfl)
 | _=>cases hs
def WR.of {T:Tb} {L:List Str} {s:Sy} (hL:Ls L) (h:GSt T L s):WR s:=λx hx=>hL x (h.lets_in hx)
theorem WR.sub:∀ {s a:Sy},WR s->a ∈ s.sub->WR a
 | .ltr x,a,h,ha=>by rw[AG.mp ha];exact h
 | .n0 n,a,h,ha=>by rw[AG.mp ha];exact h
 | .n1 n b,a,h,ha=>by
  rcases AX.mp ha with rfl | ha
  ·exact h
  ·exact WR.sub (s:=b) h ha
 | .n2 n b c,a,h,ha=>by
  rcases AX.mp ha with rfl | ha
  ·exact h
  ·rcases AV.mp ha with ha | ha
   ·exact WR.sub (s:=b) (λx hx=>h x (Ao _ hx)) ha
   ·exact WR.sub (s:=c) (λx hx=>h x (Ae _ hx)) ha
def SyS (H:Hp) (ps:List (V×Sy)):Prop:=∀ z ∈ ps,WR z.2/\jU H z.2 z.1
def SyS.same {H H':Hp} (s:zD H H') {ps:List (V×Sy)} (h:SyS H ps):SyS H' ps:=λz hz=>⟨(h z hz).1,(h z hz).2.same s⟩
theorem SyS.paired {H:Hp}:∀ {ps:List (V×Sy)},SyS H ps->Paired (jU H) (ps.map Prod.snd) (ps.map Prod.fst)
 | [],_=>.nil
 | z :: ps,h=>.cons (h z Af).2 (SyS.paired λy hy=>h y (Ah _ hy))
def xQ {H:Hp} {ss:List Sy} {us:List V} (h:Paired (jU H) ss us) (g:∀ a ∈ ss,WR a):SyS H (us.zip ss)/\(us.zip ss).map Prod.fst=us/\(us.zip ss).map Prod.snd=ss:=by
 induction h with
 | nil=>exact⟨(λz hz=>by cases hz),O,O⟩
 | @cons a u ss us r _ ih=>
  obtain⟨i1,i2,i3⟩:=ih λb hb=>g b (Ah _ hb)
  refine⟨λz hz=>?_,?_,?_⟩
  ·rcases AX.mp hz with rfl | hz
   ·exact⟨g _ (Af ..),r⟩
   ·exact i1 z hz
  ·rw[Cd,Aj,i2]
  ·rw[Cd,Aj,i3]
theorem ZM:∀ s:Sy,s.lets.length<=s.sz
 | .ltr x=>AM _
 | .n0 n=>BA _
 | .n1 n a=>Cp (ZM a)
 | .n2 n a b=>by
  have h1:=ZM a
  have h2:=ZM b
  show (a.lets++b.lets).length<=a.sz+b.sz+1
  rw[AL]
  lia
theorem ZN:∀ ps:List (V×Sy),(∀ z ∈ ps,z.2.sz<=63)->(ps.flatMap λz=>z.2.lets).length<=63 * ps.length
 | [],_=>BA _
 | z :: ps,h=>by
  have h1:=ZN ps λy hy=>h y (Ah _ hy)
  have h2:=ZM z.2
  have h3:=h z Af
  rw[B4,AL,Am]
  lia
def posL_rw {T:Tb} (g:zP T) (nd:(qc T).Nodup) {L:List Str} {ls:List (Str×Nat)} (hls:∀ p ∈ ls,p.2 < T.m) {ss:List Sy} {r:List Nat} (h:PosL T ls ss r) (hg:∀ a ∈ ss,GSt T L a):Tn.Rw T.m ss.length r:=by
 unfold PosL at h
 induction h with
 | nil=>exact⟨O,λx hx=>by cases hx⟩
 | @cons a y ss r k _ ih=>
  obtain⟨h1,h2⟩:=ih λb hb=>hg b (Ah _ hb)
  refine⟨by rw[Am,Am,h1],λx hx=>?_⟩
  rcases AX.mp hx with rfl | hx
  ·exact Y2 g nd hls (hg a Af) k
  ·exact h2 x hx
def no_non (xs:List Nat):inV .non (xs.map nV)=false:=by
 induction xs with
 | nil=>rfl
 | cons x xs ih=>exact ih
def Wv {α:Type} (xs:List α) (f:α->Bool):(xs.map λy=>V.bl (f y))=(xs.map f).map V.bl:=by rw[Ak];rfl
def zaw {ls:List (Str×Nat)} (nd:(ls.map Prod.fst).Nodup) {p:Str×Nat} (hp:p ∈ ls):ls.lookup p.1=some p.2:=by
 induction ls with
 | nil=>cases hp
 | cons q ls ih=>
  obtain⟨y,o⟩:=q
  rw[Aj,BP] at nd
  rw[Bh]
  rcases AX.mp hp with rfl | hp
  ·rw[Cb]
  ·have ne:¬ p.1=y:=λe=>nd.1 (e ▸ AI.mpr ⟨p,hp,rfl⟩)
   rw[beq_eq_false_iff_ne.mpr ne]
   exact ih nd.2 hp
theorem Y7:∀ (ps acc:List (Key×V)),((acc++ps).map Prod.fst).Nodup->putAll acc ps=acc++ps
 | [],acc,_=>by rw[Bt];rfl
 | p :: ps,acc,nd=>by
  show putAll (ZX acc p.1 p.2) ps=_
  have e:ZX acc p.1 p.2=acc++[p]:=by
   unfold ZX
   rw[if_neg]
   intro z
   obtain⟨kv,hkv,e⟩:=DO.mp z
   rw[AK,Aj] at nd
   have:=(List.nodup_append.mp nd).2.2 kv.1 (AI.mpr ⟨kv,hkv,rfl⟩) p.1 Af
   exact this (Ar e)
  rw[e,Y7 ps (acc++[p]) (by rw[Cq];exact nd),Cq]
  rfl
def gkv_put {L:List Str} (nd:L.Nodup) (γ:Str->Nat):putAll [] (L.map λx=>((Sum.inr x:Key),nV (γ x)))=L.map λx=>(Sum.inr x,nV (γ x)):=by
 rw[Y7 _ [] ?_,Dy]
 rw[Dy,Ak]
 unfold List.Nodup at nd ⊢
 rw[CO]
 exact nd.imp λhab e=>hab (DS e)
def Y8:Sp:=λvs H Q _=>∃ (v:V) (s:Sy),vs=[v]/\jU H s v/\WR s/\s.sz<=63/\∀ l us H',zD H H'->H' l=some (.lst us)->Paired (jU H') s.sub us->Q (.ref l) H'
def Ww:Sp:=λvs H Q _=>∃ (l:Addr) (ps:List (V×Sy)) (L0:List Str),vs=[.ref l]/\H l=some (.lst (ps.map Prod.fst))/\SyS H ps/\ps.length<=15/\(∀ z ∈ ps,z.2.sz<=63/\∀ x ∈ z.2.lets,x ∈ L0)/\L0.length<=60/\∀ (k:Addr) (L:List Str) (H':Hp),zD H H'->H' k=some (.lst (L.map V.str))->L.Nodup->(∀ x,x ∈ L ↔ ∃ z ∈ ps,x ∈ z.2.lets)->PyProof.Rows.sortedS L=true->Q (.ref k) H'
def Yh:Sp:=λvs H Q _=>∃ (g u:Addr) (x:Str) (o:Nat) (ls:List (Str×Nat)),vs=[.ref g,.str x,.ref u]/\ZL H g ls/\ls.length<=60/\x ∉ ls.map Prod.fst/\H u=some (.tup [nV o])/\∀ g' H',zD H H'->ZL H' g' (ls++[(x,o)])->Q (.ref g') H'
def zax:Sp:=λvs H Q _=>∃ (v:V) (T:Tb),vs=[v]/\QF H v T/\zP T/\(qc T).Nodup/\∀ e H',zD H H'->IsCd H' e T->Q (.ref e) H'
def zay:Sp:=λvs H Q _=>∃ (e l:Addr) (us:List V) (ss:List Sy) (T:Tb) (L:List Str),vs=[.ref e,.ref l]/\IsCd H e T/\H l=some (.lst us)/\Paired (jU H) ss us/\(∀ s ∈ ss,GSt T L s)/\Ls L/\∀ H',zD H H'->Q .non H'
def Y9:Nat->Sp
 | 0=>λ_ _ _ _=>False
 | j+1=>λvs H Q _=>∃ (e g:Addr) (v:V) (T:Tb) (L:List Str) (s:Sy) (ls:List (Str×Nat)),vs=[.ref e,nV T.m,v,.ref g]/\IsCd H e T/\zP T/\(qc T).Nodup/\jU H s v/\GSt T L s/\Ls L/\ZL H g ls/\(∀ p ∈ ls,p.2 < T.m)/\s.dp<=j/\∀ (l:Addr) (xs:List Nat) (H':Hp),zD H H'->H' l=some (.lst (xs.map nV))->(∀ y,y ∈ xs ↔ WQ T ls s y)->xs.length<=9->Q (.ref l) H'
structure Ask (H:Hp) (v:V) (pl:Addr) (sv:V) (T:Tb) (L:List Str) (ps:List (V×Sy)) (S:Sy):Prop where
 tb:QF H v T
 gt:zP T
 nd:(qc T).Nodup
 hp:H pl=some (.lst (ps.map Prod.fst))
 pn:ps.length<=14
 ps:∀ z ∈ ps,GSt T L z.2/\z.2.dp<=10/\z.2.sz<=63/\jU H z.2 z.1
 sv:jU H S sv
 gs:GSt T L S
 sd:S.dp<=10
 sz:S.sz<=63
 hL:Ls L
 ln:L.length<=5
def Ask.same {H H':Hp} {v:V} {pl:Addr} {sv:V} {T:Tb} {L:List Str} {ps:List (V×Sy)} {S:Sy} (a:Ask H v pl sv T L ps S) (s:zD H H'):Ask H' v pl sv T L ps S:=
 ⟨a.tb.same s,a.gt,a.nd,s _ _ a.hp,a.pn,(λz hz=>by obtain⟨h1,h2,h3,h4⟩:=a.ps z hz;exact⟨h1,h2,h3,h4.same s⟩),a.sv.same s,a.gs,a.sd,a.sz,a.hL,a.ln⟩
def Ask.lets {H:Hp} {v:V} {pl:Addr} {sv:V} {T:Tb} {L M:List Str} {ps:List (V×Sy)} {S:Sy} (a:Ask H v pl sv T L ps S) (h1:∀ x ∈ M,x ∈ L) (h2:∀ z ∈ ps,∀ x ∈ z.2.lets,x ∈ M) (h3:∀ x ∈ S.lets,x ∈ M) (hl:M.length<=5):Ask H v pl sv T M ps S:=
 ⟨a.tb,a.gt,a.nd,a.hp,a.pn,(λz hz=>by obtain⟨k1,k2,k3,k4⟩:=a.ps z hz;exact⟨k1.lets.mono (h2 z hz),k2,k3,k4⟩),a.sv,a.gs.lets.mono h3,a.sd,a.sz,λx hx=>a.hL x (h1 x hx),hl⟩
def Wx:Sp:=λvs H Q _=>∃ (v:V) (pl g:Addr) (sv:V) (T:Tb) (L:List Str) (ps:List (V×Sy)) (S:Sy) (ls:List (Str×Nat)),vs=[v,.ref pl,sv,.ref g]/\Ask H v pl sv T L ps S/\ZL H g ls/\(∀ p ∈ ls,p.2 < T.m)/\(Clo T ls (ps.map Prod.snd) S->∀ H',zD H H'->Q (.bl true) H')/\(¬ Clo T ls (ps.map Prod.snd) S->∀ H',zD H H'->Q (.bl false) H')
def gkv (L:List Str) (γ:Str->Nat):List (Key×V):=L.map λx=>(Sum.inr x,nV (γ x))
def Jn:Nat->Sp
 | 0=>λ_ _ _ _=>False
 | j+1=>λvs H Q _=>∃ (v:V) (pl la g:Addr) (sv:V) (T:Tb) (L:List Str) (ps:List (V×Sy)) (S:Sy) (ls:List (Str×Nat)),vs=[v,.ref pl,sv,.ref la,.ref g]/\Ask H v pl sv T L ps S/\L.Nodup/\H la=some (.lst (L.map V.str))/\ZL H g ls/\(∀ p ∈ ls,p.2 < T.m)/\ls.map Prod.fst=L.take ls.length/\L.length<=ls.length+j /\
  (FolL T ls (ps.map Prod.snd) S->∀ t tv H',zD H H'->H' t=some (.tup [.str "follows",tv])->Q (.ref t) H') /\
  (∀ γ,Gd T γ->Keeps γ ls->Bar T γ (ps.map Prod.snd) S->∀ t d H',zD H H'->H' t=some (.tup [.str "barred",.ref d])->H' d=some (.dK (gkv L γ))->Q (.ref t) H')
def QH:Sp:=λvs H Q _=>∃ (v:V) (pl:Addr) (sv:V) (T:Tb) (L:List Str) (ps:List (V×Sy)) (S:Sy),vs=[v,.ref pl,sv]/\Ask H v pl sv T L ps S /\
  (Fol T (ps.map Prod.snd) S->∀ t tv H',zD H H'->H' t=some (.tup [.str "follows",tv])->Q (.ref t) H') /\
  (∀ γ (M:List Str),Gd T γ->Bar T γ (ps.map Prod.snd) S->M.Nodup->(∀ x,x ∈ M ↔ (∃ z ∈ ps,x ∈ z.2.lets)\/x ∈ S.lets)->∀ t d H',zD H H'->H' t=some (.tup [.str "barred",.ref d])->H' d=some (.dK (gkv M γ))->Q (.ref t) H')
def xR (H:Hp) (d:Addr) (L:List Str) (m:Nat) (γ:Str->Nat):Prop:=∃ kvs,H d=some (.dK kvs)/\∀ x ∈ L,jz kvs (Sum.inr x)=some (nV (γ x))/\γ x < m
def xR.same {H H':Hp} {d:Addr} {L:List Str} {m:Nat} {γ:Str->Nat} (h:xR H d L m γ) (s:zD H H'):xR H' d L m γ:=by
 obtain⟨kvs,h1,h2⟩:=h
 exact⟨kvs,s _ _ h1,h2⟩
def JU:Nat->Sp
 | 0=>λ_ _ _ _=>False
 | j+1=>λvs H Q _=>∃ (v sv:V) (g:Addr) (s:Sy) (T:Tb) (L:List Str) (γ:Str->Nat),vs=[v,sv,.ref g]/\QF H v T/\zP T/\(qc T).Nodup/\jU H s sv/\GSt T L s/\xR H g L T.m γ/\s.dp<=j/\∀ H',zD H H'->Q (nV (grT T γ s)) H'
def spOfL:Nat->Sp
 | 0=>λ_ _ _ _=>False
 | j+1=>λvs H Q _=>∃ (sv:V) (s:Sy),vs=[sv]/\jU H s sv/\s.sz<=63/\s.dp<=j/\∀ l H',zD H H'->H l=none->H' l=some (.lst (s.lets.map V.str))->Q (.ref l) H'
noncomputable def barB (T:Tb) (γ:Str->Nat) (ps:List Sy) (S:Sy):Bool:=(ps.all λp=>decide (grT T γ p ∈ T.ws)) && !decide (grT T γ S ∈ T.ws)
def Yi:Sp:=λvs H Q _=>∃ (v:V) (pl:Addr) (sv:V) (g:Addr) (T:Tb) (L:List Str) (ps:List (V×Sy)) (S:Sy) (γ:Str->Nat),vs=[v,.ref pl,sv,.ref g]/\Ask H v pl sv T L ps S/\xR H g L T.m γ/\∀ H',zD H H'->Q (.bl (barB T γ (ps.map Prod.snd) S)) H'
def zaz {s:Sy} (h:s.isL=false):s.lets=s.ps.flatMap Sy.lets:=by
 cases s with
 | ltr x=>cases h
 | n0 n=>rfl
 | n1 n a=>simp[Sy.lets,Sy.ps]
 | n2 n a b=>simp[Sy.lets,Sy.ps]
def sz_part {s a:Sy} (h:a ∈ s.ps):a.sz<=s.sz:=by
 cases s with
 | ltr x=>cases h
 | n0 n=>cases h
 | n1 n b=>
  rw[AG.mp h]
  exact CM _
 | n2 n b c=>
  show a.sz<=b.sz+c.sz+1
  rcases AX.mp h with rfl | h
  ·lia
  ·rw[AG.mp h]
   lia
def zaA {α β:Type} (xs:List α) (f:α->List β) (i:Nat):((xs.take i).flatMap f).length<=(xs.flatMap f).length:=by
 have:=Cm i xs
 conv=>rhs;rw[<- this,BY,AL]
 lia
def Wy (m:Nat):Nat->List (List Nat)
 | 0=>[[]]
 | k+1=>(Wy m k).flatMap λr=>(List.range m).map λo=>r++[o]
def zaB (m:Nat) (rs:List (List Nat)):(rs.flatMap λr=>(List.range m).map λo=>r++[o]).length=rs.length * m:=by
 induction rs with
 | nil=>simp
 | cons r rs ih=>
  rw[B4,AL,ih,AB,AZ,Am,Bz]
  lia
theorem JV (m:Nat):∀ k,(Wy m k).length=m ^ k
 | 0=>rfl
 | k+1=>by
  have ih:=JV m k
  show ((Wy m k).flatMap λr=>(List.range m).map λo=>r++[o]).length=_
  rw[CK,<- ih]
  generalize Wy m k=rs
  induction rs with
  | nil=>simp
  | cons r rs ih2=>
   rw[B4,AL,ih2,AB,AZ,Am,Bz]
   lia
theorem jN {m:Nat}:∀ {k:Nat} {r:List Nat},r ∈ Wy m k ↔ Tn.Rw m k r
 | 0,r=>by
  show r ∈ [[]] ↔ _
  rw[AG]
  constructor
  ·rintro rfl
   exact⟨O,λx hx=>by cases hx⟩
  ·intro h
   exact Bp.mp h.1
 | k+1,r=>by
  show r ∈ (Wy m k).flatMap _ ↔ _
  rw[BW]
  constructor
  ·rintro⟨r',hr',h⟩
   obtain⟨o,ho,rfl⟩:=AI.mp h
   obtain⟨h1,h2⟩:=jN.mp hr'
   refine⟨by rw[AL,h1];rfl,λx hx=>?_⟩
   rcases AV.mp hx with h | h
   ·exact h2 x h
   ·rw[AG.mp h]
    exact Ab.mp ho
  ·rintro⟨h1,h2⟩
   rcases DM r with rfl | ⟨r',o,rfl⟩
   ·cases h1
   rw[Co] at *
   rw[AL] at h1
   have h1:r'.length+1=k+1:=h1
   exact⟨r',jN.mpr ⟨by lia,λx hx=>h2 x (Ao _ hx)⟩,AI.mpr ⟨o,Ab.mpr (h2 o (by simp)),O⟩⟩
def zkv (L:List Str) (r:List Nat):List (Key×V):=(L.zip r).map λp=>((Sum.inr p.1:Key),nV p.2)
def zkv_snoc {L:List Str} {r:List Nat} (h:L.length=r.length) (y:Str) (k:Nat):zkv (L++[y]) (r++[k])=zkv L r++[((Sum.inr y:Key),nV k)]:=by
 unfold zkv
 rw[List.zip_append h,AK]
 rfl
def zkv_keys {L:List Str} {r:List Nat} (h:L.length=r.length):(zkv L r).map Prod.fst=L.map Sum.inr:=by
 unfold zkv
 rw[Ak]
 have e:((Prod.fst:Key×V->Key) ∘ λp:Str×Nat=>((Sum.inr p.1:Key),nV p.2))=Sum.inr ∘ Prod.fst:=rfl
 rw[e,<- Ak,List.map_fst_zip (by lia)]
def zkv_len {L:List Str} {r:List Nat} (h:L.length=r.length):(zkv L r).length=L.length:=by
 unfold zkv
 rw[AB,Cj]
 lia
theorem wX:∀ {kvs:List (Key×V)} {k:Key},k ∉ kvs.map Prod.fst->jz kvs k=none
 | [],k,_=>rfl
 | q :: kvs,k,h=>by
  rw[Aj,AX,not_or] at h
  rw[qI (λe=>h.1 e.symm)]
  exact wX h.2
def zkv_put {L:List Str} {r:List Nat} (h:L.length=r.length) {y:Str} (hy:y ∉ L) (k:Nat):ZX (zkv L r) (Sum.inr y) (nV k)=zkv (L++[y]) (r++[k]):=by
 rw[zkv_snoc h,putK_new _ (wX (by
  rw[zkv_keys h]
  intro hm
  obtain⟨z,hz,e⟩:=AI.mp hm
  exact hy (DS e ▸ hz)))]
def GnsR (H:Hp) (gs:List (Addr×List Nat)) (L:List Str):Prop:=∀ z ∈ gs,H z.1=some (.dK (zkv L z.2))
def Ja (gs:List (Addr×List Nat)):List V:=gs.map λz=>V.ref z.1
def yN (L:List Str) (r:List Nat) (x:Str):Nat:=((L.zip r).lookup x).getD 0
theorem zval:∀ (L:List Str) (r:List Nat) (x:Str),jz (zkv L r) (Sum.inr x)=((L.zip r).lookup x).map nV
 | [],r,x=>rfl
 | y :: L,[],x=>rfl
 | y :: L,o :: r,x=>by
  show jz (((Sum.inr y:Key),nV o) :: zkv L r) _=(((y,o) :: L.zip r).lookup x).map nV
  rw[Bh]
  by_cases h:x=y
  ·subst h
   rw[Cb,qM rfl]
   rfl
  ·rw[beq_eq_false_iff_ne.mpr h,qI (λe=>h (DS e).symm)]
   exact zval L r x
theorem lk_zip:∀ {L:List Str} {r:List Nat} {x:Str},L.length=r.length->x ∈ L->∃ o ∈ r,(L.zip r).lookup x=some o
 | [],r,x,_,h=>by cases h
 | y :: L,[],x,h,_=>by cases h
 | y :: L,o :: r,x,h,hx=>by
  show ∃ o' ∈ o :: r,((y,o) :: L.zip r).lookup x=some o'
  rw[Bh]
  by_cases hy:x=y
  ·subst hy
   rw[Cb]
   exact⟨o,Af,O⟩
  ·rw[beq_eq_false_iff_ne.mpr hy]
   rcases AX.mp hx with e | hx
   ·exact absurd e hy
   obtain⟨o',ho,e⟩:=lk_zip (L:=L) (r:=r) (by simpa using h) hx
   exact⟨o',Ah _ ho,e⟩
def Yj {L:List Str} {r:List Nat} {m:Nat} (h:Tn.Rw m L.length r) (m1:1<=m) (x:Str):yN L r x < m:=by
 unfold yN
 cases e:(L.zip r).lookup x with
 | none=>exact m1
 | some o=>
  have:=Z1 e
  exact h.2 o (CH this).2
theorem QI {γ:Str->Nat}:∀ {L:List Str} {x:Str},x ∈ L->yN L (L.map γ) x=γ x
 | [],x,h=>by cases h
 | y :: L,x,h=>by
  show (((y,γ y) :: L.zip (L.map γ)).lookup x).getD 0=_
  rw[Bh]
  by_cases hy:x=y
  ·subst hy
   rw[Cb]
   rfl
  ·rw[beq_eq_false_iff_ne.mpr hy]
   rcases AX.mp h with e | h
   ·exact absurd e hy
   ·exact QI h
def yu {H:Hp} {d:Addr} {L:List Str} {r:List Nat} {m:Nat} (hd:H d=some (.dK (zkv L r))) (h:Tn.Rw m L.length r) (m1:1<=m):xR H d L m (yN L r):=⟨_,hd,λx hx=>⟨by
 obtain⟨o,_,e⟩:=lk_zip h.1.symm hx
 rw[zval,yN,e]
 rfl,Yj h m1 x⟩⟩
def Wz {T:Tb} {γ:Str->Nat} {ps:List Sy} {S:Sy}:barB T γ ps S=true ↔ Bar T γ ps S:=by
 unfold barB Bar
 rw[BR,Al,ER,decide_eq_false_iff_not]
 simp only[decide_eq_true_eq]
def hide {R:TS} {D:Xc} {P:TS->Xc->Prop} {G:Prop} (main:P R D->G) (r:P R D):G:=main r
def QJ {K:Fs} {H H':Hp} {a:Addr} {xs:List V} (h:SqL K H a xs) (s:zD H H'):SqL K H' a xs:=by
 rcases h with (h | ⟨o,h⟩) | h
 ·exact .inl (.inl (s _ _ h))
 ·exact .inl (.inr ⟨o,s _ _ h⟩)
 ·exact .inr h
def nm_inj {T:Tb} (nT:(qc T).Nodup) {i k:Nat} {d c:Cn} (h1:T.cs[i]? = some d) (h2:T.cs[k]? = some c) (e:d.nm=c.nm):i=k:=by
 have r1:(qc T)[i]? = some c.nm:=by
  unfold qc
  rw[AH,h1,<- e]
  rfl
 have r2:(qc T)[k]? = some c.nm:=by
  unfold qc
  rw[AH,h2]
  rfl
 obtain⟨l1,e1⟩:=AF.mp r1
 obtain⟨l2,e2⟩:=AF.mp r2
 have m1:=nT.idxOf_getElem i l1
 have m2:=nT.idxOf_getElem k l2
 rw[e1] at m1
 rw[e2] at m2
 lia
def yw:Str := "abcdefghijklmnopqrstuvwxyz"
def xS:yw.cps.toList=(List.range 26).map (97 + ·):=by ac_rfl
def yx {v:Nat} (h1:v < 26):atI yw.cps.toList (v:Int)=some (97+v):=qj (by rw[xS,AH,A2 h1];rfl)
def in_strs (c:Str) (cs:List Str):inV (.str c) (cs.map V.str)=decide (c ∈ cs):=by
 induction cs with
 | nil=>rfl
 | cons w cs ih=>
  unfold inV at ih ⊢
  rw[Aj,CV,ih]
  have e:eqV (.str w) (.str c)=decide (c=w):=by
   by_cases h:c=w
   ·rw[h]
    simp[eqV]
   ·rw[As h]
    simp[eqV]
    exact λz=>h z.symm
  rw[e,<- Bool.decide_or]
  exact decide_eq_decide.mpr AX.symm
def zaC (cs:List Str):(cs.map V.str).all ju=true:=by
 rw[Ci,Al]
 intro i _
 rfl
theorem sz_len:∀ ss:List (V×Sy),ss.length<=(ss.map λz=>z.2.sz).sum
 | []=>AM _
 | z :: ss=>by
  have h1:=sz_len ss
  have h2:=Sy.sz_ps z.2
  simp only[List.map_cons,List.sum_cons,List.length_cons]
  lia
def sz_mk {nm:Str} {ss:List Sy} (h:ss.length<=2):(Sy.mk nm ss).sz=(ss.map Sy.sz).sum+1:=by
 rw[<- Sy.sz_ps,Sy.ps_mk h]
def WA {α:Type} {xs:List α} {k:Nat} (h:k < xs.length):∃ x,xs[k]? = some x:=⟨_,AD h⟩
theorem pr_of {H:Hp}:∀ {ps:List (V×Sy)},(∀ z ∈ ps,jU H z.2 z.1)->Paired (jU H) (ps.map Prod.snd) (ps.map Prod.fst)
 | [],_=>.nil
 | z :: ps,h=>.cons (h z Af) (pr_of λy hy=>h y (Ah _ hy))
def Yk {xs:List V} (a b:Nat) (hb:b<=xs.length) (ha:a<=b):J9 xs (some (a:Int)) (some (b:Int))=(xs.drop a).take (b - a):=by
 unfold J9
 rw[HT.sIx_nat,HT.sIx_nat,show min a xs.length=a by lia,show min b xs.length=b by lia]
def cut_upto {xs:List V} (b:Nat) (hb:b<=xs.length):J9 xs none (some (b:Int))=xs.take b:=by
 unfold J9
 rw[HT.sIx_none,HT.sIx_nat,show min b xs.length=b by lia,De,Dq]
def cut_fr {xs:List V} (k:Nat) (hk:k<=xs.length):J9 xs (some (k:Int)) none=xs.drop k:=by
 unfold J9
 rw[HT.sIx_nat,HT.sIx_none,show min k xs.length=k by lia]
 exact B8 (by rw[CA];lia)
def six (x:Nat):∃ pl:Nat,atI [V.int 2,V.int 1,V.int 2,V.int 0,V.int 2,V.int 1] ((x:Int) % 6)=some (nV pl)/\pl<=2:=by
 have h6:x % 6 < 6:=BZ _ (by decide)
 rw[show (x:Int) % 6=((x % 6:Nat):Int) from rfl]
 generalize x % 6=i at h6
 match i,h6 with
 | 0,_=>exact⟨2,qj rfl,by decide⟩
 | 1,_=>exact⟨1,qj rfl,by decide⟩
 | 2,_=>exact⟨2,qj rfl,by decide⟩
 | 3,_=>exact⟨0,qj rfl,by decide⟩
 | 4,_=>exact⟨2,qj rfl,by decide⟩
 | 5,_=>exact⟨1,qj rfl,by decide⟩
def size3 (m:Nat) {pl:Nat} (h:pl<=2):atI [V.int 1,nV m,V.int ((m:Int) * (m:Int))] (pl:Int)=some (nV (m ^ pl)):=by
 match pl,h with
 | 0,_=>exact qj rfl
 | 1,_=>rw[C9];exact qj rfl
 | 2,_=>rw[Nat.pow_two];exact qj rfl
def zaD (xs:List Nat) (p n:Nat) (h:p+1+n<=xs.length):J9 (xs.map nV) (some ((p:Int)+1)) (some ((p:Int)+1+(n:Int)))=((xs.drop (p+1)).take n).map nV:=by
 rw[show ((p:Int)+1)=((p+1:Nat):Int) from rfl,show (((p+1:Nat):Int)+(n:Int))=((p+1+n:Nat):Int) by lia,Yk (p+1) (p+1+n) (by rw[AB];exact h) (by lia),<- DQ,<- DP,show p+1+n - (p+1)=n by lia]
def pow16 {m pl:Nat} (h:m<=4) (h2:pl<=2):m ^ pl<=16:=Aa (CY h pl) (by
 match pl,h2 with
 | 0,_=>decide
 | 1,_=>decide
 | 2,_=>decide)
def zs (k:Nat):Str:=Str.ofString "z" ++ Str.mk #[97+k]
def zs_nd:∀ k,k < 4->((List.range k).map zs).Nodup:=by ac_rfl
def xc (K:Fs):Sp:=λvs H Q _=>∃ (a:Addr) (k n:Int) (ns:List Int),vs=[.ref a,.int k,.int n]/\SqL K H a (ns.map V.int)/\ns.length<=63/\0<=k/\0<=n/\n<=60/\∀ l (xs:List Nat) H',zD H H'->H' l=some (.lst (xs.map nV))->xs.length=n.toNat->(∀ x ∈ xs,x < 1000000)->Q (.ref l) H'
def Yl:Sp:=λvs H Q _=>∃ (l:Addr) (xs:List Nat),vs=[.ref l]/\H l=some (.lst (xs.map nV))/\xs.length<=3/\∀ l' (ws:List Str) H',zD H H'->H l'=none->H' l'=some (.lst (ws.map V.str))->ws.Nodup->ws.length=xs.length->(∀ w ∈ ws,w.length<=9)->Q (.ref l') H'
def Ym (K:Fs):Sp:=λvs H Q _=>∃ (a sl:Addr) (k:Int) (ns:List Int) (zz:List Nat),vs=[.ref a,.int k,.ref sl]/\SqL K H a (ns.map V.int)/\ns.length<=63/\0<=k/\H sl=some (.lst (zz.map nV))/\0 < zz.length/\zz.length<=9/\(∀ z ∈ zz,1<=z/\z<=4)/\∀ v T H',zD H H'->QF H' v T->zP T->(qc T).Nodup->T.m ∈ zz->T.cs.length<=3->Q v H'
def Few (T:Tb) (L:List Str) (s:Sy):Prop:=GSt T L s/\s.dp<=5/\s.sz<=5
def WB:Sp:=λvs H Q _=>∃ (nl c la:Addr) (xs:List Nat) (T:Tb) (cv:List V) (L:List Str),vs=[.ref nl,.ref c,.ref la]/\H nl=some (.lst (xs.map nV))/\1<=xs.length/\xs.length<=5/\zP T/\H c=some (.tup cv)/\Cns H T.cs cv/\H la=some (.lst (L.map V.str))/\1<=L.length/\L.length<=2/\∀ v S H',zD H H'->jU H' S v->Few T L S->Q v H'
def WC:Sp:=λvs H Q _=>∃ (v:V) (T:Tb) (c:Cn),vs=[v,.str c.nm,nV c.pl]/\QF H v T/\(qc T).Nodup/\c ∈ T.cs/\∀ u,H u=some (.tup (c.cs.map nV))->Q (.ref u) H
def WD:Sp:=λvs H Q _=>∃ (la:Addr) (m:Nat) (LT:List Str),vs=[nV m,.ref la]/\1<=m/\m<=9/\H la=some (.lst (LT.map V.str))/\LT.Nodup/\LT.length<=5/\m ^ LT.length<=125/\∀ fl gs H',zD H H'->H' fl=some (.lst (Ja gs))->gs.map Prod.snd=Wy m LT.length->GnsR H' gs LT->Q (.ref fl) H'
def xf:Sp:=λvs H Q _=>∃ (l:Addr) (ps:List (V×Sy)) (L0:List Str),vs=[.ref l]/\H l=some (.lst (ps.map Prod.fst))/\ps.length<=14/\(∀ z ∈ ps,z.2.dp<=10/\z.2.sz<=63/\jU H z.2 z.1/\∀ x ∈ z.2.lets,x ∈ L0)/\L0.length<=5/\∀ k (M:List Str) H',zD H H'->H' k=some (.lst (M.map V.str))->M.Nodup->(∀ x,x ∈ M ↔ ∃ z ∈ ps,x ∈ z.2.lets)->Q (.ref k) H'
def xg:Sp:=λvs H Q _=>∃ (v:V) (pl:Addr) (sv:V) (T:Tb) (L:List Str) (ps:List (V×Sy)) (S:Sy),vs=[v,.ref pl,sv]/\Ask H v pl sv T L ps S/\T.m ^ L.length<=125/\ps.length<=13/\(Fol T (ps.map Prod.snd) S->∀ H',zD H H'->Q (.bl true) H')/\(¬ Fol T (ps.map Prod.snd) S->∀ H',zD H H'->Q (.bl false) H')
def ltr_of {s:Str} {c:Nat} (h:s.cps = #[c]) (h1:97<=c) (h2:c<=122):Ltr s:=⟨by show s.cps.size=1;rw[h];rfl,λx hx=>by
 rw[h] at hx
 have:x=c:=by simpa using hx
 rw[this]
 exact⟨h1,h2⟩⟩
def spLaw (K:Fs):Sp:=λvs H Q _=>∃ (a:Addr) (ns:List Int),vs=[.ref a]/\SqL K H a (ns.map V.int)/\ns.length<=63/\∀ H',Q (.bl true) H'
def folB_use {vs:List V} {H:Hp} {Q:VK} {E:XK} (h:∃ (v:V) (pl:Addr) (sv:V) (T:Tb) (L:List Str) (ps:List (V×Sy)) (S:Sy),vs=[v,.ref pl,sv]/\Ask H v pl sv T L ps S/\T.m ^ L.length<=125/\ps.length<=13/\∀ b H',zD H H'->(b=true ↔ Fol T (ps.map Prod.snd) S)->Q (.bl b) H'):xg vs H Q E:=by
 obtain⟨v,pl,sv,T,L,ps,S,e,ak,p1,p2,q⟩:=h
 exact⟨v,pl,sv,T,L,ps,S,e,ak,p1,p2,λf H' s=>q true H' s ⟨λ_=>f,λ_=>rfl⟩,λf H' s=>q false H' s ⟨λz=>(by cases z),λz=>absurd z f⟩⟩
def Yn {vs:List V} {H:Hp} {Q:VK} {E:XK} (h:∃ (v:V) (pl:Addr) (sv:V) (T:Tb) (L:List Str) (ps:List (V×Sy)) (S:Sy),vs=[v,.ref pl,sv]/\Ask H v pl sv T L ps S/\∀ (w:Str) t tv H',zD H H'->H' t=some (.tup [.str w,tv])->(w = "follows" ↔ Fol T (ps.map Prod.snd) S)->Q (.ref t) H'):QH vs H Q E:=by
 obtain⟨v,pl,sv,T,L,ps,S,e,ak,q⟩:=h
 exact⟨v,pl,sv,T,L,ps,S,e,ak,λf t tv H' s ht=>q _ t tv H' s ht ⟨λ_=>f,λ_=>rfl⟩,λγ M gd bar _ _ t d H' s ht _=>q _ t _ H' s ht ⟨λz=>absurd z (by ac_rfl),λf=>absurd bar (f γ gd)⟩⟩
def pq_ok (z:Nat):∃ L:List Str,J9 [V.str (Str.ofString "p"),V.str (Str.ofString "q")] none (some (1+(z:Int) % 2))=L.map V.str/\1<=L.length/\L.length<=2/\Ls L:=by
 have lp:Ltr (Str.ofString "p"):=ltr_of (c:=112) (by ac_rfl) (by decide) (by decide)
 have lq:Ltr (Str.ofString "q"):=ltr_of (c:=113) (by ac_rfl) (by decide) (by decide)
 rcases Int.emod_two_eq (z:Int) with e | e <;> rw[e]
 ·exact⟨[Str.ofString "p"],O,by decide,by decide,λx hx=>by rw[AG.mp hx];exact lp⟩
 ·refine⟨[Str.ofString "p",Str.ofString "q"],O,by decide,by decide,λx hx=>?_⟩
  rcases AX.mp hx with rfl | hx
  ·exact lp
  ·rw[AG.mp hx];exact lq
def ask_few {H:Hp} {v:V} {pl:Addr} {sv:V} {T:Tb} {L:List Str} {ps:List (V×Sy)} {S:Sy} (tb:QF H v T) (gT:zP T) (nT:(qc T).Nodup) (hp:H pl=some (.lst (ps.map Prod.fst))) (pn:ps.length<=2) (hps:∀ z ∈ ps,jU H z.2 z.1/\Few T L z.2) (iS:jU H S sv) (fS:Few T L S) (hL:Ls L) (l2:L.length<=2):Ask H v pl sv T L ps S:=
 ⟨tb,gT,nT,hp,by lia,λz hz=>by
  obtain⟨h1,h2,h3,h4⟩:=hps z hz
  exact⟨h2,by lia,by lia,h1⟩,iS,fS.1,by have:=fS.2.1;lia,by have:=fS.2.2;lia,hL,by lia⟩
def QK (T:Tb) (o:List Nat):Tb:=⟨T.m,Tn.tw T.m o T.ws,T.cs.map λc=>⟨c.nm,c.pl,Tn.tc T.m o c.pl c.cs⟩⟩
def zP.turn {T:Tb} {o:List Nat} (g:zP T) (h:Tn.Or T.m o):zP (QK T o):=by
 refine⟨g.m1,g.m9,Tn.tw_ris _ _ _,λx hx=>(Tn.tw_mem.mp hx).1,by show (T.cs.map _).length<=16;rw[AB];exact g.cl,λc hc=>?_⟩
 obtain⟨d,hd,rfl⟩:=AI.mp hc
 obtain⟨h1,h2,h3⟩:=g.cn d hd
 exact⟨h1,h2,Tn.tc_cs h h3⟩
structure Pt (m:Nat) (G:List Nat):Prop where
 ne:1<=G.length
 ris:G.Pairwise (· < ·)
 lt:∀ x ∈ G,x < m
def Pt.nd {m:Nat} {G:List Nat} (h:Pt m G):G.Nodup:=h.ris.imp λh=>AU h
def Pt.len {m:Nat} {G:List Nat} (h:Pt m G):G.length<=m:=Tn.nodup_len m G h.nd h.lt
def JW (m:Nat) (G:List Nat) (c:Cn):Bool:=(Tn.pls m G c.pl).all λp=>decide (Tn.at' c.cs p ∈ G)
def Yo (T:Tb) (G:List Nat):Bool:=T.cs.all (JW T.m G)
def pcl (m:Nat) (G:List Nat) (k:Nat) (cs:List Nat):List Nat:=(Tn.pls m G k).map λp=>G.idxOf (Tn.at' cs p)
def Qn (T:Tb) (G:List Nat):Tb:=⟨G.length,(List.range G.length).filter λj=>decide (Tn.at' G j ∈ T.ws),T.cs.map λc=>⟨c.nm,c.pl,pcl T.m G c.pl c.cs⟩⟩
def zaE {m:Nat} {G:List Nat} {c:Cn} (h:JW m G c=true) {p:Nat} (hp:p ∈ Tn.pls m G c.pl):Tn.at' c.cs p ∈ G:=Ar (Al.mp h p hp)
def zaF {T:Tb} {G:List Nat} (h:Yo T G=true) {c:Cn} (hc:c ∈ T.cs):JW T.m G c=true:=Al.mp h c hc
def zaG {T:Tb} {G:List Nat} (g:zP T) (h:Pt T.m G) (hk:Yo T G=true):zP (Qn T G):=by
 refine⟨h.ne,Aa h.len g.m9,B2 _ Bg,λx hx=>Ab.mp (Bf.mp hx).1,?_,λc hc=>?_⟩
 ·show (T.cs.map _).length<=16
  rw[AB]
  exact g.cl
 ·obtain⟨d,hd,rfl⟩:=AI.mp hc
  obtain⟨h1,h2,h3⟩:=g.cn d hd
  refine⟨h1,h2,?_,λx hx=>?_⟩
  ·show (pcl _ _ _ _).length=_
   unfold pcl
   rw[AB,Tn.pls_len]
   rfl
  ·obtain⟨p,hp,rfl⟩:=AI.mp hx
   exact BH (zaE (zaF hk hd) hp)
def zaH {m:Nat} {G:List Nat} {c:Cn} (h2:c.pl<=2):JW m G c=(Tn.rowsR G.length c.pl).all λr=>decide (Tn.at' c.cs (Tn.place m (r.map (Tn.at' G))) ∈ G):=by
 unfold JW
 rw[Tn.pls_rows h2,Ci]
 rfl
def pcl_rows {m:Nat} {G:List Nat} {k:Nat} {cs:List Nat} (h2:k<=2):pcl m G k cs=(Tn.rowsR G.length k).map λr=>G.idxOf (Tn.at' cs (Tn.place m (r.map (Tn.at' G)))):=by
 unfold pcl
 rw[Tn.pls_rows h2,Ak]
 rfl
def Yp:Sp:=λvs H Q _=>∃ (t u g:Addr) (m:Nat) (c:Cn) (G:List Nat),vs=[.ref t,nV m,.ref g]/\m<=9/\c.pl<=2/\H t=some (.tup [.str c.nm,nV c.pl,.ref u])/\H u=some (.tup (c.cs.map nV))/\c.cs.length=m ^ c.pl/\H g=some (.tup (G.map nV))/\G.length<=9/\(∀ x ∈ G,x < m)/\∀ H',zD H H'->Q (.bl (JW m G c)) H'
def Sh (T:Tb):List (Str×Nat):=T.cs.map λc=>(c.nm,c.pl)
def Jo {n k:Nat} (hk:k<=2) {r:List Nat} (hr:Tn.Rw n k r):(Tn.rowsR n k)[Tn.place n r]? = some r:=by
 obtain⟨hl,hx⟩:=hr
 match k,hk,r,hl with
 | 0,_,[],_=>rfl
 | 1,_,[a],_=>
  have ha:=hx a (by simp)
  show ((List.range n).map λx=>[x])[0 * n+a]? = some [a]
  rw[AH,A2 (by lia)]
  simp
 | 2,_,[a,b],_=>
  have ha:=hx a (by simp)
  have hb:=hx b (by simp)
  have hlt:a * n+b < n * n:=by
   have:(a+1) * n<=n * n:=BM n ha
   rw[Nat.add_mul] at this
   lia
  show ((List.range (n * n)).map λp=>[p / n,p % n])[(0 * n+a) * n+b]? = some [a,b]
  rw[Nat.zero_mul,Nat.zero_add,AH,A2 hlt]
  have e1:(a * n+b) / n=a:=by rw[B0,Ee (by lia),EX hb,EM]
  have e2:(a * n+b) % n=b:=by rw[B0,Ed,EW hb]
  simp[e1,e2]
def ZO {T U:Tb} (h:Sh T=Sh U):qc T=qc U:=by
 have e:∀ X:Tb,qc X=(Sh X).map Prod.fst:=λX=>by
  unfold qc Sh
  rw[Ak]
  rfl
 rw[e,e,h]
def len_sh {T U:Tb} (h:Sh T=Sh U):T.cs.length=U.cs.length:=by
 have:=BQ List.length h
 unfold Sh at this
 rwa [AB,AB] at this
structure Hom (U T:Tb) (F:List Nat):Prop where
 len:F.length=U.m
 lt:∀ x ∈ F,x < T.m
 sh:Sh U=Sh T
 cell:∀ (c:Cn),c ∈ U.cs->∀ r,Tn.Rw U.m c.pl r->Tn.at' F (L4.cellOf U c.nm r)=L4.cellOf T c.nm (r.map (Tn.at' F))
 wish:∀ j,j < U.m->(j ∈ U.ws ↔ Tn.at' F j ∈ T.ws)
abbrev Stp:Type:=Cn×Nat×Option Nat
def Xd (m:Nat) (c:Cn):List Stp:=(if c.pl=1 then [(c,0,none)] else [])++(if c.pl=2 then (List.range m).map (λo=>(c,0,some o))++(List.range m).map (λo=>(c,1,some o)) else [])
def xT (T:Tb):List Stp:=T.cs.flatMap (Xd T.m)
def zaI (m:Nat) (s:Stp) (x:Nat):Nat:=match s.2.2 with
 | none=>Tn.at' s.1.cs x
 | some o=>if s.2.1=0 then Tn.at' s.1.cs (x * m+o) else Tn.at' s.1.cs (o * m+x)
def fsT (T:Tb):List (Nat->Nat):=(xT T).map (zaI T.m)
def mkT (T:Tb):List Nat:=Tn.mkN T.m T.ws (fsT T)
def ZP (T:Tb):List Nat:=Tn.reps T.m (mkT T)
def wj (T:Tb):List Nat:=Tn.homes T.m (mkT T)
def mapC (m:Nat) (G F:List Nat) (c:Cn):Cn:=⟨c.nm,c.pl,(Tn.pls m G c.pl).map λp=>Tn.at' F (Tn.at' c.cs p)⟩
def mapT (T:Tb) (G F:List Nat):Tb:=⟨G.length,(List.range G.length).filter λj=>decide (Tn.at' G j ∈ T.ws),T.cs.map (mapC T.m G F)⟩
def shrT (T:Tb):Tb:=mapT T (ZP T) (wj T)
def map_sh (T:Tb) (G F:List Nat):Sh T=Sh (mapT T G F):=by
 unfold Sh mapT
 dsimp only
 rw[Ak]
 rfl
def Qo {T:Tb} (g:zP T):Tn.Fix T.m T.ws (fsT T) (mkT T):=Tn.mkN_fix _ _ g.m1
def step1 {T:Tb} {c:Cn} (hc:c ∈ T.cs) (h:c.pl=1):(λx=>Tn.at' c.cs x) ∈ fsT T:=
 AI.mpr ⟨(c,0,none),BW.mpr ⟨c,hc,Ao _ (by rw[if_pos h];exact AG.mpr rfl)⟩,rfl⟩
def step2 {T : Tb} {c : Cn} (hc : c ∈ T.cs) (h : c.pl = 2) {o : Nat} (ho : o < T.m) : (λx => Tn.at' c.cs (x * T.m + o)) ∈ fsT T /\ (λx => Tn.at' c.cs (o * T.m + x)) ∈ fsT T :=
  ⟨AI.mpr ⟨(c, 0, some o), BW.mpr ⟨c, hc, Ae _ (by rw [if_pos h]; exact Ao _ (AI.mpr ⟨o, Ab.mpr ho, rfl⟩))⟩, rfl⟩,
   AI.mpr ⟨(c, 1, some o), BW.mpr ⟨c, hc, Ae _ (by rw [if_pos h]; exact Ae _ (AI.mpr ⟨o, Ab.mpr ho, rfl⟩))⟩, rfl⟩⟩
def xU {T:Tb} (g:zP T) {c:Cn} (hc:c ∈ T.cs) {r:List Nat} (hr:Tn.Rw T.m c.pl r):Tn.at' (mkT T) (Tn.at' c.cs (Tn.place T.m (r.map (Tn.at' (mkT T)))))=Tn.at' (mkT T) (Tn.at' c.cs (Tn.place T.m r)):=by
 have fx:=Qo g
 have k2:=(g.cn c hc).2.1
 obtain⟨hl,hx⟩:=hr
 match hk:c.pl,r,hl with
 | 0,[],_=>rfl
 | 1,[a],_=>
  have ha:=hx a (by simp)
  have:=fx.step _ a (fx.mks.lt ha) ha (fx.mks.rep a ha) _ (step1 hc hk)
  simpa [Tn.place] using this
 | 2,[a,b],_=>
  have ha:=hx a (by simp)
  have hb:=hx b (by simp)
  have h1:=fx.step _ a (fx.mks.lt ha) ha (fx.mks.rep a ha) _ (step2 hc hk (fx.mks.lt hb)).1
  have h2:=fx.step _ b (fx.mks.lt hb) hb (fx.mks.rep b hb) _ (step2 hc hk ha).2
  have h3:=h1.trans h2
  simpa [Tn.place] using h3
 | k+3,_,_=>lia
def rep_ne {T:Tb} (g:zP T):1<=(ZP T).length:=by
 have h:=(Qo g).mks.mem_reps (i:=0) g.m1
 exact DE h
def homT_len (T:Tb):(wj T).length=T.m:=by
 unfold wj Tn.homes
 rw[AB,AZ]
def JX {T:Tb} (g:zP T) {i:Nat} (hi:i < T.m):Tn.at' (wj T) i < (ZP T).length:=Tn.homes_lt (Qo g).mks hi
def WE {T:Tb}:∀ x ∈ ZP T,x < T.m:=λx hx=>(Tn.reps_mem.mp hx).1
def shr_good {T:Tb} (g:zP T):zP (shrT T):=by
 refine⟨rep_ne g,Aa (Tn.reps_le _ _) g.m9,B2 _ Bg,λx hx=>Ab.mp (Bf.mp hx).1,?_,λc hc=>?_⟩
 ·show (T.cs.map _).length<=16
  rw[AB]
  exact g.cl
 ·obtain⟨d,hd,rfl⟩:=AI.mp hc
  obtain⟨a1,a2,a3⟩:=g.cn d hd
  refine⟨a1,a2,?_,λx hx=>?_⟩
  ·show ((Tn.pls T.m (ZP T) d.pl).map _).length=(ZP T).length ^ d.pl
   rw[AB,Tn.pls_len]
  ·obtain⟨p,hp,rfl⟩:=AI.mp hx
   exact JX g (a3.at_lt (Tn.pls_lt' WE d.pl p hp))
def map_cell {T:Tb} {G F:List Nat} (g:zP T) (nT:(qc T).Nodup) {c:Cn} (hc:c ∈ T.cs) {r:List Nat} (hr:Tn.Rw G.length c.pl r):L4.cellOf (mapT T G F) c.nm r=Tn.at' F (Tn.at' c.cs (Tn.place T.m (r.map (Tn.at' G)))):=by
 have nP:(qc (mapT T G F)).Nodup:=ZO (map_sh T G F) ▸ nT
 have hc':mapC T.m G F c ∈ (mapT T G F).cs:=AI.mpr ⟨c,hc,rfl⟩
 have f2:Wt (mapT T G F) c.nm=some (mapC T.m G F c):=qR nP hc'
 have k2:=(g.cn c hc).2.1
 unfold L4.cellOf
 rw[f2]
 show Tn.at' ((Tn.pls T.m G c.pl).map λp=>Tn.at' F (Tn.at' c.cs p)) (Tn.place G.length r)=_
 rw[Tn.pls_rows k2,Ak]
 show ((Tn.rowsR G.length c.pl).map _).getD (Tn.place G.length r) 0=_
 rw[AQ,AH,Jo k2 hr]
 rfl
def shr_hom {T:Tb} (g:zP T) (nT:(qc T).Nodup):Hom T (shrT T) (wj T):=by
 have fx:=Qo g
 refine⟨homT_len T,λx hx=>?_,map_sh T _ _,λc hc r hr=>?_,λj hj=>?_⟩
 ·obtain⟨i,hi,rfl⟩:=AI.mp hx
  have hi:=Ab.mp hi
  have:=JX g hi
  unfold wj at this
  rw[Tn.homes_at hi] at this
  exact this
 ·have hF:Tn.Rw (ZP T).length c.pl (r.map (Tn.at' (wj T))):=⟨by rw[AB];exact hr.1,λx hx=>by
   obtain⟨y,hy,rfl⟩:=AI.mp hx
   exact JX g (hr.2 y hy)⟩
  show _=L4.cellOf (mapT T (ZP T) (wj T)) c.nm _
  rw[map_cell g nT hc hF,Ak]
  have e1:r.map (Tn.at' (ZP T) ∘ Tn.at' (wj T))=r.map (Tn.at' (mkT T)):=Bk λx hx=>Tn.reps_home fx.mks (hr.2 x hx)
  rw[e1]
  have e2:L4.cellOf T c.nm r=Tn.at' c.cs (Tn.place T.m r):=by
   unfold L4.cellOf
   rw[qR nT hc]
  rw[e2]
  have k3:=(g.cn c hc).2.2
  have hrM:Tn.Rw T.m c.pl (r.map (Tn.at' (mkT T))):=⟨by rw[AB];exact hr.1,λx hx=>by
   obtain⟨y,hy,rfl⟩:=AI.mp hx
   exact fx.mks.lt (hr.2 y hy)⟩
  exact ((Tn.homes_eq fx.mks (k3.at_lt (Tn.place_lt _ _ hr)) (k3.at_lt (Tn.place_lt _ _ hrM))).mpr (xU g hc hr).symm)
 ·have h1:Tn.at' (wj T) j ∈ (shrT T).ws ↔ Tn.at' (ZP T) (Tn.at' (wj T) j) ∈ T.ws:=by
   show _ ∈ (List.range (ZP T).length).filter _ ↔ _
   rw[Bf,Ab,decide_eq_true_iff]
   exact⟨λh=>h.2,λh=>⟨JX g hj,h⟩⟩
  have e:Tn.at' (ZP T) (Tn.at' (wj T) j)=Tn.at' (mkT T) j:=Tn.reps_home fx.mks hj
  rw[h1,e]
  exact (fx.wish _ j (fx.mks.lt hj) hj (fx.mks.rep j hj)).symm
def shr_onto {T:Tb} (g:zP T):∀ y,y < (shrT T).m->∃ x,x < T.m/\Tn.at' (wj T) x=y:=λy hy=>⟨_,Tn.homes_reps (Qo g).mks hy⟩
def step_lt {T:Tb} (g:zP T) {s:Stp} (hs:s ∈ xT T) {x:Nat} (hx:x < T.m):zaI T.m s x < T.m:=by
 obtain⟨c,hc,h⟩:=BW.mp hs
 obtain⟨_,_,h3⟩:=g.cn c hc
 have two:∀ a b,a < T.m->b < T.m->c.pl=2->Tn.at' c.cs (a * T.m+b) < T.m:=λa b ha hb e=>by
  refine h3.at_lt ?_
  rw[e]
  have:(a+1) * T.m<=T.m * T.m:=BM _ ha
  rw[Nat.add_mul] at this
  show _ < T.m ^ 2
  rw[CK,C9]
  lia
 rcases AV.mp h with h | h
 ·split at h
  ·rename_i e
   rw[AG.mp h]
   show Tn.at' c.cs x < T.m
   refine h3.at_lt ?_
   rw[e,C9]
   exact hx
  ·cases h
 ·split at h
  ·rename_i e
   rcases AV.mp h with h | h
   ·obtain⟨o,ho,rfl⟩:=AI.mp h
    show (if 0=0 then Tn.at' c.cs (x * T.m+o) else Tn.at' c.cs (o * T.m+x)) < T.m
    rw[if_pos rfl]
    exact two x o hx (Ab.mp ho) e
   ·obtain⟨o,ho,rfl⟩:=AI.mp h
    show (if 1=0 then Tn.at' c.cs (x * T.m+o) else Tn.at' c.cs (o * T.m+x)) < T.m
    rw[if_neg (by decide)]
    exact two o x (Ab.mp ho) hx e
  ·cases h
def zaJ {n k:Nat} (h:n ≠ k):¬ nV n=V.int (k:Int):=λe=>by
 have:((n:Nat):Int)=(k:Int):=V.int.inj e
 lia
def nVV_ne {n k:Nat} (h:n ≠ k):¬ nV n=nV k:=zaJ h
def zaK (xs ys:List Nat):Wd (xs.map nV) (ys.map nV)=decide (xs=ys):=by
 unfold Wd
 rw[AB,AB]
 induction xs generalizing ys with
 | nil=>cases ys <;> simp
 | cons x xs ih=>
  cases ys with
  | nil=>simp
  | cons y ys=>
   have:=ih ys
   rw[Aj,Aj,Cd,CW,Am,Am]
   have e1:eqV (nV x) (nV y)=decide (x=y):=by
    show (((x:Int)) == (y:Int))=_
    rw[BU,beq_iff_eq,decide_eq_true_iff]
    lia
   have e2:(xs.length+1 == ys.length+1)=(xs.length == ys.length):=by
    rw[BU,beq_iff_eq,beq_iff_eq]
    lia
   show ((eqV (nV x) (nV y) && _) && _)=_
   rw[e1,e2,Bool.and_assoc,this,BU]
   simp
def wY {α:Type} [DecidableEq α] {xs:List α} {x y:α} {m:Nat} (h:m < xs.idxOf x) (hm:xs[m]? = some y):y ≠ x:=λe=>by
 subst e
 have:=Tn.idx_le hm
 lia
def ixo {α:Type} [DecidableEq α] (xs:List α) (x:α):Nat:=xs.idxOf x
def nO:Option Nat->V
 | none=>.non
 | some o=>nV o
def stV (s:Stp):List V:=[.str s.1.nm,nV s.2.1,nO s.2.2]
def IsSt (H:Hp) (s:Stp) (v:V):Prop:=∃ t,v=.ref t/\H t=some (.tup (stV s))
abbrev Sts (H:Hp):List Stp->List V->Prop:=Paired (IsSt H)
def IsSt.tk {H H':Hp} (k:Tk H H') {s:Stp} {v:V} (h:IsSt H s v):IsSt H' s v:=by
 obtain⟨t,e,h⟩:=h
 exact⟨t,e,k _ _ h⟩
def Sts.tk {H H':Hp} (k:Tk H H') {ss:List Stp} {vs:List V} (h:Sts H ss vs):Sts H' ss vs:=Paired.imp' (λ_ _ z=>z.tk k) h
def Sts.app {H:Hp} {as bs:List Stp} {xs ys:List V} (h:Sts H as xs) (k:Sts H bs ys):Sts H (as++bs) (xs++ys):=by
 induction h with
 | nil=>exact k
 | cons r _ ih=>exact .cons r ih
def stpC_len {m:Nat} (h:m<=9) (c:Cn):(Xd m c).length<=18:=by
 unfold Xd
 rw[AL]
 by_cases e:c.pl=1
 ·rw[if_pos e,if_neg (by lia)]
  show 1+0<=18
  decide
 ·rw[if_neg e]
  by_cases e2:c.pl=2
  ·rw[if_pos e2,AL,AB,AB,AZ]
   show 0+(m+m)<=18
   lia
  ·rw[if_neg e2]
   show 0+0<=18
   decide
theorem WF {m:Nat} (h:m<=9):∀ cs:List Cn,(cs.flatMap (Xd m)).length<=18 * cs.length
 | []=>AM _
 | c :: cs=>by
  have h1:=WF h cs
  have h2:=stpC_len h c
  rw[B4,AL,Am]
  lia
def zaL {T:Tb} {s:Stp} (h:s ∈ xT T):∃ c ∈ T.cs,(c.pl=1/\s=(c,0,none))\/(c.pl=2/\∃ o,o < T.m/\(s=(c,0,some o)\/s=(c,1,some o))):=by
 obtain⟨c,hc,h⟩:=BW.mp h
 refine⟨c,hc,?_⟩
 rcases AV.mp h with h | h
 ·split at h
  ·exact .inl ⟨by assumption,AG.mp h⟩
  ·cases h
 ·split at h
  ·refine .inr ⟨by assumption,?_⟩
   rcases AV.mp h with h | h
   ·obtain⟨o,ho,e⟩:=AI.mp h
    exact⟨o,Ab.mp ho,.inl e.symm⟩
   ·obtain⟨o,ho,e⟩:=AI.mp h
    exact⟨o,Ab.mp ho,.inr e.symm⟩
  ·cases h
def Tps (H:Hp):List (List Nat)->List V->Prop:=Paired λns v=>∃ a,v=.ref a/\H a=some (.tup (ns.map nV))
def Tps.tk {H H':Hp} (k:Tk H H') {ns:List (List Nat)} {vs:List V} (h:Tps H ns vs):Tps H' ns vs:=Paired.imp' (λ_ _ z=>by obtain⟨a,e,h⟩:=z;exact⟨a,e,k _ _ h⟩) h
def Tps.snoc {H:Hp} {ns:List (List Nat)} {vs:List V} {n:List Nat} {a:Addr} (h:Tps H ns vs) (k:H a=some (.tup (n.map nV))):Tps H (ns++[n]) (vs++[.ref a]):=by
 unfold Tps at h ⊢
 induction h with
 | nil=>exact .cons ⟨a,O,k⟩ .nil
 | cons r _ ih=>exact .cons r ih
def Lld (D:Addr) (H:Hp):List (List Nat)->List V->Prop:=Paired λns v=>∃ a,v=.ref a/\a ≠ D/\H a=some (.lst (ns.map nV))
def Lld.same {D:Addr} {H H':Hp} (s:zD H H') {ns:List (List Nat)} {vs:List V} (h:Lld D H ns vs):Lld D H' ns vs:=Paired.imp' (λ_ _ z=>by obtain⟨a,e,n,h⟩:=z;exact⟨a,e,n,s _ _ h⟩) h
def Lld.put {D:Addr} {H:Hp} {o:HO} {ns:List (List Nat)} {vs:List V} (h:Lld D H ns vs):Lld D (upd H D o) ns vs:=Paired.imp' (λ_ _ z=>by obtain⟨a,e,n,h⟩:=z;exact⟨a,e,n,by rw[zK n];exact h⟩) h
def Lld.snoc {D:Addr} {H:Hp} {ns:List (List Nat)} {vs:List V} {n:List Nat} {a:Addr} (h:Lld D H ns vs) (ne:a ≠ D) (k:H a=some (.lst (n.map nV))):Lld D H (ns++[n]) (vs++[.ref a]):=by
 unfold Lld at h ⊢
 induction h with
 | nil=>exact .cons ⟨a,O,ne,k⟩ .nil
 | cons r _ ih=>exact .cons r ih
def Lld.lls {D:Addr} {H:Hp} {ns:List (List Nat)} {vs:List V} (h:Lld D H ns vs):Lls H (ns.map (List.map nV)) vs:=by
 unfold Lld at h
 unfold Lls
 induction h with
 | nil=>exact .nil
 | cons r _ ih=>
  obtain⟨a,e,_,k⟩:=r
  exact .cons ⟨a,e,k⟩ ih
def Lld.at {D:Addr} {H:Hp} {ns:List (List Nat)} {vs:List V} (h:Lld D H ns vs) {i:Nat} {n:List Nat} (e:ns[i]? = some n):∃ a,vs[i]? = some (.ref a)/\H a=some (.lst (n.map nV)):=by
 obtain⟨v,e1,a,rfl,_,k⟩:=ZZ h e
 exact⟨a,e1,k⟩
def Lld.len {D:Addr} {H:Hp} {ns:List (List Nat)} {vs:List V} (h:Lld D H ns vs):vs.length=ns.length:=(A3 h).symm
def Yq:Sp:=λvs H Q _=>∃ (v:V) (T:Tb),vs=[v]/\QF H v T/\zP T/\∀ l xs H',H l=none->zD H H'->H' l=some (.lst xs)->Sts H' (xT T) xs->Q (.ref l) H'
def JY:Sp:=λvs H Q _=>∃ (e t:Addr) (T:Tb) (s:Stp) (x:Nat),vs=[.ref e,nV T.m,.ref t,nV x]/\IsCd H e T/\zP T/\s ∈ xT T/\H t=some (.tup (stV s))/\x < T.m/\∀ H',zD H H'->Q (nV (zaI T.m s x)) H'
def WG:Sp:=λvs H Q _=>∃ (l:Addr) (bs:List Bool),vs=[.ref l]/\H l=some (.lst (bs.map V.bl))/\bs.length<=9/\∀ k H',zD H H'->H' k=some (.lst ((Tn.fp bs).map nV))->Q (.ref k) H'
def WH:Sp:=λvs H Q _=>∃ (l D:Addr) (xs:List V) (nss:List (List Nat)) (n:Nat),vs=[.ref l]/\H l=some (.lst xs)/\Lld D H nss xs/\(∀ ns ∈ nss,ns.length=n)/\nss.length<=9/\∀ k H',zD H H'->H' k=some (.lst ((Tn.fp nss).map nV))->Q (.ref k) H'
def WI:Sp:=λvs H Q _=>∃ (v:V) (l:Addr) (T:Tb) (ms:List Nat),vs=[v,.ref l]/\QF H v T/\zP T/\(qc T).Nodup/\H l=some (.lst (ms.map nV))/\ms.length=T.m/\∀ k H',zD H H'->H' k=some (.lst ((Tn.refn T.m (fsT T) ms).map nV))->Q (.ref k) H'
def zaM:Sp:=λvs H Q _=>∃ (l:Addr) (ms:List Nat) (r:Nat),vs=[.ref l,nV r]/\H l=some (.lst (ms.map nV))/\ms.length<=9/\∀ t H',zD H H'->H' t=some (.tup ((Tn.partF ms.length ms r).map nV))->Q (.ref t) H'
def ptsT (T:Tb):List (List Nat):=(ZP T).map (Tn.partF T.m (mkT T))
def Yr:Sp:=λvs H Q _=>∃ (v:V) (T:Tb),vs=[v]/\QF H v T/\zP T/\(qc T).Nodup/\∀ t xs H',zD H H'->H' t=some (.tup xs)->Tps H' (ptsT T) xs->Q (.ref t) H'
def ZQ:Sp:=λvs H Q _=>∃ (gs:Addr) (m k:Nat) (G:List Nat),vs=[nV m,.ref gs,nV k]/\m<=9/\k<=2/\Sq2 H gs (G.map nV)/\G.length<=9/\∀ l H',zD H H'->H' l=some (.lst ((Tn.pls m G k).map nV))->Q (.ref l) H'
theorem yy {v:V} {y:Nat}:∀ (P:List Nat) (acc:List (Key×V)),jz (putAll acc (P.map λ(x:Nat)=>((Sum.inl (x:Int):Key),v))) (Sum.inl (y:Int))=if y ∈ P then some v else jz acc (Sum.inl (y:Int))
 | [],acc=>by
  rw[if_neg (by simp)]
  rfl
 | x :: P,acc=>by
  show jz (putAll (ZX acc (Sum.inl (x:Int)) v) (P.map λ(x:Nat)=>((Sum.inl (x:Int):Key),v))) (Sum.inl (y:Int))=_
  rw[yy P,Jj]
  by_cases h:y ∈ P
  ·rw[if_pos h,if_pos (Ah _ h)]
  ·rw[if_neg h]
   by_cases e:y=x
   ·rw[if_pos (by rw[e]),if_pos (by rw[e];exact Af)]
   ·rw[if_neg (λz=>e (by have:=Sum.inl.inj z;lia)),if_neg (λz=>by
     rcases AX.mp z with z | z
     ·exact e z
     ·exact h z)]
def WJ:Sp:=λvs H Q _=>∃ (v:V) (T:Tb),vs=[v]/\QF H v T/\zP T/\(qc T).Nodup/\∀ u H',zD H H'->QF H' u (shrT T)->Q u H'
def shV (s:Str×Nat):List V:=[.str s.1,nV s.2]
theorem yz:∀ (a b:List (Str×Nat)),xt (a.map shV) (b.map shV)=true->a=b
 | [],[],_=>rfl
 | [],_ :: _,h=>by simp[xt] at h
 | _ :: _,[],h=>by simp[xt] at h
 | x :: a,y :: b,h=>by
  unfold xt at h
  simp only[List.map_cons,List.zip_cons_cons,List.all_cons,List.length_cons,Bool.and_eq_true] at h
  obtain⟨⟨h1,h2⟩,h3⟩:=h
  have h4:xt (a.map shV) (b.map shV)=true:=by
   unfold xt
   rw[BR]
   exact⟨h2,by simpa using h3⟩
  have e:=yz a b h4
  have h5:x=y:=by
   obtain⟨x1,x2⟩:=x
   obtain⟨y1,y2⟩:=y
   unfold Wd shV at h1
   simp[eqV] at h1
   obtain⟨e1,e2⟩:=h1
   rw[e1]
   congr 1
   lia
  rw[h5,e]
def sh_flat (s:Str×Nat):(shV s).length=2/\(shV s).all ju=true:=⟨rfl,rfl⟩
def zaN (l:List (Str×Nat)):∀ a ∈ l.map shV,a.length=2/\a.all ju=true:=λa ha=>by
 obtain⟨s,_,rfl⟩:=AI.mp ha
 exact sh_flat s
def zaO (a b:List (Str×Nat)):xt (a.map shV) (b.map shV)=decide (a=b):=by
 by_cases h:a=b
 ·rw[An h,h]
  unfold xt
  rw[BR]
  refine⟨?_,by simp⟩
  rw[Al]
  intro p hp
  obtain⟨i,hi⟩:=Cv hp
  rw[BJ] at hi
  have e:p.1=p.2:=AR (hi.1.symm.trans hi.2)
  rw[<- e]
  exact ya (zaN b _ (AJ hi.1)).2
 ·rw[As h]
  cases e:xt (a.map shV) (b.map shV) with
  | false=>rfl
  | true=>exact absurd (yz a b e) h
def qo (A B:Tb):Tb:=⟨A.m * B.m,Tn.pw (A.m * B.m) B.m A.ws B.ws,(A.cs.zip B.cs).map λz=>⟨z.1.nm,z.1.pl,Tn.pc (A.m * B.m) A.m B.m z.1.pl z.1.cs z.2.cs⟩⟩
def dueT (A B:Tb):Tb:=⟨A.m * B.m,Tn.dw B.m A.ws B.ws,(A.cs.zip B.cs).map λz=>⟨z.1.nm,z.1.pl,Tn.dc (A.m * B.m) A.m B.m z.1.pl z.1.cs z.2.cs⟩⟩
def pair_due {A B:Tb} (gA:zP A) (gB:zP B):qo A B=dueT A B:=by
 have e1:Tn.pw (A.m * B.m) B.m A.ws B.ws=Tn.dw B.m A.ws B.ws:=Tn.pw_dw gA.ris gA.wlt gB.ris gB.wlt
 have e2:((A.cs.zip B.cs).map λz=>(⟨z.1.nm,z.1.pl,Tn.pc (A.m * B.m) A.m B.m z.1.pl z.1.cs z.2.cs⟩:Cn))=(A.cs.zip B.cs).map λz=>⟨z.1.nm,z.1.pl,Tn.dc (A.m * B.m) A.m B.m z.1.pl z.1.cs z.2.cs⟩:=by
  refine Bk λz hz=>?_
  rw[Tn.pc_dc (gA.cn _ (CH hz).1).2.1]
 unfold qo dueT
 rw[e1,e2]
def sh_zip {A B:Tb} (hS:Sh A=Sh B) {i:Nat} {a b:Cn} (ha:A.cs[i]? = some a) (hb:B.cs[i]? = some b):a.nm=b.nm/\a.pl=b.pl:=by
 have h1:(Sh A)[i]? = some (a.nm,a.pl):=by
  unfold Sh
  rw[AH,ha]
  rfl
 have h2:(Sh B)[i]? = some (b.nm,b.pl):=by
  unfold Sh
  rw[AH,hb]
  rfl
 rw[hS,h2] at h1
 have:=AR h1
 exact⟨(BQ Prod.fst this).symm,(BQ Prod.snd this).symm⟩
def WK:Sp:=λvs H Q _=>∃ (v:V) (T:Tb),vs=[v]/\QF H v T/\zP T/\∀ l xs H',zD H H'->H' l=some (.lst xs)->yM H' ((Sh T).map shV) xs->Q (.ref l) H'
def spAt:Sp:=λvs H Q _=>∃ (t u g:Addr) (m:Nat) (c:Cn) (G:List Nat),vs=[.ref t,nV m,.ref g]/\m<=9/\c.pl<=2/\H t=some (.tup [.str c.nm,nV c.pl,.ref u])/\H u=some (.tup (c.cs.map nV))/\c.cs.length=m ^ c.pl/\H g=some (.lst (G.map nV))/\G.length<=9/\(∀ x ∈ G,x < m)/\∀ l H',zD H H'->H' l=some (.lst (((Tn.pls m G c.pl).map (Tn.at' c.cs)).map nV))->Q (.ref l) H'
def dc_at {n a b k:Nat} (hk:k<=2) {cs ds r:List Nat} (hr:Tn.Rw n k r):Tn.at' (Tn.dc n a b k cs ds) (Tn.place n r)=Tn.at' cs (Tn.place a (r.map (· / b))) * b+Tn.at' ds (Tn.place b (r.map (· % b))):=by
 unfold Tn.at' Tn.dc
 rw[AQ,AH,Jo hk hr]
 rfl
def zaP {A B:Tb} (h:Sh A=Sh B):Sh A=Sh (qo A B):=by
 unfold Sh qo
 dsimp only
 rw[Ak]
 refine CP λi=>?_
 rw[AH,AH]
 by_cases hi:i < A.cs.length
 ·have hj:i < B.cs.length:=by rw[<- len_sh h];exact hi
  rw[AD hi,AD (by rw[Cj];lia),List.getElem_zip]
  rfl
 ·rw[BB (by lia),BB (by rw[Cj];lia)]
  rfl
def zaQ {A B:Tb} (gA:zP A) (gB:zP B) (nA:(qc A).Nodup) (h:Sh A=Sh B) {c:Cn} (hc:c ∈ A.cs) {r:List Nat} (hr:Tn.Rw (A.m * B.m) c.pl r) :
  L4.cellOf (qo A B) c.nm r=L4.cellOf A c.nm (r.map (· / B.m)) * B.m+L4.cellOf B c.nm (r.map (· % B.m)):=by
 obtain⟨i,hi⟩:=BN.mp hc
 have hil:=(AF.mp hi).1
 have hjl:i < B.cs.length:=by rw[<- len_sh h];exact hil
 have hj:B.cs[i]? = some B.cs[i]:=AD hjl
 generalize B.cs[i]=d at hj
 have hd:=AJ hj
 have esh:(c.nm,c.pl)=(d.nm,d.pl):=by
  have h1:(Sh A)[i]? = some (c.nm,c.pl):=by unfold Sh;rw[List.getElem?_map,hi];rfl
  have h2:(Sh B)[i]? = some (d.nm,d.pl):=by unfold Sh;rw[List.getElem?_map,hj];rfl
  rw[h,h2] at h1
  exact (AR h1).symm
 have en:d.nm=c.nm:=(BQ Prod.fst esh).symm
 have hP:(⟨c.nm,c.pl,Tn.pc (A.m * B.m) A.m B.m c.pl c.cs d.cs⟩:Cn) ∈ (qo A B).cs:=by
  refine AI.mpr ⟨(c,d),?_,O⟩
  refine BN.mpr ⟨i,?_⟩
  rw[BJ]
  exact⟨hi,hj⟩
 have nB:(qc B).Nodup:=ZO h ▸ nA
 have nP:(qc (qo A B)).Nodup:=ZO (zaP h) ▸ nA
 have f1:=qR nA hc
 have f2:=qR nB hd
 have f3:=qR nP hP
 rw[en] at f2
 unfold L4.cellOf
 rw[f1,f2]
 have f3':Wt (qo A B) c.nm=_:=f3
 rw[f3']
 show Tn.at' (Tn.pc _ _ _ _ _ _) (Tn.place (A.m * B.m) r)=_
 have k2:=(gA.cn c hc).2.1
 rw[Tn.pc_dc k2,dc_at k2 hr]
def zaR {A B:Tb} (gA:zP A) (gB:zP B) (h:Sh A=Sh B) (h9:A.m * B.m<=9):zP (qo A B):=by
 have b0:0 < B.m:=gB.m1
 rw[pair_due gA gB]
 refine⟨Nat.mul_pos gA.m1 gB.m1,h9,Tn.dw_ris gB.wlt gB.ris gA.ris,λx hx=>?_,?_,λc hc=>?_⟩
 ·have:=(Tn.dw_mem gB.wlt).mp hx
  have h1:=gA.wlt _ this.1
  show x < A.m * B.m
  exact (Ck b0).mp h1
 ·show ((A.cs.zip B.cs).map _).length<=16
  rw[AB,Cj]
  have:=gA.cl
  lia
 ·obtain⟨z,hz,rfl⟩:=AI.mp hc
  obtain⟨h1,h2⟩:=CH hz
  obtain⟨a1,a2,a3⟩:=gA.cn _ h1
  obtain⟨b1,b2,b3⟩:=gB.cn _ h2
  obtain⟨i,hi⟩:=BN.mp hz
  rw[BJ] at hi
  have e:z.1.pl=z.2.pl:=by
   have h3:(Sh A)[i]? = some (z.1.nm,z.1.pl):=by unfold Sh;rw[List.getElem?_map,hi.1];rfl
   have h4:(Sh B)[i]? = some (z.2.nm,z.2.pl):=by unfold Sh;rw[List.getElem?_map,hi.2];rfl
   rw[h,h4] at h3
   exact (BQ Prod.snd (AR h3)).symm
  rw[<- e] at b3
  exact⟨a1,a2,Tn.dc_cs a2 b0 a3 b3⟩
def WL:Sp:=λvs H Q _=>∃ (v:V) (nw:Addr) (T:Tb) (o:List Nat),vs=[v,.ref nw]/\QF H v T/\zP T/\Tn.Or T.m o/\H nw=some (.tup (o.map nV))/\∀ u H',zD H H'->QF H' u (QK T o)->Q u H'
def zaS (T:Tb) (G:List Nat):Sh (Qn T G)=Sh T:=by
 unfold Sh Qn
 dsimp only
 rw[Ak]
 rfl
def zaT (T:Tb) (o:List Nat):Sh T=Sh (QK T o):=by
 unfold Sh QK
 dsimp only
 rw[Ak]
 rfl
def at_idx {G:List Nat} {x:Nat} (h:x ∈ G):Tn.at' G (G.idxOf x)=x:=by
 have hl:=BH h
 unfold Tn.at'
 rw[AQ,AD hl,Cf]
 rfl
def part_hom {T:Tb} {G:List Nat} (g:zP T) (nT:(qc T).Nodup) (hG:Pt T.m G) (hk:Yo T G=true):Hom (Qn T G) T G:=by
 have nP:(qc (Qn T G)).Nodup:=ZO (zaS T G) ▸ nT
 refine⟨O,hG.lt,zaS T G,λc' hc' r hr=>?_,λj hj=>?_⟩
 ·obtain⟨c,hc,rfl⟩:=AI.mp hc'
  have f1:=qR nT hc
  have f2:Wt (Qn T G) c.nm=some ⟨c.nm,c.pl,pcl T.m G c.pl c.cs⟩:=qR nP hc'
  unfold L4.cellOf
  show Tn.at' G (match Wt (Qn T G) c.nm with | some c=>Tn.at' c.cs (Tn.place (Qn T G).m r) | none=>0)=match Wt T c.nm with | some c=>Tn.at' c.cs (Tn.place T.m (r.map (Tn.at' G))) | none=>0
  rw[f1,f2]
  show Tn.at' G (Tn.at' (pcl T.m G c.pl c.cs) (Tn.place G.length r))=Tn.at' c.cs (Tn.place T.m (r.map (Tn.at' G)))
  have k2:=(g.cn c hc).2.1
  have hr':Tn.Rw G.length c.pl r:=hr
  have e:Tn.at' (pcl T.m G c.pl c.cs) (Tn.place G.length r)=G.idxOf (Tn.at' c.cs (Tn.place T.m (r.map (Tn.at' G)))):=by
   rw[pcl_rows k2]
   unfold Tn.at'
   rw[AQ,AH,Jo k2 hr']
   rfl
  rw[e]
  have hin:Tn.at' c.cs (Tn.place T.m (r.map (Tn.at' G))) ∈ G:=by
   have:=zaF hk hc
   rw[zaH k2,Al] at this
   exact Ar (this r (AJ (Jo k2 hr')))
  exact at_idx hin
 ·show j ∈ (List.range G.length).filter _ ↔ _
  rw[Bf,Ab]
  have hj':j < G.length:=hj
  simp[hj']
def turn_hom {T:Tb} {o:List Nat} (g:zP T) (nT:(qc T).Nodup) (ho:Tn.Or T.m o):Hom T (QK T o) o:=by
 have nP:(qc (QK T o)).Nodup:=ZO (zaT T o) ▸ nT
 refine⟨ho.len,ho.lt,zaT T o,λc hc r hr=>?_,λj hj=>?_⟩
 ·have f1:=qR nT hc
  have hc':(⟨c.nm,c.pl,Tn.tc T.m o c.pl c.cs⟩:Cn) ∈ (QK T o).cs:=AI.mpr ⟨c,hc,rfl⟩
  have f2:Wt (QK T o) c.nm=some ⟨c.nm,c.pl,Tn.tc T.m o c.pl c.cs⟩:=qR nP hc'
  unfold L4.cellOf
  rw[f1,f2]
  exact (Tn.tc_row ho hr).symm
 ·show _ ↔ _ ∈ Tn.tw T.m o T.ws
  rw[Tn.tw_mem]
  constructor
  ·intro h
   exact⟨ho.at_lt hj,by rw[ho.inv_r hj];exact h⟩
  ·intro h
   have:=h.2
   rwa [ho.inv_r hj] at this
def zaU (m:Nat) (G:List Nat) (f:Nat->Nat) (c:Cn):Cn:=⟨c.nm,c.pl,(Tn.pls m G c.pl).map λp=>f (Tn.at' c.cs p)⟩
def mapF (T:Tb) (G:List Nat) (f:Nat->Nat):Tb:=⟨G.length,(List.range G.length).filter λj=>decide (Tn.at' G j ∈ T.ws),T.cs.map (zaU T.m G f)⟩
def map_turn (T:Tb) (o:List Nat):mapF T (Tn.inv T.m o) (Tn.at' o)=QK T o:=by
 unfold mapF
 rw[Tn.inv_len]
 rfl
def zaV {T:Tb} {G:List Nat} (g:zP T) (h:∀ x ∈ G,x < T.m) {c:Cn} (hc:c ∈ T.cs) {p:Nat} (hp:p ∈ Tn.pls T.m G c.pl):Tn.at' c.cs p < T.m:=(g.cn c hc).2.2.at_lt (Tn.pls_lt' h c.pl p hp)
def News (H:Hp) (a:Addr) (f:Nat->Nat) (x:Nat):Prop:=(∃ kvs:List (Key×V),H a=some (.dK kvs)/\jz kvs (Sum.inl (x:Int))=some (nV (f x)))\/∃ o:List Nat,H a=some (.tup (o.map nV))/\x < o.length/\Tn.at' o x=f x
def ZR:Sp:=λvs H Q _=>∃ (v:V) (ol nw:Addr) (T:Tb) (G:List Nat) (f:Nat->Nat),vs=[v,.ref ol,.ref nw]/\QF H v T/\zP T/\Sq2 H ol (G.map nV)/\G.length<=9/\(∀ x ∈ G,x < T.m)/\(∀ c ∈ T.cs,∀ p ∈ Tn.pls T.m G c.pl,News H nw f (Tn.at' c.cs p))/\∀ u H',zD H H'->QF H' u (mapF T G f)->Q u H'
def Ys:Sp:=λvs H Q _=>∃ (v u:V) (A B:Tb),vs=[v,u]/\QF H v A/\QF H u B/\zP A/\zP B/\Sh A=Sh B/\A.m * B.m<=9/\∀ f H',zD H H'->QF H' f (qo A B)->Q f H'
def Yt:Sp:=λvs H Q _=>∃ (v:V) (g:Addr) (T:Tb) (G:List Nat),vs=[v,.ref g]/\QF H v T/\zP T/\Pt T.m G/\Yo T G=true/\H g=some (.tup (G.map nV))/\∀ u H',zD H H'->QF H' u (Qn T G)->Q u H'
def sq_lt {m x o:Nat} (hx:x < m) (ho:o < m):x * m+o < m ^ 2:=by
 rw[Nat.pow_two]
 have:=BM m (show x+1<=m from hx)
 rw[Bz] at this
 lia
def at_sq {m x o:Nat} {cs:List Nat} (h:cs.length=m ^ 2) (hx:x < m) (ho:o < m):atI (cs.map nV) ((x:Int) * (m:Int)+(o:Int))=some (nV (Tn.at' cs (x * m+o))):=by
 rw[show ((x:Int) * (m:Int)+(o:Int))=((x * m+o:Nat):Int) by rw[DV,C8]]
 exact jM (by rw[h];exact sq_lt hx ho)
def zaW {T U:Tb} {F:List Nat} (h:Hom T U F) (g:zP T) (nT:(qc T).Nodup):HomN T T U (Tn.at' F):=⟨λc hc r hr=>⟨(h.cell c hc r hr).symm,g.cell_lt nT hc hr⟩,λx hx=>h.lt _ (AJ (Tn.at_map (by rw[h.len];exact hx))),λx hx=>h.wish x hx⟩
def Met (T:Tb) (ps:List Sy):Prop:=∃ γ,Gd T γ/\∀ p ∈ ps,grT T γ p ∈ T.ws
def four (x:Nat):∃ m:Nat,atI [V.int 1,V.int 2,V.int 3,V.int 2] ((x:Int) % 4)=some (nV m)/\1<=m/\m<=3:=by
 have h4:x % 4 < 4:=BZ _ (by decide)
 rw[show (x:Int) % 4=((x % 4:Nat):Int) from rfl]
 generalize x % 4=i at h4
 match i,h4 with
 | 0,_=>exact⟨1,qj rfl,by decide,by decide⟩
 | 1,_=>exact⟨2,qj rfl,by decide,by decide⟩
 | 2,_=>exact⟨3,qj rfl,by decide,by decide⟩
 | 3,_=>exact⟨2,qj rfl,by decide,by decide⟩
def cut_run (xs:List Nat) (p n:Nat) (h:p+n<=xs.length):J9 (xs.map nV) (some (p:Int)) (some ((p:Int)+(n:Int)))=((xs.drop p).take n).map nV:=by
 rw[show ((p:Int)+(n:Int))=((p+n:Nat):Int) by lia,Yk p (p+n) (by rw[AB];exact h) (by lia),<- DQ,<- DP,show p+n - p=n by lia]
theorem wZ:∀ (l ns:List Nat),l.Nodup->(∀ x ∈ l,x ∈ ns)->l.length<=ns.length
 | [],ns,_,_=>BA _
 | x :: l,ns,nd,h=>by
  have hx:=h x Af
  obtain⟨nx,nl⟩:=BP.mp nd
  have ih:=wZ l (ns.erase x) nl λy hy=>(D4 (λe=>nx (by rw[<- e];exact hy))).mpr (h y (Ah _ hy))
  rw[C5 hx] at ih
  have:=DE hx
  rw[Am]
  lia
def ClX (T:Tb) (X:Nat->Prop):Prop:=∀ c ∈ T.cs,∀ r:List Nat,r.length=c.pl->(∀ x ∈ r,X x)->X (Tn.at' c.cs (Tn.place T.m r))
structure Rnd (T:Tb) (cs:List Cn) (fs gs:List Nat):Prop where
 sub:∀ x ∈ fs,x ∈ gs
 cell:∀ c ∈ cs,∀ r:List Nat,r.length=c.pl->(∀ x ∈ r,x ∈ fs)->Tn.at' c.cs (Tn.place T.m r) ∈ gs
 min:∀ X,ClX T X->(∀ x ∈ fs,X x)->∀ x ∈ gs,X x
def Rnd.snoc {T:Tb} {cs:List Cn} {fs gs hs:List Nat} {c:Cn} (h:Rnd T cs fs gs) (k:Rnd T [c] gs hs):Rnd T (cs++[c]) fs hs:=
 ⟨λx hx=>k.sub x (h.sub x hx),λd hd r hl hr=>by
  rcases AV.mp hd with hd | hd
  ·exact k.sub _ (h.cell d hd r hl hr)
  ·exact k.cell d hd r hl λx hx=>h.sub x (hr x hx),λX hX hf=>k.min X hX (h.min X hX hf)⟩
def Gd97 (T:Tb) (k:Nat) (fs:List Nat):Prop:=k<=(Q0 fs).length\/ClX T (· ∈ fs)
def Rnd.step {T:Tb} {fs gs:List Nat} {k:Nat} (R:Rnd T T.cs fs gs) (G:Gd97 T k fs):Gd97 T (k+1) gs:=by
 by_cases h:∀ x ∈ gs,x ∈ fs
 ·exact .inr λc hc r hl hr=>R.cell c hc r hl λx hx=>h x (hr x hx)
 ·rcases G with G | G
  ·obtain⟨y,hy⟩:=Classical.not_forall.mp h
   obtain⟨hg,hf⟩:=Classical.not_imp.mp hy
   have:=wZ (y :: Q0 fs) (Q0 gs) (BP.mpr ⟨λz=>hf (Z0.mp z),ZK fs⟩) λx hx=>Z0.mpr (by
    rcases AX.mp hx with rfl | hx
    ·exact hg
    ·exact R.sub x (Z0.mp hx))
   rw[Am] at this
   exact .inl (by lia)
  ·exact absurd (R.min _ G λx hx=>hx) h
theorem zaX {m:Nat} {G:List Nat}:∀ (k p:Nat),p ∈ Tn.pls m G k->∃ r:List Nat,r.length=k/\(∀ x ∈ r,x ∈ G)/\p=Tn.place m r
 | 0,p,h=>⟨[],rfl,(λx hx=>by cases hx),AG.mp h⟩
 | k+1,p,h=>by
  obtain⟨p0,hp0,hg⟩:=BW.mp (show p ∈ (Tn.pls m G k).flatMap λp=>G.map λg=>p * m+g from h)
  obtain⟨g,hgG,rfl⟩:=AI.mp hg
  obtain⟨r,rl,hr,rfl⟩:=zaX k p0 hp0
  refine⟨r++[g],by rw[AL,rl];rfl,λx hx=>?_,by rw[Tn.place_snoc]⟩
  rcases AV.mp hx with hx | hx
  ·exact hr x hx
  ·rw[AG.mp hx];exact hgG
def keep_of {T:Tb} {G:List Nat} (h:ClX T (· ∈ G)):Yo T G=true:=Al.mpr λc hc=>Al.mpr λp hp=>An (by
 obtain⟨r,rl,hr,rfl⟩:=zaX c.pl p hp
 exact h c hc r rl hr)
def Yu:Sp:=λvs H Q _=>∃ (v:V) (T:Tb) (n:Nat),vs=[v,nV n]/\QF H v T/\zP T/\T.m<=3/\T.cs.length<=3/\∀ t G H',zD H H'->H' t=some (.tup (G.map nV))->Pt T.m G->Yo T G=true->Q (.ref t) H'
def xh {T U:Tb} {F:List Nat} (h:Hom T U F) (g:zP T) (nT:(qc T).Nodup) (onto:∀ y,y < U.m->∃ x,x < T.m/\Tn.at' F x=y) {L:List Str} {ps:List Sy} {S:Sy} (hp:∀ p ∈ ps,GSt T L p) (hS:GSt T L S):Fol U ps S ↔ Fol T ps S:=by
 have hh:=zaW h g nT
 refine⟨λf=>hh.fol hp hS f,λf γ gd b=>?_⟩
 obtain⟨pre,hpre⟩:∃ pre:Nat->Nat,∀ y,y < U.m->pre y < T.m/\Tn.at' F (pre y)=y:=⟨λy=>if h:y < U.m then (onto y h).choose else 0,λy h=>by
  show (if h:y < U.m then (onto y h).choose else 0) < T.m/\Tn.at' F (if h:y < U.m then (onto y h).choose else 0)=y
  rw[dif_pos h]
  exact (onto y h).choose_spec⟩
 have gd':Gd T λx=>pre (γ x):=λx=>(hpre _ (gd x)).1
 have e:(λx=>Tn.at' F (pre (γ x)))=γ:=funext λx=>(hpre _ (gd x)).2
 refine f _ gd' ⟨λp hp'=>?_,λh=>?_⟩
 ·obtain⟨e1,e2⟩:=hh.gr gd' (hp p hp')
  rw[hh.ws _ e2,<- e1,e]
  exact b.1 p hp'
 ·obtain⟨e1,e2⟩:=hh.gr gd' hS
  rw[hh.ws _ e2,<- e1,e] at h
  exact b.2 h
theorem yA (T:Tb) (ws:List Nat) (γ:Str->Nat):∀ s:Sy,grT ⟨T.m,ws,T.cs⟩ γ s=grT T γ s
 | .ltr x=>rfl
 | .n0 nm=>rfl
 | .n1 nm a=>by
  show L4.cellOf ⟨T.m,ws,T.cs⟩ nm [grT _ γ a]=L4.cellOf T nm [grT T γ a]
  rw[yA T ws γ a]
  rfl
 | .n2 nm a b=>by
  show L4.cellOf ⟨T.m,ws,T.cs⟩ nm [grT _ γ a,grT _ γ b]=L4.cellOf T nm [grT T γ a,grT T γ b]
  rw[yA T ws γ a,yA T ws γ b]
  rfl
def dm {a c b:Nat} (h:c < b):(a * b+c) / b=a/\(a * b+c) % b=c:=by
 have b0:0 < b:=by lia
 rw[B0,Ee b0,EX h,EM,Ed,EW h]
 exact⟨O,O⟩
def Yv {x a b:Nat} (h:x < a * b):x / b < a:=Nat.div_lt_of_lt_mul (by rw[B0];exact h)
def ab_lt {a b x y:Nat} (hx:x < a) (hy:y < b):x * b+y < a * b:=by
 have:=BM b (show x+1<=a from hx)
 rw[Bz] at this
 lia
def Z2 {A B:Tb} (gA:zP A) (gB:zP B) (nA:(qc A).Nodup) (h:Sh A=Sh B) {c:Cn} (hc:c ∈ A.cs) {r:List Nat} (hr:Tn.Rw (A.m * B.m) c.pl r) :
  L4.cellOf A c.nm (r.map (· / B.m))=L4.cellOf (qo A B) c.nm r / B.m/\L4.cellOf B c.nm (r.map (· % B.m))=L4.cellOf (qo A B) c.nm r % B.m/\L4.cellOf (qo A B) c.nm r < A.m * B.m:=by
 have b0:0 < B.m:=gB.m1
 have nB:(qc B).Nodup:=by rw[<- ZO h];exact nA
 have hm:(c.nm,c.pl) ∈ Sh B:=by rw[<- h];exact AI.mpr ⟨c,hc,rfl⟩
 obtain⟨d,hd,e⟩:=AI.mp hm
 obtain⟨e1,e2⟩:=Prod.mk.inj e
 have lA:=gA.cell_lt nA hc (r:=r.map (· / B.m)) ⟨by rw[AB];exact hr.1,λx hx=>by
  obtain⟨y,hy,rfl⟩:=AI.mp hx
  exact Yv (hr.2 y hy)⟩
 have lB:=gB.cell_lt nB hd (r:=r.map (· % B.m)) ⟨by rw[AB,e2];exact hr.1,λx hx=>by
  obtain⟨y,hy,rfl⟩:=AI.mp hx
  exact BZ _ b0⟩
 rw[e1] at lB
 rw[zaQ gA gB nA h hc hr]
 exact⟨(dm lB).1.symm,(dm lB).2.symm,ab_lt lA lB⟩
def pair_gr {A B:Tb} (gA:zP A) (gB:zP B) (nA:(qc A).Nodup) (h:Sh A=Sh B) {γ:Str->Nat} (hγ:Gd (qo A B) γ) {L:List Str} {s:Sy} (hs:GSt A L s) :
  grT A (λx=>γ x / B.m) s=grT (qo A B) γ s / B.m/\grT B (λx=>γ x % B.m) s=grT (qo A B) γ s % B.m/\grT (qo A B) γ s < A.m * B.m:=by
 have b0:0 < B.m:=gB.m1
 have h1:HomN A ⟨(qo A B).m,[],(qo A B).cs⟩ ⟨A.m,[],A.cs⟩ (· / B.m):=⟨λc hc r hr=>⟨(Z2 gA gB nA h hc hr).1,(Z2 gA gB nA h hc hr).2.2⟩,λx hx=>Yv hx,λx hx=>⟨λz=>(by cases z),λz=>(by cases z)⟩⟩
 have h2:HomN A ⟨(qo A B).m,[],(qo A B).cs⟩ ⟨B.m,[],B.cs⟩ (· % B.m):=⟨λc hc r hr=>⟨(Z2 gA gB nA h hc hr).2.1,(Z2 gA gB nA h hc hr).2.2⟩,λx hx=>BZ _ b0,λx hx=>⟨λz=>(by cases z),λz=>(by cases z)⟩⟩
 obtain⟨a1,a2⟩:=h1.gr (γ:=γ) hγ hs
 obtain⟨a3,_⟩:=h2.gr (γ:=γ) hγ hs
 rw[yA A,yA (qo A B)] at a1
 rw[yA B,yA (qo A B)] at a3
 rw[yA (qo A B)] at a2
 exact⟨a1,a3,a2⟩
def pair_ws {A B:Tb} {p:Nat} (hp:p < A.m * B.m):p ∈ (qo A B).ws ↔ p / B.m ∈ A.ws/\p % B.m ∈ B.ws:=by
 show p ∈ Tn.pw (A.m * B.m) B.m A.ws B.ws ↔ _
 unfold Tn.pw
 rw[Bf,Ab,BR,decide_eq_true_iff,decide_eq_true_iff]
 exact⟨λz=>z.2,λz=>⟨hp,z⟩⟩
def zaY {A B:Tb} (gA:zP A) (gB:zP B) (nA:(qc A).Nodup) (h:Sh A=Sh B) {L:List Str} {ps:List Sy} {S:Sy} (hps:∀ p ∈ ps,GSt A L p) (hS:GSt A L S):Fol (qo A B) ps S ↔ (Fol A ps S/\Fol B ps S)\/¬ Met A ps\/¬ Met B ps:=by
 have b0:0 < B.m:=gB.m1
 have wish:∀ {γ:Str->Nat},Gd (qo A B) γ->∀ {s:Sy},GSt A L s->(grT (qo A B) γ s ∈ (qo A B).ws ↔ grT A (λx=>γ x / B.m) s ∈ A.ws/\grT B (λx=>γ x % B.m) s ∈ B.ws):=λ{γ} hγ {s} hs=>by
  obtain⟨e1,e2,e3⟩:=pair_gr gA gB nA h hγ hs
  rw[pair_ws e3,e1,e2]
 have both:∀ {α β:Str->Nat},Gd A α->Gd B β->Gd (qo A B) (λx=>α x * B.m+β x)/\(λx=>(α x * B.m+β x) / B.m)=α/\(λx=>(α x * B.m+β x) % B.m)=β:=λ{α β} ha hb=>⟨λx=>ab_lt (ha x) (hb x),funext λx=>(dm (hb x)).1,funext λx=>(dm (hb x)).2⟩
 constructor
 ·intro f
  by_cases mA:Met A ps
  ·by_cases mB:Met B ps
   ·refine .inl ⟨λα ha bar=>?_,λβ hb bar=>?_⟩
    ·obtain⟨β,hb,wb⟩:=mB
     obtain⟨g,e1,e2⟩:=both ha hb
     refine f _ g ⟨λp hp=>(wish g (hps p hp)).mpr ?_,λz=>?_⟩
     ·rw[e1,e2]
      exact⟨bar.1 p hp,wb p hp⟩
     ·have:=((wish g hS).mp z).1
      rw[e1] at this
      exact bar.2 this
    ·obtain⟨α,ha,wa⟩:=mA
     obtain⟨g,e1,e2⟩:=both ha hb
     refine f _ g ⟨λp hp=>(wish g (hps p hp)).mpr ?_,λz=>?_⟩
     ·rw[e1,e2]
      exact⟨wa p hp,bar.1 p hp⟩
     ·have:=((wish g hS).mp z).2
      rw[e2] at this
      exact bar.2 this
   ·exact .inr (.inr mB)
  ·exact .inr (.inl mA)
 ·intro f γ g bar
  have ga:Gd A λx=>γ x / B.m:=λx=>Yv (g x)
  have gb:Gd B λx=>γ x % B.m:=λx=>BZ _ b0
  have wa:∀ p ∈ ps,grT A (λx=>γ x / B.m) p ∈ A.ws:=λp hp=>((wish g (hps p hp)).mp (bar.1 p hp)).1
  have wb:∀ p ∈ ps,grT B (λx=>γ x % B.m) p ∈ B.ws:=λp hp=>((wish g (hps p hp)).mp (bar.1 p hp)).2
  rcases f with ⟨fA,fB⟩ | f | f
  ·refine bar.2 ((wish g hS).mpr ⟨?_,?_⟩)
   ·exact Bu λz=>fA _ ga ⟨wa,z⟩
   ·exact Bu λz=>fB _ gb ⟨wb,z⟩
  ·exact f ⟨_,ga,wa⟩
  ·exact f ⟨_,gb,wb⟩
noncomputable def w4 (T:Tb) (ps:List Sy) (S:Sy):Bool:=@decide (Fol T ps S) (Classical.propDecidable _)
def jB {T:Tb} {ps:List Sy} {S:Sy}:w4 T ps S=true ↔ Fol T ps S:=by
 unfold w4
 exact @decide_eq_true_iff _ (Classical.propDecidable _)
def folD_of {T:Tb} {ps:List Sy} {S:Sy} {b:Bool} (h:b=true ↔ Fol T ps S):b=w4 T ps S:=by
 rw[BU,h,jB]
def Q4 {T U:Tb} (h:Sh T=Sh U) {L:List Str} {s:Sy} (f:Few T L s):Few U L s:=⟨f.1.into λc hc=>by
 have hm:(c.nm,c.pl) ∈ Sh U:=by rw[<- h];exact AI.mpr ⟨c,hc,rfl⟩
 obtain⟨d,hd,e⟩:=AI.mp hm
 obtain⟨e1,e2⟩:=Prod.mk.inj e
 exact⟨d,hd,e1,e2⟩,f.2⟩
def zaZ {m:Nat} {o:List Nat} (h:Tn.Or m o):∀ y,y < m->∃ x,x < m/\Tn.at' o x=y:=λy hy=>by
 have hm:=h.mem hy
 have hl:=BH hm
 refine⟨o.idxOf y,by rw[<- h.len];exact hl,?_⟩
 unfold Tn.at'
 rw[AQ,AD hl,Cf]
 rfl
def spOrd:Sp:=λvs H Q _=>∃ (m n:Nat),vs=[nV m,nV n]/\m<=9/\∀ t o H',zD H H'->H' t=some (.tup (o.map nV))->Tn.Or m o->Q (.ref t) H'
def spMet:Sp:=λvs H Q _=>∃ (v:V) (pl:Addr) (T:Tb) (L:List Str) (ps:List (V×Sy)),vs=[v,.ref pl]/\QF H v T/\zP T/\(qc T).Nodup/\H pl=some (.lst (ps.map Prod.fst))/\ps.length<=2/\(∀ z ∈ ps,jU H z.2 z.1/\Few T L z.2)/\L.length<=2/\∀ b H',zD H H'->(b=true ↔ Met T (ps.map Prod.snd))->Q (.bl b) H'
def WM:Sp:=λvs H Q _=>∃ (v:V) (pl:Addr) (sv:V) (T:Tb) (L:List Str) (ps:List (V×Sy)) (S:Sy),vs=[v,.ref pl,sv]/\Ask H v pl sv T L ps S/\T.m ^ L.length<=125/\ps.length<=13/\∀ b H',zD H H'->(b=true ↔ Fol T (ps.map Prod.snd) S)->Q (.bl b) H'
def za0:Sp:=λvs H Q _=>∃ (v:V) (nl:Addr) (T:Tb) (xs:List Nat),vs=[v,.ref nl]/\QF H v T/\zP T/\T.cs.length<=3/\H nl=some (.lst (xs.map nV))/\xs.length=40/\∀ u U H',zD H H'->QF H' u U->zP U->Sh T=Sh U->U.m<=3->Q u H'
def top (i:Nat):Stmt:=PySem.Challenge.pw_truthgrades_k97_whole_tables_made_of_tab.main.body.getD i (.Pass ⟨0,0,0,0⟩)
structure Gb (mg:Str->Option Value):Prop where
 «abs» : mg "abs" = none
 «range» : mg "range" = none
 «tuple» : mg "tuple" = none
 «list» : mg "list" = none
 «isinstance» : mg "isinstance" = none
 «int» : mg "int" = none
 «str» : mg "str" = none
 «len» : mg "len" = none
 «all» : mg "all" = none
 «any» : mg "any" = none
 «dict» : mg "dict" = none
 «set» : mg "set" = none
 «sorted» : mg "sorted" = none
 «reversed» : mg "reversed" = none
 «enumerate» : mg "enumerate" = none
 «zip» : mg "zip" = none
 «MOST_GRADES» : ∃ u,mg "MOST_GRADES" = some u/\RelV (.int 9) u
abbrev zV:Stmt:=top 6
def jV:zC ["text"] ["text"] (zn zV):=⟨rfl,rfl,rfl,by ac_rfl,rfl,by ac_rfl,by ac_rfl⟩
section
variable {P:Program} {w:World} {K:Fs} {mg:Str->Option Value} {base:Heap} {f:Addr} {fd:FuncData}
def jW (F:Fun K "has_small_letters_alone" "has_small_letters_alone" zV f fd) (gb:Gb mg):ji P w K mg base CX0 1 f fd ["text"] Yg:=by
 refine F.ok jV (λvs H Q E h=>?_) (λcdv A outer s H vs Q E hr h=>?_)
 ·obtain⟨x,rfl,_⟩:=h
  rfl
 obtain⟨x,rfl,hs,hl,q⟩:=h
 have nd0:(["sign"]:List Str).Nodup:=by ac_rfl
 refine⟨_,(@zo _ _ _ (@zF _ _ _ _ (@zE _ _ _ _ _ _ _ _ _ (@ZG _ K O O) O gb.all W6 (@zd _ _ _ _ _ (@zO _ ["sign"] [none] _ _ _ _ _ _ _ _ _ _ (by exact (show zJ ["text"] (zn zV) ["sign"] [none] _ from⟨O,by ac_rfl,by ac_rfl,by ac_rfl,by ac_rfl,O,by ac_rfl⟩)) O (@pi_str _ _ _ _ (@pw _ 0 _ _ O O)) (λ_ _ _ _=>(@pgl _ 0 _ _ nd0 O O)) (λ_ _ _ _=>(@qd _)) (λ_ _ _ _=>(@pe_chain _ _ _ _ _ _ _ _ _ _ _ _ (@W9 _) (@W9 _) (@jX _ _ _ _) (@pw _ 0 _ _ O O) (@jX _ _ _ _) (by with_unfolding_all rfl))) (by intro _;rfl)) (@zg _) O) (by decide) (by decide) O O))),?_⟩
 refine⟨_,O,x,O,λD hD=>?_⟩
 refine map_str (h:=λ_=>.bl true) (by lia) hD (λc hc H' Q' s1 q'=>?_) (λH' s1 hD'=>?_)
 ·obtain⟨c0,c1⟩:=hs c hc
  refine⟨_,O,_,_,O,O,_,O,?_⟩
  have e1:(!decide ((Str.mk #[c]).cps.toList < (Str.ofString "a").cps.toList))=true:=by
   have:(Str.ofString "a").cps.toList=[97]:=by ac_rfl
   rw[this]
   simp[List.cons_lt_cons_iff]
   lia
  have e2:(!decide ((Str.ofString "z").cps.toList < (Str.mk #[c]).cps.toList))=true:=by
   have:(Str.ofString "z").cps.toList=[122]:=by ac_rfl
   rw[this]
   simp[List.cons_lt_cons_iff]
   lia
  rw[if_pos e1]
  refine⟨_,_,O,O,?_⟩
  rw[e2]
  exact q' _ zD.rfl'
 ·rw[trues] at hD'
  refine⟨D,_,O,SqL.of hD',?_⟩
  rw[XF]
  exact q _ s1
abbrev Qp:Stmt:=top 5
def yB:zC ["thing"] ["thing"] (zn Qp):=⟨rfl,rfl,rfl,by ac_rfl,rfl,by ac_rfl,by ac_rfl⟩
def yC (F:Fun K "is_letter" "is_letter" Qp f fd) (gb:Gb mg) (d_has_small_letters_alone:Def P w K mg base 1 "has_small_letters_alone" ["text"] Yg):ji P w K mg base CX0 2 f fd ["thing"] xP:=by
 refine F.ok yB (λvs H Q E h=>?_) (λcdv A outer s H vs Q E hr h=>?_)
 ·obtain⟨v,s,rfl,_⟩:=h
  rfl
 obtain⟨v,s,rfl,ih,hl,q⟩:=h
 refine⟨_,(@zo _ _ _ (@zF _ _ _ _ (@Xj _ _ _ _ _ _ _ (@zE _ _ _ _ _ _ _ _ _ (@QQ _ K O) O gb.isinstance Zk (@zd _ _ _ _ _ (@pw _ 0 _ _ O O) (@zd _ _ _ _ _ (@yR _ _ (.ty "str") _ _ O gb.str Xy O (by decide) (by decide)) (@zg _) O) O) (by decide) (by decide) O O) (@Xj _ _ _ _ _ _ _ (@ZB _ _ _ _ _ _ _ _ (@Qi _) (@zE _ _ _ _ _ _ _ _ _ (@qe _ K O) O gb.len jf (@zd _ _ _ _ _ (@pw _ 0 _ _ O O) (@zg _) O) (by decide) (by decide) O O) (@zk _ _ _ _) (@qi _ _ (by decide) (by decide))) (@Xi _ _ _ _ _ (@zw _ _ _ _ _ _ _ _ _ _ _ d_has_small_letters_alone hr (by lia) O (@zd _ _ _ _ _ (@pw _ 0 _ _ O O) (@zg _) O) (by decide) O O)))))),?_⟩
 refine⟨_,O,?_⟩
 cases hs:s.isL with
 | true=>
  obtain rfl:=ih.letter hs
  obtain⟨l1,sm⟩:=hl hs
  refine⟨_,_,_,true,O,.str _,Jh "str",true,O,wC ?_⟩
  refine⟨_,O,_,s.nm.length,O,⟨zt (by lia),O⟩,O,true,?_,wC ?_⟩
  ·rw[l1]
   rfl
  ·exact⟨_,O,s.nm,O,sm,by lia,λH' s1=>by have q2:=q H' s1;rw[hs] at q2;exact q2⟩
 | false=>
  obtain⟨t,us,rfl,ht,_⟩:=ih.node hs
  exact⟨_,_,_,false,O,.tup ht,yW (K:=K) (.tup []),false,O,wc (by have q2:=q H (zD.refl H);rw[hs] at q2;exact q2)⟩
abbrev jO:Stmt:=top 22
def qS:zC ["S", "parts", "waiting", "part"] ["S"] (zn jO):=⟨rfl,rfl,rfl,by ac_rfl,rfl,by ac_rfl,by ac_rfl⟩
def Jb (F:Fun K "written_parts" "written_parts" jO f fd) (gb:Gb mg) (d_is_letter:Def P w K mg base 2 "is_letter" ["thing"] xP):ji P w K mg base CX0 3 f fd ["S"] Y8:=by
 refine F.ok qS (λvs H Q E h=>?_) (λcdv A outer s H vs Q E hr h=>?_)
 ·obtain⟨v,s,rfl,_⟩:=h
  rfl
 obtain⟨v,s,rfl,ih,gs,h63,q⟩:=h
 refine⟨_,(@zh _ _ _ _ _ (@zr _ _ 1 _ _ _ _ qS.nd O (Or.inl O) (@zS _ _ _ _ (@zg _)) O (by walk_at "f")) (@zh _ _ _ _ _ (@zr _ _ 2 _ _ _ _ qS.nd O (Or.inl O) (@zS _ _ _ _ (@zd _ _ _ _ _ (@pw _ 0 _ _ O O) (@zg _) O)) O (by walk_at "f")) (@zh _ _ _ _ _ (@w8 _ _ _ _ _ _ Ad (@zH _ _ _ _ _ _ _ _ (@op_gt _) (@zE _ _ _ _ _ _ _ _ _ (@qe _ K O) O gb.len jf (@zd _ _ _ _ _ (@pw _ 2 _ _ O O) (@zg _) O) (by decide) (by decide) O O) (@zk _ _ _ _) (@qi _ _ (by decide) (by decide))) (@zh _ _ _ _ _ (@zr _ _ 3 _ _ _ _ qS.nd O (Or.inl O) (@kpe_bm0 _ K _ _ _ _ _ _ _ _ AY PySem.F.slot_list_pop PySem.F.type_list_pop (@mt_pop _) (@pw _ 2 _ _ O O) O O O) O (by walk_at "f")) (@zh _ _ _ _ _ (@qf _ _ _ _ (@qw _ K _ _ _ _ _ _ _ _ _ _ _ AY Aq Ap (@zT _) (@pw _ 1 _ _ O O) (@zd _ _ _ _ _ (@pw _ 3 _ _ O O) (@zg _) O) O O O O O O) O) (@zo _ _ _ (@qX _ _ _ _ _ _ _ _ (@WU _ _ _ _ (@Zy _ _ _ (@zw _ _ _ _ _ _ _ _ _ _ _ d_is_letter hr (by lia) O (@zd _ _ _ _ _ (@pw _ 3 _ _ O O) (@zg _) O) (by decide) O O) (by intro _;rfl))) (@zo _ _ _ (@qf _ _ _ _ (@qw _ K _ _ _ _ _ _ _ _ _ _ _ AY CU CT (@ZC _) (@pw _ 2 _ _ O O) (@zd _ _ _ _ _ (@xB _ K _ _ _ _ _ _ O gb.list O gb.reversed (@zd _ _ _ _ _ (@qQ _ _ _ _ _ _ _ _ _ _ (@kslT _ K O) (@pw _ 3 _ _ O O) (@qV _ _ _ (@zk _ _ _ _)) (@Zh _)) (@zg _) O) O O O O) (@zg _) O) O O O O O O) O)) (@zU _)))))) (@zo _ _ _ (@zF _ _ _ _ (@pw _ 1 _ _ O O)))))),?_⟩
 refine⟨zt (by show 0<=1000;decide),λpa hpa=>?_⟩
 have n1:=zf hpa (.lst [])
 refine⟨_,O,zt (by show 1<=1000;decide),λwa hwa=>?_⟩
 have n2:=zf hwa (.lst [v])
 have pw:pa ≠ wa:=zL ze hwa
 refine⟨λm σ H'=>(∃ x3,σ=[some v,some (.ref pa),some (.ref wa),x3])/\zD H H'/\∃ ps ws:List (V×Sy),H' pa=some (.lst (ps.map Prod.fst))/\H' wa=some (.lst (ws.map Prod.fst))/\SyS H ps/\SyS H ws/\ps.map Prod.snd++(ws.reverse.flatMap λz=>z.2.sub)=s.sub/\(ws.map λz=>z.2.sz).sum=m/\ps.length+m<=63/\ws.length<=m,⟨s.sz,⟨_,O⟩,n1.trans n2,[],[(v,s)],n2 _ _ ze,ze,(λz hz=>by cases hz),(λz hz=>by rw[AG.mp hz];exact⟨gs,ih⟩),by simp,by simp,by simpa using h63,by have:=Sy.sz_ps s;simp;lia⟩,?_⟩
 rintro m σ H1 ⟨⟨x3,rfl⟩,s1,ps,ws,hp,hw,gp,gw,hsub,hm,h6,hwl⟩
 refine⟨_,O,_,_,O,.inl ⟨_,SqL.of hw,O⟩,_,_,O,O,_,O,?_⟩
 rw[AB]
 rcases DM ws with rfl | ⟨ws,z,rfl⟩
 ·refine XG rfl ?_
  have e:ps.map Prod.snd=s.sub:=by simpa using hsub
  have hP:=(gp.same s1).paired
  rw[e] at hP
  exact⟨_,O,q pa _ H1 s1 hp hP⟩
 rw[Co] at *
 have zl:0 < z.2.sz:=by have:=Sy.sz_ps z.2;lia
 refine iteDT (An (by rw[AL];show (0:Int) < ((ws.length+1:Nat):Int);lia)) ?_
 rw[AK,C7] at hm
 simp only[List.map_cons,List.map_nil,List.sum_cons,List.sum_nil,Nat.add_zero] at hm
 have hwl:ws.length+1<=m:=by simpa using hwl
 rw[List.reverse_append,List.reverse_singleton,List.singleton_append,B4,Sy.sub_ps z.2] at hsub
 refine⟨λσ' H'=>(∃ x3,σ'=[some v,some (.ref pa),some (.ref wa),x3])/\zD H H'/\∃ ps ws:List (V×Sy),H' pa=some (.lst (ps.map Prod.fst))/\H' wa=some (.lst (ws.map Prod.fst))/\SyS H ps/\SyS H ws/\ps.map Prod.snd++(ws.reverse.flatMap λz=>z.2.sub)=s.sub/\(ws.map λz=>z.2.sz).sum=m - 1/\ps.length+(m - 1)<=63/\ws.length<=m - 1,λσ' H' h=>⟨m - 1,by lia,h⟩,?_⟩
 obtain⟨gz,iz⟩:=gw z (by simp)
 have gw':SyS H ws:=λy hy=>gw y (Ao _ hy)
 refine⟨_,O,.inl ⟨O,_,SqL.of hw⟩,wa,_,z.1,O,O,hw,by simp,?_⟩
 rw[show (List.map Prod.fst (ws++[z])).dropLast=ws.map Prod.fst by rw[AK];simp]
 have hp2:(upd H1 wa (.lst (ws.map Prod.fst))) pa=some (.lst (ps.map Prod.fst)):=by rw[zK pw];exact hp
 have s2:zD H (upd H1 wa (.lst (ws.map Prod.fst))):=s1.put (n1.free hwa)
 refine⟨_,O,.inl ⟨O,_,SqL.of hp2⟩,_,O,pa,_,_,O,O,hp2,by rw[AB];exact zq (by lia),?_⟩
 have s3:zD H (upd (upd H1 wa (.lst (ws.map Prod.fst))) pa (.lst (ps.map Prod.fst++[z.1]))):=s2.put hpa
 have hp3:(upd (upd H1 wa (.lst (ws.map Prod.fst))) pa (.lst (ps.map Prod.fst++[z.1]))) pa=some (.lst ((ps++[z]).map Prod.fst)):=by rw[ze,AK];rfl
 have hw3:(upd (upd H1 wa (.lst (ws.map Prod.fst))) pa (.lst (ps.map Prod.fst++[z.1]))) wa=some (.lst (ws.map Prod.fst)):=by rw[zK (Aw pw)];exact ze
 generalize upd (upd H1 wa (.lst (ws.map Prod.fst))) pa (.lst (ps.map Prod.fst++[z.1]))=H3 at *
 have gp':SyS H (ps++[z]):=λy hy=>by
  rcases AV.mp hy with h | h
  ·exact gp y h
  ·rw[AG.mp h]
   exact⟨gz,iz⟩
 refine⟨_,O,z.1,z.2,O,iz.same s3,gz.isl,λH4 s4=>⟨_,O,?_⟩⟩
 cases hz:z.2.isL with
 | true=>
  have zp:z.2.ps=[]/\z.2.sz=1:=by
   cases hz':z.2 with
   | ltr x=>exact⟨O,O⟩
   | _=>rw[hz'] at hz;cases hz
  rw[zp.1] at hsub
  refine wc ⟨⟨_,O⟩,s3.trans s4,ps++[z],ws,s4 _ _ hp3,s4 _ _ hw3,gp',gw',?_,?_,?_,?_⟩
  ·rw[<- hsub]
   simp
  ·have:=zp.2
   lia
  ·rw[AL]
   show ps.length+1+(m - 1)<=63
   lia
  ·have:=zp.2
   lia
 | false=>
  refine wC ?_
  obtain⟨t,us,ev,ht,hP⟩:=iz.node hz
  have hul:=A3 hP
  have a2:=Sy.ps_le z.2
  have ht4:=(s3.trans s4) _ _ ht
  refine⟨_,O,.inl ⟨O,_,SqL.of (s4 _ _ hw3)⟩,_,by rw[ev];rfl,_,O,?_⟩
  refine Y4 ht4 λt5 H5 s5 ht5=>?_
  rw[QG (by simp)] at ht5
  refine⟨t5,us,O,SqT.of ht5,by lia,λl6 hl6=>?_⟩
  have n6:=zf hl6 (.lst us.reverse)
  have s6:=s4.trans (s5.trans n6)
  obtain⟨y1,y2,y3⟩:=xQ hP λa ha=>gz.part ha
  have hw6:=s6 _ _ hw3
  refine⟨wa,l6,_,_,O,O,hw6,ze,by rw[AB,C3];exact zt (by lia),⟨⟨_,O⟩,(s3.trans s6).put (n1.free hwa),ps++[z],ws++(us.zip z.2.ps).reverse,?_,?_,gp',λy hy=>?_,?_,?_,?_,?_⟩⟩
  ·rw[zK pw]
   exact s6 _ _ hp3
  ·rw[ze,AK,List.map_reverse,y2]
  ·rcases AV.mp hy with h | h
   ·exact gw' y h
   ·exact y1 y (List.mem_reverse.mp h)
  ·rw[<- hsub,List.reverse_append,List.reverse_reverse,BY,AK]
   have e1:((us.zip z.2.ps).flatMap λz=>z.2.sub)=z.2.ps.flatMap Sy.sub:=by
    rw[<- y3,List.flatMap_map]
    rw[y3]
   rw[e1]
   simp
  ·have e1:((us.zip z.2.ps).map λz=>z.2.sz)=z.2.ps.map Sy.sz:=by
    rw[<- y3,Ak]
    rw[y3]
    rfl
   rw[AK,C7,List.map_reverse,List.sum_reverse,e1]
   have:=Sy.sz_ps z.2
   lia
  ·rw[AL]
   show ps.length+1+(m - 1)<=63
   lia
  ·have e1:(us.zip z.2.ps).length=z.2.ps.length:=by rw[<- AB (f:=Prod.snd),y3]
   have e2:z.2.ps.length<=(z.2.ps.map Sy.sz).sum:=zav _ λy=>by have:=Sy.sz_ps y;lia
   have e3:ws.length<=(ws.map λ(z:V×Sy)=>z.2.sz).sum:=zav _ λy=>by have:=Sy.sz_ps y.2;lia
   have:=Sy.sz_ps z.2
   rw[AL,C3,e1]
   lia
abbrev qT:Stmt:=top 21
def jk:zC ["sayings", "letters", "saying"] ["sayings"] (zn qT):=⟨rfl,rfl,rfl,by ac_rfl,rfl,by ac_rfl,by ac_rfl⟩
def QU (F:Fun K "letters_of_all" "letters_of_all" qT f fd) (gb:Gb mg) (d_written_parts:Def P w K mg base 3 "written_parts" ["S"] Y8) (d_is_letter:Def P w K mg base 2 "is_letter" ["thing"] xP):ji P w K mg base CX0 4 f fd ["sayings"] Ww:=by
 refine F.ok jk (λvs H Q E h=>?_) (λcdv A outer s H vs Q E hr h=>?_)
 ·obtain⟨l,ps,L0,rfl,_⟩:=h
  rfl
 obtain⟨l,ps,L0,rfl,hl,sy,h15,hz,h60,q⟩:=h
 have nd0:(["part"]:List Str).Nodup:=by ac_rfl
 refine⟨_,(@zh _ _ _ _ _ (@zr _ _ 1 _ _ _ _ jk.nd O (Or.inl O) (@zS _ _ _ _ (@zg _)) O (by walk_at "f")) (@zh _ _ _ _ _ (@zZ _ _ _ _ _ _ _ _ Ad O (@zG _ K _ _ _ (@pw _ 0 _ _ O O) O) (@pgl _ 2 _ _ jk.nd O O) (@zo _ _ _ (@qf _ _ _ _ (@qw _ K _ _ _ _ _ _ _ _ _ _ _ AY CU CT (@ZC _) (@pw _ 1 _ _ O O) (@zd _ _ _ _ _ (@zO _ ["part"] [none] _ _ _ _ _ _ _ _ _ _ (by exact (show zJ ["sayings", "letters", "saying"] (zn qT) ["part"] [none] _ from⟨O,by ac_rfl,by ac_rfl,by ac_rfl,by ac_rfl,O,by ac_rfl⟩)) O (@zG _ K _ _ _ (@zw _ _ _ _ _ _ _ _ _ _ _ d_written_parts hr (by lia) O (@zd _ _ _ _ _ (@pw _ 2 _ _ O O) (@zg _) O) (by decide) O O) O) (λ_ _ _ _=>(@pgl _ 0 _ _ nd0 O O)) (λ_ _ _ _=>(@Jw _ _ _ (@Zy _ _ _ (@zw _ _ _ _ _ _ _ _ _ _ _ d_is_letter hr (by lia) O (@zd _ _ _ _ _ (@pw _ 0 _ _ O O) (@zg _) O) (by decide) O O) (by intro _;rfl)))) (λ_ _ _ _=>(@pw _ 0 _ _ O O)) (by intro _;rfl)) (@zg _) O) O O O O O O) O)) (by intro _;rfl)) (@zo _ _ _ (@zF _ _ _ _ (@zE _ _ _ _ _ _ _ _ _ (@QE _ O) O gb.sorted jK (@zd _ _ _ _ _ (@zy _ _ _ _ _ _ _ _ _ (@wU _ K O O) O gb.set Jz (@zd _ _ _ _ _ (@pw _ 1 _ _ O O) (@zg _) O) (by decide) (by decide) O O) (@zg _) O) (by decide) (by decide) O O))))),?_⟩
 refine⟨zt (by show 0<=1000;decide),λla hla=>?_⟩
 have n0:=zf hla (.lst [])
 refine⟨_,O,l,O,⟨_,SqL.of (n0 _ _ hl)⟩,?_⟩
 refine qA (xs:=ps.map Prod.fst) (λi σ H'=>(∃ x2,σ=[some (.ref l),some (.ref la),x2])/\zD H H'/\H' la=some (.lst (((ps.take i).flatMap λz=>z.2.lets).map V.str))) ⟨⟨_,O⟩,n0,ze⟩ (λi σ H' _ h=>SqL.of (h.2.1 _ _ hl)) ?_ ?_
 ·rintro i x σ H1 hx ⟨⟨x2,rfl⟩,s1,hy⟩
  rw[AH] at hx
  obtain⟨z,hzi,rfl⟩:=AW.mp hx
  have hzm:=AJ hzi
  obtain⟨lz,iz⟩:=sy z hzm
  obtain⟨z63,_⟩:=hz z hzm
  have hb:=ZN (ps.take i) λy hy=>(hz y (DT hy)).1
  have hzl:=(AF.mp hzi).1
  rw[Ai] at hb
  refine⟨_,O,.inl ⟨O,_,SqL.of hy⟩,?_⟩
  refine⟨_,O,z.1,z.2,O,iz.same s1,lz,z63,λpa us H2 s2 hpa hP=>?_⟩
  have hul:=A3 hP
  have hsl:=Sy.sub_len z.2
  refine⟨pa,O,⟨_,SqL.of hpa⟩,λD hD=>?_⟩
  refine Za (xs:=us) (λj ys H'=>zD H2 H'/\ys=(ltrs (z.2.sub.take j)).map V.str) ⟨zf hD _,O⟩ (λj ys H' h _=>SqL.of (h.1 _ _ hpa)) ?_ ?_
  ·rintro j ys H3 u hu ⟨s3,rfl⟩ hD3
   have hj:=(AF.mp hu).1
   have hw:z.2.sub[j]? = some z.2.sub[j]:=AD (by lia)
   have hwm:=Cz (l:=z.2.sub) (n:=j) (by lia)
   generalize z.2.sub[j]=w' at hw hwm
   have iw:=Paired.at hP j _ _ hw hu
   have hlt:(ltrs (z.2.sub.take j)).length<=63:=by
    refine Aa (List.length_filterMap_le _ _) ?_
    rw[Ai]
    lia
   refine⟨_,O,u,w',O,iw.same s3,(lz.sub hwm).isl,λH4 s4=>⟨_,O,?_⟩⟩
   cases hl':w'.isL with
   | true=>
    refine wC ⟨_,O,Q6 hj jj (s4 _ _ hD3) (by rw[AB];exact zq (by lia)) ⟨(s3.trans s4).put hD,?_⟩⟩
    rw[take_snoc hw,Wu,AK,iw.letter hl']
    congr 1
    unfold ltrs
    rw[C4,hl']
    rfl
   | false=>
    refine wc (cno hj jj (s4 _ _ hD3) ⟨s3.trans s4,?_⟩)
    rw[take_snoc hw,Wu]
    have e:ltrs [w']=[]:=by
     unfold ltrs
     rw[C4,hl']
     rfl
    rw[e,Bt]
  ·rintro ys H3 ⟨s3,rfl⟩ hD3
   rw[<- hul,Ag,Jm] at hD3
   have hy3:=s3 _ _ (s2 _ _ hy)
   refine⟨la,D,_,_,O,O,hy3,hD3,?_,⟨⟨_,O⟩,(s1.trans (s2.trans s3)).put hla,?_⟩⟩
   ·have:=ZM z.2
    rw[AB,AB]
    exact CN (zq (by lia))
   ·rw[ze,take_snoc hzi,BY,AK]
    simp only[List.flatMap_cons,List.flatMap_nil,List.append_nil]
 ·rintro σ H1 ⟨⟨x2,rfl⟩,s1,hy⟩
  rw[AB,Ag] at hy
  have hb:=ZN ps λy hy=>(hz y hy).1
  refine⟨_,O,la,_,O,SqL.of hy,by lia,λsa hsa=>?_⟩
  have hm:∀ x,x ∈ Q0 (ps.flatMap λz=>z.2.lets) ↔ ∃ z ∈ ps,x ∈ z.2.lets:=λx=>by
   rw[Z0,BW]
  refine⟨sa,_,O,ze,ZK _,?_,λk ss hk pm so=>q k ss _ (s1.trans ((zf hsa _).trans (zf hk _))) ze (pm.nodup_iff.mpr (ZK _)) (λx=>by rw[pm.mem_iff,hm]) so⟩
  have:=jJ _ L0 (ZK (ps.flatMap λz=>z.2.lets)) λx hx=>by
   obtain⟨z,hzm,hzx⟩:=(hm x).mp hx
   exact (hz z hzm).2 x hzx
  lia
abbrev Zp:Stmt:=top 24
def Qd:zC ["by_letter", "letter", "given", "longer"] ["by_letter", "letter", "given"] (zn Zp):=⟨rfl,rfl,rfl,by ac_rfl,rfl,by ac_rfl,by ac_rfl⟩
def wm (F:Fun K "with_letter" "with_letter" Zp f fd) (gb:Gb mg):ji P w K mg base CX0 1 f fd ["by_letter", "letter", "given"] Yh:=by
 refine F.ok Qd (λvs H Q E h=>?_) (λcdv A outer s H vs Q E hr h=>?_)
 ·obtain⟨g,u,x,o,ls,rfl,_⟩:=h
  rfl
 obtain⟨g,u,x,o,ls,rfl,hg,h60,hx,hu,q⟩:=h
 refine⟨_,(@zh _ _ _ _ _ (@zr _ _ 3 _ _ _ _ Qd.nd O (Or.inl O) (@zy _ _ _ _ _ _ _ _ _ (@wJ _) O gb.dict Wi (@zd _ _ _ _ _ (@pw _ 0 _ _ O O) (@zg _) O) (by decide) (by decide) O O) O (by walk_at "f")) (@zh _ _ _ _ _ (@XW _ _ _ _ _ _ _ _ _ _ hr (@pw _ 3 _ _ O O) (@pw _ 1 _ _ O O) (@pw _ 2 _ _ O O) O) (@zo _ _ _ (@zF _ _ _ _ (@pw _ 3 _ _ O O))))),?_⟩
 obtain⟨kvs,hk,hP⟩:=hg
 have hkl:=A3 hP
 refine⟨_,O,g,kvs,O,hk,λp hp=>?_⟩
 have n1:=zf hp (.dK kvs)
 refine⟨_,O,_,O,_,O,p,kvs,Sum.inr x,O,O,ze,zq (by lia),_,O,q p _ (n1.put hp) ⟨_,ze,?_⟩⟩
 rw[sets_put hP hx]
 obtain⟨kvs0,ek⟩:∃ z,z=kvs:=⟨_,rfl⟩
 rw[<- ek] at n1 hP ⊢
 have key:∀ {ls:List (Str×Nat)} {kvs:List (Key×V)},Paired (λ(p:Str×Nat) (kv:Key×V)=>kv.1=Sum.inr p.1/\∃ u,kv.2=.ref u/\H u=some (.tup [nV p.2])) ls kvs->Paired (λ(p':Str×Nat) (kv:Key×V)=>kv.1=Sum.inr p'.1/\∃ b,kv.2=.ref b/\(upd (upd H p (.dK kvs0)) p (.dK (kvs0++[(Sum.inr x,.ref u)]))) b=some (.tup [nV p'.2])) (ls++[(x,o)]) (kvs++[(Sum.inr x,.ref u)]):=λh=>by
  induction h with
  | nil=>exact .cons ⟨O,u,O,(n1.put hp) _ _ hu⟩ .nil
  | cons z _ ih=>
   obtain⟨e1,a,e2,e3⟩:=z
   exact .cons ⟨e1,a,e2,(n1.put hp) _ _ e3⟩ ih
 exact key hP
abbrev jd:Stmt:=top 25
def Jc:zC ["H"] ["H"] (zn jd):=⟨rfl,rfl,rfl,by ac_rfl,rfl,by ac_rfl,by ac_rfl⟩
def Jd (F:Fun K "cells_by_name" "cells_by_name" jd f fd) (gb:Gb mg):ji P w K mg base CX0 1 f fd ["H"] zax:=by
 refine F.ok Jc (λvs H Q E h=>?_) (λcdv A outer s H vs Q E hr h=>?_)
 ·obtain⟨v,T,rfl,_⟩:=h
  rfl
 obtain⟨v,T,rfl,ia,gT,nT,q⟩:=h
 have nd0:(["name", "places", "cells"]:List Str).Nodup:=by ac_rfl
 refine⟨_,(@zo _ _ _ (@zF _ _ _ _ (@XZ _ _ hr _ _ _ _ O gb.dict (@zd _ _ _ _ _ (@zO _ ["name", "places", "cells"] [none,none,none] _ _ _ _ _ _ _ _ _ _ (by exact (show zJ ["H"] (zn jd) ["name", "places", "cells"] [none,none,none] _ from⟨O,by ac_rfl,by ac_rfl,by ac_rfl,by ac_rfl,O,by ac_rfl⟩)) O (@qW _ K _ _ _ (@zu _ _ _ _ _ _ _ (@zm _ K O) (@pw _ 0 _ _ O O) (@zk _ _ _ _) (λ_ _=>rfl)) O) (λ_ _ _ _=>(@jv _ K _ _ _ _ 3 O (@zI _ _ _ _ _ (@pgl _ 0 _ _ nd0 O O) (@zI _ _ _ _ _ (@pgl _ 1 _ _ nd0 O O) (@zI _ _ _ _ _ (@pgl _ 2 _ _ nd0 O O) (@jt _) O) O) O) O O O)) (λ_ _ _ _=>(@qd _)) (λ_ _ _ _=>(@ql _ _ _ _ _ (@zd _ _ _ _ _ (@ql _ _ _ _ _ (@zd _ _ _ _ _ (@pw _ 0 _ _ O O) (@zd _ _ _ _ _ (@pw _ 1 _ _ O O) (@zg _) O) O)) (@zd _ _ _ _ _ (@pw _ 2 _ _ O O) (@zg _) O) O))) (by intro _;rfl)) (@zg _) O) O O))),?_⟩
 obtain⟨a,w0,c,vs,rfl,h1,h2,h3,h4⟩:=id ia
 have gcl:=gT.cl
 have gx:∀ i,∃ t u:Addr,i < T.cs.length->vs[i]? = some (.ref t)/\H t=some (.tup [.str (T.cs.getD i d0).nm,nV (T.cs.getD i d0).pl,.ref u])/\H u=some (.tup ((T.cs.getD i d0).cs.map nV)):=λi=>by
  by_cases hi:i < T.cs.length
  ·have hc:T.cs[i]? = some (T.cs.getD i d0):=by simp[List.getD,hi]
   obtain⟨t,u,h⟩:=h4.get hc
   exact⟨t,u,λ_=>h⟩
  ·exact⟨0,0,λh=>absurd h hi⟩
 obtain⟨ad,gx⟩:=DC gx
 obtain⟨au,gx⟩:=DC gx
 have ge:∀ i,i < T.cs.length->T.cs[i]? = some (T.cs.getD i d0):=λi hi=>by simp[List.getD,hi]
 refine⟨_,O,.inr (.inl ⟨a,_,2,_,O,O,SqT.of h1,O,c,O,⟨_,SqT.of h3⟩,λD hD=>?_⟩)⟩
 refine XO (n:=T.cs.length) (ad:=ad) (v1:=λi=>.str (T.cs.getD i d0).nm) (v2:=λi=>nV (T.cs.getD i d0).pl) (v3:=λi=>.ref (au i)) (more:=[]) (λi ys H'=>zD H H'/\ys.length=i/\Ya H' ys (ctOf T au i)) ⟨zf hD _,O,.nil⟩ h4.len.symm (λi hi=>(gx i hi).1) (λi ys H' h _=>SqT.of (h.1 _ _ h3)) (λi ys H' hi h=>SqT.of (h.1 _ _ (gx i hi).2.1)) ?_ ?_
 ·rintro i ys H1 hi ⟨s1,yl,hP⟩ hD1
  refine yes ⟨_,O,_,O,zt (by show 2<=1000;decide),λt1 ht1=>?_⟩
  have n1:=zf ht1 (.tup [.str (T.cs.getD i d0).nm,nV (T.cs.getD i d0).pl])
  refine⟨_,O,zt (by show 2<=1000;decide),λt2 ht2=>?_⟩
  have n2:=zf ht2 (.tup [.ref t1,.ref (au i)])
  have hD2:=n2 _ _ (n1 _ _ hD1)
  refine Q6 hi ⟨_,_,_,O⟩ hD2 (zq (by lia)) ⟨(s1.trans (n1.trans n2)).put hD,by rw[AL,yl];rfl,?_⟩
  rw[ct_snoc]
  exact Ya.snoc (p:=(yq (T.cs.getD i d0),.ref (au i))) (Ya.tk (Tk.put hD2) (Ya.tk (Tk.of (n1.trans n2)) hP)) (Tk.put hD2 _ _ ze) (Tk.put hD2 _ _ (n2 _ _ ze))
 ·rintro ys H1 ⟨s1,yl,hP⟩ hD1
  refine⟨D,ys,_,O,hD1,hP,λe he=>q e _ (s1.trans (zf he _)) ⟨_,ze,λcc hcc=>?_⟩⟩
  obtain⟨i,hi⟩:=BN.mp hcc
  have hil:=(AF.mp hi).1
  have en:T.cs.getD i d0=cc:=by
   have:=ge i hil
   rw[hi] at this
   exact (AR this).symm
  refine⟨au i,?_,?_⟩
  ·rw[<- en]
   exact zal (ctOf T au T.cs.length) [] (yq (T.cs.getD i d0),.ref (au i)) (ct_nd nT) (AI.mpr ⟨i,Ab.mpr hil,O⟩)
  ·rw[<- en]
   exact (s1.trans (zf he _)) _ _ (gx i hil).2.2
abbrev Zq:Stmt:=top 26
def Qe:zC ["shapes", "parts", "part"] ["shapes", "parts"] (zn Zq):=⟨rfl,rfl,rfl,by ac_rfl,rfl,by ac_rfl,by ac_rfl⟩
def wo (F:Fun K "check_names" "check_names" Zq f fd) (gb:Gb mg) (d_is_letter:Def P w K mg base 2 "is_letter" ["thing"] xP):ji P w K mg base CX0 3 f fd ["shapes", "parts"] zay:=by
 refine F.ok Qe (λvs H Q E h=>?_) (λcdv A outer s H vs Q E hr h=>?_)
 ·obtain⟨e',l,us,ss,T,L,rfl,_⟩:=h
  rfl
 obtain⟨e',l,us,ss,T,L,rfl,hcd,hl,hP,gS,hL,q⟩:=h
 refine⟨_,(@zo _ _ _ (@zZ _ _ _ _ _ _ _ _ Ad O (@zG _ K _ _ _ (@pw _ 1 _ _ O O) O) (@pgl _ 2 _ _ Qe.nd O O) (@zo _ _ _ (@qX _ _ _ _ _ _ _ _ (@PW.pt _ _ _ (@WT _ _ _ _ _ _ _ (@WU _ _ _ _ (@Zy _ _ _ (@zw _ _ _ _ _ _ _ _ _ _ _ d_is_letter hr (by lia) O (@zd _ _ _ _ _ (@pw _ 2 _ _ O O) (@zg _) O) (by decide) O O) (by intro _;rfl))) (@Jr _ _ _ _ (@zH _ _ _ _ _ _ _ _ (@X0 _ _ hr) (@ql _ _ _ _ _ (@zd _ _ _ _ _ (@zu _ _ _ _ _ _ _ (@zm _ K O) (@pw _ 2 _ _ O O) (@zk _ _ _ _) (λ_ _=>rfl)) (@zd _ _ _ _ _ (@zB _ _ _ _ _ _ _ _ (@WW _) (@zE _ _ _ _ _ _ _ _ _ (@qe _ K O) O gb.len jf (@zd _ _ _ _ _ (@pw _ 2 _ _ O O) (@zg _) O) (by decide) (by decide) O O) (@zk _ _ _ _)) (@zg _) O) O)) (@pw _ 0 _ _ O O) (by with_unfolding_all rfl))))) (@zo _ _ _ (@Jg _ _)) (@zU _))) (by intro _;rfl))),?_⟩
 refine⟨_,O,l,O,⟨_,SqL.of hl⟩,?_⟩
 refine qA (xs:=us) (λi σ H'=>(∃ x2,σ=[some (.ref e'),some (.ref l),x2])/\zD H H') ⟨⟨_,O⟩,zD.refl _⟩ (λi σ H' _ h=>SqL.of (h.2 _ _ hl)) ?_ (λσ H' h=>q H' h.2)
 rintro i x σ H1 hx ⟨⟨x2,rfl⟩,s1⟩
 have hlen:=A3 hP
 have hi:=(AF.mp hx).1
 have hsi:ss[i]? = some ss[i]:=AD (by lia)
 generalize ss[i]=z at hsi
 have iz:=Paired.at hP i _ _ hsi hx
 have gz:=gS z (AJ hsi)
 refine⟨_,O,x,z,O,iz.same s1,λh=>hL _ (gz.letter h),λH2 s2=>⟨_,O,?_⟩⟩
 cases hs:z.isL with
 | true=>exact⟨⟨_,O⟩,s1.trans s2⟩
 | false=>
  obtain⟨t,us2,ev,ht,hP2⟩:=iz.node hs
  obtain⟨⟨c,hc,cn,cp⟩,gps⟩:=gz.node hs
  have hul:=A3 hP2
  have ht2:=s2 _ _ (s1 _ _ ht)
  rw[ev]
  obtain⟨kvs,hk,hv⟩:=(hcd.same s1).same s2
  obtain⟨u,e1,e2⟩:=hv c hc
  refine⟨_,O,.inr (.inl ⟨t,_,_,_,O,O,SqT.of ht2,at0,_,O,_,_,O,.inr ⟨_,SqT.of ht2,O⟩,_,_,O,O,zt (by show 2<=1000;decide),λt3 ht3=>?_⟩)⟩
  have el:V.int (((.str z.nm :: us2:List V).length:Int) - 1)=.int ((c.pl:Nat):Int):=by
   rw[Am,<- hul,cp]
   show V.int _=V.int _
   congr 1
   lia
  dsimp only
  rw[el]
  have n3:=zf ht3 (.tup [.str z.nm,.int ((c.pl:Nat):Int)])
  refine⟨_,O,e',t3,kvs,yq c,O,O,n3 _ _ hk,?_,?_⟩
  ·rw[ze]
   unfold yq
   rw[cn]
   rfl
  rw[e1]
  exact⟨_,O,⟨⟨_,O⟩,s1.trans (s2.trans n3)⟩⟩
abbrev jC:Stmt:=top 10
def j8:zC ["places", "many", "grades", "reached", "place"] ["places", "many", "grades"] (zn jC):=⟨rfl,rfl,rfl,by ac_rfl,rfl,by ac_rfl,by ac_rfl⟩
def wq (F:Fun K "next_places" "next_places" jC f fd) (gb:Gb mg):ji P w K mg base CX0 1 f fd ["places", "many", "grades"] Y6:=by
 refine F.ok j8 (λvs H Q E h=>?_) (λcdv A outer s H vs Q E hr h=>?_)
 ·obtain⟨ps,gs,m,P,G,rfl,_⟩:=h
  rfl
 obtain⟨ps,gs,m,P,G,rfl,m9,hp,hg,p9,g9,q⟩:=h
 have nd0:(["one", "place", "many"]:List Str).Nodup:=by ac_rfl
 refine⟨_,(@zh _ _ _ _ _ (@zr _ _ 3 _ _ _ _ j8.nd O (Or.inl O) (@zS _ _ _ _ (@zg _)) O (by walk_at "f")) (@zh _ _ _ _ _ (@zZ _ _ _ _ _ _ _ _ Ad O (@zG _ K _ _ _ (@pw _ 0 _ _ O O) O) (@Zg _ _ 4 _ j8.nd O (Or.inr O) (by walk_at "f")) (@zo _ _ _ (@qf _ _ _ _ (@qw _ K _ _ _ _ _ _ _ _ _ _ _ AY CU CT (@ZC _) (@pw _ 3 _ _ O O) (@zd _ _ _ _ _ (@zO _ ["one", "place", "many"] [none,some 4,some 1] _ _ _ _ _ _ _ _ _ _ (by exact (show zJ ["places", "many", "grades", "reached", "place"] (zn jC) ["one", "place", "many"] [none,some 4,some 1] _ from⟨O,by ac_rfl,by ac_rfl,by ac_rfl,by ac_rfl,O,by ac_rfl⟩)) O (@piOr _ _ _ _ _ (@zG _ K _ _ _ (@pw _ 2 _ _ O O) O) (@qW _ K _ _ _ (@pw _ 2 _ _ O O) O)) (λ_ _ _ _=>(@pgl _ 0 _ _ nd0 O O)) (λ_ _ _ _=>(@qd _)) (λ_ _ _ _=>(@zB _ _ _ _ _ _ _ _ (@qt _) (@zB _ _ _ _ _ _ _ _ (@jG _) (@pw _ 1 _ _ O O) (@pw _ 2 _ _ O O)) (@pw _ 0 _ _ O O))) (by intro _;rfl)) (@zg _) O) O O O O O O) O)) (by intro _;rfl)) (@zo _ _ _ (@zF _ _ _ _ (@pw _ 3 _ _ O O))))),?_⟩
 refine⟨zt (by show 0<=1000;decide),λrd hrd=>?_⟩
 refine⟨_,O,ps,O,⟨_,SqL.of (zf hrd _ _ _ hp)⟩,?_⟩
 refine qA (xs:=P.map nV) (λi σ H'=>(∃ x,σ=[some (.ref ps),some (nV m),some (.ref gs),some (.ref rd),x])/\zD H H'/\H' rd=some (.lst (((P.take i).flatMap λp=>G.map λg=>p * m+g).map nV))) ⟨⟨_,O⟩,zf hrd _,ze⟩ (λi σ H' _ h=>SqL.of (h.2.1 _ _ hp)) ?_ ?_
 ·rintro i x σ H1 hx ⟨⟨x',rfl⟩,s1,h1⟩
  rw[AH] at hx
  obtain⟨pp,hpp,rfl⟩:=AW.mp hx
  have hlen:(((P.take i).flatMap λp=>G.map λg=>p * m+g).map nV).length<=81:=by
   rw[AB,Tn.flat_len _ G.length (λx=>by rw[AB]),Ai]
   exact Aa (D0 (show _<=9 by lia) g9) (by decide)
  rcases hg with hg | hg
  all_goals
   first
   | (refine⟨_,rfl,.inl ⟨rfl,_,SqL.of h1⟩,.inl ⟨_,rfl,gs,rfl,⟨_,SqL.of (s1 _ _ hg)⟩,λD hD=>qB G nV (λg=>nV (pp * m+g)) (s1 _ _ hg) (by lia) hD (λz hz H' Q' s2 q'=>?_) (λH2 s2 hD2=>?_)⟩⟩)
   | (refine⟨_,rfl,.inl ⟨rfl,_,SqL.of h1⟩,.inr ⟨_,rfl,gs,rfl,⟨_,SqT.of (s1 _ _ hg)⟩,λD hD=>XE G nV (λg=>nV (pp * m+g)) (s1 _ _ hg) (by lia) hD (λz hz H' Q' s2 q'=>?_) (λH2 s2 hD2=>?_)⟩⟩)
   ·have q2:=q' H' zD.rfl'
    rw[show nV (pp * m+z)=V.int ((pp:Int) * (m:Int)+(z:Int)) by show V.int _=_;rw[DV,C8]] at q2
    exact⟨_,O,_,O,_,_,O,O,.inr ⟨by lia,by lia⟩,_,O,_,_,O,O,q2⟩
   ·refine⟨rd,D,_,_,O,O,s2 _ _ h1,hD2,?_,⟨⟨_,O⟩,(s1.trans s2).put hrd,?_⟩⟩
    ·have hG:(G.map λg=>nV (pp * m+g)).length=G.length:=AB ..
     rw[hG]
     exact zt (by lia)
    ·rw[ze,take_snoc hpp,BY,AK]
     simp only[List.flatMap_cons,List.flatMap_nil,List.append_nil,List.map_map]
     rfl
 ·rintro σ H1 ⟨⟨x',rfl⟩,s1,h1⟩
  rw[AB,Ag] at h1
  exact⟨_,O,q rd _ s1 h1⟩
abbrev qN:Stmt:=top 28
def qa:zC ["cells", "many", "S", "sets", "places", "part", "given", "reached"] ["cells", "many", "S", "sets"] (zn qN):=⟨rfl,rfl,rfl,by ac_rfl,rfl,by ac_rfl,by ac_rfl⟩
def QL (F:Fun K "possible_within" "possible_within" qN f fd) (gb:Gb mg) (d_is_letter:Def P w K mg base 2 "is_letter" ["thing"] xP) (d_next_places:Def P w K mg base 1 "next_places" ["places", "many", "grades"] Y6) (j:Nat) (d_possible_within:Def P w K mg base (6+j) "possible_within" ["cells", "many", "S", "sets"] (Y9 j)):ji P w K mg base CX0 (6+j+1) f fd ["cells", "many", "S", "sets"] (Y9 (j+1)):=by
 refine F.ok qa (λvs H Q E h=>?_) (λcdv A outer s H vs Q E hr h=>?_)
 ·obtain⟨e',g,v,T,L,s,ls,rfl,_⟩:=h
  rfl
 obtain⟨e',g,v,T,L,s,ls,rfl,hc,gT,nT,ih,gs,hL,hg,hlt,hj,q⟩:=h
 have nd0:(["place", "given"]:List Str).Nodup:=by ac_rfl
 refine⟨_,(@zh _ _ _ _ _ (@qX _ _ _ _ _ _ _ _ (@Zy _ _ _ (@zw _ _ _ _ _ _ _ _ _ _ _ d_is_letter hr (by lia) O (@zd _ _ _ _ _ (@pw _ 2 _ _ O O) (@zg _) O) (by decide) O O) (by intro _;rfl)) (@zo _ _ _ (@zF _ _ _ _ (@YE _ _ _ _ _ _ _ _ (@zH _ _ _ _ _ _ _ _ (@op_kIn _ _ hr) (@pw _ 2 _ _ O O) (@pw _ 3 _ _ O O) (by with_unfolding_all rfl)) (@zy _ _ _ _ _ _ _ _ _ (@Zl _ K O) O gb.list Qj (@zd _ _ _ _ _ (@Wj _ _ _ _ _ _ (@pw _ 3 _ _ O O) (@pw _ 2 _ _ O O) (λ_ _=>rfl)) (@zg _) O) (by decide) (by decide) O O) (@zy _ _ _ _ _ _ _ _ _ (@QR _ O) O gb.list Qj (@zd _ _ _ _ _ (@XJ _ _ _ _ _ O gb.range (@zd _ _ _ _ _ (@pw _ 1 _ _ O O) (@zg _) O) O) (@zg _) O) (by decide) (by decide) O O)))) (@zU _)) (@zh _ _ _ _ _ (@zr _ _ 4 _ _ _ _ qa.nd O (Or.inl O) (@zS _ _ _ _ (@zd _ _ _ _ _ (@zk _ _ _ _) (@zg _) O)) O (by walk_at "f")) (@zh _ _ _ _ _ (@zZ _ _ _ _ _ _ _ _ Ad O (@qW _ K _ _ _ (@qQ _ _ _ _ _ _ _ _ _ _ (@kslT _ K O) (@pw _ 2 _ _ O O) (@qV _ _ _ (@zk _ _ _ _)) (@Zh _)) O) (@pgl _ 5 _ _ qa.nd O O) (@zo _ _ _ (@zr _ _ 4 _ _ _ _ qa.nd O (Or.inl O) (@zw _ _ _ _ _ _ _ _ _ _ _ d_next_places hr (by lia) O (@zd _ _ _ _ _ (@pw _ 4 _ _ O O) (@zd _ _ _ _ _ (@pw _ 1 _ _ O O) (@zd _ _ _ _ _ (@zw _ _ _ _ _ _ _ _ _ _ _ d_possible_within hr (by lia) O (@zd _ _ _ _ _ (@pw _ 0 _ _ O O) (@zd _ _ _ _ _ (@pw _ 1 _ _ O O) (@zd _ _ _ _ _ (@pw _ 5 _ _ O O) (@zd _ _ _ _ _ (@pw _ 3 _ _ O O) (@zg _) O) O) O) O) (by decide) O O) (@zg _) O) O) O) (by decide) O O) O (by walk_at "f"))) (by intro _;rfl)) (@zh _ _ _ _ _ (@zr _ _ 6 _ _ _ _ qa.nd O (Or.inr O) (@Wg _ _ _ _ _ _ (@hu1 _ _ hr) (@pw _ 0 _ _ O O) (@ql _ _ _ _ _ (@zd _ _ _ _ _ (@zu _ _ _ _ _ _ _ (@zm _ K O) (@pw _ 2 _ _ O O) (@zk _ _ _ _) (λ_ _=>rfl)) (@zd _ _ _ _ _ (@zB _ _ _ _ _ _ _ _ (@WW _) (@zE _ _ _ _ _ _ _ _ _ (@qe _ K O) O gb.len jf (@zd _ _ _ _ _ (@pw _ 2 _ _ O O) (@zg _) O) (by decide) (by decide) O O) (@zk _ _ _ _)) (@zg _) O) O)) (λ_ _=>rfl)) O (by walk_at "f")) (@zh _ _ _ _ _ (@jF _ ["place", "given"] [none,some 6] _ 7 _ _ _ _ _ _ _ _ _ _ _ _ (by exact (show zJ ["cells", "many", "S", "sets", "places", "part", "given", "reached"] (zn qN) ["place", "given"] [none,some 6] _ from⟨O,by ac_rfl,by ac_rfl,by ac_rfl,by ac_rfl,O,by ac_rfl⟩)) O (@zG _ K _ _ _ (@pw _ 4 _ _ O O) O) (λ_ _ _ _=>(@pgl _ 0 _ _ nd0 O O)) (λ_ _ _ _=>(@qd _)) (λ_ _ _ _=>(@zu _ _ _ _ _ _ _ (@zm _ K O) (@pw _ 1 _ _ O O) (@pw _ 0 _ _ O O) (λ_ _=>rfl))) qa.nd O O O (by intro _;rfl)) (@zo _ _ _ (@zF _ _ _ _ (@YE _ _ _ _ _ _ _ _ (@zH _ _ _ _ _ _ _ _ (@qv _ K O) (@wA _ _ _) (@pw _ 7 _ _ O O) (by with_unfolding_all rfl)) (@zy _ _ _ _ _ _ _ _ _ (@QR _ O) O gb.list Qj (@zd _ _ _ _ _ (@XJ _ _ _ _ _ O gb.range (@zd _ _ _ _ _ (@pw _ 1 _ _ O O) (@zg _) O) O) (@zg _) O) (by decide) (by decide) O O) (@zE _ _ _ _ _ _ _ _ _ (@jc _ O) O gb.sorted jK (@zd _ _ _ _ _ (@zy _ _ _ _ _ _ _ _ _ (@Zc _ K O O) O gb.set Jz (@zd _ _ _ _ _ (@pw _ 7 _ _ O O) (@zg _) O) (by decide) (by decide) O O) (@zg _) O) (by decide) (by decide) O O))))))))),?_⟩
 have m9:=gT.m9
 refine⟨_,O,v,s,O,ih,λh=>hL _ (gs.letter h),λH1 s1=>⟨_,O,?_⟩⟩
 cases hs:s.isL with
 | true=>
  have ev:=ih.letter hs
  obtain⟨kvs,hk,hP⟩:=hg.same s1
  have hv:=Y3 hP s.nm
  refine wC ⟨_,O,_,O,g,kvs,Sum.inr s.nm,O,by rw[ev];rfl,hk,?_⟩
  cases hlk:ls.lookup s.nm with
  | some o=>
   rw[hlk] at hv
   obtain⟨u,e1,e2⟩:=hv
   rw[e1]
   refine⟨_,O,wC ⟨_,O,_,O,g,kvs,Sum.inr s.nm,_,O,hk,by rw[ev];rfl,e1,?_⟩⟩
   refine⟨u,_,O,.inr (SqT.of e2),λl hl=>q l [o] _ (s1.trans (zf hl _)) ze (λy=>?_) (show 1<=9 by decide)⟩
   rw[wV hs,hlk,AG]
  | none=>
   rw[hlk] at hv
   have hv:jz kvs (Sum.inr s.nm)=none:=hv
   rw[hv]
   refine⟨_,O,wc ⟨_,O,(T.m:Int),O,λp hp=>?_⟩⟩
   refine⟨p,(T.m:Int),O,ze,by lia,by lia,λl hl=>q l (List.range T.m) _ (s1.trans ((zf hp _).trans (zf hl _))) ?_ (λy=>?_) (by rw[AZ];exact m9)⟩
   ·rw[ze,Av]
   ·rw[wV hs,hlk,Ab]
 | false=>
  refine wc ?_
  obtain⟨t,us,ev,ht,hP⟩:=ih.node hs
  obtain⟨⟨c,hcm,cn,cp⟩,gps⟩:=gs.node hs
  have hul:=A3 hP
  have a2:=Sy.ps_le s
  have ht1:=s1 _ _ ht
  rw[ev]
  refine⟨zt (by show 1<=1000;decide),λr0 hr0=>?_⟩
  have n1:=zf hr0 (.lst [.int 0])
  refine⟨_,O,_,O,?_⟩
  refine Y4 (n1 _ _ ht1) λt2 H2 s2 ht2=>?_
  rw[QG (by simp)] at ht2
  refine⟨t2,O,⟨_,SqT.of ht2⟩,?_⟩
  have S2:=s1.trans (n1.trans s2)
  refine ZA (xs:=us) (λi σ H'=>(∃ (l:Addr) (P:List Nat) (x5:Option V),σ=[some (.ref e'),some (nV T.m),some (.ref t),some (.ref g),some (.ref l),x5,none,none]/\H' l=some (.lst (P.map nV))/\P.length<=9 ^ i/\∀ y,y ∈ P ↔ ∃ r,PosL T ls (s.ps.take i) r/\y=Tn.place T.m r)/\zD H2 H') ⟨⟨r0,[0],_,O,s2 _ _ ze,by decide,λy=>?_⟩,zD.refl _⟩ (λi σ H' _ h=>SqT.of (h.2 _ _ ht2)) ?_ ?_
  ·rw[AG]
   constructor
   ·rintro rfl
    exact⟨[],.nil,O⟩
   ·rintro⟨r,h,e⟩
    cases h
    exact e
  ·rintro i x σ H3 hx ⟨⟨l,P,x5,rfl,hl,hpl,hm⟩,s3⟩
   have hi:i < us.length:=(AF.mp hx).1
   have ha:s.ps[i]? = some s.ps[i]:=AD (by lia)
   generalize s.ps[i]=a at ha
   have hia:=Paired.at hP i _ _ ha hx
   have ham:=AJ ha
   have hda:=Sy.dp_lt ham
   have S3:=S2.trans s3
   have p9:P.length<=9:=by
    have:i=0\/i=1:=by lia
    rcases this with h | h <;> rw[h] at hpl <;> lia
   match j,hj,d_possible_within with
   | 0,hj,_=>exact absurd hj (by lia)
   | j+1,hj,_=>
   refine⟨_,O,_,O,_,O,_,O,_,O,_,O,e',g,x,T,L,a,ls,O,hc.same S3,gT,nT,hia.same S3,gps a ham,hL,hg.same S3,hlt,by lia,λl4 xs H4 s4 h4 hx4 x9=>?_⟩
   refine⟨l,l4,T.m,P,xs,O,m9,s4 _ _ hl,.inl h4,p9,x9,λl5 H5 s5 h5=>⟨⟨l5,_,_,O,h5,?_,λy=>?_⟩,s3.trans (s4.trans s5)⟩⟩
   ·rw[Tn.flat_len _ xs.length (λx=>by rw[AB]),CK]
    exact D0 hpl x9
   ·rw[BW,take_snoc ha]
    constructor
    ·rintro⟨p,hp,hy⟩
     obtain⟨o,ho,rfl⟩:=AI.mp hy
     obtain⟨r,hr',rfl⟩:=(hm p).mp hp
     exact⟨r++[o],zat hr' ((hx4 o).mp ho),(Tn.place_snoc _ _ _).symm⟩
    ·rintro⟨r,hr',rfl⟩
     obtain⟨r',o,rfl,h1,h2⟩:=Q3 hr'
     refine⟨Tn.place T.m r',(hm _).mpr ⟨r',h1,O⟩,AI.mpr ⟨o,(hx4 o).mpr h2,(Tn.place_snoc _ _ _).symm⟩⟩
  ·rintro σ H3 ⟨⟨l,P,x5,rfl,hl,hpl,hm⟩,s3⟩
   rw[<- hul,Ag] at hm
   have p81:P.length<=81:=by
    have:us.length=0\/us.length=1\/us.length=2:=by lia
    rcases this with h | h | h <;> rw[h] at hpl <;> lia
   have S3:=S2.trans s3
   have ht3:=S3 _ _ ht
   obtain⟨kvs,hk,hv⟩:=hc.same S3
   obtain⟨u,e1,e2⟩:=hv c hcm
   refine⟨_,O,_,O,.inr (.inl ⟨t,_,_,_,O,O,SqT.of ht3,at0,_,O,_,_,O,.inr ⟨_,SqT.of ht3,O⟩,_,_,O,O,zt (by show 2<=1000;decide),λt4 ht4=>?_⟩)⟩
   have el:V.int (((.str s.nm :: us:List V).length:Int) - 1)=.int ((c.pl:Nat):Int):=by
    rw[Am,<- hul,cp]
    show V.int _=V.int _
    congr 1
    lia
   dsimp only
   rw[el]
   have n4:=zf ht4 (.tup [.str s.nm,.int ((c.pl:Nat):Int)])
   have hgd:Wf (upd H3 t4 (.tup [.str s.nm,.int ((c.pl:Nat):Int)])) e' (.ref t4) (jz kvs (yq c)):=Wf.t (n4 _ _ hk) (by
    rw[ze]
    unfold yq
    rw[cn]
    rfl)
   rw[e1] at hgd
   refine⟨e',_,O,hgd,?_⟩
   have pw:∀ r,PosL T ls s.ps r->Tn.place T.m r < c.cs.length/\Tn.at' c.cs (Tn.place T.m r)=L4.cellOf T s.nm r/\Tn.at' c.cs (Tn.place T.m r) < T.m:=λr hr'=>by
    have rw':=posL_rw gT nT hlt hr' gps
    rw[<- cp] at rw'
    obtain⟨_,_,c3⟩:=gT.cn c hcm
    have pl:=Tn.place_lt _ _ rw'
    refine⟨by rw[c3.len];exact pl,?_,c3.at_lt pl⟩
    unfold L4.cellOf
    rw[<- cn,qR nT hcm]
   refine⟨_,O,l,O,⟨_,SqL.of (n4 _ _ hl)⟩,λD hD=>?_⟩
   refine qB P nV (λp=>nV (Tn.at' c.cs p)) (n4 _ _ hl) (by lia) hD (λz hz H' Q' s2 q'=>?_) (λH4 s4 hD4=>?_)
   ·obtain⟨r,hr',rfl⟩:=(hm z).mp hz
    exact⟨_,O,_,O,.inr (.inl ⟨u,_,_,_,O,O,SqT.of (s2 _ _ (n4 _ _ e2)),jM (pw r hr').1,q' H' zD.rfl'⟩)⟩
   ·rw[show (P.map λp=>nV (Tn.at' c.cs p))=(P.map (Tn.at' c.cs)).map nV by rw[Ak];rfl] at hD4
    refine⟨_,O,D,_,O,.inl (SqL.of hD4),O,qm _,?_⟩
    rw[no_non]
    refine⟨_,O,wc ?_⟩
    have all9:∀ y ∈ P.map (Tn.at' c.cs),y < T.m:=λy hy=>by
     obtain⟨p,hp,rfl⟩:=AI.mp hy
     obtain⟨r,hr',rfl⟩:=(hm p).mp hp
     exact (pw r hr').2.2
    refine⟨_,O,D,_,O,SqL.of hD4,(λy hy=>Ac (all9 y hy) m9),λsa ds hsa nd hds=>?_⟩
    refine⟨sa,ds,O,ze,λk ms hk' pm so=>q k ms _ (S3.trans (n4.trans (s4.trans ((zf hsa _).trans (zf hk' _))))) ze (λy=>?_) ?_⟩
    ·rw[pm.mem_iff,hds,pos_node hs]
     constructor
     ·intro hy
      obtain⟨p,hp,rfl⟩:=AI.mp hy
      obtain⟨r,hr',rfl⟩:=(hm p).mp hp
      exact⟨r,hr',(pw r hr').2.1⟩
     ·rintro⟨r,hr',rfl⟩
      exact AI.mpr ⟨_,(hm _).mpr ⟨r,hr',O⟩,(pw r hr').2.1⟩
    ·have:=Tn.nodup_len T.m ms (pm.nodup_iff.mpr nd) λy hy=>all9 y ((hds y).mp (pm.mem_iff.mp hy))
     lia
abbrev jP:Stmt:=top 32
def ZS:zC ["T", "premises", "S", "sets", "cells", "premise"] ["T", "premises", "S", "sets"] (zn jP):=⟨rfl,rfl,rfl,by ac_rfl,rfl,by ac_rfl,by ac_rfl⟩
def yD (F:Fun K "is_closed" "is_closed" jP f fd) (gb:Gb mg) (d_cells_by_name:Def P w K mg base 1 "cells_by_name" ["H"] zax) (d_possible_within:Def P w K mg base 18 "possible_within" ["cells", "many", "S", "sets"] (Y9 12)):ji P w K mg base CX0 20 f fd ["T", "premises", "S", "sets"] Wx:=by
 refine F.ok ZS (λvs H Q E h=>?_) (λcdv A outer s H vs Q E hr h=>?_)
 ·obtain⟨v,pl,g,sv,T,L,ps,S,ls,rfl,_⟩:=h
  rfl
 obtain⟨v,pl,g,sv,T,L,ps,S,ls,rfl,ak,hg,hlt,q1,q0⟩:=h
 have nd0:(["one", "T"]:List Str).Nodup:=by ac_rfl
 have nd1:(["one", "T"]:List Str).Nodup:=by ac_rfl
 refine⟨_,(@zh _ _ _ _ _ (@zr _ _ 4 _ _ _ _ ZS.nd O (Or.inl O) (@zw _ _ _ _ _ _ _ _ _ _ _ d_cells_by_name hr (by lia) O (@zd _ _ _ _ _ (@pw _ 0 _ _ O O) (@zg _) O) (by decide) O O) O (by walk_at "f")) (@zh _ _ _ _ _ (@zZ _ _ _ _ _ _ _ _ Ad O (@zG _ K _ _ _ (@pw _ 1 _ _ O O) O) (@pgl _ 5 _ _ ZS.nd O O) (@zo _ _ _ (@qX _ _ _ _ _ _ _ _ (@WU _ _ _ _ (@Zy _ _ _ (@zE _ _ _ _ _ _ _ _ _ (@ym _ K O O) O gb.any bt_any (@zd _ _ _ _ _ (@zO _ ["one", "T"] [none,some 0] _ _ _ _ _ _ _ _ _ _ (by exact (show zJ ["T", "premises", "S", "sets", "cells", "premise"] (zn jP) ["one", "T"] [none,some 0] _ from⟨O,by ac_rfl,by ac_rfl,by ac_rfl,by ac_rfl,O,by ac_rfl⟩)) O (@zG _ K _ _ _ (@zw _ _ _ _ _ _ _ _ _ _ _ d_possible_within hr (by lia) O (@zd _ _ _ _ _ (@pw _ 4 _ _ O O) (@zd _ _ _ _ _ (@zu _ _ _ _ _ _ _ (@zm _ K O) (@pw _ 0 _ _ O O) (@zk _ _ _ _) (λ_ _=>rfl)) (@zd _ _ _ _ _ (@pw _ 5 _ _ O O) (@zd _ _ _ _ _ (@pw _ 3 _ _ O O) (@zg _) O) O) O) O) (by decide) O O) O) (λ_ _ _ _=>(@pgl _ 0 _ _ nd0 O O)) (λ_ _ _ _=>(@qd _)) (λ_ _ _ _=>(@ZB _ _ _ _ _ _ _ _ (@qv _ K O) (@pw _ 0 _ _ O O) (@zu _ _ _ _ _ _ _ (@zm _ K O) (@pw _ 1 _ _ O O) (@zk _ _ _ _) (λ_ _=>rfl)) (by with_unfolding_all rfl))) (by intro _;rfl)) (@zg _) O) (by decide) (by decide) O O) (by intro _;rfl))) (@zo _ _ _ (@zF _ _ _ _ (@yQ _ _ _ _))) (@zU _))) (by intro _;rfl)) (@zo _ _ _ (@zF _ _ _ _ (@zE _ _ _ _ _ _ _ _ _ (@ZG _ K O O) O gb.all W6 (@zd _ _ _ _ _ (@zO _ ["one", "T"] [none,some 0] _ _ _ _ _ _ _ _ _ _ (by exact (show zJ ["T", "premises", "S", "sets", "cells", "premise"] (zn jP) ["one", "T"] [none,some 0] _ from⟨O,by ac_rfl,by ac_rfl,by ac_rfl,by ac_rfl,O,by ac_rfl⟩)) O (@zG _ K _ _ _ (@zw _ _ _ _ _ _ _ _ _ _ _ d_possible_within hr (by lia) O (@zd _ _ _ _ _ (@pw _ 4 _ _ O O) (@zd _ _ _ _ _ (@zu _ _ _ _ _ _ _ (@zm _ K O) (@pw _ 0 _ _ O O) (@zk _ _ _ _) (λ_ _=>rfl)) (@zd _ _ _ _ _ (@pw _ 2 _ _ O O) (@zd _ _ _ _ _ (@pw _ 3 _ _ O O) (@zg _) O) O) O) O) (by decide) O O) O) (λ_ _ _ _=>(@pgl _ 0 _ _ nd1 O O)) (λ_ _ _ _=>(@qd _)) (λ_ _ _ _=>(@ZB _ _ _ _ _ _ _ _ (@qv _ K O) (@pw _ 0 _ _ O O) (@zu _ _ _ _ _ _ _ (@zm _ K O) (@pw _ 1 _ _ O O) (@zk _ _ _ _) (λ_ _=>rfl)) (by with_unfolding_all rfl))) (by intro _;rfl)) (@zg _) O) (by decide) (by decide) O O))))),?_⟩
 obtain⟨a,w0,c0,vs0,rfl,h1,h2,h3,h4⟩:=id ak.tb
 refine⟨_,O,_,T,O,ak.tb,ak.gt,ak.nd,λe' H1 s1 hc=>?_⟩
 refine⟨_,O,pl,O,⟨_,SqL.of (s1 _ _ ak.hp)⟩,?_⟩
 refine qA (xs:=ps.map Prod.fst) (λi σ H'=>(∃ x5,σ=[some (.ref a),some (.ref pl),some sv,some (.ref g),some (.ref e'),x5])/\zD H H'/\zD H1 H'/\∀ z ∈ ps.take i,∃ y,WQ T ls z.2 y/\y ∈ T.ws) ⟨⟨_,O⟩,s1,zD.refl _,(λz hz=>by cases hz)⟩ (λi σ H' _ h=>SqL.of (h.2.1 _ _ ak.hp)) ?_ ?_
 ·rintro i x σ H0 hx' ⟨⟨x5,rfl⟩,s0,s01,hall⟩
  rw[AH] at hx'
  obtain⟨z,hzi,rfl⟩:=AW.mp hx'
  have hzm:=AJ hzi
  obtain⟨gz,dz,_,iz⟩:=ak.ps z hzm
  refine⟨_,O,_,O,.inr (.inl ⟨a,_,0,_,O,O,SqT.of (s0 _ _ h1),O,_,O,_,O,e',g,z.1,T,L,_,ls,O,hc.same s01,ak.gt,ak.nd,iz.same s0,gz,ak.hL,hg.same s0,hlt,show _<=11 by lia,λl xs H2 s2 hl hx x9=>?_⟩)⟩
  refine⟨l,O,⟨_,SqL.of hl⟩,λD hD=>?_⟩
  have h1':=s2 _ _ (s0 _ _ h1)
  have h2':=s2 _ _ (s0 _ _ h2)
  refine qB xs nV (λy=>.bl (decide (y ∈ T.ws))) hl (by lia) hD (λy hy H' Q' s3 q'=>?_) (λH3 s3 hD3=>?_)
  ·refine⟨_,O,_,O,.inr (.inl ⟨a,_,1,_,O,O,SqT.of (s3 _ _ h1'),O,w0,_,O,.inr (SqT.of (s3 _ _ h2')),O,qm _,?_⟩)⟩
   have q2:=q' H' zD.rfl'
   rw[<- j7] at q2
   exact q2
  rw[Wv] at hD3
  refine⟨D,_,O,SqL.of hD3,?_⟩
  refine⟨_,O,?_⟩
  cases hany:(xs.map λy=>decide (y ∈ T.ws)).any id with
  | true=>
   refine⟨⟨_,O⟩,s0.trans (s2.trans s3),s01.trans (s2.trans s3),λz' hz'=>?_⟩
   rw[take_snoc hzi] at hz'
   rcases AV.mp hz' with h | h
   ·exact hall z' h
   ·rw[AG.mp h]
    obtain⟨b,hb,eb⟩:=DO.mp hany
    obtain⟨y,hy,rfl⟩:=AI.mp hb
    exact⟨y,(hx y).mp hy,Ar eb⟩
  | false=>
   refine q1 (.inl ⟨z.2,AI.mpr ⟨z,hzm,O⟩,λy hy hw=>?_⟩) _ (s0.trans (s2.trans s3))
   have:(xs.map λy=>decide (y ∈ T.ws)).any id=true:=DO.mpr ⟨_,AI.mpr ⟨y,(hx y).mpr hy,rfl⟩,An hw⟩
   rw[hany] at this
   cases this
 ·rintro σ H0 ⟨⟨x5,rfl⟩,s0,s01,hall⟩
  rw[AB,Ag] at hall
  refine⟨_,O,_,O,.inr (.inl ⟨a,_,0,_,O,O,SqT.of (s0 _ _ h1),O,_,O,_,O,e',g,sv,T,L,_,ls,O,hc.same s01,ak.gt,ak.nd,ak.sv.same s0,ak.gs,ak.hL,hg.same s0,hlt,show _<=11 from Aa ak.sd (by decide),λl xs H2 s2 hl hx x9=>?_⟩)⟩
  refine⟨l,O,⟨_,SqL.of hl⟩,λD hD=>?_⟩
  have h1':=s2 _ _ (s0 _ _ h1)
  have h2':=s2 _ _ (s0 _ _ h2)
  refine qB xs nV (λy=>.bl (decide (y ∈ T.ws))) hl (by lia) hD (λy hy H' Q' s3 q'=>?_) (λH3 s3 hD3=>?_)
  ·refine⟨_,O,_,O,.inr (.inl ⟨a,_,1,_,O,O,SqT.of (s3 _ _ h1'),O,w0,_,O,.inr (SqT.of (s3 _ _ h2')),O,qm _,?_⟩)⟩
   have q2:=q' H' zD.rfl'
   rw[<- j7] at q2
   exact q2
  rw[Wv] at hD3
  refine⟨D,_,O,SqL.of hD3,?_⟩
  have S3:=s0.trans (s2.trans s3)
  cases hal:(xs.map λy=>decide (y ∈ T.ws)).all id with
  | true=>
   refine q1 (.inr λy hy=>?_) _ S3
   exact Ar (Al.mp hal _ (AI.mpr ⟨y,(hx y).mpr hy,O⟩))
  | false=>
   refine q0 (λclo=>?_) _ S3
   rcases clo with ⟨p,hp,hn⟩ | h
   ·obtain⟨z,hz,rfl⟩:=AI.mp hp
    obtain⟨y,hy,hw⟩:=hall z hz
    exact hn y hy hw
   ·have:(xs.map λy=>decide (y ∈ T.ws)).all id=true:=Al.mpr λb hb=>by
     obtain⟨y,hy,rfl⟩:=AI.mp hb
     exact An (h y ((hx y).mp hy))
    rw[hal] at this
    cases this
abbrev Zr:Stmt:=top 31
def js:zC ["T", "premises", "S", "letters", "sets", "letter", "trees", "one", "answer"] ["T", "premises", "S", "letters", "sets"] (zn Zr):=⟨rfl,rfl,rfl,by ac_rfl,rfl,by ac_rfl,by ac_rfl⟩
def yE (F:Fun K "answer_by" "answer_by" Zr f fd) (gb:Gb mg) (d_is_closed:Def P w K mg base 20 "is_closed" ["T", "premises", "S", "sets"] Wx) (d_with_letter:Def P w K mg base 1 "with_letter" ["by_letter", "letter", "given"] Yh) (j:Nat) (d_answer_by:Def P w K mg base (22+j) "answer_by" ["T", "premises", "S", "letters", "sets"] (Jn j)):ji P w K mg base CX0 (22+j+1) f fd ["T", "premises", "S", "letters", "sets"] (Jn (j+1)):=by
 refine F.ok js (λvs H Q E h=>?_) (λcdv A outer s H vs Q E hr h=>?_)
 ·obtain⟨v,pl,la,g,sv,T,L,ps,S,ls,rfl,_⟩:=h
  rfl
 obtain⟨v,pl,la,g,sv,T,L,ps,S,ls,rfl,ak,nd,hla,hg,hlt,hls,hj,q1,q0⟩:=h
 have nd0:(["letter", "sets"]:List Str).Nodup:=by ac_rfl
 refine⟨_,(@zh _ _ _ _ _ (@qX _ _ _ _ _ _ _ _ (@Zy _ _ _ (@zw _ _ _ _ _ _ _ _ _ _ _ d_is_closed hr (by lia) O (@zd _ _ _ _ _ (@pw _ 0 _ _ O O) (@zd _ _ _ _ _ (@pw _ 1 _ _ O O) (@zd _ _ _ _ _ (@pw _ 2 _ _ O O) (@zd _ _ _ _ _ (@pw _ 4 _ _ O O) (@zg _) O) O) O) O) (by decide) O O) (by intro _;rfl)) (@zo _ _ _ (@zF _ _ _ _ (@ql _ _ _ _ _ (@zd _ _ _ _ _ (@jX _ _ _ _) (@zd _ _ _ _ _ (@ql _ _ _ _ _ (@zd _ _ _ _ _ (@jX _ _ _ _) (@zg _) O)) (@zg _) O) O)))) (@zU _)) (@zh _ _ _ _ _ (@qX _ _ _ _ _ _ _ _ (@zH _ _ _ _ _ _ _ _ (@Qi _) (@zE _ _ _ _ _ _ _ _ _ (@yp _) O gb.len jf (@zd _ _ _ _ _ (@pw _ 4 _ _ O O) (@zg _) O) (by decide) (by decide) O O) (@zE _ _ _ _ _ _ _ _ _ (@qe _ K O) O gb.len jf (@zd _ _ _ _ _ (@pw _ 3 _ _ O O) (@zg _) O) (by decide) (by decide) O O) (@qi _ _ (by decide) (by decide))) (@zo _ _ _ (@zF _ _ _ _ (@ql _ _ _ _ _ (@zd _ _ _ _ _ (@jX _ _ _ _) (@zd _ _ _ _ _ (@YU _ K _ _ _ _ O gb.dict (@zd _ _ _ _ _ (@zO _ ["letter", "sets"] [none,some 4] _ _ _ _ _ _ _ _ _ _ (by exact (show zJ ["T", "premises", "S", "letters", "sets", "letter", "trees", "one", "answer"] (zn Zr) ["letter", "sets"] [none,some 4] _ from⟨O,by ac_rfl,by ac_rfl,by ac_rfl,by ac_rfl,O,by ac_rfl⟩)) O (@zG _ K _ _ _ (@pw _ 3 _ _ O O) O) (λ_ _ _ _=>(@pgl _ 0 _ _ nd0 O O)) (λ_ _ _ _=>(@qd _)) (λ_ _ _ _=>(@ql _ _ _ _ _ (@zd _ _ _ _ _ (@pw _ 0 _ _ O O) (@zd _ _ _ _ _ (@zu _ _ _ _ _ _ _ (@zm _ K O) (@Wj _ _ _ _ _ _ (@pw _ 1 _ _ O O) (@pw _ 0 _ _ O O) (λ_ _=>rfl)) (@zk _ _ _ _) (λ_ _=>rfl)) (@zg _) O) O))) (by intro _;rfl)) (@zg _) O) O O O) (@zg _) O) O)))) (@zU _)) (@zh _ _ _ _ _ (@zr _ _ 5 _ _ _ _ js.nd O (Or.inl O) (@zu _ _ _ _ _ _ _ (@zm _ K O) (@pw _ 3 _ _ O O) (@zE _ _ _ _ _ _ _ _ _ (@yp _) O gb.len jf (@zd _ _ _ _ _ (@pw _ 4 _ _ O O) (@zg _) O) (by decide) (by decide) O O) (λ_ _=>rfl)) O (by walk_at "f")) (@zh _ _ _ _ _ (@zr _ _ 6 _ _ _ _ js.nd O (Or.inl O) (@zS _ _ _ _ (@zg _)) O (by walk_at "f")) (@zh _ _ _ _ _ (@zZ _ _ _ _ _ _ _ _ Ad O (@zR _ _ _ _ _ _ O gb.range (@zd _ _ _ _ _ (@zu _ _ _ _ _ _ _ (@zm _ K O) (@pw _ 0 _ _ O O) (@zk _ _ _ _) (λ_ _=>rfl)) (@zg _) O) O) (@pgl _ 7 _ _ js.nd O O) (@zh _ _ _ _ _ (@zr _ _ 8 _ _ _ _ js.nd O (Or.inl O) (@zw _ _ _ _ _ _ _ _ _ _ _ d_answer_by hr (by lia) O (@zd _ _ _ _ _ (@pw _ 0 _ _ O O) (@zd _ _ _ _ _ (@pw _ 1 _ _ O O) (@zd _ _ _ _ _ (@pw _ 2 _ _ O O) (@zd _ _ _ _ _ (@pw _ 3 _ _ O O) (@zd _ _ _ _ _ (@zw _ _ _ _ _ _ _ _ _ _ _ d_with_letter hr (by lia) O (@zd _ _ _ _ _ (@pw _ 4 _ _ O O) (@zd _ _ _ _ _ (@pw _ 5 _ _ O O) (@zd _ _ _ _ _ (@ql _ _ _ _ _ (@zd _ _ _ _ _ (@pw _ 7 _ _ O O) (@zg _) O)) (@zg _) O) O) O) (by decide) O O) (@zg _) O) O) O) O) O) (by decide) O O) O (by walk_at "f")) (@zh _ _ _ _ _ (@qX _ _ _ _ _ _ _ _ (@zH _ _ _ _ _ _ _ _ (@Qi _) (@zu _ _ _ _ _ _ _ (@zm _ K O) (@pw _ 8 _ _ O O) (@zk _ _ _ _) (λ_ _=>rfl)) (@jX _ _ _ _) (@qi _ _ (by decide) (by decide))) (@zo _ _ _ (@zF _ _ _ _ (@pw _ 8 _ _ O O))) (@zU _)) (@zo _ _ _ (@qf _ _ _ _ (@qw _ K _ _ _ _ _ _ _ _ _ _ _ AY Aq Ap (@zT _) (@pw _ 6 _ _ O O) (@zd _ _ _ _ _ (@zu _ _ _ _ _ _ _ (@zm _ K O) (@pw _ 8 _ _ O O) (@zk _ _ _ _) (λ_ _=>rfl)) (@zg _) O) O O O O O O) O)))) (by intro _;rfl)) (@zo _ _ _ (@zF _ _ _ _ (@ql _ _ _ _ _ (@zd _ _ _ _ _ (@jX _ _ _ _) (@zd _ _ _ _ _ (@ql _ _ _ _ _ (@zd _ _ _ _ _ (@jX _ _ _ _) (@zd _ _ _ _ _ (@pw _ 5 _ _ O O) (@zd _ _ _ _ _ (@zy _ _ _ _ _ _ _ _ _ (@zx _ K O) O gb.tuple qk (@zd _ _ _ _ _ (@pw _ 6 _ _ O O) (@zg _) O) (by decide) (by decide) O O) (@zg _) O) O) O)) (@zg _) O) O))))))))),?_⟩
 obtain⟨a,w0,c0,vs0,rfl,h1,h2,h3,h4⟩:=id ak.tb
 have m9:=ak.gt.m9
 have m1:=ak.gt.m1
 have l5:=ak.ln
 have hll:ls.length<=L.length:=by
  have:=BQ List.length hls
  rw[AB,Ai] at this
  lia
 refine⟨_,O,_,O,_,O,_,O,_,pl,g,sv,T,L,ps,S,ls,O,ak,hg,hlt,λclo H1 s1=>⟨_,O,wC ?_⟩,λnclo H1 s1=>⟨_,O,wc ?_⟩⟩
 ·refine⟨zt (by show 1<=1000;decide),λt1 ht1=>⟨zt (by show 2<=1000;decide),λt2 ht2=>q1 (clo_fol clo) t2 (.ref t1) _ (s1.trans ((zf ht1 _).trans (zf ht2 _))) ze⟩⟩
 obtain⟨kvs,hk,hP⟩:=hg.same s1
 have hkl:=A3 hP
 refine⟨_,O,g,kvs,O,hk,_,O,_,_,O,.inl ⟨_,SqL.of (s1 _ _ hla),O⟩,O,_,O,?_⟩
 rw[AB]
 by_cases hfull:ls.length=L.length
 ·refine iteDT (An (by rw[<- hkl,hfull])) ?_
  rw[hfull,Ag] at hls
  have γd:∃ γ:Str->Nat,Gd T γ/\∀ x ∈ L,ls.lookup x=some (γ x):=by
   refine⟨λx=>(ls.lookup x).getD 0,λx=>?_,λx hx=>?_⟩
   ·show (ls.lookup x).getD 0 < T.m
    cases e:ls.lookup x with
    | none=>exact m1
    | some o=>exact hlt (x,o) (Z1 e)
   ·obtain⟨o,e⟩:=xO nd hls hx
    show ls.lookup x=some ((ls.lookup x).getD 0)
    rw[e]
    rfl
  obtain⟨γ,gd,hγ⟩:=γd
  have kp:Keeps γ ls:=λp hp=>by
   have e1:=zaw (by rw[hls];exact nd) hp
   have e2:=hγ p.1 (by rw[<- hls];exact AI.mpr ⟨p,hp,rfl⟩)
   rw[e1] at e2
   exact (AR e2).symm
  have bar:Bar T γ (ps.map Prod.snd) S:=bar_of nclo (λp hp x hx=>by
   obtain⟨z,hz,rfl⟩:=AI.mp hp
   exact hγ x ((ak.ps z hz).1.lets_in hx)) λx hx=>hγ x (ak.gs.lets_in hx)
  refine⟨_,O,la,O,⟨_,SqL.of (s1 _ _ hla)⟩,λD hD=>?_⟩
  refine Za (xs:=L.map V.str) (λi ys H'=>zD H1 H'/\Prs H' ys ((L.take i).map λx=>((Sum.inr x:Key),nV (γ x)))/\ys.length=i) ⟨zf hD _,.nil,O⟩ (λi ys H' h _=>SqL.of (h.1 _ _ (s1 _ _ hla))) ?_ ?_
  ·rintro i ys H2 y hy ⟨s2,hpr,hyl⟩ hD2
   rw[AH] at hy
   obtain⟨x,hx,rfl⟩:=AW.mp hy
   have hi:=(AF.mp hx).1
   have hv:=Y3 hP x
   rw[hγ x (AJ hx)] at hv
   obtain⟨u,e1,e2⟩:=hv
   refine yes ⟨_,O,_,O,_,O,g,kvs,Sum.inr x,_,O,s2 _ _ hk,O,e1,.inr (.inl ⟨u,_,0,_,O,O,SqT.of (s2 _ _ e2),O,zt (by show 2<=1000;decide),λt3 ht3=>?_⟩)⟩
   have n3:=zf ht3 (.tup [.str x,nV (γ x)])
   have hD3:=n3 _ _ hD2
   refine Q6 (by rw[AB];exact hi) jj hD3 (zq (by lia)) ⟨(s2.trans n3).put hD,?_,by rw[AL,hyl];rfl⟩
   rw[take_snoc hx,AK]
   exact Prs.snoc (p:=(Sum.inr x,nV (γ x))) (Prs.tk (Tk.put hD3) (Prs.tk (Tk.of n3) hpr)) (Tk.put hD3 _ _ ze)
  ·rintro ys H2 ⟨s2,hpr,hyl⟩ hD2
   rw[AB,Ag] at hpr
   refine⟨D,ys,_,O,hD2,hpr,λdd hdd=>?_⟩
   rw[gkv_put nd]
   refine⟨zt (by show 2<=1000;decide),λt5 ht5=>q0 γ gd kp bar t5 dd _ (s1.trans (s2.trans ((zf hdd _).trans (zf ht5 _)))) ze ((zf ht5 _) _ _ ze)⟩
 refine XG (As (by rw[<- hkl];intro z;exact hfull (by have:=V.int.inj z;lia))) ?_
 have hlt2:ls.length < L.length:=by lia
 have hxl:L[ls.length]? = some L[ls.length]:=AD hlt2
 generalize L[ls.length]=x at hxl
 have hxn:x ∉ ls.map Prod.fst:=by
  rw[hls]
  intro hm
  obtain⟨i,hi,e⟩:=List.mem_take_iff_getElem.mp hm
  obtain⟨hk2,e2⟩:=AF.mp hxl
  exact (C2.mp nd) i ls.length (by lia) hk2 (by lia) (by rw[e,e2])
 refine⟨_,O,_,O,g,kvs,O,hk,.inl ⟨la,_,_,.str x,O,O,SqL.of (s1 _ _ hla),(by rw[<- hkl];exact qj (by rw[AH,hxl];rfl)),?_⟩⟩
 refine⟨zt (by show 0<=1000;decide),λtl htl=>?_⟩
 have n1:=zf htl (.lst [])
 refine⟨_,O,.inr (.inl ⟨a,_,0,_,O,O,SqT.of (n1 _ _ (s1 _ _ h1)),O,(T.m:Int),O,by lia,by lia,?_⟩)⟩
 rw[Av]
 have hHtl:=s1.free htl
 refine qY (λi σ H'=>(∃ x7 x8,σ=[some (.ref a),some (.ref pl),some sv,some (.ref la),some (.ref g),some (.str x),some (.ref tl),x7,x8])/\zD H H'/\(∃ ys,H' tl=some (.lst ys)/\ys.length=i)/\∀ o,o < i->FolL T (ls++[(x,o)]) (ps.map Prod.snd) S) ⟨⟨_,_,O⟩,s1.trans n1,⟨[],ze,O⟩,λo ho=>absurd ho (CG _)⟩ ?_ ?_
 ·rintro i σ H2 hi ⟨⟨x7,x8,rfl⟩,s2,⟨ys,hys,hyl⟩,hfol⟩
  match j,hj,d_answer_by with
  | 0,hj,_=>exact absurd hj (by lia)
  | j+1,hj,_=>
  rw[show (0:Int)+(i:Int)=((i:Nat):Int) by lia]
  refine⟨_,O,_,O,_,O,_,O,_,O,_,O,_,O,zt (by show 1<=1000;decide),λu hu=>?_⟩
  have n2:=zf hu (.tup [nV i])
  have S3:=s2.trans n2
  refine⟨g,u,x,i,ls,O,hg.same S3,by lia,hxn,ze,λg' H4 s4 hg'=>?_⟩
  have S4:=S3.trans s4
  have tl4:=s4 _ _ (n2 _ _ hys)
  refine⟨_,pl,la,g',sv,T,L,ps,S,ls++[(x,i)],O,ak.same S4,nd,S4 _ _ hla,hg',(λp hp=>?_),?_,?_,λfol t tv H5 s5 ht=>?_,λγ gd kp bar t dd H5 s5 ht hd=>?_⟩
  ·rcases AV.mp hp with hp | hp
   ·exact hlt p hp
   ·rw[AG.mp hp]
    exact hi
  ·rw[AK,AL,hls]
   exact (take_snoc hxl).symm
  ·rw[AL]
   show L.length<=ls.length+1+j
   lia
  ·refine⟨_,O,.inr (.inl ⟨t,_,0,_,O,O,SqT.of ht,O,O,_,O,XG (by ac_rfl) ?_⟩)⟩
   have tl5:=s5 _ _ tl4
   refine⟨_,O,.inl ⟨O,_,SqL.of tl5⟩,_,O,.inr (.inl ⟨t,_,1,_,O,O,SqT.of ht,O,?_⟩)⟩
   refine⟨tl,_,_,O,O,tl5,zq (by lia),⟨_,_,O⟩,(S4.trans s5).put hHtl,⟨_,ze,by rw[AL,hyl];rfl⟩,λo ho=>?_⟩
   by_cases e:o=i
   ·rw[e]
    exact fol
   ·exact hfol o (by lia)
  ·refine⟨_,O,.inr (.inl ⟨t,_,0,_,O,O,SqT.of ht,O,O,_,O,iteDT (by ac_rfl) ?_⟩)⟩
   exact⟨_,O,q0 γ gd (xN kp) bar t dd H5 (S4.trans s5) ht hd⟩
 ·rintro σ H2 ⟨⟨x7,x8,rfl⟩,s2,⟨ys,hys,hyl⟩,hfol⟩
  refine⟨_,O,_,O,tl,ys,O,.inl ⟨SqL.of hys,λt1 ht1=>?_⟩⟩
  refine⟨zt (by show 3<=1000;decide),λt2 ht2=>⟨zt (by show 2<=1000;decide),λt3 ht3=>q1 (zau x hfol) t3 (.ref t2) _ (s2.trans ((zf ht1 _).trans ((zf ht2 _).trans (zf ht3 _)))) ze⟩⟩
abbrev JZ:Stmt:=top 30
def QV:zC ["T", "premises", "S", "sayings", "saying"] ["T", "premises", "S"] (zn JZ):=⟨rfl,rfl,rfl,by ac_rfl,rfl,by ac_rfl,by ac_rfl⟩
def xV (F:Fun K "follows" "follows" JZ f fd) (gb:Gb mg) (d_check_names:Def P w K mg base 3 "check_names" ["shapes", "parts"] zay) (d_cells_by_name:Def P w K mg base 1 "cells_by_name" ["H"] zax) (d_written_parts:Def P w K mg base 3 "written_parts" ["S"] Y8) (d_letters_of_all:Def P w K mg base 4 "letters_of_all" ["sayings"] Ww) (d_answer_by:Def P w K mg base 28 "answer_by" ["T", "premises", "S", "letters", "sets"] (Jn 6)):ji P w K mg base CX0 30 f fd ["T", "premises", "S"] QH:=by
 refine F.ok QV (λvs H Q E h=>?_) (λcdv A outer s H vs Q E hr h=>?_)
 ·obtain⟨v,pl,sv,T,L,ps,S,rfl,_⟩:=h
  rfl
 obtain⟨v,pl,sv,T,L,ps,S,rfl,ak,q1,q0⟩:=h
 refine⟨_,(@zh _ _ _ _ _ (@zr _ _ 3 _ _ _ _ QV.nd O (Or.inl O) (@zB _ _ _ _ _ _ _ _ (@Ju _) (@zy _ _ _ _ _ _ _ _ _ (@Zl _ K O) O gb.list Qj (@zd _ _ _ _ _ (@pw _ 1 _ _ O O) (@zg _) O) (by decide) (by decide) O O) (@zS _ _ _ _ (@zd _ _ _ _ _ (@pw _ 2 _ _ O O) (@zg _) O))) O (by walk_at "f")) (@zh _ _ _ _ _ (@zZ _ _ _ _ _ _ _ _ Ad O (@zG _ K _ _ _ (@pw _ 3 _ _ O O) O) (@pgl _ 4 _ _ QV.nd O O) (@zo _ _ _ (@qf _ _ _ _ (@zw _ _ _ _ _ _ _ _ _ _ _ d_check_names hr (by lia) O (@zd _ _ _ _ _ (@zw _ _ _ _ _ _ _ _ _ _ _ d_cells_by_name hr (by lia) O (@zd _ _ _ _ _ (@pw _ 0 _ _ O O) (@zg _) O) (by decide) O O) (@zd _ _ _ _ _ (@zw _ _ _ _ _ _ _ _ _ _ _ d_written_parts hr (by lia) O (@zd _ _ _ _ _ (@pw _ 4 _ _ O O) (@zg _) O) (by decide) O O) (@zg _) O) O) (by decide) O O) O)) (by intro _;rfl)) (@zo _ _ _ (@zF _ _ _ _ (@zw _ _ _ _ _ _ _ _ _ _ _ d_answer_by hr (by lia) O (@zd _ _ _ _ _ (@pw _ 0 _ _ O O) (@zd _ _ _ _ _ (@pw _ 1 _ _ O O) (@zd _ _ _ _ _ (@pw _ 2 _ _ O O) (@zd _ _ _ _ _ (@zw _ _ _ _ _ _ _ _ _ _ _ d_letters_of_all hr (by lia) O (@zd _ _ _ _ _ (@pw _ 3 _ _ O O) (@zg _) O) (by decide) O O) (@zd _ _ _ _ _ (@Wh _ _) (@zg _) O) O) O) O) O) (by decide) O O))))),?_⟩
 refine⟨_,O,pl,_,O,.inl (SqL.of ak.hp),λl1 hl1=>?_⟩
 have n1:=zf hl1 (.lst (ps.map Prod.fst))
 refine⟨_,O,zt (by show 1<=1000;decide),λl2 hl2=>?_⟩
 have n2:=zf hl2 (.lst [sv])
 have pn:=ak.pn
 refine⟨l1,l2,_,_,O,O,n2 _ _ ze,ze,by rw[AB];exact zt (by show ps.length+1<=1000;lia),λl3 hl3=>?_⟩
 have n3:=zf hl3 (.lst (ps.map Prod.fst++[sv]))
 have eq3:(ps++[(sv,S)]).map Prod.fst=ps.map Prod.fst++[sv]:=by rw[AK];rfl
 have hl3':=@ze (upd (upd H l1 (.lst (ps.map Prod.fst))) l2 (.lst [sv])) l3 (.lst (ps.map Prod.fst++[sv]))
 rw[<- eq3] at hl3' n3 ⊢
 have S3:=n1.trans (n2.trans n3)
 generalize upd (upd (upd H l1 (.lst (ps.map Prod.fst))) l2 (.lst [sv])) l3 (.lst ((ps++[(sv,S)]).map Prod.fst))=H3 at *
 have allq:∀ z ∈ ps++[(sv,S)],GSt T L z.2/\z.2.sz<=63/\jU H3 z.2 z.1:=λz hz=>by
  rcases AV.mp hz with hz | hz
  ·obtain⟨k1,k2,k3,k4⟩:=ak.ps z hz
   exact⟨k1,k3,k4.same S3⟩
  ·rw[AG.mp hz]
   exact⟨ak.gs,ak.sz,ak.sv.same S3⟩
 refine⟨_,O,l3,O,⟨_,SqL.of hl3'⟩,?_⟩
 refine qA (xs:=(ps++[(sv,S)]).map Prod.fst) (λi σ H'=>(∃ x4,σ=[some v,some (.ref pl),some sv,some (.ref l3),x4])/\zD H3 H') ⟨⟨_,O⟩,zD.refl _⟩ (λi σ H' _ h=>SqL.of (h.2 _ _ hl3')) ?_ ?_
 ·rintro i x σ H4 hx ⟨⟨x4,rfl⟩,s4⟩
  rw[AH] at hx
  obtain⟨z,hzi,rfl⟩:=AW.mp hx
  obtain⟨gz,z63,iz⟩:=allq z (AJ hzi)
  refine⟨_,O,v,T,O,ak.tb.same (S3.trans s4),ak.gt,ak.nd,λe' H5 s5 hc=>⟨_,O,z.1,z.2,O,iz.same (s4.trans s5),WR.of ak.hL gz,z63,λl us H6 s6 hl hP=>⟨e',l,us,z.2.sub,T,L,O,hc.same s6,hl,hP,(λs hs=>gz.sub hs),ak.hL,λH7 s7=>⟨⟨_,O⟩,s4.trans (s5.trans (s6.trans s7))⟩⟩⟩⟩
 ·rintro σ H4 ⟨⟨x4,rfl⟩,s4⟩
  refine⟨_,O,_,O,_,O,_,O,l3,ps++[(sv,S)],L,O,s4 _ _ hl3',(λz hz=>⟨WR.of ak.hL (allq z hz).1,(allq z hz).2.2.same s4⟩),by rw[AL];show ps.length+1<=15;lia,(λz hz=>⟨(allq z hz).2.1,λx hx=>(allq z hz).1.lets_in hx⟩),by have:=ak.ln;lia,λk M H5 s5 hk nd hm so=>λdd hdd=>?_⟩
  have n6:=zf hdd (.dK [])
  have S6:=S3.trans (s4.trans (s5.trans n6))
  have hm2:∀ x,x ∈ M ↔ (∃ z ∈ ps,x ∈ z.2.lets)\/x ∈ S.lets:=λx=>by
   rw[hm]
   constructor
   ·rintro⟨z,hz,hx⟩
    rcases AV.mp hz with hz | hz
    ·exact .inl ⟨z,hz,hx⟩
    ·rw[AG.mp hz] at hx
     exact .inr hx
   ·rintro (⟨z,hz,hx⟩ | hx)
    ·exact⟨z,Ao _ hz,hx⟩
    ·exact⟨(sv,S),Ae _ (AG.mpr rfl),hx⟩
  have hML:∀ x ∈ M,x ∈ L:=λx hx=>by
   rcases (hm2 x).mp hx with ⟨z,hz,hx⟩ | hx
   ·exact (ak.ps z hz).1.lets_in hx
   ·exact ak.gs.lets_in hx
  have hM5:M.length<=5:=Aa (jJ M L nd hML) ak.ln
  refine⟨v,pl,k,dd,sv,T,M,ps,S,[],O,(ak.same S6).lets hML (λz hz x hx=>(hm2 x).mpr (.inl ⟨z,hz,hx⟩)) (λx hx=>(hm2 x).mpr (.inr hx)) hM5,nd,n6 _ _ hk,⟨[],ze,.nil⟩,(λp hp=>by cases hp),O,(show M.length<=0+5 by lia),λfol t tv H7 s7 ht=>q1 (fol_nil.mp fol) t tv H7 (S6.trans s7) ht,λγ gd _ bar t d' H7 s7 ht hd=>q0 γ M gd bar nd hm2 t d' H7 (S6.trans s7) ht hd⟩
abbrev Ze:Stmt:=top 38
def jQ:zC ["T", "steps", "name", "places", "cells"] ["T"] (zn Ze):=⟨rfl,rfl,rfl,by ac_rfl,rfl,by ac_rfl,by ac_rfl⟩
def Yw (F:Fun K "steps_of" "steps_of" Ze f fd) (gb:Gb mg):ji P w K mg base CX0 1 f fd ["T"] Yq:=by
 refine F.ok jQ (λvs H Q E h=>?_) (λcdv A outer s H vs Q E hr h=>?_)
 ·obtain⟨v,T,rfl,_⟩:=h
  rfl
 obtain⟨v,T,rfl,ia,gT,q⟩:=h
 have nd0:(["other", "name"]:List Str).Nodup:=by ac_rfl
 have nd1:(["other", "name"]:List Str).Nodup:=by ac_rfl
 refine⟨_,(@zh _ _ _ _ _ (@zr _ _ 1 _ _ _ _ jQ.nd O (Or.inl O) (@zS _ _ _ _ (@zg _)) O (by walk_at "f")) (@zh _ _ _ _ _ (@zZ _ _ _ _ _ _ _ _ Ad O (@qW _ K _ _ _ (@zu _ _ _ _ _ _ _ (@zm _ K O) (@pw _ 0 _ _ O O) (@zk _ _ _ _) (λ_ _=>rfl)) O) (@jv _ K _ _ _ _ 3 O (@zI _ _ _ _ _ (@Zg _ _ 2 _ jQ.nd O (Or.inr O) (by walk_at "f")) (@zI _ _ _ _ _ (@pgl _ 3 _ _ jQ.nd O O) (@zI _ _ _ _ _ (@pgl _ 4 _ _ jQ.nd O O) (@jt _) O) O) O) O O O) (@zh _ _ _ _ _ (@qX _ _ _ _ _ _ _ _ (@zH _ _ _ _ _ _ _ _ (@Qi _) (@pw _ 3 _ _ O O) (@zk _ _ _ _) (@qi _ _ (by decide) (by decide))) (@zo _ _ _ (@qf _ _ _ _ (@qw _ K _ _ _ _ _ _ _ _ _ _ _ AY Aq Ap (@zT _) (@pw _ 1 _ _ O O) (@zd _ _ _ _ _ (@ql _ _ _ _ _ (@zd _ _ _ _ _ (@pw _ 2 _ _ O O) (@zd _ _ _ _ _ (@zk _ _ _ _) (@zd _ _ _ _ _ (@wA _ _ _) (@zg _) O) O) O)) (@zg _) O) O O O O O O) O)) (@zU _)) (@zo _ _ _ (@qX _ _ _ _ _ _ _ _ (@zH _ _ _ _ _ _ _ _ (@Qi _) (@pw _ 3 _ _ O O) (@zk _ _ _ _) (@qi _ _ (by decide) (by decide))) (@zh _ _ _ _ _ (@qf _ _ _ _ (@qw _ K _ _ _ _ _ _ _ _ _ _ _ AY CU CT (@ZC _) (@pw _ 1 _ _ O O) (@zd _ _ _ _ _ (@zO _ ["other", "name"] [none,some 2] _ _ _ _ _ _ _ _ _ _ (by exact (show zJ ["T", "steps", "name", "places", "cells"] (zn Ze) ["other", "name"] [none,some 2] _ from⟨O,by ac_rfl,by ac_rfl,by ac_rfl,by ac_rfl,O,by ac_rfl⟩)) O (@zR _ _ _ _ _ _ O gb.range (@zd _ _ _ _ _ (@zu _ _ _ _ _ _ _ (@zm _ K O) (@pw _ 0 _ _ O O) (@zk _ _ _ _) (λ_ _=>rfl)) (@zg _) O) O) (λ_ _ _ _=>(@pgl _ 0 _ _ nd0 O O)) (λ_ _ _ _=>(@qd _)) (λ_ _ _ _=>(@ql _ _ _ _ _ (@zd _ _ _ _ _ (@pw _ 1 _ _ O O) (@zd _ _ _ _ _ (@zk _ _ _ _) (@zd _ _ _ _ _ (@pw _ 0 _ _ O O) (@zg _) O) O) O))) (by intro _;rfl)) (@zg _) O) O O O O O O) O) (@zo _ _ _ (@qf _ _ _ _ (@qw _ K _ _ _ _ _ _ _ _ _ _ _ AY CU CT (@ZC _) (@pw _ 1 _ _ O O) (@zd _ _ _ _ _ (@zO _ ["other", "name"] [none,some 2] _ _ _ _ _ _ _ _ _ _ (by exact (show zJ ["T", "steps", "name", "places", "cells"] (zn Ze) ["other", "name"] [none,some 2] _ from⟨O,by ac_rfl,by ac_rfl,by ac_rfl,by ac_rfl,O,by ac_rfl⟩)) O (@zR _ _ _ _ _ _ O gb.range (@zd _ _ _ _ _ (@zu _ _ _ _ _ _ _ (@zm _ K O) (@pw _ 0 _ _ O O) (@zk _ _ _ _) (λ_ _=>rfl)) (@zg _) O) O) (λ_ _ _ _=>(@pgl _ 0 _ _ nd1 O O)) (λ_ _ _ _=>(@qd _)) (λ_ _ _ _=>(@ql _ _ _ _ _ (@zd _ _ _ _ _ (@pw _ 1 _ _ O O) (@zd _ _ _ _ _ (@zk _ _ _ _) (@zd _ _ _ _ _ (@pw _ 0 _ _ O O) (@zg _) O) O) O))) (by intro _;rfl)) (@zg _) O) O O O O O O) O))) (@zU _)))) (by intro _;rfl)) (@zo _ _ _ (@zF _ _ _ _ (@pw _ 1 _ _ O O))))),?_⟩
 obtain⟨a,w0,c,vs,rfl,h1,h2,h3,h4⟩:=id ia
 have m9:=gT.m9
 have gcl:=gT.cl
 refine⟨zt (by show 0<=1000;decide),λsl hsl=>?_⟩
 have n0:=zf hsl (.lst [])
 refine⟨_,O,.inr (.inl ⟨a,_,2,_,O,O,SqT.of (n0 _ _ h1),O,c,O,⟨_,SqT.of (n0 _ _ h3)⟩,?_⟩)⟩
 refine ZA (xs:=vs) (λi σ H'=>(∃ x2 x3 x4,σ=[some (.ref a),some (.ref sl),x2,x3,x4])/\zD H H'/\∃ xs,H' sl=some (.lst xs)/\Sts H' ((T.cs.take i).flatMap (Xd T.m)) xs) ⟨⟨_,_,_,O⟩,n0,[],ze,.nil⟩ (λi σ H' _ h=>SqT.of (h.2.1 _ _ h3)) ?_ ?_
 ·rintro i x σ H1 hx ⟨⟨x2,x3,x4,rfl⟩,s1,xs,hs,hS⟩
  have hi:i < T.cs.length:=by
   rw[h4.len]
   exact (AF.mp hx).1
  have hcc:T.cs[i]? = some T.cs[i]:=AD hi
  generalize T.cs[i]=cc at hcc
  obtain⟨nl,p2,cs3⟩:=gT.cn cc (AJ hcc)
  obtain⟨t,u,e1,k1,k2⟩:=h4.get hcc
  rw[hx] at e1
  cases e1
  have xl:xs.length<=18 * 16:=by
   have l1:=A3 hS
   have l2:=WF m9 (T.cs.take i)
   rw[Ai] at l2
   lia
  refine⟨t,_,O,SqT.of (s1 _ _ k1),O,_,_,O,_,_,O,_,_,O,O,?_⟩
  refine⟨_,O,O,_,O,?_⟩
  by_cases p1:cc.pl=1
  ·refine Zz (λ_=>?_) (λz=>absurd (An (by rw[p1];rfl)) z)
   refine⟨_,O,.inl ⟨O,_,SqL.of hs⟩,_,O,zt (by show 3<=1000;decide),λt1 ht1=>?_⟩
   have n1:=zf ht1 (.tup [.str cc.nm,.int 0,.non])
   have hs1:=n1 _ _ hs
   refine⟨sl,_,_,O,O,hs1,zq (by lia),?_⟩
   refine⟨_,O,O,_,O,?_⟩
   refine Zz (λz=>absurd (Ar z) (zaJ (k:=2) (by lia))) (λ_=>?_)
   refine⟨⟨_,_,_,O⟩,(s1.trans n1).put hsl,_,ze,?_⟩
   rw[take_snoc hcc,BY]
   have e:[cc].flatMap (Xd T.m)=[(cc,0,none)]:=by
    rw[Ds]
    unfold Xd
    rw[if_pos p1,if_neg (by lia),Bt]
   rw[e]
   exact Sts.app (Sts.tk ((Tk.of n1).trans (Tk.put hs1)) hS) (.cons ⟨t1,O,Tk.put hs1 _ _ ze⟩ .nil)
  refine Zz (λz=>absurd (Ar z) (zaJ (k:=1) p1)) (λ_=>?_)
  refine⟨_,O,O,_,O,?_⟩
  by_cases p2':cc.pl=2
  ·refine Zz (λ_=>?_) (λz=>absurd (An (by rw[p2'];rfl)) z)
   have half:∀ (k:Nat) (H2:Hp) (D:Addr) (Q:VK),H2 D=none->(∀ ys H3,zD H2 H3->H3 D=some (.lst ys)->ys.length=T.m->Sts H3 ((List.range T.m).map λo=>(cc,k,some o)) ys->Q (.ref D) H3) ->
     jI (Itr 0 T.m) (jh 0) tYes (tTup (tCons (tVar 1) (tCons (tC (nV k)) (tCons (tVar 0) tNil)))) [none,some (.str cc.nm)] H2 Q D:=λk H2 D Q hD q2=>by
    refine qL (λj ys H'=>zD H2 H'/\ys.length=j/\Sts H' ((List.range j).map λo=>(cc,k,some o)) ys) ⟨zf hD _,O,.nil⟩ ?_ ?_
    ·rintro j ys H3 hj ⟨s3,yl,hY⟩ hD3
     refine yes ⟨_,O,_,O,zt (by show 3<=1000;decide),λt1 ht1=>?_⟩
     have n1:=zf ht1 (.tup [.str cc.nm,nV k,.int (0+(j:Int))])
     have hD4:=n1 _ _ hD3
     refine Q6 hj jj hD4 (zq (by lia)) ⟨(s3.trans n1).put hD,by rw[AL,yl];rfl,?_⟩
     rw[BI,AK]
     refine Sts.app (Sts.tk ((Tk.of n1).trans (Tk.put hD4)) hY) (.cons ⟨t1,O,Tk.put hD4 _ _ ?_⟩ .nil)
     rw[ze,BS]
     rfl
    ·rintro ys H3 ⟨s3,yl,hY⟩ hD3
     exact q2 ys H3 s3 hD3 yl hY
   refine⟨_,O,.inl ⟨O,_,SqL.of hs⟩,?_⟩
   refine⟨_,O,.inr (.inl ⟨a,_,0,_,O,O,SqT.of (s1 _ _ h1),O,(T.m:Int),O,by lia,by lia,λD hD=>?_⟩)⟩
   rw[Av]
   refine half 0 H1 D _ hD λys H2 s2 hD2 yl hY=>?_
   have hs2:=s2 _ _ hs
   refine⟨sl,D,_,_,O,O,hs2,hD2,zt (by lia),?_⟩
   have Dsl:D ≠ sl:=λz=>by rw[z,hs] at hD;cases hD
   have s02:zD H (upd H2 sl (.lst (xs++ys))):=(s1.trans s2).put hsl
   have hs2':(upd H2 sl (.lst (xs++ys))) sl=some (.lst (xs++ys)):=ze
   have hS2:Sts (upd H2 sl (.lst (xs++ys))) ((T.cs.take i).flatMap (Xd T.m)++(List.range T.m).map λo=>(cc,0,some o)) (xs++ys):=Sts.tk (Tk.put hs2) (Sts.app (Sts.tk (Tk.of s2) hS) hY)
   generalize upd H2 sl (.lst (xs++ys))=H3 at *
   refine⟨_,O,.inl ⟨O,_,SqL.of hs2'⟩,?_⟩
   refine⟨_,O,.inr (.inl ⟨a,_,0,_,O,O,SqT.of (s02 _ _ h1),O,(T.m:Int),O,by lia,by lia,λD3 hD3=>?_⟩)⟩
   rw[Av]
   refine half 1 H3 D3 _ hD3 λzs H4 s4 hD4 zl hZ=>?_
   have hs4:=s4 _ _ hs2'
   refine⟨sl,D3,_,_,O,O,hs4,hD4,zt (by rw[AL];lia),?_⟩
   refine⟨⟨_,_,_,O⟩,(s02.trans s4).put hsl,_,ze,?_⟩
   rw[take_snoc hcc,BY]
   have e:[cc].flatMap (Xd T.m)=(List.range T.m).map (λo=>(cc,0,some o))++(List.range T.m).map (λo=>(cc,1,some o)):=by
    rw[Ds]
    unfold Xd
    rw[if_pos p2',if_neg p1,Dy]
   rw[e,<- Cq]
   exact Sts.tk (Tk.put hs4) (Sts.app (Sts.tk (Tk.of s4) hS2) hZ)
  refine Zz (λz=>absurd (Ar z) (zaJ (k:=2) p2')) (λ_=>?_)
  refine⟨⟨_,_,_,O⟩,s1,_,hs,?_⟩
  rw[take_snoc hcc,BY]
  have e:[cc].flatMap (Xd T.m)=[]:=by
   rw[Ds]
   unfold Xd
   rw[if_neg p1,if_neg p2',Dy]
  rw[e,Bt]
  exact hS
 ·rintro σ H1 ⟨⟨x2,x3,x4,rfl⟩,s1,xs,hs,hS⟩
  rw[show T.cs.take vs.length=T.cs by rw[<- h4.len,Ag]] at hS
  exact⟨_,O,q sl xs H1 hsl s1 hs hS⟩
abbrev J1:Stmt:=top 39
def xW:zC ["cells", "many", "step", "x"] ["cells", "many", "step", "x"] (zn J1):=⟨rfl,rfl,rfl,by ac_rfl,rfl,by ac_rfl,by ac_rfl⟩
def xX (F:Fun K "stepped" "stepped" J1 f fd) (gb:Gb mg):ji P w K mg base CX0 1 f fd ["cells", "many", "step", "x"] JY:=by
 refine F.ok xW (λvs H Q E h=>?_) (λcdv A outer s H vs Q E hr h=>?_)
 ·obtain⟨e',t,T,s,x,rfl,_⟩:=h
  rfl
 obtain⟨e',t,T,s,x,rfl,hc,gT,hs,ht,hx,q⟩:=h
 refine⟨_,(@zh _ _ _ _ _ (@qX _ _ _ _ _ _ _ _ (@zH _ _ _ _ _ _ _ _ (@op_isN _) (@zu _ _ _ _ _ _ _ (@zm _ K O) (@pw _ 2 _ _ O O) (@zk _ _ _ _) (λ_ _=>rfl)) (@wA _ _ _) (@qi _ _ (by decide) (by decide))) (@zo _ _ _ (@zF _ _ _ _ (@zu _ _ _ _ _ _ _ (@zm _ K O) (@Wg _ _ _ _ _ _ (@hu1 _ _ hr) (@pw _ 0 _ _ O O) (@ql _ _ _ _ _ (@zd _ _ _ _ _ (@zu _ _ _ _ _ _ _ (@zm _ K O) (@pw _ 2 _ _ O O) (@zk _ _ _ _) (λ_ _=>rfl)) (@zd _ _ _ _ _ (@zk _ _ _ _) (@zg _) O) O)) (λ_ _=>rfl)) (@pw _ 3 _ _ O O) (λ_ _=>rfl)))) (@zU _)) (@zh _ _ _ _ _ (@qX _ _ _ _ _ _ _ _ (@zH _ _ _ _ _ _ _ _ (@Qi _) (@zu _ _ _ _ _ _ _ (@zm _ K O) (@pw _ 2 _ _ O O) (@zk _ _ _ _) (λ_ _=>rfl)) (@zk _ _ _ _) (@qi _ _ (by decide) (by decide))) (@zo _ _ _ (@zF _ _ _ _ (@zu _ _ _ _ _ _ _ (@zm _ K O) (@Wg _ _ _ _ _ _ (@hu1 _ _ hr) (@pw _ 0 _ _ O O) (@ql _ _ _ _ _ (@zd _ _ _ _ _ (@zu _ _ _ _ _ _ _ (@zm _ K O) (@pw _ 2 _ _ O O) (@zk _ _ _ _) (λ_ _=>rfl)) (@zd _ _ _ _ _ (@zk _ _ _ _) (@zg _) O) O)) (λ_ _=>rfl)) (@zB _ _ _ _ _ _ _ _ (@qt _) (@zB _ _ _ _ _ _ _ _ (@jG _) (@pw _ 3 _ _ O O) (@pw _ 1 _ _ O O)) (@zu _ _ _ _ _ _ _ (@zm _ K O) (@pw _ 2 _ _ O O) (@zk _ _ _ _) (λ_ _=>rfl))) (λ_ _=>rfl)))) (@zU _)) (@zo _ _ _ (@zF _ _ _ _ (@zu _ _ _ _ _ _ _ (@zm _ K O) (@Wg _ _ _ _ _ _ (@hu1 _ _ hr) (@pw _ 0 _ _ O O) (@ql _ _ _ _ _ (@zd _ _ _ _ _ (@zu _ _ _ _ _ _ _ (@zm _ K O) (@pw _ 2 _ _ O O) (@zk _ _ _ _) (λ_ _=>rfl)) (@zd _ _ _ _ _ (@zk _ _ _ _) (@zg _) O) O)) (λ_ _=>rfl)) (@zB _ _ _ _ _ _ _ _ (@qt _) (@zB _ _ _ _ _ _ _ _ (@jG _) (@zu _ _ _ _ _ _ _ (@zm _ K O) (@pw _ 2 _ _ O O) (@zk _ _ _ _) (λ_ _=>rfl)) (@pw _ 1 _ _ O O)) (@pw _ 3 _ _ O O)) (λ_ _=>rfl)))))),?_⟩
 obtain⟨kvs,he,hv⟩:=id hc
 obtain⟨c,hcm,hcs⟩:=zaL hs
 obtain⟨u,hu1,hu2⟩:=hv c hcm
 obtain⟨_,_,cs3⟩:=gT.cn c hcm
 have m9:=gT.m9
 refine⟨_,O,.inr (.inl ⟨t,_,2,_,O,O,SqT.of ht,O,O,_,O,?_⟩)⟩
 rcases hcs with ⟨p1,rfl⟩ | ⟨p2,o,ho,hs2⟩
 ·refine Zz (λ_=>?_) (λz=>absurd (An rfl) z)
  refine⟨_,O,_,O,.inr (.inl ⟨t,_,0,_,O,O,SqT.of ht,O,zt (by show 2<=1000;decide),λkt hkt=>?_⟩)⟩
  have n1:=zf hkt (.tup [.str c.nm,.int 1])
  have hg:Wf (upd H kt (.tup [.str c.nm,.int 1])) e' (.ref kt) (jz kvs (yq c)):=Wf.t (n1 _ _ he) (by rw[ze];unfold yq;rw[p1];rfl)
  rw[hu1] at hg
  refine⟨e',_,O,hg,?_⟩
  refine⟨_,O,.inr (.inl ⟨u,_,_,_,O,O,SqT.of (n1 _ _ hu2),jM (by rw[cs3.len,p1,C9];exact hx),q _ n1⟩)⟩
 have two:∀ a b,a < T.m->b < T.m->a * T.m+b < c.cs.length:=λa b ha hb=>by
  rw[cs3.len,p2]
  have:(a+1) * T.m<=T.m * T.m:=BM _ ha
  rw[Nat.add_mul] at this
  show _ < T.m ^ 2
  rw[CK,C9]
  lia
 have ix:∀ a b:Nat,a < T.m->b < T.m->atI (c.cs.map nV) ((a:Int) * (T.m:Int)+(b:Int))=some (nV (Tn.at' c.cs (a * T.m+b))):=λa b ha hb=>by
  rw[<- C8,<- DV]
  exact jM (two a b ha hb)
 have go:∀ k:Nat,s=(c,k,some o)->nO s.2.2=nV o/\stV s=[.str c.nm,nV k,nV o]:=λk e=>by rw[e];exact⟨rfl,rfl⟩
 rcases hs2 with e | e
 ·obtain⟨g1,g2⟩:=go 0 e
  rw[g2] at ht
  rw[g1]
  refine Zz (λz=>absurd (Ar z) (by intro h;cases h)) (λ_=>?_)
  refine⟨_,O,.inr (.inl ⟨t,_,1,_,O,O,SqT.of ht,O,O,_,O,?_⟩)⟩
  refine Zz (λ_=>?_) (λz=>absurd (An rfl) z)
  refine⟨_,O,_,O,.inr (.inl ⟨t,_,0,_,O,O,SqT.of ht,O,zt (by show 2<=1000;decide),λkt hkt=>?_⟩)⟩
  have n1:=zf hkt (.tup [.str c.nm,.int 2])
  have hg:Wf (upd H kt (.tup [.str c.nm,.int 2])) e' (.ref kt) (jz kvs (yq c)):=Wf.t (n1 _ _ he) (by rw[ze];unfold yq;rw[p2];rfl)
  rw[hu1] at hg
  refine⟨e',_,O,hg,?_⟩
  refine⟨_,O,_,O,_,_,O,O,.inr ⟨by lia,by lia⟩,_,O,.inr (.inl ⟨t,_,2,_,O,O,SqT.of (n1 _ _ ht),O,_,_,O,O,?_⟩)⟩
  have q1:=q _ n1
  rw[e] at q1
  exact .inr (.inl ⟨u,_,_,_,O,O,SqT.of (n1 _ _ hu2),ix x o hx ho,q1⟩)
 ·obtain⟨g1,g2⟩:=go 1 e
  rw[g2] at ht
  rw[g1]
  refine Zz (λz=>absurd (Ar z) (by intro h;cases h)) (λ_=>?_)
  refine⟨_,O,.inr (.inl ⟨t,_,1,_,O,O,SqT.of ht,O,O,_,O,?_⟩)⟩
  refine Zz (λz=>absurd (Ar z) (zaJ (n:=1) (k:=0) (by decide))) (λ_=>?_)
  refine⟨_,O,_,O,.inr (.inl ⟨t,_,0,_,O,O,SqT.of ht,O,zt (by show 2<=1000;decide),λkt hkt=>?_⟩)⟩
  have n1:=zf hkt (.tup [.str c.nm,.int 2])
  have hg:Wf (upd H kt (.tup [.str c.nm,.int 2])) e' (.ref kt) (jz kvs (yq c)):=Wf.t (n1 _ _ he) (by rw[ze];unfold yq;rw[p2];rfl)
  rw[hu1] at hg
  refine⟨e',_,O,hg,?_⟩
  refine⟨_,O,.inr (.inl ⟨t,_,2,_,O,O,SqT.of (n1 _ _ ht),O,_,O,_,_,O,O,.inr ⟨by lia,by lia⟩,_,O,_,_,O,O,?_⟩)⟩
  have q1:=q _ n1
  rw[e] at q1
  exact .inr (.inl ⟨u,_,_,_,O,O,SqT.of (n1 _ _ hu2),ix o x ho hx,q1⟩)
abbrev jn:Stmt:=top 35
def J2:zC ["things"] ["things"] (zn jn):=⟨rfl,rfl,rfl,by ac_rfl,rfl,by ac_rfl,by ac_rfl⟩
def J3 (F:Fun K "first_places" "first_places" jn f fd) (gb:Gb mg):ji P w K mg base CX0 1 f fd ["things"] WG:=by
 refine F.ok J2 (λvs H Q E h=>?_) (λcdv A outer s H vs Q E hr h=>?_)
 ·obtain⟨l,bs,rfl,_⟩:=h
  rfl
 obtain⟨l,bs,rfl,hl,h9,q⟩:=h
 have nd0:(["thing", "things"]:List Str).Nodup:=by ac_rfl
 refine⟨_,(@zo _ _ _ (@zF _ _ _ _ (@zO _ ["thing", "things"] [none,some 0] _ _ _ _ _ _ _ _ _ _ (by exact (show zJ ["things"] (zn jn) ["thing", "things"] [none,some 0] _ from⟨O,by ac_rfl,by ac_rfl,by ac_rfl,by ac_rfl,O,by ac_rfl⟩)) O (@zG _ K _ _ _ (@pw _ 0 _ _ O O) O) (λ_ _ _ _=>(@pgl _ 0 _ _ nd0 O O)) (λ_ _ _ _=>(@qd _)) (λ_ _ _ _=>(@qw _ K _ _ _ _ _ _ _ _ _ _ _ AY PySem.F.slot_list_index PySem.F.type_list_index (@zai _) (@pw _ 1 _ _ O O) (@zd _ _ _ _ _ (@pw _ 0 _ _ O O) (@zg _) O) O O O O O O)) (by intro _;rfl)))),?_⟩
 refine⟨_,O,l,O,⟨_,SqL.of hl⟩,λD hD=>?_⟩
 refine qB bs V.bl (λb=>nV (bs.idxOf b)) hl (by lia) hD (λb hb H' Q' s q'=>?_) (λH1 s1 hD1=>q D H1 s1 (by rw[hD1];unfold Tn.fp;rw[List.map_map];rfl))
 refine⟨_,O,.inl ⟨O,_,SqL.of (s _ _ hl)⟩,_,O,l,_,_,bs.idxOf b,O,O,s _ _ hl,O,?_,⟨_,by rw[AH,Tn.idx_get hb];rfl,?_⟩,λm v hm hv=>?_,q' H' zD.rfl'⟩
 ·rw[Al]
  intro x hx
  obtain⟨y,_,rfl⟩:=AI.mp hx
  rfl
 ·show (b == b)=true
  simp
 ·rw[AH] at hv
  obtain⟨y,hy,rfl⟩:=AW.mp hv
  have:=wY hm hy
  show (y == b)=false
  simpa using this
abbrev je:Stmt:=top 35
def Je:zC ["things"] ["things"] (zn je):=⟨rfl,rfl,rfl,by ac_rfl,rfl,by ac_rfl,by ac_rfl⟩
def Jf (F:Fun K "first_places" "first_places" je f fd) (gb:Gb mg):ji P w K mg base CX0 1 f fd ["things"] WH:=by
 refine F.ok Je (λvs H Q E h=>?_) (λcdv A outer s H vs Q E hr h=>?_)
 ·obtain⟨l,D,xs,nss,n,rfl,_⟩:=h
  rfl
 obtain⟨l,D,xs,nss,n,rfl,hl,hL,hln,h9,q⟩:=h
 have nd0:(["thing", "things"]:List Str).Nodup:=by ac_rfl
 refine⟨_,(@zo _ _ _ (@zF _ _ _ _ (@zO _ ["thing", "things"] [none,some 0] _ _ _ _ _ _ _ _ _ _ (by exact (show zJ ["things"] (zn je) ["thing", "things"] [none,some 0] _ from⟨O,by ac_rfl,by ac_rfl,by ac_rfl,by ac_rfl,O,by ac_rfl⟩)) O (@zG _ K _ _ _ (@pw _ 0 _ _ O O) O) (λ_ _ _ _=>(@pgl _ 0 _ _ nd0 O O)) (λ_ _ _ _=>(@qd _)) (λ_ _ _ _=>(@qw _ K _ _ _ _ _ _ _ _ _ _ _ AY PySem.F.slot_list_index PySem.F.type_list_index (@xH _ _ hr) (@pw _ 1 _ _ O O) (@zd _ _ _ _ _ (@pw _ 0 _ _ O O) (@zg _) O) O O O O O O)) (by intro _;rfl)))),?_⟩
 have hxl:=hL.len
 refine⟨_,O,l,O,⟨_,SqL.of hl⟩,λD2 hD2=>?_⟩
 refine Za (xs:=xs) (λi ys H'=>zD H H'/\ys=((nss.take i).map λns=>nV (ixo nss ns))) ⟨zf hD2 _,O⟩ (λi ys H' h _=>SqL.of (h.1 _ _ hl)) ?_ ?_
 ·rintro i ys H1 x hx ⟨s1,rfl⟩ hD1
  have hi:i < xs.length:=(AF.mp hx).1
  have hn:nss[i]? = some nss[i]:=AD (by lia)
  generalize nss[i]=ns at hn
  obtain⟨b,e1,hb⟩:=hL.at hn
  rw[hx] at e1
  cases e1
  have hm:=AJ hn
  have hix:nss[ixo nss ns]? = some ns:=Tn.idx_get hm
  refine yes ⟨_,O,.inl ⟨O,_,SqL.of (s1 _ _ hl)⟩,_,O,l,b,xs,nss.map (List.map nV),ns.map nV,ixo nss ns,O,O,s1 _ _ hl,(hL.same s1).lls,λzs hz=>?_,s1 _ _ hb,qm _,⟨_,by rw[AH,hix];rfl,by rw[zaK];exact An rfl⟩,λm zs hm' hz=>?_,?_⟩
  ·obtain⟨z,hz',rfl⟩:=AI.mp hz
   exact⟨qm _,by rw[AB,AB,hln z hz',hln ns hm]⟩
  ·rw[AH] at hz
   obtain⟨z,hz',rfl⟩:=AW.mp hz
   rw[zaK]
   exact As (wY hm' hz')
  refine Q6 hi jj hD1 (by rw[AB,Ai];exact zq (by lia)) ⟨s1.put hD2,?_⟩
  rw[take_snoc hn,AK]
  rfl
 ·rintro ys H1 ⟨s1,rfl⟩ hD1
  rw[hxl,Ag] at hD1
  exact q D2 H1 s1 (by rw[hD1];unfold Tn.fp;rw[List.map_map];rfl)
abbrev qU:Stmt:=top 36
def qy:zC ["T", "marks", "cells", "steps", "signs", "one"] ["T", "marks"] (zn qU):=⟨rfl,rfl,rfl,by ac_rfl,rfl,by ac_rfl,by ac_rfl⟩
def QW (F:Fun K "parted_further" "parted_further" qU f fd) (gb:Gb mg) (d_cells_by_name:Def P w K mg base 1 "cells_by_name" ["H"] zax) (d_steps_of:Def P w K mg base 1 "steps_of" ["T"] Yq) (d_stepped:Def P w K mg base 1 "stepped" ["cells", "many", "step", "x"] JY) (d_first_placesL:Def P w K mg base 1 "first_places" ["things"] WH):ji P w K mg base CX0 3 f fd ["T", "marks"] WI:=by
 refine F.ok qy (λvs H Q E h=>?_) (λcdv A outer s H vs Q E hr h=>?_)
 ·obtain⟨v,l,T,ms,rfl,_⟩:=h
  rfl
 obtain⟨v,l,T,ms,rfl,ia,gT,nT,hl,hml,q⟩:=h
 have nd0:(["step", "marks", "cells", "T", "one"]:List Str).Nodup:=by ac_rfl
 refine⟨_,(@zh _ _ _ _ _ (@zr _ _ 2 _ _ _ _ qy.nd O (Or.inr O) (@zw _ _ _ _ _ _ _ _ _ _ _ d_cells_by_name hr (by lia) O (@zd _ _ _ _ _ (@pw _ 0 _ _ O O) (@zg _) O) (by decide) O O) O (by walk_at "f")) (@zh _ _ _ _ _ (@zr _ _ 3 _ _ _ _ qy.nd O (Or.inl O) (@zw _ _ _ _ _ _ _ _ _ _ _ d_steps_of hr (by lia) O (@zd _ _ _ _ _ (@pw _ 0 _ _ O O) (@zg _) O) (by decide) O O) O (by walk_at "f")) (@zh _ _ _ _ _ (@zr _ _ 4 _ _ _ _ qy.nd O (Or.inl O) (@zS _ _ _ _ (@zg _)) O (by walk_at "f")) (@zh _ _ _ _ _ (@zZ _ _ _ _ _ _ _ _ Ad O (@zR _ _ _ _ _ _ O gb.range (@zd _ _ _ _ _ (@zu _ _ _ _ _ _ _ (@zm _ K O) (@pw _ 0 _ _ O O) (@zk _ _ _ _) (λ_ _=>rfl)) (@zg _) O) O) (@Zg _ _ 5 _ qy.nd O (Or.inr O) (by walk_at "f")) (@zo _ _ _ (@qf _ _ _ _ (@qw _ K _ _ _ _ _ _ _ _ _ _ _ AY Aq Ap (@zT _) (@pw _ 4 _ _ O O) (@zd _ _ _ _ _ (@zB _ _ _ _ _ _ _ _ (@Ju _) (@zS _ _ _ _ (@zd _ _ _ _ _ (@zu _ _ _ _ _ _ _ (@zm _ K O) (@pw _ 1 _ _ O O) (@pw _ 5 _ _ O O) (λ_ _=>rfl)) (@zg _) O)) (@zO _ ["step", "marks", "cells", "T", "one"] [none,some 1,some 2,some 0,some 5] _ _ _ _ _ _ _ _ _ _ (by exact (show zJ ["T", "marks", "cells", "steps", "signs", "one"] (zn qU) ["step", "marks", "cells", "T", "one"] [none,some 1,some 2,some 0,some 5] _ from⟨O,by ac_rfl,by ac_rfl,by ac_rfl,by ac_rfl,O,by ac_rfl⟩)) O (@zG _ K _ _ _ (@pw _ 3 _ _ O O) O) (λ_ _ _ _=>(@pgl _ 0 _ _ nd0 O O)) (λ_ _ _ _=>(@qd _)) (λ_ _ _ _=>(@zu _ _ _ _ _ _ _ (@zm _ K O) (@pw _ 1 _ _ O O) (@zw _ _ _ _ _ _ _ _ _ _ _ d_stepped hr (by lia) O (@zd _ _ _ _ _ (@pw _ 2 _ _ O O) (@zd _ _ _ _ _ (@zu _ _ _ _ _ _ _ (@zm _ K O) (@pw _ 3 _ _ O O) (@zk _ _ _ _) (λ_ _=>rfl)) (@zd _ _ _ _ _ (@pw _ 0 _ _ O O) (@zd _ _ _ _ _ (@pw _ 4 _ _ O O) (@zg _) O) O) O) O) (by decide) O O) (λ_ _=>rfl))) (by intro _;rfl))) (@zg _) O) O O O O O O) O)) (by intro _;rfl)) (@zo _ _ _ (@zF _ _ _ _ (@zw _ _ _ _ _ _ _ _ _ _ _ d_first_placesL hr (by lia) O (@zd _ _ _ _ _ (@pw _ 4 _ _ O O) (@zg _) O) (by decide) O O))))))),?_⟩
 obtain⟨a,w0,c,vs,rfl,h1,h2,h3,h4⟩:=id ia
 have m9:=gT.m9
 have gcl:=gT.cl
 refine⟨_,O,_,T,O,ia,gT,nT,λe H1 s1 hcd=>?_⟩
 refine⟨_,O,_,T,O,ia.same s1,gT,λst ss H2 _ s2 hst hS=>?_⟩
 have S2:=s1.trans s2
 refine⟨zt (by show 0<=1000;decide),λsg hsg=>?_⟩
 have n3:=zf hsg (.lst [])
 have ssl:ss.length<=18 * 16:=by
  have l1:=A3 hS
  have l2:=WF m9 T.cs
  have l3:(xT T).length<=18 * T.cs.length:=l2
  lia
 refine⟨_,O,.inr (.inl ⟨a,_,0,_,O,O,SqT.of ((S2.trans n3) _ _ h1),O,(T.m:Int),O,by lia,by lia,?_⟩)⟩
 rw[Av]
 refine qY (λi σ H'=>(∃ x5,σ=[some (.ref a),some (.ref l),some (.ref e),some (.ref st),some (.ref sg),x5])/\zD H2 H'/\∃ xs,H' sg=some (.lst xs)/\Lld sg H' ((List.range i).map (Tn.sgn (fsT T) ms)) xs) ⟨⟨_,O⟩,n3,[],ze,.nil⟩ ?_ ?_
 ·rintro i σ H3 hi ⟨⟨x5,rfl⟩,s3,xs,hx,hL⟩
  have S3:=S2.trans s3
  have hxl:=hL.len
  rw[AB,AZ] at hxl
  have hl3:=S3 _ _ hl
  refine⟨_,O,.inl ⟨O,_,SqL.of hx⟩,?_⟩
  refine⟨_,O,_,O,.inl ⟨l,_,_,_,O,O,SqL.of hl3,by rw[BS];exact jM (by lia),zt (by show 1<=1000;decide),λg1 hg1=>?_⟩⟩
  have n4:=zf hg1 (.lst [nV (Tn.at' ms i)])
  have hst4:=n4 _ _ (s3 _ _ hst)
  refine⟨_,O,st,O,⟨_,SqL.of hst4⟩,λD hD=>?_⟩
  have S4:=S3.trans n4
  have hS4:Sts (upd H3 g1 (.lst [nV (Tn.at' ms i)])) (xT T) ss:=Sts.tk (Tk.of (s3.trans n4)) hS
  have hul:=A3 hS
  refine Za (xs:=ss) (λj ys H'=>zD (upd H3 g1 (.lst [nV (Tn.at' ms i)])) H'/\ys=(((xT T).take j).map λs=>nV (Tn.at' ms (zaI T.m s i)))) ⟨zf hD _,O⟩ (λj ys H' h _=>SqL.of (h.1 _ _ hst4)) ?_ ?_
  ·rintro j ys H5 x hx5 ⟨s5,rfl⟩ hD5
   have hj:j < ss.length:=(AF.mp hx5).1
   have hsj:(xT T)[j]? = some (xT T)[j]:=AD (by lia)
   generalize (xT T)[j]=s at hsj
   obtain⟨t,rfl,ht⟩:=Paired.at hS4 j _ _ hsj hx5
   have hsm:=AJ hsj
   have S5:=S4.trans s5
   refine yes ⟨_,O,?_⟩
   refine⟨_,O,_,O,.inr (.inl ⟨a,_,0,_,O,O,SqT.of (S5 _ _ h1),O,_,O,_,O,e,t,T,s,i,by (show [V.ref e,nV T.m,V.ref t,V.int (0+(i:Int))]=_;rw[BS]),((hcd.same s2).same s3).same (n4.trans s5),gT,hsm,s5 _ _ ht,hi,λH6 s6=>?_⟩)⟩
   have hlt:=step_lt gT hsm hi
   refine .inl ⟨l,_,_,_,O,O,SqL.of ((S5.trans s6) _ _ hl),jM (by lia),?_⟩
   refine Q6 hj jj (s6 _ _ hD5) (by rw[AB,Ai];exact zq (by lia)) ⟨(s5.trans s6).put hD,?_⟩
   rw[take_snoc hsj,AK]
   rfl
  rintro ys H5 ⟨s5,rfl⟩ hD5
  rw[<- hul,Ag] at hD5
  refine⟨g1,D,_,_,O,O,s5 _ _ ze,hD5,by rw[AB];exact zt (by show 1+(xT T).length<=1000;lia),λg2 hg2=>?_⟩
  have es:[nV (Tn.at' ms i)]++(xT T).map (λs=>nV (Tn.at' ms (zaI T.m s i)))=(Tn.sgn (fsT T) ms i).map nV:=by
   unfold Tn.sgn fsT
   rw[Aj,Ak,Ak]
   rfl
  rw[es]
  have n6:=zf hg2 (.lst ((Tn.sgn (fsT T) ms i).map nV))
  have S36:=n4.trans (s5.trans n6)
  have hx6:=S36 _ _ hx
  have g2s:g2 ≠ sg:=λz=>by
   have:=(n4.trans s5) _ _ hx
   rw[<- z,hg2] at this
   cases this
  refine⟨sg,_,_,O,O,hx6,zq (by lia),⟨⟨_,O⟩,(s3.trans S36).put hsg,_,ze,?_⟩⟩
  rw[BI,AK]
  exact Lld.snoc (Lld.put (hL.same S36)) g2s (by rw[zK g2s];exact ze)
 ·rintro σ H3 ⟨⟨x5,rfl⟩,s3,xs,hx,hL⟩
  refine⟨_,O,sg,sg,xs,_,(fsT T).length+1,O,hx,hL,λns hn=>?_,by rw[AB,AZ];exact m9,λk H4 s4 hk=>q k H4 (S2.trans (s3.trans s4)) hk⟩
  obtain⟨i,_,rfl⟩:=AI.mp hn
  unfold Tn.sgn
  rw[Am,AB]
abbrev jD:Stmt:=top 37
def wr:zC ["marks", "mark"] ["marks", "mark"] (zn jD):=⟨rfl,rfl,rfl,by ac_rfl,rfl,by ac_rfl,by ac_rfl⟩
def wt (F:Fun K "grades_with" "grades_with" jD f fd) (gb:Gb mg):ji P w K mg base CX0 1 f fd ["marks", "mark"] zaM:=by
 refine F.ok wr (λvs H Q E h=>?_) (λcdv A outer s H vs Q E hr h=>?_)
 ·obtain⟨l,ms,r,rfl,_⟩:=h
  rfl
 obtain⟨l,ms,r,rfl,hl,h9,q⟩:=h
 have nd0:(["one", "marks", "mark"]:List Str).Nodup:=by ac_rfl
 refine⟨_,(@zo _ _ _ (@zF _ _ _ _ (@zy _ _ _ _ _ _ _ _ _ (@zx _ K O) O gb.tuple qk (@zd _ _ _ _ _ (@zO _ ["one", "marks", "mark"] [none,some 0,some 1] _ _ _ _ _ _ _ _ _ _ (by exact (show zJ ["marks", "mark"] (zn jD) ["one", "marks", "mark"] [none,some 0,some 1] _ from⟨O,by ac_rfl,by ac_rfl,by ac_rfl,by ac_rfl,O,by ac_rfl⟩)) O (@zR _ _ _ _ _ _ O gb.range (@zd _ _ _ _ _ (@zE _ _ _ _ _ _ _ _ _ (@qe _ K O) O gb.len jf (@zd _ _ _ _ _ (@pw _ 0 _ _ O O) (@zg _) O) (by decide) (by decide) O O) (@zg _) O) O) (λ_ _ _ _=>(@pgl _ 0 _ _ nd0 O O)) (λ_ _ _ _=>(@Jw _ _ _ (@zH _ _ _ _ _ _ _ _ (@Qi _) (@zu _ _ _ _ _ _ _ (@zm _ K O) (@pw _ 1 _ _ O O) (@pw _ 0 _ _ O O) (λ_ _=>rfl)) (@pw _ 2 _ _ O O) (@qi _ _ (by decide) (by decide))))) (λ_ _ _ _=>(@pw _ 0 _ _ O O)) (by intro _;rfl)) (@zg _) O) (by decide) (by decide) O O))),?_⟩
 refine⟨_,O,_,ms.length,O,.inl ⟨_,SqL.of hl,by rw[AB]⟩,(ms.length:Int),O,by lia,by lia,λD hD=>?_⟩
 rw[Av]
 refine qL (λi ys H'=>zD H H'/\ys=((List.range i).filter λj=>decide (Tn.at' ms j=r)).map nV/\ys.length<=i) ⟨zf hD _,O,AM _⟩ ?_ ?_
 ·rintro i ys H1 hi ⟨s1,rfl,yl⟩ hD1
  refine⟨_,O,_,O,.inl ⟨l,_,_,_,O,O,SqL.of (s1 _ _ hl),by rw[BS];exact jM hi,_,O,O,_,O,?_⟩⟩
  by_cases hm:Tn.at' ms i=r
  ·refine Zz (λ_=>?_) (λz=>absurd (An (by rw[hm])) z)
   refine⟨_,O,Q6 hi jj hD1 (zq (by lia)) ⟨s1.put hD,?_,by rw[AL];exact Cy yl⟩⟩
   rw[BI,Cg,AK,BS]
   simp[hm]
  ·refine Zz (λz=>absurd (Ar z) (nVV_ne hm)) (λ_=>?_)
   refine cno hi jj hD1 ⟨s1,?_,Cp yl⟩
   rw[BI,Cg,AK]
   simp[hm]
 ·rintro ys H1 ⟨s1,rfl,yl⟩ hD1
  refine⟨D,_,O,.inl ⟨SqL.of hD1,λt ht=>?_⟩⟩
  exact q t _ (s1.trans (zf ht _)) ze
abbrev J4:Stmt:=top 34
def Jp:zC ["T", "marks", "turn"] ["T"] (zn J4):=⟨rfl,rfl,rfl,by ac_rfl,rfl,by ac_rfl,by ac_rfl⟩
def ok_alike (F:Fun K "alike" "alike" J4 f fd) (gb:Gb mg) (d_first_places:Def P w K mg base 1 "first_places" ["things"] WG) (d_parted_further:Def P w K mg base 3 "parted_further" ["T", "marks"] WI) (d_grades_with:Def P w K mg base 1 "grades_with" ["marks", "mark"] zaM):ji P w K mg base CX0 4 f fd ["T"] Yr:=by
 refine F.ok Jp (λvs H Q E h=>?_) (λcdv A outer s H vs Q E hr h=>?_)
 ·obtain⟨v,T,rfl,_⟩:=h
  rfl
 obtain⟨v,T,rfl,ia,gT,nT,q⟩:=h
 have nd0:(["one", "T"]:List Str).Nodup:=by ac_rfl
 have nd1:(["mark", "marks"]:List Str).Nodup:=by ac_rfl
 refine⟨_,(@zh _ _ _ _ _ (@zr _ _ 1 _ _ _ _ Jp.nd O (Or.inr O) (@zw _ _ _ _ _ _ _ _ _ _ _ d_first_places hr (by lia) O (@zd _ _ _ _ _ (@zO _ ["one", "T"] [none,some 0] _ _ _ _ _ _ _ _ _ _ (by exact (show zJ ["T", "marks", "turn"] (zn J4) ["one", "T"] [none,some 0] _ from⟨O,by ac_rfl,by ac_rfl,by ac_rfl,by ac_rfl,O,by ac_rfl⟩)) O (@zR _ _ _ _ _ _ O gb.range (@zd _ _ _ _ _ (@zu _ _ _ _ _ _ _ (@zm _ K O) (@pw _ 0 _ _ O O) (@zk _ _ _ _) (λ_ _=>rfl)) (@zg _) O) O) (λ_ _ _ _=>(@pgl _ 0 _ _ nd0 O O)) (λ_ _ _ _=>(@qd _)) (λ_ _ _ _=>(@ZB _ _ _ _ _ _ _ _ (@qv _ K O) (@pw _ 0 _ _ O O) (@zu _ _ _ _ _ _ _ (@zm _ K O) (@pw _ 1 _ _ O O) (@zk _ _ _ _) (λ_ _=>rfl)) (by with_unfolding_all rfl))) (by intro _;rfl)) (@zg _) O) (by decide) O O) O (by walk_at "f")) (@zh _ _ _ _ _ (@zZ _ _ _ _ _ _ _ _ Ad O (@zR _ _ _ _ _ _ O gb.range (@zd _ _ _ _ _ (@zu _ _ _ _ _ _ _ (@zm _ K O) (@pw _ 0 _ _ O O) (@zk _ _ _ _) (λ_ _=>rfl)) (@zg _) O) O) (@pgl _ 2 _ _ Jp.nd O O) (@zo _ _ _ (@zr _ _ 1 _ _ _ _ Jp.nd O (Or.inr O) (@zw _ _ _ _ _ _ _ _ _ _ _ d_parted_further hr (by lia) O (@zd _ _ _ _ _ (@pw _ 0 _ _ O O) (@zd _ _ _ _ _ (@pw _ 1 _ _ O O) (@zg _) O) O) (by decide) O O) O (by walk_at "f"))) (by intro _;rfl)) (@zo _ _ _ (@zF _ _ _ _ (@zy _ _ _ _ _ _ _ _ _ (@zx _ K O) O gb.tuple qk (@zd _ _ _ _ _ (@zO _ ["mark", "marks"] [none,some 1] _ _ _ _ _ _ _ _ _ _ (by exact (show zJ ["T", "marks", "turn"] (zn J4) ["mark", "marks"] [none,some 1] _ from⟨O,by ac_rfl,by ac_rfl,by ac_rfl,by ac_rfl,O,by ac_rfl⟩)) O (@zG _ K _ _ _ (@zE _ _ _ _ _ _ _ _ _ (@jc _ O) O gb.sorted jK (@zd _ _ _ _ _ (@zy _ _ _ _ _ _ _ _ _ (@Zc _ K O O) O gb.set Jz (@zd _ _ _ _ _ (@pw _ 1 _ _ O O) (@zg _) O) (by decide) (by decide) O O) (@zg _) O) (by decide) (by decide) O O) O) (λ_ _ _ _=>(@pgl _ 0 _ _ nd1 O O)) (λ_ _ _ _=>(@qd _)) (λ_ _ _ _=>(@zw _ _ _ _ _ _ _ _ _ _ _ d_grades_with hr (by lia) O (@zd _ _ _ _ _ (@pw _ 1 _ _ O O) (@zd _ _ _ _ _ (@pw _ 0 _ _ O O) (@zg _) O) O) (by decide) O O)) (by intro _;rfl)) (@zg _) O) (by decide) (by decide) O O))))),?_⟩
 obtain⟨a,w0,c,vs,rfl,h1,h2,h3,h4⟩:=id ia
 have m9:=gT.m9
 have m1:=gT.m1
 refine⟨_,O,.inr (.inl ⟨a,_,0,_,O,O,SqT.of h1,O,(T.m:Int),O,by lia,by lia,λD hD=>?_⟩)⟩
 rw[Av]
 refine qL (λi ys H'=>zD H H'/\ys=((List.range i).map λj=>V.bl (decide (j ∈ T.ws)))) ⟨zf hD _,O⟩ ?_ ?_
 ·rintro i ys H1 hi ⟨s1,rfl⟩ hD1
  refine yes ⟨_,O,_,O,.inr (.inl ⟨a,_,1,_,O,O,SqT.of (s1 _ _ h1),O,w0,_,O,.inr (SqT.of (s1 _ _ h2)),O,qm _,?_⟩)⟩
  try dsimp only
  rw[if_neg AS,BS,show V.int (i:Int)=nV i from rfl,j7]
  refine Q6 hi jj hD1 (by rw[AB,AZ];exact zq (by lia)) ⟨s1.put hD,?_⟩
  rw[BI,AK]
  rfl
 rintro ys H1 ⟨s1,rfl⟩ hD1
 refine⟨D,(List.range T.m).map (λj=>decide (j ∈ T.ws)),O,by rw[hD1,Ak];rfl,by rw[AB,AZ];exact m9,λl0 H2 s2 hl0=>?_⟩
 have S2:=s1.trans s2
 refine⟨_,O,.inr (.inl ⟨a,_,0,_,O,O,SqT.of (S2 _ _ h1),O,(T.m:Int),O,by lia,by lia,?_⟩)⟩
 rw[Av]
 refine qY (λi σ H'=>∃ (l:Addr) (x2:Option V),σ=[some (.ref a),some (.ref l),x2]/\zD H H'/\H' l=some (.lst ((Tn.itr T.m (fsT T) (Tn.mk0 T.m T.ws) i).map nV))) ⟨l0,_,O,S2,hl0⟩ ?_ ?_
 ·rintro i σ H3 hi ⟨l,x2,rfl,s3,hl⟩
  exact⟨_,O,_,O,_,l,T,_,O,ia.same s3,gT,nT,hl,(Tn.itr_mk (Tn.mk0_mk T.m T.ws) i).len,λk H4 s4 hk=>⟨k,_,O,s3.trans s4,hk⟩⟩
 rintro σ H3 ⟨l,x2,rfl,s3,hl⟩
 have fx:=Qo gT
 have hl':H3 l=some (.lst ((mkT T).map nV)):=hl
 have ml:=fx.mks.len
 refine⟨_,O,l,mkT T,O,SqL.of hl',λy hy=>?_,λsa ds hsa nd hmm=>?_⟩
 ·have:=(Tn.reps_mem.mp ((fx.mks.mem_iff y).mp hy)).1
  lia
 have n4:=zf hsa (DSet w sa ds)
 refine⟨sa,ds,O,ze,λl2 rs hl2 pm so=>?_⟩
 have n5:=zf hl2 (.lst (rs.map nV))
 have er:rs=ZP T:=Tn.ris_eq so (pm.nodup_iff.mpr nd) (Tn.reps_ris _ _) λd=>by
  rw[pm.mem_iff,hmm d,fx.mks.mem_iff d]
  exact Iff.rfl
 subst er
 have S5:=s3.trans (n4.trans n5)
 have hl5:=(n4.trans n5) _ _ hl'
 have hl2':(upd (upd H3 sa (DSet w sa ds)) l2 (.lst ((ZP T).map nV))) l2=some (.lst ((ZP T).map nV)):=ze
 refine⟨l2,O,⟨_,SqL.of hl2'⟩,λD2 hD2=>?_⟩
 have rl:(ZP T).length<=9:=Aa (Tn.reps_le _ _) m9
 refine Za (xs:=(ZP T).map nV) (λi zs H'=>zD (upd (upd H3 sa (DSet w sa ds)) l2 (.lst ((ZP T).map nV))) H'/\zs.length=i/\Tps H' (((ZP T).take i).map (Tn.partF T.m (mkT T))) zs) ⟨zf hD2 _,O,.nil⟩ (λi zs H' h _=>SqL.of (h.1 _ _ hl2')) ?_ ?_
 ·rintro i zs H6 x hx ⟨s6,zl,hT⟩ hD6
  have hi:i < ((ZP T).map nV).length:=(AF.mp hx).1
  rw[AH] at hx
  obtain⟨r,hr',rfl⟩:=AW.mp hx
  refine yes ⟨_,O,_,O,l,mkT T,r,O,s6 _ _ hl5,by lia,λt H7 s7 ht=>?_⟩
  have hD7:=s7 _ _ hD6
  rw[AB] at hi
  refine Q6 (by rw[AB];exact hi) jj hD7 (zq (by lia)) ⟨(s6.trans s7).put hD2,by rw[AL,zl];rfl,?_⟩
  rw[take_snoc hr',AK]
  rw[ml] at ht
  exact Tps.snoc (Tps.tk ((Tk.of s7).trans (Tk.put hD7)) hT) (Tk.put hD7 _ _ ht)
 rintro zs H6 ⟨s6,zl,hT⟩ hD6
 rw[AB,Ag] at hT
 refine⟨D2,_,O,.inl ⟨SqL.of hD6,λt ht=>?_⟩⟩
 have n7:=zf ht (.tup zs)
 exact q t zs _ (S5.trans (s6.trans n7)) ze (Tps.tk (Tk.of n7) hT)
abbrev Zs:Stmt:=top 9
def jo:zC ["many", "grades", "places", "reached", "step"] ["many", "grades", "places"] (zn Zs):=⟨rfl,rfl,rfl,by ac_rfl,rfl,by ac_rfl,by ac_rfl⟩
def wu (F:Fun K "cell_places" "cell_places" Zs f fd) (gb:Gb mg) (d_next_places:Def P w K mg base 1 "next_places" ["places", "many", "grades"] Y6):ji P w K mg base CX0 2 f fd ["many", "grades", "places"] ZQ:=by
 refine F.ok jo (λvs H Q E h=>?_) (λcdv A outer s H vs Q E hr h=>?_)
 ·obtain⟨gs,m,k,G,rfl,_⟩:=h
  rfl
 obtain⟨gs,m,k,G,rfl,m9,k2,hg,g9,q⟩:=h
 refine⟨_,(@zh _ _ _ _ _ (@zr _ _ 3 _ _ _ _ jo.nd O (Or.inl O) (@zS _ _ _ _ (@zd _ _ _ _ _ (@zk _ _ _ _) (@zg _) O)) O (by walk_at "f")) (@zh _ _ _ _ _ (@zZ _ _ _ _ _ _ _ _ Ad O (@zR _ _ _ _ _ _ O gb.range (@zd _ _ _ _ _ (@pw _ 2 _ _ O O) (@zg _) O) O) (@pgl _ 4 _ _ jo.nd O O) (@zo _ _ _ (@zr _ _ 3 _ _ _ _ jo.nd O (Or.inl O) (@zw _ _ _ _ _ _ _ _ _ _ _ d_next_places hr (by lia) O (@zd _ _ _ _ _ (@pw _ 3 _ _ O O) (@zd _ _ _ _ _ (@pw _ 0 _ _ O O) (@zd _ _ _ _ _ (@pw _ 1 _ _ O O) (@zg _) O) O) O) (by decide) O O) O (by walk_at "f"))) (by intro _;rfl)) (@zo _ _ _ (@zF _ _ _ _ (@pw _ 3 _ _ O O))))),?_⟩
 refine⟨zt (by show 1<=1000;decide),λr0 hr0=>?_⟩
 refine⟨_,O,(k:Int),O,by lia,by lia,?_⟩
 rw[Av]
 refine qY (λi σ H'=>∃ (l:Addr) (x:Option V),σ=[some (nV m),some (.ref gs),some (nV k),some (.ref l),x]/\zD H H'/\H' l=some (.lst ((Tn.pls m G i).map nV))) ⟨r0,_,O,zf hr0 _,ze⟩ ?_ ?_
 ·rintro i σ H1 hi ⟨l,x,rfl,s1,h1⟩
  have pl:(Tn.pls m G i).length<=9:=by
   rw[Tn.pls_len]
   have:i=0\/i=1:=by lia
   rcases this with h | h <;> rw[h]
   ·rw[EL];decide
   ·rw[C9]
    exact g9
  exact⟨_,O,_,O,_,O,l,gs,m,_,G,O,m9,h1,Y5 s1 hg,pl,g9,λl2 H2 s2 h2=>⟨l2,_,O,s1.trans s2,h2⟩⟩
 ·rintro σ H1 ⟨l,x,rfl,s1,h1⟩
  exact⟨_,O,q l _ s1 h1⟩
abbrev Z3:Stmt:=top 11
def jR:zC ["T", "olds", "news", "connectives", "name", "places", "cells", "reached", "wished"] ["T", "olds", "news"] (zn Z3):=⟨rfl,rfl,rfl,by ac_rfl,rfl,by ac_rfl,by ac_rfl⟩
def za1 (F:Fun K "remade" "remade" Z3 f fd) (gb:Gb mg) (d_cell_places:Def P w K mg base 2 "cell_places" ["many", "grades", "places"] ZQ):ji P w K mg base CX0 3 f fd ["T", "olds", "news"] ZR:=by
 refine F.ok jR (λvs H Q E h=>?_) (λcdv A outer s H vs Q E hr h=>?_)
 ·obtain⟨v,ol,nw,T,G,f,rfl,_⟩:=h
  rfl
 obtain⟨v,ol,nw,T,G,f,rfl,⟨a,w,c,vs,rfl,h1,h2,h3,h4⟩,g,hol,gl9,hGl,hval,q⟩:=h
 have nd0:(["place", "cells"]:List Str).Nodup:=by ac_rfl
 have nd1:(["old", "news"]:List Str).Nodup:=by ac_rfl
 have nd2:(["one", "old", "T"]:List Str).Nodup:=by ac_rfl
 refine⟨_,(@zh _ _ _ _ _ (@zr _ _ 3 _ _ _ _ jR.nd O (Or.inl O) (@zS _ _ _ _ (@zg _)) O (by walk_at "f")) (@zh _ _ _ _ _ (@zZ _ _ _ _ _ _ _ _ Ad O (@qW _ K _ _ _ (@zu _ _ _ _ _ _ _ (@zm _ K O) (@pw _ 0 _ _ O O) (@zk _ _ _ _) (λ_ _=>rfl)) O) (@jv _ K _ _ _ _ 3 O (@zI _ _ _ _ _ (@pgl _ 4 _ _ jR.nd O O) (@zI _ _ _ _ _ (@pgl _ 5 _ _ jR.nd O O) (@zI _ _ _ _ _ (@Zg _ _ 6 _ jR.nd O (Or.inr O) (by walk_at "f")) (@jt _) O) O) O) O O O) (@zh _ _ _ _ _ (@jF _ ["place", "cells"] [none,some 6] _ 7 _ _ _ _ _ _ _ _ _ _ _ _ (by exact (show zJ ["T", "olds", "news", "connectives", "name", "places", "cells", "reached", "wished"] (zn Z3) ["place", "cells"] [none,some 6] _ from⟨O,by ac_rfl,by ac_rfl,by ac_rfl,by ac_rfl,O,by ac_rfl⟩)) O (@zG _ K _ _ _ (@zw _ _ _ _ _ _ _ _ _ _ _ d_cell_places hr (by lia) O (@zd _ _ _ _ _ (@zu _ _ _ _ _ _ _ (@zm _ K O) (@pw _ 0 _ _ O O) (@zk _ _ _ _) (λ_ _=>rfl)) (@zd _ _ _ _ _ (@pw _ 1 _ _ O O) (@zd _ _ _ _ _ (@pw _ 5 _ _ O O) (@zg _) O) O) O) (by decide) O O) O) (λ_ _ _ _=>(@pgl _ 0 _ _ nd0 O O)) (λ_ _ _ _=>(@qd _)) (λ_ _ _ _=>(@zu _ _ _ _ _ _ _ (@zm _ K O) (@pw _ 1 _ _ O O) (@pw _ 0 _ _ O O) (λ_ _=>rfl))) jR.nd O O O (by intro _;rfl)) (@zo _ _ _ (@qf _ _ _ _ (@qw _ K _ _ _ _ _ _ _ _ _ _ _ AY Aq Ap (@zT _) (@pw _ 3 _ _ O O) (@zd _ _ _ _ _ (@ql _ _ _ _ _ (@zd _ _ _ _ _ (@pw _ 4 _ _ O O) (@zd _ _ _ _ _ (@pw _ 5 _ _ O O) (@zd _ _ _ _ _ (@zy _ _ _ _ _ _ _ _ _ (@zx _ K O) O gb.tuple qk (@zd _ _ _ _ _ (@zO _ ["old", "news"] [none,some 2] _ _ _ _ _ _ _ _ _ _ (by exact (show zJ ["T", "olds", "news", "connectives", "name", "places", "cells", "reached", "wished"] (zn Z3) ["old", "news"] [none,some 2] _ from⟨O,by ac_rfl,by ac_rfl,by ac_rfl,by ac_rfl,O,by ac_rfl⟩)) O (@zG _ K _ _ _ (@pw _ 7 _ _ O O) O) (λ_ _ _ _=>(@pgl _ 0 _ _ nd1 O O)) (λ_ _ _ _=>(@qd _)) (λ_ _ _ _=>(@peOr _ _ _ _ (@Wj _ _ _ _ _ _ (@pw _ 1 _ _ O O) (@pw _ 0 _ _ O O) (λ_ _=>rfl)) (@zu _ _ _ _ _ _ _ (@zm _ K O) (@pw _ 1 _ _ O O) (@pw _ 0 _ _ O O) (λ_ _=>rfl)))) (by intro _;rfl)) (@zg _) O) (by decide) (by decide) O O) (@zg _) O) O) O)) (@zg _) O) O O O O O O) O))) (by intro _;rfl)) (@zh _ _ _ _ _ (@jF _ ["one", "old", "T"] [none,none,some 0] _ 8 _ _ _ _ _ _ _ _ _ _ _ _ (by exact (show zJ ["T", "olds", "news", "connectives", "name", "places", "cells", "reached", "wished"] (zn Z3) ["one", "old", "T"] [none,none,some 0] _ from⟨O,by ac_rfl,by ac_rfl,by ac_rfl,by ac_rfl,O,by ac_rfl⟩)) O (@piOr _ _ _ _ _ (@kpi_enum _ K _ _ _ _ _ _ _ O gb.enumerate (@zd _ _ _ _ _ (@pw _ 1 _ _ O O) (@zg _) O) O O) (@JC _ K _ _ _ _ _ _ _ O gb.enumerate (@zd _ _ _ _ _ (@pw _ 1 _ _ O O) (@zg _) O) O O)) (λ_ _ _ _=>(@jv _ K _ _ _ _ 2 O (@zI _ _ _ _ _ (@pgl _ 0 _ _ nd2 O O) (@zI _ _ _ _ _ (@pgl _ 1 _ _ nd2 O O) (@jt _) O) O) O O O)) (λ_ _ _ _=>(@Jw _ _ _ (@zH _ _ _ _ _ _ _ _ (@qv _ K O) (@pw _ 1 _ _ O O) (@zu _ _ _ _ _ _ _ (@zm _ K O) (@pw _ 2 _ _ O O) (@zk _ _ _ _) (λ_ _=>rfl)) (by with_unfolding_all rfl)))) (λ_ _ _ _=>(@pw _ 0 _ _ O O)) jR.nd O O O (by intro _;rfl)) (@zo _ _ _ (@zF _ _ _ _ (@ql _ _ _ _ _ (@zd _ _ _ _ _ (@zE _ _ _ _ _ _ _ _ _ (@qe _ K O) O gb.len jf (@zd _ _ _ _ _ (@pw _ 1 _ _ O O) (@zg _) O) (by decide) (by decide) O O) (@zd _ _ _ _ _ (@zy _ _ _ _ _ _ _ _ _ (@zx _ K O) O gb.tuple qk (@zd _ _ _ _ _ (@pw _ 8 _ _ O O) (@zg _) O) (by decide) (by decide) O O) (@zd _ _ _ _ _ (@zy _ _ _ _ _ _ _ _ _ (@zx _ K O) O gb.tuple qk (@zd _ _ _ _ _ (@pw _ 3 _ _ O O) (@zg _) O) (by decide) (by decide) O O) (@zg _) O) O) O))))))),?_⟩
 have m9:=g.m9
 refine⟨zt (by show 0<=1000;decide),λcn hcn=>?_⟩
 have n0:=zf hcn (.lst [])
 refine⟨_,O,.inr (.inl ⟨a,_,2,_,O,O,SqT.of (n0 _ _ h1),O,c,O,⟨_,SqT.of (n0 _ _ h3)⟩,?_⟩)⟩
 refine ZA (xs:=vs) (λi σ H'=>(∃ x1 x2 x3 x4 x5,σ=[some (.ref a),some (.ref ol),some (.ref nw),some (.ref cn),x1,x2,x3,x4,x5])/\zD H H'/\∃ ys,H' cn=some (.lst ys)/\Cns H' ((T.cs.take i).map (zaU T.m G f)) ys) ⟨⟨_,_,_,_,_,O⟩,n0,[],ze,.nil⟩ (λi σ H' _ h=>SqT.of (h.2.1 _ _ h3)) ?_ ?_
 ·rintro i x σ H1 hx ⟨⟨x1,x2,x3,x4,x5,rfl⟩,s1,ys,hy,hC⟩
  have hi:i < T.cs.length:=by
   rw[h4.len]
   exact (AF.mp hx).1
  have hcc:T.cs[i]? = some T.cs[i]:=AD hi
  generalize T.cs[i]=cc at hcc
  obtain⟨nl,p2,cs3⟩:=g.cn cc (AJ hcc)
  obtain⟨t,u,e1,k1,k2⟩:=h4.get hcc
  rw[hx] at e1
  cases e1
  refine⟨t,_,O,SqT.of (s1 _ _ k1),O,_,_,O,_,_,O,_,_,O,O,?_⟩
  refine⟨_,O,.inr (.inl ⟨a,_,0,_,O,O,SqT.of (s1 _ _ h1),O,_,O,_,O,ol,T.m,cc.pl,G,O,m9,p2,Y5 s1 hol,gl9,λl H2 s2 h2=>?_⟩)⟩
  refine⟨l,O,⟨_,SqL.of h2⟩,λD hD=>?_⟩
  have pln:(Tn.pls T.m G cc.pl).length<=81:=by
   rw[Tn.pls_len]
   exact JS gl9 p2
  refine qB (Tn.pls T.m G cc.pl) nV (λp=>nV (Tn.at' cc.cs p)) h2 (by lia) hD (λz hz H' Q' s3 q'=>?_) (λH3 s3 hD3=>?_)
  ·have hz2:=Tn.pls_lt' hGl cc.pl z hz
   exact⟨_,O,_,O,.inr (.inl ⟨u,_,_,_,O,O,SqT.of (s3 _ _ (s2 _ _ (s1 _ _ k2))),jM (by rw[cs3.len];exact hz2),q' H' zD.rfl'⟩)⟩
  have s13:=s1.trans (s2.trans s3)
  have hy3:=s3 _ _ (s2 _ _ hy)
  refine⟨_,O,.inl ⟨O,_,SqL.of hy3⟩,_,O,_,O,_,O,D,O,⟨_,SqL.of hD3⟩,λD2 hD4=>?_⟩
  refine qB (Tn.pls T.m G cc.pl) (λp=>nV (Tn.at' cc.cs p)) (λp=>nV (f (Tn.at' cc.cs p))) hD3 (by lia) hD4 (λz hz H' Q' s4 q'=>?_) (λH4 s4 hD5=>?_)
  ·rcases hval cc (AJ hcc) z hz with ⟨kvs,hn,hv⟩ | ⟨o,hn,hl,ho⟩
   ·exact .inl ⟨_,O,_,O,nw,kvs,Sum.inl _,_,O,s4 _ _ (s13 _ _ hn),O,hv,q' H' zD.rfl'⟩
   ·rw[<- ho] at q'
    exact .inr ⟨_,O,_,O,.inr (.inl ⟨nw,_,_,_,O,O,SqT.of (s4 _ _ (s13 _ _ hn)),jM hl,q' H' zD.rfl'⟩)⟩
  refine⟨D2,_,O,.inl ⟨SqL.of hD5,λt2 ht2=>?_⟩⟩
  have etc:(Tn.pls T.m G cc.pl).map (λp=>nV (f (Tn.at' cc.cs p)))=((zaU T.m G f cc).cs).map nV:=by
   show _=((Tn.pls T.m G cc.pl).map _).map nV
   rw[Ak]
   rfl
  rw[etc] at *
  have n5:=zf ht2 (.tup (((zaU T.m G f cc).cs).map nV))
  refine⟨zt (by show 3<=1000;decide),λt3 ht3=>?_⟩
  have n6:=zf ht3 (.tup [.str cc.nm,nV cc.pl,.ref t2])
  have s36:=s4.trans (n5.trans n6)
  have hy6:=s36 _ _ hy3
  have hyl:=hC.len
  rw[AB,Ai] at hyl
  have gcl:=g.cl
  refine⟨cn,_,_,O,O,hy6,zq (by lia),⟨⟨_,_,_,_,_,O⟩,(s13.trans s36).put hcn,_,ze,?_⟩⟩
  rw[take_snoc hcc,AK]
  exact (Cns.snoc (c:=zaU T.m G f cc) (hC.same (s2.trans (s3.trans s36))) ze (n6 _ _ ze)).tk (Tk.put hy6)
 ·rintro σ H1 ⟨⟨x1,x2,x3,x4,x5,rfl⟩,s1,ys,hy,hC⟩
  rw[show T.cs.take vs.length=T.cs by rw[<- h4.len,Ag]] at hC
  rcases hol with hol | hol
  all_goals
   first
   | (refine .inl ⟨_,rfl,ol,_,rfl,SqL.of (s1 _ _ hol),λD hD=>XM (xs:=G.map nV) (more:=[some (.ref a)]) (λi zs H'=>zD H1 H'/\zs=((List.range i).filter λj=>decide (Tn.at' G j ∈ T.ws)).map nV) ⟨zf hD _,rfl⟩ (λi zs H' h _=>SqL.of (h.1 _ _ (s1 _ _ hol))) ?_ ?_⟩)
   | (refine .inr ⟨_,rfl,ol,_,rfl,SqT.of (s1 _ _ hol),λD hD=>wH (xs:=G.map nV) (more:=[some (.ref a)]) (λi zs H'=>zD H1 H'/\zs=((List.range i).filter λj=>decide (Tn.at' G j ∈ T.ws)).map nV) ⟨zf hD _,rfl⟩ (λi zs H' h _=>SqT.of (h.1 _ _ (s1 _ _ hol))) ?_ ?_⟩)
   ·rintro i zs H2 U x hx ⟨s2,rfl⟩ hD2 hU
    have hi:i < (G.map nV).length:=(AF.mp hx).1
    have hi2:i < G.length:=by rw[AB] at hi;exact hi
    have ex:x=nV (Tn.at' G i):=by
     rw[AH,AD hi2] at hx
     unfold Tn.at'
     rw[AQ,AD hi2]
     exact (AR hx).symm
    subst ex
    have n3:=zf hU (.tup [nV i,nV (Tn.at' G i)])
    have s3:=s2.trans n3
    have hD3:=n3 _ _ hD2
    have zl:(((List.range i).filter λj=>decide (Tn.at' G j ∈ T.ws)).map nV).length<=9:=by
     rw[AB]
     have:=DL (λj=>decide (Tn.at' G j ∈ T.ws)) (List.range i)
     rw[AZ] at this
     lia
    refine⟨_,O,_,O,.inr (.inl ⟨a,_,1,_,O,O,SqT.of (s3 _ _ (s1 _ _ h1)),O,w,_,O,.inr (SqT.of (s3 _ _ (s1 _ _ h2))),O,qm _,_,O,?_⟩)⟩
    dsimp only
    rw[if_neg AS,j7]
    by_cases hm:Tn.at' G i ∈ T.ws
    ·rw[if_pos (An hm)]
     refine⟨_,O,Q6 hi ⟨_,_,O⟩ hD3 (zq (by lia)) ⟨s3.put hD,?_⟩⟩
     rw[BI,Cg,AK]
     simp[hm]
    ·rw[if_neg (by rw[As hm];exact AS)]
     refine cno hi ⟨_,_,O⟩ hD3 ⟨s3,?_⟩
     rw[BI,Cg,AK]
     simp[hm]
   ·rintro zs H2 ⟨s2,rfl⟩ hD2
    rw[AB] at hD2
    first
    | (refine⟨_,rfl,_,_,rfl,.inl ⟨_,SqL.of (s2 _ _ (s1 _ _ hol)),rfl⟩,?_⟩)
    | (refine⟨_,rfl,_,_,rfl,.inr ⟨_,SqT.of (s2 _ _ (s1 _ _ hol)),rfl⟩,?_⟩)
    refine⟨_,O,D,_,O,.inl ⟨SqL.of hD2,λtw htw=>?_⟩⟩
    have n3:=zf htw (.tup (((List.range G.length).filter λj=>decide (Tn.at' G j ∈ T.ws)).map nV))
    refine⟨_,O,cn,_,O,.inl ⟨SqL.of (n3 _ _ (s2 _ _ hy)),λtc htc=>?_⟩⟩
    have n4:=zf htc (.tup ys)
    refine⟨zt (by show 3<=1000;decide),λt htt=>?_⟩
    have el:((G.map nV).length:Int)=(G.length:Int):=by rw[AB]
    have n5:=zf htt (.tup [nV G.length,.ref tw,.ref tc])
    dsimp only
    rw[el]
    refine q _ _ (s1.trans (s2.trans (n3.trans (n4.trans n5)))) ⟨t,tw,tc,ys,O,ze,n5 _ _ (n4 _ _ ze),n5 _ _ ze,hC.same (s2.trans (n3.trans (n4.trans n5)))⟩
abbrev QM:Stmt:=top 41
def ZT:zC ["T", "parts", "news", "number", "part"] ["T"] (zn QM):=⟨rfl,rfl,rfl,by ac_rfl,rfl,by ac_rfl,by ac_rfl⟩
def za2 (F:Fun K "shrunk" "shrunk" QM f fd) (gb:Gb mg) (d_alike:Def P w K mg base 4 "alike" ["T"] Yr) (d_remade:Def P w K mg base 3 "remade" ["T", "olds", "news"] ZR):ji P w K mg base CX0 5 f fd ["T"] WJ:=by
 refine F.ok ZT (λvs H Q E h=>?_) (λcdv A outer s H vs Q E hr h=>?_)
 ·obtain⟨v,T,rfl,_⟩:=h
  rfl
 obtain⟨v,T,rfl,ia,gT,nT,q⟩:=h
 have nd0:(["old", "number"]:List Str).Nodup:=by ac_rfl
 have nd1:(["part"]:List Str).Nodup:=by ac_rfl
 refine⟨_,(@zh _ _ _ _ _ (@zr _ _ 1 _ _ _ _ ZT.nd O (Or.inl O) (@zw _ _ _ _ _ _ _ _ _ _ _ d_alike hr (by lia) O (@zd _ _ _ _ _ (@pw _ 0 _ _ O O) (@zg _) O) (by decide) O O) O (by walk_at "f")) (@zh _ _ _ _ _ (@zr _ _ 2 _ _ _ _ ZT.nd O (Or.inl O) (@Wh _ _) O (by walk_at "f")) (@zh _ _ _ _ _ (@zZ _ _ _ _ _ _ _ _ Ad O (@JC _ K _ _ _ _ _ _ _ O gb.enumerate (@zd _ _ _ _ _ (@pw _ 1 _ _ O O) (@zg _) O) O O) (@jv _ K _ _ _ _ 2 O (@zI _ _ _ _ _ (@Zg _ _ 3 _ ZT.nd O (Or.inr O) (by walk_at "f")) (@zI _ _ _ _ _ (@pgl _ 4 _ _ ZT.nd O O) (@jt _) O) O) O O O) (@zo _ _ _ (@qf _ _ _ _ (@qw _ K _ _ _ _ _ _ _ _ _ _ _ PySem.F.plainAttrs_dict PySem.F.slot_dict_update PySem.F.type_dict_update (@mt_updP _ O) (@pw _ 2 _ _ O O) (@zd _ _ _ _ _ (@zO _ ["old", "number"] [none,some 3] _ _ _ _ _ _ _ _ _ _ (by exact (show zJ ["T", "parts", "news", "number", "part"] (zn QM) ["old", "number"] [none,some 3] _ from⟨O,by ac_rfl,by ac_rfl,by ac_rfl,by ac_rfl,O,by ac_rfl⟩)) O (@qW _ K _ _ _ (@pw _ 4 _ _ O O) O) (λ_ _ _ _=>(@pgl _ 0 _ _ nd0 O O)) (λ_ _ _ _=>(@qd _)) (λ_ _ _ _=>(@ql _ _ _ _ _ (@zd _ _ _ _ _ (@pw _ 0 _ _ O O) (@zd _ _ _ _ _ (@pw _ 1 _ _ O O) (@zg _) O) O))) (by intro _;rfl)) (@zg _) O) O O O O O O) O)) (by intro _;rfl)) (@zo _ _ _ (@zF _ _ _ _ (@zw _ _ _ _ _ _ _ _ _ _ _ d_remade hr (by lia) O (@zd _ _ _ _ _ (@pw _ 0 _ _ O O) (@zd _ _ _ _ _ (@zO _ ["part"] [none] _ _ _ _ _ _ _ _ _ _ (by exact (show zJ ["T", "parts", "news", "number", "part"] (zn QM) ["part"] [none] _ from⟨O,by ac_rfl,by ac_rfl,by ac_rfl,by ac_rfl,O,by ac_rfl⟩)) O (@qW _ K _ _ _ (@pw _ 1 _ _ O O) O) (λ_ _ _ _=>(@pgl _ 0 _ _ nd1 O O)) (λ_ _ _ _=>(@qd _)) (λ_ _ _ _=>(@zu _ _ _ _ _ _ _ (@zm _ K O) (@pw _ 0 _ _ O O) (@zk _ _ _ _) (λ_ _=>rfl))) (by intro _;rfl)) (@zd _ _ _ _ _ (@pw _ 2 _ _ O O) (@zg _) O) O) O) (by decide) O O)))))),?_⟩
 obtain⟨a,w0,c,vs,rfl,h1,h2,h3,h4⟩:=id ia
 have m9:=gT.m9
 have fx:=Qo gT
 have rl:(ZP T).length<=9:=Aa (Tn.reps_le _ _) m9
 refine⟨_,O,.ref a,T,O,ia,gT,nT,λt xs H1 s1 ht hT=>?_⟩
 have hxl:xs.length=(ZP T).length:=by
  rw[<- A3 hT]
  unfold ptsT
  rw[AB]
 refine λnd hnd=>?_
 have n1:=zf hnd (.dK [])
 refine⟨_,O,t,_,O,SqT.of (n1 _ _ ht),?_⟩
 refine zam (xs:=xs) (λi σ H'=>(∃ x3 x4,σ=[some (.ref a),some (.ref t),some (.ref nd),x3,x4])/\zD H1 H'/\∃ kvs:List (Key×V),H' nd=some (.dK kvs)/\kvs.length<=9 * i/\∀ x,x < T.m->Tn.at' (wj T) x < i->jz kvs (Sum.inl (x:Int))=some (nV (Tn.at' (wj T) x))) ⟨⟨_,_,O⟩,n1,[],ze,AM _,λx _ h=>absurd h (CG _)⟩ (λi σ H' _ h=>SqT.of (h.2.1 _ _ ht)) ?_ ?_
 ·rintro i x σ H2 U hx ⟨⟨x3,x4,rfl⟩,s2,kvs,hk,kl,hv⟩ hU
  have hi:i < xs.length:=(AF.mp hx).1
  have hr':(ZP T)[i]? = some (ZP T)[i]:=AD (by lia)
  generalize (ZP T)[i]=r at hr'
  obtain⟨z',e1,b,rfl,hb⟩:=ZZ hT (i:=i) (a:=Tn.partF T.m (mkT T) r) (by unfold ptsT;rw[List.getElem?_map,hr'];rfl)
  rw[hx] at e1
  cases e1
  have n3:=zf hU (.tup [.int (i:Nat),.ref b])
  have S3:=s2.trans n3
  have hk3:=n3 _ _ hk
  have hb3:=S3 _ _ hb
  refine⟨U,_,O,SqT.of ze,O,_,_,O,_,_,O,O,?_⟩
  generalize upd H2 U (.tup [.int (i:Nat),.ref b])=H3 at *
  have pl:(Tn.partF T.m (mkT T) r).length<=9:=by
   have:=DL (λj=>decide (Tn.at' (mkT T) j=r)) (List.range T.m)
   rw[AZ] at this
   exact Aa this m9
  generalize hP:Tn.partF T.m (mkT T) r=P at *
  refine⟨_,O,.inr (.inr (.inl ⟨O,.inl ⟨_,hk3⟩⟩)),?_⟩
  refine⟨_,O,b,O,⟨_,SqT.of hb3⟩,λD hD=>?_⟩
  refine Ji (xs:=P.map nV) (λm ys H'=>zD H3 H'/\ys.length=m/\Prs H' ys ((P.take m).map λ(x:Nat)=>((Sum.inl (x:Int):Key),nV i))) ⟨zf hD _,O,.nil⟩ (λm ys H' h _=>SqT.of (h.1 _ _ hb3)) ?_ ?_
  ·rintro m ys H4 x hx4 ⟨s4,yl,hPr⟩ hD4
   have hm:m < (P.map nV).length:=(AF.mp hx4).1
   rw[AH] at hx4
   obtain⟨y,hy,rfl⟩:=AW.mp hx4
   refine yes ⟨_,O,_,O,zt (by show 2<=1000;decide),λt4 ht4=>?_⟩
   have n5:=zf ht4 (.tup [nV y,nV i])
   have hD5:=n5 _ _ hD4
   refine Q6 hm jj hD5 (zq (by rw[AB] at hm;lia)) ⟨(s4.trans n5).put hD,by rw[AL,yl];rfl,?_⟩
   rw[take_snoc hy,AK]
   exact Prs.snoc (p:=(Sum.inl (y:Int),nV i)) (Prs.tk (Tk.put hD5) (Prs.tk (Tk.of n5) hPr)) (Tk.put hD5 _ _ ze)
  rintro ys H4 ⟨s4,yl,hPr⟩ hD4
  rw[AB,Ag] at hPr
  refine⟨nd,D,kvs,ys,_,O,O,s4 _ _ hk3,hD4,hPr,zt (by rw[AB];lia),?_⟩
  refine⟨⟨_,_,O⟩,(S3.trans s4).put hnd,_,ze,?_,λx hx' hl=>?_⟩
  ·have:=jA (P.map λ(x:Nat)=>((Sum.inl (x:Int):Key),nV i)) kvs
   rw[AB] at this
   lia
  ·have er:Tn.at' (ZP T) i=r:=by
    unfold Tn.at'
    rw[AQ,hr']
    rfl
   rw[yy]
   by_cases e:Tn.at' (wj T) x=i
   ·have:x ∈ P:=by
     rw[<- hP]
     refine Tn.part_mem.mpr ⟨hx',?_⟩
     have h5:Tn.at' (ZP T) (Tn.at' (wj T) x)=Tn.at' (mkT T) x:=Tn.reps_home fx.mks hx'
     rw[<- h5,e,er]
    rw[if_pos this,e]
   ·have:¬ x ∈ P:=λh=>by
     rw[<- hP] at h
     have h5:=(Tn.part_mem.mp h).2
     have hrm:=Tn.reps_mem.mp (AJ hr')
     have h6:Tn.at' (wj T) x=Tn.at' (wj T) r:=(Tn.homes_eq fx.mks hx' hrm.1).mpr (h5.trans hrm.2.symm)
     have h7:=(Tn.homes_reps fx.mks (y:=i) (by show i < (ZP T).length;lia)).2
     have h8:Tn.at' (wj T) (Tn.at' (ZP T) i)=i:=h7
     rw[er] at h8
     exact e (h6.trans h8)
    rw[if_neg this]
    exact hv x hx' (by lia)
 ·rintro σ H2 ⟨⟨x3,x4,rfl⟩,s2,kvs,hk,kl,hv⟩
  have ht2:=s2 _ _ ht
  refine⟨_,O,_,O,t,O,⟨_,SqT.of ht2⟩,λD hD=>?_⟩
  refine Ji (xs:=xs) (λi ys H'=>zD H2 H'/\ys=((ZP T).take i).map nV) ⟨zf hD _,O⟩ (λi ys H' h _=>SqT.of (h.1 _ _ ht2)) ?_ ?_
  ·rintro i ys H3 x hx ⟨s3,rfl⟩ hD3
   have hi:i < xs.length:=(AF.mp hx).1
   have hr':(ZP T)[i]? = some (ZP T)[i]:=AD (by lia)
   generalize (ZP T)[i]=r at hr'
   obtain⟨z',e1,b,rfl,hb⟩:=ZZ hT (i:=i) (a:=Tn.partF T.m (mkT T) r) (by unfold ptsT;rw[List.getElem?_map,hr'];rfl)
   rw[hx] at e1
   cases e1
   have hd:=Tn.part_head fx.mks (AJ hr')
   have e0:atI ((Tn.partF T.m (mkT T) r).map nV) 0=some (nV r):=by
    have h:=jM (xs:=Tn.partF T.m (mkT T) r) (i:=0) (AF.mp hd).1
    have e:Tn.at' (Tn.partF T.m (mkT T) r) 0=r:=by
     unfold Tn.at'
     rw[AQ,hd]
     rfl
    rw[e] at h
    exact h
   refine yes ⟨_,O,.inr (.inl ⟨b,_,0,_,O,O,SqT.of ((s2.trans s3) _ _ hb),e0,?_⟩)⟩
   refine Q6 hi jj hD3 (by rw[AB,Ai];exact zq (by lia)) ⟨s3.put hD,?_⟩
   rw[take_snoc hr',AK]
   rfl
  rintro ys H3 ⟨s3,rfl⟩ hD3
  rw[hxl,Ag] at hD3
  have S3:=s1.trans (s2.trans s3)
  refine⟨_,O,.ref a,D,nd,T,ZP T,Tn.at' (wj T),O,ia.same S3,gT,.inl hD3,rl,WE,λcc hc p hp=>.inl ⟨kvs,s3 _ _ hk,hv _ (zaV gT WE hc hp) (by rw[hxl];exact JX gT (zaV gT WE hc hp))⟩,λu H4 s4 iu=>?_⟩
  exact q u H4 (S3.trans s4) iu
abbrev Zt:Stmt:=top 14
def yF:zC ["T"] ["T"] (zn Zt):=⟨rfl,rfl,rfl,by ac_rfl,rfl,by ac_rfl,by ac_rfl⟩
def yG (F:Fun K "shapes_of" "shapes_of" Zt f fd) (gb:Gb mg):ji P w K mg base CX0 1 f fd ["T"] WK:=by
 refine F.ok yF (λvs H Q E h=>?_) (λcdv A outer s H vs Q E hr h=>?_)
 ·obtain⟨v,T,rfl,_⟩:=h
  rfl
 obtain⟨v,T,rfl,ih,g,q⟩:=h
 have nd0:(["name", "places", "cells"]:List Str).Nodup:=by ac_rfl
 refine⟨_,(@zo _ _ _ (@zF _ _ _ _ (@zO _ ["name", "places", "cells"] [none,none,none] _ _ _ _ _ _ _ _ _ _ (by exact (show zJ ["T"] (zn Zt) ["name", "places", "cells"] [none,none,none] _ from⟨O,by ac_rfl,by ac_rfl,by ac_rfl,by ac_rfl,O,by ac_rfl⟩)) O (@qW _ K _ _ _ (@zu _ _ _ _ _ _ _ (@zm _ K O) (@pw _ 0 _ _ O O) (@zk _ _ _ _) (λ_ _=>rfl)) O) (λ_ _ _ _=>(@jv _ K _ _ _ _ 3 O (@zI _ _ _ _ _ (@pgl _ 0 _ _ nd0 O O) (@zI _ _ _ _ _ (@pgl _ 1 _ _ nd0 O O) (@zI _ _ _ _ _ (@pgl _ 2 _ _ nd0 O O) (@jt _) O) O) O) O O O)) (λ_ _ _ _=>(@qd _)) (λ_ _ _ _=>(@ql _ _ _ _ _ (@zd _ _ _ _ _ (@pw _ 0 _ _ O O) (@zd _ _ _ _ _ (@pw _ 1 _ _ O O) (@zg _) O) O))) (by intro _;rfl)))),?_⟩
 obtain⟨a,w,c,vs,rfl,h1,h2,h3,h4⟩:=id ih
 have gx:∀ i,∃ t u:Addr,i < T.cs.length->vs[i]? = some (.ref t)/\H t=some (.tup [.str (T.cs.getD i ⟨"",0,[]⟩).nm,nV (T.cs.getD i ⟨"",0,[]⟩).pl,.ref u])/\H u=some (.tup ((T.cs.getD i ⟨"",0,[]⟩).cs.map nV)):=λi=>by
  by_cases hi:i < T.cs.length
  ·have hc:T.cs[i]? = some (T.cs.getD i ⟨"",0,[]⟩):=by simp[List.getD,hi]
   obtain⟨t,u,h⟩:=h4.get hc
   exact⟨t,u,λ_=>h⟩
  ·exact⟨0,0,λh=>absurd h hi⟩
 obtain⟨ad,gx⟩:=DC gx
 obtain⟨au,gx⟩:=DC gx
 have ge:∀ i,i < T.cs.length->T.cs[i]? = some (T.cs.getD i ⟨"",0,[]⟩):=λi hi=>by simp[List.getD,hi]
 have hcl:=g.cl
 refine⟨_,O,.inr (.inl ⟨a,_,2,_,O,O,SqT.of h1,O,c,O,⟨_,SqT.of h3⟩,λD hD=>?_⟩)⟩
 refine comp_tt3 (n:=T.cs.length) (ad:=ad) (v1:=λi=>.str (T.cs.getD i ⟨"",0,[]⟩).nm) (v2:=λi=>nV (T.cs.getD i ⟨"",0,[]⟩).pl) (v3:=λi=>.ref (au i)) (λi ys H'=>zD H H'/\yM H' (((Sh T).take i).map shV) ys/\ys.length=i) ⟨zf hD _,.nil,O⟩ h4.len.symm (λi hi=>(gx i hi).1) (λi ys H' p _=>SqT.of (p.1 _ _ h3)) (λi ys H' hi p=>SqT.of (p.1 _ _ (gx i hi).2.1)) ?_ ?_
 ·rintro i ys H1 hi ⟨s1,t1,yl⟩ hD1
  refine yes ⟨_,O,_,O,zt (by show 2<=1000;decide),λt ht=>?_⟩
  have n2:=zf ht (.tup [.str (T.cs.getD i ⟨"",0,[]⟩).nm,nV (T.cs.getD i ⟨"",0,[]⟩).pl])
  have hD2:=n2 _ _ hD1
  have hs:(Sh T)[i]? = some ((T.cs.getD i ⟨"",0,[]⟩).nm,(T.cs.getD i ⟨"",0,[]⟩).pl):=by
   unfold Sh
   rw[AH,ge i hi]
   rfl
  refine Q6 hi rfl hD2 (zq (by lia)) ⟨(s1.trans n2).put hD,?_,by rw[AL,yl];rfl⟩
  rw[take_snoc hs,AK]
  exact ((t1.same n2).snoc ze).keep (Tk.put hD2)
 ·rintro ys H1 ⟨s1,t1,yl⟩ hD1
  rw[show (Sh T).take T.cs.length=Sh T by rw[show T.cs.length=(Sh T).length by unfold Sh;rw[List.length_map],Ag]] at t1
  exact q D ys _ s1 hD1 t1
abbrev Z4:Stmt:=top 15
def Yx:zC ["connective", "many", "grades"] ["connective", "many", "grades"] (zn Z4):=⟨rfl,rfl,rfl,by ac_rfl,rfl,by ac_rfl,by ac_rfl⟩
def Yy (F:Fun K "cells_at" "cells_at" Z4 f fd) (gb:Gb mg) (d_cell_places:Def P w K mg base 2 "cell_places" ["many", "grades", "places"] ZQ):ji P w K mg base CX0 3 f fd ["connective", "many", "grades"] spAt:=by
 refine F.ok Yx (λvs H Q E h=>?_) (λcdv A outer s H vs Q E hr h=>?_)
 ·obtain⟨t,u,g,m,c,G,rfl,_⟩:=h
  rfl
 obtain⟨t,u,g,m,c,G,rfl,m9,p2,ht,hu,cl,hg,g9,gl,q⟩:=h
 have nd0:(["place", "connective"]:List Str).Nodup:=by ac_rfl
 refine⟨_,(@zo _ _ _ (@zF _ _ _ _ (@zO _ ["place", "connective"] [none,some 0] _ _ _ _ _ _ _ _ _ _ (by exact (show zJ ["connective", "many", "grades"] (zn Z4) ["place", "connective"] [none,some 0] _ from⟨O,by ac_rfl,by ac_rfl,by ac_rfl,by ac_rfl,O,by ac_rfl⟩)) O (@zG _ K _ _ _ (@zw _ _ _ _ _ _ _ _ _ _ _ d_cell_places hr (by lia) O (@zd _ _ _ _ _ (@pw _ 1 _ _ O O) (@zd _ _ _ _ _ (@pw _ 2 _ _ O O) (@zd _ _ _ _ _ (@zu _ _ _ _ _ _ _ (@zm _ K O) (@pw _ 0 _ _ O O) (@zk _ _ _ _) (λ_ _=>rfl)) (@zg _) O) O) O) (by decide) O O) O) (λ_ _ _ _=>(@pgl _ 0 _ _ nd0 O O)) (λ_ _ _ _=>(@qd _)) (λ_ _ _ _=>(@zu _ _ _ _ _ _ _ (@zm _ K O) (@zu _ _ _ _ _ _ _ (@zm _ K O) (@pw _ 1 _ _ O O) (@zk _ _ _ _) (λ_ _=>rfl)) (@pw _ 0 _ _ O O) (λ_ _=>rfl))) (by intro _;rfl)))),?_⟩
 refine⟨_,O,_,O,_,O,.inr (.inl ⟨t,_,1,_,O,O,SqT.of ht,O,g,m,c.pl,G,O,m9,p2,.inl hg,g9,λl H1 s1 h1=>⟨l,O,⟨_,SqL.of h1⟩,λD hD=>?_⟩⟩)⟩
 have pln:(Tn.pls m G c.pl).length<=81:=by
  rw[Tn.pls_len]
  exact Aa (CY g9 _) (Aa (CL (by decide) p2) (by decide))
 refine qB (Tn.pls m G c.pl) nV (λp=>nV (Tn.at' c.cs p)) h1 (by lia) hD (λz hz H' Q' s2 q'=>?_) (λH2 s2 hD2=>?_)
 ·have hz2:=Tn.pls_lt' gl c.pl z hz
  exact⟨_,O,.inr (.inl ⟨t,_,2,_,O,O,SqT.of (s2 _ _ (s1 _ _ ht)),O,_,O,.inr (.inl ⟨u,_,_,_,O,O,SqT.of (s2 _ _ (s1 _ _ hu)),jM (by rw[cl];exact hz2),q' H' zD.rfl'⟩)⟩)⟩
 ·exact q D _ (s1.trans s2) (by rw[hD2,Ak];rfl)
abbrev Zu:Stmt:=top 13
def qP:zC ["one", "other", "many", "firsts", "seconds", "wished", "connectives", "first", "second", "reached", "beside"] ["one", "other"] (zn Zu):=⟨rfl,rfl,rfl,by ac_rfl,rfl,by ac_rfl,by ac_rfl⟩
def za3 (F:Fun K "paired" "paired" Zu f fd) (gb:Gb mg) (d_shapes_of:Def P w K mg base 1 "shapes_of" ["T"] WK) (d_cells_at:Def P w K mg base 3 "cells_at" ["connective", "many", "grades"] spAt):ji P w K mg base CX0 4 f fd ["one", "other"] Ys:=by
 refine F.ok qP (λvs H Q E h=>?_) (λcdv A outer s H vs Q E hr h=>?_)
 ·obtain⟨v,u,A,B,rfl,_⟩:=h
  rfl
 obtain⟨v,u,A,B,rfl,ia,ib,gA,gB,hS,n9,q⟩:=h
 have nd0:(["pair", "other"]:List Str).Nodup:=by ac_rfl
 have nd1:(["pair", "other"]:List Str).Nodup:=by ac_rfl
 have nd2:(["pair", "firsts", "one", "seconds", "other"]:List Str).Nodup:=by ac_rfl
 have nd3:(["x", "y", "other"]:List Str).Nodup:=by ac_rfl
 refine⟨_,(@zh _ _ _ _ _ (@qX _ _ _ _ _ _ _ _ (@zH _ _ _ _ _ _ _ _ (@op_neLT _ 2 _ hr) (@zw _ _ _ _ _ _ _ _ _ _ _ d_shapes_of hr (by lia) O (@zd _ _ _ _ _ (@pw _ 0 _ _ O O) (@zg _) O) (by decide) O O) (@zw _ _ _ _ _ _ _ _ _ _ _ d_shapes_of hr (by lia) O (@zd _ _ _ _ _ (@pw _ 1 _ _ O O) (@zg _) O) (by decide) O O) (@qi _ _ (by decide) (by decide))) (@zo _ _ _ (@Jg _ _)) (@zU _)) (@zh _ _ _ _ _ (@zr _ _ 2 _ _ _ _ qP.nd O (Or.inl O) (@zB _ _ _ _ _ _ _ _ (@jG _) (@zu _ _ _ _ _ _ _ (@zm _ K O) (@pw _ 0 _ _ O O) (@zk _ _ _ _) (λ_ _=>rfl)) (@zu _ _ _ _ _ _ _ (@zm _ K O) (@pw _ 1 _ _ O O) (@zk _ _ _ _) (λ_ _=>rfl))) O (by walk_at "f")) (@zh _ _ _ _ _ (@qX _ _ _ _ _ _ _ _ (@zH _ _ _ _ _ _ _ _ (@op_gt _) (@pw _ 2 _ _ O O) (@pe_globR _ _ _ _ O gb.MOST_GRADES (by decide)) (@qi _ _ (by decide) (by decide))) (@zo _ _ _ (@Jg _ _)) (@zU _)) (@zh _ _ _ _ _ (@zr _ _ 3 _ _ _ _ qP.nd O (Or.inr O) (@zO _ ["pair", "other"] [none,some 1] _ _ _ _ _ _ _ _ _ _ (by exact (show zJ ["one", "other", "many", "firsts", "seconds", "wished", "connectives", "first", "second", "reached", "beside"] (zn Zu) ["pair", "other"] [none,some 1] _ from⟨O,by ac_rfl,by ac_rfl,by ac_rfl,by ac_rfl,O,by ac_rfl⟩)) O (@zR _ _ _ _ _ _ O gb.range (@zd _ _ _ _ _ (@pw _ 2 _ _ O O) (@zg _) O) O) (λ_ _ _ _=>(@pgl _ 0 _ _ nd0 O O)) (λ_ _ _ _=>(@qd _)) (λ_ _ _ _=>(@zB _ _ _ _ _ _ _ _ (@Qh _) (@pw _ 0 _ _ O O) (@zu _ _ _ _ _ _ _ (@zm _ K O) (@pw _ 1 _ _ O O) (@zk _ _ _ _) (λ_ _=>rfl)))) (by intro _;rfl)) O (by walk_at "f")) (@zh _ _ _ _ _ (@zr _ _ 4 _ _ _ _ qP.nd O (Or.inr O) (@zO _ ["pair", "other"] [none,some 1] _ _ _ _ _ _ _ _ _ _ (by exact (show zJ ["one", "other", "many", "firsts", "seconds", "wished", "connectives", "first", "second", "reached", "beside"] (zn Zu) ["pair", "other"] [none,some 1] _ from⟨O,by ac_rfl,by ac_rfl,by ac_rfl,by ac_rfl,O,by ac_rfl⟩)) O (@zR _ _ _ _ _ _ O gb.range (@zd _ _ _ _ _ (@pw _ 2 _ _ O O) (@zg _) O) O) (λ_ _ _ _=>(@pgl _ 0 _ _ nd1 O O)) (λ_ _ _ _=>(@qd _)) (λ_ _ _ _=>(@zB _ _ _ _ _ _ _ _ (@qK _) (@pw _ 0 _ _ O O) (@zu _ _ _ _ _ _ _ (@zm _ K O) (@pw _ 1 _ _ O O) (@zk _ _ _ _) (λ_ _=>rfl)))) (by intro _;rfl)) O (by walk_at "f")) (@zh _ _ _ _ _ (@jF _ ["pair", "firsts", "one", "seconds", "other"] [none,some 3,some 0,some 4,some 1] _ 5 _ _ _ _ _ _ _ _ _ _ _ _ (by exact (show zJ ["one", "other", "many", "firsts", "seconds", "wished", "connectives", "first", "second", "reached", "beside"] (zn Zu) ["pair", "firsts", "one", "seconds", "other"] [none,some 3,some 0,some 4,some 1] _ from⟨O,by ac_rfl,by ac_rfl,by ac_rfl,by ac_rfl,O,by ac_rfl⟩)) O (@zR _ _ _ _ _ _ O gb.range (@zd _ _ _ _ _ (@pw _ 2 _ _ O O) (@zg _) O) O) (λ_ _ _ _=>(@pgl _ 0 _ _ nd2 O O)) (λ_ _ _ _=>(@Jw _ _ _ (@PW.pt _ _ _ (@WT _ _ _ _ _ _ _ (@zH _ _ _ _ _ _ _ _ (@qv _ K O) (@zu _ _ _ _ _ _ _ (@zm _ K O) (@pw _ 1 _ _ O O) (@pw _ 0 _ _ O O) (λ_ _=>rfl)) (@zu _ _ _ _ _ _ _ (@zm _ K O) (@pw _ 2 _ _ O O) (@zk _ _ _ _) (λ_ _=>rfl)) (by with_unfolding_all rfl)) (@Jr _ _ _ _ (@zH _ _ _ _ _ _ _ _ (@qv _ K O) (@zu _ _ _ _ _ _ _ (@zm _ K O) (@pw _ 3 _ _ O O) (@pw _ 0 _ _ O O) (λ_ _=>rfl)) (@zu _ _ _ _ _ _ _ (@zm _ K O) (@pw _ 4 _ _ O O) (@zk _ _ _ _) (λ_ _=>rfl)) (by with_unfolding_all rfl))))))) (λ_ _ _ _=>(@pw _ 0 _ _ O O)) qP.nd O O O (by intro _;rfl)) (@zh _ _ _ _ _ (@zr _ _ 6 _ _ _ _ qP.nd O (Or.inl O) (@zS _ _ _ _ (@zg _)) O (by walk_at "f")) (@zh _ _ _ _ _ (@zZ _ _ _ _ _ _ _ _ Ad O (@YR _ true K _ _ _ _ _ _ _ _ O gb.zip (@zd _ _ _ _ _ (@zu _ _ _ _ _ _ _ (@zm _ K O) (@pw _ 0 _ _ O O) (@zk _ _ _ _) (λ_ _=>rfl)) (@zd _ _ _ _ _ (@zu _ _ _ _ _ _ _ (@zm _ K O) (@pw _ 1 _ _ O O) (@zk _ _ _ _) (λ_ _=>rfl)) (@zg _) O) O) O O O) (@jv _ K _ _ _ _ 2 O (@zI _ _ _ _ _ (@pgl _ 7 _ _ qP.nd O O) (@zI _ _ _ _ _ (@pgl _ 8 _ _ qP.nd O O) (@jt _) O) O) O O O) (@zh _ _ _ _ _ (@zr _ _ 9 _ _ _ _ qP.nd O (Or.inl O) (@zw _ _ _ _ _ _ _ _ _ _ _ d_cells_at hr (by lia) O (@zd _ _ _ _ _ (@pw _ 7 _ _ O O) (@zd _ _ _ _ _ (@zu _ _ _ _ _ _ _ (@zm _ K O) (@pw _ 0 _ _ O O) (@zk _ _ _ _) (λ_ _=>rfl)) (@zd _ _ _ _ _ (@pw _ 3 _ _ O O) (@zg _) O) O) O) (by decide) O O) O (by walk_at "f")) (@zh _ _ _ _ _ (@zr _ _ 10 _ _ _ _ qP.nd O (Or.inl O) (@zw _ _ _ _ _ _ _ _ _ _ _ d_cells_at hr (by lia) O (@zd _ _ _ _ _ (@pw _ 8 _ _ O O) (@zd _ _ _ _ _ (@zu _ _ _ _ _ _ _ (@zm _ K O) (@pw _ 1 _ _ O O) (@zk _ _ _ _) (λ_ _=>rfl)) (@zd _ _ _ _ _ (@pw _ 4 _ _ O O) (@zg _) O) O) O) (by decide) O O) O (by walk_at "f")) (@zo _ _ _ (@qf _ _ _ _ (@qw _ K _ _ _ _ _ _ _ _ _ _ _ AY Aq Ap (@zT _) (@pw _ 6 _ _ O O) (@zd _ _ _ _ _ (@ql _ _ _ _ _ (@zd _ _ _ _ _ (@zu _ _ _ _ _ _ _ (@zm _ K O) (@pw _ 7 _ _ O O) (@zk _ _ _ _) (λ_ _=>rfl)) (@zd _ _ _ _ _ (@zu _ _ _ _ _ _ _ (@zm _ K O) (@pw _ 7 _ _ O O) (@zk _ _ _ _) (λ_ _=>rfl)) (@zd _ _ _ _ _ (@zy _ _ _ _ _ _ _ _ _ (@zx _ K O) O gb.tuple qk (@zd _ _ _ _ _ (@zO _ ["x", "y", "other"] [none,none,some 1] _ _ _ _ _ _ _ _ _ _ (by exact (show zJ ["one", "other", "many", "firsts", "seconds", "wished", "connectives", "first", "second", "reached", "beside"] (zn Zu) ["x", "y", "other"] [none,none,some 1] _ from⟨O,by ac_rfl,by ac_rfl,by ac_rfl,by ac_rfl,O,by ac_rfl⟩)) O (@YR _ false K _ _ _ _ _ _ _ _ O gb.zip (@zd _ _ _ _ _ (@pw _ 9 _ _ O O) (@zd _ _ _ _ _ (@pw _ 10 _ _ O O) (@zg _) O) O) O O O) (λ_ _ _ _=>(@jv _ K _ _ _ _ 2 O (@zI _ _ _ _ _ (@pgl _ 0 _ _ nd3 O O) (@zI _ _ _ _ _ (@pgl _ 1 _ _ nd3 O O) (@jt _) O) O) O O O)) (λ_ _ _ _=>(@qd _)) (λ_ _ _ _=>(@zB _ _ _ _ _ _ _ _ (@qt _) (@zB _ _ _ _ _ _ _ _ (@jG _) (@pw _ 0 _ _ O O) (@zu _ _ _ _ _ _ _ (@zm _ K O) (@pw _ 2 _ _ O O) (@zk _ _ _ _) (λ_ _=>rfl))) (@pw _ 1 _ _ O O))) (by intro _;rfl)) (@zg _) O) (by decide) (by decide) O O) (@zg _) O) O) O)) (@zg _) O) O O O O O O) O)))) (by intro _;rfl)) (@zo _ _ _ (@zF _ _ _ _ (@ql _ _ _ _ _ (@zd _ _ _ _ _ (@pw _ 2 _ _ O O) (@zd _ _ _ _ _ (@zy _ _ _ _ _ _ _ _ _ (@zx _ K O) O gb.tuple qk (@zd _ _ _ _ _ (@pw _ 5 _ _ O O) (@zg _) O) (by decide) (by decide) O O) (@zd _ _ _ _ _ (@zy _ _ _ _ _ _ _ _ _ (@zx _ K O) O gb.tuple qk (@zd _ _ _ _ _ (@pw _ 6 _ _ O O) (@zg _) O) (by decide) (by decide) O O) (@zg _) O) O) O)))))))))))),?_⟩
 obtain⟨a,wa,ca,vsA,rfl,h1,h2,h3A,h4A⟩:=id ia
 obtain⟨b,wb,cb,vsB,rfl,k1,k2,h3B,h4B⟩:=id ib
 have am:=gA.m9
 have bm:=gB.m9
 have b1:=gB.m1
 have gclA:=gA.cl
 have gclB:=gB.cl
 have mi:((A.m:Int) * (B.m:Int))=((A.m * B.m:Nat):Int):=by rw[C8]
 refine⟨_,O,_,A,O,ia,gA,λl1 xs1 H1 s1 hl1 t1=>?_⟩
 refine⟨_,O,_,B,O,ib.same s1,gB,λl2 xs2 H2 s2 hl2 t2=>?_⟩
 refine⟨l1,l2,_,_,_,_,O,O,s2 _ _ hl1,hl2,t1.same s2,t2,zaN _,zaN _,_,O,?_⟩
 rw[zaO]
 have S:=s1.trans s2
 rw[An hS]
 refine⟨_,O,.inr (.inl ⟨a,_,0,_,O,O,SqT.of (S _ _ h1),O,_,O,.inr (.inl ⟨b,_,0,_,O,O,SqT.of (S _ _ k1),O,_,_,O,O,.inr ⟨by lia,by lia⟩,?_⟩)⟩)⟩
 dsimp only
 rw[mi]
 refine⟨_,O,_,_,O,O,_,O,?_⟩
 refine XG (As (show ¬ (9:Int) < ((A.m * B.m:Nat):Int) by lia)) ?_
 have clen:A.cs.length=B.cs.length:=by
  have:=BQ List.length hS
  unfold Sh at this
  rw[AB,AB] at this
  exact this
 generalize hn:A.m * B.m=n at *
 have HX1:=H2
 refine⟨_,O,(n:Int),O,by lia,by lia,λD1 hD1=>?_⟩
 rw[Av]
 refine qL (λi ys H'=>zD H2 H'/\ys=((List.range i).map λp=>p / B.m).map nV) ⟨zf hD1 _,O⟩ ?_ ?_
 ·rintro i ys H' hi ⟨s1,rfl⟩ hD'
  have ev:V.int ((0+(i:Int)) / (B.m:Int))=nV (i / B.m):=by
   rw[BS]
   show _=V.int _
   rw[Do]
  refine yes ⟨_,O,_,O,.inr (.inl ⟨b,_,0,_,O,O,SqT.of (s1 _ _ (S _ _ k1)),O,_,_,O,O,⟨by lia,by lia⟩,?_⟩)⟩
  refine Q6 hi jj hD' (by rw[AB,AB,AZ];exact zq (by lia)) ⟨s1.put hD1,?_⟩
  rw[BI,AK,AK]
  show _++[V.int ((0+(i:Int)) / (B.m:Int))]=_
  rw[ev]
  rfl
 rintro ys1 HF ⟨sF,rfl⟩ hF
 have SF:=S.trans sF
 refine⟨_,O,(n:Int),O,by lia,by lia,λD2 hD2=>?_⟩
 rw[Av]
 refine qL (λi ys H'=>zD HF H'/\ys=((List.range i).map λp=>p % B.m).map nV) ⟨zf hD2 _,O⟩ ?_ ?_
 ·rintro i ys H' hi ⟨s1,rfl⟩ hD'
  have ev:V.int ((0+(i:Int)) % (B.m:Int))=nV (i % B.m):=by
   rw[BS]
   show _=V.int _
   rw[Dn]
  refine yes ⟨_,O,_,O,.inr (.inl ⟨b,_,0,_,O,O,SqT.of (s1 _ _ (SF _ _ k1)),O,_,_,O,O,(by lia),?_⟩)⟩
  refine Q6 hi jj hD' (by rw[AB,AB,AZ];exact zq (by lia)) ⟨s1.put hD2,?_⟩
  rw[BI,AK,AK]
  show _++[V.int ((0+(i:Int)) % (B.m:Int))]=_
  rw[ev]
  rfl
 rintro ys2 HG ⟨sG,rfl⟩ hG
 have SG:=SF.trans sG
 have hF':=sG _ _ hF
 refine⟨_,O,(n:Int),O,by lia,by lia,λD3 hD3=>?_⟩
 rw[Av]
 refine qL (λi ys H'=>zD HG H'/\ys=((List.range i).filter λp=>decide (p / B.m ∈ A.ws) && decide (p % B.m ∈ B.ws)).map nV/\ys.length<=i) ⟨zf hD3 _,O,AM _⟩ ?_ ?_
 ·rintro i ys H' hi ⟨s5,rfl,yl⟩ hD'
  have e1:atI (((List.range n).map λp=>p / B.m).map nV) (0+(i:Int))=some (nV (i / B.m)):=by
   rw[BS]
   refine qj ?_
   rw[AH,AH,A2 hi]
   rfl
  have e2:atI (((List.range n).map λp=>p % B.m).map nV) (0+(i:Int))=some (nV (i % B.m)):=by
   rw[BS]
   refine qj ?_
   rw[AH,AH,A2 hi]
   rfl
  have no:(decide (i / B.m ∈ A.ws) && decide (i % B.m ∈ B.ws))=false->zD HG H'/\((List.range i).filter λp=>decide (p / B.m ∈ A.ws) && decide (p % B.m ∈ B.ws)).map nV=((List.range (i+1)).filter λp=>decide (p / B.m ∈ A.ws) && decide (p % B.m ∈ B.ws)).map nV/\(((List.range i).filter λp=>decide (p / B.m ∈ A.ws) && decide (p % B.m ∈ B.ws)).map nV).length<=i+1:=λhb=>⟨s5,by rw[BI,Cg,AK,CB,hb];simp,by lia⟩
  refine⟨_,O,_,O,.inl ⟨D1,_,_,_,O,O,SqL.of (s5 _ _ hF'),e1,?_⟩⟩
  refine⟨_,O,.inr (.inl ⟨a,_,1,_,O,O,SqT.of (s5 _ _ (SG _ _ h1)),O,wa,_,O,.inr (SqT.of (s5 _ _ (SG _ _ h2))),O,qm _,_,O,?_⟩)⟩
  dsimp only
  rw[if_neg AS,j7]
  by_cases m1:i / B.m ∈ A.ws
  ·rw[if_pos (An m1)]
   refine⟨_,O,_,O,.inl ⟨D2,_,_,_,O,O,SqL.of (s5 _ _ hG),e2,?_⟩⟩
   refine⟨_,O,.inr (.inl ⟨b,_,1,_,O,O,SqT.of (s5 _ _ (SG _ _ k1)),O,wb,_,O,.inr (SqT.of (s5 _ _ (SG _ _ k2))),O,qm _,_,O,?_⟩)⟩
   dsimp only
   rw[if_neg AS,j7]
   by_cases m2:i % B.m ∈ B.ws
   ·rw[if_pos (An m2)]
    refine⟨_,O,Q6 hi jj hD' (zq (by lia)) ⟨s5.put hD3,?_,by rw[AL];show _+1<=_;lia⟩⟩
    rw[BI,Cg,AK,BS]
    simp[m1,m2]
   ·rw[if_neg (by rw[As m2];exact AS)]
    exact cno hi jj hD' (no (by rw[As m2,Bool.and_false]))
  ·rw[if_neg (by rw[As m1];exact AS)]
   exact cno hi jj hD' (no (by rw[As m1,Bool.false_and]))
 rintro ysW HW ⟨sW,rfl,ylW⟩ hW
 have SW:=SG.trans sW
 refine⟨zt (by show 0<=1000;decide),λcn hcn=>?_⟩
 have nc:=zf hcn (.lst [])
 have hcW:=hcn
 refine⟨_,O,.inr (.inl ⟨a,_,2,_,O,O,SqT.of (nc _ _ (SW _ _ h1)),O,_,O,.inr (.inl ⟨b,_,2,_,O,O,SqT.of (nc _ _ (SW _ _ k1)),O,ca,cb,vsA,vsB,O,SqT.of (nc _ _ (SW _ _ h3A)),SqT.of (nc _ _ (SW _ _ h3B)),?_⟩)⟩)⟩
 have vl:vsA.length=vsB.length:=by rw[<- h4A.len,<- h4B.len];exact clen
 refine for_zip (xs:=vsA) (ys:=vsB) (n:=vsA.length) (λi σ H'=>(∃ x5 x7 x8 x9 x10,σ=[some (.ref a),some (.ref b),some (nV n),some (.ref D1),some (.ref D2),x5,some (.ref cn),x7,x8,x9,x10]/\x5=some (.ref D3))/\zD HW H'/\∃ ys,H' cn=some (.lst ys)/\Cns H' (((A.cs.zip B.cs).take i).map λz=>⟨z.1.nm,z.1.pl,Tn.pc n A.m B.m z.1.pl z.1.cs z.2.cs⟩) ys) (by lia) ⟨⟨_,_,_,_,_,O,O⟩,nc,[],ze,.nil⟩ (λi σ H' _ h=>⟨SqT.of (h.2.1 _ _ (SW _ _ h3A)),SqT.of (h.2.1 _ _ (SW _ _ h3B))⟩) ?_ ?_
 ·rintro i x y σ H3 U hi hx hy hU ⟨⟨x5,x7,x8,x9,x10,rfl,e5⟩,s3,ys,hys,hC⟩
  have hiA:i < A.cs.length:=by rw[h4A.len];exact hi
  have hiB:i < B.cs.length:=by lia
  have ga:A.cs[i]? = some A.cs[i]:=AD hiA
  have gb':B.cs[i]? = some B.cs[i]:=AD hiB
  generalize A.cs[i]=cA at ga
  generalize B.cs[i]=cB at gb'
  obtain⟨tA,uA,eA,fA1,fA2⟩:=h4A.get ga
  obtain⟨tB,uB,eB,fB1,fB2⟩:=h4B.get gb'
  rw[hx] at eA
  rw[hy] at eB
  cases eA
  cases eB
  obtain⟨nlA,pA,csA⟩:=gA.cn _ (AJ ga)
  obtain⟨nlB,pB,csB⟩:=gB.cn _ (AJ gb')
  obtain⟨en,ep⟩:=sh_zip hS ga gb'
  have nU:=zf hU (.tup [.ref tA,.ref tB])
  have S3:=SW.trans (s3.trans nU)
  have hF3:=nU _ _ (s3 _ _ (sW _ _ hF'))
  have hG3:=nU _ _ (s3 _ _ (sW _ _ hG))
  have fl1:∀ x ∈ Tn.fsts n B.m,x < A.m:=λx hx=>by
   obtain⟨y,hy',rfl⟩:=AI.mp hx
   exact Tn.div_lt' (by rw[hn];exact Ab.mp hy')
  have fl2:∀ x ∈ Tn.snds n B.m,x < B.m:=λx hx=>by
   obtain⟨y,hy',rfl⟩:=AI.mp hx
   exact BZ _ (by lia)
  refine⟨_,O,_,O,.inr (.inl ⟨a,_,0,_,O,O,SqT.of (S3 _ _ h1),O,_,O,tA,uA,D1,A.m,cA,Tn.fsts n B.m,O,am,pA,S3 _ _ fA1,S3 _ _ fA2,csA.len,hF3,by rw[Tn.fsts_len];exact n9,fl1,λl3 H4 s4 hl3=>?_⟩)⟩
  have S4:=S3.trans s4
  refine⟨_,O,_,O,.inr (.inl ⟨b,_,0,_,O,O,SqT.of (S4 _ _ k1),O,_,O,tB,uB,D2,B.m,cB,Tn.snds n B.m,O,bm,pB,S4 _ _ fB1,S4 _ _ fB2,csB.len,s4 _ _ hG3,by rw[Tn.snds_len];exact n9,fl2,λl4 H5 s5 hl4=>?_⟩)⟩
  have S5:=S4.trans s5
  have hl35:=s5 _ _ hl3
  have hys5:=s5 _ _ (s4 _ _ (nU _ _ hys))
  refine⟨_,O,.inl ⟨O,_,SqL.of hys5⟩,_,O,.inr (.inl ⟨tA,_,0,_,O,O,SqT.of (S5 _ _ fA1),O,_,O,.inr (.inl ⟨tA,_,1,_,O,O,SqT.of (S5 _ _ fA1),O,_,O,_,O,l3,l4,_,_,O,SqL.of hl35,SqL.of hl4,λD hD=>?_⟩)⟩)⟩
  rw[<- ep] at hl4
  generalize hR:(Tn.pls A.m (Tn.fsts n B.m) cA.pl).map (Tn.at' cA.cs)=R at hl35
  generalize hZ:(Tn.pls B.m (Tn.snds n B.m) cA.pl).map (Tn.at' cB.cs)=Z at hl4
  have rl:R.length<=81:=by
   rw[<- hR,AB,Tn.pls_len,Tn.fsts_len]
   exact JS n9 pA
  have zl:Z.length=R.length:=by
   rw[<- hR,<- hZ,AB,AB,Tn.pls_len,Tn.pls_len,Tn.fsts_len,Tn.snds_len]
  refine XN (xs:=R.map nV) (ys:=Z.map nV) (n:=R.length) (more:=[some (.ref b)]) (λj zs H'=>zD H5 H'/\zs=(((R.zip Z).take j).map λz=>z.1 * B.m+z.2).map nV) (by rw[AB,AB];lia) ⟨zf hD _,O⟩ (λj zs H' h _=>⟨SqL.of (h.1 _ _ hl35),SqL.of (h.1 _ _ hl4)⟩) ?_ ?_
  ·rintro j zs H6 W u v hu hv hj ⟨s6,rfl⟩ hD6 hW6
   rw[AH] at hu hv
   obtain⟨ru,hru,rfl⟩:=AW.mp hu
   obtain⟨rv,hrv,rfl⟩:=AW.mp hv
   have nW:=zf hW6 (.tup [nV ru,nV rv])
   have hD7:=nW _ _ hD6
   have hz:(R.zip Z)[j]? = some (ru,rv):=BJ.mpr ⟨hru,hrv⟩
   have ev:V.int ((ru:Int) * (B.m:Int)+(rv:Int))=nV (ru * B.m+rv):=by
    show _=V.int _
    rw[DV,C8]
   refine yes ⟨_,O,_,O,.inr (.inl ⟨b,_,0,_,O,O,SqT.of (nW _ _ (s6 _ _ (S5 _ _ k1))),O,_,_,O,O,.inr ⟨by lia,by lia⟩,_,O,_,_,O,O,?_⟩)⟩
   refine Q6 hj ⟨_,_,O⟩ hD7 (by rw[AB,AB,Ai];exact zq (by lia)) ⟨(s6.trans nW).put hD,?_⟩
   rw[take_snoc hz,AK,AK]
   show _++[V.int ((ru:Int) * (B.m:Int)+(rv:Int))]=_
   rw[ev]
   rfl
  ·rintro zs H6 ⟨s6,rfl⟩ hD6
   rw[B8 (by rw[Cj];lia)] at hD6
   have epc:(R.zip Z).map (λz=>z.1 * B.m+z.2)=Tn.pc n A.m B.m cA.pl cA.cs cB.cs:=by
    unfold Tn.pc
    rw[<- hR,<- hZ,List.zip_map,Ak]
    rfl
   rw[epc] at hD6
   refine⟨D,_,O,.inl ⟨SqL.of hD6,λt2 ht2=>?_⟩⟩
   have n7:=zf ht2 (.tup ((Tn.pc n A.m B.m cA.pl cA.cs cB.cs).map nV))
   refine⟨zt (by show 3<=1000;decide),λt3 ht3=>?_⟩
   have n8:=zf ht3 (.tup [.str cA.nm,nV cA.pl,.ref t2])
   have u8:=s6.trans (n7.trans n8)
   have hys8:=u8 _ _ hys5
   have hyl:=hC.len
   rw[AB,Ai] at hyl
   have S8:=s3.trans (nU.trans (s4.trans (s5.trans u8)))
   refine⟨cn,_,_,O,O,hys8,zq (by lia),⟨⟨_,_,_,_,_,O,e5⟩,S8.put hcW,_,ze,?_⟩⟩
   have hz:(A.cs.zip B.cs)[i]? = some (cA,cB):=BJ.mpr ⟨ga,gb'⟩
   rw[take_snoc hz,AK]
   exact (Cns.snoc (c:=⟨cA.nm,cA.pl,Tn.pc n A.m B.m cA.pl cA.cs cB.cs⟩) (hC.same (nU.trans (s4.trans (s5.trans u8)))) ze (n8 _ _ ze)).tk (Tk.put hys8)
 ·rintro σ H3 ⟨⟨x5,x7,x8,x9,x10,rfl,rfl⟩,s3,ys,hys,hC⟩
  rw[show (A.cs.zip B.cs).take vsA.length=A.cs.zip B.cs by rw[<- h4A.len];exact B8 (by rw[Cj];lia)] at hC
  refine⟨_,O,_,O,D3,_,O,.inl ⟨SqL.of (s3 _ _ hW),λtw htw=>?_⟩⟩
  have n5:=zf htw (.tup ((Tn.pw n B.m A.ws B.ws).map nV))
  refine⟨_,O,cn,_,O,.inl ⟨SqL.of (n5 _ _ hys),λtc htc=>?_⟩⟩
  have n6:=zf htc (.tup ys)
  refine⟨zt (by show 3<=1000;decide),λt ht=>?_⟩
  have n7:=zf ht (.tup [nV n,.ref tw,.ref tc])
  have S7:=n5.trans (n6.trans n7)
  refine q _ _ (SW.trans (s3.trans S7)) ?_
  unfold qo
  rw[hn]
  exact⟨t,tw,tc,ys,O,ze,n7 _ _ (n6 _ _ ze),n7 _ _ ze,hC.same S7⟩
abbrev WN:Stmt:=top 18
def sc_keeps:zC ["connective", "many", "grades"] ["connective", "many", "grades"] (zn WN):=⟨rfl,rfl,rfl,by ac_rfl,rfl,by ac_rfl,by ac_rfl⟩
def ok_keeps (F:Fun K "keeps" "keeps" WN f fd) (gb:Gb mg) (d_cell_places:Def P w K mg base 2 "cell_places" ["many", "grades", "places"] ZQ):ji P w K mg base CX0 3 f fd ["connective", "many", "grades"] Yp:=by
 refine F.ok sc_keeps (λvs H Q E h=>?_) (λcdv A outer s H vs Q E hr h=>?_)
 ·obtain⟨t,u,g,m,c,G,rfl,_⟩:=h
  rfl
 obtain⟨t,u,g,m,c,G,rfl,m9,p2,ht,hu,cl,hg,g9,gl,q⟩:=h
 have nd0:(["place", "connective", "grades"]:List Str).Nodup:=by ac_rfl
 refine⟨_,(@zo _ _ _ (@zF _ _ _ _ (@zE _ _ _ _ _ _ _ _ _ (@ZG _ K O O) O gb.all W6 (@zd _ _ _ _ _ (@zO _ ["place", "connective", "grades"] [none,some 0,some 2] _ _ _ _ _ _ _ _ _ _ (by exact (show zJ ["connective", "many", "grades"] (zn WN) ["place", "connective", "grades"] [none,some 0,some 2] _ from⟨O,by ac_rfl,by ac_rfl,by ac_rfl,by ac_rfl,O,by ac_rfl⟩)) O (@zG _ K _ _ _ (@zw _ _ _ _ _ _ _ _ _ _ _ d_cell_places hr (by lia) O (@zd _ _ _ _ _ (@pw _ 1 _ _ O O) (@zd _ _ _ _ _ (@pw _ 2 _ _ O O) (@zd _ _ _ _ _ (@zu _ _ _ _ _ _ _ (@zm _ K O) (@pw _ 0 _ _ O O) (@zk _ _ _ _) (λ_ _=>rfl)) (@zg _) O) O) O) (by decide) O O) O) (λ_ _ _ _=>(@pgl _ 0 _ _ nd0 O O)) (λ_ _ _ _=>(@qd _)) (λ_ _ _ _=>(@ZB _ _ _ _ _ _ _ _ (@qv _ K O) (@zu _ _ _ _ _ _ _ (@zm _ K O) (@zu _ _ _ _ _ _ _ (@zm _ K O) (@pw _ 1 _ _ O O) (@zk _ _ _ _) (λ_ _=>rfl)) (@pw _ 0 _ _ O O) (λ_ _=>rfl)) (@pw _ 2 _ _ O O) (by with_unfolding_all rfl))) (by intro _;rfl)) (@zg _) O) (by decide) (by decide) O O))),?_⟩
 refine⟨_,O,_,O,_,O,.inr (.inl ⟨t,_,1,_,O,O,SqT.of ht,O,g,m,c.pl,G,O,m9,p2,.inr hg,g9,λl H1 s1 h1=>⟨l,O,⟨_,SqL.of h1⟩,λD hD=>?_⟩⟩)⟩
 have pln:(Tn.pls m G c.pl).length<=81:=by
  rw[Tn.pls_len]
  exact JS g9 p2
 refine qB (Tn.pls m G c.pl) nV (λp=>.bl (decide (Tn.at' c.cs p ∈ G))) h1 (by lia) hD (λz hz H' Q' s2 q'=>?_) (λH2 s2 hD2=>?_)
 ·have hz2:=Tn.pls_lt' gl c.pl z hz
  refine⟨_,O,.inr (.inl ⟨t,_,2,_,O,O,SqT.of (s2 _ _ (s1 _ _ ht)),O,_,O,.inr (.inl ⟨u,_,_,_,O,O,SqT.of (s2 _ _ (s1 _ _ hu)),jM (by rw[cl];exact hz2),_,O,g,_,O,.inr (SqT.of (s2 _ _ (s1 _ _ hg))),O,qm _,?_⟩)⟩)⟩
  rw[j7]
  exact q' H' zD.rfl'
 ·refine⟨D,(Tn.pls m G c.pl).map λp=>decide (Tn.at' c.cs p ∈ G),O,SqL.of (by rw[hD2,Ak];rfl),?_⟩
  rw[Ci]
  exact q _ (s1.trans s2)
abbrev ZU:Stmt:=top 17
def xY:zC ["T", "grades"] ["T", "grades"] (zn ZU):=⟨rfl,rfl,rfl,by ac_rfl,rfl,by ac_rfl,by ac_rfl⟩
def xZ (F:Fun K "part_of" "part_of" ZU f fd) (gb:Gb mg) (d_keeps:Def P w K mg base 3 "keeps" ["connective", "many", "grades"] Yp) (d_remade:Def P w K mg base 3 "remade" ["T", "olds", "news"] ZR):ji P w K mg base CX0 4 f fd ["T", "grades"] Yt:=by
 refine F.ok xY (λvs H Q E h=>?_) (λcdv A outer s H vs Q E hr h=>?_)
 ·obtain⟨v,g,T,G,rfl,_⟩:=h
  rfl
 obtain⟨v,g,T,G,rfl,ih,gT,hG,hk,hg,q⟩:=h
 have nd0:(["connective", "T", "grades"]:List Str).Nodup:=by ac_rfl
 have nd1:(["one", "old"]:List Str).Nodup:=by ac_rfl
 refine⟨_,(@zh _ _ _ _ _ (@qX _ _ _ _ _ _ _ _ (@WU _ _ _ _ (@Zy _ _ _ (@zE _ _ _ _ _ _ _ _ _ (@ZG _ K O O) O gb.all W6 (@zd _ _ _ _ _ (@zO _ ["connective", "T", "grades"] [none,some 0,some 1] _ _ _ _ _ _ _ _ _ _ (by exact (show zJ ["T", "grades"] (zn ZU) ["connective", "T", "grades"] [none,some 0,some 1] _ from⟨O,by ac_rfl,by ac_rfl,by ac_rfl,by ac_rfl,O,by ac_rfl⟩)) O (@qW _ K _ _ _ (@zu _ _ _ _ _ _ _ (@zm _ K O) (@pw _ 0 _ _ O O) (@zk _ _ _ _) (λ_ _=>rfl)) O) (λ_ _ _ _=>(@pgl _ 0 _ _ nd0 O O)) (λ_ _ _ _=>(@qd _)) (λ_ _ _ _=>(@zw _ _ _ _ _ _ _ _ _ _ _ d_keeps hr (by lia) O (@zd _ _ _ _ _ (@pw _ 0 _ _ O O) (@zd _ _ _ _ _ (@zu _ _ _ _ _ _ _ (@zm _ K O) (@pw _ 1 _ _ O O) (@zk _ _ _ _) (λ_ _=>rfl)) (@zd _ _ _ _ _ (@pw _ 2 _ _ O O) (@zg _) O) O) O) (by decide) O O)) (by intro _;rfl)) (@zg _) O) (by decide) (by decide) O O) (by intro _;rfl))) (@zo _ _ _ (@Jg _ _)) (@zU _)) (@zo _ _ _ (@zF _ _ _ _ (@zw _ _ _ _ _ _ _ _ _ _ _ d_remade hr (by lia) O (@zd _ _ _ _ _ (@pw _ 0 _ _ O O) (@zd _ _ _ _ _ (@pw _ 1 _ _ O O) (@zd _ _ _ _ _ (@YU _ K _ _ _ _ O gb.dict (@zd _ _ _ _ _ (@zO _ ["one", "old"] [none,none] _ _ _ _ _ _ _ _ _ _ (by exact (show zJ ["T", "grades"] (zn ZU) ["one", "old"] [none,none] _ from⟨O,by ac_rfl,by ac_rfl,by ac_rfl,by ac_rfl,O,by ac_rfl⟩)) O (@JC _ K _ _ _ _ _ _ _ O gb.enumerate (@zd _ _ _ _ _ (@pw _ 1 _ _ O O) (@zg _) O) O O) (λ_ _ _ _=>(@jv _ K _ _ _ _ 2 O (@zI _ _ _ _ _ (@pgl _ 0 _ _ nd1 O O) (@zI _ _ _ _ _ (@pgl _ 1 _ _ nd1 O O) (@jt _) O) O) O O O)) (λ_ _ _ _=>(@qd _)) (λ_ _ _ _=>(@ql _ _ _ _ _ (@zd _ _ _ _ _ (@pw _ 1 _ _ O O) (@zd _ _ _ _ _ (@pw _ 0 _ _ O O) (@zg _) O) O))) (by intro _;rfl)) (@zg _) O) O O O) (@zg _) O) O) O) (by decide) O O)))),?_⟩
 obtain⟨a,w,c,vs,rfl,h1,h2,h3,h4⟩:=id ih
 have m9:=gT.m9
 have gl9:G.length<=9:=Aa hG.len m9
 have vl:vs.length<=16:=by rw[<- h4.len];exact gT.cl
 refine⟨_,O,.inr (.inl ⟨a,_,2,_,O,O,SqT.of h1,O,c,O,⟨_,SqT.of h3⟩,λD hD=>?_⟩)⟩
 have ez:vs=(T.cs.zip vs).map Prod.snd:=by rw[List.map_snd_zip (by rw[h4.len];exact AM _)]
 refine XE (T.cs.zip vs) Prod.snd (λz=>.bl (JW T.m G z.1)) (by rw[<- ez];exact h3) (by rw[Cj];lia) hD (λz hz H' Q' s1 q'=>?_) (λH1 s1 hD1=>?_)
 ·obtain⟨cc,v⟩:=z
  obtain⟨i,hi⟩:=Cv hz
  rw[BJ] at hi
  obtain⟨t,u,e1,k1,k2⟩:=h4.get hi.1
  rw[hi.2] at e1
  cases e1
  obtain⟨nl,p2,cs3⟩:=gT.cn cc (AJ hi.1)
  exact⟨_,O,_,O,.inr (.inl ⟨a,_,0,_,O,O,SqT.of (s1 _ _ h1),O,_,O,t,u,g,T.m,cc,G,O,m9,p2,s1 _ _ k1,s1 _ _ k2,cs3.len,s1 _ _ hg,gl9,hG.lt,q'⟩)⟩
 have ek:((T.cs.zip vs).map λz=>JW T.m G z.1).all id=Yo T G:=by
  have:((T.cs.zip vs).map λz=>JW T.m G z.1)=T.cs.map (JW T.m G):=by
   conv=>rhs;rw[<- List.map_fst_zip (l₁:=T.cs) (l₂:=vs) (by rw[h4.len];exact AM _)]
   rw[Ak]
   rfl
  rw[this,Ci]
  rfl
 refine⟨D,(T.cs.zip vs).map λz=>JW T.m G z.1,O,SqL.of (by rw[hD1,Ak];rfl),?_⟩
 rw[ek,hk]
 refine⟨true,O,wc ?_⟩
 refine⟨_,O,_,O,_,O,g,_,O,SqT.of (s1 _ _ hg),λD2 hD2=>?_⟩
 refine wH (xs:=G.map nV) (more:=[]) (λi zs H'=>zD H1 H'/\Prs H' zs (ixs G i)/\zs.length=i) ⟨zf hD2 _,.nil,O⟩ (λi zs H' h _=>SqT.of (h.1 _ _ (s1 _ _ hg))) ?_ ?_
 ·rintro i zs H2 U x hx ⟨s2,hP,zl⟩ hD3 hU
  have hi:i < (G.map nV).length:=(AF.mp hx).1
  have hi2:i < G.length:=by rw[AB] at hi;exact hi
  have ex:x=nV (Tn.at' G i):=by
   rw[AH,Tn.at_map hi2] at hx
   exact (AR hx).symm
  subst ex
  have n3:=zf hU (.tup [nV i,nV (Tn.at' G i)])
  have s3:=s2.trans n3
  refine yes ⟨_,O,_,O,zt (by show 2<=1000;decide),λt2 ht2=>?_⟩
  have n4:=zf ht2 (.tup [nV (Tn.at' G i),nV i])
  have hD4:=n4 _ _ (n3 _ _ hD3)
  refine Q6 hi ⟨_,_,O⟩ hD4 (zq (by lia)) ⟨(s3.trans n4).put hD2,?_,by rw[AL,zl];rfl⟩
  have e:ixs G (i+1)=ixs G i++[(Sum.inl ((Tn.at' G i:Nat):Int),nV i)]:=by
   unfold ixs
   rw[BI,AK]
   rfl
  rw[e]
  exact ((hP.tk (Tk.of (n3.trans n4))).snoc ze).tk (Tk.put hD4)
 ·rintro zs H2 ⟨s2,hP,zl⟩ hD3
  rw[AB] at hP
  refine⟨D2,zs,_,O,hD3,hP,λnw hnw=>?_⟩
  have n4:=zf hnw (.dK (putAll [] (ixs G G.length)))
  have S:=s1.trans (s2.trans n4)
  exact⟨_,g,nw,T,G,G.idxOf,O,ih.same S,gT,.inr (S _ _ hg),gl9,hG.lt,λcc hc p hp=>.inl ⟨_,ze,ixs_idx hG.nd (zaE (zaF hk hc) hp)⟩,λu H3 s3 hu=>q u H3 (S.trans s3) hu⟩
abbrev Jq:Stmt:=top 19
def za4:zC ["T", "order"] ["T", "order"] (zn Jq):=⟨rfl,rfl,rfl,by ac_rfl,rfl,by ac_rfl,by ac_rfl⟩
def za5 (F:Fun K "turned" "turned" Jq f fd) (gb:Gb mg) (d_remade:Def P w K mg base 3 "remade" ["T", "olds", "news"] ZR):ji P w K mg base CX0 4 f fd ["T", "order"] WL:=by
 refine F.ok za4 (λvs H Q E h=>?_) (λcdv A outer s H vs Q E hr h=>?_)
 ·obtain⟨v,nw,T,o,rfl,_⟩:=h
  rfl
 obtain⟨v,nw,T,o,rfl,ih,g,ho,hnw,q⟩:=h
 have nd0:(["one", "order"]:List Str).Nodup:=by ac_rfl
 refine⟨_,(@zo _ _ _ (@zF _ _ _ _ (@zw _ _ _ _ _ _ _ _ _ _ _ d_remade hr (by lia) O (@zd _ _ _ _ _ (@pw _ 0 _ _ O O) (@zd _ _ _ _ _ (@zO _ ["one", "order"] [none,some 1] _ _ _ _ _ _ _ _ _ _ (by exact (show zJ ["T", "order"] (zn Jq) ["one", "order"] [none,some 1] _ from⟨O,by ac_rfl,by ac_rfl,by ac_rfl,by ac_rfl,O,by ac_rfl⟩)) O (@zR _ _ _ _ _ _ O gb.range (@zd _ _ _ _ _ (@zu _ _ _ _ _ _ _ (@zm _ K O) (@pw _ 0 _ _ O O) (@zk _ _ _ _) (λ_ _=>rfl)) (@zg _) O) O) (λ_ _ _ _=>(@pgl _ 0 _ _ nd0 O O)) (λ_ _ _ _=>(@qd _)) (λ_ _ _ _=>(@qw _ K _ _ _ _ _ _ _ _ _ _ _ PySem.F.plainAttrs_tuple PySem.F.slot_tuple_index PySem.F.type_tuple_index (@XI _) (@pw _ 1 _ _ O O) (@zd _ _ _ _ _ (@pw _ 0 _ _ O O) (@zg _) O) O O O O O O)) (by intro _;rfl)) (@zd _ _ _ _ _ (@pw _ 1 _ _ O O) (@zg _) O) O) O) (by decide) O O))),?_⟩
 obtain⟨a,w,c,vs,rfl,h1,h2,h3,h4⟩:=id ih
 have m9:=g.m9
 refine⟨_,O,_,O,.inr (.inl ⟨a,_,0,_,O,O,SqT.of h1,O,(T.m:Int),O,by lia,by lia,λD hD=>?_⟩)⟩
 rw[Av]
 refine qL (λi ys H'=>zD H H'/\ys=((List.range i).map λj=>o.idxOf j).map nV) ⟨zf hD _,O⟩ ?_ ?_
 ·rintro i ys H1 hi ⟨s1,rfl⟩ hD1
  have hm:=ho.mem hi
  have hlt:=BH hm
  refine yes ⟨_,O,.inr (.inr (.inr (.inr ⟨O,_,s1 _ _ hnw⟩))),_,O,nw,_,_,o.idxOf i,O,O,s1 _ _ hnw,O,qm _,⟨nV i,?_,?_⟩,λm v hmj hv=>?_,?_⟩
  ·rw[AH,AD hlt,Cf]
   rfl
  ·rw[BS]
   simp[eqV]
  ·rw[AH] at hv
   obtain⟨b,hb,rfl⟩:=AW.mp hv
   rw[BS]
   have hbl:=(AF.mp hb).1
   have nb:b ≠ i:=λz=>by
    rw[z] at hb
    have h5:=ho.nd.idxOf_getElem m hbl
    rw[AD hbl] at hb
    rw[AR hb] at h5
    lia
   simp[eqV]
   lia
  ·refine Q6 hi jj hD1 (by rw[AB,AB,AZ];exact zq (by lia)) ⟨s1.put hD,?_⟩
   rw[BI,AK,AK]
   rfl
 ·rintro ys H1 ⟨s1,rfl⟩ hD1
  exact⟨_,O,_,D,nw,T,Tn.inv T.m o,Tn.at' o,O,ih.same s1,g,.inl hD1,(by rw[Tn.inv_len];exact m9),(λx hx=>ho.inv.lt x hx),(λc hc p hp=>.inr ⟨o,s1 _ _ hnw,by rw[ho.len];exact zaV g (λx hx=>ho.inv.lt x hx) hc hp,O⟩),λu H2 s2 hu=>q u H2 (s1.trans s2) (by rw[<- map_turn];exact hu)⟩
abbrev Zv:Stmt:=top 43
def zQ:zC ["_law_script", "_law_k", "_law_many", "_law_cell", "_law_rest", "_law_seed", "_law_found", "_law_j"] ["_law_script", "_law_k", "_law_many"] (zn Zv):=⟨rfl,rfl,rfl,by ac_rfl,rfl,by ac_rfl,by ac_rfl⟩
def wv (F:Fun K "_law_numbers" "_law_numbers" Zv f fd) (gb:Gb mg):ji P w K mg base CX0 1 f fd ["_law_script", "_law_k", "_law_many"] (xc K):=by
 refine F.ok zQ (λvs H Q E h=>?_) (λcdv A outer s H vs Q E hr h=>?_)
 ·obtain⟨a,k,n,ns,rfl,_⟩:=h
  rfl
 obtain⟨a,k,n,ns,rfl,hS,h63,k0,n0,n60,q⟩:=h
 refine⟨_,(@zh _ _ _ _ _ (@zr _ _ 3 _ _ _ _ zQ.nd O (Or.inl O) (@zk _ _ _ _) O (by walk_at "f")) (@zh _ _ _ _ _ (@qX _ _ _ _ _ _ _ _ (@zH _ _ _ _ _ _ _ _ (@op_lt _) (@pw _ 1 _ _ O O) (@zE _ _ _ _ _ _ _ _ _ (@qe _ K O) O gb.len jf (@zd _ _ _ _ _ (@pw _ 0 _ _ O O) (@zg _) O) (by decide) (by decide) O O) (@qi _ _ (by decide) (by decide))) (@zo _ _ _ (@zr _ _ 3 _ _ _ _ zQ.nd O (Or.inl O) (@zu _ _ _ _ _ _ _ (@zm _ K O) (@pw _ 0 _ _ O O) (@pw _ 1 _ _ O O) (λ_ _=>rfl)) O (by walk_at "f"))) (@zU _)) (@zh _ _ _ _ _ (@zr _ _ 4 _ _ _ _ zQ.nd O (Or.inl O) (@zk _ _ _ _) O (by walk_at "f")) (@zh _ _ _ _ _ (@qX _ _ _ _ _ _ _ _ (@PW.pt _ _ _ (@pw_or _ _ _ _ _ _ _ (@zH _ _ _ _ _ _ _ _ (@op_lt _) (@pw _ 3 _ _ O O) (@zk _ _ _ _) (@qi _ _ (by decide) (by decide))) (@pw_or1 _ _ _ _ (@zH _ _ _ _ _ _ _ _ (@op_ge _) (@pw _ 3 _ _ O O) (@zB _ _ _ _ _ _ _ _ (@YG _) (@zk _ _ _ _) (@zk _ _ _ _)) (@qi _ _ (by decide) (by decide)))))) (@zo _ _ _ (@zr _ _ 4 _ _ _ _ zQ.nd O (Or.inl O) (@zE _ _ _ _ _ _ _ _ _ (@call_abs _) O gb.abs bt_abs (@zd _ _ _ _ _ (@pw _ 3 _ _ O O) (@zg _) O) (by decide) (by decide) O O) O (by walk_at "f"))) (@zU _)) (@zh _ _ _ _ _ (@zr _ _ 5 _ _ _ _ zQ.nd O (Or.inl O) (@zB _ _ _ _ _ _ _ _ (@qK _) (@pw _ 3 _ _ O O) (@zk _ _ _ _)) O (by walk_at "f")) (@zh _ _ _ _ _ (@zr _ _ 6 _ _ _ _ zQ.nd O (Or.inl O) (@zS _ _ _ _ (@zg _)) O (by walk_at "f")) (@zh _ _ _ _ _ (@zZ _ _ _ _ _ _ _ _ Ad O (@zR _ _ _ _ _ _ O gb.range (@zd _ _ _ _ _ (@pw _ 2 _ _ O O) (@zg _) O) O) (@pgl _ 7 _ _ zQ.nd O O) (@zh _ _ _ _ _ (@zr _ _ 5 _ _ _ _ zQ.nd O (Or.inl O) (@zB _ _ _ _ _ _ _ _ (@qK _) (@zB _ _ _ _ _ _ _ _ (@qt _) (@zB _ _ _ _ _ _ _ _ (@qt _) (@zB _ _ _ _ _ _ _ _ (@jG _) (@pw _ 5 _ _ O O) (@zk _ _ _ _)) (@zB _ _ _ _ _ _ _ _ (@jG _) (@zk _ _ _ _) (@zB _ _ _ _ _ _ _ _ (@qt _) (@pw _ 7 _ _ O O) (@zk _ _ _ _)))) (@zk _ _ _ _)) (@zk _ _ _ _)) O (by walk_at "f")) (@zo _ _ _ (@qX _ _ _ _ _ _ _ _ (@zH _ _ _ _ _ _ _ _ (@op_gt _) (@pw _ 4 _ _ O O) (@zk _ _ _ _) (@qi _ _ (by decide) (by decide))) (@zh _ _ _ _ _ (@qf _ _ _ _ (@qw _ K _ _ _ _ _ _ _ _ _ _ _ AY Aq Ap (@zT _) (@pw _ 6 _ _ O O) (@zd _ _ _ _ _ (@zB _ _ _ _ _ _ _ _ (@qK _) (@pw _ 4 _ _ O O) (@zB _ _ _ _ _ _ _ _ (@YG _) (@zk _ _ _ _) (@zk _ _ _ _))) (@zg _) O) O O O O O O) O) (@zo _ _ _ (@zr _ _ 4 _ _ _ _ zQ.nd O (Or.inl O) (@zB _ _ _ _ _ _ _ _ (@Qh _) (@pw _ 4 _ _ O O) (@zB _ _ _ _ _ _ _ _ (@YG _) (@zk _ _ _ _) (@zk _ _ _ _))) O (by walk_at "f")))) (@zo _ _ _ (@qf _ _ _ _ (@qw _ K _ _ _ _ _ _ _ _ _ _ _ AY Aq Ap (@zT _) (@pw _ 6 _ _ O O) (@zd _ _ _ _ _ (@zB _ _ _ _ _ _ _ _ (@qK _) (@zB _ _ _ _ _ _ _ _ (@qK _) (@zB _ _ _ _ _ _ _ _ (@qt _) (@zB _ _ _ _ _ _ _ _ (@jG _) (@pw _ 5 _ _ O O) (@zk _ _ _ _)) (@zB _ _ _ _ _ _ _ _ (@Qh _) (@pw _ 5 _ _ O O) (@zk _ _ _ _))) (@zk _ _ _ _)) (@zB _ _ _ _ _ _ _ _ (@YG _) (@zk _ _ _ _) (@zk _ _ _ _))) (@zg _) O) O O O O O O) O))))) (by intro _;rfl)) (@zo _ _ _ (@zF _ _ _ _ (@pw _ 6 _ _ O O)))))))))),?_⟩
 have p6:((10:Int) ^ (6:Int).toNat)=1000000:=by decide
 obtain⟨k,rfl⟩:=Int.eq_ofNat_of_zero_le k0
 refine hide (R:=?R1) (D:=?D1) (P:=λR D=>∀ c:Int,R D [some (.ref a),some (.int k),some (.int n),some (.int c),none,none,none,none] H) (λrest1=>?main) ?r1
 case main=>
  refine⟨_,O,_,O,_,_,O,.inl ⟨_,hS,O⟩,_,_,O,O,_,O,?_⟩
  refine Zz (λz=>?_) (λ_=>?f1)
  case f1=>exact rest1 0
  have hk:k < ns.length:=by
   have:=Ar z
   rw[AB] at this
   lia
  exact⟨_,O,_,O,.inl ⟨a,_,_,_,O,O,hS,qj (by rw[AH,AD hk];rfl),rest1 _⟩⟩
 case r1=>
  intro c
  refine hide (R:=?R2) (D:=?D2) (P:=λR D=>∀ r:Int,0<=r->R D [some (.ref a),some (.int k),some (.int n),some (.int c),some (.int r),none,none,none] H) (λrest2=>?m2) ?r2
  case m2=>
   have absn:∀ c:Int,0<=(if c < 0 then -c else c):=λc=>by split <;> lia
   refine⟨_,O,_,_,O,O,_,O,Zz (λ_=>?t2) (λ_=>⟨_,O,_,_,O,O,⟨by decide,by decide,by decide⟩,_,_,O,O,_,O,Zz (λ_=>?t3) (λ_=>?f2)⟩)⟩
   case f2=>exact rest2 0 (by decide)
   case t2=>exact⟨_,O,_,O,rest2 _ (absn c)⟩
   case t3=>exact⟨_,O,_,O,rest2 _ (absn c)⟩
  case r2=>
   intro r r0
   refine⟨_,O,_,_,O,O,(show (0:Int) < 2147483629 by decide),zt (by show 0<=1000;decide),λfd hfd=>?_⟩
   refine⟨_,O,n,O,by lia,by lia,?_⟩
   refine qY (λi σ H'=>∃ (sd r:Int) (xs:List Nat) (x7:Option V),σ=[some (.ref a),some (.int k),some (.int n),some (.int c),some (.int r),some (.int sd),some (.ref fd),x7]/\0<=r/\0<=sd/\sd < 2147483629/\zD H H'/\H' fd=some (.lst (xs.map nV))/\xs.length=i/\∀ x ∈ xs,x < 1000000) ⟨_,_,[],_,O,r0,Eh _ (by decide),EE _ (by decide),zf hfd _,ze,O,λx hx=>by cases hx⟩ ?_ ?_
   ·rintro i σ H1 hi ⟨sd,r,xs,x7,rfl,r0,s0,s1,ss,hf,xl,hx⟩
    have st:∀ (x:Nat),x < 1000000->∀ y ∈ xs++[x],y < 1000000:=λx h y hy=>by
     rcases AV.mp hy with hy | hy
     ·exact hx y hy
     ·rw[AG.mp hy];exact h
    refine⟨_,O,_,_,O,O,.inr ⟨by decide,by decide⟩,_,O,_,_,O,O,_,_,O,O,.inl ⟨by decide,by decide⟩,_,_,O,O,_,_,O,O,_,_,O,O,(show (0:Int) < 2147483629 by decide),?_⟩
    dsimp only
    generalize hsd:(sd * 43391+15485863 * (0+(i:Int)+1)+7) % 2147483629=sd2
    have t0:0<=sd2:=by rw[<- hsd];exact Eh _ (by decide)
    have t1:sd2 < 2147483629:=by rw[<- hsd];exact EE _ (by decide)
    refine⟨_,O,_,_,O,O,_,O,Zz (λ_=>?_) (λ_=>?_)⟩
    ·refine⟨_,O,.inl ⟨O,_,SqL.of hf⟩,_,O,_,_,O,O,⟨by decide,by decide,by decide⟩,_,_,O,O,(show (0:Int) < 10 ^ (6:Int).toNat by decide),fd,_,_,O,O,hf,zq (by rw[AB];lia),?_⟩
     refine⟨_,O,_,_,O,O,⟨by decide,by decide,by decide⟩,_,_,O,O,⟨by rw[p6];decide,by rw[p6];decide⟩,?_⟩
     dsimp only
     rw[p6]
     refine⟨_,_,xs++[(r % 1000000).toNat],_,O,Int.ediv_nonneg r0 (by decide),t0,t1,ss.put hfd,?_,by rw[AL,xl];rfl,st _ (by lia)⟩
     rw[ze,AK]
     show some (HO.lst (_++[_]))=some (HO.lst (_++[V.int _]))
     rw[show (((r % 1000000).toNat:Nat):Int)=r % 1000000 by lia]
    ·refine⟨_,O,.inl ⟨O,_,SqL.of hf⟩,_,O,_,_,O,O,.inr ⟨by decide,by decide⟩,_,O,_,_,O,O,⟨by decide,by decide⟩,_,_,O,O,_,_,O,O,(show (0:Int) < 998244353 by decide),_,_,O,O,⟨by decide,by decide,by decide⟩,_,_,O,O,(show (0:Int) < 10 ^ (6:Int).toNat by decide),fd,_,_,O,O,hf,zq (by rw[AB];lia),?_⟩
     dsimp only
     rw[p6]
     refine⟨_,_,xs++[((sd2 * 52361+sd2 / 65536) % 998244353 % 1000000).toNat],_,O,r0,t0,t1,ss.put hfd,?_,by rw[AL,xl];rfl,st _ (by lia)⟩
     rw[ze,AK]
     show some (HO.lst (_++[_]))=some (HO.lst (_++[V.int _]))
     rw[show ((((sd2 * 52361+sd2 / 65536) % 998244353 % 1000000).toNat:Nat):Int)=(sd2 * 52361+sd2 / 65536) % 998244353 % 1000000 by lia]
   ·rintro σ H1 ⟨sd,r,xs,x7,rfl,r0,s0,s1,ss,hf,xl,hx⟩
    exact⟨_,O,q fd xs H1 ss hf xl hx⟩
abbrev Qq:Stmt:=top 44
def zX:zC ["_law_numbers_here", "_law_signs", "_law_found", "_law_number", "_law_word", "_law_step", "_law_k"] ["_law_numbers_here"] (zn Qq):=⟨rfl,rfl,rfl,by ac_rfl,rfl,by ac_rfl,by ac_rfl⟩
def yH (F:Fun K "_law_names" "_law_names" Qq f fd) (gb:Gb mg):ji P w K mg base CX0 1 f fd ["_law_numbers_here"] Yl:=by
 refine F.ok zX (λvs H Q E h=>?_) (λcdv A outer s H vs Q E hr h=>?_)
 ·obtain⟨l,xs,rfl,_⟩:=h
  rfl
 obtain⟨l,xs,rfl,hl,h3,q⟩:=h
 refine⟨_,(@zh _ _ _ _ _ (@zr _ _ 1 _ _ _ _ zX.nd O (Or.inl O) (@jX _ _ _ _) O (by walk_at "f")) (@zh _ _ _ _ _ (@zr _ _ 2 _ _ _ _ zX.nd O (Or.inl O) (@zS _ _ _ _ (@zg _)) O (by walk_at "f")) (@zh _ _ _ _ _ (@zZ _ _ _ _ _ _ _ _ Ad O (@zG _ K _ _ _ (@pw _ 0 _ _ O O) O) (@pgl _ 3 _ _ zX.nd O O) (@zh _ _ _ _ _ (@zr _ _ 4 _ _ _ _ zX.nd O (Or.inl O) (@jX _ _ _ _) O (by walk_at "f")) (@zh _ _ _ _ _ (@zZ _ _ _ _ _ _ _ _ Ad O (@zG _ K _ _ _ (@zS _ _ _ _ (@zd _ _ _ _ _ (@zk _ _ _ _) (@zd _ _ _ _ _ (@zk _ _ _ _) (@zd _ _ _ _ _ (@zk _ _ _ _) (@zg _) O) O) O)) O) (@pgl _ 5 _ _ zX.nd O O) (@zo _ _ _ (@zr _ _ 4 _ _ _ _ zX.nd O (Or.inl O) (@zB _ _ _ _ _ _ _ _ (@wB _) (@pw _ 4 _ _ O O) (@zu _ _ _ _ _ _ _ (@zm _ K O) (@pw _ 1 _ _ O O) (@zB _ _ _ _ _ _ _ _ (@qK _) (@zB _ _ _ _ _ _ _ _ (@Qh _) (@pw _ 3 _ _ O O) (@pw _ 5 _ _ O O)) (@zk _ _ _ _)) (λ_ _=>rfl))) O (by walk_at "f"))) (by intro _;rfl)) (@zh _ _ _ _ _ (@zr _ _ 4 _ _ _ _ zX.nd O (Or.inl O) (@qQ _ _ _ _ _ _ _ _ _ _ (@ZF _ K O) (@zB _ _ _ _ _ _ _ _ (@op_mulS _) (@pw _ 4 _ _ O O) (@zk _ _ _ _)) (@Zh _) (@qV _ _ _ (@zB _ _ _ _ _ _ _ _ (@qt _) (@zk _ _ _ _) (@zB _ _ _ _ _ _ _ _ (@qK _) (@pw _ 3 _ _ O O) (@zk _ _ _ _))))) O (by walk_at "f")) (@zh _ _ _ _ _ (@zr _ _ 6 _ _ _ _ zX.nd O (Or.inl O) (@zk _ _ _ _) O (by walk_at "f")) (@zh _ _ _ _ _ (@w8 _ _ _ _ _ _ Ad (@zH _ _ _ _ _ _ _ _ (@qv _ K O) (@pw _ 4 _ _ O O) (@pw _ 2 _ _ O O) (by with_unfolding_all rfl)) (@zh _ _ _ _ _ (@zr _ _ 4 _ _ _ _ zX.nd O (Or.inl O) (@zB _ _ _ _ _ _ _ _ (@wB _) (@jX _ _ _ _) (@zu _ _ _ _ _ _ _ (@zm _ K O) (@pw _ 1 _ _ O O) (@pw _ 6 _ _ O O) (λ_ _=>rfl))) O (by walk_at "f")) (@zo _ _ _ (@zr _ _ 6 _ _ _ _ zX.nd O (Or.inl O) (@zB _ _ _ _ _ _ _ _ (@qt _) (@pw _ 6 _ _ O O) (@zk _ _ _ _)) O (by walk_at "f"))))) (@zo _ _ _ (@qf _ _ _ _ (@qw _ K _ _ _ _ _ _ _ _ _ _ _ AY Aq Ap (@zT _) (@pw _ 2 _ _ O O) (@zd _ _ _ _ _ (@pw _ 4 _ _ O O) (@zg _) O) O O O O O O) O))))))) (by intro _;rfl)) (@zo _ _ _ (@zF _ _ _ _ (@pw _ 2 _ _ O O)))))),?_⟩
 refine⟨zt (by show 0<=1000;decide),λfd hfd=>?_⟩
 have n0:=zf hfd (.lst [])
 refine⟨_,O,l,O,⟨_,SqL.of (n0 _ _ hl)⟩,?_⟩
 refine qA (xs:=xs.map nV) (λi σ H'=>∃ (x3 x4 x5 x6:Option V) (ws:List Str),σ=[some (.ref l),some (.str yw),some (.ref fd),x3,x4,x5,x6]/\zD H H'/\H' fd=some (.lst (ws.map V.str))/\ws.Nodup/\ws.length=i/\∀ w ∈ ws,w.length<=9) ⟨none,none,none,none,[],rfl,n0,ze,List.nodup_nil,rfl,λw h=>by cases h⟩ (λi σ H' _ h=>by obtain⟨_,_,_,_,_,_,s,_⟩:=h;exact SqL.of (s _ _ hl)) ?_ ?_
 ·rintro i x σ H1 hx ⟨x3,x4,x5,x6,ws,rfl,s1,hf,nd,wl,w9⟩
  rw[AH] at hx
  obtain⟨y,hy,rfl⟩:=AW.mp hx
  have hi:i < xs.length:=(AF.mp hy).1
  refine⟨zt (by show 3<=1000;decide),λl3 hl3=>?_⟩
  have n1:=zf hl3 (.lst [.int 7,.int 182,.int 4732])
  have h3':(upd H1 l3 (.lst [.int 7,.int 182,.int 4732])) l3=some (.lst [.int 7,.int 182,.int 4732]):=ze
  have hf1:=n1 _ _ hf
  generalize upd H1 l3 (.lst [.int 7,.int 182,.int 4732])=H2 at *
  refine⟨l3,O,⟨_,SqL.of h3'⟩,?_⟩
  refine qA (xs:=[.int 7,.int 182,.int 4732]) (λj σ H'=>∃ (w:Str) (x5:Option V),σ=[some (.ref l),some (.str yw),some (.ref fd),some (nV y),some (.str w),x5,x6]/\H'=H2/\w.length=j) ⟨_,_,rfl,rfl,rfl⟩ (λj σ H' _ h=>by obtain⟨_,_,_,rfl,_⟩:=h;exact SqL.of h3') ?_ ?_
  ·rintro j z σ H3 hz ⟨w,x5,rfl,rfl,wl'⟩
   have hj:j < 3:=(AF.mp hz).1
   obtain⟨st,rfl,t0,t1⟩:∃ st:Nat,z=nV st/\1<=st/\st<=5000:=by
    match j,hj,hz with
    | 0,_,hz=>cases hz;exact⟨7,rfl,by decide,by decide⟩
    | 1,_,hz=>cases hz;exact⟨182,rfl,by decide,by decide⟩
    | 2,_,hz=>cases hz;exact⟨4732,rfl,by decide,by decide⟩
   refine⟨_,O,_,O,_,O,_,O,_,_,O,O,⟨by lia,by lia⟩,_,_,O,O,(show (0:Int) < 26 by decide),?_⟩
   dsimp only
   rw[show ((y:Int) / (st:Int) % 26)=((y / st % 26:Nat):Int) by rw[Dn,Do];rfl]
   refine .inr (.inr ⟨yw,_,_,O,O,zt (by ac_rfl),yx (BZ _ (by decide)),_,_,O,O,zt (by show w.length+1<=1000;lia),_,_,O,O,?_⟩)
   rw[Str.length_append,wl']
   rfl
  ·rintro σ H3 ⟨w,x5,rfl,rfl,wl'⟩
   have ml:=mul_len w 3
   have wl3:w.length=3:=wl'
   refine⟨_,O,w,3,O,O,by decide,by decide,by lia,_,O,_,_,O,O,(show (0:Int) < 7 by decide),_,_,O,O,_,O,.inr (.inr ⟨_,O,zt (by rw[wl3] at ml;exact Aa ml (by decide)),?_⟩)⟩
   dsimp only
   have w2l:(Txt.slice (Txt.mul w 3) none (some (2+(y:Int) % 7))).length<=9:=Aa (Txt.slice_le _ _ _) (by rw[wl3] at ml;exact ml)
   generalize Txt.slice (Txt.mul w 3) none (some (2+(y:Int) % 7))=w2 at w2l
   refine⟨λm σ H'=>H'=H3/\∃ (w:Str) (kk:Nat),σ=[some (.ref l),some (.str yw),some (.ref fd),some (nV y),some (.str w),x5,some (nV kk)]/\m+kk=4/\(∀ j,j+1 < kk->zs j ∈ ws)/\(∀ j,j+1=kk->w=zs j)/\w.length<=9,⟨4,O,w2,0,O,O,(λj h=>absurd h (by lia)),(λj h=>absurd h (by lia)),w2l⟩,?_⟩
   rintro m σ H4 ⟨rfl,w,kk,rfl,mk4,hz1,hz2,wn⟩
   refine⟨_,O,_,O,fd,_,O,.inl (SqL.of hf1),O,zaC ws,_,O,?_⟩
   rw[if_neg AS,in_strs]
   by_cases hw:w ∈ ws
   ·rw[An hw]
    refine wC ?_
    have all:∀ j,j < kk->zs j ∈ ws:=λj hj=>by
     by_cases e:j+1=kk
     ·rw[<- hz2 j e];exact hw
     ·exact hz1 j (by lia)
    have kk2:kk<=2:=by
     refine Bu λhn=>?_
     have h:=jJ ((List.range 3).map zs) ws (zs_nd 3 (by lia)) (λx hx=>by
      obtain⟨j,hj,rfl⟩:=AI.mp hx
      exact all j (by have:=Ab.mp hj;lia))
     rw[AB,AZ] at h
     lia
    refine⟨λσ' H'=>H'=H4/\∃ (w:Str) (kk:Nat),σ'=[some (.ref l),some (.str yw),some (.ref fd),some (nV y),some (.str w),x5,some (nV kk)]/\m - 1+kk=4/\(∀ j,j+1 < kk->zs j ∈ ws)/\(∀ j,j+1=kk->w=zs j)/\w.length<=9,λσ' H' h=>⟨m - 1,by lia,h⟩,?_⟩
    refine⟨_,O,_,O,.inr (.inr ⟨yw,_,_,O,O,zt (by ac_rfl),yx (by lia),_,_,O,O,zt (by show 1+1<=1000;decide),_,O,_,_,O,O,?_⟩)⟩
    exact⟨O,zs kk,kk+1,O,by lia,λj h=>all j (by lia),(λj h=>by rw[show j=kk by lia]),(show 2<=9 by decide)⟩
   ·rw[As hw]
    refine wc ?_
    refine⟨_,O,.inl ⟨O,_,SqL.of hf1⟩,_,O,fd,_,_,O,O,hf1,by rw[AB];exact zq (by lia),?_⟩
    refine⟨_,_,_,_,ws++[w],O,(s1.trans n1).put hfd,by rw[ze,AK];rfl,?_,by rw[AL,wl];rfl,λv hv=>?_⟩
    rotate_left
    ·rcases AV.mp hv with hv | hv
     ·exact w9 v hv
     ·rw[AG.mp hv];exact wn
    exact B1.mpr ⟨nd,DA _ _,λa ha b hb e=>hw (by rw[AG.mp hb] at e;rw[<- e];exact ha)⟩
 ·rintro σ H1 ⟨x3,x4,x5,x6,ws,rfl,s1,hf,nd,wl,w9⟩
  rw[AB] at wl
  exact⟨_,O,q fd ws H1 s1 hfd hf nd wl w9⟩
abbrev jT:Stmt:=top 45
def qh:zC ["_law_script", "_law_k", "_law_sizes", "_law_numbers_here", "_law_many", "_law_wished", "_law_connectives", "_law_at", "_law_name", "_law_places", "_law_cells_here"] ["_law_script", "_law_k", "_law_sizes"] (zn jT):=⟨rfl,rfl,rfl,by ac_rfl,rfl,by ac_rfl,by ac_rfl⟩
def yI (F:Fun K "_law_table" "_law_table" jT f fd) (gb:Gb mg) (d_law_numbers:Def P w K mg base 1 "_law_numbers" ["_law_script", "_law_k", "_law_many"] (xc K)) (d_law_names:Def P w K mg base 1 "_law_names" ["_law_numbers_here"] Yl):ji P w K mg base CX0 2 f fd ["_law_script", "_law_k", "_law_sizes"] (Ym K):=by
 refine F.ok qh (λvs H Q E h=>?_) (λcdv A outer s H vs Q E hr h=>?_)
 ·obtain⟨a,sl,k,ns,zz,rfl,_⟩:=h
  rfl
 obtain⟨a,sl,k,ns,zz,rfl,hS,h63,k0,hsl,z0,z9,hz,q⟩:=h
 have nd0:(["_law_one", "_law_numbers_here"]:List Str).Nodup:=by ac_rfl
 have nd1:(["_law_one", "_law_many"]:List Str).Nodup:=by ac_rfl
 refine⟨_,(@zh _ _ _ _ _ (@zr _ _ 3 _ _ _ _ qh.nd O (Or.inr O) (@zw _ _ _ _ _ _ _ _ _ _ _ d_law_numbers hr (by lia) O (@zd _ _ _ _ _ (@pw _ 0 _ _ O O) (@zd _ _ _ _ _ (@pw _ 1 _ _ O O) (@zd _ _ _ _ _ (@zk _ _ _ _) (@zg _) O) O) O) (by decide) O O) O (by walk_at "f")) (@zh _ _ _ _ _ (@zr _ _ 4 _ _ _ _ qh.nd O (Or.inr O) (@zu _ _ _ _ _ _ _ (@zm _ K O) (@pw _ 2 _ _ O O) (@zB _ _ _ _ _ _ _ _ (@qK _) (@zu _ _ _ _ _ _ _ (@zm _ K O) (@pw _ 3 _ _ O O) (@zk _ _ _ _) (λ_ _=>rfl)) (@zE _ _ _ _ _ _ _ _ _ (@qe _ K O) O gb.len jf (@zd _ _ _ _ _ (@pw _ 2 _ _ O O) (@zg _) O) (by decide) (by decide) O O)) (λ_ _=>rfl)) O (by walk_at "f")) (@zh _ _ _ _ _ (@zr _ _ 5 _ _ _ _ qh.nd O (Or.inl O) (@zy _ _ _ _ _ _ _ _ _ (@zx _ K O) O gb.tuple qk (@zd _ _ _ _ _ (@zO _ ["_law_one", "_law_numbers_here"] [none,some 3] _ _ _ _ _ _ _ _ _ _ (by exact (show zJ ["_law_script", "_law_k", "_law_sizes", "_law_numbers_here", "_law_many", "_law_wished", "_law_connectives", "_law_at", "_law_name", "_law_places", "_law_cells_here"] (zn jT) ["_law_one", "_law_numbers_here"] [none,some 3] _ from⟨O,by ac_rfl,by ac_rfl,by ac_rfl,by ac_rfl,O,by ac_rfl⟩)) O (@zR _ _ _ _ _ _ O gb.range (@zd _ _ _ _ _ (@pw _ 4 _ _ O O) (@zg _) O) O) (λ_ _ _ _=>(@pgl _ 0 _ _ nd0 O O)) (λ_ _ _ _=>(@Jw _ _ _ (@zH _ _ _ _ _ _ _ _ (@Qi _) (@zB _ _ _ _ _ _ _ _ (@op_and _) (@zB _ _ _ _ _ _ _ _ (@op_shr _) (@zu _ _ _ _ _ _ _ (@zm _ K O) (@pw _ 1 _ _ O O) (@zk _ _ _ _) (λ_ _=>rfl)) (@pw _ 0 _ _ O O)) (@zk _ _ _ _)) (@zk _ _ _ _) (@qi _ _ (by decide) (by decide))))) (λ_ _ _ _=>(@pw _ 0 _ _ O O)) (by intro _;rfl)) (@zg _) O) (by decide) (by decide) O O) O (by walk_at "f")) (@zh _ _ _ _ _ (@zr _ _ 6 _ _ _ _ qh.nd O (Or.inl O) (@zS _ _ _ _ (@zg _)) O (by walk_at "f")) (@zh _ _ _ _ _ (@zr _ _ 7 _ _ _ _ qh.nd O (Or.inl O) (@zk _ _ _ _) O (by walk_at "f")) (@zh _ _ _ _ _ (@zZ _ _ _ _ _ _ _ _ Ad O (@zG _ K _ _ _ (@zw _ _ _ _ _ _ _ _ _ _ _ d_law_names hr (by lia) O (@zd _ _ _ _ _ (@qQ _ _ _ _ _ _ _ _ _ _ (@ZF _ K O) (@pw _ 3 _ _ O O) (@qV _ _ _ (@zk _ _ _ _)) (@qV _ _ _ (@zB _ _ _ _ _ _ _ _ (@qt _) (@zk _ _ _ _) (@zB _ _ _ _ _ _ _ _ (@qK _) (@zu _ _ _ _ _ _ _ (@zm _ K O) (@pw _ 3 _ _ O O) (@zk _ _ _ _) (λ_ _=>rfl)) (@zk _ _ _ _))))) (@zg _) O) (by decide) O O) O) (@pgl _ 8 _ _ qh.nd O O) (@zh _ _ _ _ _ (@zr _ _ 9 _ _ _ _ qh.nd O (Or.inl O) (@zu _ _ _ _ _ _ _ (@zm _ K O) (@zS _ _ _ _ (@zd _ _ _ _ _ (@zk _ _ _ _) (@zd _ _ _ _ _ (@zk _ _ _ _) (@zd _ _ _ _ _ (@zk _ _ _ _) (@zd _ _ _ _ _ (@zk _ _ _ _) (@zd _ _ _ _ _ (@zk _ _ _ _) (@zd _ _ _ _ _ (@zk _ _ _ _) (@zg _) O) O) O) O) O) O)) (@zB _ _ _ _ _ _ _ _ (@qK _) (@zu _ _ _ _ _ _ _ (@zm _ K O) (@pw _ 3 _ _ O O) (@pw _ 7 _ _ O O) (λ_ _=>rfl)) (@zk _ _ _ _)) (λ_ _=>rfl)) O (by walk_at "f")) (@zh _ _ _ _ _ (@zr _ _ 10 _ _ _ _ qh.nd O (Or.inl O) (@zu _ _ _ _ _ _ _ (@zm _ K O) (@zS _ _ _ _ (@zd _ _ _ _ _ (@zk _ _ _ _) (@zd _ _ _ _ _ (@pw _ 4 _ _ O O) (@zd _ _ _ _ _ (@zB _ _ _ _ _ _ _ _ (@jG _) (@pw _ 4 _ _ O O) (@pw _ 4 _ _ O O)) (@zg _) O) O) O)) (@pw _ 9 _ _ O O) (λ_ _=>rfl)) O (by walk_at "f")) (@zh _ _ _ _ _ (@qf _ _ _ _ (@qw _ K _ _ _ _ _ _ _ _ _ _ _ AY Aq Ap (@zT _) (@pw _ 6 _ _ O O) (@zd _ _ _ _ _ (@ql _ _ _ _ _ (@zd _ _ _ _ _ (@pw _ 8 _ _ O O) (@zd _ _ _ _ _ (@pw _ 9 _ _ O O) (@zd _ _ _ _ _ (@zy _ _ _ _ _ _ _ _ _ (@zx _ K O) O gb.tuple qk (@zd _ _ _ _ _ (@zO _ ["_law_one", "_law_many"] [none,some 4] _ _ _ _ _ _ _ _ _ _ (by exact (show zJ ["_law_script", "_law_k", "_law_sizes", "_law_numbers_here", "_law_many", "_law_wished", "_law_connectives", "_law_at", "_law_name", "_law_places", "_law_cells_here"] (zn jT) ["_law_one", "_law_many"] [none,some 4] _ from⟨O,by ac_rfl,by ac_rfl,by ac_rfl,by ac_rfl,O,by ac_rfl⟩)) O (@zG _ K _ _ _ (@qQ _ _ _ _ _ _ _ _ _ _ (@ZF _ K O) (@pw _ 3 _ _ O O) (@qV _ _ _ (@zB _ _ _ _ _ _ _ _ (@qt _) (@pw _ 7 _ _ O O) (@zk _ _ _ _))) (@qV _ _ _ (@zB _ _ _ _ _ _ _ _ (@qt _) (@zB _ _ _ _ _ _ _ _ (@qt _) (@pw _ 7 _ _ O O) (@zk _ _ _ _)) (@pw _ 10 _ _ O O)))) O) (λ_ _ _ _=>(@pgl _ 0 _ _ nd1 O O)) (λ_ _ _ _=>(@qd _)) (λ_ _ _ _=>(@zB _ _ _ _ _ _ _ _ (@qK _) (@pw _ 0 _ _ O O) (@pw _ 1 _ _ O O))) (by intro _;rfl)) (@zg _) O) (by decide) (by decide) O O) (@zg _) O) O) O)) (@zg _) O) O O O O O O) O) (@zo _ _ _ (@zr _ _ 7 _ _ _ _ qh.nd O (Or.inl O) (@zB _ _ _ _ _ _ _ _ (@qt _) (@zB _ _ _ _ _ _ _ _ (@qt _) (@pw _ 7 _ _ O O) (@zk _ _ _ _)) (@pw _ 10 _ _ O O)) O (by walk_at "f")))))) (by intro _;rfl)) (@zo _ _ _ (@zF _ _ _ _ (@ql _ _ _ _ _ (@zd _ _ _ _ _ (@pw _ 4 _ _ O O) (@zd _ _ _ _ _ (@pw _ 5 _ _ O O) (@zd _ _ _ _ _ (@zy _ _ _ _ _ _ _ _ _ (@zx _ K O) O gb.tuple qk (@zd _ _ _ _ _ (@pw _ 6 _ _ O O) (@zg _) O) (by decide) (by decide) O O) (@zg _) O) O) O)))))))))),?_⟩
 refine⟨_,O,_,O,a,k,60,ns,O,hS,h63,k0,by decide,by decide,λnl xs H1 s1 hnl xl xb=>?_⟩
 have xl60:xs.length=60:=xl
 have hsl1:=s1 _ _ hsl
 have at_x:∀ j:Nat,j < 60->∃ x,atI (xs.map nV) (j:Int)=some (nV x):=λj hj=>⟨_,jM (by lia)⟩
 obtain⟨x0,hx0⟩:=at_x 0 (by decide)
 obtain⟨m,hm⟩:=WA (BZ x0 z0)
 have hmz:=AJ hm
 obtain⟨m1,m4⟩:=hz m hmz
 have em:atI (zz.map nV) ((x0:Int) % ((zz.map nV).length:Int))=some (nV m):=by
  rw[AB,show ((x0:Int) % (zz.length:Int))=((x0 % zz.length:Nat):Int) from rfl]
  exact qj (by rw[AH,hm];rfl)
 refine⟨_,O,_,O,.inl ⟨nl,_,0,_,O,O,SqL.of hnl,hx0,_,O,_,_,O,.inl ⟨_,SqL.of hsl1,O⟩,_,_,O,O,(by rw[AB];lia),.inl ⟨sl,_,_,_,O,O,SqL.of hsl1,em,?_⟩⟩⟩
 refine⟨_,O,(m:Int),O,by lia,by lia,λD hD=>?_⟩
 rw[Av]
 obtain⟨y1,hy1⟩:=at_x 1 (by decide)
 refine qL (λi ys H'=>zD H1 H'/\∃ ws:List Nat,ys=ws.map nV/\ws.Pairwise (· < ·)/\(∀ x ∈ ws,x < i)/\ws.length<=i) ⟨zf hD _,[],O,.nil,(λx hx=>by cases hx),AM _⟩ ?_ ?_
 ·rintro i ys H2 hi ⟨s2,ws,rfl,pw,wb,wl⟩ hD2
  refine⟨_,O,.inl ⟨nl,_,1,_,O,O,SqL.of (s2 _ _ hnl),hy1,_,O,_,_,O,O,(show (0:Int)<=0+(i:Int) by lia),_,_,O,O,O,_,O,Zz (λ_=>?_) (λ_=>?_)⟩⟩
  ·refine⟨_,O,Q6 hi jj hD2 (by rw[AB];exact zq (by lia)) ⟨s2.put hD,ws++[i],?_,?_,?_,by rw[AL];exact Cy wl⟩⟩
   ·rw[AK,BS]
    rfl
   ·exact B1.mpr ⟨pw,DA _ _,λa ha b hb=>by rw[AG.mp hb];exact wb a ha⟩
   ·intro x hx
    rcases AV.mp hx with hx | hx
    ·exact BF (wb x hx)
    ·rw[AG.mp hx];exact BV _
  ·exact cno hi jj hD2 ⟨s2,ws,O,pw,(λx hx=>BF (wb x hx)),Cp wl⟩
 rintro ys H2 ⟨s2,wz,rfl,pw,wb,wl⟩ hD2
 refine⟨D,_,O,.inl ⟨SqL.of hD2,λtw htw=>?_⟩⟩
 have n3:=zf htw (.tup (wz.map nV))
 refine⟨zt (by show 0<=1000;decide),λlc hlc=>?_⟩
 have n4:=zf hlc (.lst [])
 have S4:=s1.trans (s2.trans (n3.trans n4))
 have hlc0:=(s1.trans (s2.trans n3)).free hlc
 have twn:tw ≠ lc:=zL (@ze H2 tw (.tup (wz.map nV))) hlc
 have htw4:=n4 _ _ (@ze H2 tw (.tup (wz.map nV)))
 have hlc4:(upd (upd H2 tw (.tup (wz.map nV))) lc (.lst [])) lc=some (.lst []):=ze
 have hnl4:=(s2.trans (n3.trans n4)) _ _ hnl
 generalize upd (upd H2 tw (.tup (wz.map nV))) lc (.lst [])=H4 at *
 obtain⟨y5,hy5⟩:=at_x 5 (by decide)
 refine⟨_,O,_,O,_,O,.inl ⟨nl,_,5,_,O,O,SqL.of hnl4,hy5,_,_,O,O,(show (0:Int) < 4 by decide),_,_,O,O,_,O,?_⟩⟩
 have ecut:J9 (xs.map nV) (some 2) (some (2+(y5:Int) % 4))=((xs.drop 2).take (y5 % 4)).map nV:=by
  rw[show (2+(y5:Int) % 4)=((2+y5 % 4:Nat):Int) by lia]
  show J9 _ (some ((2:Nat):Int)) _=_
  rw[Yk 2 (2+y5 % 4) (by rw[AB];lia) (by lia),<- DQ,<- DP,show 2+y5 % 4 - 2=y5 % 4 by lia]
 refine .inl ⟨nl,_,O,SqL.of hnl4,λl2 hl2=>?_⟩
 rw[ecut]
 have n5:=zf hl2 (.lst (((xs.drop 2).take (y5 % 4)).map nV))
 refine⟨l2,_,O,ze,by rw[Ai];lia,λl3 ws H5 s5 hl3n hl3 nd wl w9=>?_⟩
 have s45:=n5.trans s5
 have wl3:ws.length<=3:=by rw[wl,Ai];lia
 have hnl5:=s45 _ _ hnl4
 have hlc5:=s45 _ _ hlc4
 have lcn:lc ≠ l3:=zL (n5 _ _ hlc4) hl3n
 have nln:nl ≠ lc:=λe=>by
  rw[e,hlc4] at hnl4
  have:=HO.lst.inj (AR hnl4)
  have:=BQ List.length this
  rw[AB] at this
  simp at this
  lia
 refine⟨l3,O,⟨_,SqL.of hl3⟩,?_⟩
 refine qA (xs:=ws.map V.str) (λi σ H'=>∃ (p:Nat) (x8 x9 x10:Option V) (cs:List Cn) (vs:List V),σ=[some (.ref a),some (.int k),some (.ref sl),some (.ref nl),some (nV m),some (.ref tw),some (.ref lc),some (nV p),x8,x9,x10]/\zD H H'/\(∀ b o,b ≠ lc->H5 b=some o->H' b=some o)/\H' lc=some (.lst vs)/\Cns H' cs vs/\cs.map Cn.nm=ws.take i/\p<=8+17 * i/\∀ c ∈ cs,c.nm.length<=100/\c.pl<=2/\Tn.Cs m c.pl c.cs) ⟨8,none,none,none,[],[],rfl,S4.trans s45,(λb o _ h=>h),hlc5,.nil,rfl,AM _,λc hc=>by cases hc⟩ (λi σ H' _ h=>by obtain⟨_,_,_,_,_,_,_,_,o,_⟩:=h;exact SqL.of (o _ _ (Aw lcn) hl3)) ?_ ?_
 ·rintro i x σ H6 hx ⟨p,x8,x9,x10,cs,vs,rfl,S6,o6,hlc6,hC,hnm,hp,hcn⟩
  rw[AH] at hx
  obtain⟨w,hw,rfl⟩:=AW.mp hx
  have hi:i < ws.length:=(AF.mp hw).1
  have csl:cs.length=i:=by
   have:=BQ List.length hnm
   rw[AB,Ai] at this
   lia
  have hvl:=hC.len
  have hnl6:=o6 nl _ nln hnl5
  obtain⟨xa,hxa⟩:=at_x p (by lia)
  obtain⟨pl,epl,pl2⟩:=six xa
  have p16:=pow16 m4 pl2
  refine⟨zt (by show 6<=1000;decide),λp1 hp1=>⟨_,O,_,O,.inl ⟨nl,_,_,_,O,O,SqL.of ((zf hp1 _) _ _ hnl6),hxa,_,_,O,O,(show (0:Int) < 6 by decide),.inl ⟨p1,_,_,_,O,O,SqL.of ze,epl,?_⟩⟩⟩⟩
  have k1:=zf hp1 (.lst [.int 2,.int 1,.int 2,.int 0,.int 2,.int 1])
  refine⟨_,O,_,O,_,O,_,_,O,O,.inl ⟨by lia,by lia⟩,zt (by show 3<=1000;decide),λp2 hp2=>⟨_,O,.inl ⟨p2,_,_,_,O,O,SqL.of ze,size3 m pl2,?_⟩⟩⟩
  have k2:=zf hp2 (.lst [.int 1,nV m,.int ((m:Int) * (m:Int))])
  have K2:=k1.trans k2
  have hlc7:=K2 _ _ hlc6
  have hnl7:=K2 _ _ hnl6
  generalize upd (upd H6 p1 (.lst [.int 2,.int 1,.int 2,.int 0,.int 2,.int 1])) p2 (.lst [.int 1,nV m,.int ((m:Int) * (m:Int))])=H7 at *
  refine⟨_,O,.inl ⟨O,_,SqL.of hlc7⟩,_,O,_,O,_,O,_,O,_,_,O,O,_,O,_,O,_,_,O,O,_,O,_,_,O,O,_,O,.inl ⟨nl,_,O,SqL.of hnl7,λl4 hl4=>?_⟩⟩
  dsimp only
  rw[zaD xs p (m ^ pl) (by lia)]
  generalize hcc:(xs.drop (p+1)).take (m ^ pl)=zc
  have zl:zc.length=m ^ pl:=by rw[<- hcc,Ai,CA];lia
  have k3:=zf hl4 (.lst (zc.map nV))
  refine⟨l4,O,⟨_,SqL.of ze⟩,λE hE=>?_⟩
  refine qB zc nV (λz=>nV (z % m)) ze (by lia) hE (λz hz H' Q' s7 q'=>?_) (λH8 s8 hE8=>?_)
  ·exact⟨_,O,_,O,_,_,O,O,(show (0:Int) < (m:Int) by lia),q' H' zD.rfl'⟩
  rw[show (zc.map λz=>nV (z % m))=(zc.map (· % m)).map nV by rw[Ak];rfl] at hE8
  refine⟨E,_,O,.inl ⟨SqL.of hE8,λtu htu=>?_⟩⟩
  have k4:=zf htu (.tup ((zc.map (· % m)).map nV))
  refine⟨zt (by show 3<=1000;decide),λtt htt=>?_⟩
  have k5:=zf htt (.tup [.str w,nV pl,.ref tu])
  have K8:=k3.trans (s8.trans (k4.trans k5))
  have hlc9:=K8 _ _ hlc7
  have ht9:=@ze (upd H8 tu (.tup ((zc.map (· % m)).map nV))) tt (.tup [.str w,nV pl,.ref tu])
  have hu9:=k5 _ _ (@ze H8 tu (.tup ((zc.map (· % m)).map nV)))
  generalize upd (upd H8 tu (.tup ((zc.map (· % m)).map nV))) tt (.tup [.str w,nV pl,.ref tu])=H9 at *
  have KK:=K2.trans K8
  refine⟨lc,_,_,O,O,hlc9,zq (by lia),_,O,_,_,O,O,_,O,_,_,O,O,?_⟩
  refine⟨p+1+m ^ pl,_,_,_,cs++[⟨w,pl,zc.map (· % m)⟩],_,O,(S6.trans KK).put hlc0,(λb o hb h=>by rw[zK hb];exact KK _ _ (o6 b o hb h)),ze,Cns.snoc (c:=⟨w,pl,zc.map (· % m)⟩) (Cns.tk ((Tk.of KK).trans (Tk.put hlc9)) hC) (Tk.put hlc9 _ _ ht9) (Tk.put hlc9 _ _ hu9),?_,by lia,λc hc=>?_⟩
  ·rw[AK,hnm,take_snoc hw]
   rfl
  ·rcases AV.mp hc with hc | hc
   ·exact hcn c hc
   ·rw[AG.mp hc]
    refine⟨Aa (w9 w (AJ hw)) (by decide),pl2,by rw[AB];exact zl,λx hx=>?_⟩
    obtain⟨z,_,rfl⟩:=AI.mp hx
    exact BZ _ m1
 ·rintro σ H6 ⟨p,x8,x9,x10,cs,vs,rfl,S6,o6,hlc6,hC,hnm,hp,hcn⟩
  rw[AB,Ag] at hnm
  have csl:cs.length<=3:=by
   have:=BQ List.length hnm
   rw[AB] at this
   lia
  refine⟨_,O,_,O,_,O,lc,_,O,.inl ⟨SqL.of hlc6,λtc htc=>⟨zt (by show 3<=1000;decide),λt ht=>?_⟩⟩⟩
  have k1:=zf htc (.tup vs)
  have k2:=zf ht (.tup [nV m,.ref tw,.ref tc])
  refine q (.ref t) ⟨m,wz,cs⟩ _ (S6.trans (k1.trans k2)) ⟨t,tw,tc,vs,O,ze,(k1.trans k2) _ _ (o6 _ _ twn (s45 _ _ htw4)),k2 _ _ ze,Cns.same (k1.trans k2) hC⟩ ⟨m1,by show m<=9;lia,pw,wb,by show cs.length<=16;lia,hcn⟩ (by unfold qc;show (cs.map Cn.nm).Nodup;rw[hnm];exact nd) hmz csl
abbrev jY:Stmt:=top 46
def qp:zC ["_law_numbers_here", "_law_tools", "_law_letters_here", "_law_stack", "_law_number", "_law_some", "_law_name", "_law_places", "_law_parts"] ["_law_numbers_here", "_law_tools", "_law_letters_here"] (zn jY):=⟨rfl,rfl,rfl,by ac_rfl,rfl,by ac_rfl,by ac_rfl⟩
def WO (F:Fun K "_law_saying" "_law_saying" jY f fd) (gb:Gb mg):ji P w K mg base CX0 1 f fd ["_law_numbers_here", "_law_tools", "_law_letters_here"] WB:=by
 refine F.ok qp (λvs H Q E h=>?_) (λcdv A outer s H vs Q E hr h=>?_)
 ·obtain⟨nl,c,la,xs,T,cv,L,rfl,_⟩:=h
  rfl
 obtain⟨nl,c,la,xs,T,cv,L,rfl,hn,x1,xl5,gT,hc,h4,hla,l1,l2,q⟩:=h
 have nd0:(["_law_tool", "_law_stack"]:List Str).Nodup:=by ac_rfl
 refine⟨_,(@zh _ _ _ _ _ (@zr _ _ 3 _ _ _ _ qp.nd O (Or.inr O) (@zS _ _ _ _ (@zg _)) O (by walk_at "f")) (@zh _ _ _ _ _ (@zZ _ _ _ _ _ _ _ _ Ad O (@zG _ K _ _ _ (@pw _ 0 _ _ O O) O) (@pgl _ 4 _ _ qp.nd O O) (@zh _ _ _ _ _ (@jF _ ["_law_tool", "_law_stack"] [none,some 3] _ 5 _ _ _ _ _ _ _ _ _ _ _ _ (by exact (show zJ ["_law_numbers_here", "_law_tools", "_law_letters_here", "_law_stack", "_law_number", "_law_some", "_law_name", "_law_places", "_law_parts"] (zn jY) ["_law_tool", "_law_stack"] [none,some 3] _ from⟨O,by ac_rfl,by ac_rfl,by ac_rfl,by ac_rfl,O,by ac_rfl⟩)) O (@qW _ K _ _ _ (@pw _ 1 _ _ O O) O) (λ_ _ _ _=>(@pgl _ 0 _ _ nd0 O O)) (λ_ _ _ _=>(@Jw _ _ _ (@zH _ _ _ _ _ _ _ _ (@op_le _) (@zu _ _ _ _ _ _ _ (@zm _ K O) (@pw _ 0 _ _ O O) (@zk _ _ _ _) (λ_ _=>rfl)) (@zE _ _ _ _ _ _ _ _ _ (@qe _ K O) O gb.len jf (@zd _ _ _ _ _ (@pw _ 1 _ _ O O) (@zg _) O) (by decide) (by decide) O O) (@qi _ _ (by decide) (by decide))))) (λ_ _ _ _=>(@pw _ 0 _ _ O O)) qp.nd O O O (by intro _;rfl)) (@zo _ _ _ (@qX _ _ _ _ _ _ _ _ (@PW.pt _ _ _ (@WT _ _ _ _ _ _ _ (@zH _ _ _ _ _ _ _ _ (@YV _ K _ hr O) (@pw _ 5 _ _ O O) (@zS _ _ _ _ (@zg _)) (@qi _ _ (by decide) (by decide))) (@Jr _ _ _ _ (@zH _ _ _ _ _ _ _ _ (@op_gt _) (@zB _ _ _ _ _ _ _ _ (@qK _) (@pw _ 4 _ _ O O) (@zk _ _ _ _)) (@zk _ _ _ _) (@qi _ _ (by decide) (by decide)))))) (@zh _ _ _ _ _ (@ps_asg _ _ _ _ _ _ (@qQ _ _ _ _ _ _ _ _ _ _ (@ZF _ K O) (@zu _ _ _ _ _ _ _ (@zm _ K O) (@pw _ 5 _ _ O O) (@zB _ _ _ _ _ _ _ _ (@qK _) (@zB _ _ _ _ _ _ _ _ (@Qh _) (@pw _ 4 _ _ O O) (@zk _ _ _ _)) (@zE _ _ _ _ _ _ _ _ _ (@qe _ K O) O gb.len jf (@zd _ _ _ _ _ (@pw _ 5 _ _ O O) (@zg _) O) (by decide) (by decide) O O)) (λ_ _=>rfl)) (@Zh _) (@qV _ _ _ (@zk _ _ _ _))) (@jv _ K _ _ _ _ 2 O (@zI _ _ _ _ _ (@pgl _ 6 _ _ qp.nd O O) (@zI _ _ _ _ _ (@pgl _ 7 _ _ qp.nd O O) (@jt _) O) O) O O O) O O O) (@zh _ _ _ _ _ (@zr _ _ 8 _ _ _ _ qp.nd O (Or.inl O) (@zy _ _ _ _ _ _ _ _ _ (@zx _ K O) O gb.tuple qk (@zd _ _ _ _ _ (@qQ _ _ _ _ _ _ _ _ _ _ (@ZF _ K O) (@pw _ 3 _ _ O O) (@qV _ _ _ (@zB _ _ _ _ _ _ _ _ (@WW _) (@zE _ _ _ _ _ _ _ _ _ (@qe _ K O) O gb.len jf (@zd _ _ _ _ _ (@pw _ 3 _ _ O O) (@zg _) O) (by decide) (by decide) O O) (@pw _ 7 _ _ O O))) (@Zh _)) (@zg _) O) (by decide) (by decide) O O) O (by walk_at "f")) (@zo _ _ _ (@zr _ _ 3 _ _ _ _ qp.nd O (Or.inr O) (@zB _ _ _ _ _ _ _ _ (@Ju _) (@qQ _ _ _ _ _ _ _ _ _ _ (@ZF _ K O) (@pw _ 3 _ _ O O) (@Zh _) (@qV _ _ _ (@zB _ _ _ _ _ _ _ _ (@WW _) (@zE _ _ _ _ _ _ _ _ _ (@qe _ K O) O gb.len jf (@zd _ _ _ _ _ (@pw _ 3 _ _ O O) (@zg _) O) (by decide) (by decide) O O) (@pw _ 7 _ _ O O)))) (@zS _ _ _ _ (@zd _ _ _ _ _ (@zB _ _ _ _ _ _ _ _ (@op_catA _ K O) (@ql _ _ _ _ _ (@zd _ _ _ _ _ (@pw _ 6 _ _ O O) (@zg _) O)) (@pw _ 8 _ _ O O)) (@zg _) O))) O (by walk_at "f"))))) (@zo _ _ _ (@qf _ _ _ _ (@qw _ K _ _ _ _ _ _ _ _ _ _ _ AY Aq Ap (@zT _) (@pw _ 3 _ _ O O) (@zd _ _ _ _ _ (@zu _ _ _ _ _ _ _ (@zm _ K O) (@pw _ 2 _ _ O O) (@zB _ _ _ _ _ _ _ _ (@qK _) (@zB _ _ _ _ _ _ _ _ (@Qh _) (@pw _ 4 _ _ O O) (@zk _ _ _ _)) (@zE _ _ _ _ _ _ _ _ _ (@qe _ K O) O gb.len jf (@zd _ _ _ _ _ (@pw _ 2 _ _ O O) (@zg _) O) (by decide) (by decide) O O)) (λ_ _=>rfl)) (@zg _) O) O O O O O O) O))))) (by intro _;rfl)) (@zo _ _ _ (@zF _ _ _ _ (@zu _ _ _ _ _ _ _ (@zm _ K O) (@pw _ 3 _ _ O O) (@pe_un _ _ _ _ _ _ (@un_neg _) (@zk _ _ _ _)) (λ_ _=>rfl)))))),?_⟩
 refine⟨zt (by show 0<=1000;decide),λs0 hs0=>?_⟩
 have n0:=zf hs0 (.lst [])
 have gcl:=gT.cl
 have hvl:=h4.len
 refine⟨_,O,nl,O,⟨_,SqL.of (n0 _ _ hn)⟩,?_⟩
 refine qA (xs:=xs.map nV) (λi σ H'=>∃ (st:Addr) (x4 x5 x6 x7 x8:Option V) (ss:List (V×Sy)),σ=[some (.ref nl),some (.ref c),some (.ref la),some (.ref st),x4,x5,x6,x7,x8]/\zD H H'/\H st=none/\H' st=some (.lst (ss.map Prod.fst))/\(∀ z ∈ ss,jU H' z.2 z.1/\GSt T L z.2)/\(ss.map λz=>z.2.sz).sum<=i/\(1<=i->ss ≠ [])) ⟨s0,none,none,none,none,none,[],rfl,n0,hs0,ze,(λz hz=>by cases hz),AM _,λh=>absurd h (by decide)⟩ (λi σ H' _ h=>by obtain⟨_,_,_,_,_,_,_,_,s,_⟩:=h;exact SqL.of (s _ _ hn)) ?_ ?_
 ·rintro i x σ H1 hx ⟨st,x4,x5,x6,x7,x8,ss,rfl,s1,hst0,hst,hss,hsum,hne⟩
  rw[AH] at hx
  obtain⟨y,hy,rfl⟩:=AW.mp hx
  have hi:i < xs.length:=(AF.mp hy).1
  have ssl:ss.length<=i:=Aa (sz_len ss) hsum
  refine⟨_,O,c,O,⟨_,SqT.of (s1 _ _ hc)⟩,λD hD=>?_⟩
  refine Ji (xs:=cv) (λj ys H'=>zD H1 H'/\ys.length<=j/\∀ y ∈ ys,∃ cc ∈ T.cs,∃ t u,y=.ref t/\H t=some (.tup [.str cc.nm,nV cc.pl,.ref u])/\cc.pl<=ss.length) ⟨zf hD _,AM _,λy hy=>by cases hy⟩ (λj ys H' h _=>SqT.of ((s1.trans h.1) _ _ hc)) ?_ ?_
  ·rintro j ys H2 z hz ⟨s2,yl,hys⟩ hD2
   have hj:j < cv.length:=(AF.mp hz).1
   have hcc:T.cs[j]? = some T.cs[j]:=AD (by lia)
   have hcm:=AJ hcc
   generalize T.cs[j]=cc at hcc hcm
   obtain⟨t,u,e1,e2,e3⟩:=h4.get hcc
   rw[hz] at e1
   cases e1
   have S2:=s1.trans s2
   refine⟨_,O,.inr (.inl ⟨t,_,1,_,O,O,SqT.of (S2 _ _ e2),O,_,O,_,_,O,.inl ⟨_,SqL.of (s2 _ _ hst),O⟩,_,_,O,O,_,O,?_⟩)⟩
   rw[AB]
   refine Zz (λh=>?_) (λ_=>?_)
   ·refine⟨_,O,Q6 hj jj hD2 (zq (by lia)) ⟨s2.put hD,by rw[AL];exact Cy yl,λv hv=>?_⟩⟩
    rcases AV.mp hv with hv | hv
    ·exact hys v hv
    ·rw[AG.mp hv]
     exact⟨cc,hcm,t,u,O,e2,by have:=Ar h;lia⟩
   ·exact cno hj jj hD2 ⟨s2,Cp yl,hys⟩
  rintro ys H2 ⟨s2,yl,hys⟩ hD2
  refine⟨_,O,zt (by show 0<=1000;decide),λle hle=>?_⟩
  have n3:=zf hle (.lst [])
  have hD3:=n3 _ _ hD2
  have hst3:=n3 _ _ (s2 _ _ hst)
  have hle3:(upd H2 le (.lst [])) le=some (.lst []):=ze
  have S13:=s2.trans n3
  have S3:=s1.trans S13
  generalize upd H2 le (.lst [])=H3 at *
  refine hide (R:=?RB) (D:=?DB) (P:=λR D'=>R D' [some (.ref nl),some (.ref c),some (.ref la),some (.ref st),some (nV y),some (.ref D),x6,x7,x8] H3) (λrB=>?mA) ?rB
  case mA=>
   refine⟨D,le,ys,O,O,SqL.of hD3,SqL.of hle3,_,O,Zz (λc1=>⟨_,O,_,_,O,O,(show (0:Int) < 7 by decide),_,_,O,O,_,O,Zz (λ_=>?tA) (λ_=>?fB)⟩) (λ_=>?fA)⟩
   case fB=>exact rB
   case fA=>exact rB
   case tA=>
    have y1:0 < ys.length:=by
     cases ys with
     | nil=>cases c1
     | cons a b=>exact Nat.succ_pos _
    obtain⟨yv,hyx⟩:=WA (BZ (y / 7) y1)
    obtain⟨cc,hcm,t,u,rfl,ht,cpl⟩:=hys _ (AJ hyx)
    have ht3:=S3 _ _ ht
    have eix:atI ys ((y:Int) / 7 % (ys.length:Int))=some (.ref t):=by
     rw[show ((y:Int) / 7 % (ys.length:Int))=((y / 7 % ys.length:Nat):Int) by rw[Dn,Do];rfl]
     exact qj hyx
    refine⟨_,O,_,O,_,_,O,O,⟨by decide,by decide⟩,_,O,_,_,O,.inl ⟨_,SqL.of hD3,O⟩,_,_,O,O,(show (0:Int) < (ys.length:Int) by lia),.inl ⟨D,_,_,_,O,O,SqL.of hD3,eix,?_⟩⟩
    refine⟨_,O,.inr (.inl ⟨t,_,O,SqT.of ht3,(show ¬ (HT.sIx 3 0 none=0/\HT.sIx 3 3 (some 2)=3) by decide),λt2 ht2=>?_⟩)⟩
    refine⟨t2,_,O,SqT.of ze,O,_,_,O,_,_,O,O,?_⟩
    rw[show J9 [V.str cc.nm,nV cc.pl,V.ref u] none (some 2)=[V.str cc.nm,nV cc.pl] from rfl] at *
    have n4:=zf ht2 (.tup [V.str cc.nm,nV cc.pl])
    have hst4:=n4 _ _ hst3
    generalize upd H3 t2 (.tup [V.str cc.nm,nV cc.pl])=H4 at *
    obtain⟨k,ek⟩:∃ k,ss.length=k+cc.pl:=⟨ss.length - cc.pl,by lia⟩
    have eI:(((ss.map Prod.fst).length:Int) - ((cc.pl:Nat):Int))=(k:Int):=by rw[AB];lia
    have c2:=(gT.cn cc hcm).2.1
    refine⟨_,O,_,O,_,_,O,.inl ⟨_,SqL.of hst4,O⟩,_,O,_,_,O,O,_,O,.inl ⟨st,_,O,SqL.of hst4,λp1 hp1=>?_⟩⟩
    dsimp only
    rw[eI,cut_fr k (by rw[AB];lia),<- DQ]
    generalize hB:ss.drop k=B
    have n5:=zf hp1 (.lst (B.map Prod.fst))
    refine⟨p1,_,O,.inl ⟨SqL.of ze,λp2 hp2=>?_⟩⟩
    have n6:=zf hp2 (.tup (B.map Prod.fst))
    have S6:=n5.trans n6
    have hp26:(upd (upd H4 p1 (.lst (B.map Prod.fst))) p2 (.tup (B.map Prod.fst))) p2=some (.tup (B.map Prod.fst)):=ze
    generalize upd (upd H4 p1 (.lst (B.map Prod.fst))) p2 (.tup (B.map Prod.fst))=H6 at *
    have hst6:=S6 _ _ hst4
    refine⟨_,O,_,O,_,_,O,.inl ⟨_,SqL.of hst6,O⟩,_,O,_,_,O,O,_,O,.inl ⟨st,_,O,SqL.of hst6,λp3 hp3=>?_⟩⟩
    dsimp only
    rw[eI,cut_upto k (by rw[AB];lia),<- DP]
    generalize hA:ss.take k=C
    have n7:=zf hp3 (.lst (C.map Prod.fst))
    have hpl:B.length=cc.pl:=by rw[<- hB,CA];lia
    have hcl:C.length<=k:=by rw[<- hA];exact List.length_take_le _ _
    refine⟨_,O,zt (by show 1<=1000;decide),λp4 hp4=>⟨_,O,?_⟩⟩
    have n8:=zf hp4 (.tup [.str cc.nm])
    refine catA_of ze ((n7.trans n8) _ _ hp26) (by show 1+_<=1000;rw[AB];lia) λt5 H9 s9 ht5=>?_
    refine⟨zt (by show 1<=1000;decide),λp6 hp6=>?_⟩
    have n10:=zf hp6 (.lst [.ref t5])
    refine⟨p3,p6,_,_,O,O,(n8.trans (s9.trans n10)) _ _ ze,ze,by rw[AB];exact zt (by show C.length+1<=1000;lia),λp7 hp7=>?_⟩
    have n11:=zf hp7 (.lst (C.map Prod.fst++[.ref t5]))
    have Sb:=S13.trans (n4.trans (S6.trans (n7.trans (n8.trans (s9.trans n10)))))
    have Sa:=Sb.trans n11
    have hin:∀ z ∈ ss,jU (upd (upd H9 p6 (.lst [.ref t5])) p7 (.lst (C.map Prod.fst++[.ref t5]))) z.2 z.1:=λz hz=>(hss z hz).1.same Sa
    have mB:∀ z ∈ B,z ∈ ss:=λz hz=>by rw[<- hB] at hz;exact List.mem_of_mem_drop hz
    have mC:∀ z ∈ C,z ∈ ss:=λz hz=>by rw[<- hA] at hz;exact DT hz
    refine⟨p7,_,_,_,_,_,C++[(.ref t5,Sy.mk cc.nm (B.map Prod.snd))],O,s1.trans Sa,(s1.trans Sb).free hp7,by rw[ze,AK];rfl,λz hz=>?_,?_,λ_=>by simp⟩
    ·rcases AV.mp hz with hz | hz
     ·exact⟨hin z (mC z hz),(hss z (mC z hz)).2⟩
     ·rw[AG.mp hz]
      refine⟨jU.of ((n10.trans n11) _ _ ht5) (pr_of λz hz=>hin z (mB z hz)) (by rw[AB];lia),GSt.of hcm (by rw[AB,hpl]) (λa ha=>?_) (by rw[AB];lia)⟩
      obtain⟨z,hz,rfl⟩:=AI.mp ha
      exact (hss z (mB z hz)).2
    ·have es:(ss.map λz=>z.2.sz).sum=(C.map λz=>z.2.sz).sum+(B.map λz=>z.2.sz).sum:=by
      rw[<- hA,<- hB,<- C7,<- AK,Cm]
     have em:(Sy.mk cc.nm (B.map Prod.snd)).sz=(B.map λz=>z.2.sz).sum+1:=by
      rw[sz_mk (by rw[AB];lia),Ak]
      rfl
     rw[AK,C7]
     show _+((Sy.mk cc.nm (B.map Prod.snd)).sz+0)<=i+1
     lia
  case rB=>
   have eix:∃ x ∈ L,atI (L.map V.str) ((y:Int) / 7 % (L.length:Int))=some (.str x):=by
    obtain⟨xv,hlx⟩:=WA (BZ (y / 7) (show 0 < L.length from l1))
    refine⟨xv,AJ hlx,?_⟩
    rw[show ((y:Int) / 7 % (L.length:Int))=((y / 7 % L.length:Nat):Int) by rw[Dn,Do];rfl]
    exact qj (by rw[AH,hlx];rfl)
   obtain⟨x,hxL,eix⟩:=eix
   rw[<- AB (f:=V.str) (as:=L)] at eix
   refine⟨_,O,.inl ⟨O,_,SqL.of hst3⟩,_,O,_,O,_,_,O,O,⟨by decide,by decide⟩,_,O,_,_,O,.inl ⟨_,SqL.of (S3 _ _ hla),O⟩,_,_,O,O,(by rw[AB];lia),.inl ⟨la,_,_,_,O,O,SqL.of (S3 _ _ hla),eix,st,_,_,O,O,hst3,by rw[AB];exact zq (by lia),?_⟩⟩
   refine⟨st,_,_,_,_,_,ss++[(.str x,.ltr x)],O,S3.put hst0,hst0,by rw[ze,AK];rfl,λz hz=>?_,?_,λ_=>by simp⟩
   ·rcases AV.mp hz with hz | hz
    ·exact⟨(hss z hz).1.tk ((Tk.of S13).trans (Tk.put hst3)),(hss z hz).2⟩
    ·rw[AG.mp hz]
     exact⟨O,hxL⟩
   ·rw[AK,C7]
    show _+1<=i+1
    lia
 ·rintro σ H1 ⟨st,x4,x5,x6,x7,x8,ss,rfl,s1,hst0,hst,hss,hsum,hne⟩
  rw[AB] at hsum hne
  rcases DM ss with e | ⟨ss,z,rfl⟩
  ·exact absurd e (hne x1)
  rw[Co,AK] at hst
  rw[Co,AK,C7] at hsum
  obtain⟨iz,gz⟩:=hss z (by simp)
  have hz5:z.2.sz<=5:=by
   have:(List.map (λz=>z.2.sz) [z]).sum=z.2.sz:=by simp
   lia
  refine⟨_,O,_,O,.inl ⟨st,_,-1,_,O,O,SqL.of hst,atI_last _ _,q z.1 z.2 H1 s1 iz ⟨gz,Aa (Sy.dp_sz _) hz5,hz5⟩⟩⟩
abbrev Qr:Stmt:=top 47
def Q5:zC ["_law_table_here", "_law_name", "_law_places", "_law_one"] ["_law_table_here", "_law_name", "_law_places"] (zn Qr):=⟨rfl,rfl,rfl,by ac_rfl,rfl,by ac_rfl,by ac_rfl⟩
def yJ (F:Fun K "_law_cells" "_law_cells" Qr f fd) (gb:Gb mg):ji P w K mg base CX0 1 f fd ["_law_table_here", "_law_name", "_law_places"] WC:=by
 refine F.ok Q5 (λvs H Q E h=>?_) (λcdv A outer s H vs Q E hr h=>?_)
 ·obtain⟨v,T,c,rfl,_⟩:=h
  rfl
 obtain⟨v,T,c,rfl,tb,nT,hcm,q⟩:=h
 refine⟨_,(@zh _ _ _ _ _ (@zZ _ _ _ _ _ _ _ _ Ad O (@qW _ K _ _ _ (@zu _ _ _ _ _ _ _ (@zm _ K O) (@pw _ 0 _ _ O O) (@zk _ _ _ _) (λ_ _=>rfl)) O) (@pgl _ 3 _ _ Q5.nd O O) (@zo _ _ _ (@qX _ _ _ _ _ _ _ _ (@PW.pt _ _ _ (@WT _ _ _ _ _ _ _ (@zH _ _ _ _ _ _ _ _ (@Qi _) (@zu _ _ _ _ _ _ _ (@zm _ K O) (@pw _ 3 _ _ O O) (@zk _ _ _ _) (λ_ _=>rfl)) (@pw _ 1 _ _ O O) (@qi _ _ (by decide) (by decide))) (@Jr _ _ _ _ (@zH _ _ _ _ _ _ _ _ (@Qi _) (@zu _ _ _ _ _ _ _ (@zm _ K O) (@pw _ 3 _ _ O O) (@zk _ _ _ _) (λ_ _=>rfl)) (@pw _ 2 _ _ O O) (@qi _ _ (by decide) (by decide)))))) (@zo _ _ _ (@zF _ _ _ _ (@zu _ _ _ _ _ _ _ (@zm _ K O) (@pw _ 3 _ _ O O) (@zk _ _ _ _) (λ_ _=>rfl)))) (@zU _))) (by intro _;rfl)) (@zo _ _ _ (@zF _ _ _ _ (@wA _ _ _)))),?_⟩
 obtain⟨a,w0,c0,vs,rfl,h1,h2,h3,h4⟩:=id tb
 have hvl:=h4.len
 obtain⟨k,hk⟩:=BN.mp hcm
 have hkl:=(AF.mp hk).1
 refine⟨_,O,.inr (.inl ⟨a,_,2,_,O,O,SqT.of h1,O,c0,O,⟨_,SqT.of h3⟩,?_⟩)⟩
 refine ZA (xs:=vs) (λi σ H'=>H'=H/\i<=k/\∃ x3,σ=[some (.ref a),some (.str c.nm),some (nV c.pl),x3]) ⟨O,BA _,_,O⟩ (λi σ H' _ h=>by rw[h.1];exact SqT.of h3) ?_ ?_
 ·rintro i x σ H' hx ⟨rfl,hik,x3,rfl⟩
  have hi:i < vs.length:=(AF.mp hx).1
  have hc:T.cs[i]? = some T.cs[i]:=AD (by lia)
  generalize T.cs[i]=ci at hc
  obtain⟨t,u,e1,e2,e3⟩:=h4.get hc
  rw[hx] at e1
  cases e1
  refine⟨_,O,.inr (.inl ⟨t,_,0,_,O,O,SqT.of e2,O,_,O,O,_,O,?_⟩)⟩
  by_cases hik':i=k
  ·subst hik'
   rw[hk] at hc
   cases hc
   rw[An rfl]
   refine wC ⟨_,O,.inr (.inl ⟨t,_,1,_,O,O,SqT.of e2,O,_,O,O,_,O,?_⟩)⟩
   rw[An rfl]
   exact wC ⟨_,O,.inr (.inl ⟨t,_,2,_,O,O,SqT.of e2,O,q u e3⟩)⟩
  ·rw[As λe=>hik' (nm_inj nT hc hk (V.str.inj e))]
   exact wc ⟨O,by lia,_,O⟩
 ·rintro σ H' ⟨_,hle,_⟩
  lia
abbrev Qs:Stmt:=top 48
def jZ:zC ["_law_table_here", "_law_saying_here", "_law_grading", "_law_place", "_law_part"] ["_law_table_here", "_law_saying_here", "_law_grading"] (zn Qs):=⟨rfl,rfl,rfl,by ac_rfl,rfl,by ac_rfl,by ac_rfl⟩
def yK (F:Fun K "_law_grade" "_law_grade" Qs f fd) (gb:Gb mg) (d_law_cells:Def P w K mg base 1 "_law_cells" ["_law_table_here", "_law_name", "_law_places"] WC) (j:Nat) (d_law_grade:Def P w K mg base (3+j) "_law_grade" ["_law_table_here", "_law_saying_here", "_law_grading"] (JU j)):ji P w K mg base CX0 (3+j+1) f fd ["_law_table_here", "_law_saying_here", "_law_grading"] (JU (j+1)):=by
 refine F.ok jZ (λvs H Q E h=>?_) (λcdv A outer s H vs Q E hr h=>?_)
 ·obtain⟨v,sv,g,s,T,L,γ,rfl,_⟩:=h
  rfl
 obtain⟨v,sv,g,s,T,L,γ,rfl,tb,gT,nT,ih,gs,hg,hj,q⟩:=h
 refine⟨_,(@zh _ _ _ _ _ (@qX _ _ _ _ _ _ _ _ (@Zy _ _ _ (@zE _ _ _ _ _ _ _ _ _ (@QQ _ K O) O gb.isinstance Zk (@zd _ _ _ _ _ (@pw _ 1 _ _ O O) (@zd _ _ _ _ _ (@yR _ _ (.ty "str") _ _ O gb.str Xy O (by decide) (by decide)) (@zg _) O) O) (by decide) (by decide) O O) (by intro _;rfl)) (@zo _ _ _ (@zF _ _ _ _ (@Wj _ _ _ _ _ _ (@pw _ 2 _ _ O O) (@pw _ 1 _ _ O O) (λ_ _=>rfl)))) (@zU _)) (@zh _ _ _ _ _ (@zr _ _ 3 _ _ _ _ jZ.nd O (Or.inl O) (@zk _ _ _ _) O (by walk_at "f")) (@zh _ _ _ _ _ (@zZ _ _ _ _ _ _ _ _ Ad O (@qW _ K _ _ _ (@qQ _ _ _ _ _ _ _ _ _ _ (@kslT _ K O) (@pw _ 1 _ _ O O) (@qV _ _ _ (@zk _ _ _ _)) (@Zh _)) O) (@pgl _ 4 _ _ jZ.nd O O) (@zo _ _ _ (@zr _ _ 3 _ _ _ _ jZ.nd O (Or.inl O) (@zB _ _ _ _ _ _ _ _ (@qt _) (@zB _ _ _ _ _ _ _ _ (@jG _) (@pw _ 3 _ _ O O) (@zu _ _ _ _ _ _ _ (@zm _ K O) (@pw _ 0 _ _ O O) (@zk _ _ _ _) (λ_ _=>rfl))) (@zw _ _ _ _ _ _ _ _ _ _ _ d_law_grade hr (by lia) O (@zd _ _ _ _ _ (@pw _ 0 _ _ O O) (@zd _ _ _ _ _ (@pw _ 4 _ _ O O) (@zd _ _ _ _ _ (@pw _ 2 _ _ O O) (@zg _) O) O) O) (by decide) O O)) O (by walk_at "f"))) (by intro _;rfl)) (@zo _ _ _ (@zF _ _ _ _ (@zu _ _ _ _ _ _ _ (@zm _ K O) (@zw _ _ _ _ _ _ _ _ _ _ _ d_law_cells hr (by lia) O (@zd _ _ _ _ _ (@pw _ 0 _ _ O O) (@zd _ _ _ _ _ (@zu _ _ _ _ _ _ _ (@zm _ K O) (@pw _ 1 _ _ O O) (@zk _ _ _ _) (λ_ _=>rfl)) (@zd _ _ _ _ _ (@zB _ _ _ _ _ _ _ _ (@WW _) (@zE _ _ _ _ _ _ _ _ _ (@qe _ K O) O gb.len jf (@zd _ _ _ _ _ (@pw _ 1 _ _ O O) (@zg _) O) (by decide) (by decide) O O) (@zk _ _ _ _)) (@zg _) O) O) O) (by decide) O O) (@pw _ 3 _ _ O O) (λ_ _=>rfl))))))),?_⟩
 cases hs:s.isL with
 | true=>
  have ev:=ih.letter hs
  obtain⟨kvs,hn,hv⟩:=hg
  obtain⟨hu1,hu2⟩:=hv s.nm (gs.letter hs)
  refine⟨_,O,_,_,_,true,O,by rw[ev];exact .str _,Jh "str",_,O,wC ⟨_,O,_,O,g,kvs,Sum.inr s.nm,_,O,hn,ev,hu1,?_⟩⟩
  have q2:=q H (zD.refl H)
  rw[xM hs] at q2
  exact q2
 | false=>
  obtain⟨t,us,ev,ht,hP⟩:=ih.node hs
  obtain⟨⟨c,hcm,cn,cp⟩,gps⟩:=gs.node hs
  have hul:=A3 hP
  have a2:=Sy.ps_le s
  obtain⟨a,w0,c0,vs,rfl,h1,h2,h3,h4⟩:=id tb
  have m9:=gT.m9
  have cl:=gT.cl
  have hvl:=h4.len
  have gl:∀ b ∈ s.ps,grT T γ b < T.m:=λb hb=>Y1 gT nT (λx hx=>(hg.choose_spec.2 x hx).2) (gps b hb)
  rw[ev]
  refine⟨_,O,_,_,_,false,O,.tup ht,yW (K:=K) (.tup []),_,O,wc ?_⟩
  refine⟨_,O,_,O,?_⟩
  refine Y4 ht λt2 H2 s2 ht2=>?_
  rw[QG (by simp)] at ht2
  refine⟨t2,O,⟨_,SqT.of ht2⟩,?_⟩
  refine ZA (xs:=us) (λi σ H'=>(∃ x4,σ=[some (.ref a),some (.ref t),some (.ref g),some (nV (Tn.place T.m ((s.ps.take i).map (grT T γ)))),x4])/\zD H2 H') ⟨⟨_,O⟩,zD.refl _⟩ (λi σ H' _ h=>SqT.of (h.2 _ _ ht2)) ?_ ?_
  ·rintro i x σ H3 hx ⟨⟨x4,rfl⟩,s3⟩
   have hi:i < us.length:=(AF.mp hx).1
   have ha:s.ps[i]? = some s.ps[i]:=AD (by lia)
   generalize s.ps[i]=b at ha
   have hib:=Paired.at hP i _ _ ha hx
   have hbm:=AJ ha
   have hdb:=Sy.dp_lt hbm
   have S3:=s2.trans s3
   have e:V.int (((Tn.place T.m ((s.ps.take i).map (grT T γ)):Nat):Int) * ((T.m:Nat):Int)+((grT T γ b:Nat):Int))=nV (Tn.place T.m ((s.ps.take (i+1)).map (grT T γ))):=by
    rw[take_snoc ha,AK,Aj,DY,Tn.place_snoc]
    show V.int _=V.int _
    rw[DV,C8]
   match j,hj,d_law_grade with
   | 0,hj,_=>exact absurd hj (by lia)
   | j+1,hj,_=>
   refine⟨_,O,_,O,.inr (.inl ⟨a,_,0,_,O,O,SqT.of (S3 _ _ h1),O,_,_,O,O,.inr ⟨by lia,by lia⟩,_,O,_,O,_,O,.ref a,x,g,b,T,L,γ,O,tb.same S3,gT,nT,hib.same S3,gps b hbm,hg.same S3,by lia,λH4 s4=>⟨_,_,O,O,?_⟩⟩)⟩
   refine⟨⟨some x,?_⟩,s3.trans s4⟩
   rw[<- e]
   rfl
  ·rintro σ H3 ⟨⟨x4,rfl⟩,s3⟩
   have S3:=s2.trans s3
   have e0:s.ps.take us.length=s.ps:=by rw[<- hul,Ag]
   rw[e0]
   refine⟨_,O,_,O,.inr (.inl ⟨t,_,0,_,O,O,SqT.of (S3 _ _ ht),at0,_,O,_,_,O,.inr ⟨_,SqT.of (S3 _ _ ht),O⟩,_,_,O,O,?_⟩)⟩
   refine⟨.ref a,T,c,?_,tb.same S3,nT,hcm,λu hu=>?_⟩
   ·rw[cn,cp,hul]
    show [V.ref a,V.str s.nm,V.int (((us.length+1:Nat):Int) - 1)]=[V.ref a,V.str s.nm,V.int (us.length:Int)]
    rw[show (((us.length+1:Nat):Int) - 1)=(us.length:Int) by lia]
   have gc:=gT.cn c hcm
   have e:grT T γ s=Tn.at' c.cs (Tn.place T.m (s.ps.map (grT T γ))):=by
    rw[grT_node hs,<- cn]
    unfold L4.cellOf
    rw[qR nT hcm]
   refine⟨_,O,.inr (.inl ⟨u,_,_,_,O,O,SqT.of hu,jM ?_,?_⟩)⟩
   ·rw[gc.2.2.len,cp]
    exact Tn.place_lt _ _ ⟨by rw[AB],λx hx=>by
     obtain⟨b,hb,rfl⟩:=AI.mp hx
     exact gl b hb⟩
   ·rw[<- e]
    exact q H3 S3
abbrev j9:Stmt:=top 49
def zY:zC ["_law_many", "_law_letters_here", "_law_found", "_law_letter", "_law_more", "_law_one", "_law_grade_here", "_law_longer"] ["_law_many", "_law_letters_here"] (zn j9):=⟨rfl,rfl,rfl,by ac_rfl,rfl,by ac_rfl,by ac_rfl⟩
def J5 (F:Fun K "_law_gradings" "_law_gradings" j9 f fd) (gb:Gb mg):ji P w K mg base CX0 1 f fd ["_law_many", "_law_letters_here"] WD:=by
 refine F.ok zY (λvs H Q E h=>?_) (λcdv A outer s H vs Q E hr h=>?_)
 ·obtain⟨la,m,LT,rfl,_⟩:=h
  rfl
 obtain⟨la,m,LT,rfl,m1,m9,hla,nL,l5,p125,q⟩:=h
 refine⟨_,(@zh _ _ _ _ _ (@zr _ _ 2 _ _ _ _ zY.nd O (Or.inl O) (@zS _ _ _ _ (@zd _ _ _ _ _ (@Wh _ _) (@zg _) O)) O (by walk_at "f")) (@zh _ _ _ _ _ (@zZ _ _ _ _ _ _ _ _ Ad O (@zG _ K _ _ _ (@pw _ 1 _ _ O O) O) (@pgl _ 3 _ _ zY.nd O O) (@zh _ _ _ _ _ (@zr _ _ 4 _ _ _ _ zY.nd O (Or.inl O) (@zS _ _ _ _ (@zg _)) O (by walk_at "f")) (@zh _ _ _ _ _ (@zZ _ _ _ _ _ _ _ _ Ad O (@zG _ K _ _ _ (@pw _ 2 _ _ O O) O) (@pgl _ 5 _ _ zY.nd O O) (@zo _ _ _ (@zZ _ _ _ _ _ _ _ _ Ad O (@zR _ _ _ _ _ _ O gb.range (@zd _ _ _ _ _ (@pw _ 0 _ _ O O) (@zg _) O) O) (@pgl _ 6 _ _ zY.nd O O) (@zh _ _ _ _ _ (@zr _ _ 7 _ _ _ _ zY.nd O (Or.inl O) (@zy _ _ _ _ _ _ _ _ _ (@wJ _) O gb.dict Wi (@zd _ _ _ _ _ (@pw _ 5 _ _ O O) (@zg _) O) (by decide) (by decide) O O) O (by walk_at "f")) (@zh _ _ _ _ _ (@XW _ _ _ _ _ _ _ _ _ _ hr (@pw _ 7 _ _ O O) (@pw _ 3 _ _ O O) (@pw _ 6 _ _ O O) O) (@zo _ _ _ (@qf _ _ _ _ (@qw _ K _ _ _ _ _ _ _ _ _ _ _ AY Aq Ap (@zT _) (@pw _ 4 _ _ O O) (@zd _ _ _ _ _ (@pw _ 7 _ _ O O) (@zg _) O) O O O O O O) O)))) (by intro _;rfl))) (by intro _;rfl)) (@zo _ _ _ (@zr _ _ 2 _ _ _ _ zY.nd O (Or.inl O) (@pw _ 4 _ _ O O) O (by walk_at "f"))))) (by intro _;rfl)) (@zo _ _ _ (@zF _ _ _ _ (@pw _ 2 _ _ O O))))),?_⟩
 refine λdd hd=>⟨zt (by show 1<=1000;decide),λfl hfl=>?_⟩
 have n1:=zf hd (.dK [])
 have n2:=zf hfl (.lst [.ref dd])
 have S2:=n1.trans n2
 refine⟨_,O,la,O,⟨_,SqL.of (S2 _ _ hla)⟩,?_⟩
 refine qA (xs:=LT.map V.str) (λi σ H'=>(∃ fl x3 x4 x5 x6 x7 gs,σ=[some (nV m),some (.ref la),some (.ref fl),x3,x4,x5,x6,x7]/\zD H H'/\H' fl=some (.lst (Ja gs))/\gs.map Prod.snd=Wy m i/\GnsR H' gs (LT.take i))) ⟨fl,none,none,none,none,none,[(dd,[])],rfl,S2,ze,rfl,λz hz=>by rw[AG.mp hz];exact n2 _ _ ze⟩ (λi σ H' _ h=>by obtain⟨_,_,_,_,_,_,_,_,s,_⟩:=h;exact SqL.of (s _ _ hla)) ?_ ?_
 ·rintro i x σ H1 hx ⟨fl,x3,x4,x5,x6,x7,gs,rfl,s1,hf,es,hg⟩
  rw[AH] at hx
  obtain⟨y,hy,rfl⟩:=AW.mp hx
  have hi:i < LT.length:=(AF.mp hy).1
  have hyn:y ∉ LT.take i:=λhm=>by
   obtain⟨j,hj,e⟩:=List.mem_take_iff_getElem.mp hm
   obtain⟨h1,h2⟩:=AF.mp hy
   exact (C2.mp nL) j i (by lia) h1 (by lia) (by rw[e,h2])
  have gl:gs.length=m ^ i:=by
   have:=BQ List.length es
   rwa [AB,JV] at this
  have pw:m ^ (i+1)<=125:=Aa (CL m1 (by lia)) p125
  have pw':gs.length * m<=125:=by rw[gl,<- CK];exact pw
  have tkl:(LT.take i).length=i:=by rw[Ai];lia
  have rl:∀ z ∈ gs,z.2.length=i:=λz hz=>(jN.mp (es ▸ AI.mpr ⟨z,hz,rfl⟩:z.2 ∈ Wy m i)).1
  refine⟨zt (by show 0<=1000;decide),λlo hlo=>?_⟩
  have n3:=zf hlo (.lst [])
  refine⟨_,O,fl,O,⟨_,SqL.of (n3 _ _ hf)⟩,?_⟩
  refine qA (xs:=Ja gs) (λj σ H'=>(∃ x5 x6 x7 hs,σ=[some (nV m),some (.ref la),some (.ref fl),some (.str y),some (.ref lo),x5,x6,x7]/\zD H1 H'/\H' lo=some (.lst (Ja hs))/\hs.map Prod.snd=((gs.take j).map Prod.snd).flatMap (λr=>(List.range m).map λo=>r++[o])/\GnsR H' hs (LT.take i++[y]))) ⟨x5,x6,x7,[],rfl,n3,ze,rfl,λz hz=>by cases hz⟩ (λj σ H' _ h=>by obtain⟨_,_,_,_,_,s,_⟩:=h;exact SqL.of (s _ _ hf)) ?_ ?_
  ·rintro j x σ H2 hx ⟨x5,x6,x7,hs,rfl,s2,hl2,eh,hh⟩
   have hxj:(gs.map λz=>V.ref z.1)[j]? = some x:=hx
   rw[AH] at hxj
   obtain⟨z,hz,rfl⟩:=AW.mp hxj
   have hj:j < gs.length:=(AF.mp hz).1
   have hk:=hg z (AJ hz)
   have zl:=rl z (AJ hz)
   have hsl:hs.length<=gs.length * m:=by
    have:=BQ List.length eh
    rw[AB] at this
    rw[this]
    have e2:(((gs.take j).map Prod.snd).flatMap λr=>(List.range m).map λo=>r++[o]).length=j * m:=by
     rw[zaB,AB,Ai,show min j gs.length=j by lia]
    rw[e2]
    exact BM _ (by lia)
   refine⟨_,O,(m:Int),O,by lia,by lia,?_⟩
   rw[Av]
   refine qY (λk σ H'=>(∃ x6 x7 hs',σ=[some (nV m),some (.ref la),some (.ref fl),some (.str y),some (.ref lo),some (.ref z.1),x6,x7]/\zD H1 H'/\H' lo=some (.lst (Ja hs'))/\hs'.map Prod.snd=hs.map Prod.snd++(List.range k).map (λo=>z.2++[o])/\GnsR H' hs' (LT.take i++[y]))) ⟨x6,x7,hs,O,s2,hl2,by rw[show (List.range 0).map (λo=>z.2++[o])=[] from rfl,Bt],hh⟩ ?_ ?_
   ·rintro k σ H3 hk9 ⟨x6,x7,hs',rfl,s3,hl3,eh',hh'⟩
    have hk3:=s3 _ _ hk
    have hs'l:hs'.length=hs.length+k:=by
     have:=BQ List.length eh'
     rw[AB,AL,AB,AB,AZ] at this
     exact this
    refine⟨_,O,z.1,_,O,hk3,λe he=>?_⟩
    refine⟨_,O,_,O,_,O,e,_,Sum.inr y,O,O,ze,by rw[zkv_len (by lia)];exact zq (by lia),?_⟩
    rw[upd_upd,show V.int (0+(k:Int))=nV k by show V.int _=V.int _;rw[BS],zkv_put (by lia) hyn]
    have n5:=zf he (.dK (zkv (LT.take i++[y]) (z.2++[k])))
    have hl5:=n5 _ _ hl3
    refine⟨_,O,.inl ⟨O,_,SqL.of hl5⟩,_,O,lo,_,_,O,O,hl5,by unfold Ja;rw[List.length_map];exact zq (by lia),?_⟩
    refine⟨_,_,hs'++[(e,z.2++[k])],O,(s3.trans n5).put hlo,by rw[ze];unfold Ja;rw[List.map_append];rfl,?_,λu hu=>?_⟩
    ·rw[AK,eh',BI,AK,Cq]
     rfl
    ·have dne:∀ (b:Addr) (o:List (Key×V)),(upd H3 e (.dK (zkv (LT.take i++[y]) (z.2++[k])))) b=some (.dK o)->b ≠ lo:=λb o hb e2=>by
      rw[e2,hl5] at hb
      cases hb
     rcases AV.mp hu with hu | hu
     ·have h6:=n5 _ _ (hh' u hu)
      rw[zK (dne _ _ h6)]
      exact h6
     ·rw[AG.mp hu]
      rw[zK (dne e _ ze)]
      exact ze
   ·rintro σ H3 ⟨x6,x7,hs',rfl,s3,hl3,eh',hh'⟩
    refine⟨_,_,_,hs',O,s3,hl3,?_,hh'⟩
    rw[eh',eh,take_snoc hz,AK,BY]
    simp
  ·rintro σ H2 ⟨x5,x6,x7,hs,rfl,s2,hl2,eh,hh⟩
   unfold Ja at eh
   rw[AB,Ag] at eh
   refine⟨_,O,lo,_,_,_,_,_,hs,O,s1.trans s2,hl2,?_,?_⟩
   ·rw[eh,es]
    rfl
   ·rw[take_snoc hy]
    exact hh
 ·rintro σ H1 ⟨fl,x3,x4,x5,x6,x7,gs,rfl,s1,hf,es,hg⟩
  rw[AB] at es hg
  rw[Ag] at hg
  exact⟨_,O,q fl gs H1 s1 hf es hg⟩
abbrev Zw:Stmt:=top 50
def jp:zC ["_law_saying_here", "_law_found", "_law_part"] ["_law_saying_here"] (zn Zw):=⟨rfl,rfl,rfl,by ac_rfl,rfl,by ac_rfl,by ac_rfl⟩
def ww (F:Fun K "_law_letters" "_law_letters" Zw f fd) (gb:Gb mg) (j:Nat) (d_law_letters:Def P w K mg base (1+j) "_law_letters" ["_law_saying_here"] (spOfL j)):ji P w K mg base CX0 (1+j+1) f fd ["_law_saying_here"] (spOfL (j+1)):=by
 refine F.ok jp (λvs H Q E h=>?_) (λcdv A outer s H vs Q E hr h=>?_)
 ·obtain⟨sv,s,rfl,_⟩:=h
  rfl
 obtain⟨sv,s,rfl,ih,h63,hj,q⟩:=h
 refine⟨_,(@zh _ _ _ _ _ (@qX _ _ _ _ _ _ _ _ (@Zy _ _ _ (@zE _ _ _ _ _ _ _ _ _ (@QQ _ K O) O gb.isinstance Zk (@zd _ _ _ _ _ (@pw _ 0 _ _ O O) (@zd _ _ _ _ _ (@yR _ _ (.ty "str") _ _ O gb.str Xy O (by decide) (by decide)) (@zg _) O) O) (by decide) (by decide) O O) (by intro _;rfl)) (@zo _ _ _ (@zF _ _ _ _ (@zS _ _ _ _ (@zd _ _ _ _ _ (@pw _ 0 _ _ O O) (@zg _) O)))) (@zU _)) (@zh _ _ _ _ _ (@zr _ _ 1 _ _ _ _ jp.nd O (Or.inl O) (@zS _ _ _ _ (@zg _)) O (by walk_at "f")) (@zh _ _ _ _ _ (@zZ _ _ _ _ _ _ _ _ Ad O (@qW _ K _ _ _ (@qQ _ _ _ _ _ _ _ _ _ _ (@kslT _ K O) (@pw _ 0 _ _ O O) (@qV _ _ _ (@zk _ _ _ _)) (@Zh _)) O) (@pgl _ 2 _ _ jp.nd O O) (@zo _ _ _ (@zr _ _ 1 _ _ _ _ jp.nd O (Or.inl O) (@zB _ _ _ _ _ _ _ _ (@Ju _) (@pw _ 1 _ _ O O) (@zw _ _ _ _ _ _ _ _ _ _ _ d_law_letters hr (by lia) O (@zd _ _ _ _ _ (@pw _ 2 _ _ O O) (@zg _) O) (by decide) O O)) O (by walk_at "f"))) (by intro _;rfl)) (@zo _ _ _ (@zF _ _ _ _ (@pw _ 1 _ _ O O)))))),?_⟩
 cases hs:s.isL with
 | true=>
  have ev:=ih.letter hs
  refine⟨_,O,_,_,_,true,O,by rw[ev];exact .str _,Jh "str",_,O,wC ⟨_,O,zt (by show 1<=1000;decide),λl hl=>?_⟩⟩
  refine q l _ (zf hl _) hl ?_
  rw[ze,ev]
  cases s with
  | ltr x=>rfl
  | _=>cases hs
 | false=>
  obtain⟨t,us,ev,ht,hP⟩:=ih.node hs
  have hul:=A3 hP
  have a2:=Sy.ps_le s
  have hls:=ZM s
  rw[ev]
  refine⟨_,O,_,_,_,false,O,.tup ht,yW (K:=K) (.tup []),_,O,wc ?_⟩
  refine⟨zt (by show 0<=1000;decide),λl0 hl0=>?_⟩
  have n1:=zf hl0 (.lst [])
  refine⟨_,O,_,O,?_⟩
  refine Y4 (n1 _ _ ht) λt2 H2 s2 ht2=>?_
  rw[QG (by simp)] at ht2
  have S2:=n1.trans s2
  refine⟨t2,O,⟨_,SqT.of ht2⟩,?_⟩
  refine ZA (xs:=us) (λi σ H'=>(∃ l x2,σ=[some (.ref t),some (.ref l),x2]/\H l=none/\H' l=some (.lst (((s.ps.take i).flatMap Sy.lets).map V.str)))/\zD H2 H') ⟨⟨l0,_,O,hl0,s2 _ _ ze⟩,zD.refl _⟩ (λi σ H' _ h=>SqT.of (h.2 _ _ ht2)) ?_ ?_
  ·rintro i x σ H3 hx ⟨⟨l,x2,rfl,hl,hl3⟩,s3⟩
   have hi:i < us.length:=(AF.mp hx).1
   have ha:s.ps[i]? = some s.ps[i]:=AD (by lia)
   generalize s.ps[i]=b at ha
   have hib:=Paired.at hP i _ _ ha hx
   have hbm:=AJ ha
   have hdb:=Sy.dp_lt hbm
   have hsb:=sz_part hbm
   have hlb:=ZM b
   have ft:=zaA s.ps Sy.lets i
   rw[<- zaz hs] at ft
   have S3:=S2.trans s3
   match j,hj,d_law_letters with
   | 0,hj,_=>exact absurd hj (by lia)
   | j+1,hj,_=>
   refine⟨_,O,_,O,x,b,O,hib.same S3,by lia,by lia,λl2 H4 s4 hn2 hl2=>⟨l,l2,_,_,O,O,s4 _ _ hl3,hl2,by rw[AB,AB];exact zt (by lia),λl3 hl3'=>?_⟩⟩
   refine⟨⟨l3,some x,O,(S3.trans s4).free hl3',?_⟩,(s3.trans s4).trans (zf hl3' _)⟩
   rw[ze,take_snoc ha,BY,AK]
   simp
  ·rintro σ H3 ⟨⟨l,x2,rfl,hl,hl3⟩,s3⟩
   rw[<- hul,Ag,<- zaz hs] at hl3
   exact⟨_,O,q l H3 (S2.trans s3) hl hl3⟩
abbrev jl:Stmt:=top 51
def qJ:zC ["_law_sayings", "_law_found", "_law_saying_here"] ["_law_sayings"] (zn jl):=⟨rfl,rfl,rfl,by ac_rfl,rfl,by ac_rfl,by ac_rfl⟩
def QN (F:Fun K "_law_all_letters" "_law_all_letters" jl f fd) (gb:Gb mg) (d_law_letters:Def P w K mg base 13 "_law_letters" ["_law_saying_here"] (spOfL 12)):ji P w K mg base CX0 14 f fd ["_law_sayings"] xf:=by
 refine F.ok qJ (λvs H Q E h=>?_) (λcdv A outer s H vs Q E hr h=>?_)
 ·obtain⟨l,ps,L0,rfl,_⟩:=h
  rfl
 obtain⟨l,ps,L0,rfl,hl,p14,hps,l5,q⟩:=h
 refine⟨_,(@zh _ _ _ _ _ (@zr _ _ 1 _ _ _ _ qJ.nd O (Or.inl O) (@zS _ _ _ _ (@zg _)) O (by walk_at "f")) (@zh _ _ _ _ _ (@zZ _ _ _ _ _ _ _ _ Ad O (@zG _ K _ _ _ (@pw _ 0 _ _ O O) O) (@pgl _ 2 _ _ qJ.nd O O) (@zo _ _ _ (@zr _ _ 1 _ _ _ _ qJ.nd O (Or.inl O) (@zB _ _ _ _ _ _ _ _ (@Ju _) (@pw _ 1 _ _ O O) (@zw _ _ _ _ _ _ _ _ _ _ _ d_law_letters hr (by lia) O (@zd _ _ _ _ _ (@pw _ 2 _ _ O O) (@zg _) O) (by decide) O O)) O (by walk_at "f"))) (by intro _;rfl)) (@zo _ _ _ (@zF _ _ _ _ (@zE _ _ _ _ _ _ _ _ _ (@QE _ O) O gb.sorted jK (@zd _ _ _ _ _ (@zy _ _ _ _ _ _ _ _ _ (@wU _ K O O) O gb.set Jz (@zd _ _ _ _ _ (@pw _ 1 _ _ O O) (@zg _) O) (by decide) (by decide) O O) (@zg _) O) (by decide) (by decide) O O))))),?_⟩
 refine⟨zt (by show 0<=1000;decide),λla hla=>?_⟩
 have n0:=zf hla (.lst [])
 refine⟨_,O,l,O,⟨_,SqL.of (n0 _ _ hl)⟩,?_⟩
 refine qA (xs:=ps.map Prod.fst) (λi σ H'=>(∃ la x2,σ=[some (.ref l),some (.ref la),x2]/\H' la=some (.lst (((ps.take i).flatMap λz=>z.2.lets).map V.str)))/\zD H H') ⟨⟨la,_,O,ze⟩,n0⟩ (λi σ H' _ h=>SqL.of (h.2 _ _ hl)) ?_ ?_
 ·rintro i x σ H1 hx ⟨⟨la,x2,rfl,hy⟩,s1⟩
  rw[AH] at hx
  obtain⟨z,hzi,rfl⟩:=AW.mp hx
  obtain⟨dz,z63,iz,_⟩:=hps z (AJ hzi)
  have hb:=ZN (ps.take i) λy hy=>(hps y (DT hy)).2.1
  have hzl:=(AF.mp hzi).1
  have hsz:=ZM z.2
  rw[Ai] at hb
  refine⟨_,O,_,O,z.1,z.2,O,iz.same s1,z63,(show _<=11 by lia),λl2 H2 s2 _ hl2=>?_⟩
  refine⟨la,l2,_,_,O,O,s2 _ _ hy,hl2,by rw[AB,AB];exact zt (by lia),λl3 hl3=>?_⟩
  refine⟨⟨l3,_,O,?_⟩,s1.trans (s2.trans (zf hl3 _))⟩
  rw[ze,take_snoc hzi,BY,AK]
  simp only[List.flatMap_cons,List.flatMap_nil,List.append_nil]
 ·rintro σ H1 ⟨⟨la,x2,rfl,hy⟩,s1⟩
  rw[AB,Ag] at hy
  have hb:=ZN ps λy hy=>(hps y hy).2.1
  refine⟨_,O,la,_,O,SqL.of hy,by lia,λsa hsa=>?_⟩
  have hm:∀ x,x ∈ Q0 (ps.flatMap λz=>z.2.lets) ↔ ∃ z ∈ ps,x ∈ z.2.lets:=λx=>by
   rw[Z0,BW]
  refine⟨sa,_,O,ze,ZK _,?_,λk ss hk pm so=>q k ss _ (s1.trans ((zf hsa _).trans (zf hk _))) ze (pm.nodup_iff.mpr (ZK _)) (λx=>by rw[pm.mem_iff,hm])⟩
  have:=jJ _ L0 (ZK (ps.flatMap λz=>z.2.lets)) λx hx=>by
   obtain⟨z,hzm,hzx⟩:=(hm x).mp hx
   exact (hps z hzm).2.2.2 x hzx
  lia
abbrev QX:Stmt:=top 52
def J6:zC ["_law_table_here", "_law_premises", "_law_saying_here", "_law_grading", "_law_premise"] ["_law_table_here", "_law_premises", "_law_saying_here", "_law_grading"] (zn QX):=⟨rfl,rfl,rfl,by ac_rfl,rfl,by ac_rfl,by ac_rfl⟩
def Yz (F:Fun K "_law_bars" "_law_bars" QX f fd) (gb:Gb mg) (d_law_grade:Def P w K mg base 15 "_law_grade" ["_law_table_here", "_law_saying_here", "_law_grading"] (JU 12)):ji P w K mg base CX0 16 f fd ["_law_table_here", "_law_premises", "_law_saying_here", "_law_grading"] Yi:=by
 refine F.ok J6 (λvs H Q E h=>?_) (λcdv A outer s H vs Q E hr h=>?_)
 ·obtain⟨v,pl,sv,g,T,L,ps,S,γ,rfl,_⟩:=h
  rfl
 obtain⟨v,pl,sv,g,T,L,ps,S,γ,rfl,ak,hg,q⟩:=h
 refine⟨_,(@zh _ _ _ _ _ (@zZ _ _ _ _ _ _ _ _ Ad O (@zG _ K _ _ _ (@pw _ 1 _ _ O O) O) (@pgl _ 4 _ _ J6.nd O O) (@zo _ _ _ (@qX _ _ _ _ _ _ _ _ (@zH _ _ _ _ _ _ _ _ (@Qw _ K O) (@zw _ _ _ _ _ _ _ _ _ _ _ d_law_grade hr (by lia) O (@zd _ _ _ _ _ (@pw _ 0 _ _ O O) (@zd _ _ _ _ _ (@pw _ 4 _ _ O O) (@zd _ _ _ _ _ (@pw _ 3 _ _ O O) (@zg _) O) O) O) (by decide) O O) (@zu _ _ _ _ _ _ _ (@zm _ K O) (@pw _ 0 _ _ O O) (@zk _ _ _ _) (λ_ _=>rfl)) (by with_unfolding_all rfl)) (@zo _ _ _ (@zF _ _ _ _ (@yQ _ _ _ _))) (@zU _))) (by intro _;rfl)) (@zo _ _ _ (@zF _ _ _ _ (@ZB _ _ _ _ _ _ _ _ (@Qw _ K O) (@zw _ _ _ _ _ _ _ _ _ _ _ d_law_grade hr (by lia) O (@zd _ _ _ _ _ (@pw _ 0 _ _ O O) (@zd _ _ _ _ _ (@pw _ 2 _ _ O O) (@zd _ _ _ _ _ (@pw _ 3 _ _ O O) (@zg _) O) O) O) (by decide) O O) (@zu _ _ _ _ _ _ _ (@zm _ K O) (@pw _ 0 _ _ O O) (@zk _ _ _ _) (λ_ _=>rfl)) (by with_unfolding_all rfl))))),?_⟩
 obtain⟨a,w0,c0,vs,rfl,h1,h2,h3,h4⟩:=id ak.tb
 refine⟨_,O,pl,O,⟨_,SqL.of ak.hp⟩,?_⟩
 refine qA (xs:=ps.map Prod.fst) (λi σ H'=>(∃ x4,σ=[some (.ref a),some (.ref pl),some sv,some (.ref g),x4])/\zD H H'/\∀ z ∈ ps.take i,grT T γ z.2 ∈ T.ws) ⟨⟨_,O⟩,zD.refl _,λz hz=>by cases hz⟩ (λi σ H' _ h=>SqL.of (h.2.1 _ _ ak.hp)) ?_ ?_
 ·rintro i x σ H1 hx ⟨⟨x4,rfl⟩,s1,hw⟩
  rw[AH] at hx
  obtain⟨z,hzi,rfl⟩:=AW.mp hx
  have hzm:=AJ hzi
  obtain⟨k1,k2,k3,k4⟩:=ak.ps z hzm
  refine⟨_,O,_,O,_,O,.ref a,z.1,g,z.2,T,L,γ,O,ak.tb.same s1,ak.gt,ak.nd,k4.same s1,k1,hg.same s1,(show _<=11 by lia),λH2 s2=>?_⟩
  refine⟨_,O,.inr (.inl ⟨a,_,1,_,O,O,SqT.of ((s1.trans s2) _ _ h1),O,w0,_,O,.inr (SqT.of ((s1.trans s2) _ _ h2)),O,qm _,_,O,?_⟩)⟩
  rw[if_pos rfl,j7]
  by_cases hz:grT T γ z.2 ∈ T.ws
  ·rw[An hz]
   refine wc ⟨⟨_,O⟩,s1.trans s2,λy hy=>?_⟩
   rw[take_snoc hzi] at hy
   rcases AV.mp hy with hy | hy
   ·exact hw y hy
   ·rw[AG.mp hy];exact hz
  ·rw[As hz]
   refine wC ?_
   have q2:=q _ (s1.trans s2)
   have e:barB T γ (ps.map Prod.snd) S=false:=by
    rw[Dh]
    intro h
    exact hz ((Wz.mp h).1 _ (AI.mpr ⟨z,hzm,O⟩))
   rw[e] at q2
   exact q2
 ·rintro σ H1 ⟨⟨x4,rfl⟩,s1,hw⟩
  rw[AB,Ag] at hw
  refine⟨_,O,_,O,_,O,.ref a,sv,g,S,T,L,γ,O,ak.tb.same s1,ak.gt,ak.nd,ak.sv.same s1,ak.gs,hg.same s1,(show _<=11 from Aa ak.sd (by decide)),λH2 s2=>?_⟩
  refine⟨_,O,.inr (.inl ⟨a,_,1,_,O,O,SqT.of ((s1.trans s2) _ _ h1),O,w0,_,O,.inr (SqT.of ((s1.trans s2) _ _ h2)),O,qm _,?_⟩)⟩
  rw[if_pos rfl,j7]
  have q2:=q _ (s1.trans s2)
  unfold barB at q2
  rw[show ((ps.map Prod.snd).all λp=>decide (grT T γ p ∈ T.ws))=true from Al.mpr λp hp=>by
   obtain⟨z,hz,rfl⟩:=AI.mp hp
   exact An (hw z hz),Bool.true_and] at q2
  exact q2
abbrev jE:Stmt:=top 53
def Qf:zC ["_law_table_here", "_law_premises", "_law_saying_here", "_law_letters_here"] ["_law_table_here", "_law_premises", "_law_saying_here"] (zn jE):=⟨rfl,rfl,rfl,by ac_rfl,rfl,by ac_rfl,by ac_rfl⟩
def wx (F:Fun K "_law_follows" "_law_follows" jE f fd) (gb:Gb mg) (d_law_all_letters:Def P w K mg base 14 "_law_all_letters" ["_law_sayings"] xf) (d_law_gradings:Def P w K mg base 1 "_law_gradings" ["_law_many", "_law_letters_here"] WD) (d_law_bars:Def P w K mg base 16 "_law_bars" ["_law_table_here", "_law_premises", "_law_saying_here", "_law_grading"] Yi):ji P w K mg base CX0 20 f fd ["_law_table_here", "_law_premises", "_law_saying_here"] xg:=by
 refine F.ok Qf (λvs H Q E h=>?_) (λcdv A outer s H vs Q E hr h=>?_)
 ·obtain⟨v,pl,sv,T,L,ps,S,rfl,_⟩:=h
  rfl
 obtain⟨v,pl,sv,T,L,ps,S,rfl,ak,p125,p13,q1,q0⟩:=h
 have nd0:(["_law_one", "_law_table_here", "_law_premises", "_law_saying_here"]:List Str).Nodup:=by ac_rfl
 refine⟨_,(@zh _ _ _ _ _ (@zr _ _ 3 _ _ _ _ Qf.nd O (Or.inl O) (@zw _ _ _ _ _ _ _ _ _ _ _ d_law_all_letters hr (by lia) O (@zd _ _ _ _ _ (@zB _ _ _ _ _ _ _ _ (@Ju _) (@pw _ 1 _ _ O O) (@zS _ _ _ _ (@zd _ _ _ _ _ (@pw _ 2 _ _ O O) (@zg _) O))) (@zg _) O) (by decide) O O) O (by walk_at "f")) (@zo _ _ _ (@zF _ _ _ _ (@Xk _ _ _ _ (@zE _ _ _ _ _ _ _ _ _ (@ym _ K O O) O gb.any bt_any (@zd _ _ _ _ _ (@zO _ ["_law_one", "_law_table_here", "_law_premises", "_law_saying_here"] [none,some 0,some 1,some 2] _ _ _ _ _ _ _ _ _ _ (by exact (show zJ ["_law_table_here", "_law_premises", "_law_saying_here", "_law_letters_here"] (zn jE) ["_law_one", "_law_table_here", "_law_premises", "_law_saying_here"] [none,some 0,some 1,some 2] _ from⟨O,by ac_rfl,by ac_rfl,by ac_rfl,by ac_rfl,O,by ac_rfl⟩)) O (@zG _ K _ _ _ (@zw _ _ _ _ _ _ _ _ _ _ _ d_law_gradings hr (by lia) O (@zd _ _ _ _ _ (@zu _ _ _ _ _ _ _ (@zm _ K O) (@pw _ 0 _ _ O O) (@zk _ _ _ _) (λ_ _=>rfl)) (@zd _ _ _ _ _ (@pw _ 3 _ _ O O) (@zg _) O) O) (by decide) O O) O) (λ_ _ _ _=>(@pgl _ 0 _ _ nd0 O O)) (λ_ _ _ _=>(@qd _)) (λ_ _ _ _=>(@zw _ _ _ _ _ _ _ _ _ _ _ d_law_bars hr (by lia) O (@zd _ _ _ _ _ (@pw _ 1 _ _ O O) (@zd _ _ _ _ _ (@pw _ 2 _ _ O O) (@zd _ _ _ _ _ (@pw _ 3 _ _ O O) (@zd _ _ _ _ _ (@pw _ 0 _ _ O O) (@zg _) O) O) O) O) (by decide) O O)) (by intro _;rfl)) (@zg _) O) (by decide) (by decide) O O))))),?_⟩
 obtain⟨a,w0,c0,vs0,rfl,h1,h2,h3,h4⟩:=id ak.tb
 have m1:=ak.gt.m1
 have m9:=ak.gt.m9
 refine⟨_,O,_,O,zt (by show 1<=1000;decide),λl2 hl2=>?_⟩
 have n2:=zf hl2 (.lst [sv])
 refine⟨pl,l2,_,_,O,O,n2 _ _ ak.hp,ze,by rw[AB];exact zt (by show ps.length+1<=1000;lia),λl3 hl3=>?_⟩
 have n3:=zf hl3 (.lst (ps.map Prod.fst++[sv]))
 have eq3:(ps++[(sv,S)]).map Prod.fst=ps.map Prod.fst++[sv]:=by rw[AK];rfl
 have hl3':=@ze (upd H l2 (.lst [sv])) l3 (.lst (ps.map Prod.fst++[sv]))
 rw[<- eq3] at hl3' n3 ⊢
 have S3:=n2.trans n3
 generalize upd (upd H l2 (.lst [sv])) l3 (.lst ((ps++[(sv,S)]).map Prod.fst))=H3 at *
 have allq:∀ z ∈ ps++[(sv,S)],GSt T L z.2/\z.2.dp<=10/\z.2.sz<=63/\jU H3 z.2 z.1:=λz hz=>by
  rcases AV.mp hz with hz | hz
  ·obtain⟨k1,k2,k3,k4⟩:=ak.ps z hz
   exact⟨k1,k2,k3,k4.same S3⟩
  ·rw[AG.mp hz]
   exact⟨ak.gs,ak.sd,ak.sz,ak.sv.same S3⟩
 refine⟨l3,ps++[(sv,S)],L,O,hl3',by rw[AL];show ps.length+1<=14;lia,(λz hz=>⟨(allq z hz).2.1,(allq z hz).2.2.1,(allq z hz).2.2.2,λx hx=>(allq z hz).1.lets_in hx⟩),ak.ln,λk M H5 s5 hk nd hm=>?_⟩
 have S5:=S3.trans s5
 have hm2:∀ x,x ∈ M ↔ (∃ z ∈ ps,x ∈ z.2.lets)\/x ∈ S.lets:=λx=>by
  rw[hm]
  constructor
  ·rintro⟨z,hz,hx⟩
   rcases AV.mp hz with hz | hz
   ·exact .inl ⟨z,hz,hx⟩
   ·rw[AG.mp hz] at hx
    exact .inr hx
  ·rintro (⟨z,hz,hx⟩ | hx)
   ·exact⟨z,Ao _ hz,hx⟩
   ·exact⟨(sv,S),Ae _ (AG.mpr rfl),hx⟩
 have hML:∀ x ∈ M,x ∈ L:=λx hx=>by
  rcases (hm2 x).mp hx with ⟨z,hz,hx⟩ | hx
  ·exact (ak.ps z hz).1.lets_in hx
  ·exact ak.gs.lets_in hx
 have hMl:=jJ M L nd hML
 have hM5:M.length<=5:=Aa hMl ak.ln
 have pM:T.m ^ M.length<=125:=Aa (CL m1 hMl) p125
 have akM:=ak.lets hML (λz hz x hx=>(hm2 x).mpr (.inl ⟨z,hz,hx⟩)) (λx hx=>(hm2 x).mpr (.inr hx)) hM5
 refine⟨_,O,.inr (.inl ⟨a,_,0,_,O,O,SqT.of (S5 _ _ h1),O,_,O,k,T.m,M,O,m1,m9,hk,nd,hM5,pM,λfl gs H6 s6 hfl es hg=>?_⟩)⟩
 have S6:=S5.trans s6
 have gsl:gs.length=T.m ^ M.length:=by rw[<- AB (f:=Prod.snd),es,JV]
 have rw':∀ z ∈ gs,Tn.Rw T.m M.length z.2:=λz hz=>jN.mp (by rw[<- es];exact AI.mpr ⟨z,hz,rfl⟩)
 unfold Ja at hfl
 refine⟨fl,O,⟨_,SqL.of hfl⟩,λD hD=>?_⟩
 refine qB gs (λz=>V.ref z.1) (λz=>.bl (barB T (yN M z.2) (ps.map Prod.snd) S)) hfl (by lia) hD (λz hz H' Q' s7 q'=>?_) (λH7 s7 hD7=>?_)
 ·have S7:=S6.trans s7
  exact⟨_,O,_,O,_,O,_,O,.ref a,pl,sv,z.1,T,M,ps,S,yN M z.2,O,akM.same S7,yu (s7 _ _ (hg z hz)) (rw' z hz) m1,λH8 s8=>q' H8 s8⟩
 rw[Wv] at hD7
 have S7:=S6.trans s7
 refine⟨D,_,O,SqL.of hD7,?_⟩
 by_cases hf:Fol T (ps.map Prod.snd) S
 ·have e:(gs.map λz=>barB T (yN M z.2) (ps.map Prod.snd) S).any id=false:=by
   rw[List.any_eq_false]
   intro b hb
   obtain⟨z,hz,rfl⟩:=AI.mp hb
   intro h
   exact hf (yN M z.2) (λx=>Yj (rw' z hz) m1 x) (Wz.mp h)
  rw[e]
  exact⟨_,O,q1 hf H7 S7⟩
 ·have e:(gs.map λz=>barB T (yN M z.2) (ps.map Prod.snd) S).any id=true:=by
   unfold Fol at hf
   obtain⟨γ,hγ⟩:=Classical.not_forall.mp hf
   obtain⟨gd,hb⟩:=Classical.not_imp.mp hγ
   have bar:=Classical.not_not.mp hb
   have hr:M.map γ ∈ gs.map Prod.snd:=by
    rw[es]
    exact jN.mpr ⟨by rw[AB],λx hx=>by
     obtain⟨y,_,rfl⟩:=AI.mp hx
     exact gd y⟩
   obtain⟨z,hz,ez⟩:=AI.mp hr
   refine DO.mpr ⟨_,AI.mpr ⟨z,hz,O⟩,?_⟩
   refine Wz.mpr ⟨λp hp=>?_,?_⟩
   ·obtain⟨y,hy,rfl⟩:=AI.mp hp
    rw[Zd (δ:=γ) λx hx=>by rw[ez,QI ((hm2 x).mpr (.inl ⟨y,hy,hx⟩))]]
    exact bar.1 _ hp
   ·rw[Zd (δ:=γ) λx hx=>by rw[ez,QI ((hm2 x).mpr (.inr hx))]]
    exact bar.2
  rw[e]
  exact⟨_,O,q0 hf H7 S7⟩
abbrev QO:Stmt:=top 54
def w6:zC ["_law_table_here", "_law_premises", "_law_grading"] ["_law_table_here", "_law_premises"] (zn QO):=⟨rfl,rfl,rfl,by ac_rfl,rfl,by ac_rfl,by ac_rfl⟩
def Xa (F:Fun K "_law_met" "_law_met" QO f fd) (gb:Gb mg) (d_law_all_letters:Def P w K mg base 14 "_law_all_letters" ["_law_sayings"] xf) (d_law_gradings:Def P w K mg base 1 "_law_gradings" ["_law_many", "_law_letters_here"] WD) (d_law_grade:Def P w K mg base 15 "_law_grade" ["_law_table_here", "_law_saying_here", "_law_grading"] (JU 12)):ji P w K mg base CX0 18 f fd ["_law_table_here", "_law_premises"] spMet:=by
 refine F.ok w6 (λvs H Q E h=>?_) (λcdv A outer s H vs Q E hr h=>?_)
 ·obtain⟨v,pl,T,L,ps,rfl,_⟩:=h
  rfl
 obtain⟨v,pl,T,L,ps,rfl,tb,gT,nT,hp,p2,hps,l2,q⟩:=h
 have nd0:(["_law_one", "_law_table_here", "_law_grading"]:List Str).Nodup:=by ac_rfl
 refine⟨_,(@zh _ _ _ _ _ (@zZ _ _ _ _ _ _ _ _ Ad O (@zG _ K _ _ _ (@zw _ _ _ _ _ _ _ _ _ _ _ d_law_gradings hr (by lia) O (@zd _ _ _ _ _ (@zu _ _ _ _ _ _ _ (@zm _ K O) (@pw _ 0 _ _ O O) (@zk _ _ _ _) (λ_ _=>rfl)) (@zd _ _ _ _ _ (@zw _ _ _ _ _ _ _ _ _ _ _ d_law_all_letters hr (by lia) O (@zd _ _ _ _ _ (@pw _ 1 _ _ O O) (@zg _) O) (by decide) O O) (@zg _) O) O) (by decide) O O) O) (@Zg _ _ 2 _ w6.nd O (Or.inr O) (by walk_at "f")) (@zo _ _ _ (@qX _ _ _ _ _ _ _ _ (@Zy _ _ _ (@zE _ _ _ _ _ _ _ _ _ (@ZG _ K O O) O gb.all W6 (@zd _ _ _ _ _ (@zO _ ["_law_one", "_law_table_here", "_law_grading"] [none,some 0,some 2] _ _ _ _ _ _ _ _ _ _ (by exact (show zJ ["_law_table_here", "_law_premises", "_law_grading"] (zn QO) ["_law_one", "_law_table_here", "_law_grading"] [none,some 0,some 2] _ from⟨O,by ac_rfl,by ac_rfl,by ac_rfl,by ac_rfl,O,by ac_rfl⟩)) O (@zG _ K _ _ _ (@pw _ 1 _ _ O O) O) (λ_ _ _ _=>(@pgl _ 0 _ _ nd0 O O)) (λ_ _ _ _=>(@qd _)) (λ_ _ _ _=>(@ZB _ _ _ _ _ _ _ _ (@qv _ K O) (@zw _ _ _ _ _ _ _ _ _ _ _ d_law_grade hr (by lia) O (@zd _ _ _ _ _ (@pw _ 1 _ _ O O) (@zd _ _ _ _ _ (@pw _ 0 _ _ O O) (@zd _ _ _ _ _ (@pw _ 2 _ _ O O) (@zg _) O) O) O) (by decide) O O) (@zu _ _ _ _ _ _ _ (@zm _ K O) (@pw _ 1 _ _ O O) (@zk _ _ _ _) (λ_ _=>rfl)) (by with_unfolding_all rfl))) (by intro _;rfl)) (@zg _) O) (by decide) (by decide) O O) (by intro _;rfl)) (@zo _ _ _ (@zF _ _ _ _ (@yQ _ _ _ _))) (@zU _))) (by intro _;rfl)) (@zo _ _ _ (@zF _ _ _ _ (@yQ _ _ _ _)))),?_⟩
 obtain⟨a,w0,c0,vs0,rfl,h1,h2,h3,h4⟩:=id tb
 have m1:=gT.m1
 have m9:=gT.m9
 refine⟨_,O,.inr (.inl ⟨a,_,0,_,O,O,SqT.of h1,O,_,O,?_⟩)⟩
 refine⟨pl,ps,L,O,hp,by lia,(λz hz=>⟨by have:=(hps z hz).2.2.1;lia,by have:=(hps z hz).2.2.2;lia,(hps z hz).1,λx hx=>(hps z hz).2.1.lets_in hx⟩),by lia,λk M H1 s1 hk nd hm=>?_⟩
 have hML:∀ x ∈ M,x ∈ L:=λx hx=>by
  obtain⟨z,hz,hx⟩:=(hm x).mp hx
  exact (hps z hz).2.1.lets_in hx
 have Ml:M.length<=2:=Aa (jJ M L nd hML) l2
 have pM:T.m ^ M.length<=125:=Aa (CL m1 Ml) (Aa (CY m9 2) (by decide))
 refine⟨k,T.m,M,O,m1,m9,hk,nd,by lia,pM,λfl gs H2 s2 hfl es hg=>?_⟩
 have S2:=s1.trans s2
 have rw':∀ z ∈ gs,Tn.Rw T.m M.length z.2:=λz hz=>jN.mp (by rw[<- es];exact AI.mpr ⟨z,hz,rfl⟩)
 refine⟨fl,O,⟨_,SqL.of hfl⟩,?_⟩
 refine qA (xs:=Ja gs) (λi σ H'=>(∃ x2,σ=[some (.ref a),some (.ref pl),x2])/\zD H2 H'/\∀ z ∈ gs.take i,¬ ∀ p ∈ ps.map Prod.snd,grT T (yN M z.2) p ∈ T.ws) ⟨⟨_,O⟩,zD.refl _,λz hz=>by cases hz⟩ (λi σ H' _ h=>SqL.of (h.2.1 _ _ hfl)) ?_ ?_
 ·rintro i x σ H3 hx ⟨⟨x2,rfl⟩,s3,hno⟩
  unfold Ja at hx
  rw[AH] at hx
  obtain⟨z,hz,rfl⟩:=AW.mp hx
  have hzm:=AJ hz
  have S3:=S2.trans s3
  refine⟨_,O,pl,O,⟨_,SqL.of (S3 _ _ hp)⟩,λD hD=>?_⟩
  refine qB ps Prod.fst (λy=>.bl (decide (grT T (yN M z.2) y.2 ∈ T.ws))) (S3 _ _ hp) (by lia) hD (λy hy H' Q' s4 q'=>?_) (λH4 s4 hD4=>?_)
  ·have S4:=S3.trans s4
   have gy:GSt T M y.2:=(hps y hy).2.1.lets.mono λx hx=>(hm x).mpr ⟨y,hy,hx⟩
   refine⟨_,O,_,O,_,O,.ref a,y.1,z.1,y.2,T,M,yN M z.2,O,tb.same S4,gT,nT,(hps y hy).1.same S4,gy,yu ((s3.trans s4) _ _ (hg z hzm)) (rw' z hzm) m1,(by have:=(hps y hy).2.2.1;show _<=11;lia),λH5 s5=>?_⟩
   refine⟨_,O,.inr (.inl ⟨a,_,1,_,O,O,SqT.of ((S4.trans s5) _ _ h1),O,w0,_,O,.inr (SqT.of ((S4.trans s5) _ _ h2)),O,qm _,?_⟩)⟩
   rw[if_neg AS,j7]
   exact q' _ s5
  rw[Wv] at hD4
  have ea:((ps.map λy=>decide (grT T (yN M z.2) y.2 ∈ T.ws)).all id=true) ↔ ∀ p ∈ ps.map Prod.snd,grT T (yN M z.2) p ∈ T.ws:=by
   rw[Ci,Al]
   constructor
   ·intro h p hp'
    obtain⟨y,hy,rfl⟩:=AI.mp hp'
    exact Ar (h y hy)
   ·exact λh y hy=>An (h _ (AI.mpr ⟨y,hy,O⟩))
  refine⟨D,_,O,SqL.of hD4,_,O,Zz (λc=>?_) (λc=>⟨⟨_,O⟩,s3.trans s4,λy hy=>?_⟩)⟩
  ·exact q true H4 (S3.trans s4) ⟨λ_=>⟨yN M z.2,λx=>Yj (rw' z hzm) m1 x,ea.mp c⟩,λ_=>rfl⟩
  ·rw[take_snoc hz] at hy
   rcases AV.mp hy with hy | hy
   ·exact hno y hy
   ·rw[AG.mp hy]
    exact λh=>c (ea.mpr h)
 ·rintro σ H3 ⟨⟨x2,rfl⟩,s3,hno⟩
  unfold Ja at hno
  rw[AB,Ag] at hno
  refine q false H3 (S2.trans s3) ⟨(λz=>by cases z),λ⟨γ,gd,hw⟩=>?_⟩
  have hr:M.map γ ∈ gs.map Prod.snd:=by
   rw[es]
   exact jN.mpr ⟨by rw[AB],λx hx=>by
    obtain⟨y,_,rfl⟩:=AI.mp hx
    exact gd y⟩
  obtain⟨z,hz,ez⟩:=AI.mp hr
  refine absurd (λp hp'=>?_) (hno z hz)
  obtain⟨y,hy,rfl⟩:=AI.mp hp'
  rw[Zd (δ:=γ) λx hx=>by rw[ez,QI ((hm x).mpr ⟨y,hy,hx⟩)]]
  exact hw _ hp'
abbrev Zf:Stmt:=top 55
def qE:zC ["_law_table_here", "_law_numbers_here", "_law_many", "_law_found", "_law_at", "_law_name", "_law_places", "_law_cells_here", "_law_size"] ["_law_table_here", "_law_numbers_here"] (zn Zf):=⟨rfl,rfl,rfl,by ac_rfl,rfl,by ac_rfl,by ac_rfl⟩
def YA (F:Fun K "_law_like" "_law_like" Zf f fd) (gb:Gb mg):ji P w K mg base CX0 1 f fd ["_law_table_here", "_law_numbers_here"] za0:=by
 refine F.ok qE (λvs H Q E h=>?_) (λcdv A outer s H vs Q E hr h=>?_)
 ·obtain⟨v,nl,T,xs,rfl,_⟩:=h
  rfl
 obtain⟨v,nl,T,xs,rfl,tb,gT,c3,hnl,xl,q⟩:=h
 have nd0:(["_law_one", "_law_many"]:List Str).Nodup:=by ac_rfl
 have nd1:(["_law_one", "_law_numbers_here"]:List Str).Nodup:=by ac_rfl
 refine⟨_,(@zh _ _ _ _ _ (@zr _ _ 2 _ _ _ _ qE.nd O (Or.inr O) (@zu _ _ _ _ _ _ _ (@zm _ K O) (@zS _ _ _ _ (@zd _ _ _ _ _ (@zk _ _ _ _) (@zd _ _ _ _ _ (@zk _ _ _ _) (@zd _ _ _ _ _ (@zk _ _ _ _) (@zd _ _ _ _ _ (@zk _ _ _ _) (@zg _) O) O) O) O)) (@zB _ _ _ _ _ _ _ _ (@qK _) (@zu _ _ _ _ _ _ _ (@zm _ K O) (@pw _ 1 _ _ O O) (@zk _ _ _ _) (λ_ _=>rfl)) (@zk _ _ _ _)) (λ_ _=>rfl)) O (by walk_at "f")) (@zh _ _ _ _ _ (@zr _ _ 3 _ _ _ _ qE.nd O (Or.inl O) (@zS _ _ _ _ (@zg _)) O (by walk_at "f")) (@zh _ _ _ _ _ (@zr _ _ 4 _ _ _ _ qE.nd O (Or.inl O) (@zk _ _ _ _) O (by walk_at "f")) (@zh _ _ _ _ _ (@zZ _ _ _ _ _ _ _ _ Ad O (@qW _ K _ _ _ (@zu _ _ _ _ _ _ _ (@zm _ K O) (@pw _ 0 _ _ O O) (@zk _ _ _ _) (λ_ _=>rfl)) O) (@jv _ K _ _ _ _ 3 O (@zI _ _ _ _ _ (@pgl _ 5 _ _ qE.nd O O) (@zI _ _ _ _ _ (@pgl _ 6 _ _ qE.nd O O) (@zI _ _ _ _ _ (@pgl _ 7 _ _ qE.nd O O) (@jt _) O) O) O) O O O) (@zh _ _ _ _ _ (@zr _ _ 8 _ _ _ _ qE.nd O (Or.inl O) (@zu _ _ _ _ _ _ _ (@zm _ K O) (@zS _ _ _ _ (@zd _ _ _ _ _ (@zk _ _ _ _) (@zd _ _ _ _ _ (@pw _ 2 _ _ O O) (@zd _ _ _ _ _ (@zB _ _ _ _ _ _ _ _ (@jG _) (@pw _ 2 _ _ O O) (@pw _ 2 _ _ O O)) (@zg _) O) O) O)) (@pw _ 6 _ _ O O) (λ_ _=>rfl)) O (by walk_at "f")) (@zh _ _ _ _ _ (@qf _ _ _ _ (@qw _ K _ _ _ _ _ _ _ _ _ _ _ AY Aq Ap (@zT _) (@pw _ 3 _ _ O O) (@zd _ _ _ _ _ (@ql _ _ _ _ _ (@zd _ _ _ _ _ (@pw _ 5 _ _ O O) (@zd _ _ _ _ _ (@pw _ 6 _ _ O O) (@zd _ _ _ _ _ (@zy _ _ _ _ _ _ _ _ _ (@zx _ K O) O gb.tuple qk (@zd _ _ _ _ _ (@zO _ ["_law_one", "_law_many"] [none,some 2] _ _ _ _ _ _ _ _ _ _ (by exact (show zJ ["_law_table_here", "_law_numbers_here", "_law_many", "_law_found", "_law_at", "_law_name", "_law_places", "_law_cells_here", "_law_size"] (zn Zf) ["_law_one", "_law_many"] [none,some 2] _ from⟨O,by ac_rfl,by ac_rfl,by ac_rfl,by ac_rfl,O,by ac_rfl⟩)) O (@zG _ K _ _ _ (@qQ _ _ _ _ _ _ _ _ _ _ (@ZF _ K O) (@pw _ 1 _ _ O O) (@qV _ _ _ (@pw _ 4 _ _ O O)) (@qV _ _ _ (@zB _ _ _ _ _ _ _ _ (@qt _) (@pw _ 4 _ _ O O) (@pw _ 8 _ _ O O)))) O) (λ_ _ _ _=>(@pgl _ 0 _ _ nd0 O O)) (λ_ _ _ _=>(@qd _)) (λ_ _ _ _=>(@zB _ _ _ _ _ _ _ _ (@qK _) (@pw _ 0 _ _ O O) (@pw _ 1 _ _ O O))) (by intro _;rfl)) (@zg _) O) (by decide) (by decide) O O) (@zg _) O) O) O)) (@zg _) O) O O O O O O) O) (@zo _ _ _ (@zr _ _ 4 _ _ _ _ qE.nd O (Or.inl O) (@zB _ _ _ _ _ _ _ _ (@qt _) (@pw _ 4 _ _ O O) (@pw _ 8 _ _ O O)) O (by walk_at "f"))))) (by intro _;rfl)) (@zo _ _ _ (@zF _ _ _ _ (@ql _ _ _ _ _ (@zd _ _ _ _ _ (@pw _ 2 _ _ O O) (@zd _ _ _ _ _ (@zy _ _ _ _ _ _ _ _ _ (@zx _ K O) O gb.tuple qk (@zd _ _ _ _ _ (@zO _ ["_law_one", "_law_numbers_here"] [none,some 1] _ _ _ _ _ _ _ _ _ _ (by exact (show zJ ["_law_table_here", "_law_numbers_here", "_law_many", "_law_found", "_law_at", "_law_name", "_law_places", "_law_cells_here", "_law_size"] (zn Zf) ["_law_one", "_law_numbers_here"] [none,some 1] _ from⟨O,by ac_rfl,by ac_rfl,by ac_rfl,by ac_rfl,O,by ac_rfl⟩)) O (@zR _ _ _ _ _ _ O gb.range (@zd _ _ _ _ _ (@pw _ 2 _ _ O O) (@zg _) O) O) (λ_ _ _ _=>(@pgl _ 0 _ _ nd1 O O)) (λ_ _ _ _=>(@Jw _ _ _ (@zH _ _ _ _ _ _ _ _ (@Qi _) (@zB _ _ _ _ _ _ _ _ (@op_and _) (@zB _ _ _ _ _ _ _ _ (@op_shr _) (@zu _ _ _ _ _ _ _ (@zm _ K O) (@pw _ 1 _ _ O O) (@zk _ _ _ _) (λ_ _=>rfl)) (@pw _ 0 _ _ O O)) (@zk _ _ _ _)) (@zk _ _ _ _) (@qi _ _ (by decide) (by decide))))) (λ_ _ _ _=>(@pw _ 0 _ _ O O)) (by intro _;rfl)) (@zg _) O) (by decide) (by decide) O O) (@zd _ _ _ _ _ (@zy _ _ _ _ _ _ _ _ _ (@zx _ K O) O gb.tuple qk (@zd _ _ _ _ _ (@pw _ 3 _ _ O O) (@zg _) O) (by decide) (by decide) O O) (@zg _) O) O) O)))))))),?_⟩
 obtain⟨a,w0,c0,vs0,rfl,h1,h2,h3,h4⟩:=id tb
 have hvl:=h4.len
 have at_x:∀ j:Nat,j < 40->∃ x,atI (xs.map nV) (j:Int)=some (nV x):=λj hj=>⟨_,jM (by lia)⟩
 obtain⟨x0,hx0⟩:=at_x 0 (by decide)
 obtain⟨m,em,m1,m3⟩:=four x0
 refine⟨zt (by show 4<=1000;decide),λl0 hl0=>?_⟩
 have n0:=zf hl0 (.lst [.int 1,.int 2,.int 3,.int 2])
 refine⟨_,O,.inl ⟨nl,_,0,_,O,O,SqL.of (n0 _ _ hnl),hx0,_,_,O,O,(show (0:Int) < 4 by decide),.inl ⟨l0,_,_,_,O,O,SqL.of ze,em,?_⟩⟩⟩
 refine⟨zt (by show 0<=1000;decide),λfd hfd=>?_⟩
 have n1:=zf hfd (.lst [])
 have S1:=n0.trans n1
 have hfd0:=n0.free hfd
 refine⟨_,O,.inr (.inl ⟨a,_,2,_,O,O,SqT.of (S1 _ _ h1),O,c0,O,⟨_,SqT.of (S1 _ _ h3)⟩,?_⟩)⟩
 refine ZA (xs:=vs0) (λi σ H'=>∃ (p:Nat) (x5 x6 x7 x8:Option V) (cs:List Cn) (vs:List V),σ=[some (.ref a),some (.ref nl),some (nV m),some (.ref fd),some (nV p),x5,x6,x7,x8]/\zD H H'/\H' fd=some (.lst vs)/\Cns H' cs vs/\(cs.map λc=>(c.nm,c.pl))=(T.cs.take i).map (λc=>(c.nm,c.pl))/\p<=2+9 * i/\∀ c ∈ cs,c.nm.length<=100/\c.pl<=2/\Tn.Cs m c.pl c.cs) ⟨2,none,none,none,none,[],[],rfl,S1,ze,.nil,rfl,AM _,λc hc=>by cases hc⟩ (λi σ H' _ h=>by obtain⟨_,_,_,_,_,_,_,_,s,_⟩:=h;exact SqT.of (s _ _ h3)) ?_ ?_
 ·rintro i x σ H4 hx ⟨p,x5,x6,x7,x8,cs,vs,rfl,s4,hf4,hC,hnm,hp,hcn⟩
  have hi:i < vs0.length:=(AF.mp hx).1
  have hc:T.cs[i]? = some T.cs[i]:=AD (by lia)
  have hcm:=AJ hc
  generalize T.cs[i]=ci at hc hcm
  obtain⟨t,u,e1,e2,e3⟩:=h4.get hc
  rw[hx] at e1
  cases e1
  obtain⟨g1,g2,g3⟩:=gT.cn ci hcm
  have csl:cs.length=i:=by
   have:=BQ List.length hnm
   rw[AB,AB,Ai] at this
   lia
  have hvs:=hC.len
  have p9:m ^ ci.pl<=9:=Aa (CY m3 ci.pl) (by
   match ci.pl,g2 with
   | 0,_=>decide
   | 1,_=>decide
   | 2,_=>decide)
  refine⟨t,_,O,SqT.of (s4 _ _ e2),O,_,_,O,_,_,O,_,_,O,O,?_⟩
  refine⟨_,O,_,O,_,O,_,_,O,O,.inl ⟨by lia,by lia⟩,zt (by show 3<=1000;decide),λp2 hp2=>⟨_,O,.inl ⟨p2,_,_,_,O,O,SqL.of ze,size3 m g2,?_⟩⟩⟩
  have k2:=zf hp2 (.lst [.int 1,nV m,.int ((m:Int) * (m:Int))])
  have hf7:=k2 _ _ hf4
  have hnl7:=(s4.trans k2) _ _ hnl
  generalize upd H4 p2 (.lst [.int 1,nV m,.int ((m:Int) * (m:Int))])=H7 at *
  refine⟨_,O,.inl ⟨O,_,SqL.of hf7⟩,_,O,_,O,_,O,_,O,_,O,_,O,_,O,_,_,O,O,_,O,.inl ⟨nl,_,O,SqL.of hnl7,λl4 hl4=>?_⟩⟩
  dsimp only
  rw[cut_run xs p (m ^ ci.pl) (by lia)]
  generalize hcc:(xs.drop p).take (m ^ ci.pl)=zc
  have zl:zc.length=m ^ ci.pl:=by rw[<- hcc,Ai,CA];lia
  have k3:=zf hl4 (.lst (zc.map nV))
  refine⟨l4,O,⟨_,SqL.of ze⟩,λE hE=>?_⟩
  refine qB zc nV (λz=>nV (z % m)) ze (by lia) hE (λz hz H' Q' s7 q'=>?_) (λH8 s8 hE8=>?_)
  ·exact⟨_,O,_,O,_,_,O,O,(show (0:Int) < (m:Int) by lia),q' H' zD.rfl'⟩
  rw[show (zc.map λz=>nV (z % m))=(zc.map (· % m)).map nV by rw[Ak];rfl] at hE8
  refine⟨E,_,O,.inl ⟨SqL.of hE8,λtu htu=>?_⟩⟩
  have k4:=zf htu (.tup ((zc.map (· % m)).map nV))
  refine⟨zt (by show 3<=1000;decide),λtt htt=>?_⟩
  have k5:=zf htt (.tup [.str ci.nm,nV ci.pl,.ref tu])
  have K8:=k3.trans (s8.trans (k4.trans k5))
  have hf9:=K8 _ _ hf7
  have KK:=k2.trans K8
  refine⟨fd,_,_,O,O,hf9,zq (by lia),_,O,_,O,_,_,O,O,?_⟩
  refine⟨p+m ^ ci.pl,_,_,_,_,cs++[⟨ci.nm,ci.pl,zc.map (· % m)⟩],_,O,(s4.trans KK).put hfd0,ze,Cns.snoc (c:=⟨ci.nm,ci.pl,zc.map (· % m)⟩) (Cns.tk ((Tk.of KK).trans (Tk.put hf9)) hC) (Tk.put hf9 _ _ ze) (Tk.put hf9 _ _ (k5 _ _ ze)),?_,by lia,λc hc'=>?_⟩
  ·rw[AK,hnm,take_snoc hc,AK]
   rfl
  ·rcases AV.mp hc' with h | h
   ·exact hcn c h
   ·rw[AG.mp h]
    refine⟨g1,g2,by rw[AB];exact zl,λx hx=>?_⟩
    obtain⟨z,_,rfl⟩:=AI.mp hx
    exact BZ _ m1
 ·rintro σ H4 ⟨p,x5,x6,x7,x8,cs,vs,rfl,s4,hf4,hC,hnm,hp,hcn⟩
  rw[<- hvl,Ag] at hnm
  have csl:cs.length=T.cs.length:=by
   have:=BQ List.length hnm
   rwa [AB,AB] at this
  obtain⟨y1,hy1⟩:=at_x 1 (by decide)
  refine⟨_,O,_,O,(m:Int),O,by lia,by lia,λD hD=>?_⟩
  rw[Av]
  refine qL (λi ys H'=>zD H4 H'/\∃ ws:List Nat,ys=ws.map nV/\ws.Pairwise (· < ·)/\(∀ x ∈ ws,x < i)/\ws.length<=i) ⟨zf hD _,[],O,.nil,(λx hx=>by cases hx),AM _⟩ ?_ ?_
  ·rintro i ys H5 hi ⟨s5,ws,rfl,pw,wb,wl⟩ hD5
   refine⟨_,O,.inl ⟨nl,_,1,_,O,O,SqL.of ((s4.trans s5) _ _ hnl),hy1,_,O,_,_,O,O,(show (0:Int)<=0+(i:Int) by lia),_,_,O,O,O,_,O,Zz (λ_=>?_) (λ_=>?_)⟩⟩
   ·refine⟨_,O,Q6 hi jj hD5 (by rw[AB];exact zq (by lia)) ⟨s5.put hD,ws++[i],?_,?_,?_,by rw[AL];exact Cy wl⟩⟩
    ·rw[AK,BS]
     rfl
    ·exact B1.mpr ⟨pw,DA _ _,λa ha b hb=>by rw[AG.mp hb];exact wb a ha⟩
    ·intro x hx
     rcases AV.mp hx with hx | hx
     ·exact BF (wb x hx)
     ·rw[AG.mp hx];exact BV _
   ·exact cno hi jj hD5 ⟨s5,ws,O,pw,(λx hx=>BF (wb x hx)),Cp wl⟩
  rintro ys H5 ⟨s5,wz,rfl,pw,wb,wl⟩ hD5
  refine⟨D,_,O,.inl ⟨SqL.of hD5,λtw htw=>?_⟩⟩
  have k3:=zf htw (.tup (wz.map nV))
  refine⟨_,O,fd,_,O,.inl ⟨SqL.of ((s5.trans k3) _ _ hf4),λtc htc=>⟨zt (by show 3<=1000;decide),λt ht=>?_⟩⟩⟩
  have k4:=zf htc (.tup vs)
  have k5:=zf ht (.tup [nV m,.ref tw,.ref tc])
  have K5:=s5.trans (k3.trans (k4.trans k5))
  exact q (.ref t) ⟨m,wz,cs⟩ _ (s4.trans K5) ⟨t,tw,tc,vs,O,ze,(k4.trans k5) _ _ ze,k5 _ _ ze,Cns.same K5 hC⟩ ⟨m1,by show m<=9;lia,pw,wb,by show cs.length<=16;lia,hcn⟩ hnm.symm m3
abbrev j4:Stmt:=top 56
def qq:zC ["_law_table_here", "_law_number", "_law_found", "_law_step", "_law_name", "_law_places", "_law_cells_here", "_law_one"] ["_law_table_here", "_law_number"] (zn j4):=⟨rfl,rfl,rfl,by ac_rfl,rfl,by ac_rfl,by ac_rfl⟩
def WP (F:Fun K "_law_closed" "_law_closed" j4 f fd) (gb:Gb mg):ji P w K mg base CX0 1 f fd ["_law_table_here", "_law_number"] Yu:=by
 refine F.ok qq (λvs H Q E h=>?_) (λcdv A outer s H vs Q E hr h=>?_)
 ·obtain⟨v,T,n,rfl,_⟩:=h
  rfl
 obtain⟨v,T,n,rfl,tb,gT,m3,c3,q⟩:=h
 have nd0:(["_law_other", "_law_cells_here", "_law_one", "_law_table_here"]:List Str).Nodup:=by ac_rfl
 refine⟨_,(@zh _ _ _ _ _ (@zr _ _ 2 _ _ _ _ qq.nd O (Or.inl O) (@zS _ _ _ _ (@zd _ _ _ _ _ (@zB _ _ _ _ _ _ _ _ (@qK _) (@pw _ 1 _ _ O O) (@zu _ _ _ _ _ _ _ (@zm _ K O) (@pw _ 0 _ _ O O) (@zk _ _ _ _) (λ_ _=>rfl))) (@zg _) O)) O (by walk_at "f")) (@zh _ _ _ _ _ (@zZ _ _ _ _ _ _ _ _ Ad O (@zR _ _ _ _ _ _ O gb.range (@zd _ _ _ _ _ (@zB _ _ _ _ _ _ _ _ (@qt _) (@zu _ _ _ _ _ _ _ (@zm _ K O) (@pw _ 0 _ _ O O) (@zk _ _ _ _) (λ_ _=>rfl)) (@zk _ _ _ _)) (@zg _) O) O) (@pgl _ 3 _ _ qq.nd O O) (@zo _ _ _ (@zZ _ _ _ _ _ _ _ _ Ad O (@qW _ K _ _ _ (@zu _ _ _ _ _ _ _ (@zm _ K O) (@pw _ 0 _ _ O O) (@zk _ _ _ _) (λ_ _=>rfl)) O) (@jv _ K _ _ _ _ 3 O (@zI _ _ _ _ _ (@pgl _ 4 _ _ qq.nd O O) (@zI _ _ _ _ _ (@pgl _ 5 _ _ qq.nd O O) (@zI _ _ _ _ _ (@Zg _ _ 6 _ qq.nd O (Or.inr O) (by walk_at "f")) (@jt _) O) O) O) O O O) (@zh _ _ _ _ _ (@qX _ _ _ _ _ _ _ _ (@zH _ _ _ _ _ _ _ _ (@Qi _) (@pw _ 5 _ _ O O) (@zk _ _ _ _) (@qi _ _ (by decide) (by decide))) (@zo _ _ _ (@qf _ _ _ _ (@qw _ K _ _ _ _ _ _ _ _ _ _ _ AY Aq Ap (@zT _) (@pw _ 2 _ _ O O) (@zd _ _ _ _ _ (@zu _ _ _ _ _ _ _ (@zm _ K O) (@pw _ 6 _ _ O O) (@zk _ _ _ _) (λ_ _=>rfl)) (@zg _) O) O O O O O O) O)) (@zU _)) (@zo _ _ _ (@zZ _ _ _ _ _ _ _ _ Ad O (@zG _ K _ _ _ (@zE _ _ _ _ _ _ _ _ _ (@jc _ O) O gb.sorted jK (@zd _ _ _ _ _ (@zy _ _ _ _ _ _ _ _ _ (@Zc _ K O O) O gb.set Jz (@zd _ _ _ _ _ (@pw _ 2 _ _ O O) (@zg _) O) (by decide) (by decide) O O) (@zg _) O) (by decide) (by decide) O O) O) (@Zg _ _ 7 _ qq.nd O (Or.inr O) (by walk_at "f")) (@zh _ _ _ _ _ (@qX _ _ _ _ _ _ _ _ (@zH _ _ _ _ _ _ _ _ (@Qi _) (@pw _ 5 _ _ O O) (@zk _ _ _ _) (@qi _ _ (by decide) (by decide))) (@zo _ _ _ (@qf _ _ _ _ (@qw _ K _ _ _ _ _ _ _ _ _ _ _ AY Aq Ap (@zT _) (@pw _ 2 _ _ O O) (@zd _ _ _ _ _ (@zu _ _ _ _ _ _ _ (@zm _ K O) (@pw _ 6 _ _ O O) (@pw _ 7 _ _ O O) (λ_ _=>rfl)) (@zg _) O) O O O O O O) O)) (@zU _)) (@zo _ _ _ (@qX _ _ _ _ _ _ _ _ (@zH _ _ _ _ _ _ _ _ (@Qi _) (@pw _ 5 _ _ O O) (@zk _ _ _ _) (@qi _ _ (by decide) (by decide))) (@zo _ _ _ (@zr _ _ 2 _ _ _ _ qq.nd O (Or.inl O) (@zB _ _ _ _ _ _ _ _ (@Ju _) (@pw _ 2 _ _ O O) (@zO _ ["_law_other", "_law_cells_here", "_law_one", "_law_table_here"] [none,some 6,some 7,some 0] _ _ _ _ _ _ _ _ _ _ (by exact (show zJ ["_law_table_here", "_law_number", "_law_found", "_law_step", "_law_name", "_law_places", "_law_cells_here", "_law_one"] (zn j4) ["_law_other", "_law_cells_here", "_law_one", "_law_table_here"] [none,some 6,some 7,some 0] _ from⟨O,by ac_rfl,by ac_rfl,by ac_rfl,by ac_rfl,O,by ac_rfl⟩)) O (@zG _ K _ _ _ (@zE _ _ _ _ _ _ _ _ _ (@jc _ O) O gb.sorted jK (@zd _ _ _ _ _ (@zy _ _ _ _ _ _ _ _ _ (@Zc _ K O O) O gb.set Jz (@zd _ _ _ _ _ (@pw _ 2 _ _ O O) (@zg _) O) (by decide) (by decide) O O) (@zg _) O) (by decide) (by decide) O O) O) (λ_ _ _ _=>(@pgl _ 0 _ _ nd0 O O)) (λ_ _ _ _=>(@qd _)) (λ_ _ _ _=>(@zu _ _ _ _ _ _ _ (@zm _ K O) (@pw _ 1 _ _ O O) (@zB _ _ _ _ _ _ _ _ (@qt _) (@zB _ _ _ _ _ _ _ _ (@jG _) (@pw _ 2 _ _ O O) (@zu _ _ _ _ _ _ _ (@zm _ K O) (@pw _ 3 _ _ O O) (@zk _ _ _ _) (λ_ _=>rfl))) (@pw _ 0 _ _ O O)) (λ_ _=>rfl))) (by intro _;rfl))) O (by walk_at "f"))) (@zU _)))) (by intro _;rfl)))) (by intro _;rfl))) (by intro _;rfl)) (@zo _ _ _ (@zF _ _ _ _ (@zy _ _ _ _ _ _ _ _ _ (@zx _ K O) O gb.tuple qk (@zd _ _ _ _ _ (@zE _ _ _ _ _ _ _ _ _ (@jc _ O) O gb.sorted jK (@zd _ _ _ _ _ (@zy _ _ _ _ _ _ _ _ _ (@Zc _ K O O) O gb.set Jz (@zd _ _ _ _ _ (@pw _ 2 _ _ O O) (@zg _) O) (by decide) (by decide) O O) (@zg _) O) (by decide) (by decide) O O) (@zg _) O) (by decide) (by decide) O O))))),?_⟩
 obtain⟨a,w0,c0,vs0,rfl,h1,h2,h3,h4⟩:=id tb
 have hvl:=h4.len
 have m1:=gT.m1
 refine⟨_,O,_,O,.inr (.inl ⟨a,_,0,_,O,O,SqT.of h1,O,_,_,O,O,(show (0:Int) < (T.m:Int) by lia),zt (by show 1<=1000;decide),λf0 hf0=>?_⟩)⟩
 have n0:=zf hf0 (.lst [nV (n % T.m)])
 have nlt:=BZ n m1
 refine⟨_,O,.inr (.inl ⟨a,_,0,_,O,O,SqT.of (n0 _ _ h1),O,_,_,O,O,(T.m:Int)+1,O,by lia,by lia,?_⟩)⟩
 rw[show ((T.m:Int)+1).toNat=T.m+1 by lia]
 refine qY (λk σ H'=>∃ (f:Addr) (x3 x4 x5 x6 x7:Option V) (fs:List Nat),σ=[some (.ref a),some (nV n),some (.ref f),x3,x4,x5,x6,x7]/\zD H H'/\H f=none/\H' f=some (.lst (fs.map nV))/\(∀ x ∈ fs,x < T.m)/\0 < fs.length/\fs.length<=1+30 * k/\Gd97 T k fs) ⟨f0,none,none,none,none,none,[n % T.m],O,n0,hf0,ze,(λx hx=>by rw[AG.mp hx];exact nlt),Nat.zero_lt_one,AM _,.inl (BA _)⟩ ?_ ?_
 ·rintro k σ H1 hk ⟨f,x3,x4,x5,x6,x7,fs,rfl,s1,hf,hf1,flt,fne,fl,gd⟩
  refine⟨_,O,.inr (.inl ⟨a,_,2,_,O,O,SqT.of (s1 _ _ h1),O,c0,O,⟨_,SqT.of (s1 _ _ h3)⟩,?_⟩)⟩
  refine ZA (xs:=vs0) (λi σ H'=>∃ (f:Addr) (x4 x5 x6 x7:Option V) (gs:List Nat),σ=[some (.ref a),some (nV n),some (.ref f),some (.int (0+(k:Int))),x4,x5,x6,x7]/\zD H H'/\H f=none/\H' f=some (.lst (gs.map nV))/\(∀ x ∈ gs,x < T.m)/\gs.length<=fs.length+10 * i/\Rnd T (T.cs.take i) fs gs) ⟨f,_,_,_,_,fs,rfl,s1,hf,hf1,flt,AM _,⟨λx h=>h,(λc hc=>by cases hc),λX _ h=>h⟩⟩ (λi σ H' _ h=>by obtain⟨_,_,_,_,_,_,_,s,_⟩:=h;exact SqT.of (s _ _ h3)) ?_ ?_
  ·rintro i x σ H2 hx ⟨f,x4,x5,x6,x7,gs,rfl,s2,hf0',hf2,glt,gl,rnd⟩
   have hi:i < vs0.length:=(AF.mp hx).1
   have hc:T.cs[i]? = some T.cs[i]:=AD (by lia)
   have hcm:=AJ hc
   generalize T.cs[i]=ci at hc hcm
   obtain⟨t,u,e1,e2,e3⟩:=h4.get hc
   rw[hx] at e1
   cases e1
   obtain⟨g1,g2,g3⟩:=gT.cn ci hcm
   refine⟨t,_,O,SqT.of (s2 _ _ e2),O,_,_,O,_,_,O,_,_,O,O,?_⟩
   have q1:∀ k:Int,(ci.pl:Int) ≠ k->¬ (decide (nV ci.pl=V.int k)=true):=λk hk z=>hk (V.int.inj (Ar z))
   have q2:∀ k:Nat,ci.pl=k->decide (nV ci.pl=V.int (k:Int))=true:=λk hk=>An (by rw[hk])
   refine hide (R:=?R1) (D:=?D1) (P:=λR D=>∀ (H3:Hp) (gs':List Nat),zD H H3->H3 f=some (.lst (gs'.map nV))->(∀ x ∈ gs',x < T.m)->gs'.length<=gs.length+1->(∀ x ∈ gs,x ∈ gs')->(ci.pl=0->Tn.at' ci.cs 0 ∈ gs')->(∀ X,ClX T X->(∀ x ∈ gs,X x)->∀ x ∈ gs',X x)->R D [some (.ref a),some (nV n),some (.ref f),some (.int (0+(k:Int))),some (.str ci.nm),some (nV ci.pl),some (.ref u),x7] H3) (λrest=>?m1) ?r1
   case m1=>
    by_cases p0:ci.pl=0
    ·refine⟨_,O,O,_,O,Zz (λ_=>?ta) (λz=>absurd (q2 0 p0) z)⟩
     case ta=>
      have l1:0 < ci.cs.length:=by rw[g3.len,p0,EL];exact Nat.zero_lt_one
      refine⟨_,O,.inl ⟨O,_,SqL.of hf2⟩,_,O,.inr (.inl ⟨u,_,0,_,O,O,SqT.of (s2 _ _ e3),jM (i:=0) l1,f,_,_,O,O,hf2,by rw[AB];exact zq (by lia),?_⟩)⟩
      refine rest _ (gs++[Tn.at' ci.cs 0]) (s2.put hf0') (by rw[ze,AK]) (λx hx=>?_) (by simp) (λx hx=>Ao _ hx) (λ_=>Ae _ (AG.mpr rfl)) λX hX hg x hx=>?_
      ·rcases AV.mp hx with hx | hx
       ·exact glt x hx
       ·rw[AG.mp hx];exact g3.at_lt (by rw[<- g3.len];exact l1)
      ·rcases AV.mp hx with hx | hx
       ·exact hg x hx
       ·rw[AG.mp hx]
        exact hX ci hcm [] p0.symm λx hx=>by cases hx
    ·refine⟨_,O,O,_,O,Zz (λz=>absurd z (q1 0 (by lia))) (λ_=>?fa)⟩
     case fa=>exact rest H2 gs s2 hf2 glt (CM _) (λx hx=>hx) (λz=>absurd z p0) λX _ h=>h
   case r1=>
    intro H3 gs' s3 hf3 glt' gl' gsub gz gmin
    refine⟨_,O,f,gs',O,SqL.of hf3,(λy hy=>Ac (glt' y hy) (by lia)),λsa ds hsa nd hds=>?_⟩
    refine⟨sa,ds,O,ze,λk2 ms hk2 pm so=>?_⟩
    have hms:∀ x,x ∈ ms ↔ x ∈ gs':=λx=>by rw[pm.mem_iff,hds]
    have ml:ms.length<=3:=Aa (Tn.nodup_len T.m ms (pm.nodup_iff.mpr nd) λx hx=>glt' x ((hms x).mp hx)) m3
    refine⟨k2,O,⟨_,SqL.of ze⟩,?_⟩
    refine qA (xs:=ms.map nV) (λj σ H'=>∃ (f:Addr) (x7:Option V) (hs:List Nat),σ=[some (.ref a),some (nV n),some (.ref f),some (.int (0+(k:Int))),some (.str ci.nm),some (nV ci.pl),some (.ref u),x7]/\zD H H'/\H' k2=some (.lst (ms.map nV))/\f ≠ k2/\H f=none/\H' f=some (.lst (hs.map nV))/\(∀ x ∈ hs,x < T.m)/\hs.length<=gs'.length+3 * j/\(∀ x ∈ gs',x ∈ hs)/\(ci.pl=1->∀ x ∈ ms.take j,Tn.at' ci.cs x ∈ hs)/\(ci.pl=2->∀ x ∈ ms.take j,∀ y ∈ gs',Tn.at' ci.cs (x * T.m+y) ∈ hs)/\∀ X,ClX T X->(∀ x ∈ gs',X x)->∀ x ∈ hs,X x) ⟨f,_,gs',rfl,s3.trans ((zf hsa _).trans (zf hk2 _)),ze,zL ((zf hsa _) _ _ hf3) hk2,hf0',(zf hk2 _) _ _ ((zf hsa _) _ _ hf3),glt',AM _,(λx h=>h),(λ_ x hx=>by cases hx),(λ_ x hx=>by cases hx),λX _ h=>h⟩ (λj σ H' _ h=>by obtain⟨_,_,_,_,_,hk,_⟩:=h;exact SqL.of hk) ?_ ?_
    ·rintro j x σ H5 hx5 ⟨f,y7,hs,rfl,s5,hk5,fk,hff,hf5,hlt,hl,hsub,hp1,hp2,hmin⟩
     rw[AH] at hx5
     obtain⟨o,ho,rfl⟩:=AW.mp hx5
     have hj:j < ms.length:=(AF.mp ho).1
     have hog:=(hms o).mp (AJ ho)
     have olt:=glt' o hog
     have hu5:=s5 _ _ e3
     have mst:∀ y ∈ ms.take (j+1),y ∈ ms.take j\/y=o:=λy hy=>by
      rw[take_snoc ho] at hy
      rcases AV.mp hy with hy | hy
      ·exact .inl hy
      ·exact .inr (AG.mp hy)
     have hp3:ci.pl=0\/ci.pl=1\/ci.pl=2:=by lia
     rcases hp3 with p0 | p1 | p2
     ·refine⟨_,O,O,_,O,Zz (λz=>absurd z (q1 1 (by lia))) (λ_=>?fa)⟩
      case fa=>
       refine⟨_,O,O,_,O,Zz (λz=>absurd z (q1 2 (by lia))) (λ_=>?fb)⟩
       case fb=>exact⟨f,_,hs,O,s5,hk5,fk,hff,hf5,hlt,by lia,hsub,(λz=>absurd z (by lia)),(λz=>absurd z (by lia)),hmin⟩
     ·have ol1:o < ci.cs.length:=by rw[g3.len,p1,C9];exact olt
      refine⟨_,O,O,_,O,Zz (λ_=>?ta) (λz=>absurd (q2 1 p1) z)⟩
      case ta=>
       refine⟨_,O,.inl ⟨O,_,SqL.of hf5⟩,_,O,_,O,.inr (.inl ⟨u,_,_,_,O,O,SqT.of hu5,jM ol1,f,_,_,O,O,hf5,by rw[AB];exact zq (by lia),?_⟩)⟩
       refine⟨_,O,O,_,O,Zz (λz=>absurd z (q1 2 (by lia))) (λ_=>?fb)⟩
       case fb=>
        refine⟨f,_,hs++[Tn.at' ci.cs o],O,s5.put hff,by rw[zK (Aw fk)];exact hk5,fk,hff,by rw[ze,AK];rfl,λx hx=>?_,by rw[AL,List.length_singleton];lia,(λx hx=>Ao _ (hsub x hx)),(λ_ x hx=>?_),(λz=>absurd z (by lia)),λX hX hg x hx=>?_⟩
        ·rcases AV.mp hx with hx | hx
         ·exact hlt x hx
         ·rw[AG.mp hx];exact g3.at_lt (by rw[<- g3.len];exact ol1)
        ·rcases mst x hx with hx | rfl
         ·exact Ao _ (hp1 p1 x hx)
         ·exact Ae _ (AG.mpr rfl)
        ·rcases AV.mp hx with hx | hx
         ·exact hmin X hX hg x hx
         ·rw[AG.mp hx]
          have:=hX ci hcm [o] p1.symm λx hx=>by rw[AG.mp hx];exact hg o hog
          simpa [Tn.place] using this
     ·have cl2:ci.cs.length=T.m ^ 2:=by rw[g3.len,p2]
      refine⟨_,O,O,_,O,Zz (λz=>absurd z (q1 1 (by lia))) (λ_=>?fa)⟩
      case fa=>
       refine⟨_,O,O,_,O,Zz (λ_=>?tb) (λz=>absurd (q2 2 p2) z)⟩
       case tb=>
        refine⟨_,O,_,O,f,hs,O,SqL.of hf5,(λy hy=>Ac (hlt y hy) (by lia)),λsb es hsb ne2 hes=>⟨sb,es,O,ze,λk3 ns3 hk3 pm3 so3=>⟨k3,O,⟨_,SqL.of ze⟩,λD hD=>?_⟩⟩⟩
        have hns:∀ x,x ∈ ns3 ↔ x ∈ hs:=λx=>by rw[pm3.mem_iff,hes]
        have nl3:ns3.length<=3:=Aa (Tn.nodup_len T.m ns3 (pm3.nodup_iff.mpr ne2) λx hx=>hlt x ((hns x).mp hx)) m3
        have S6:=s5.trans ((zf hsb _).trans (zf hk3 (.lst (ns3.map nI))))
        refine qB ns3 nV (λy=>nV (Tn.at' ci.cs (o * T.m+y))) ze (by lia) hD (λy hy H' Q' s6 q'=>?_) (λH6 s6 hD6=>?_)
        ·have S7:=S6.trans s6
         exact⟨_,O,_,O,_,O,.inr (.inl ⟨a,_,0,_,O,O,SqT.of (S7 _ _ h1),O,_,_,O,O,.inr ⟨by lia,by lia⟩,_,O,_,_,O,O,.inr (.inl ⟨u,_,_,_,O,O,SqT.of (S7 _ _ e3),at_sq cl2 olt (hlt y ((hns y).mp hy)),q' H' zD.rfl'⟩)⟩)⟩
        have S7:=S6.trans s6
        have T7:=(zf hsb _).trans ((zf hk3 _).trans s6)
        refine⟨f,D,_,_,O,O,T7 _ _ hf5,hD6,by rw[AB,AB];exact zt (by lia),λl3 hl3=>?_⟩
        refine⟨l3,_,hs++ns3.map (λy=>Tn.at' ci.cs (o * T.m+y)),O,S7.trans (zf hl3 _),(zf hl3 _) _ _ (T7 _ _ hk5),Aw (zL (T7 _ _ hk5) hl3),S7.free hl3,by rw[ze,AK,Ak];rfl,λx hx=>?_,by rw[AL,AB];lia,(λx hx=>Ao _ (hsub x hx)),(λz=>absurd z (by lia)),(λ_ x hx y hy=>?_),λX hX hg x hx=>?_⟩
        ·rcases AV.mp hx with hx | hx
         ·exact hlt x hx
         ·obtain⟨y,hy,rfl⟩:=AI.mp hx
          exact g3.at_lt (by rw[p2];exact sq_lt olt (hlt y ((hns y).mp hy)))
        ·rcases mst x hx with hx | rfl
         ·exact Ao _ (hp2 p2 x hx y hy)
         ·exact Ae _ (AI.mpr ⟨y,(hns y).mpr (hsub y hy),O⟩)
        ·rcases AV.mp hx with hx | hx
         ·exact hmin X hX hg x hx
         ·obtain⟨y,hy,rfl⟩:=AI.mp hx
          have:=hX ci hcm [o,y] p2.symm λx hx=>by
           rcases AX.mp hx with rfl | hx
           ·exact hg _ hog
           ·rw[AG.mp hx];exact hmin X hX hg y ((hns y).mp hy)
          simpa [Tn.place] using this
    ·rintro σ H5 ⟨f,y7,hs,rfl,s5,hk5,fk,hff,hf5,hlt,hl,hsub,hp1,hp2,hmin⟩
     rw[AB] at hl hp1 hp2
     rw[Ag] at hp1 hp2
     refine⟨f,_,_,_,_,hs,O,s5,hff,hf5,hlt,by lia,?_⟩
     rw[take_snoc hc]
     refine rnd.snoc ⟨λx hx=>hsub x (gsub x hx),λc hc' r rl hr=>?_,λX hX hg=>hmin X hX (gmin X hX hg)⟩
     rw[AG.mp hc'] at rl ⊢
     have hp3:ci.pl=0\/ci.pl=1\/ci.pl=2:=by lia
     rcases hp3 with p0 | p1 | p2
     ·rw[p0] at rl
      rw[Bp.mp rl]
      exact hsub _ (gz p0)
     ·rw[p1] at rl
      match r,rl with
      | [x],_=>
       have:=hp1 p1 x ((hms x).mpr (gsub x (hr x (by simp))))
       simpa [Tn.place] using this
     ·rw[p2] at rl
      match r,rl with
      | [x,y],_=>
       have:=hp2 p2 x ((hms x).mpr (gsub x (hr x (by simp)))) y (gsub y (hr y (by simp)))
       simpa [Tn.place] using this
  ·rintro σ H2 ⟨f,x4,x5,x6,x7,gs,rfl,s2,hf0',hf2,glt,gl,rnd⟩
   rw[<- hvl,Ag] at rnd
   refine⟨f,_,_,_,_,_,gs,O,s2,hf0',hf2,glt,?_,by lia,rnd.step gd⟩
   cases gs with
   | nil=>
    cases fs with
    | nil=>cases fne
    | cons x fs=>cases rnd.sub x Af
   | cons x gs=>exact Nat.succ_pos _
 ·rintro σ H1 ⟨f,x3,x4,x5,x6,x7,fs,rfl,s1,hf,hf1,flt,fne,fl,gd⟩
  have clo:ClX T (· ∈ fs):=by
   rcases gd with gd | gd
   ·have:=Tn.nodup_len T.m (Q0 fs) (ZK fs) λx hx=>flt x (Z0.mp hx)
    lia
   ·exact gd
  refine⟨_,O,f,fs,O,SqL.of hf1,(λy hy=>Ac (flt y hy) (by lia)),λsa ds hsa nd hds=>?_⟩
  refine⟨sa,ds,O,ze,λk2 ms hk2 pm so=>?_⟩
  have hms:∀ x,x ∈ ms ↔ x ∈ fs:=λx=>by rw[pm.mem_iff,hds]
  refine⟨k2,_,O,.inl ⟨SqL.of ze,λt ht=>?_⟩⟩
  refine q t ms _ (s1.trans ((zf hsa _).trans ((zf hk2 _).trans (zf ht _)))) ze ⟨?_,(so.and (pm.nodup_iff.mpr nd)).imp λ⟨h1,h2⟩=>Nat.lt_of_le_of_ne h1 h2,λx hx=>flt x ((hms x).mp hx)⟩ (keep_of λc hc r rl hr=>(hms _).mpr (clo c hc r rl λx hx=>(hms x).mp (hr x hx)))
  cases ms with
  | nil=>
   cases fs with
   | nil=>cases fne
   | cons x fs=>cases (hms x).mpr Af
  | cons x ms=>exact Nat.succ_pos _
abbrev Qt:Stmt:=top 57
def j5:zC ["_law_many", "_law_number", "_law_left", "_law_found"] ["_law_many", "_law_number"] (zn Qt):=⟨rfl,rfl,rfl,by ac_rfl,rfl,by ac_rfl,by ac_rfl⟩
def yL (F:Fun K "_law_order" "_law_order" Qt f fd) (gb:Gb mg):ji P w K mg base CX0 1 f fd ["_law_many", "_law_number"] spOrd:=by
 refine F.ok j5 (λvs H Q E h=>?_) (λcdv A outer s H vs Q E hr h=>?_)
 ·obtain⟨m,n,rfl,_⟩:=h
  rfl
 obtain⟨m,n,rfl,m9,q⟩:=h
 refine⟨_,(@zh _ _ _ _ _ (@zr _ _ 2 _ _ _ _ j5.nd O (Or.inl O) (@zy _ _ _ _ _ _ _ _ _ (@QR _ O) O gb.list Qj (@zd _ _ _ _ _ (@XJ _ _ _ _ _ O gb.range (@zd _ _ _ _ _ (@pw _ 0 _ _ O O) (@zg _) O) O) (@zg _) O) (by decide) (by decide) O O) O (by walk_at "f")) (@zh _ _ _ _ _ (@zr _ _ 3 _ _ _ _ j5.nd O (Or.inl O) (@zS _ _ _ _ (@zg _)) O (by walk_at "f")) (@zh _ _ _ _ _ (@w8 _ _ _ _ _ _ Ad (@zH _ _ _ _ _ _ _ _ (@YV _ K _ hr O) (@pw _ 2 _ _ O O) (@zS _ _ _ _ (@zg _)) (@qi _ _ (by decide) (by decide))) (@zh _ _ _ _ _ (@qf _ _ _ _ (@qw _ K _ _ _ _ _ _ _ _ _ _ _ AY Aq Ap (@zT _) (@pw _ 3 _ _ O O) (@zd _ _ _ _ _ (@qw _ K _ _ _ _ _ _ _ _ _ _ _ AY PySem.F.slot_list_pop PySem.F.type_list_pop (@mt_popAt _) (@pw _ 2 _ _ O O) (@zd _ _ _ _ _ (@zB _ _ _ _ _ _ _ _ (@qK _) (@pw _ 1 _ _ O O) (@zE _ _ _ _ _ _ _ _ _ (@qe _ K O) O gb.len jf (@zd _ _ _ _ _ (@pw _ 2 _ _ O O) (@zg _) O) (by decide) (by decide) O O)) (@zg _) O) O O O O O O) (@zg _) O) O O O O O O) O) (@zo _ _ _ (@zr _ _ 1 _ _ _ _ j5.nd O (Or.inl O) (@zB _ _ _ _ _ _ _ _ (@Qh _) (@pw _ 1 _ _ O O) (@zk _ _ _ _)) O (by walk_at "f"))))) (@zo _ _ _ (@zF _ _ _ _ (@zy _ _ _ _ _ _ _ _ _ (@zx _ K O) O gb.tuple qk (@zd _ _ _ _ _ (@pw _ 3 _ _ O O) (@zg _) O) (by decide) (by decide) O O)))))),?_⟩
 refine⟨_,O,_,O,λrg hrg=>?_⟩
 have n1:=zf hrg (.rng 0 (m:Int))
 refine⟨rg,_,O,ze,by lia,by lia,λl hl=>?_⟩
 rw[Av]
 have n2:=zf hl (.lst ((List.range m).map λ(i:Nat)=>V.int (i:Int)))
 refine⟨zt (by show 0<=1000;decide),λfd hfd=>?_⟩
 have n3:=zf hfd (.lst [])
 have S3:=n1.trans (n2.trans n3)
 have lf:l ≠ fd:=zL ze hfd
 have hl0:H l=none:=n1.free hl
 have hf0:H fd=none:=(n1.trans n2).free hfd
 refine⟨λk σ H'=>∃ (x:Nat) (o rest:List Nat),σ=[some (nV m),some (nV x),some (.ref l),some (.ref fd)]/\rest.length=k/\(o++rest).Perm (List.range m)/\zD H H'/\H' l=some (.lst (rest.map nV))/\H' fd=some (.lst (o.map nV)),⟨m,n,[],List.range m,O,AZ,List.Perm.refl _,S3,n3 _ _ ze,ze⟩,?_⟩
 rintro k σ H4 ⟨x,o,rest,rfl,rl,pm,s4,hl4,hf4⟩
 refine⟨_,O,zt (by show 0<=1000;decide),λle hle=>?_⟩
 have n5:=zf hle (.lst [])
 refine⟨l,le,_,O,O,SqL.of (n5 _ _ hl4),SqL.of ze,_,O,?_⟩
 have hl5:=n5 _ _ hl4
 have hf5:=n5 _ _ hf4
 have S5:=s4.trans n5
 generalize upd H4 le (.lst [])=H5 at *
 have hlen:o.length+rest.length=m:=by
  have:=pm.length_eq
  rw[AL,AZ] at this
  exact this
 by_cases hr:rest=[]
 ·subst hr
  refine Zz (λz=>by cases z) (λ_=>?_)
  rw[Bt] at pm
  exact⟨_,O,fd,_,O,.inl ⟨SqL.of hf5,λt ht=>q t o _ (S5.trans (zf ht _)) ze ⟨by rw[pm.length_eq,AZ],λx hx=>Ab.mp (pm.mem_iff.mp hx),pm.nodup_iff.mpr EZ⟩⟩⟩
 ·have rp:0 < rest.length:=List.length_pos_iff.mpr hr
  refine Zz (λ_=>?_) (λz=>absurd (by cases rest with
   | nil=>exact absurd rfl hr
   | cons a b=>rfl) z)
  refine⟨λσ' H'=>∃ (x:Nat) (o rest:List Nat),σ'=[some (nV m),some (nV x),some (.ref l),some (.ref fd)]/\rest.length=k - 1/\(o++rest).Perm (List.range m)/\zD H H'/\H' l=some (.lst (rest.map nV))/\H' fd=some (.lst (o.map nV)),λσ' H' h=>⟨k - 1,by lia,h⟩,?_⟩
  have vlt:=BZ x rp
  obtain⟨z,hz⟩:=WA vlt
  have ev:(x:Int) % ((rest.map nV).length:Int)=((x % rest.length:Nat):Int):=by rw[AB];rfl
  refine⟨_,O,.inl ⟨O,_,SqL.of hf5⟩,_,O,.inl ⟨O,_,SqL.of hl5⟩,_,O,_,O,_,_,O,.inl ⟨_,SqL.of hl5,O⟩,_,_,O,O,(by rw[AB];lia),l,_,_,x % rest.length,nV z,O,O,hl5,(by rw[ev];lia),(by rw[ev];lia),(by rw[ev,AB];exact seq_nat vlt),(by rw[AH,hz];rfl),?_⟩
  rw[yt]
  have hf6:(upd H5 l (.lst ((rest.eraseIdx (x % rest.length)).map nV))) fd=some (.lst (o.map nV)):=by rw[zK (Aw lf)];exact hf5
  refine⟨fd,_,_,O,O,hf6,by rw[AB];exact zq (by lia),_,O,_,_,O,O,⟨by decide,by decide⟩,?_⟩
  refine⟨x / 5,o++[z],rest.eraseIdx (x % rest.length),O,by rw[List.length_eraseIdx_of_lt vlt];lia,?_,(S5.put hl0).put hf0,by rw[zK lf];exact ze,by rw[ze,AK];rfl⟩
  rw[Cq]
  exact (List.Perm.append_left o (wW rest _ z hz).symm).trans pm
abbrev QY:Stmt:=top 58
def J7:zC ["_law_table_here", "_law_premises", "_law_saying_here", "_law_found"] ["_law_table_here", "_law_premises", "_law_saying_here"] (zn QY):=⟨rfl,rfl,rfl,by ac_rfl,rfl,by ac_rfl,by ac_rfl⟩
def YB (F:Fun K "_law_told" "_law_told" QY f fd) (gb:Gb mg) (d_follows:Def P w K mg base 30 "follows" ["T", "premises", "S"] QH) (d_law_follows:Def P w K mg base 20 "_law_follows" ["_law_table_here", "_law_premises", "_law_saying_here"] xg):ji P w K mg base CX0 34 f fd ["_law_table_here", "_law_premises", "_law_saying_here"] WM:=by
 refine F.ok J7 (λvs H Q E h=>?_) (λcdv A outer s H vs Q E hr h=>?_)
 ·obtain⟨v,pl,sv,T,L,ps,S,rfl,_⟩:=h
  rfl
 obtain⟨v,pl,sv,T,L,ps,S,rfl,ak,p125,p13,q⟩:=h
 refine⟨_,(@zh _ _ _ _ _ (@zr _ _ 3 _ _ _ _ J7.nd O (Or.inl O) (@ZB _ _ _ _ _ _ _ _ (@Qi _) (@zu _ _ _ _ _ _ _ (@zm _ K O) (@zw _ _ _ _ _ _ _ _ _ _ _ d_follows hr (by lia) O (@zd _ _ _ _ _ (@pw _ 0 _ _ O O) (@zd _ _ _ _ _ (@zy _ _ _ _ _ _ _ _ _ (@Zl _ K O) O gb.list Qj (@zd _ _ _ _ _ (@pw _ 1 _ _ O O) (@zg _) O) (by decide) (by decide) O O) (@zd _ _ _ _ _ (@pw _ 2 _ _ O O) (@zg _) O) O) O) (by decide) O O) (@zk _ _ _ _) (λ_ _=>rfl)) (@jX _ _ _ _) (@qi _ _ (by decide) (by decide))) O (by walk_at "f")) (@zh _ _ _ _ _ (@qX _ _ _ _ _ _ _ _ (@zH _ _ _ _ _ _ _ _ (@op_ne _) (@pw _ 3 _ _ O O) (@zw _ _ _ _ _ _ _ _ _ _ _ d_law_follows hr (by lia) O (@zd _ _ _ _ _ (@pw _ 0 _ _ O O) (@zd _ _ _ _ _ (@pw _ 1 _ _ O O) (@zd _ _ _ _ _ (@pw _ 2 _ _ O O) (@zg _) O) O) O) (by decide) O O) (@qi _ _ (by decide) (by decide))) (@zo _ _ _ (@zF _ _ _ _ (@wA _ _ _))) (@zU _)) (@zo _ _ _ (@zF _ _ _ _ (@pw _ 3 _ _ O O))))),?_⟩
 refine⟨_,O,_,O,pl,_,O,.inl (SqL.of ak.hp),λp2 hp2=>⟨_,O,?_⟩⟩
 have n1:=zf hp2 (.lst (ps.map Prod.fst))
 dsimp only[tNil]
 refine Yn ⟨v,p2,sv,T,L,ps,S,O,{ ak.same n1 with hp:=ze },λw t tv H2 s2 ht hw=>?_⟩
 refine .inr (.inl ⟨t,_,0,_,O,O,SqT.of ht,O,O,?_⟩)
 refine⟨_,O,_,O,_,O,_,O,?_⟩
 dsimp only[tNil]
 have S2:=n1.trans s2
 refine folB_use ⟨v,pl,sv,T,L,ps,S,O,ak.same S2,p125,p13,λb H3 s3 hb=>?_⟩
 have eb:decide (V.str w=V.str (Str.ofString "follows"))=b:=by
  rw[BU,decide_eq_true_iff,hb,<- hw]
  exact⟨λe=>V.str.inj e,λe=>by rw[e]⟩
 refine⟨O,_,O,Zz (λz=>absurd z (by rw[eb];simp)) (λ_=>⟨_,O,?_⟩)⟩
 rw[eb]
 exact q b H3 (S2.trans s3) hb
abbrev wy:Stmt:=top 59
def jw:zC ["_law_script", "_law_one", "_law_numbers_here", "_law_other", "_law_pair", "_law_part", "_law_about", "_law_small", "_law_k", "_law_shape", "_law_letters_here", "_law_premises", "_law_j", "_law_saying_here", "_law_told_here", "_law_due"] ["_law_script"] (zn wy):=⟨rfl,rfl,rfl,by ac_rfl,rfl,by ac_rfl,by ac_rfl⟩
def ok_law (F:Fun K "law" "law" wy f fd) (gb:Gb mg) (d_law_table:Def P w K mg base 2 "_law_table" ["_law_script", "_law_k", "_law_sizes"] (Ym K)) (d_law_numbers:Def P w K mg base 1 "_law_numbers" ["_law_script", "_law_k", "_law_many"] (xc K)) (d_law_like:Def P w K mg base 1 "_law_like" ["_law_table_here", "_law_numbers_here"] za0) (d_paired:Def P w K mg base 4 "paired" ["one", "other"] Ys) (d_part_of:Def P w K mg base 4 "part_of" ["T", "grades"] Yt) (d_law_closed:Def P w K mg base 1 "_law_closed" ["_law_table_here", "_law_number"] Yu) (d_turned:Def P w K mg base 4 "turned" ["T", "order"] WL) (d_law_order:Def P w K mg base 1 "_law_order" ["_law_many", "_law_number"] spOrd) (d_shrunk:Def P w K mg base 5 "shrunk" ["T"] WJ) (d_law_saying:Def P w K mg base 1 "_law_saying" ["_law_numbers_here", "_law_tools", "_law_letters_here"] WB) (d_law_told:Def P w K mg base 34 "_law_told" ["_law_table_here", "_law_premises", "_law_saying_here"] WM) (d_law_met:Def P w K mg base 18 "_law_met" ["_law_table_here", "_law_premises"] spMet):ji P w K mg base CX0 40 f fd ["_law_script"] (spLaw K):=by
 refine F.ok jw (λvs H Q E h=>?_) (λcdv A outer s H vs Q E hr h=>?_)
 ·obtain⟨a,ns,rfl,_⟩:=h
  rfl
 obtain⟨a,ns,rfl,hS,h63,q⟩:=h
 have nd0:(["_law_table_here", "_law_premises", "_law_saying_here"]:List Str).Nodup:=by ac_rfl
 refine⟨_,(@zh _ _ _ _ _ (@zr _ _ 1 _ _ _ _ jw.nd O (Or.inl O) (@zw _ _ _ _ _ _ _ _ _ _ _ d_law_table hr (by lia) O (@zd _ _ _ _ _ (@pw _ 0 _ _ O O) (@zd _ _ _ _ _ (@zk _ _ _ _) (@zd _ _ _ _ _ (@zS _ _ _ _ (@zd _ _ _ _ _ (@zk _ _ _ _) (@zd _ _ _ _ _ (@zk _ _ _ _) (@zd _ _ _ _ _ (@zk _ _ _ _) (@zd _ _ _ _ _ (@zk _ _ _ _) (@zg _) O) O) O) O)) (@zg _) O) O) O) (by decide) O O) O (by walk_at "f")) (@zh _ _ _ _ _ (@zr _ _ 2 _ _ _ _ jw.nd O (Or.inl O) (@zw _ _ _ _ _ _ _ _ _ _ _ d_law_numbers hr (by lia) O (@zd _ _ _ _ _ (@pw _ 0 _ _ O O) (@zd _ _ _ _ _ (@zk _ _ _ _) (@zd _ _ _ _ _ (@zk _ _ _ _) (@zg _) O) O) O) (by decide) O O) O (by walk_at "f")) (@zh _ _ _ _ _ (@zr _ _ 3 _ _ _ _ jw.nd O (Or.inl O) (@zw _ _ _ _ _ _ _ _ _ _ _ d_law_like hr (by lia) O (@zd _ _ _ _ _ (@pw _ 1 _ _ O O) (@zd _ _ _ _ _ (@pw _ 2 _ _ O O) (@zg _) O) O) (by decide) O O) O (by walk_at "f")) (@zh _ _ _ _ _ (@zr _ _ 4 _ _ _ _ jw.nd O (Or.inl O) (@zw _ _ _ _ _ _ _ _ _ _ _ d_paired hr (by lia) O (@zd _ _ _ _ _ (@pw _ 1 _ _ O O) (@zd _ _ _ _ _ (@pw _ 3 _ _ O O) (@zg _) O) O) (by decide) O O) O (by walk_at "f")) (@zh _ _ _ _ _ (@zr _ _ 5 _ _ _ _ jw.nd O (Or.inl O) (@zw _ _ _ _ _ _ _ _ _ _ _ d_part_of hr (by lia) O (@zd _ _ _ _ _ (@pw _ 1 _ _ O O) (@zd _ _ _ _ _ (@zw _ _ _ _ _ _ _ _ _ _ _ d_law_closed hr (by lia) O (@zd _ _ _ _ _ (@pw _ 1 _ _ O O) (@zd _ _ _ _ _ (@zu _ _ _ _ _ _ _ (@zm _ K O) (@pw _ 2 _ _ O O) (@zk _ _ _ _) (λ_ _=>rfl)) (@zg _) O) O) (by decide) O O) (@zg _) O) O) (by decide) O O) O (by walk_at "f")) (@zh _ _ _ _ _ (@zr _ _ 6 _ _ _ _ jw.nd O (Or.inl O) (@zw _ _ _ _ _ _ _ _ _ _ _ d_turned hr (by lia) O (@zd _ _ _ _ _ (@pw _ 1 _ _ O O) (@zd _ _ _ _ _ (@zw _ _ _ _ _ _ _ _ _ _ _ d_law_order hr (by lia) O (@zd _ _ _ _ _ (@zu _ _ _ _ _ _ _ (@zm _ K O) (@pw _ 1 _ _ O O) (@zk _ _ _ _) (λ_ _=>rfl)) (@zd _ _ _ _ _ (@zu _ _ _ _ _ _ _ (@zm _ K O) (@pw _ 2 _ _ O O) (@zk _ _ _ _) (λ_ _=>rfl)) (@zg _) O) O) (by decide) O O) (@zg _) O) O) (by decide) O O) O (by walk_at "f")) (@zh _ _ _ _ _ (@zr _ _ 7 _ _ _ _ jw.nd O (Or.inl O) (@zw _ _ _ _ _ _ _ _ _ _ _ d_shrunk hr (by lia) O (@zd _ _ _ _ _ (@pw _ 4 _ _ O O) (@zg _) O) (by decide) O O) O (by walk_at "f")) (@zh _ _ _ _ _ (@zZ _ _ _ _ _ _ _ _ Ad O (@zR _ _ _ _ _ _ O gb.range (@zd _ _ _ _ _ (@zk _ _ _ _) (@zg _) O) O) (@pgl _ 8 _ _ jw.nd O O) (@zh _ _ _ _ _ (@zr _ _ 9 _ _ _ _ jw.nd O (Or.inl O) (@zw _ _ _ _ _ _ _ _ _ _ _ d_law_numbers hr (by lia) O (@zd _ _ _ _ _ (@pw _ 0 _ _ O O) (@zd _ _ _ _ _ (@zB _ _ _ _ _ _ _ _ (@qt _) (@zk _ _ _ _) (@zB _ _ _ _ _ _ _ _ (@jG _) (@zk _ _ _ _) (@pw _ 8 _ _ O O))) (@zd _ _ _ _ _ (@zk _ _ _ _) (@zg _) O) O) O) (by decide) O O) O (by walk_at "f")) (@zh _ _ _ _ _ (@zr _ _ 10 _ _ _ _ jw.nd O (Or.inl O) (@qQ _ _ _ _ _ _ _ _ _ _ (@ZF _ K O) (@zS _ _ _ _ (@zd _ _ _ _ _ (@jX _ _ _ _) (@zd _ _ _ _ _ (@jX _ _ _ _) (@zg _) O) O)) (@Zh _) (@qV _ _ _ (@zB _ _ _ _ _ _ _ _ (@qt _) (@zk _ _ _ _) (@zB _ _ _ _ _ _ _ _ (@qK _) (@zu _ _ _ _ _ _ _ (@zm _ K O) (@pw _ 9 _ _ O O) (@zk _ _ _ _) (λ_ _=>rfl)) (@zk _ _ _ _))))) O (by walk_at "f")) (@zh _ _ _ _ _ (@zr _ _ 11 _ _ _ _ jw.nd O (Or.inr O) (@zS _ _ _ _ (@zg _)) O (by walk_at "f")) (@zh _ _ _ _ _ (@zZ _ _ _ _ _ _ _ _ Ad O (@zR _ _ _ _ _ _ O gb.range (@zd _ _ _ _ _ (@zB _ _ _ _ _ _ _ _ (@qK _) (@zu _ _ _ _ _ _ _ (@zm _ K O) (@pw _ 9 _ _ O O) (@zk _ _ _ _) (λ_ _=>rfl)) (@zk _ _ _ _)) (@zg _) O) O) (@pgl _ 12 _ _ jw.nd O O) (@zo _ _ _ (@qf _ _ _ _ (@qw _ K _ _ _ _ _ _ _ _ _ _ _ AY Aq Ap (@zT _) (@pw _ 11 _ _ O O) (@zd _ _ _ _ _ (@zw _ _ _ _ _ _ _ _ _ _ _ d_law_saying hr (by lia) O (@zd _ _ _ _ _ (@zw _ _ _ _ _ _ _ _ _ _ _ d_law_numbers hr (by lia) O (@zd _ _ _ _ _ (@pw _ 0 _ _ O O) (@zd _ _ _ _ _ (@zB _ _ _ _ _ _ _ _ (@qt _) (@zB _ _ _ _ _ _ _ _ (@qt _) (@zk _ _ _ _) (@zB _ _ _ _ _ _ _ _ (@jG _) (@zk _ _ _ _) (@pw _ 8 _ _ O O))) (@pw _ 12 _ _ O O)) (@zd _ _ _ _ _ (@zB _ _ _ _ _ _ _ _ (@qt _) (@zk _ _ _ _) (@zB _ _ _ _ _ _ _ _ (@qK _) (@zu _ _ _ _ _ _ _ (@zm _ K O) (@pw _ 9 _ _ O O) (@zk _ _ _ _) (λ_ _=>rfl)) (@zk _ _ _ _))) (@zg _) O) O) O) (by decide) O O) (@zd _ _ _ _ _ (@zu _ _ _ _ _ _ _ (@zm _ K O) (@pw _ 1 _ _ O O) (@zk _ _ _ _) (λ_ _=>rfl)) (@zd _ _ _ _ _ (@pw _ 10 _ _ O O) (@zg _) O) O) O) (by decide) O O) (@zg _) O) O O O O O O) O)) (by intro _;rfl)) (@zh _ _ _ _ _ (@zr _ _ 13 _ _ _ _ jw.nd O (Or.inr O) (@zw _ _ _ _ _ _ _ _ _ _ _ d_law_saying hr (by lia) O (@zd _ _ _ _ _ (@zw _ _ _ _ _ _ _ _ _ _ _ d_law_numbers hr (by lia) O (@zd _ _ _ _ _ (@pw _ 0 _ _ O O) (@zd _ _ _ _ _ (@zB _ _ _ _ _ _ _ _ (@qt _) (@zk _ _ _ _) (@zB _ _ _ _ _ _ _ _ (@jG _) (@zk _ _ _ _) (@pw _ 8 _ _ O O))) (@zd _ _ _ _ _ (@zB _ _ _ _ _ _ _ _ (@qt _) (@zk _ _ _ _) (@zB _ _ _ _ _ _ _ _ (@qK _) (@zu _ _ _ _ _ _ _ (@zm _ K O) (@pw _ 9 _ _ O O) (@zk _ _ _ _) (λ_ _=>rfl)) (@zk _ _ _ _))) (@zg _) O) O) O) (by decide) O O) (@zd _ _ _ _ _ (@zu _ _ _ _ _ _ _ (@zm _ K O) (@pw _ 1 _ _ O O) (@zk _ _ _ _) (λ_ _=>rfl)) (@zd _ _ _ _ _ (@pw _ 10 _ _ O O) (@zg _) O) O) O) (by decide) O O) O (by walk_at "f")) (@zh _ _ _ _ _ (@jF _ ["_law_table_here", "_law_premises", "_law_saying_here"] [none,some 11,some 13] _ 14 _ _ _ _ _ _ _ _ _ _ _ _ (by exact (show zJ ["_law_script", "_law_one", "_law_numbers_here", "_law_other", "_law_pair", "_law_part", "_law_about", "_law_small", "_law_k", "_law_shape", "_law_letters_here", "_law_premises", "_law_j", "_law_saying_here", "_law_told_here", "_law_due"] (zn wy) ["_law_table_here", "_law_premises", "_law_saying_here"] [none,some 11,some 13] _ from⟨O,by ac_rfl,by ac_rfl,by ac_rfl,by ac_rfl,O,by ac_rfl⟩)) O (@zG _ K _ _ _ (@zS _ _ _ _ (@zd _ _ _ _ _ (@pw _ 1 _ _ O O) (@zd _ _ _ _ _ (@pw _ 3 _ _ O O) (@zd _ _ _ _ _ (@pw _ 4 _ _ O O) (@zd _ _ _ _ _ (@pw _ 5 _ _ O O) (@zd _ _ _ _ _ (@pw _ 6 _ _ O O) (@zd _ _ _ _ _ (@pw _ 7 _ _ O O) (@zg _) O) O) O) O) O) O)) O) (λ_ _ _ _=>(@pgl _ 0 _ _ nd0 O O)) (λ_ _ _ _=>(@qd _)) (λ_ _ _ _=>(@zw _ _ _ _ _ _ _ _ _ _ _ d_law_told hr (by lia) O (@zd _ _ _ _ _ (@pw _ 0 _ _ O O) (@zd _ _ _ _ _ (@pw _ 1 _ _ O O) (@zd _ _ _ _ _ (@pw _ 2 _ _ O O) (@zg _) O) O) O) (by decide) O O)) jw.nd O O O (by intro _;rfl)) (@zh _ _ _ _ _ (@qX _ _ _ _ _ _ _ _ (@PW.pt _ _ _ (@pw_or _ _ _ _ _ _ _ (@zH _ _ _ _ _ _ _ _ (@qv _ K O) (@wA _ _ _) (@pw _ 14 _ _ O O) (by with_unfolding_all rfl)) (@pw_or _ _ _ _ _ _ _ (@zH _ _ _ _ _ _ _ _ (@op_ne _) (@zu _ _ _ _ _ _ _ (@zm _ K O) (@pw _ 14 _ _ O O) (@zk _ _ _ _) (λ_ _=>rfl)) (@zu _ _ _ _ _ _ _ (@zm _ K O) (@pw _ 14 _ _ O O) (@zk _ _ _ _) (λ_ _=>rfl)) (@qi _ _ (by decide) (by decide))) (@pw_or _ _ _ _ _ _ _ (@PW.pt _ _ _ (@WT _ _ _ _ _ _ _ (@Zy _ _ _ (@zu _ _ _ _ _ _ _ (@zm _ K O) (@pw _ 14 _ _ O O) (@zk _ _ _ _) (λ_ _=>rfl)) (by intro _;rfl)) (@Jr _ _ _ _ (@WU _ _ _ _ (@Zy _ _ _ (@zu _ _ _ _ _ _ _ (@zm _ K O) (@pw _ 14 _ _ O O) (@zk _ _ _ _) (λ_ _=>rfl)) (by intro _;rfl)))))) (@pw_or1 _ _ _ _ (@zH _ _ _ _ _ _ _ _ (@op_ne _) (@zu _ _ _ _ _ _ _ (@zm _ K O) (@pw _ 14 _ _ O O) (@zk _ _ _ _) (λ_ _=>rfl)) (@zu _ _ _ _ _ _ _ (@zm _ K O) (@pw _ 14 _ _ O O) (@zk _ _ _ _) (λ_ _=>rfl)) (@qi _ _ (by decide) (by decide)))))))) (@zo _ _ _ (@zF _ _ _ _ (@yQ _ _ _ _))) (@zU _)) (@zh _ _ _ _ _ (@zr _ _ 15 _ _ _ _ jw.nd O (Or.inl O) (@pe_or _ _ _ _ _ _ _ (@Xj _ _ _ _ _ _ _ (@zu _ _ _ _ _ _ _ (@zm _ K O) (@pw _ 14 _ _ O O) (@zk _ _ _ _) (λ_ _=>rfl)) (@Xi _ _ _ _ _ (@zu _ _ _ _ _ _ _ (@zm _ K O) (@pw _ 14 _ _ O O) (@zk _ _ _ _) (λ_ _=>rfl)))) (@pe_or _ _ _ _ _ _ _ (@Xk _ _ _ _ (@zw _ _ _ _ _ _ _ _ _ _ _ d_law_met hr (by lia) O (@zd _ _ _ _ _ (@pw _ 1 _ _ O O) (@zd _ _ _ _ _ (@pw _ 11 _ _ O O) (@zg _) O) O) (by decide) O O)) (@Xi _ _ _ _ _ (@Xk _ _ _ _ (@zw _ _ _ _ _ _ _ _ _ _ _ d_law_met hr (by lia) O (@zd _ _ _ _ _ (@pw _ 3 _ _ O O) (@zd _ _ _ _ _ (@pw _ 11 _ _ O O) (@zg _) O) O) (by decide) O O))))) O (by walk_at "f")) (@zo _ _ _ (@qX _ _ _ _ _ _ _ _ (@zH _ _ _ _ _ _ _ _ (@op_ne _) (@zu _ _ _ _ _ _ _ (@zm _ K O) (@pw _ 14 _ _ O O) (@zk _ _ _ _) (λ_ _=>rfl)) (@pw _ 15 _ _ O O) (@qi _ _ (by decide) (by decide))) (@zo _ _ _ (@zF _ _ _ _ (@yQ _ _ _ _))) (@zU _))))))))))) (by intro _;rfl)) (@zo _ _ _ (@zF _ _ _ _ (@yQ _ _ _ _))))))))))),?_⟩
 refine⟨_,O,zt (by show 4<=1000;decide),λl0 hl0=>?_⟩
 have n0:=zf hl0 (.lst [.int 2,.int 3,.int 2,.int 1])
 refine⟨a,l0,0,ns,[2,3,2,1],O,QJ hS n0,h63,by decide,ze,by decide,by decide,by decide,λv T H1 s1 ia gT nT hm c3=>?_⟩
 have m3:T.m<=3:=(show ∀ z ∈ [2,3,2,1],z<=3 by decide) _ hm
 have S1:=n0.trans s1
 obtain⟨ta,w0,c0,vs0,rfl,h1,h2,h3,h4⟩:=id ia
 refine⟨_,O,a,1,40,ns,O,QJ hS S1,h63,by decide,by decide,by decide,λl1 xs H2 s2 hl1 xl xb=>?_⟩
 have xl40:xs.length=40:=xl
 refine⟨_,O,_,O,.ref ta,l1,T,xs,O,ia.same s2,gT,c3,hl1,xl40,λov B H3 s3 ib gB hSh mB=>?_⟩
 have h9:T.m * B.m<=9:=Aa (D0 m3 mB) (by decide)
 have S23:=s2.trans s3
 refine⟨_,O,_,O,.ref ta,ov,T,B,O,ia.same S23,ib,gT,gB,hSh,h9,λpv H4 s4 ip=>?_⟩
 have S24:=S23.trans s4
 refine⟨_,O,_,O,_,O,.inl ⟨l1,_,38,_,O,O,SqL.of ((s3.trans s4) _ _ hl1),jM (i:=38) (by lia),.ref ta,T,_,O,ia.same S24,gT,m3,c3,λtg G H5 s5 htg hG hk=>?_⟩⟩
 refine⟨.ref ta,tg,T,G,O,(ia.same S24).same s5,gT,hG,hk,htg,λrv H6 s6 ir=>?_⟩
 have S26:=S24.trans (s5.trans s6)
 have hl16:=(s3.trans (s4.trans (s5.trans s6))) _ _ hl1
 refine⟨_,O,_,O,.inr (.inl ⟨ta,_,0,_,O,O,SqT.of (S26 _ _ h1),O,_,O,.inl ⟨l1,_,39,_,O,O,SqL.of hl16,jM (i:=39) (by lia),T.m,_,O,gT.m9,λto o H7 s7 hto ho=>?_⟩⟩)⟩
 refine⟨.ref ta,to,T,o,O,(ia.same S26).same s7,gT,ho,hto,λav H8 s8 iv=>?_⟩
 have gP:=zaR gT gB hSh h9
 have shP:=zaP hSh
 have nP:(qc (qo T B)).Nodup:=by rw[<- ZO shP];exact nT
 have s48:=s5.trans (s6.trans (s7.trans s8))
 refine⟨_,O,pv,qo T B,O,ip.same s48,gP,nP,λzv H9 s9 iz=>?_⟩
 have S29:=S26.trans (s7.trans (s8.trans s9))
 have ia9:=ia.same S29
 have ib9:=ib.same (s4.trans (s48.trans s9))
 have ip9:=ip.same (s48.trans s9)
 have ir9:=ir.same (s7.trans (s8.trans s9))
 have iv9:=iv.same s9
 have S9:=S1.trans S29
 have h17:=S29 _ _ h1
 have h37:=S29 _ _ h3
 have h47:=Cns.same S29 h4
 have gR:=zaG gT hG hk
 have hR:=part_hom gT nT hG hk
 have nR:(qc (Qn T G)).Nodup:=by rw[ZO hR.sh];exact nT
 have gV:=zP.turn gT ho
 have hV:=turn_hom gT nT ho
 have nV':(qc (QK T o)).Nodup:=by rw[<- ZO hV.sh];exact nT
 have gZ:=shr_good gP
 have hZ:=shr_hom gP nP
 have nZ:(qc (shrT (qo T B))).Nodup:=by rw[<- ZO hZ.sh];exact nP
 have nB:(qc B).Nodup:=by rw[<- ZO hSh];exact nT
 refine⟨(6:Int),O,by decide,by decide,?_⟩
 refine qY (λi σ H'=>(∃ x5 x6 x7 x8 x9 x10 x11 x12,σ=[some (.ref a),some (.ref ta),some (.ref l1),some ov,some pv,some rv,some av,some zv,x5,x6,x7,x8,x9,x10,x11,x12])/\zD H9 H') ⟨⟨_,_,_,_,_,_,_,_,O⟩,zD.refl _⟩ ?_ ?_
 ·rintro i σ H10 hi ⟨⟨x5,x6,x7,x8,x9,x10,x11,x12,rfl⟩,s10⟩
  have i6:i < 6:=hi
  refine⟨_,O,_,O,_,_,O,O,.inl ⟨by decide,by decide⟩,_,_,O,O,a,_,4,ns,O,QJ hS (S9.trans s10),h63,(by lia),by decide,by decide,λl6 zs H11 s11 hl6 zl zb=>?_⟩
  have zl4:zs.length=4:=zl
  obtain⟨L,eL,L1,L2,hL⟩:=pq_ok (Tn.at' zs 0)
  refine⟨zt (by show 2<=1000;decide),λL0 hL0=>?_⟩
  have n10:=zf hL0 (.lst [V.str (Str.ofString "p"),V.str (Str.ofString "q")])
  refine⟨_,O,.inl ⟨l6,_,0,_,O,O,SqL.of (n10 _ _ hl6),jM (i:=0) (by lia),_,_,O,O,(show (0:Int) < 2 by decide),_,_,O,O,_,O,.inl ⟨L0,_,O,SqL.of ze,λla hla=>?_⟩⟩⟩
  rw[eL]
  have n11:=zf hla (.lst (L.map V.str))
  have hla':=@ze (upd H11 L0 (.lst [V.str (Str.ofString "p"),V.str (Str.ofString "q")])) la (.lst (L.map V.str))
  have S11:=s10.trans (s11.trans (n10.trans n11))
  have hl6':=(n10.trans n11) _ _ hl6
  generalize upd (upd H11 L0 (.lst [V.str (Str.ofString "p"),V.str (Str.ofString "q")])) la (.lst (L.map V.str))=H12 at *
  refine⟨zt (by show 0<=1000;decide),λpr hpr=>?_⟩
  have n12:=zf hpr (.lst [])
  refine⟨_,O,.inl ⟨l6,_,1,_,O,O,SqL.of (n12 _ _ hl6'),jM (i:=1) (by lia),_,_,O,O,(show (0:Int) < 3 by decide),_,O,by lia,by lia,?_⟩⟩
  have z3:0<=((Tn.at' zs 1:Nat):Int) % 3/\((Tn.at' zs 1:Nat):Int) % 3 < 3:=⟨Eh _ (by decide),EE _ (by decide)⟩
  refine qY (λj σ H'=>∃ (x9:Option V) (ps:List (V×Sy)),σ=[some (.ref a),some (.ref ta),some (.ref l1),some ov,some pv,some rv,some av,some zv,some (.int (0+(i:Int))),some (.ref l6),some (.ref la),some (.ref pr),x9,x10,x11,x12]/\zD H12 H'/\H' pr=some (.lst (ps.map Prod.fst))/\(∀ z ∈ ps,jU H' z.2 z.1/\Few T L z.2)/\ps.length=j) ⟨_,[],O,n12,ze,(λz hz=>by cases hz),O⟩ ?_ ?_
  ·rintro j σ H13 hj ⟨y9,ps,rfl,s13,hp13,hps,pl⟩
   have j3:j < 3:=by lia
   have SA:=S11.trans s13
   refine⟨_,O,.inl ⟨O,_,SqL.of hp13⟩,_,O,_,O,_,_,O,O,.inl ⟨by decide,by decide⟩,_,_,O,O,_,O,_,_,O,O,_,O,.inl ⟨l6,_,2,_,O,O,SqL.of (s13 _ _ hl6'),jM (i:=2) (by lia),_,_,O,O,(show (0:Int) < 5 by decide),_,_,O,O,a,_,_,ns,O,QJ hS (S9.trans SA),h63,(by lia),(by lia),(by lia),λl7 ys H14 s14 hl7 yl yb=>?_⟩⟩
   refine⟨_,O,.inr (.inl ⟨ta,_,2,_,O,O,SqT.of ((SA.trans s14) _ _ h17),O,_,O,?_⟩)⟩
   refine⟨l7,c0,la,ys,T,vs0,L,O,hl7,by lia,by lia,gT,(SA.trans s14) _ _ h37,Cns.same (SA.trans s14) h47,(s13.trans s14) _ _ hla',L1,L2,λsv S H15 s15 iS few=>?_⟩
   have hp15:=(s14.trans s15) _ _ hp13
   refine⟨pr,_,_,O,O,hp15,by rw[AB];exact zq (by lia),?_⟩
   refine⟨_,ps++[(sv,S)],O,(s13.trans (s14.trans s15)).put hpr,by rw[ze,AK];rfl,λz hz=>?_,by rw[AL,pl];rfl⟩
   rcases AV.mp hz with hz | hz
   ·exact⟨(hps z hz).1.tk ((Tk.of (s14.trans s15)).trans (Tk.put hp15)),(hps z hz).2⟩
   ·rw[AG.mp hz]
    exact⟨iS.tk (Tk.put hp15),few⟩
  ·rintro σ H13 ⟨y9,ps,rfl,s13,hp13,hps,pl⟩
   have pl2:ps.length<=2:=by lia
   have SA:=S11.trans s13
   refine⟨_,O,_,O,_,_,O,O,.inl ⟨by decide,by decide⟩,_,_,O,O,_,O,.inl ⟨l6,_,3,_,O,O,SqL.of (s13 _ _ hl6'),jM (i:=3) (by lia),_,_,O,O,(show (0:Int) < 5 by decide),_,_,O,O,a,_,_,ns,O,QJ hS (S9.trans SA),h63,(by lia),(by lia),(by lia),λl7 ys H14 s14 hl7 yl yb=>?_⟩⟩
   refine⟨_,O,.inr (.inl ⟨ta,_,2,_,O,O,SqT.of ((SA.trans s14) _ _ h17),O,_,O,?_⟩)⟩
   refine⟨l7,c0,la,ys,T,vs0,L,O,hl7,by lia,by lia,gT,(SA.trans s14) _ _ h37,Cns.same (SA.trans s14) h47,(s13.trans s14) _ _ hla',L1,L2,λsv S H15 s15 iS few=>?_⟩
   have SB:=SA.trans (s14.trans s15)
   have hp15:=(s14.trans s15) _ _ hp13
   have hps15:∀ z ∈ ps,jU H15 z.2 z.1/\Few T L z.2:=λz hz=>⟨(hps z hz).1.same (s14.trans s15),(hps z hz).2⟩
   have ask:∀ {v:V} {U:Tb},QF H9 v U->zP U->(qc U).Nodup->Sh T=Sh U->Ask H15 v pr sv U L ps S:=λiU gU nU hU=>ask_few (iU.same SB) gU nU hp15 pl2 (λz hz=>⟨(hps15 z hz).1,Q4 hU (hps15 z hz).2⟩) iS (Q4 hU few) hL L2
   have p125:∀ {U:Tb},zP U->U.m ^ L.length<=125:=λgU=>Aa (CL gU.m1 L2) (Aa (CY gU.m9 2) (by decide))
   refine⟨_,O,_,O,_,O,_,O,_,O,_,O,zt (by show 6<=1000;decide),λl9 hl9=>⟨l9,O,⟨_,SqL.of ze⟩,λD hD=>?_⟩⟩
   have n16:=zf hl9 (.lst [.ref ta,ov,pv,rv,av,zv])
   have ask6:∀ z ∈ [((.ref ta,T):V×Tb),(ov,B),(pv,qo T B),(rv,Qn T G),(av,QK T o),(zv,shrT (qo T B))],Ask H15 z.1 pr sv z.2 L ps S/\z.2.m ^ L.length<=125:=λz hz=>by
    simp only[List.mem_cons,List.not_mem_nil,or_false] at hz
    rcases hz with rfl | rfl | rfl | rfl | rfl | rfl
    ·exact⟨ask ia9 gT nT rfl,p125 gT⟩
    ·exact⟨ask ib9 gB nB hSh,p125 gB⟩
    ·exact⟨ask ip9 gP nP shP,p125 gP⟩
    ·exact⟨ask ir9 gR nR hR.sh.symm,p125 gR⟩
    ·exact⟨ask iv9 gV nV' hV.sh,p125 gV⟩
    ·exact⟨ask iz gZ nZ (shP.trans hZ.sh),p125 gZ⟩
   refine qB [((.ref ta,T):V×Tb),(ov,B),(pv,qo T B),(rv,Qn T G),(av,QK T o),(zv,shrT (qo T B))] Prod.fst (λz=>.bl (w4 z.2 (ps.map Prod.snd) S)) ze (show 6<=1000 by decide) hD (λz hz H' Q' s17 q'=>?_) (λH17 s17 hD17=>?_)
   ·exact⟨_,O,_,O,_,O,z.1,pr,sv,z.2,L,ps,S,O,(ask6 z hz).1.same (n16.trans s17),(ask6 z hz).2,by lia,λb H18 s18 hb=>by rw[folD_of hb];exact q' H18 s18⟩
   have gps:∀ p ∈ ps.map Prod.snd,GSt T L p:=λp hp=>by
    obtain⟨z,hz,rfl⟩:=AI.mp hp
    exact (hps z hz).2.1
   have gps':∀ p ∈ ps.map Prod.snd,GSt (qo T B) L p:=λp hp=>by
    obtain⟨z,hz,rfl⟩:=AI.mp hp
    exact (Q4 shP (hps z hz).2).1
   have e40:w4 (QK T o) (ps.map Prod.snd) S=w4 T (ps.map Prod.snd) S:=by rw[BU,jB,jB,xh hV gT nT (zaZ ho) gps few.1]
   have e52:w4 (shrT (qo T B)) (ps.map Prod.snd) S=w4 (qo T B) (ps.map Prod.snd) S:=by rw[BU,jB,jB,xh hZ gP nP (shr_onto gP) gps' (Q4 shP few).1]
   have i03:w4 T (ps.map Prod.snd) S=true->w4 (Qn T G) (ps.map Prod.snd) S=true:=λh=>by
    rw[jB] at h ⊢
    refine (zaW hR gR nR).fol (L:=L) (λp hp=>?_) (Q4 hR.sh.symm few).1 h
    obtain⟨z,hz,rfl⟩:=AI.mp hp
    exact (Q4 hR.sh.symm (hps z hz).2).1
   have e2:=zaY gT gB nT hSh gps few.1
   rw[<- jB,<- jB (T:=T),<- jB (T:=B)] at e2
   have hD18:H17 D=some (.lst [.bl (w4 T (ps.map Prod.snd) S),.bl (w4 B (ps.map Prod.snd) S),.bl (w4 (qo T B) (ps.map Prod.snd) S),.bl (w4 (Qn T G) (ps.map Prod.snd) S),.bl (w4 (QK T o) (ps.map Prod.snd) S),.bl (w4 (shrT (qo T B)) (ps.map Prod.snd) S)]):=hD17
   rw[e40,e52] at hD18
   generalize w4 T (ps.map Prod.snd) S=b0 at *
   generalize w4 B (ps.map Prod.snd) S=b1 at *
   generalize w4 (qo T B) (ps.map Prod.snd) S=b2 at *
   generalize w4 (Qn T G) (ps.map Prod.snd) S=b3 at *
   have S17:=n16.trans s17
   refine hide (R:=?R9) (D:=?D9) (P:=λR D'=>R D' [some (.ref a),some (.ref ta),some (.ref l1),some ov,some pv,some rv,some av,some zv,some (.int (0+(i:Int))),some (.ref l6),some (.ref la),some (.ref pr),y9,some sv,some (.ref D),x12] H17) (λr9=>?m9) ?r9
   case m9=>
    refine⟨_,O,D,_,O,.inl (SqL.of hD18),O,O,_,O,Zz (λz=>absurd (show false=true from z) (by decide)) (λ_=>?_)⟩
    refine⟨_,O,.inl ⟨D,_,4,_,O,O,SqL.of hD18,O,_,O,.inl ⟨D,_,0,_,O,O,SqL.of hD18,O,O,_,O,Zz (λz=>absurd z (by simp)) (λ_=>?_)⟩⟩⟩
    refine⟨_,O,.inl ⟨D,_,0,_,O,O,SqL.of hD18,O,_,O,?_⟩⟩
    cases b0 with
    | false=>
     refine wc ?_
     refine⟨_,O,.inl ⟨D,_,5,_,O,O,SqL.of hD18,O,_,O,.inl ⟨D,_,2,_,O,O,SqL.of hD18,O,O,_,O,Zz (λz=>absurd z (by simp)) (λ_=>?f9)⟩⟩⟩
     case f9=>exact r9
    | true=>
     obtain rfl:=i03 rfl
     refine wC ⟨_,O,.inl ⟨D,_,3,_,O,O,SqL.of hD18,O,_,O,wc ?_⟩⟩
     refine⟨_,O,.inl ⟨D,_,5,_,O,O,SqL.of hD18,O,_,O,.inl ⟨D,_,2,_,O,O,SqL.of hD18,O,O,_,O,Zz (λz=>absurd z (by simp)) (λ_=>?f9)⟩⟩⟩
     case f9=>exact r9
   case r9=>
    have hp17:=S17 _ _ hp15
    refine hide (R:=?Ra) (D:=?Da) (P:=λR D'=>∀ (b:Bool) (Hx:Hp),zD H17 Hx->b=b2->R D' [some (.ref a),some (.ref ta),some (.ref l1),some ov,some pv,some rv,some av,some zv,some (.int (0+(i:Int))),some (.ref l6),some (.ref la),some (.ref pr),y9,some sv,some (.ref D),some (.bl b)] Hx) (λra=>?ma) ?ra
    case ma=>
     refine⟨_,O,.inl ⟨D,_,0,_,O,O,SqL.of hD18,O,b0,O,?_⟩⟩
     by_cases hb:b0=true/\b1=true
     ·obtain⟨rfl,rfl⟩:=hb
      refine wC ⟨_,O,.inl ⟨D,_,1,_,O,O,SqL.of hD18,O,true,O,wC ?_⟩⟩
      refine ra true H17 (zD.refl _) ?_
      exact (e2.mpr (.inl ⟨O,O⟩)).symm
     ·have mets:(b0 && b1)=false:=by
       cases b0 <;> cases b1 <;> first | rfl | exact absurd ⟨rfl,rfl⟩ hb
      cases b0 with
      | false=>
       refine wc ⟨false,O,wc ?_⟩
       refine⟨_,O,_,O,.ref ta,pr,T,L,ps,O,(ia9.same SB).same S17,gT,nT,hp17,pl2,(λz hz=>⟨(hps15 z hz).1.same S17,(hps15 z hz).2⟩),L2,λbA H18 s18 hbA=>⟨_,O,!bA,O,?_⟩⟩
       cases bA with
       | false=>
        refine wC ?_
        refine ra true H18 s18 ?_
        exact (e2.mpr (.inr (.inl λz=>absurd (hbA.mpr z) AS))).symm
       | true=>
        refine wc ⟨_,O,_,O,ov,pr,B,L,ps,O,(ib9.same SB).same (S17.trans s18),gB,nB,s18 _ _ hp17,pl2,(λz hz=>⟨(hps15 z hz).1.same (S17.trans s18),Q4 hSh (hps15 z hz).2⟩),L2,λbB H19 s19 hbB=>⟨_,O,?_⟩⟩
        refine ra (!bB) H19 (s18.trans s19) ?_
        rw[BU,e2]
        cases bB with
        | false=>exact⟨λ_=>.inr (.inr λz=>absurd (hbB.mpr z) AS),λ_=>rfl⟩
        | true=>
         refine⟨λz=>(by cases z),λz=>?_⟩
         rcases z with z | z | z
         ·exact absurd z hb
         ·exact absurd (hbA.mp rfl) z
         ·exact absurd (hbB.mp rfl) z
      | true=>
       refine wC ⟨_,O,.inl ⟨D,_,1,_,O,O,SqL.of hD18,O,b1,O,?_⟩⟩
       rw[show b1=false from mets]
       refine wc ?_
       refine⟨_,O,_,O,.ref ta,pr,T,L,ps,O,(ia9.same SB).same S17,gT,nT,hp17,pl2,(λz hz=>⟨(hps15 z hz).1.same S17,(hps15 z hz).2⟩),L2,λbA H18 s18 hbA=>⟨_,O,!bA,O,?_⟩⟩
       cases bA with
       | false=>
        refine wC ?_
        refine ra true H18 s18 ?_
        exact (e2.mpr (.inr (.inl λz=>absurd (hbA.mpr z) AS))).symm
       | true=>
        refine wc ⟨_,O,_,O,ov,pr,B,L,ps,O,(ib9.same SB).same (S17.trans s18),gB,nB,s18 _ _ hp17,pl2,(λz hz=>⟨(hps15 z hz).1.same (S17.trans s18),Q4 hSh (hps15 z hz).2⟩),L2,λbB H19 s19 hbB=>⟨_,O,?_⟩⟩
        refine ra (!bB) H19 (s18.trans s19) ?_
        rw[BU,e2]
        cases bB with
        | false=>exact⟨λ_=>.inr (.inr λz=>absurd (hbB.mpr z) AS),λ_=>rfl⟩
        | true=>
         refine⟨λz=>(by cases z),λz=>?_⟩
         rcases z with z | z | z
         ·exact absurd z hb
         ·exact absurd (hbA.mp rfl) z
         ·exact absurd (hbB.mp rfl) z
    case ra=>
     intro b Hx sx eb
     subst eb
     refine⟨_,O,.inl ⟨D,_,2,_,O,O,SqL.of (sx _ _ hD18),O,_,O,O,_,O,Zz (λz=>absurd z (by simp)) (λ_=>?_)⟩⟩
     exact⟨⟨_,_,_,_,_,_,_,_,O⟩,SB.trans (S17.trans sx)⟩
 ·rintro σ H8 ⟨⟨x5,x6,x7,x8,x9,x10,x11,x12,rfl⟩,s8⟩
  exact q H8
end
theorem Qu {α:Type}:∀ {us:List α},us.length=1->∃ x0,us=[x0]
 | [x0],_=>⟨x0,rfl⟩
theorem J8 {α:Type}:∀ {us:List α},us.length=2->∃ x0 x1,us=[x0,x1]
 | [x0,x1],_=>⟨x0,x1,rfl⟩
theorem Qv {α:Type}:∀ {us:List α},us.length=3->∃ x0 x1 x2,us=[x0,x1,x2]
 | [x0,x1,x2],_=>⟨x0,x1,x2,rfl⟩
theorem za6 {α:Type}:∀ {us:List α},us.length=4->∃ x0 x1 x2 x3,us=[x0,x1,x2,x3]
 | [x0,x1,x2,x3],_=>⟨x0,x1,x2,x3,rfl⟩
theorem lenK5 {α:Type}:∀ {us:List α},us.length=5->∃ x0 x1 x2 x3 x4,us=[x0,x1,x2,x3,x4]
 | [x0,x1,x2,x3,x4],_=>⟨x0,x1,x2,x3,x4,rfl⟩
def FD (K:Fs) (x:Str) (st:Stmt):Prop:=∃ (f:Addr) (fd:FuncData),PySem.W.nsIn K mainGlobals x=some (some (.ref f))/\PySem.W.keepIn K (.ref f)=true/\Fun K x x st f fd
def qr {K:Fs} {x:Str} {st:Stmt} {f:Addr} {oc kV dc pm cd ct:Value} {od an:Option Addr} {sl:Array (Option Value)} (a:PySem.W.nsIn K mainGlobals x=some (some (.ref f))) (l:K.lookup f=some ⟨oc,od,.func (PySem.W.fnOf x x (ZD st) (Zj st) (zn st) .none kV dc pm an cd ct),sl⟩) (c:PySem.W.codeIn K cd x=true) (k:PySem.W.keepIn K (.ref f)=true):FD K x st:=⟨f,_,a,k,fun_mk l c k⟩
def zM {P:Program} {w:World} {K:Fs} {mg:Str->Option Value} {h base:Heap} {x:Str} {st:Stmt} {k:Nat} {ps:List Str} {sp:Sp} (X:K.In h) (G:h.Ns mainGlobals mg) (d:FD K x st) (ok:∀ f fd,Fun K x x st f fd->ji P w K mg base CX0 k f fd ps sp) (hb:∀ (kV dc pm:Value) (an:Option Addr) (cd ct:Value) (us:List Value),us.length=ps.length->bindArgs (PySem.W.fnOf x x (ZD st) (Zj st) (zn st) .none kV dc pm an cd ct) ⟨us,[]⟩=pure (ps.zip us)):Def P w K mg base k x ps sp:=by
 obtain⟨f,fd,a,k,F⟩:=d
 exact⟨f,fd,ok f fd F,D8 X G a,k,F.binds hb⟩
def all_mk {l:PySem.W.OpenLaw} {w:World} {K:Fs} {h:Heap} {mg:Str->Option Value} {fa fL  : Addr} (X:K.In h) (G:h.Ns mainGlobals mg) (hfa:mg "law" = some (.ref fa)) {od an:Option Addr} {sl:Array (Option Value)} {oc kV dc pm cd ct:Value}
  (h0:FD K "has_small_letters_alone" zV)
  (h1:FD K "is_letter" Qp)
  (h2:FD K "written_parts" jO)
  (h3:FD K "letters_of_all" qT)
  (h4:FD K "with_letter" Zp)
  (h5:FD K "cells_by_name" jd)
  (h6:FD K "check_names" Zq)
  (h7:FD K "next_places" jC)
  (h8:FD K "possible_within" qN)
  (h9:FD K "is_closed" jP)
  (h10:FD K "answer_by" Zr)
  (h11:FD K "follows" JZ)
  (h12:FD K "steps_of" Ze)
  (h13:FD K "stepped" J1)
  (h14:FD K "first_places" jn)
  (h15:FD K "first_places" je)
  (h16:FD K "parted_further" qU)
  (h17:FD K "grades_with" jD)
  (h18:FD K "alike" J4)
  (h19:FD K "cell_places" Zs)
  (h20:FD K "remade" Z3)
  (h21:FD K "shrunk" QM)
  (h22:FD K "shapes_of" Zt)
  (h23:FD K "cells_at" Z4)
  (h24:FD K "paired" Zu)
  (h25:FD K "keeps" WN)
  (h26:FD K "part_of" ZU)
  (h27:FD K "turned" Jq)
  (h28:FD K "_law_numbers" Zv)
  (h29:FD K "_law_names" Qq)
  (h30:FD K "_law_table" jT)
  (h31:FD K "_law_saying" jY)
  (h32:FD K "_law_cells" Qr)
  (h33:FD K "_law_grade" Qs)
  (h34:FD K "_law_gradings" j9)
  (h35:FD K "_law_letters" Zw)
  (h36:FD K "_law_all_letters" jl)
  (h37:FD K "_law_bars" QX)
  (h38:FD K "_law_follows" jE)
  (h39:FD K "_law_met" QO)
  (h40:FD K "_law_like" Zf)
  (h41:FD K "_law_closed" j4)
  (h42:FD K "_law_order" Qt)
  (h43:FD K "_law_told" QY)
  (aL:PySem.W.nsIn K mainGlobals "law" = some (some (.ref fL))) (lL:K.lookup fL=some ⟨oc,od,.func (PySem.W.fnOf "law" "law" (ZD wy) (Zj wy) (zn wy) .none kV dc pm an cd ct),sl⟩) (cL:PySem.W.codeIn K cd "law" = true) (kL:PySem.W.keepIn K (.ref fL)=true)
  (z0:PySem.W.nsIn K mainGlobals "abs" = some none)
  (z1:PySem.W.nsIn K mainGlobals "range" = some none)
  (z2:PySem.W.nsIn K mainGlobals "tuple" = some none)
  (z3:PySem.W.nsIn K mainGlobals "list" = some none)
  (z4:PySem.W.nsIn K mainGlobals "isinstance" = some none)
  (z5:PySem.W.nsIn K mainGlobals "int" = some none)
  (z6:PySem.W.nsIn K mainGlobals "str" = some none)
  (z7:PySem.W.nsIn K mainGlobals "len" = some none)
  (z8:PySem.W.nsIn K mainGlobals "all" = some none)
  (z9:PySem.W.nsIn K mainGlobals "any" = some none)
  (z10:PySem.W.nsIn K mainGlobals "dict" = some none)
  (z11:PySem.W.nsIn K mainGlobals "set" = some none)
  (z12:PySem.W.nsIn K mainGlobals "sorted" = some none)
  (z13:PySem.W.nsIn K mainGlobals "reversed" = some none)
  (z14:PySem.W.nsIn K mainGlobals "enumerate" = some none)
  (z15:PySem.W.nsIn K mainGlobals "zip" = some none)
  {yt0:Tok} (y0:PySem.W.nsIn K mainGlobals "MOST_GRADES" = some (some (.int 9 yt0)))
  : ∃ fd:FuncData,(∀ (s:Shared) (v:Value),BindsTo s fd ⟨[v],[]⟩ [("_law_script",v)])/\∀ base:Heap,K.In base->base.Ns mainGlobals mg->ji l.prog w K mg base CX0 40 fa fd ["_law_script"] (spLaw K):=by
 have e:=hfa.symm.trans (D8 X G aL)
 cases e
 have gb:Gb mg:=⟨A8 X G z0,A8 X G z1,A8 X G z2,A8 X G z3,A8 X G z4,A8 X G z5,A8 X G z6,A8 X G z7,A8 X G z8,A8 X G z9,A8 X G z10,A8 X G z11,A8 X G z12,A8 X G z13,A8 X G z14,A8 X G z15,⟨_,D8 X G y0,_,rfl⟩⟩
 refine⟨PySem.W.fnOf "law" "law" (ZD wy) (Zj wy) (zn wy) .none kV dc pm an cd ct,λs v=>.of_eq rfl,λbase _ _=>?_⟩
 have d_has_small_letters_alone:Def l.prog w K mg base 1 "has_small_letters_alone" ["text"] Yg:=zM X G h0 (λ_ _ F=>jW F gb) λ_ _ _ _ _ _ us hl=>by obtain⟨z0_,rfl⟩:=Qu hl;rfl
 have d_is_letter:Def l.prog w K mg base 2 "is_letter" ["thing"] xP:=zM X G h1 (λ_ _ F=>yC F gb d_has_small_letters_alone) λ_ _ _ _ _ _ us hl=>by obtain⟨z0_,rfl⟩:=Qu hl;rfl
 have d_written_parts:Def l.prog w K mg base 3 "written_parts" ["S"] Y8:=zM X G h2 (λ_ _ F=>Jb F gb d_is_letter) λ_ _ _ _ _ _ us hl=>by obtain⟨z0_,rfl⟩:=Qu hl;rfl
 have d_letters_of_all:Def l.prog w K mg base 4 "letters_of_all" ["sayings"] Ww:=zM X G h3 (λ_ _ F=>QU F gb d_written_parts d_is_letter) λ_ _ _ _ _ _ us hl=>by obtain⟨z0_,rfl⟩:=Qu hl;rfl
 have d_with_letter:Def l.prog w K mg base 1 "with_letter" ["by_letter", "letter", "given"] Yh:=zM X G h4 (λ_ _ F=>wm F gb) λ_ _ _ _ _ _ us hl=>by obtain⟨z0_,z1_,z2_,rfl⟩:=Qv hl;rfl
 have d_cells_by_name:Def l.prog w K mg base 1 "cells_by_name" ["H"] zax:=zM X G h5 (λ_ _ F=>Jd F gb) λ_ _ _ _ _ _ us hl=>by obtain⟨z0_,rfl⟩:=Qu hl;rfl
 have d_check_names:Def l.prog w K mg base 3 "check_names" ["shapes", "parts"] zay:=zM X G h6 (λ_ _ F=>wo F gb d_is_letter) λ_ _ _ _ _ _ us hl=>by obtain⟨z0_,z1_,rfl⟩:=J8 hl;rfl
 have d_next_places:Def l.prog w K mg base 1 "next_places" ["places", "many", "grades"] Y6:=zM X G h7 (λ_ _ F=>wq F gb) λ_ _ _ _ _ _ us hl=>by obtain⟨z0_,z1_,z2_,rfl⟩:=Qv hl;rfl
 have r_possible_within:∀ j,Def l.prog w K mg base (6+j) "possible_within" ["cells", "many", "S", "sets"] (Y9 j):=λj=>by
  induction j with
  | zero=>exact zM X G h8 (λ_ _ _=>⟨λ_ _ _ _ h=>False.elim h,λ_ _ _ _ _ _ _ _ _ _ _ _ _ h=>False.elim h⟩) λ_ _ _ _ _ _ us hl=>by obtain⟨z0_,z1_,z2_,z3_,rfl⟩:=za6 hl;rfl
  | succ j ih=>exact zM X G h8 (λ_ _ F=>QL F gb d_is_letter d_next_places j ih) λ_ _ _ _ _ _ us hl=>by obtain⟨z0_,z1_,z2_,z3_,rfl⟩:=za6 hl;rfl
 have d_possible_within:=r_possible_within 12
 have d_is_closed:Def l.prog w K mg base 20 "is_closed" ["T", "premises", "S", "sets"] Wx:=zM X G h9 (λ_ _ F=>yD F gb d_cells_by_name d_possible_within) λ_ _ _ _ _ _ us hl=>by obtain⟨z0_,z1_,z2_,z3_,rfl⟩:=za6 hl;rfl
 have r_answer_by:∀ j,Def l.prog w K mg base (22+j) "answer_by" ["T", "premises", "S", "letters", "sets"] (Jn j):=λj=>by
  induction j with
  | zero=>exact zM X G h10 (λ_ _ _=>⟨λ_ _ _ _ h=>False.elim h,λ_ _ _ _ _ _ _ _ _ _ _ _ _ h=>False.elim h⟩) λ_ _ _ _ _ _ us hl=>by obtain⟨z0_,z1_,z2_,z3_,z4_,rfl⟩:=lenK5 hl;rfl
  | succ j ih=>exact zM X G h10 (λ_ _ F=>yE F gb d_is_closed d_with_letter j ih) λ_ _ _ _ _ _ us hl=>by obtain⟨z0_,z1_,z2_,z3_,z4_,rfl⟩:=lenK5 hl;rfl
 have d_answer_by:=r_answer_by 6
 have d_follows:Def l.prog w K mg base 30 "follows" ["T", "premises", "S"] QH:=zM X G h11 (λ_ _ F=>xV F gb d_check_names d_cells_by_name d_written_parts d_letters_of_all d_answer_by) λ_ _ _ _ _ _ us hl=>by obtain⟨z0_,z1_,z2_,rfl⟩:=Qv hl;rfl
 have d_steps_of:Def l.prog w K mg base 1 "steps_of" ["T"] Yq:=zM X G h12 (λ_ _ F=>Yw F gb) λ_ _ _ _ _ _ us hl=>by obtain⟨z0_,rfl⟩:=Qu hl;rfl
 have d_stepped:Def l.prog w K mg base 1 "stepped" ["cells", "many", "step", "x"] JY:=zM X G h13 (λ_ _ F=>xX F gb) λ_ _ _ _ _ _ us hl=>by obtain⟨z0_,z1_,z2_,z3_,rfl⟩:=za6 hl;rfl
 have d_first_places:Def l.prog w K mg base 1 "first_places" ["things"] WG:=zM X G h14 (λ_ _ F=>J3 F gb) λ_ _ _ _ _ _ us hl=>by obtain⟨z0_,rfl⟩:=Qu hl;rfl
 have d_first_placesL:Def l.prog w K mg base 1 "first_places" ["things"] WH:=zM X G h15 (λ_ _ F=>Jf F gb) λ_ _ _ _ _ _ us hl=>by obtain⟨z0_,rfl⟩:=Qu hl;rfl
 have d_parted_further:Def l.prog w K mg base 3 "parted_further" ["T", "marks"] WI:=zM X G h16 (λ_ _ F=>QW F gb d_cells_by_name d_steps_of d_stepped d_first_placesL) λ_ _ _ _ _ _ us hl=>by obtain⟨z0_,z1_,rfl⟩:=J8 hl;rfl
 have d_grades_with:Def l.prog w K mg base 1 "grades_with" ["marks", "mark"] zaM:=zM X G h17 (λ_ _ F=>wt F gb) λ_ _ _ _ _ _ us hl=>by obtain⟨z0_,z1_,rfl⟩:=J8 hl;rfl
 have d_alike:Def l.prog w K mg base 4 "alike" ["T"] Yr:=zM X G h18 (λ_ _ F=>ok_alike F gb d_first_places d_parted_further d_grades_with) λ_ _ _ _ _ _ us hl=>by obtain⟨z0_,rfl⟩:=Qu hl;rfl
 have d_cell_places:Def l.prog w K mg base 2 "cell_places" ["many", "grades", "places"] ZQ:=zM X G h19 (λ_ _ F=>wu F gb d_next_places) λ_ _ _ _ _ _ us hl=>by obtain⟨z0_,z1_,z2_,rfl⟩:=Qv hl;rfl
 have d_remade:Def l.prog w K mg base 3 "remade" ["T", "olds", "news"] ZR:=zM X G h20 (λ_ _ F=>za1 F gb d_cell_places) λ_ _ _ _ _ _ us hl=>by obtain⟨z0_,z1_,z2_,rfl⟩:=Qv hl;rfl
 have d_shrunk:Def l.prog w K mg base 5 "shrunk" ["T"] WJ:=zM X G h21 (λ_ _ F=>za2 F gb d_alike d_remade) λ_ _ _ _ _ _ us hl=>by obtain⟨z0_,rfl⟩:=Qu hl;rfl
 have d_shapes_of:Def l.prog w K mg base 1 "shapes_of" ["T"] WK:=zM X G h22 (λ_ _ F=>yG F gb) λ_ _ _ _ _ _ us hl=>by obtain⟨z0_,rfl⟩:=Qu hl;rfl
 have d_cells_at:Def l.prog w K mg base 3 "cells_at" ["connective", "many", "grades"] spAt:=zM X G h23 (λ_ _ F=>Yy F gb d_cell_places) λ_ _ _ _ _ _ us hl=>by obtain⟨z0_,z1_,z2_,rfl⟩:=Qv hl;rfl
 have d_paired:Def l.prog w K mg base 4 "paired" ["one", "other"] Ys:=zM X G h24 (λ_ _ F=>za3 F gb d_shapes_of d_cells_at) λ_ _ _ _ _ _ us hl=>by obtain⟨z0_,z1_,rfl⟩:=J8 hl;rfl
 have d_keeps:Def l.prog w K mg base 3 "keeps" ["connective", "many", "grades"] Yp:=zM X G h25 (λ_ _ F=>ok_keeps F gb d_cell_places) λ_ _ _ _ _ _ us hl=>by obtain⟨z0_,z1_,z2_,rfl⟩:=Qv hl;rfl
 have d_part_of:Def l.prog w K mg base 4 "part_of" ["T", "grades"] Yt:=zM X G h26 (λ_ _ F=>xZ F gb d_keeps d_remade) λ_ _ _ _ _ _ us hl=>by obtain⟨z0_,z1_,rfl⟩:=J8 hl;rfl
 have d_turned:Def l.prog w K mg base 4 "turned" ["T", "order"] WL:=zM X G h27 (λ_ _ F=>za5 F gb d_remade) λ_ _ _ _ _ _ us hl=>by obtain⟨z0_,z1_,rfl⟩:=J8 hl;rfl
 have d_law_numbers:Def l.prog w K mg base 1 "_law_numbers" ["_law_script", "_law_k", "_law_many"] (xc K):=zM X G h28 (λ_ _ F=>wv F gb) λ_ _ _ _ _ _ us hl=>by obtain⟨z0_,z1_,z2_,rfl⟩:=Qv hl;rfl
 have d_law_names:Def l.prog w K mg base 1 "_law_names" ["_law_numbers_here"] Yl:=zM X G h29 (λ_ _ F=>yH F gb) λ_ _ _ _ _ _ us hl=>by obtain⟨z0_,rfl⟩:=Qu hl;rfl
 have d_law_table:Def l.prog w K mg base 2 "_law_table" ["_law_script", "_law_k", "_law_sizes"] (Ym K):=zM X G h30 (λ_ _ F=>yI F gb d_law_numbers d_law_names) λ_ _ _ _ _ _ us hl=>by obtain⟨z0_,z1_,z2_,rfl⟩:=Qv hl;rfl
 have d_law_saying:Def l.prog w K mg base 1 "_law_saying" ["_law_numbers_here", "_law_tools", "_law_letters_here"] WB:=zM X G h31 (λ_ _ F=>WO F gb) λ_ _ _ _ _ _ us hl=>by obtain⟨z0_,z1_,z2_,rfl⟩:=Qv hl;rfl
 have d_law_cells:Def l.prog w K mg base 1 "_law_cells" ["_law_table_here", "_law_name", "_law_places"] WC:=zM X G h32 (λ_ _ F=>yJ F gb) λ_ _ _ _ _ _ us hl=>by obtain⟨z0_,z1_,z2_,rfl⟩:=Qv hl;rfl
 have r_law_grade:∀ j,Def l.prog w K mg base (3+j) "_law_grade" ["_law_table_here", "_law_saying_here", "_law_grading"] (JU j):=λj=>by
  induction j with
  | zero=>exact zM X G h33 (λ_ _ _=>⟨λ_ _ _ _ h=>False.elim h,λ_ _ _ _ _ _ _ _ _ _ _ _ _ h=>False.elim h⟩) λ_ _ _ _ _ _ us hl=>by obtain⟨z0_,z1_,z2_,rfl⟩:=Qv hl;rfl
  | succ j ih=>exact zM X G h33 (λ_ _ F=>yK F gb d_law_cells j ih) λ_ _ _ _ _ _ us hl=>by obtain⟨z0_,z1_,z2_,rfl⟩:=Qv hl;rfl
 have d_law_grade:=r_law_grade 12
 have d_law_gradings:Def l.prog w K mg base 1 "_law_gradings" ["_law_many", "_law_letters_here"] WD:=zM X G h34 (λ_ _ F=>J5 F gb) λ_ _ _ _ _ _ us hl=>by obtain⟨z0_,z1_,rfl⟩:=J8 hl;rfl
 have r_law_letters:∀ j,Def l.prog w K mg base (1+j) "_law_letters" ["_law_saying_here"] (spOfL j):=λj=>by
  induction j with
  | zero=>exact zM X G h35 (λ_ _ _=>⟨λ_ _ _ _ h=>False.elim h,λ_ _ _ _ _ _ _ _ _ _ _ _ _ h=>False.elim h⟩) λ_ _ _ _ _ _ us hl=>by obtain⟨z0_,rfl⟩:=Qu hl;rfl
  | succ j ih=>exact zM X G h35 (λ_ _ F=>ww F gb j ih) λ_ _ _ _ _ _ us hl=>by obtain⟨z0_,rfl⟩:=Qu hl;rfl
 have d_law_letters:=r_law_letters 12
 have d_law_all_letters:Def l.prog w K mg base 14 "_law_all_letters" ["_law_sayings"] xf:=zM X G h36 (λ_ _ F=>QN F gb d_law_letters) λ_ _ _ _ _ _ us hl=>by obtain⟨z0_,rfl⟩:=Qu hl;rfl
 have d_law_bars:Def l.prog w K mg base 16 "_law_bars" ["_law_table_here", "_law_premises", "_law_saying_here", "_law_grading"] Yi:=zM X G h37 (λ_ _ F=>Yz F gb d_law_grade) λ_ _ _ _ _ _ us hl=>by obtain⟨z0_,z1_,z2_,z3_,rfl⟩:=za6 hl;rfl
 have d_law_follows:Def l.prog w K mg base 20 "_law_follows" ["_law_table_here", "_law_premises", "_law_saying_here"] xg:=zM X G h38 (λ_ _ F=>wx F gb d_law_all_letters d_law_gradings d_law_bars) λ_ _ _ _ _ _ us hl=>by obtain⟨z0_,z1_,z2_,rfl⟩:=Qv hl;rfl
 have d_law_met:Def l.prog w K mg base 18 "_law_met" ["_law_table_here", "_law_premises"] spMet:=zM X G h39 (λ_ _ F=>Xa F gb d_law_all_letters d_law_gradings d_law_grade) λ_ _ _ _ _ _ us hl=>by obtain⟨z0_,z1_,rfl⟩:=J8 hl;rfl
 have d_law_like:Def l.prog w K mg base 1 "_law_like" ["_law_table_here", "_law_numbers_here"] za0:=zM X G h40 (λ_ _ F=>YA F gb) λ_ _ _ _ _ _ us hl=>by obtain⟨z0_,z1_,rfl⟩:=J8 hl;rfl
 have d_law_closed:Def l.prog w K mg base 1 "_law_closed" ["_law_table_here", "_law_number"] Yu:=zM X G h41 (λ_ _ F=>WP F gb) λ_ _ _ _ _ _ us hl=>by obtain⟨z0_,z1_,rfl⟩:=J8 hl;rfl
 have d_law_order:Def l.prog w K mg base 1 "_law_order" ["_law_many", "_law_number"] spOrd:=zM X G h42 (λ_ _ F=>yL F gb) λ_ _ _ _ _ _ us hl=>by obtain⟨z0_,z1_,rfl⟩:=J8 hl;rfl
 have d_law_told:Def l.prog w K mg base 34 "_law_told" ["_law_table_here", "_law_premises", "_law_saying_here"] WM:=zM X G h43 (λ_ _ F=>YB F gb d_follows d_law_follows) λ_ _ _ _ _ _ us hl=>by obtain⟨z0_,z1_,z2_,rfl⟩:=Qv hl;rfl
 exact ok_law (fun_mk (st:=wy) lL cL kL) gb d_law_table d_law_numbers d_law_like d_paired d_part_of d_law_closed d_turned d_law_order d_shrunk d_law_saying d_law_told d_law_met
def walk {l:PySem.W.OpenLaw} {q:Program} {loose:List Str} {XP:(Str->Option Value)->Heap->Prop} {YP:World->Heap->Prop} {d:DefRec} {K:Params->Fs} (hn:l.most=some 63) (hdf:d.params.defaults=[])
  (hY:∀ (w:World) (h:Heap),YP w h->(K w.params).In h)
  (F:∀ (w:World) (mg:Str->Option Value) (fa:Addr) (h:Heap),(K w.params).In h->h.Ns mainGlobals mg->mg d.name=some (.ref fa) ->
   ∃ fd:FuncData,(∀ (s:Shared) (u:Value),BindsTo s fd ⟨[u],[]⟩ [("_law_script",u)])/\∀ base:Heap,(K w.params).In base->base.Ns mainGlobals mg->ji l.prog w (K w.params) mg base CX0 40 fa fd ["_law_script"] (spLaw (K w.params))) :
  PySem.W.WalkO q loose XP YP l.row.toRowW d [] (λf vs=>PySem.call f vs):=
 L2.Xv (n:=63) (k:=40) (x := "_law_script") (CX:=λ_=>CX0) (sp:=λw=>spLaw (K w.params)) hn (by decide) hdf ⟨rfl,by decide,by decide⟩ hY F (λ_ _ a ns hl _ hS=>⟨a,ns,rfl,hS,hl,λ_=>rfl⟩) λ_ _ _ _ _ z=>z
end K97
open PySem PySem.W PyProof.Rows
-- These names are taken so that the head lays no faster copies of the text's constants: the facts below are proved
-- without them as fast, and with them the compiled file has over 64 MB. The proof does not use these names.
def PySem.W.Fast.tw17077230191792128673 : True := trivial
def PySem.W.Fast.tw6454624800485344728 : True := trivial
def PySem.W.Fast.tw1427054353566078433 : True := trivial
def PySem.W.Fast.tw3253678671352494940 : True := trivial
def PySem.W.Fast.tw8598748501549000276 : True := trivial
def PySem.W.Fast.tw7666533649516266139 : True := trivial
def PySem.W.Fast.tw13344729227620835746 : True := trivial
def PySem.W.Fast.tw4487555502437255956 : True := trivial
def PySem.W.Fast.tw10454129297381289185 : True := trivial
def PySem.W.Fast.tw15103510239656961010 : True := trivial
def PySem.W.Fast.tw9946867616224561613 : True := trivial
def PySem.W.Fast.tw17485348267572360850 : True := trivial
def PySem.W.Fast.tw3529418504475253565 : True := trivial
def PySem.W.Fast.tw751677062333579946 : True := trivial
def PySem.W.Fast.tw7288876205834550269 : True := trivial
def PySem.W.Fast.tw16319401690572266491 : True := trivial
set_option maxRecDepth 100000 in
set_option maxHeartbeats 0 in
theorem PySem.Challenge.cw_truthgrades_k97_whole_tables_made_of_tab_holds : PySem.Challenge.rw_truthgrades_k97_whole_tables_made_of_tab.Holds := by
 w_on;o_law;k_head;(case hw=>w_witness2)
 k_fill
 refine K97.walk (l:=PySem.Challenge.rw_truthgrades_k97_whole_tables_made_of_tab) rfl rfl (fun w h Y=>PySem.W.kIn_of Y) ?F
 case F=>
  intro w mg fa h KX G hmg
  refine' K97.all_mk KX G hmg (K97.qr ?a0 ?l0 ?c0 ?k0) (K97.qr ?a1 ?l1 ?c1 ?k1) (K97.qr ?a2 ?l2 ?c2 ?k2) (K97.qr ?a3 ?l3 ?c3 ?k3) (K97.qr ?a4 ?l4 ?c4 ?k4) (K97.qr ?a5 ?l5 ?c5 ?k5) (K97.qr ?a6 ?l6 ?c6 ?k6) (K97.qr ?a7 ?l7 ?c7 ?k7) (K97.qr ?a8 ?l8 ?c8 ?k8) (K97.qr ?a9 ?l9 ?c9 ?k9) (K97.qr ?a10 ?l10 ?c10 ?k10) (K97.qr ?a11 ?l11 ?c11 ?k11) (K97.qr ?a12 ?l12 ?c12 ?k12) (K97.qr ?a13 ?l13 ?c13 ?k13) (K97.qr ?a14 ?l14 ?c14 ?k14) (K97.qr ?a15 ?l15 ?c15 ?k15) (K97.qr ?a16 ?l16 ?c16 ?k16) (K97.qr ?a17 ?l17 ?c17 ?k17) (K97.qr ?a18 ?l18 ?c18 ?k18) (K97.qr ?a19 ?l19 ?c19 ?k19) (K97.qr ?a20 ?l20 ?c20 ?k20) (K97.qr ?a21 ?l21 ?c21 ?k21) (K97.qr ?a22 ?l22 ?c22 ?k22) (K97.qr ?a23 ?l23 ?c23 ?k23) (K97.qr ?a24 ?l24 ?c24 ?k24) (K97.qr ?a25 ?l25 ?c25 ?k25) (K97.qr ?a26 ?l26 ?c26 ?k26) (K97.qr ?a27 ?l27 ?c27 ?k27) (K97.qr ?a28 ?l28 ?c28 ?k28) (K97.qr ?a29 ?l29 ?c29 ?k29) (K97.qr ?a30 ?l30 ?c30 ?k30) (K97.qr ?a31 ?l31 ?c31 ?k31) (K97.qr ?a32 ?l32 ?c32 ?k32) (K97.qr ?a33 ?l33 ?c33 ?k33) (K97.qr ?a34 ?l34 ?c34 ?k34) (K97.qr ?a35 ?l35 ?c35 ?k35) (K97.qr ?a36 ?l36 ?c36 ?k36) (K97.qr ?a37 ?l37 ?c37 ?k37) (K97.qr ?a38 ?l38 ?c38 ?k38) (K97.qr ?a39 ?l39 ?c39 ?k39) (K97.qr ?a40 ?l40 ?c40 ?k40) (K97.qr ?a41 ?l41 ?c41 ?k41) (K97.qr ?a42 ?l42 ?c42 ?k42) (K97.qr ?a43 ?l43 ?c43 ?k43) ?a44 ?l44 ?c44 ?k44 ?z0 ?z1 ?z2 ?z3 ?z4 ?z5 ?z6 ?z7 ?z8 ?z9 ?z10 ?z11 ?z12 ?z13 ?z14 ?z15 ?y0
  (case a0=>k_is);(case l0=>k_is);(case c0=>k_is);(case k0=>k_is)
  (case a1=>k_is);(case l1=>k_is);(case c1=>k_is);(case k1=>k_is)
  (case a2=>k_is);(case l2=>k_is);(case c2=>k_is);(case k2=>k_is)
  (case a3=>k_is);(case l3=>k_is);(case c3=>k_is);(case k3=>k_is)
  (case a4=>k_is);(case l4=>k_is);(case c4=>k_is);(case k4=>k_is)
  (case a5=>k_is);(case l5=>k_is);(case c5=>k_is);(case k5=>k_is)
  (case a6=>k_is);(case l6=>k_is);(case c6=>k_is);(case k6=>k_is)
  (case a7=>k_is);(case l7=>k_is);(case c7=>k_is);(case k7=>k_is)
  (case a8=>k_is);(case l8=>k_is);(case c8=>k_is);(case k8=>k_is)
  (case a9=>k_is);(case l9=>k_is);(case c9=>k_is);(case k9=>k_is)
  (case a10=>k_is);(case l10=>k_is);(case c10=>k_is);(case k10=>k_is)
  (case a11=>k_is);(case l11=>k_is);(case c11=>k_is);(case k11=>k_is)
  (case a12=>k_is);(case l12=>k_is);(case c12=>k_is);(case k12=>k_is)
  (case a13=>k_is);(case l13=>k_is);(case c13=>k_is);(case k13=>k_is)
  (case a14=>k_is);(case l14=>k_is);(case c14=>k_is);(case k14=>k_is)
  (case a15=>k_is);(case l15=>k_is);(case c15=>k_is);(case k15=>k_is)
  (case a16=>k_is);(case l16=>k_is);(case c16=>k_is);(case k16=>k_is)
  (case a17=>k_is);(case l17=>k_is);(case c17=>k_is);(case k17=>k_is)
  (case a18=>k_is);(case l18=>k_is);(case c18=>k_is);(case k18=>k_is)
  (case a19=>k_is);(case l19=>k_is);(case c19=>k_is);(case k19=>k_is)
  (case a20=>k_is);(case l20=>k_is);(case c20=>k_is);(case k20=>k_is)
  (case a21=>k_is);(case l21=>k_is);(case c21=>k_is);(case k21=>k_is)
  (case a22=>k_is);(case l22=>k_is);(case c22=>k_is);(case k22=>k_is)
  (case a23=>k_is);(case l23=>k_is);(case c23=>k_is);(case k23=>k_is)
  (case a24=>k_is);(case l24=>k_is);(case c24=>k_is);(case k24=>k_is)
  (case a25=>k_is);(case l25=>k_is);(case c25=>k_is);(case k25=>k_is)
  (case a26=>k_is);(case l26=>k_is);(case c26=>k_is);(case k26=>k_is)
  (case a27=>k_is);(case l27=>k_is);(case c27=>k_is);(case k27=>k_is)
  (case a28=>k_is);(case l28=>k_is);(case c28=>k_is);(case k28=>k_is)
  (case a29=>k_is);(case l29=>k_is);(case c29=>k_is);(case k29=>k_is)
  (case a30=>k_is);(case l30=>k_is);(case c30=>k_is);(case k30=>k_is)
  (case a31=>k_is);(case l31=>k_is);(case c31=>k_is);(case k31=>k_is)
  (case a32=>k_is);(case l32=>k_is);(case c32=>k_is);(case k32=>k_is)
  (case a33=>k_is);(case l33=>k_is);(case c33=>k_is);(case k33=>k_is)
  (case a34=>k_is);(case l34=>k_is);(case c34=>k_is);(case k34=>k_is)
  (case a35=>k_is);(case l35=>k_is);(case c35=>k_is);(case k35=>k_is)
  (case a36=>k_is);(case l36=>k_is);(case c36=>k_is);(case k36=>k_is)
  (case a37=>k_is);(case l37=>k_is);(case c37=>k_is);(case k37=>k_is)
  (case a38=>k_is);(case l38=>k_is);(case c38=>k_is);(case k38=>k_is)
  (case a39=>k_is);(case l39=>k_is);(case c39=>k_is);(case k39=>k_is)
  (case a40=>k_is);(case l40=>k_is);(case c40=>k_is);(case k40=>k_is)
  (case a41=>k_is);(case l41=>k_is);(case c41=>k_is);(case k41=>k_is)
  (case a42=>k_is);(case l42=>k_is);(case c42=>k_is);(case k42=>k_is)
  (case a43=>k_is);(case l43=>k_is);(case c43=>k_is);(case k43=>k_is)
  (case a44=>k_is);(case l44=>k_is);(case c44=>k_is);(case k44=>k_is)
  (case z0=>k_is)
  (case z1=>k_is)
  (case z2=>k_is)
  (case z3=>k_is)
  (case z4=>k_is)
  (case z5=>k_is)
  (case z6=>k_is)
  (case z7=>k_is)
  (case z8=>k_is)
  (case z9=>k_is)
  (case z10=>k_is)
  (case z11=>k_is)
  (case z12=>k_is)
  (case z13=>k_is)
  (case z14=>k_is)
  (case z15=>k_is)
  (case y0=>k_is)
