import PyProof.Rows.All
import Wide.All
import OpenK.AllK
import Wide.FinOn
import Lean
import PyProof.EqAt
import PyProof.EqKinds
import PyProof.TupleCall
import PySem.Challenge.RW_truthgrades_k40_whole_told_of_made_table
set_option bootstrap.genMatcherCode false
set_option genSizeOfSpec false
set_option maxHeartbeats 4000000
set_option maxRecDepth 100000
set_option linter.all false
set_option Elab.async false
abbrev TB:=PySem.Value → PySem.Shared → Prop
abbrev TC:=List Nat
abbrev TF:=List PySem.Value
abbrev TH:=Array PySem.Value
abbrev TJ:=List PySem.Str
local macro_rules | `(nofun) => `(by intro _; rfl)
local macro_rules | `(⋯) => `(by lia)
local macro_rules | `(∅) => `(by ac_rfl)
local macro_rules | `(tactic| ac_nf) => `(tactic| walk_at "f")
local macro_rules | `(tactic| ac_nf0) => `(tactic| exact ⟨rfl, by ac_rfl, by ac_rfl, by ac_rfl, by ac_rfl, rfl, by ac_rfl⟩)
local macro_rules | `(tactic| ac_rfl) => `(tactic| decide +kernel)
def O{α:Sort _}{a:α}:a=a:=rfl
abbrev Fv:=PySem.W.Frag
def AA:=@PySem.wpAny_bind
def AB:=@List.length_map
def AC:=@List.getElem?_eq_getElem
def AD:=@List.getElem?_eq_some_iff
def AE:=@PySem.Heap.get?_push_of_some
def AF:=@PySem.wpAny_pure
def AG:=@List.getElem?_map
def AH:=@Option.some.inj
def AI:=@Nat.le_refl
def AJ:=@List.length_append
def AK:=@List.mem_map
def AL:=@List.mem_of_getElem?
def AM:=@List.getD_eq_getElem?_getD
def AN:=@List.mem_singleton
def AO:=@List.map_append
def AQ:=@PySem.Heap.get?_push_size
def AR:=@PySem.Heap.lt_size
def AS:=@List.mem_range
def AU:=@List.length_range
def AV:=@Bool.false_ne_true
def AW:=@List.map_map
def AX:=@List.mem_append
def AY:=@Array.getElem?_toList
def AZ:=@Nat.ne_of_lt
def Aa:=@PyProof.Rows.wpS_bind
def Ab:=@List.map_congr_left
def Ac:=@PySem.Paired.length
def Ad:=@Array.length_toList
def Ae:=@List.length_take
def Af:=@List.map_cons
def Ag:=@decide_eq_false
def Ah:=@Nat.lt_of_lt_of_le
def Ai:=@PyProof.Rows.wpS_pure
def Aj:=@Option.map_eq_some_iff
def Ak:=@List.take_length
def Al:=@List.mem_cons
def Am:=@decide_eq_true
def An:=@Ne.symm
def Ao:=@List.size_toArray
def Ap:=@PySem.F.plainAttrs_list
def Aq:=@List.mem_append_left
def Ar:=@Nat.le_trans
def As:=@List.mem_iff_getElem?
def Au:=@List.mem_append_right
def Av:=@Int.toNat_natCast
def Aw:=@List.getElem?_eq_none
def Ax:=@List.length_cons
def Ay:=@Nat.eq_or_lt_of_le
def Az:=@List.append_nil
def A0:=@List.getElem?_range
def A2:=@of_decide_eq_true
def A3:=@PySem.wpAny_newObj_type
def A4:=@PySem.W.mg_none_of
def A5:=@List.mem_cons_self
def A6:=@PySem.wpAny_call_entry
def A7:=@List.pairwise_map
def A8:=@List.append_assoc
def A9:=@PySem.Heap.get?_update_self
def BA:=@Nat.lt_irrefl
def BB:=@List.all_eq_true
def BC:=@Nat.zero_le
def BD:=@List.mem_cons_of_mem
def BE:=@PySem.Heap.get?_update_other
def BF:=@congrArg
def BG:=@PySem.PassesOwn.never
def BH:=@List.range_succ
def BI:=@List.getElem?_append_right
def BJ:=@List.ext_getElem?
def BK:=@List.getElem?_append_left
def BL:=@PySem.wpAny_holding
def BM:=@PySem.Obj.data_mapFields
def BN:=@PyProof.Rows.callWith_type1
def BO:=@PySem.wpAny_field
def BP:=@Nat.mul_comm
def BQ:=@Classical.axiomOfChoice
def BR:=@Array.toList_append
def BS:=@List.pairwise_iff_getElem
def BU:=@Array.getElem?_eq_getElem
def BV:=@List.mem_flatMap
def BW:=@PySem.Heap.SameBut.update
def BX:=@List.take_of_length_le
def BY:=@PySem.wpAny_ite_split
def BZ:=@PySem.F.type_list_append
def Ba:=@PySem.F.slot_list_append
def Bb:=@List.getElem?_zip_eq_some
def Bc:=@List.extract_eq_take_drop
def Be:=@Nat.ne_of_gt
def Bf:=@Int.zero_add
def Bg:=@Array.getElem?_eq_none
def Bh:=@List.nodup_cons
def Bi:=@Nat.lt_succ_of_lt
def Bj:=@PySem.wpAny_attempt
def Bk:=@PyProof.Rows.wpS_forRange
def Bl:=@PySem.sizeLine_eq
def Bm:=@PySem.wpAny_rule
def Bo:=@PyProof.Rows.slot_tuple_getitem
def Bp:=@Nat.mul_le_mul_right
def Bq:=@List.pairwise_append
def Br:=@List.mem_of_mem_take
def Bt:=@Nat.le_add_right
def Bu:=@List.pairwise_lt_range
def Bv:=@Bool.and_eq_true
def Bw:=@PySem.wpAny_of_eq
def Bx:=@PySem.Around.under_plainId
def By:=@PySem.mem_of_lookup
def Bz:=@PySem.wpAny_isInstance
def B2:=@List.getElem?_take_of_lt
def B3:=@PySem.W.kia_one
def B4:=@PySem.wpAny_setField
def B5:=@PySem.wpAny_seqItems
def B6:=@List.filter_cons
def B7:=@List.Pairwise.filter
def B8:=@Array.toList_extract
def CA:=@List.idxOf_lt_length_of_mem
def CB:=@PyProof.Rows.wpS_mono
def CC:=@List.drop_eq_getElem_cons
def CD:=@PySem.wpAny_mono
def CF:=@PySem.F.called_set
def CG:=@Nat.mod_lt
def CH:=@Nat.lt_succ_self
def CI:=@List.filter_append
def CJ:=@PySem.codeAny_builtin
def CK:=@PySem.F.type_list_extend
def CL:=@PySem.F.slot_list_extend
def CM:=@List.Pairwise.imp_of_mem
def CN:=@PySem.Obj.isFreed_of_fields
def CO:=@PySem.F.slot_dict_valueiterator_next
def CP:=@List.length_eq_zero_iff
def CQ:=@PySem.wpAny_typeOf
def CS:=@PySem.plainId_quiet
def CT:=@List.nil_append
def CU:=@List.mem_filter
def CV:=@List.foldl_cons
def CW:=@PySem.isSubtype_type
def CY:=@List.replicate_succ
def CZ:=@Nat.le_of_lt
def Ca:=@List.all_cons
def Cb:=@PySem.F.slot_dict_keyiterator_next
def Cc:=@List.getElem?_drop
def Cd:=@Nat.div_lt_iff_lt_mul
def Ce:=@Int.natCast_mul
def Cf:=@decide_eq_true_eq
def Cg:=@PySem.call_meets
def Ci:=@PySem.F.slot_tuple_iterator_next
def Cj:=@Nat.succ_mul
def Ck:=@Nat.add_zero
def Co:=@List.getElem?_inj
def Cp:=@Array.toList_push
def Cq:=@PySem.builtinLookup_eq_fast
def Cr:=@List.cons.inj
def Ct:=@PySem.wpAny_specialOf
def Cu:=@PySem.wpAny_setState_of
def Cv:=@PySem.wpAny_dictEntries
def Cw:=@List.length_drop
def Cy:=@List.getElem_mem
def Cz:=@List.pairwise_cons
def C0:=@List.getElem_idxOf
def C2:=@Nat.not_lt_zero
def C3:=@List.of_mem_zip
def C4:=@List.length_zip
def C5:=@Bool.eq_iff_iff
def C6:=@PySem.W.mg_of
def C7:=@List.take_append_drop
def C8:=@List.length_filter_le
def C9:=@List.eq_nil_or_concat
def DA:=@List.concat_eq_append
def DB:=@List.Perm.append_left
def DC:=@PySem.wpAny_typeNameOfWhole_valiter
def DD:=@PySem.wpAny_typeNameOfWhole_keyiter
def DE:=@List.nodup_append
def DF:=@List.flatMap_cons
def DG:=@PySem.wpAny_setField_rec
def DH:=@PySem.wpAny_passesOwn
def DI:=@Nat.pow_le_pow_right
def DJ:=@Nat.le_succ
def DK:=@List.perm_ext_iff_of_nodup
def DL:=@List.nodup_iff_pairwise_ne
def DM:=@List.mem_of_mem_drop
def DN:=@List.getElem?_of_mem
def DO:=@List.Perm.refl
def DP:=@PySem.wpAny_notOrdered_dict
def DQ:=@Nat.pow_succ
def DR:=@PySem.F.plain_extend_loop
def DS:=@PySem.Obj.cls_mapFields
def DT:=@PyProof.Rows.F.plain_set_update_loop
def DU:=@Nat.pow_le_pow_left
def DV:=@List.length_reverse
def DW:=@List.flatMap_append
def DX:=@PySem.Heap.size_push
def DY:=@Nat.div_add_mod
def DZ:=@decide_eq_true_iff
def Da:=@Nat.lt_of_le_of_lt
def Dc:=@Nat.eq_zero_or_pos
def Dd:=@List.zip_cons_cons
def De:=@List.map_singleton
def Df:=@List.pairwise_singleton
def Dh:=@PySem.wpAny_typeNameOf_valiter
def Di:=@PySem.wpAny_typeNameOf_keyiter
def Dj:=@List.take_zero
def Dk:=@List.flatMap_singleton
def Dm:=@PySem.wpAny_updateSeq
def Dn:=@PySem.wpAny_execs_nil
def Do:=@PySem.wpAny_dictEpoch
def Dp:=@PySem.typeLookup_type
def Dq:=@PySem.F.slot_tuple_getattribute
def Dr:=@PySem.wpAny_getItem_str_slice
def Ds:=@PySem.F.slot_zip_next
def Dt:=@PySem.F.slot_list_getattribute
def Du:=@Nat.succ_le_succ
def Dv:=@Nat.mod_eq_of_lt
def Dw:=@Nat.div_eq_of_lt
def Dx:=@List.nodup_range
def Dy:=@List.any_cons
def Dz:=@PySem.wpAny_truthy_bool
def D5:=@PySem.wpAny_pyIter_slot
def D6:=@PySem.wpAny_pyIter_list
def D7:=@PySem.wpAny_fieldsOf
def D8:=@PySem.codeAny_mono
def D9:=@Nat.pow_one
def EA:=@List.getElem?_set_ne
def EB:=@Array.toList_reverse
def EC:=@Option.map_some
def ED:=@Nat.mul_add_mod
def EE:=@Nat.mul_add_div
def EF:=@List.reverse_append
def EG:=@PySem.wpAny_askSetting
def EH:=@Nat.sub_self
def EI:=@PySem.Txt.slice_le
def EJ:=@List.mem_filterMap
def EK:=@List.drop_zero
def EL:=@PySem.Heap.get?_none_of_le
def EM:=@PySem.SeqAt.EqAt.same
def EN:=@Nat.le_succ_of_le
def EO:=@List.take_sublist
def ER:=@List.flatten_cons
def ES:=@PySem.F.args_tuple_add_2
def ET:=@Option.isSome_iff_exists
def EU:=@PySem.wpAny_Call_Name_kw
def EV:=@PySem.tupleKind_room_in1
def EW:=@PySem.isSubtype_stop
def EX:=@decide_eq_false_iff_not
def EY:=@PySem.SeqAt.EqAt.of_refs
def EZ:=@PySem.F.type_list_index
def Ea:=@PySem.F.slot_list_index
def Eb:=@PySem.F.entry_tuple_add
def Ec:=@List.lookup_cons
def Ed:=@PySem.F.slot_tuple_add
def Ee:=@Nat.lt_trans
def Ef:=@Nat.lt_or_ge
def Eg:=@Nat.le_of_eq
def Eh:=@List.range_succ_eq_map
def Ei:=@List.map_nil
def Ej:=@List.length_pos_of_mem
def Ek:=@List.getElem?_set_self
def El:=@List.drop_eq_nil_of_le
def Em:=@List.Perm.append_right
def En:=@PySem.Calls.call_function_entry
def Eo:=@PySem.fits_of_scanBound
def Ep:=@PySem.SeqAt.RcAt.tuples
def Er:=@PySem.PassesOwn.leaving
def Es:=@Int.natCast_add
def Et:=@PySem.wpAny_handled
def Eu:=@List.length_replicate
def Ew:=@Sum.inl.inj
def Ex:=@List.length_dropLast
def Ey:=@PyProof.Rows.wpS_modify
def Ez:=@PySem.wpAny_pyNext_list_item
def E1:=@PyProof.Rows.F.entry_set_update_loop
def E2:=@List.filterMap_cons
def E3:=@PySem.Calls.callWith_builtin
def E4:=@PySem.post_val_or_str
def E5:=@PySem.am_miss_of_fast
def E6:=@List.map_take
def E7:=@List.map_drop
def E8:=@Int.ofNat_inj
def E9:=@PySem.wpAny_pyNext_list_end
def FA:=@PySem.wpAny_isOneOf_valiter
def FC:=@PySem.F.args_tuple_iterator_next_1
def FE:=@PySem.F.entry_tuple_iterator_next
def FF:=@PySem.wpAny_updateSeq_pair
def FG:=@PySem.wpAny_throw
def FK:=@PySem.wpAny_letGo
def FM:=@PySem.callType_codes
def FN:=@Nat.zero_add
def FQ:=@Nat.sub_zero
def FS:=@Nat.pow_zero
def FT:=@Nat.min_self
def FU:=@List.drop_sublist
def FV:=@List.all_map
def FW:=@Array.size_append
def FX:=@List.eraseIdxIfInBounds_toArray
def FY:=@Int.natCast_emod
def FZ:=@PySem.F.args_list_index_2
def Fb:=@Array.toList_map
def Fc:=@Array.toList_inj
def Fd:=@PySem.wpAny_onRaise
def Fe:=@PySem.wpAny_newList
def Ff:=@Nat.add_mul
def Fg:=@PySem.wpAny_pyIter_tuple
def Fh:=@PySem.SeqAt.list_indexAt
def Fi:=@Nat.le_antisymm
def Fj:=@List.dropLast_concat_getLast
def Fk:=@PySem.F.entry_list_index
def Fl:=@PySem.F.slot_tuple_getitem
def Fm:=@PySem.F.kt_typeCall_dict_1
def Fo:=@PySem.F.excBase_ValueError
def Fp:=@Int.fmod_eq_emod_of_nonneg
def Fq:=@Int.fdiv_eq_ediv_of_nonneg
def Fs:=@PySem.F.slot_list_index
def Ft:=@PySem.F.args_dict_valueiterator_next_1
def Fu:=@Array.getElem?_eq_some_iff
namespace L2
open PySem PySem.Spec PyProof.Rows
abbrev Key:=Sum Int Str
def yT:Key->Value->Bool
 |.inl k,v=>Value.isInt k v
 |.inr x,v=>Value.isStrOf x v
def keyH (w:World):Key->Int
 |.inl k=>hashInt k
 |.inr x=>hashStr w x
theorem ql:∀{k:Key}{v:Value},yT k v=true->(∃i t,k=Sum.inl i/\v=Value.int i t)\/(∃x t,k=Sum.inr x/\v=Value.str x t)
 |.inl i,v,h=>by obtain⟨t,e⟩:=Value.isInt_shape (k:=i) (v:=v) h;exact .inl ⟨i,t,O,e⟩
 |.inr x,v,h=>by obtain⟨t,e⟩:=Value.isStrOf_shape (x:=x) (v:=v) h;exact .inr ⟨x,t,O,e⟩
def Xk (i:Int)(t:Tok):yT (.inl i) (.int i t)=true:=by simp[yT,Value.isInt]
def Xl (x:Str)(t:Tok):yT (.inr x) (.str x t)=true:=by simp[yT,Value.isStrOf]
def key_ll (a b:Int):decide ((Sum.inl a:Key)=Sum.inl b)=(a==b):=by
 by_cases e:a=b
 ·subst e;simp
 ·have h:¬(Sum.inl a:Key)=Sum.inl b:=λq=>e (Ew q);rw[Ag h];exact (beq_eq_false_iff_ne.mpr e).symm
def key_rr (a b:Str):decide ((Sum.inr a:Key)=Sum.inr b)=decide (a=b):=by
 by_cases e:a=b
 ·subst e;simp
 ·have h:¬(Sum.inr a:Key)=Sum.inr b:=λq=>e (Sum.inr.inj q);rw[Ag h,Ag e]
def key_lr (a:Int)(b:Str):decide ((Sum.inl a:Key)=Sum.inr b)=false:=Ag (λq=>nomatch q)
def key_rl (a:Str)(b:Int):decide ((Sum.inr a:Key)=Sum.inl b)=false:=Ag (λq=>nomatch q)
def zS (prog:Program)(w:World):PySem.KeyKind prog w Key where
 is:=yT
 hash:=keyH w
 inj:=λv a b ha hb=>by
  rcases ql ha with ⟨i,t,rfl,rfl⟩|⟨x,t,rfl,rfl⟩
  ·rcases ql hb with ⟨j,u,rfl,e⟩|⟨y,u,rfl,e⟩
   ·injection e with e1 _;rw[e1]
   ·exact nomatch e
  ·rcases ql hb with ⟨j,u,rfl,e⟩|⟨y,u,rfl,e⟩
   ·exact nomatch e
   ·injection e with e1 _;rw[e1]
 byValue:=λk v h=>by rcases ql h with ⟨i,t,rfl,rfl⟩|⟨x,t,rfl,rfl⟩ <;> rfl
 pyHash:=λhv h=>by
  rcases ql hv with ⟨i,t,rfl,rfl⟩|⟨x,t,rfl,rfl⟩
  ·exact wpAny_pyHash_int h
  ·exact wpAny_pyHash_str h
 eqBool:=λhu hv h=>by
  rcases ql hu with ⟨i,t,rfl,rfl⟩|⟨x,t,rfl,rfl⟩
  ·rcases ql hv with ⟨j,u,rfl,rfl⟩|⟨y,u,rfl,rfl⟩
   ·rw[key_ll]at h;exact wpAny_eqBool_int h
   ·rw[key_lr]at h;exact SeqAt.EqAt.int_str i t y u _ _ _ _ h
  ·rcases ql hv with ⟨j,u,rfl,rfl⟩|⟨y,u,rfl,rfl⟩
   ·rw[key_rl]at h;exact SeqAt.EqAt.str_int x t j u _ _ _ _ h
   ·rw[key_rr]at h;exact wpAny_eqBool_str h
 «strs»:=λk x t v h=>by
  rcases ql h with ⟨i,u,rfl,e⟩|⟨y,u,rfl,e⟩
  ·exact nomatch e
  ·injection e with e1 _
   subst e1;cases v <;> rfl
def yU (prog:Program)(w:World)(i:Int)(t:Tok):(zS prog w).is (.inl i) (.int i t)=true:=Xk i t
def yV (prog:Program)(w:World)(x:Str)(t:Tok):(zS prog w).is (.inr x) (.str x t)=true:=Xl x t
inductive V where
 |non|bl (b:Bool)|int (i:Int)|str (x:Str)|byt (b:Array UInt8)|flt (b:UInt64)|ref (a:Addr)|ty (n:String)
 deriving DecidableEq
def RelV:V->Value->Prop
 |.non,u=>u=Value.none
 |.bl b,u=>u=Value.bool b
 |.int i,u=>∃t,u=Value.int i t
 |.str x,u=>∃t,u=Value.str x t
 |.byt b,u=>∃t,u=Value.bytes b t
 |.flt b,u=>∃t,u=Value.float b t
 |.ref a,u=>u=Value.ref a
 |.ty n,u=>u=Value.type n
abbrev qh:List V->List Value->Prop:=Paired RelV
def qh.length {xs:List V}{us:TF}(r:qh xs us):xs.length=us.length:=Ac r
theorem qh.get:∀{xs:List V}{us:List Value}{i:Nat}{x:V},qh xs us->xs[i]?=some x->∃u,us[i]?=some u/\RelV x u
 |_,_,_,_,.nil,e=>by simp at e
 |_,_,0,_,.cons r _,e=>by simp at e;subst e;exact⟨_,rfl,r⟩
 |_,_,i+1,x,.cons _ t,e=>by obtain⟨u,h1,h2⟩:=qh.get (i:=i) (x:=x) t (by simpa using e);exact⟨u,by simpa using h1,h2⟩
theorem qh.set {x:V}{u:Value}(r:RelV x u):∀{xs:List V}{us:List Value}(i:Nat),qh xs us->qh (xs.set i x) (us.set i u)
 |_,_,_,.nil=>.nil
 |_,_,0,.cons _ t=>.cons r t
 |_,_,i+1,.cons q t=>.cons q (qh.set r i t)
theorem qh.append:∀{xs ys:List V}{us ws:List Value},qh xs us->qh ys ws->qh (xs++ys) (us++ws)
 |_,_,_,_,.nil,s=>s
 |_,_,_,_,.cons r t,s=>.cons r (qh.append t s)
theorem qh.take:∀{xs:List V}{us:List Value}(n:Nat),qh xs us->qh (xs.take n) (us.take n)
 |_,_,0,_=>.nil
 |_,_,_+1,.nil=>.nil
 |_,_,n+1,.cons r t=>.cons r (qh.take n t)
theorem qh.drop:∀{xs:List V}{us:List Value}(n:Nat),qh xs us->qh (xs.drop n) (us.drop n)
 |_,_,0,r=>r
 |_,_,_+1,.nil=>.nil
 |_,_,n+1,.cons _ t=>qh.drop n t
def Xg:Option V->Option Value->Prop
 |some v,some u=>RelV v u
 |none,none=>True
 |_,_=>False
def KV {κ:Type}:List (κ×V)->List (κ×Value)->Prop:=Paired λ(p:κ×V) (q:κ×Value)=>p.1=q.1/\RelV p.2 q.2
def kV:Key->V
 |.inl i=>.int i
 |.inr x=>.str x
def PTup (h:Heap) (a:Addr) (items:TH):Prop:=∃o,h.get? a=some o/\o.cls=.type "tuple" /\ (∃n,o.data=.seq items n)/\o.dict=none
def PTup.lt {h:Heap}{a:Addr}{items:TH}(x:PTup h a items):a<h.objs.size:=let ⟨_,e,_⟩:=x;AR e
def PTup.isTup {h:Heap}{a:Addr}{items:TH}(x:PTup h a items):IsTup h a items:=let ⟨o,e,c,n,_⟩:=x;⟨o,e,c,n⟩
def PTup.new (h:Heap) (items:TH):PTup (h.push {cls:=.type "tuple",data:=.seq items}) h.objs.size items:=⟨_,AQ _ rfl,rfl,⟨_,rfl⟩,rfl⟩
inductive HO where
 |lst (xs:List V)
 |tup (xs:List V)
 |dK (kvs:List (Key×V))|dT (kvs:List (List Key×V))
 |set (S:Int->Bool) (n:Nat)
 |ins (C dx:Addr) (fs:List (Str×V))
 |own (x:Addr)
 |xd (fs:List (Str×V))
 |met (f x:Addr)
 |rng (lo hi:Int)
 |frz (o:Obj) (u:HO)
 |tbl (ps:TH)
 |ext (φ:Heap->Prop)
abbrev Hp:=Addr->Option HO
def upd (H:Hp)(a:Addr)(o:HO):Hp:=λb=>if b=a then some o else H b
def ze {H:Hp}{a:Addr}{o:HO}:upd H a o a=some o:=by unfold upd;rw[if_pos rfl]
def zJ {H:Hp}{a b:Addr}{o:HO}(h:b≠a):upd H a o b=H b:=by unfold upd;rw[if_neg h]
def ne_of {H:Hp}{a b:Addr}{o u:HO}(h:H a=some o)(h':H b=some u)(d:o≠u):a≠b:=by intro e;subst e;rw[h]at h';exact d (AH h')
def zN {H:Hp}{a b:Addr}{o:HO}(h:H a=some o)(h':H b=none):a≠b:=by intro e;subst e;rw[h]at h';cases h'
section
variable (P:Program)(w:World)
def qm (H:Hp)(h:Heap)(a:Addr):HO->Prop
 |.lst xs=>xs.length<=sizeLine/\∃(its:TF) (n:Nat),qh xs its/\h.get? a=some {cls:=.type "list",data:=.seq its.toArray n}
 |.tup xs=>xs.length<=sizeLine/\∃its:TF,qh xs its/\PTup h a its.toArray
 |.dK kvs=>kvs.length<=sizeLine/\(a==sysModules)=false/\∃vs,KV kvs vs/\h.DictOf (zS P w) a vs
 |.dT kvs=>kvs.length<=sizeLine/\(a==sysModules)=false/\∃xs:List (List Key×Addr×Value),
   Paired (λ(p:List Key×V) (q:List Key×Addr×Value)=>p.1=q.1/\H q.2.1=some (.tup (p.1.map kV))/\RelV p.2 q.2.2) kvs xs /\
   ∃o es ep,h.get? a=some o/\o.ExactDict/\o.data=.dict es ep/\es.toList=xs.map (entryOfKey (tupleKind (zS P w)))/\(xs.map (·.1)).Nodup
 |.set S n=>h.SetOf (intKind P w) a S n
 |.ins C dx fs=>H dx=some (.own a)/\fs.length<=1000/\dx≠a/\h.get? a=some (PySem.W.instObj C dx) /\
   ∃mA,h.Ns1 dx mA/\(∀f,Xg (fs.lookup f) (mA f))/\PySem.Within mA (fs.map (·.1))
 |.own _=>∃o,h.get? a=some o
 |.xd fs=>∃mA,h.Ns1 a mA/\∀f,Xg (fs.lookup f) (mA f)
 |.rng lo hi=>∃t u v,h.get? a=some {cls:=.type "range",data:=.fields #[.int lo t,.int hi u,.int 1 v]}
 |.frz o u=>h.get? a=some o/\qm H h a u
 |.tbl ps=>h.get? a=some {cls:=.none,data:=.fields ps}
 |.met f x=>h.get? a=some (PySem.W.methodObj (.ref f) (.ref x))
 |.ext φ=>φ h/\(∃o,h.get? a=some o)/\∀h1 h2:Heap,φ h1->(∀o,h1.get? a=some o->h2.get? a=some o)->φ h2
def HOk (H:Hp)(h:Heap):Prop:=∀a o,H a=some o->qm P w H h a o
end
section
variable {P:Program}{w:World}{H H':Hp}{h h':Heap}{a:Addr}{o:HO}
def qm.lt (x:qm P w H h a o):a<h.objs.size:=by
 cases o with
 |lst xs=>obtain⟨_,_,_,_,e⟩:=x;exact AR e
 |tup xs=>obtain⟨_,_,_,p⟩:=x;exact p.lt
 |dK kvs=>obtain⟨_,_,_,_,o,_,_,e,_⟩:=x;exact AR e
 |dT kvs=>obtain⟨_,_,_,_,o,_,_,e,_⟩:=x;exact AR e
 |set S n=>obtain⟨o,_,_,_,e,_⟩:=x;exact AR e
 |ins C dx fs=>obtain⟨_,_,_,e,_⟩:=x;exact AR e
 |own y=>obtain⟨_,e⟩:=x;exact AR e
 |xd fs=>obtain⟨_,⟨_,_,_,e,_⟩,_⟩:=x;exact AR e
 |rng lo hi=>obtain⟨_,_,_,e⟩:=x;exact AR e
 |frz ob u=>obtain⟨e,_⟩:=x;exact AR e
 |tbl ps=>exact AR (show h.get? a=some _ from x)
 |met f y=>exact AR (show h.get? a=some _ from x)
 |ext φ=>obtain⟨_,⟨_,e⟩,_⟩:=x;exact AR e
theorem Paired.mapP {α β:Type}{F G:α->β->Prop}:∀{cK:List α}{cJ:List β},Paired F cK cJ->(∀a b,F a b->G a b)->Paired G cK cJ
 |_,_,.nil,_=>.nil
 |_,_,.cons r t,f=>.cons (f _ _ r) (Paired.mapP t f)
def TM:=@Paired.mapP
def Paired.imp' {α β:Type}{F G:α->β->Prop}(f:∀a b,F a b->G a b){cK:List α}{cJ:List β}(r:Paired F cK cJ):Paired G cK cJ:=TM r f
def TN:=@Paired.imp'
def qm.stay (x:qm P w H h a o)(k:∀b u,(b=a\/H b=some (.own a))->h.get? b=some u->h'.get? b=some u)
  (ho:∀b,H b=some (.own a)->H' b=some (.own a))(ht:∀b xs,H b=some (.tup xs)->H' b=some (.tup xs)):qm P w H' h' a o:=by
 induction o with
 |lst xs=>obtain⟨z,its,n,r,e⟩:=x;exact⟨z,its,n,r,k _ _ (.inl rfl) e⟩
 |tup xs=>obtain⟨z,its,r,ob,e,c⟩:=x;exact⟨z,its,r,ob,k _ _ (.inl rfl) e,c⟩
 |dK kvs=>obtain⟨z,y,vs,r,ob,es,ep,e,c⟩:=x;exact⟨z,y,vs,r,ob,es,ep,k _ _ (.inl rfl) e,c⟩
 |dT kvs=>obtain⟨z,y,xs,r,ob,es,ep,e,c⟩:=x;exact⟨z,y,xs,TM r λp q z=>⟨z.1,ht _ _ z.2.1,z.2.2⟩,ob,es,ep,k _ _ (.inl rfl) e,c⟩
 |set S n=>obtain⟨ob,es,ep,t,e,c⟩:=x;exact⟨ob,es,ep,t,k _ _ (.inl rfl) e,c⟩
 |ins C dx fs=>obtain⟨d,z,ne,e,mA,⟨od,es,ep,e2,c⟩,r⟩:=x;exact⟨ho _ d,z,ne,k _ _ (.inl rfl) e,mA,⟨od,es,ep,k _ _ (.inr d) e2,c⟩,r⟩
 |own y=>obtain⟨ob,e⟩:=x;exact⟨ob,k _ _ (.inl rfl) e⟩
 |xd fs=>obtain⟨mA,⟨od,es,ep,e,c⟩,r⟩:=x;exact⟨mA,⟨od,es,ep,k _ _ (.inl rfl) e,c⟩,r⟩
 |rng lo hi=>obtain⟨t,u,v,e⟩:=x;exact⟨t,u,v,k _ _ (.inl rfl) e⟩
 |frz ob u ih=>obtain⟨e,q⟩:=x;exact⟨k _ _ (.inl rfl) e,ih q⟩
 |tbl ps=>have e:h.get? a=some {cls:=.none,data:=.fields ps}:=x;show h'.get? a=some {cls:=.none,data:=.fields ps};exact k a _ (.inl rfl) e
 |met f y=>have e:h.get? a=some (PySem.W.methodObj (.ref f) (.ref y)):=x;show h'.get? a=some (PySem.W.methodObj (.ref f) (.ref y));exact k a _ (.inl rfl) e
 |ext φ=>obtain⟨p,⟨o,e⟩,st⟩:=x;exact⟨st _ _ p λo q=>k _ _ (.inl rfl) q,⟨o,k _ _ (.inl rfl) e⟩,st⟩
def HOk.lt (x:HOk P w H h)(e:H a=some o):a<h.objs.size:=(x a o e).lt
def HOk.fresh (x:HOk P w H h)(e:h.objs.size<=a):H a=none:=by
 cases q:H a with
 |none=>rfl
 |some u=>exact absurd (Ah (x.lt q) e) (BA _)
def HOk.kept (x:HOk P w H h)(k:∀b u,h.get? b=some u->h'.get? b=some u):HOk P w H h':=λa o e=>
 (x a o e).stay (λb u _ q=>k b u q) (λ_ q=>q) λ_ _ q=>q
def HOk.laid (x:HOk P w H h)(k:∀b u,h.get? b=some u->h'.get? b=some u)(hp:h.objs.size<=a)(new:qm P w (upd H a o) h' a o):HOk P w (upd H a o) h':=λb u e=>by
 have hn:=x.fresh hp;by_cases hb:b=a
 ·subst hb;rw[ze]at e;cases e;exact new
 ·rw[zJ hb]at e;exact (x b u e).stay (λc v _ q=>k c v q) (λc q=>by rw[zJ (zN q hn)];exact q) λc xs q=>by rw[zJ (zN q hn)];exact q
end
def Rd (H:Hp)(a:Addr)(u:HO):Prop:=H a=some u\/∃o,H a=some (.frz o u)
def Rd.ok {P:Program}{w:World}{H:Hp}{h:Heap}{a:Addr}{u:HO}(r:Rd H a u)(x:HOk P w H h):qm P w H h a u:=by
 rcases r with r|⟨o,r⟩
 ·exact x a u r
 ·obtain⟨_,q⟩:=x a _ r;exact q
def Mut:Option HO->Prop
 |some (.lst _)=>True
 |some (.dK _)=>True
 |some (.dT _)=>True
 |some (.set _ _)=>True
 |some (.ins _ _ _)=>True
 |some (.ext _)=>True
 |_=>False
section
variable {P:Program}{w:World}{H:Hp}{h h':Heap}{x e:Addr}{o':HO}
def HOk.write (ok:HOk P w H h)(mu:Mut (H x))(he:e=x\/H e=some (.own x))(k:∀b u,b≠e->h.get? b=some u->h'.get? b=some u)(kD:∃u,h'.get? e=some u)
  (new:qm P w (upd H x o') h' x o'):HOk P w (upd H x o') h':=λb u q=>by
 have lu:∀c y,H c=some (.own y)->c≠x:=λc y r z=>by subst z;rw[r]at mu;exact mu
 have rz:∀c xs,H c=some (.tup xs)->c≠x:=λc xs r z=>by subst z;rw[r]at mu;exact mu
 by_cases hb:b=x
 ·subst hb;rw[ze]at q;cases q;exact new
 ·rw[zJ hb]at q;by_cases hbe:b=e
  ·have q':H b=some (.own x):=by
    rcases he with z|z
    ·exact absurd (hbe.trans z) hb
    ·rw[hbe];exact z
   rw[q]at q';cases q';obtain⟨v,hv⟩:=kD;exact⟨v,by rw[hbe];exact hv⟩
  ·refine (ok b u q).stay (λc v hc r=>k c v ?_ r) (λc r=>by rw[zJ (lu c b r)];exact r) λc xs r=>by rw[zJ (rz c xs r)];exact r
   rcases hc with rfl|hc
   ·exact hbe
   ·rintro rfl
    rcases he with z|z
    ·exact lu c b hc z
    ·rw[hc]at z;cases z;exact hb rfl
end
structure Un (fs ex:List Addr)(H H':Hp)(h h':Heap):Prop where
 keep:∀b o,h.get? b=some o->H b=none->b ∉ fs->b ∉ ex->h'.get? b=some o
 slot:∀b o,h.get? b=some o->H b=none->b∈fs->b ∉ ex->∃sl,h'.get? b=some {o with slots:=sl}
 free:∀b o,h.get? b=some o->H b=none->b ∉ ex->H' b=none
 there:∀b o,h.get? b=some o->b ∉ ex->∃o',h'.get? b=some o'
 tups:∀b xs,H b=some (.tup xs)->H' b=some (.tup xs)
 frzs:∀b o u,H b=some (.frz o u)->H' b=some (.frz o u)
 tbls:∀b ps,H b=some (.tbl ps)->∃more,H' b=some (.tbl (ps++more))
section
variable {fs MK ex dj:List Addr}{H H1 H2:Hp}{h h1 h2 h':Heap}{a x e:Addr}{o:HO}
def Un.any (u:Un fs ex H H1 h h1){b:Addr}{ob:Obj}(q:h.get? b=some ob)(n:H b=none)(hx:b ∉ ex):∃sl,h1.get? b=some {ob with slots:=sl}:=by
 by_cases hb:b∈fs
 ·exact u.slot b ob q n hb hx
 ·exact⟨ob.slots,u.keep b ob q n hb hx⟩
def Un.kept (k:∀b u,h.get? b=some u->h'.get? b=some u):Un fs ex H H h h':=
 ⟨λb ob q _ _ _=>k b ob q,λb ob q _ _ _=>⟨ob.slots,k b ob q⟩,λ_ _ _ n _=>n,λb ob q _=>⟨ob,k b ob q⟩,λ_ _ q=>q,λ_ _ _ q=>q,λ_ ps q=>⟨#[],by rw[q];simp⟩⟩
def TQ:=@Un.kept
def Un.refl:Un fs ex H H h h:=TQ λ_ _ q=>q
def Un.laid (k:∀b u,h.get? b=some u->h'.get? b=some u)(hp:h.objs.size<=a)(hn:H a=none):Un fs ex H (upd H a o) h h' where
 keep:=λb u q _ _ _=>k b u q
 slot:=λb u q _ _ _=>⟨u.slots,k b u q⟩
 free:=λb u q n _=>by rw[zJ (AZ (Ah (AR q) hp))];exact n
 there:=λb u q _=>⟨u,k b u q⟩
 tups:=λb xs q=>by rw[zJ (zN q hn)];exact q
 frzs:=λb u xs q=>by rw[zJ (zN q hn)];exact q
 tbls:=λb ps q=>⟨#[],by rw[zJ (zN q hn),q];simp⟩
def Un.write (mu:Mut (H x))(he:e=x\/H e=some (.own x))(k:∀b u,b≠e->h.get? b=some u->h'.get? b=some u)(kD:∃u,h'.get? e=some u):Un fs ex H (upd H x o) h h':=by
 have hx:∀b,H b=none->b≠x:=λb n z=>by subst z;rw[n]at mu;exact mu
 have hb:∀b,H b=none->b≠e:=λb n z=>by
  subst z
  rcases he with r|r
  ·exact hx b n r
  ·rw[n]at r;cases r
 have hm:∀b u,H b=some u->¬Mut (some u)->b≠x:=λb u q nm z=>by subst z;rw[q]at mu;exact nm mu
 refine⟨λb u q n _ _=>k b u (hb b n) q,λb u q n _ _=>⟨u.slots,k b u (hb b n) q⟩,λb u q n _=>by rw[zJ (hx b n)];exact n,λb u q _=>?_,
  λb xs q=>by rw[zJ (hm b _ q λz=>z)];exact q,λb u xs q=>by rw[zJ (hm b _ q λz=>z)];exact q,λb ps q=>⟨#[],by rw[zJ (hm b _ q λz=>z),q];simp⟩⟩
 by_cases hbe:b=e
 ·subst hbe;exact kD
 ·exact⟨u,k b u hbe q⟩
end
def trk (h:Heap)(H:Hp):List Addr:=(List.range h.objs.size).filter λa=>(H a).isSome
def hidT (h:Heap)(H:Hp):Heap:=PySem.W.hideAll h (trk h H)
def Xm (h:Heap)(H:Hp):(hidT h H).objs.size=h.objs.size:=PySem.W.hideAll_size _ _
def hidT_get {h:Heap}{H:Hp}{b:Addr}{o:Obj}(e:h.get? b=some o)(n:H b=none):(hidT h H).get? b=some o:=
 PySem.W.hideAll_get _ e λhm=>by have q:(H b).isSome=true:=(CU.mp hm).2;rw[n]at q;simp at q
def of_hidT {h:Heap}{H:Hp}{b:Addr}{o:Obj}(e:(hidT h H).get? b=some o):h.get? b=some o/\H b=none:=by
 have e':h.get? b=some o:=PySem.W.of_hideAll (trk h H) e;refine⟨e',?_⟩;cases q:H b with
 |none=>rfl
 |some x=>have hm:b∈trk h H:=CU.mpr ⟨AS.mpr (AR e'),by simp[q]⟩;have z:(hidT h H).get? b=none:=PySem.W.hideAll_none (trk h H) hm;rw[z]at e;cases e
structure Mod (K:Fv)(mg:Str->Option Value)(base:Heap):Prop where
 kin:K.In base
 glob:base.Ns mainGlobals mg
 blt:∃mb,base.Ns builtinsNs mb/\∀x:Str,x ≠ "__name__" -> mb x=bootBuiltins x
 nolimit:base.NoLimit
structure Cx where
 prog:Program
 w:World
 K:Fv
 mg:Str->Option Value
 base:Heap
 A:Around
 N:TJ
 s₀:Shared
 H₀:Hp
 env:Env
 outer:List Env
 stack:List Env
 ex:List Addr
 fn:Str->Bool
 calm:Bool
 pn:List (Addr×Obj)
 xe:TB
def frs (l:List Env):List Addr:=l.filterMap (·.frame)
abbrev Cx.fs (X:Cx):List Addr:=frs X.outer
def Vis (sc:Scope)(x:Str):Prop:=sc.names.lookup x=some .local\/sc.names.lookup x=some .cell\/sc.names.lookup x=some .free
def Loc (sc:Scope)(x:Str):Prop:=sc.names.lookup x=some .local\/sc.names.lookup x=some .cell
def Look (env:Env)(h:Heap)(m:Str->Option Value)(x:Str)(u:Value):Prop:=
 (env.kindOf x=some .local/\m x=some u)\/((env.kindOf x=some .cell\/env.kindOf x=some .free)/\∃c,env.cells.lookup x=some c/\h.IsCell c (some u))
structure Cx.Ok (X:Cx):Prop where
 mod:Mod X.K X.mg X.base
 kind:X.env.scope.kind=.function
 glob:X.env.globals=mainGlobals
 blt:X.env.builtins=builtinsNs
 above:X.s₀.heap.objs.size<=X.env.locals
 inj:∀x y c,X.env.cells.lookup x=some c->X.env.cells.lookup y=some c->x=y
 has:∀x,(X.env.kindOf x=some .cell\/X.env.kindOf x=some .free)->∃c,X.env.cells.lookup x=some c
 cab:∀x c,X.fn x=true->X.env.cells.lookup x=some c->X.s₀.heap.objs.size<=c
 hd:X.calm=true->X.A.handled=none
 frames:X.A.frames=some X.stack
 stk:X.stack=X.outer\/(X.stack=X.env::X.outer/\X.env.frame=some X.env.locals)
 exf:∀b∈X.ex,b≠X.env.locals/\∀x c,X.env.cells.lookup x=some c->c≠b
 bs:∀b o,X.base.get? b=some o->X.s₀.heap.get? b=some o/\X.H₀ b=none
 bsz:X.base.objs.size<=X.s₀.heap.objs.size
 noex:∀b o,X.base.get? b=some o->b ∉ X.ex
 exfs:∀b∈X.ex,b ∉ X.fs
 funs:X.s₀.heap.FunFrames X.base X.outer
 frf:∀b∈X.fs,X.H₀ b=none
structure Inv (X:Cx)(pins:List (Addr×Obj))(σ:List (Option V))(H:Hp)(s:Shared):Prop where
 ok:X.Ok
 os:s.os=X.s₀.os
 bare:AllBare s.gens
 base:Un X.fs X.ex X.H₀ H X.s₀.heap s.heap
 loc:∃m,s.heap.Ns X.env.locals m/\∀(i:Nat) (x:Str) (v:V),X.N[i]?=some x->σ[i]?=some (some v)->Vis X.env.scope x->∃u,RelV v u/\Look X.env s.heap m x u
 cell:∀x c,X.env.cells.lookup x=some c->∃v,s.heap.IsCell c v
 free:H X.env.locals=none
 freeC:∀x c,X.env.cells.lookup x=some c->H c=none
 pin:∀p∈X.pn++pins,s.heap.get? p.1=some p.2/\H p.1=none/\p.1≠X.env.locals/\p.1 ∉ X.fs/\∀v,p.2.data≠.cell v
 hok:HOk X.prog X.w H s.heap
 len:σ.length=X.N.length
section
variable {X:Cx}{pins:List (Addr×Obj)}{σ:List (Option V)}{H H':Hp}{s:Shared}{h':Heap}
def Cx.Ok.nofr (ok:X.Ok){b:Addr}{o:Obj}(e:X.base.get? b=some o):b ∉ X.fs:=λhb=>by have:=(ok.funs.mem hb).1;rw[e]at this;cases this
def Inv.bs (I:Inv X pins σ H s):∀b o,X.base.get? b=some o->s.heap.get? b=some o/\H b=none:=λb o e=>
 ⟨I.base.keep b o (I.ok.bs b o e).1 (I.ok.bs b o e).2 (I.ok.nofr e) (I.ok.noex b o e),I.base.free b o (I.ok.bs b o e).1 (I.ok.bs b o e).2 (I.ok.noex b o e)⟩
def Inv.bk (I:Inv X pins σ H s):∀b o,X.base.get? b=some o->s.heap.get? b=some o:=λb o e=>(I.bs b o e).1
def Inv.mod (I:Inv X pins σ H s):Mod X.K X.mg X.base:=I.ok.mod
def Inv.kIn (I:Inv X pins σ H s):X.K.In s.heap:=I.ok.mod.kin.keeps I.bk
def Inv.lt (I:Inv X pins σ H s):X.env.locals<s.heap.objs.size:=let ⟨_,hn,_⟩:=I.loc;hn.lt
def Inv.sz (I:Inv X pins σ H s):X.s₀.heap.objs.size<=s.heap.objs.size:=Ar I.ok.above (CZ I.lt)
def Inv.nofs (I:Inv X pins σ H s){a:Addr}(h:s.heap.objs.size<=a):a ∉ X.fs:=λhb=>by obtain⟨_,o,ho,_⟩:=I.ok.funs.mem hb;exact absurd (Ah (AR ho) (Ar I.sz h)) (BA _)
def Inv.cne (I:Inv X pins σ H s):∀x c,X.env.cells.lookup x=some c->c≠X.env.locals:=λx c e z=>by obtain⟨v,o,ho,hd⟩:=I.cell x c e;obtain⟨m,⟨o',es,ep,fG,cV,_⟩,_⟩:=I.loc;rw[z,fG]at ho;cases ho;rw[cV]at hd;cases hd
def Inv.funs (I:Inv X pins σ H s):s.heap.FunFrames X.base X.outer:=by
 have all:∀(l:List Env),(∀b∈frs l,b∈X.fs)->X.s₀.heap.FunFrames X.base l->s.heap.FunFrames X.base l:=by
  intro l
  induction l with
  |nil=>intro _ _;trivial
  |cons env r ih=>intro hs hl;obtain⟨hk,⟨L,o,hf,hn,ho,hd⟩,hr⟩:=hl;have hL:L∈X.fs:=hs L (by unfold frs;rw[List.filterMap_cons,hf];exact A5);obtain⟨sl,e⟩:=I.base.slot L o ho (I.ok.frf L hL) hL λz=>I.ok.exfs L z hL;exact⟨hk,⟨L,_,hf,hn,e,hd⟩,ih (λb hb=>hs b (by unfold frs;rw[List.filterMap_cons,hf];exact BD _ hb)) hr⟩
 exact all X.outer (λ_ hb=>hb) I.ok.funs
def Inv.stack (I:Inv X pins σ H s):s.heap.FunFrames X.base X.stack:=by
 rcases I.ok.stk with e|⟨e,hf⟩
 ·rw[e];exact I.funs
 ·rw[e];obtain⟨m,hn,_⟩:=I.loc;refine .cons (by rw[I.ok.kind];decide) hf hn ?_ I.funs;exact EL (Ar I.ok.bsz I.ok.above)
def Inv.stkSub (I:Inv X pins σ H s):∀b∈frs X.stack,b∈X.env.locals::X.fs:=λb hb=>by
 rcases I.ok.stk with e|⟨e,hf⟩
 ·rw[e]at hb;exact BD _ hb
 ·rw[e]at hb;unfold frs at hb;rw[E2,hf]at hb;exact hb
def Inv.stkFree (I:Inv X pins σ H s):∀b∈frs X.stack,H b=none:=λb hb=>by
 rcases Al.mp (I.stkSub b hb) with e|hb
 ·rw[e];exact I.free
 ·obtain⟨_,o,ho,_⟩:=I.ok.funs.mem hb;exact I.base.free b o ho (I.ok.frf b hb) λz=>I.ok.exfs b z hb
def Inv.step {g':Array GenState}{t':Nat}{d':Drawn}{ch:List Addr}(I:Inv X pins σ H s)
  (fo:∀b∈ch,(b∈X.ex\/X.s₀.heap.objs.size<=b)/\b≠X.env.locals/\(∀x c,X.env.cells.lookup x=some c->c≠b)/\∀p∈X.pn++pins,p.1≠b)
  (keep:∀b o,b≠X.env.locals->b ∉ X.fs->b ∉ ch->s.heap.get? b=some o->H b=none->h'.get? b=some o)
  (slot:∀b o,b≠X.env.locals->b∈X.fs->b ∉ ch->s.heap.get? b=some o->H b=none->∃sl,h'.get? b=some {o with slots:=sl})(free:∀b o,b ∉ ch->s.heap.get? b=some o->H b=none->H' b=none)
  (there:∀b o,b ∉ ch->s.heap.get? b=some o->∃o',h'.get? b=some o')
  (tups:∀b xs,H b=some (.tup xs)->H' b=some (.tup xs))(frzs:∀b o u,H b=some (.frz o u)->H' b=some (.frz o u))(tbls:∀b ps,H b=some (.tbl ps)->∃more,H' b=some (.tbl (ps++more)))
  (ns:∀m,s.heap.Ns X.env.locals m->h'.Ns X.env.locals m)(hok:HOk X.prog X.w H' h')(hg:AllBare g'):
  Inv X pins σ H' {s with heap:=h',gens:=g',drawn:=d',toks:=t'}:=by
 have d7:∀b o,X.s₀.heap.get? b=some o->b≠X.env.locals:=λb o e=>AZ (Ah (AR e) I.ok.above);have gR:∀b o,X.s₀.heap.get? b=some o->b ∉ X.ex->b ∉ ch:=λb o e hx hb=>by
  rcases (fo b hb).1 with z|z
  ·exact hx z
  ·exact absurd (Ah (AR e) z) (BA _)
 have cellK:∀x c,X.env.cells.lookup x=some c->∀v,s.heap.IsCell c v->h'.IsCell c v:=λx c e v ⟨o,ho,hd⟩=>by
  have ly:c ∉ ch:=λz=>(fo c z).2.2.1 x c e rfl;by_cases hc:c∈X.fs
  ·obtain⟨sl,q⟩:=slot c o (I.cne x c e) hc ly ho (I.freeC x c e);exact⟨_,q,hd⟩
  ·exact⟨o,keep c o (I.cne x c e) hc ly ho (I.freeC x c e),hd⟩
 refine⟨I.ok,I.os,hg,⟨λb o e n hb hx=>?_,λb o e n hb hx=>?_,λb o e n hx=>?_,λb o e hx=>?_,λb xs e=>tups b xs (I.base.tups b xs e),λb o xs e=>frzs b o xs (I.base.frzs b o xs e),λb ps e=>?_⟩,?_,λx c e=>?_,?_,λx c e=>?_,λp hp=>?_,hok,I.len⟩
 ·exact keep b o (d7 b o e) hb (gR b o e hx) (I.base.keep b o e n hb hx) (I.base.free b o e n hx)
 ·obtain⟨sl,e1⟩:=I.base.slot b o e n hb hx;obtain⟨Iq,e2⟩:=slot b _ (d7 b o e) hb (gR b o e hx) e1 (I.base.free b o e n hx);exact⟨Iq,e2⟩
 ·obtain⟨o',e1⟩:=I.base.there b o e hx;exact free b o' (gR b o e hx) e1 (I.base.free b o e n hx)
 ·obtain⟨o',e1⟩:=I.base.there b o e hx;exact there b o' (gR b o e hx) e1
 ·obtain⟨m1,e1⟩:=I.base.tbls b ps e;obtain⟨m2,e2⟩:=tbls b _ e1;exact⟨m1++m2,by rw[e2,Array.append_assoc]⟩
 ·obtain⟨m,hn,hl⟩:=I.loc;refine⟨m,ns m hn,λi x v e1 e2 e3=>?_⟩;obtain⟨u,r,l⟩:=hl i x v e1 e2 e3;refine⟨u,r,?_⟩
  rcases l with l|⟨k,c,e,z⟩
  ·exact .inl l
  ·exact .inr ⟨k,c,e,cellK x c e _ z⟩
 ·obtain⟨v,z⟩:=I.cell x c e;exact⟨v,cellK x c e v z⟩
 ·obtain⟨m,⟨o,_,_,ho,_⟩,_⟩:=I.loc;exact free _ o (λz=>(fo _ z).2.1 rfl) ho I.free
 ·obtain⟨v,o,ho,hd⟩:=I.cell x c e;exact free c o (λz=>(fo c z).2.2.1 x c e rfl) ho (I.freeC x c e)
 ·obtain⟨e,n,ne,nf,d⟩:=I.pin p hp;have ly:p.1 ∉ ch:=λz=>(fo p.1 z).2.2.2 p hp rfl;exact⟨keep p.1 p.2 ne nf ly e n,free p.1 p.2 ly e n,ne,nf,d⟩
def Inv.un {t':Nat}(I:Inv X pins σ H s)(u:Un X.fs [] H H' s.heap h')(hok:HOk X.prog X.w H' h'):Inv X pins σ H' {s with heap:=h',toks:=t'}:=by obtain⟨m,⟨o,es,ep,ho,r⟩,_⟩:=id I.loc;obtain⟨sl,hL⟩:=u.any ho I.free (by simp);exact I.step (g':=s.gens) (d':=s.drawn) (ch:=[]) (λ_ z=>nomatch z) (λb o _ hb _ e n=>u.keep b o e n hb (by simp)) (λb o _ hb _ e n=>u.slot b o e n hb (by simp)) (λb o _ e n=>u.free b o e n (by simp)) (λb o _ e=>u.there b o e (by simp)) u.tups u.frzs u.tbls (λm' hm=>by obtain⟨o',dZ,pH,fG,r'⟩:=hm;rw[ho]at fG;cases fG;exact⟨_,dZ,pH,hL,r'⟩) hok I.bare
def Inv.call {g':Array GenState}{t':Nat}{d':Drawn}{ch:List Addr}(I:Inv X pins σ H s)(u:Un (frs X.stack) ch H H' s.heap h')(hok:HOk X.prog X.w H' h')(hg:AllBare g')
  (fo:∀b∈ch,(b∈X.ex\/X.s₀.heap.objs.size<=b)/\b≠X.env.locals/\(∀x c,X.env.cells.lookup x=some c->c≠b)/\∀p∈X.pn++pins,p.1≠b):
  Inv X pins σ H' {s with heap:=h',gens:=g',drawn:=d',toks:=t'}:=by
 obtain⟨m,⟨o,es,ep,ho,r⟩,_⟩:=id I.loc;obtain⟨sl,hL⟩:=u.any ho I.free λz=>(fo _ z).2.1 rfl;exact I.step (ch:=ch) fo (λb o hL hb hc e n=>u.keep b o e n (λz=>(Al.mp (I.stkSub b z)).elim hL hb) hc) (λb o _ _ hc e n=>u.any e n hc) (λb o hc e n=>u.free b o e n hc) (λb o hc e=>u.there b o e hc) u.tups u.frzs u.tbls (λm' hm=>by obtain⟨o',dZ,pH,fG,r'⟩:=hm;rw[ho]at fG;cases fG;exact⟨_,dZ,pH,hL,r'⟩) hok hg
def Inv.turned {t':Nat}{it:Addr}(I:Inv X pins σ H s)(k:∀b o,b≠it->s.heap.get? b=some o->h'.get? b=some o)(hn:H it=none)(hL:it≠X.env.locals)
  (h1:it∈X.ex\/X.s₀.heap.objs.size<=it)(h2:∀x c,X.env.cells.lookup x=some c->c≠it)(h3:∀p∈X.pn++pins,p.1≠it):Inv X pins σ H {s with heap:=h',toks:=t'}:=by
 have vp:∀b u,H b=some u->b≠it:=λb u e z=>by rw[z,hn]at e;cases e
 refine I.step (g':=s.gens) (d':=s.drawn) (ch:=[it]) (λb hb=>?_) (λb o _ _ hc e _=>k b o (λz=>hc (by simp[z])) e) (λb o _ _ hc e _=>⟨o.slots,k b o (λz=>hc (by simp[z])) e⟩) (λ_ _ _ _ n=>n)
  (λb o hc e=>⟨o,k b o (λz=>hc (by simp[z])) e⟩) (λ_ _ e=>e) (λ_ _ _ e=>e) (λb ps e=>⟨#[],by rw[e];simp⟩) (λm hm=>?_) (λb u e=>?_) I.bare
 ·have e:b=it:=by simpa using hb
  subst e;exact⟨h1,hL,h2,h3⟩
 ·obtain⟨o,es,ep,ho,r⟩:=hm;exact⟨o,es,ep,k _ o (An hL) ho,r⟩
 ·refine (I.hok b u e).stay (λc v hc q=>k c v ?_ q) (λ_ q=>q) λ_ _ q=>q
  rcases hc with z|z
  ·rw[z];exact vp b u e
  ·exact vp c _ z
def Inv.tok (I:Inv X pins σ H s)(t:Nat):Inv X pins σ H {s with toks:=t}:=I.un (h':=s.heap) (t':=t) Un.refl I.hok
def Inv.kept {t':Nat}(I:Inv X pins σ H s)(k:∀b u,s.heap.get? b=some u->h'.get? b=some u):Inv X pins σ H {s with heap:=h',toks:=t'}:=I.un (TQ k) (I.hok.kept k)
def Inv.laid {a:Addr}{o:HO}{t':Nat}(I:Inv X pins σ H s)(k:∀b u,s.heap.get? b=some u->h'.get? b=some u)(hp:s.heap.objs.size<=a)(new:qm X.prog X.w (upd H a o) h' a o):
  Inv X pins σ (upd H a o) {s with heap:=h',toks:=t'}:=I.un (Un.laid k hp (I.hok.fresh hp)) (I.hok.laid k hp new)
def Inv.write {x e:Addr}{o:HO}{t':Nat}(I:Inv X pins σ H s)(mu:Mut (H x))(he:e=x\/H e=some (.own x))(k:∀b u,b≠e->s.heap.get? b=some u->h'.get? b=some u)(kD:∃u,h'.get? e=some u)
  (new:qm X.prog X.w (upd H x o) h' x o):Inv X pins σ (upd H x o) {s with heap:=h',toks:=t'}:=I.un (Un.write mu he k kD) (I.hok.write mu he k kD new)
def Inv.pins_of {fV:List (Addr×Obj)}(I:Inv X pins σ H s)(h:∀p∈fV,s.heap.get? p.1=some p.2/\H p.1=none/\p.1≠X.env.locals/\p.1 ∉ X.fs/\∀v,p.2.data≠.cell v):Inv X fV σ H s:=
 ⟨I.ok,I.os,I.bare,I.base,I.loc,I.cell,I.free,I.freeC,λp hp=>(AX.mp hp).elim (λz=>I.pin p (Aq _ z)) (h p),I.hok,I.len⟩
def YK {N:TJ}(hN:N.Nodup){i j:Nat}{x:Str}(a:N[i]?=some x)(b:N[j]?=some x):i=j:=by obtain⟨h1,e1⟩:=AD.mp a;obtain⟨h2,e2⟩:=AD.mp b;exact (List.getElem_inj hN).mp (e1.trans e2.symm)
def WS {M:Model}{A:Around}{E:TB}{i:Nat}{x:Str}{v:V}{u:Value}{Q:Unit->Shared->Prop}(I:Inv X pins σ H s)(hN:X.N.Nodup)(hi:X.N[i]?=some x)(hx:Loc X.env.scope x)(r:RelV v u)
  (h:∀s',Inv X pins (σ.set i (some v)) H s'->(∃a,Heap.SameBut a s.heap s'.heap/\(a=X.env.locals\/X.env.cells.lookup x=some a))->Q () s')(hf:X.fn x=true\/X.env.scope.names.lookup x=some .local:=by first|exact .inl rfl|exact .inr rfl|assumption):wpAny M A (storeName X.env x u) Q E s:=by
 obtain⟨m,hn,hl⟩:=id I.loc;have tL:(X.env.scope.kind==.class || (X.env.scope.kind==.module&&X.env.locals != X.env.globals))=false:=by rw[I.ok.kind];rfl
 have mX:i<σ.length:=by rw[I.len];exact (AD.mp hi).1
 have cne:=I.cne;have tracked:∀{a:Addr} {h':Heap},(∃o,s.heap.get? a=some o/\H a=none)->Heap.SameBut a s.heap h'->HOk X.prog X.w H h':=λ{a h'} ha hs b ob e=>by
  obtain⟨_,_,gy⟩:=ha;refine (I.hok b ob e).stay (λc w' hc q=>(hs.2 c ?_).trans q) (λ_ q=>q) λ_ _ q=>q;rintro rfl
  rcases hc with rfl|hc
  ·rw[gy]at e;cases e
  ·rw[gy]at hc;cases hc
 rcases hx with hk|hk
 ·refine wpAny_storeName_local hk hn (λh' kz hs=>?_) tL;obtain⟨oL,_,_,dP,_⟩:=id hn;refine h _ ⟨I.ok,I.os,I.bare,⟨λb o e n hb hx=>?_,λb o e n hb hx=>?_,I.base.free,λb o e hx=>?_,I.base.tups,I.base.frzs,I.base.tbls⟩,⟨_,kz,λj y v' e1 e2 e3=>?_⟩,λy c e=>?_,I.free,I.freeC,λp hp=>?_,tracked ⟨oL,dP,I.free⟩ hs,by simpa using I.len⟩ ⟨_,hs,.inl rfl⟩
  ·exact (hs.2 b (AZ (Ah (AR e) I.ok.above))).trans (I.base.keep b o e n hb hx)
  ·obtain⟨sl,e1⟩:=I.base.slot b o e n hb hx;exact⟨sl,(hs.2 b (AZ (Ah (AR e) I.ok.above))).trans e1⟩
  ·obtain⟨o',e1⟩:=I.base.there b o e hx;exact⟨o',(hs.2 b (AZ (Ah (AR e) I.ok.above))).trans e1⟩
  ·by_cases hj:j=i
   ·subst hj;rw[hi]at e1;cases e1;rw[Ek mX]at e2;cases e2;exact⟨u,r,.inl ⟨hk,by simp⟩⟩
   ·rw[EA (An hj)]at e2;obtain⟨u',r',q⟩:=hl j y v' e1 e2 e3;refine⟨u',r',?_⟩
    rcases q with ⟨k,e⟩|⟨k,c,e,z⟩
    ·refine .inl ⟨k,?_⟩;have:y≠x:=λe=>hj (YK hN e1 (e ▸ hi));simp[this,e]
    ·exact .inr ⟨k,c,e,z.sameBut hs (cne y c e)⟩
  ·obtain⟨w',z⟩:=I.cell y c e;exact⟨w',z.sameBut hs (cne y c e)⟩
  ·obtain⟨e,n,ne,nf,d⟩:=I.pin p hp;exact⟨(hs.2 p.1 ne).trans e,n,ne,nf,d⟩
 ·have tF:X.fn x=true:=by
   rcases hf with z|z
   ·exact z
   ·rw[z]at hk;cases hk
  obtain⟨c,hc⟩:=I.ok.has x (.inl hk);obtain⟨w',z⟩:=I.cell x c hc;refine wpAny_storeName_cell I.ok.kind hk hc z (λh' iS hs=>?_);obtain⟨oc,vV,sJ⟩:=id z;refine h {s with heap:=h'} ⟨I.ok,I.os,I.bare,⟨λb o e n hb hx=>?_,λb o e n hb hx=>?_,I.base.free,λb o e hx=>?_,I.base.tups,I.base.frzs,I.base.tbls⟩,⟨m,hn.sameBut hs (An (cne x c hc)),λj y v' e1 e2 e3=>?_⟩,λy c' e=>?_,I.free,I.freeC,λp hp=>?_,tracked ⟨oc,vV,I.freeC x c hc⟩ hs,by simpa using I.len⟩ ⟨c,hs,.inr hc⟩
  ·exact (hs.2 b (AZ (Ah (AR e) (I.ok.cab x c tF hc)))).trans (I.base.keep b o e n hb hx)
  ·obtain⟨sl,e1⟩:=I.base.slot b o e n hb hx;exact⟨sl,(hs.2 b (AZ (Ah (AR e) (I.ok.cab x c tF hc)))).trans e1⟩
  ·obtain⟨o',e1⟩:=I.base.there b o e hx;exact⟨o',(hs.2 b (AZ (Ah (AR e) (I.ok.cab x c tF hc)))).trans e1⟩
  ·by_cases hj:j=i
   ·subst hj;rw[hi]at e1;cases e1;rw[Ek mX]at e2;cases e2;exact⟨u,r,.inr ⟨.inl hk,c,hc,iS⟩⟩
   ·rw[EA (An hj)]at e2;obtain⟨u',r',q⟩:=hl j y v' e1 e2 e3;refine⟨u',r',?_⟩
    rcases q with q|⟨k,c',e,z'⟩
    ·exact .inl q
    ·refine .inr ⟨k,c',e,z'.sameBut hs ?_⟩;rintro rfl;exact hj (YK hN e1 (I.ok.inj _ _ _ e hc ▸ hi))
  ·by_cases cx:c'=c
   ·subst cx;exact⟨_,iS⟩
   ·obtain⟨w2,z2⟩:=I.cell y c' e;exact⟨w2,z2.sameBut hs cx⟩
  ·obtain⟨e,n,ne,nf,d⟩:=I.pin p hp;refine⟨(hs.2 p.1 ?_).trans e,n,ne,nf,d⟩;intro q;rw[q,vV]at e;have q':oc=p.2:=AH e;exact d w' (by rw[<- q'];exact sJ)
def wU {M:Model}{A:Around}{E:TB}{i:Nat}{x:Str}{v:V}{u:Value}{Q:Unit->Shared->Prop}(I:Inv X pins σ H s)(hN:X.N.Nodup)(hi:X.N[i]?=some x)(hx:Loc X.env.scope x)(r:RelV v u)
  (h:∀s',Inv X pins (σ.set i (some v)) H s'->Q () s')(hf:X.fn x=true\/X.env.scope.names.lookup x=some .local:=by first|exact .inl rfl|exact .inr rfl|assumption):wpAny M A (storeName X.env x u) Q E s:=
 WS I hN hi hx r (λs' I' _=>h s' I') hf
def Inv.call' {s':Shared}{ch:List Addr}(I:Inv X pins σ H s)(ho:s'.os=s.os)(u:Un (frs X.stack) ch H H' s.heap s'.heap)(hok:HOk X.prog X.w H' s'.heap)(hg:AllBare s'.gens)
  (fo:∀b∈ch,(b∈X.ex\/X.s₀.heap.objs.size<=b)/\b≠X.env.locals/\(∀x c,X.env.cells.lookup x=some c->c≠b)/\∀p∈X.pn++pins,p.1≠b):Inv X pins σ H' s':=by
 obtain⟨h',g',d',t',o'⟩:=s';have e:o'=s.os:=ho;subst e;exact I.call (g':=g') (t':=t') (d':=d') u hok hg fo
end
abbrev XK:=Value->Option Addr->Hp->Prop
abbrev St:=List (Option V)
abbrev VK:=V->Hp->Prop
abbrev TE:=St->Hp->VK->Prop
abbrev TT:=St->Hp->(Bool->Hp->Prop)->Prop
abbrev TA:=St->Hp->(List V->Hp->Prop)->Prop
structure xj where
 nx:St->Hp->Prop
 rt:VK
 bk:St->Hp->Prop:=λ_ _=>False
 ct:St->Hp->Prop:=λ_ _=>False
abbrev TS:=xj->St->Hp->Prop
def EP (X:Cx)(pins:List (Addr×Obj))(σ:St)(Q:VK)(u:Value)(s':Shared):Prop:=∃v H',Inv X pins σ H' s'/\RelV v u/\Q v H'
def TP (X:Cx)(pins:List (Addr×Obj))(σ:St)(Q:Bool->Hp->Prop)(b:Bool)(s':Shared):Prop:=∃H',Inv X pins σ H' s'/\Q b H'
def AP (X:Cx)(pins:List (Addr×Obj))(σ:St)(Q:List V->Hp->Prop)(us:TF)(s':Shared):Prop:=∃vs H',Inv X pins σ H' s'/\qh vs us/\Q vs H'
def SP (X:Cx)(pins:List (Addr×Obj))(D:xj)(f:Flow)(s':Shared):Prop:=
 match f with
 |.next=>∃af H',Inv X pins af H' s'/\D.nx af H'
 |.brk=>∃af H',Inv X pins af H' s'/\D.bk af H'
 |.cont=>∃af H',Inv X pins af H' s'/\D.ct af H'
 |.ret u=>∃v af H',Inv X pins af H' s'/\RelV v u/\D.rt v H'
def PE (X:Cx)(e:Expr)(t:TE):Prop:=
 ∀(pins:List (Addr×Obj)) (s:Shared) (σ:St) (H:Hp) (Q:VK),Inv X pins σ H s->t σ H Q->wpAny (model X.prog X.w) X.A (eval e X.env) (EP X pins σ Q) X.xe s
def PT (X:Cx)(e:Expr)(t:TT):Prop:=
 ∀(pins:List (Addr×Obj)) (s:Shared) (σ:St) (H:Hp) (Q:Bool->Hp->Prop),Inv X pins σ H s->t σ H Q->wpAny (model X.prog X.w) X.A (isTrue e X.env (eval e X.env)) (TP X pins σ Q) X.xe s
def PW (X:Cx)(e:Expr)(t:TT):Prop:=
 ∀(whole:Sem Value) (pins:List (Addr×Obj)) (s:Shared) (σ:St) (H:Hp) (Q:Bool->Hp->Prop),Inv X pins σ H s->t σ H Q->wpAny (model X.prog X.w) X.A (isTrue e X.env whole) (TP X pins σ Q) X.xe s
def PW.pt {X:Cx}{e:Expr}{t:TT}(h:PW X e t):PT X e t:=h _
def PA (X:Cx)(es:List Expr)(t:TA):Prop:=
 ∀(pos:Pos) (pins:List (Addr×Obj)) (s:Shared) (σ:St) (H:Hp) (Q:List V->Hp->Prop),Inv X pins σ H s->t σ H Q->wpAny (model X.prog X.w) X.A (spliced (backTo pos (starEach es X.env))) (AP X pins σ Q) X.xe s
def PS (X:Cx)(st:Stmt)(t:TS):Prop:=
 ∀(pins:List (Addr×Obj)) (s:Shared) (σ:St) (H:Hp) (D:xj),Inv X pins σ H s->t D σ H->wpAny (model X.prog X.w) X.A (exec st X.env) (SP X pins D) X.xe s
def PSs (X:Cx)(st:List Stmt)(t:TS):Prop:=
 ∀(pins:List (Addr×Obj)) (s:Shared) (σ:St) (H:Hp) (D:xj),Inv X pins σ H s->t D σ H->wpAny (model X.prog X.w) X.A (execs st X.env) (SP X pins D) X.xe s
def thn {α:Type}{t:Sem α}{Q Q':α->Shared->Prop}{M:Model}{A:Around}{E:TB}{s:Shared}(h:wpAny M A t Q E s)(hQ:∀a s,Q a s->Q' a s):wpAny M A t Q' E s:=CD h hQ λ_ _ x=>x
section
variable {X:Cx}
def tVar (i:Nat):TE:=λσ H Q=>∃v,σ[i]?=some (some v)/\Q v H
def tC (v:V):TE:=λ_ H Q=>Q v H
def pe_var {i:Nat}{x:Str}{pos:Pos}(hN:X.N[i]?=some x) (hv:Vis X.env.scope x) (hd:(x==("__debug__" : Str))=false:=by decide) (bJ:(x==("__classdict__" : Str))=false:=by decide):PE X (.Name x pos) (tVar i):=by
 intro pins s σ H Q I h;obtain⟨v,e,h⟩:=h;obtain⟨m,hn,hl⟩:=I.loc;obtain⟨u,r,l⟩:=hl i x v hN e hv;have fin:EP X pins σ Q u s:=⟨v,H,I,r,h⟩
 rcases l with ⟨hk,hm⟩|⟨hk,c,hc,hcell⟩
 ·exact wpAny_Name (wpAny_loadName_local I.ok.kind hk hn hm fin) hd
 ·rcases hk with hk|hk
  ·exact wpAny_Name (wpAny_loadName_cell I.ok.kind hk hc hcell fin) hd
  ·exact wpAny_Name (wpAny_loadName_free I.ok.kind hk hc hcell fin bJ) hd
def zo {i j pos}:PE X (.Constant (.int i) j pos) (tC (.int i)):=λ_ _ _ H _ I h=>wpAny_Constant_int ⟨.int i,H,I.tok _,⟨_,rfl⟩,h⟩
def xk {b j pos}:PE X (.Constant (.bool b) j pos) (tC (.bl b)):=λ_ _ _ H _ I h=>Constant_bool ⟨.bl b,H,I,rfl,h⟩
def Je {j pos}:PE X (.Constant .none j pos) (tC .non):=λ_ _ _ H _ I h=>Constant_none ⟨.non,H,I,rfl,h⟩
def qM {x j pos}:PE X (.Constant (.str x) j pos) (tC (.str x)):=λ_ _ _ H _ I h=>Calls.Constant_str ⟨.str x,H,I.tok _,⟨_,rfl⟩,h⟩
def Gl (X:Cx)(x:Str):Prop:=X.env.kindOf x=some .globalImplicit
def Jf {E:TB}{pins:List (Addr×Obj)}{s:Shared}{σ:St}{H:Hp}{x:Str}{u:Value}{pos:Pos}{Q:TB}(I:Inv X pins σ H s)(hg:Gl X x)(hm:X.mg x=some u)(h:Q u s)
  (hd:(x==("__debug__" : Str))=false:=by decide):wpAny (model X.prog X.w) X.A (eval (.Name x pos) X.env) Q E s:=
 Calls.Name_function_global I.ok.kind hg (Calls.loadGlobal_global (by rw[I.ok.glob];exact I.mod.glob.keeps I.bk) hm h) hd
def ZC {E:TB}{pins:List (Addr×Obj)}{s:Shared}{σ:St}{H:Hp}{x:Str}{u:Value}{pos:Pos}{Q:TB}(I:Inv X pins σ H s)(hg:Gl X x)(hm:X.mg x=none)(hv:bootBuiltins x=some u)(h:Q u s)
  (hn:x ≠ "__name__":=by decide) (hd:(x==("__debug__" : Str))=false:=by decide):wpAny (model X.prog X.w) X.A (eval (.Name x pos) X.env) Q E s:=by
 obtain⟨mb,h1,h2⟩:=I.mod.blt;exact Calls.Name_function_global I.ok.kind hg (Calls.loadGlobal_builtin (by rw[I.ok.glob];exact I.mod.glob.keeps I.bk) hm (by rw[I.ok.blt];exact h1.keeps I.bk) ((h2 x hn).trans hv) h) hd
def pe_glob {x:Str}{v:V}{u:Value}{pos:Pos}(hg:Gl X x) (hm:X.mg x=some u) (r:RelV v u) (hd:(x==("__debug__" : Str))=false:=by decide):PE X (.Name x pos) (tC v):=
 λ_ _ _ H _ I h=>Jf I hg hm ⟨v,H,I,r,h⟩ hd
def pe_bltn {x:Str}{v:V}{u:Value}{pos:Pos}(hg:Gl X x) (hm:X.mg x=none) (hv:bootBuiltins x=some u) (r:RelV v u) (hn:x ≠ "__name__":=by decide) (hd:(x==("__debug__" : Str))=false:=by decide):PE X (.Name x pos) (tC v):=
 λ_ _ _ H _ I h=>ZC I hg hm hv ⟨v,H,I,r,h⟩ hn hd
variable {a b:Expr}{ta tb:TE}{pos:Pos}
def tB (t:TE):TT:=λσ H Q=>t σ H λx H1=>∃c,x=.bl c/\Q c H1
def WT {e:Expr}{t:TE}(h:PE X e t)(he:∀whole,isTrue e X.env whole=(do let v <- whole;standAt e.pos;holding [v] (truthy v)):=by intro _;rfl):PT X e (tB t):=by intro pins s σ H Q I hw;refine isTrue_plain (thn (h pins s σ H _ I hw) λv s1 ⟨x,H1,I1,r1,q1⟩=>?_) (he _);obtain⟨d,rfl,q⟩:=q1;cases r1;exact Dz ⟨H1,I1,q⟩
variable {tA oh:TT}{rest:List Expr}
def tAnd (t u:TT):TT:=λσ H Q=>t σ H λc H1=>if c=true then u σ H1 Q else Q false H1
def tOr (t u:TT):TT:=λσ H Q=>t σ H λc H1=>if c=true then Q true H1 else u σ H1 Q
def tNot (t:TT):TT:=λσ H Q=>t σ H λc H1=>Q (!c) H1
def yW (ha:PT X a tA):PW X (.BoolOp .And [a] pos) tA:=by
 intro wh pins s σ H Q I h;refine isTrue_and (thn (ha pins s σ H Q I h) λc s1 e=>?_);cases c with
 |true=>exact isTrue_and_nil e
 |false=>exact e
def pw_or1 (ha:PT X a tA):PW X (.BoolOp .Or [a] pos) tA:=by
 intro wh pins s σ H Q I h;refine isTrue_or (thn (ha pins s σ H Q I h) λc s1 e=>?_);cases c with
 |false=>exact isTrue_or_nil e
 |true=>exact e
def Xn (ha:PT X a tA)(hb:PW X (.BoolOp .And (b::rest) pos) oh):PW X (.BoolOp .And (a::b::rest) pos) (tAnd tA oh):=by
 intro wh pins s σ H Q I h;refine isTrue_and (thn (ha pins s σ H _ I h) λc s1 ⟨H1,I1,q1⟩=>?_);cases c with
 |true=>exact hb wh pins s1 σ H1 Q I1 q1
 |false=>exact⟨H1,I1,q1⟩
def pw_or (ha:PT X a tA)(hb:PW X (.BoolOp .Or (b::rest) pos) oh):PW X (.BoolOp .Or (a::b::rest) pos) (tOr tA oh):=by
 intro wh pins s σ H Q I h;refine isTrue_or (thn (ha pins s σ H _ I h) λc s1 ⟨H1,I1,q1⟩=>?_);cases c with
 |true=>exact⟨H1,I1,q1⟩
 |false=>exact hb wh pins s1 σ H1 Q I1 q1
def pt_not (ha:PT X a tA):PT X (.UnaryOp .Not a pos) (tNot tA):=by intro pins s σ H Q I h;exact isTrue_not (ha pins s σ H (λc H1=>Q (!c) H1) I h)
def tAndV (ta tb:TE):TE:=λσ H Q=>ta σ H λx H1=>∃c,x=.bl c/\if c=true then tb σ H1 Q else Q (.bl false) H1
def pe_one {op}{t:TE}(h:PE X a t):PE X (.BoolOp op [a] pos) t:=λpins s σ H Q I hw=>BoolOp_one (h pins s σ H Q I hw)
def pe_and (ha:PE X a ta)(hb:PE X (.BoolOp .And (b::rest) pos) tb):PE X (.BoolOp .And (a::b::rest) pos) (tAndV ta tb):=by
 intro pins s σ H Q I h;refine BoolOp_and (thn (ha pins s σ H _ I h) λv s1 ⟨x,H1,I1,r1,q1⟩=>?_);obtain⟨c,rfl,q1⟩:=q1;cases r1;refine Dz ?_;cases c with
 |true=>exact hb pins s1 σ H1 Q I1 q1
 |false=>exact⟨.bl false,H1,I1,O,q1⟩
end
def SqL (K:Fv)(H:Hp)(a:Addr)(xs:List V):Prop:=
 Rd H a (.lst xs) \/
  ∃(o:Obj) (its:TH) (n:Nat),K.lookup a=some o/\o.cls=.type "list" /\ o.dict=none/\o.data=.seq its n/\its.size<=sizeLine/\qh xs its.toList
def SqT (K:Fv)(H:Hp)(a:Addr)(xs:List V):Prop:=
 Rd H a (.tup xs) \/
  ∃(o:Obj) (its:TH) (n:Nat),K.lookup a=some o/\o.cls=.type "tuple" /\ o.data=.seq its n/\its.size<=sizeLine/\qh xs its.toList
def absV:Value->Option V
 |.none=>some .non
 |.bool b=>some (.bl b)
 |.int i _=>some (.int i)
 |.str x _=>some (.str x)
 |.bytes b _=>some (.byt b)
 |.float b _=>some (.flt b)
 |.ref a=>some (.ref a)
 |.type n=>some (.ty n)
 |_=>none
def RelV.abs {x:V}{u:Value}(r:RelV x u):absV u=some x:=by
 cases x with
 |non=>cases r;rfl
 |bl _=>cases r;rfl
 |int _=>obtain⟨t,rfl⟩:=r;rfl
 |str _=>obtain⟨t,rfl⟩:=r;rfl
 |byt _=>obtain⟨t,rfl⟩:=r;rfl
 |flt _=>obtain⟨t,rfl⟩:=r;rfl
 |ref _=>cases r;rfl
 |ty _=>cases r;rfl
def RelV.inj {x y:V}{u:Value}(r:RelV x u)(q:RelV y u):x=y:=AH (r.abs.symm.trans q.abs)
theorem qh.inj:∀{xs ys:List V}{us:List Value},qh xs us->qh ys us->xs=ys
 |_,_,_,.nil,.nil=>rfl
 |_,_,_,.cons r t,.cons r' t'=>by rw[r.inj r',qh.inj t t']
section
variable {X:Cx}{pins:List (Addr×Obj)}{σ:St}{H:Hp}{s:Shared}{a:Addr}{xs ys:List V}
def SqL.of {K:Fv}(h:H a=some (.lst xs)):SqL K H a xs:=.inl (.inl h)
def TR:=@SqL.of
def SqT.of {K:Fv}(h:H a=some (.tup xs)):SqT K H a xs:=.inl (.inl h)
def TU:=@SqT.of
def Inv.list (I:Inv X pins σ H s)(h:SqL X.K H a xs):∃its:TF,qh xs its/\PlainL s.heap a its.toArray/\xs.length<=sizeLine:=by
 rcases h with h|⟨o,its,n,hk,hc,hd,hs,hz,r⟩
 ·obtain⟨z,its,n,r,e⟩:=h.ok I.hok;exact⟨its,r,⟨_,n,e,O,O,O⟩,z⟩
 ·refine⟨its.toList,r,⟨o,n,I.kIn a o hk,hc,hd,by simpa using hs⟩,?_⟩;have e:=r.length;simp only[Array.length_toList]at e;lia
def Inv.tuple (I:Inv X pins σ H s)(h:SqT X.K H a xs):∃its:TF,qh xs its/\IsTup s.heap a its.toArray/\xs.length<=sizeLine:=by
 rcases h with h|⟨o,its,n,hk,hc,hs,hz,r⟩
 ·obtain⟨z,its,r,p⟩:=h.ok I.hok;exact⟨its,r,p.isTup,z⟩
 ·refine⟨its.toList,r,⟨o,I.kIn a o hk,hc,n,by simpa using hs⟩,?_⟩;have e:=r.length;simp only[Array.length_toList]at e;lia
def Inv.list_inj (I:Inv X pins σ H s)(h:SqL X.K H a xs)(h':SqL X.K H a ys):xs=ys:=by
 obtain⟨its,r,⟨o,n,e,_,_,d⟩,_⟩:=I.list h;obtain⟨its',r',⟨o',n',e',_,_,d'⟩,_⟩:=I.list h';rw[e]at e';cases e';rw[d]at d';injection d' with d1 _
 have:its=its':=by simpa using BF Array.toList d1
 subst this;exact r.inj r'
def Inv.tuple_inj (I:Inv X pins σ H s)(h:SqT X.K H a xs)(h':SqT X.K H a ys):xs=ys:=by
 obtain⟨its,r,⟨o,e,_,n,d⟩,_⟩:=I.tuple h;obtain⟨its',r',⟨o',e',_,n',d'⟩,_⟩:=I.tuple h';rw[e]at e';cases e';rw[d]at d';injection d' with d1 _
 have:its=its':=by simpa using BF Array.toList d1
 subst this;exact r.inj r'
end
abbrev Cx.wish (X:Cx) (E:TB):Cx:={X with xe:=E}
abbrev Cx.nox (X:Cx):Cx:=X.wish λ_ _=>False
def Cx.Ok.wish {X:Cx}(ok:X.Ok)(E:TB):(X.wish E).Ok:=
 ⟨ok.mod,ok.kind,ok.glob,ok.blt,ok.above,ok.inj,ok.has,ok.cab,ok.hd,ok.frames,ok.stk,ok.exf,ok.bs,ok.bsz,ok.noex,ok.exfs,ok.funs,ok.frf⟩
def Cx.Ok.unwish {X:Cx}{E:TB}(ok:(X.wish E).Ok):X.Ok:=
 ⟨ok.mod,ok.kind,ok.glob,ok.blt,ok.above,ok.inj,ok.has,ok.cab,ok.hd,ok.frames,ok.stk,ok.exf,ok.bs,ok.bsz,ok.noex,ok.exfs,ok.funs,ok.frf⟩
section
variable {X:Cx}{pins:List (Addr×Obj)}{σ:St}{H:Hp}{s:Shared}{E:TB}
def Inv.wish (I:Inv X pins σ H s)(E:TB):Inv (X.wish E) pins σ H s:=⟨I.ok.wish E,I.os,I.bare,I.base,I.loc,I.cell,I.free,I.freeC,I.pin,I.hok,I.len⟩
def Inv.unwish (I:Inv (X.wish E) pins σ H s):Inv X pins σ H s:=⟨I.ok.unwish,I.os,I.bare,I.base,I.loc,I.cell,I.free,I.freeC,I.pin,I.hok,I.len⟩
def SP.unwish {D:xj}{f:Flow}{s':Shared}(h:SP (X.wish E) pins D f s'):SP X pins D f s':=by
 cases f with
 |next=>obtain⟨af,H',I,q⟩:=h;exact⟨af,H',I.unwish,q⟩
 |brk=>obtain⟨af,H',I,q⟩:=h;exact⟨af,H',I.unwish,q⟩
 |cont=>obtain⟨af,H',I,q⟩:=h;exact⟨af,H',I.unwish,q⟩
 |ret u=>obtain⟨v,af,H',I,r,q⟩:=h;exact⟨v,af,H',I.unwish,r,q⟩
def PSs.nox {st:List Stmt}{t:TS}(h:PSs X.nox st t):PSs X st t:=λpins s σ H D I hw=>
 CD (h pins s σ H D (I.wish _) hw) (λ_ _ q=>q.unwish) λ_ _ z=>False.elim z
end
section
variable {X:Cx}{st:Stmt}{rest:List Stmt}{t u:TS}{e:Expr}{te:TE}{pos:Pos}
def tNext:TS:=λD σ H=>D.nx σ H
def tSeq (t u:TS):TS:=λD σ H=>t {D with nx:=u D} σ H
def zY:PSs X [] tNext:=λ_ _ σ H _ I h=>Dn ⟨σ,H,I,h⟩
def zh (h1:PS X st t)(h2:PSs X rest u):PSs X (st::rest) (tSeq t u):=by
 intro pins s σ H D I h;refine wpAny_execs_cons (thn (h1 pins s σ H {D with nx:=u D} I h) λf s1 q=>?_);cases f with
 |next=>obtain⟨af,H',I',q⟩:=q;exact h2 pins s1 af H' D I' q
 |ret v=>exact q
 |brk=>exact q
 |cont=>exact q
def zp (h1:PS X st t):PSs X [st] t:=by
 intro pins s σ H D I h;refine wpAny_execs_cons (thn (h1 pins s σ H D I h) λf s1 q=>?_);cases f with
 |next=>exact Dn q
 |ret v=>exact q
 |brk=>exact q
 |cont=>exact q
def Inv.quiet {pins:List (Addr×Obj)}{σ:St}{H:Hp}{s:Shared}(I:Inv X pins σ H s):interactive X.env=false:=by simp[interactive,I.ok.kind]
def tDrop (te:TE):TS:=λD σ H=>te σ H λ_ H1=>D.nx σ H1
def qo (he:PE X e te)(hs:swapsWith e none pos.line X.env=pure false:=by rfl):PS X (.Expr e pos) (tDrop te):=by intro pins s σ H D I h;exact wpAny_Expr_any (thn (he pins s σ H _ I h) λv s1 ⟨x,H1,I1,r1,q1⟩=>⟨σ,H1,I1,q1⟩) I.quiet hs
def tRet (te:TE):TS:=λD σ H=>te σ H D.rt
def zK (he:PE X e te):PS X (.Return (some e) pos) (tRet te):=by intro pins s σ H D I h;exact wpAny_Return_some (thn (he pins s σ H _ I h) λv s1 ⟨x,H1,I1,r1,q1⟩=>⟨x,σ,H1,I1,r1,q1⟩)
def tIfS (c:TT)(t u:TS):TS:=λD σ H=>c σ H λb H1=>if b=true then t D σ H1 else u D σ H1
def jn {c:Expr}{a b:List Stmt}{tc:TT}(hc:PT X c tc)(ha:PSs X a t)(hb:PSs X b u):PS X (.If c a b pos) (tIfS tc t u):=by
 intro pins s σ H D I h;refine wpAny_If (thn (hc pins s σ H _ I h) λd s1 ⟨H1,I1,q1⟩=>?_);cases d with
 |true=>exact ha pins s1 σ H1 D I1 q1
 |false=>exact hb pins s1 σ H1 D I1 q1
def tNever:TS:=λ_ _ _=>False
def Q0:PS X st tNever:=λ_ _ _ _ _ _ h=>h.elim
end
abbrev TG:=V->St->Hp->(St->Hp->Prop)->Prop
abbrev TGs:=List V->St->Hp->(St->Hp->Prop)->Prop
def PG (X:Cx)(target:Expr)(t:TG):Prop:=
 ∀(pins:List (Addr×Obj)) (s:Shared) (σ:St) (H:Hp) (v:V) (u:Value) (Q:St->Hp->Prop),Inv X pins σ H s->RelV v u->t v σ H Q ->
  wpAny (model X.prog X.w) X.A (assign target X.env u) (λ_ s'=>∃af H',Inv X pins af H' s'/\Q af H') X.xe s
def PGs (X:Cx)(ts:List Expr)(t:TGs):Prop:=
 ∀(pins:List (Addr×Obj)) (s:Shared) (σ:St) (H:Hp) (vs:List V) (us:TF) (Q:St->Hp->Prop),Inv X pins σ H s->qh vs us->t vs σ H Q ->
  wpAny (model X.prog X.w) X.A (assignInOrder ((assignEach ts X.env).map (·.2)) us) (λ_ s'=>∃af H',Inv X pins af H' s'/\Q af H') X.xe s
abbrev TSet:=V->V->V->Hp->(Hp->Prop)->Prop
def PSet (X:Cx)(t:TSet):Prop:=
 ∀(pins:List (Addr×Obj)) (s:Shared) (σ:St) (H:Hp) (o i v:V) (ov iv u:Value) (Q:Hp->Prop),Inv X pins σ H s->RelV o ov->RelV i iv->RelV v u->t o i v H Q ->
  wpAny (model X.prog X.w) X.A (setItem ov iv u) (λ_ s'=>∃H',Inv X pins σ H' s'/\Q H') X.xe s
section
variable {X:Cx}{pos:Pos}
def qN (i:Nat):TG:=λv σ H Q=>Q (σ.set i (some v)) H
theorem Qz {i:Nat}{x:Str}(hN:X.N.Nodup)(hi:X.N[i]?=some x)(hx:Loc X.env.scope x)(hf:X.fn x=true\/X.env.scope.names.lookup x=some .local:=by first|exact .inl rfl|exact .inr rfl|assumption):PG X (.Name x pos) (qN i):=by intro pins s σ H v u Q I r h;exact wpAny_assign_Name (wU I hN hi hx r (λs' I'=>⟨_,H,I',h⟩) hf)
def gNil:TGs:=λvs σ H Q=>vs=[]/\Q σ H
def ZD (t:TG)(u:TGs):TGs:=λvs σ H Q=>∃v r,vs=v::r/\t v σ H λaf H'=>u r af H' Q
def qT:PGs X [] gNil:=by intro pins s σ H vs us Q I r h;obtain⟨e,h⟩:=h;subst e;cases r;exact assignInOrder_nil ⟨σ,H,I,h⟩
def zB {e:Expr}{es:List Expr}{t:TG}{u:TGs}(h1:PG X e t)(h2:PGs X es u)
  (hs:(assignEach (e::es) X.env).map (·.2)=assign e X.env::(assignEach es X.env).map (·.2):=by rfl):PGs X (e::es) (ZD t u):=by
 intro pins s σ H vs us Q I r h;obtain⟨v,vr,e1,h⟩:=h;subst e1;cases r with
 |cons r rr=>rw[hs];refine assignInOrder_cons (thn (h1 pins s σ H _ _ _ I r h) λ_ s1 ⟨i8,H1,I1,q1⟩=>?_);exact h2 pins s1 i8 H1 _ _ Q I1 rr q1
def gTup (K:Fv)(n:Nat)(t:TGs):TG:=λv σ H Q=>∃a xs,v=.ref a/\SqT K H a xs/\xs.length=n/\t xs σ H Q
def pg_tup {es:List Expr}{k:Nat}{t:TGs}{n:Nat}(hc:X.calm=true)(h:PGs X es t)
  (hn:(assignEach es X.env).length=n:=by rfl)(dz:(assignEach es X.env).findIdx? (·.1)=none:=by rfl):PG X (.Tuple es k pos) (gTup X.K n t):=by
 intro pins s σ H v u Q I r hw;obtain⟨a,xs,e1,hq,hl,hw⟩:=hw;subst e1;cases r;obtain⟨its,rv,ht,hz⟩:=I.tuple hq;refine assign_Tuple_tuple (I.ok.hd hc) ht (by simp[hn,<- hl,rv.length]) dz λh' hx=>?_;have I1:Inv X pins σ H {s with heap:=h'}:=I.kept (t':=s.toks) λb o e=>hx b o (AZ (AR e)) e;exact h pins _ σ H xs _ Q I1 (by simpa using rv) hw
def gSub (to ti:TE)(t:TSet):TG:=λv σ H Q=>to σ H λo H1=>ti σ H1 λi H2=>t o i v H2 λH3=>Q σ H3
def pg_sub {o i:Expr}{to ti:TE}{t:TSet}(ho:PE X o to)(hi:PE X i ti)(hs:PSet X t)
  (ha:∀v,assign (.Subscript o i pos) X.env v=(do
   let ov <- holding [v] (eval o X.env)
   let iv <- holding [v,ov] (eval i X.env)
   standAt pos
   holding [v,ov,iv] (setItem ov iv v)
   release [v,ov,iv] []):=by intro _;rfl):PG X (.Subscript o i pos) (gSub to ti t):=by
 intro pins s σ H v u Q I r h;rw[ha];refine AA (BL (thn (ho pins s σ H _ I h) λov s1 ⟨x,H1,I1,r1,q1⟩=>?_));refine AA (BL (thn (hi pins s1 σ H1 _ I1 q1) λiv s2 ⟨y,H2,I2,r2,q2⟩=>?_));refine AA (wpAny_standAt (AA (BL (thn (hs pins s2 σ H2 x y v ov iv u _ I2 r1 r2 r q2) λ_ s3 ⟨H3,I3,q3⟩=>?_))));exact wpAny_release ⟨σ,H3,I3,q3⟩
def tAsg (te:TE)(g:TG):TS:=λD σ H=>te σ H λx H1=>g x σ H1 D.nx
def Xo {tg e:Expr}{te:TE}{g:TG}(he:PE X e te)(hg:PG X tg g)(hs:swapsWithSole [tg] e pos.line X.env=pure false:=by rfl)(hw:swappedStores [tg] e X.env=pure none:=by rfl)
  (h1:(assignEach [tg] X.env).map (·.2)=[assign tg X.env]:=by rfl):PS X (.Assign [tg] e pos) (tAsg te g):=by
 intro pins s σ H D I h;refine wpAny_Assign_stores (thn (he pins s σ H _ I h) λv s1 ⟨x,H1,I1,r1,q1⟩=>?_) hs hw;rw[h1];exact thn (hg pins s1 σ H1 x v _ I1 r1 q1) λ_ s2 q=>q
theorem zA {i:Nat}{x:Str}{e:Expr}{te:TE}{pos':Pos}(hN:X.N.Nodup)(hi:X.N[i]?=some x)(hx:Loc X.env.scope x)(he:PE X e te)(hs:swapsWith e (some (.Name x pos')) pos.line X.env=pure false:=by rfl)(hf:X.fn x=true\/X.env.scope.names.lookup x=some .local:=by first|exact .inl rfl|exact .inr rfl|assumption):
  PS X (.Assign [.Name x pos'] e pos) (tAsg te (qN i)):=by
 intro pins s σ H D I h;refine wpAny_Assign_Name (thn (he pins s σ H _ I h) λv s1 ⟨y,H1,I1,r1,q1⟩=>?_) hs;exact wU I1 hN hi hx r1 (λs2 I2=>⟨_,H1,I2,q1⟩) hf
end
section
variable {X:Cx}{pos:Pos}
def tWhile (c:TT)(tb:TS):TS:=λD σ H=>∃W:Nat->St->Hp->Prop,(∃m,W m σ H)/\∀m σ H,W m σ H ->
 c σ H λb H1=>if b=true then ∃N:St->Hp->Prop,(∀af H',N af H'->∃m',m'<m/\W m' af H')/\tb {D with nx:=N,ct:=N,bk:=D.nx} σ H1 else D.nx σ H1
def YL {c:Expr}{body:List Stmt}{tc:TT}{tb:TS}(hp:PassesOwn (model X.prog X.w) X.A X.env X.xe)(hc:PT X c tc)(hb:PSs X body tb):PS X (.While c body [] pos) (tWhile tc tb):=by
 intro pins s σ H D I h;obtain⟨W,⟨m0,w0⟩,turn⟩:=h;refine wpAny_While (codeAny_whileLoop (λn s'=>∃af H',Inv X pins af H' s'/\W n af H') ?_ m0 ⟨σ,H,I,w0⟩);rintro n s1 ⟨i8,H1,I1,w1⟩;refine DH hp (thn (hc pins s1 i8 H1 _ I1 (turn n i8 H1 w1)) λb s2 ⟨H2,I2,q2⟩=>?_);cases b with
 |true=>
  obtain⟨N,hN,q2⟩:=q2;rw[if_pos rfl];refine DH hp (thn (hb pins s2 i8 H2 _ I2 q2) λf s3 q3=>?_);cases f with
  |next=>obtain⟨eF,H3,I3,n3⟩:=q3;obtain⟨m',hm,w3⟩:=hN eF H3 n3;exact⟨m',hm,eF,H3,I3,w3⟩
  |cont=>obtain⟨eF,H3,I3,n3⟩:=q3;obtain⟨m',hm,w3⟩:=hN eF H3 n3;exact⟨m',hm,eF,H3,I3,w3⟩
  |brk=>exact q3
  |ret v=>exact q3
 |false=>rw[if_neg AV];exact Dn ⟨i8,H2,I2,q2⟩
end
structure It where
 go:Nat->Hp->Prop
 yld:Nat->Hp->V->Hp->Prop
 stop:Nat->Hp->Prop
def YM (X:Cx)(pins:List (Addr×Obj))(H:Hp)(b:Addr):Prop:=
 H b=none/\b≠X.env.locals/\b ∉ X.fs/\(b∈X.ex\/X.s₀.heap.objs.size<=b)/\(∀x c,X.env.cells.lookup x=some c->c≠b)/\∀p∈X.pn++pins,p.1≠b
def Inv.fpOk {X:Cx}{pins:List (Addr×Obj)}{σ:St}{H H':Hp}{s:Shared}{b:Addr}(I:Inv X pins σ H s)(hb:s.heap.objs.size<=b)(hn:H' b=none):YM X pins H' b:=by
 refine⟨hn,Be (Ah I.lt hb),I.nofs hb,.inr (Ar I.sz hb),λx c e z=>?_,λp hp z=>?_⟩
 ·obtain⟨v,q⟩:=I.cell x c e;exact absurd (Ah q.lt (by rw[z];exact hb)) (BA _)
 ·exact absurd (Ah (AR (I.pin p hp).1) (by rw[z];exact hb)) (BA _)
structure Turn (P:Program)(w:World)(K:Fv)(tg:Expr)(J:It)(fp:List Addr)(it:Addr)(tn:Nat->Heap->Prop):Prop where
 mem:it∈fp
 obj:∀i h,tn i h->∀b∈fp,∃o,h.get? b=some o/\∀v,o.data≠.cell v
 keep:∀i h h',tn i h->(∀b∈fp,∀o,h.get? b=some o->h'.get? b=some o)->tn i h'
 item:∀(X:Cx),X.prog=P->X.w=w->X.K=K->X.calm=true->∀(i:Nat) (pins:List (Addr×Obj)) (s:Shared) (σ:St) (H:Hp) (E:TB),Inv X pins σ H s->(∀b∈fp,YM X pins H b)->tn i s.heap->J.go i H ->
  wpAny (model P w) X.A (pyNext (.ref it)) (λr s1=>∃u,r=some u /\
   wpAny (model P w) X.A (letOwnedTupleGo tg (.ref it) u) (λ_ s2=>∃x H',Inv X pins σ H' s2/\RelV x u/\J.yld i H x H'/\tn (i+1) s2.heap/\∀b∈fp,H' b=none) E s1) E s
 done:∀(X:Cx),X.prog=P->X.w=w->X.K=K->X.calm=true->∀(i:Nat) (pins:List (Addr×Obj)) (s:Shared) (σ:St) (H:Hp) (E:TB),Inv X pins σ H s->(∀b∈fp,YM X pins H b)->tn i s.heap->J.stop i H ->
  wpAny (model P w) X.A (pyNext (.ref it)) (λr s1=>r=none/\Inv X pins σ H s1) E s
 self:∀(A:Around) (i:Nat) (s:Shared) (Q:TB) (E:TB),tn i s.heap->Q (.ref it) s->wpAny (model P w) A (pyIter (.ref it)) Q E s
abbrev TI:=St->Hp->(It->Hp->Prop)->Prop
def PIE (X:Cx)(pins:List (Addr×Obj))(σ:St)(tg:Expr)(R:It->Hp->Prop)(oK:Value)(s2:Shared):Prop:=
 ∃(it:Addr) (fp:List Addr) (tn:Nat->Heap->Prop) (J:It) (H':Hp),oK=.ref it/\Inv X pins σ H' s2/\Turn X.prog X.w X.K tg J fp it tn/\tn 0 s2.heap/\(∀b∈fp,YM X pins H' b)/\R J H'
def PI (X:Cx)(tg iter:Expr)(wi:TI):Prop:=
 ∀(pins:List (Addr×Obj)) (s:Shared) (σ:St) (H:Hp) (R:It->Hp->Prop),Inv X pins σ H s->wi σ H R ->
  wpAny (model X.prog X.w) X.A (eval iter X.env) (λv s1=>wpAny (model X.prog X.w) X.A (pyIter v) (PIE X pins σ tg R) X.xe s1) X.xe s
def Xp {M : Model}{A : Around}{E : Value -> Shared -> Prop}{s : Shared}{tg : Expr}{it : Addr}{u : Value}{o : Obj}{n : String}{vs : TH}{Q : Unit -> Shared -> Prop}(ho : s.heap.get? it = some o)(hc : o.cls = .type n)(hd : o.data = .fields vs)
    (hn : ["enumerate", "zip", "dict_itemiterator", "dict_reverseitemiterator", "odict_iterator", "itertools.zip_longest", "itertools.pairwise"].contains n = false) (hQ : Q () s) : wpAny M A (letOwnedTupleGo tg (.ref it) u) Q E s := by
  unfold letOwnedTupleGo;cases tg <;> first
    |exact AF hQ
    | (cases u <;> first
        |exact AF hQ
        | (refine AA (wpAny_load ho ?_)
           rw [hc, hd];show wpAny M A (if (["enumerate", "zip", "dict_itemiterator", "dict_reverseitemiterator", "odict_iterator", "itertools.zip_longest", "itertools.pairwise"].contains n&&vs[0]? == some (rawInt _)) = true then _ else _) Q E s;rw [if_neg (by intro h; rw [hn, Bool.false_and]at h; cases h)];exact AF hQ))
def Itl (K:Fv)(a:Addr):It:=
 ⟨λi H=>∃xs x,SqL K H a xs/\xs[i]?=some x,λi H x H'=>H'=H/\∀xs,SqL K H a xs->xs[i]?=some x,λi H=>∃xs,SqL K H a xs/\xs.length<=i⟩
def Itt (K:Fv)(a:Addr):It:=
 ⟨λi H=>∃xs x,SqT K H a xs/\xs[i]?=some x,λi H x H'=>H'=H/\∀xs,SqT K H a xs->xs[i]?=some x,λi H=>∃xs,SqT K H a xs/\xs.length<=i⟩
def Itr (lo:Int)(n:Nat):It:=⟨λi _=>i<n,λi H x H'=>H'=H/\x=.int (lo+i),λi _=>n<=i⟩
def Xq {P:Program}{w:World}{K:Fv}{tg:Expr}(a it:Addr):Turn P w K tg (Itl K a) [it] it (λi h=>h.IsListIter it a i) where
 mem:=by simp
 obj:=λi h st b hb=>by
  have e:b=it:=by simpa using hb
  subst e;obtain⟨o,e,c,d⟩:=st;exact⟨o,e,λv z=>by rw[d]at z;cases z⟩
 keep:=λi h h' st k=>st.at λo e=>k it (by simp) o e
 item:=by intro X hP hw hK hc i pins s σ H E I hf st hg;subst hP hw hK;obtain⟨xs,x,hq,hx⟩:=hg;obtain⟨its,rv,p,hz⟩:=I.list hq;obtain⟨u,hu,ru⟩:=rv.get hx;obtain⟨f0,f1,f2,f3,f4,f5⟩:=hf it (by simp);refine Ez st p.isList (x:=u) (by simpa using hu) λh' aQ sb=>?_;have I1:Inv X pins σ H {s with heap:=h'}:=I.turned (t':=s.toks) (λb o hb e=>(sb.2 b hb).trans e) f0 f1 f3 f4 f5;obtain⟨o,e,c,d⟩:=id aQ;exact⟨u,O,Xp (s:={s with heap:=h'}) e c d ∅ ⟨x,H,I1,ru,⟨O,λys hy=>by rw[I.list_inj hy hq];exact hx⟩,aQ,λb hb=>(hf b hb).1⟩⟩
 done:=by intro X hP hw hK hc i pins s σ H E I hf st hg;subst hP hw hK;obtain⟨xs,hq,hx⟩:=hg;obtain⟨its,rv,p,hz⟩:=I.list hq;obtain⟨f0,f1,f2,f3,f4,f5⟩:=hf it (by simp);have hl:=rv.length;exact E9 (I.ok.hd hc) st p.isList (by simp;lia) λh' eb=>⟨O,I.turned (t':=s.toks) (λb o hb e=>eb b o hb e) f0 f1 f3 f4 f5⟩
 self:=λ_ _ _ _ _ st h=>wpAny_pyIter_listiter st h
def xm {P:Program}{w:World}{K:Fv}{tg:Expr}(a it:Addr):Turn P w K tg (Itt K a) [it] it (λi h=>h.IsTupleIter it a i) where
 mem:=by simp
 obj:=λi h st b hb=>by
  have e:b=it:=by simpa using hb
  subst e;obtain⟨o,e,c,d⟩:=st;exact⟨o,e,λv z=>by rw[d]at z;cases z⟩
 keep:=λi h h' st k=>st.at λo e=>k it (by simp) o e
 item:=by intro X hP hw hK hc i pins s σ H E I hf st hg;subst hP hw hK;obtain⟨xs,x,hq,hx⟩:=hg;obtain⟨its,rv,p,hz⟩:=I.tuple hq;obtain⟨u,hu,ru⟩:=rv.get hx;obtain⟨f0,f1,f2,f3,f4,f5⟩:=hf it (by simp);refine wpAny_pyNext_tuple_item st (show s.heap.IsTuple a its.toArray from p) (x:=u) (by simpa using hu) λh' aQ sb=>?_;have I1:Inv X pins σ H {s with heap:=h'}:=I.turned (t':=s.toks) (λb o hb e=>(sb.2 b hb).trans e) f0 f1 f3 f4 f5;obtain⟨o,e,c,d⟩:=id aQ;exact⟨u,O,Xp (s:={s with heap:=h'}) e c d ∅ ⟨x,H,I1,ru,⟨O,λys hy=>by rw[I.tuple_inj hy hq];exact hx⟩,aQ,λb hb=>(hf b hb).1⟩⟩
 done:=by intro X hP hw hK hc i pins s σ H E I hf st hg;subst hP hw hK;obtain⟨xs,hq,hx⟩:=hg;obtain⟨its,rv,p,hz⟩:=I.tuple hq;obtain⟨f0,f1,f2,f3,f4,f5⟩:=hf it (by simp);have hl:=rv.length;exact wpAny_pyNext_tuple_end (I.ok.hd hc) st (show s.heap.IsTuple a its.toArray from p) (by simp;lia) λh' eb=>⟨O,I.turned (t':=s.toks) (λb o hb e=>eb b o hb e) f0 f1 f3 f4 f5⟩
 self:=λ_ _ _ _ _ st h=>wpAny_pyIter_tupleiter st h
def xn {P:Program}{w:World}{K:Fv}{tg:Expr}(it:Addr)(lo:Int)(n:Nat):Turn P w K tg (Itr lo n) [it] it (λi h=>IsRangeIter h it (lo+(i:Nat)*1) ((n:Int)-(i:Nat)) 1) where
 mem:=by simp
 obj:=λi h st b hb=>by
  have e:b=it:=by simpa using hb
  subst e;exact⟨_,st,λv z=>by have z':Data.fields _=Data.cell v:=z;cases z'⟩
 keep:=λi h h' st k=>k it (by simp) _ st
 item:=by intro X hP hw hK hc i pins s σ H E I hf st hg;subst hP hw hK;obtain⟨f0,f1,f2,f3,f4,f5⟩:=hf it (by simp);have W:=Walks.range (prog:=X.prog) (w:=X.w) (I.ok.hd hc) it lo 1 n;refine W.item i s _ _ hg st λv h' tk hv aQ kk=>?_;obtain⟨t,rfl⟩:=hv;have I1:Inv X pins σ H {s with heap:=h',toks:=tk}:=I.turned (λb o hb e=>kk b o (by simpa using hb) e) f0 f1 f3 f4 f5;refine⟨_,O,Xp (s:={s with heap:=h',toks:=tk}) (n := "range_iterator") aQ rfl rfl ∅ ⟨.int (lo+i),H,I1,⟨t,?_⟩,⟨O,O⟩,aQ,λb hb=>(hf b hb).1⟩⟩;rw[Int.mul_one]
 done:=by intro X hP hw hK hc i pins s σ H E I hf st hg;subst hP hw hK;obtain⟨f0,f1,f2,f3,f4,f5⟩:=hf it (by simp);exact wpAny_pyNext_range_end (I.ok.hd hc) st (by have:n<=i:=hg;lia) λh' eb=>⟨O,I.turned (t':=s.toks) (λb o hb e=>eb b o hb e) f0 f1 f3 f4 f5⟩
 self:=λ_ _ _ _ _ st h=>wpAny_pyIter_rangeiter st h
section
variable {X:Cx}{tg:Expr}
def iList (K:Fv)(tl:TE):TI:=λσ H R=>tl σ H λx H1=>∃a,x=.ref a/\(∃xs,SqL K H1 a xs)/\R (Itl K a) H1
def iTup (K:Fv)(tl:TE):TI:=λσ H R=>tl σ H λx H1=>∃a,x=.ref a/\(∃xs,SqT K H1 a xs)/\R (Itt K a) H1
def pi_list {l:Expr}{tl:TE}(hl:PE X l tl):PI X tg l (iList X.K tl):=by
 intro pins s σ H R I h;refine thn (hl pins s σ H _ I h) λv s1 ⟨x,H1,I1,r1,q1⟩=>?_;obtain⟨a,e,⟨xs,hq⟩,q⟩:=q1;subst e;cases r1;obtain⟨its,rv,p,hz⟩:=I1.list hq;refine D6 p.isList ?_;refine⟨s1.heap.objs.size,[s1.heap.objs.size],_,_,H1,O,I1.kept (t':=s1.toks) λb o e=>AE _ e,Xq a _,⟨_,AQ _ rfl,O,O⟩,λb hb=>?_,q⟩;have e:b=s1.heap.objs.size:=by simpa using hb
 subst e;exact I1.fpOk (AI _) (I1.hok.fresh (AI _))
def pi_tup {l:Expr}{tl:TE}(hl:PE X l tl):PI X tg l (iTup X.K tl):=by
 intro pins s σ H R I h;refine thn (hl pins s σ H _ I h) λv s1 ⟨x,H1,I1,r1,q1⟩=>?_;obtain⟨a,e,⟨xs,hq⟩,q⟩:=q1;subst e;cases r1;obtain⟨its,rv,p,hz⟩:=I1.tuple hq;refine Fg (show s1.heap.IsTuple a its.toArray from p) ?_;refine⟨s1.heap.objs.size,[s1.heap.objs.size],_,_,H1,O,I1.kept (t':=s1.toks) λb o e=>AE _ e,xm a _,⟨_,AQ _ rfl,O,O⟩,λb hb=>?_,q⟩;have e:b=s1.heap.objs.size:=by simpa using hb
 subst e;exact I1.fpOk (AI _) (I1.hok.fresh (AI _))
def range_it {pins:List (Addr×Obj)}{σ:St}{H:Hp}{s:Shared}{R:It->Hp->Prop}{E:TB}{lo hi:Int}{t u v:Tok}{tk:Nat}(I:Inv X pins σ H s)(h1:-(2^62)<=lo)(h2:lo<2^62)(h3:-(2^62)<=hi)(h4:hi<2^62)
  (q:R (Itr lo (hi-lo).toNat) H):wpAny (model X.prog X.w) X.A (pyIter (.ref s.heap.objs.size)) (PIE X pins σ tg R) E {s with heap:=s.heap.push {cls:=.type "range",data:=.fields #[.int lo t,.int hi u,.int 1 v]},toks:=tk}:=by
 refine wpAny_pyIter_range (IsRange.new ..) (small_one h1 h2 h3 h4) ?_;have I1:Inv X pins σ H {s with heap:=s.heap.push {cls:=.type "range",data:=.fields #[.int lo t,.int hi u,.int 1 v]},toks:=tk}:=I.kept λb o e=>AE _ e;refine⟨(s.heap.push {cls:=.type "range",data:=.fields #[.int lo t,.int hi u,.int 1 v]}).objs.size,[(s.heap.push {cls:=.type "range",data:=.fields #[.int lo t,.int hi u,.int 1 v]}).objs.size],_,_,H,O,
  I1.kept (t':=tk) λb o e=>AE _ e,xn _ lo (hi-lo).toNat,?_,λb hb=>?_,q⟩
 ·have e1:lo+((0:Nat):Int)*1=lo:=by simp
  have e2:(((hi-lo).toNat:Nat):Int)-((0:Nat):Int)=Builtin.Range.rangeSize lo hi 1:=by rw[rangeSize_one];split <;> lia
  show IsRangeIter _ _ (lo+((0:Nat):Int)*1) ((((hi-lo).toNat:Nat):Int)-((0:Nat):Int)) 1;rw[e1,e2];exact AQ _ rfl
 ·have e:b=(s.heap.push {cls:=.type "range",data:=.fields #[.int lo t,.int hi u,.int 1 v]}).objs.size:=by simpa using hb
  subst e;exact I1.fpOk (AI _) (I1.hok.fresh (AI _))
def iRng1 (ta:TA):TI:=λσ H R=>ta σ H λvs H1=>∃j:Int,vs=[.int j] /\ -(2^62)<=j/\j<2^62/\R (Itr 0 j.toNat) H1
def zL {a:Expr}{ta:TA}{p pos:Pos}(hg:Gl X "range") (hm:X.mg "range" = none) (ha:PA X [a] ta) (hs:starEach [a] X.env=[(false,eval a X.env)]:=by rfl):PI X tg (.Call (.Name "range" p) [a] [] pos) (iRng1 ta):=by
 intro pins s σ H R I h;refine Call_ (ZC I hg hm boot_range (BN (thn (ha pos pins s σ H _ I h) λus s1 ⟨vs,H1,I1,r1,q1⟩=>?_) hs rfl));obtain⟨j,e,q1,q2,q⟩:=q1;subst e;cases r1 with
 |cons r rr=>cases rr;obtain⟨t,rfl⟩:=r;exact call_range_1 (range_it I1 ⋯ ⋯ q1 q2 (by simpa using q))
def tFor (wi:TI)(g:TG)(tb:TS):TS:=λD σ H=>wi σ H λJ H1=>∃W:Nat->Nat->St->Hp->Prop,(∃m,W 0 m σ H1)/\∀i m σ H,W i m σ H ->
 (J.stop i H/\D.nx σ H)\/(J.go i H/\∃N:St->Hp->Prop,(∀af H',N af H'->∃m',m'<m/\W (i+1) m' af H')/\∀x H',J.yld i H x H'->g x σ H' λbR H2=>tb {D with nx:=N,ct:=N,bk:=D.nx} bR H2)
def WU (fp:List Addr)(h:Heap):List (Addr×Obj):=fp.filterMap λb=>(h.get? b).map λo=>(b,o)
def ZO {fp:List Addr}{h:Heap}{b:Addr}{o:Obj}(hb:b∈fp)(e:h.get? b=some o):(b,o)∈WU fp h:=EJ.mpr ⟨b,hb,by rw[e];rfl⟩
def Xr {fp:List Addr}{h:Heap}{p:Addr×Obj}(hp:p∈WU fp h):p.1∈fp/\h.get? p.1=some p.2:=by
 obtain⟨b,hb,e⟩:=EJ.mp hp;cases q:h.get? b with
 |none=>rw[q]at e;cases e
 |some o=>rw[q]at e;have e':(b,o)=p:=AH e;subst e';exact⟨hb,q⟩
def Inv.pinned {pins:List (Addr×Obj)}{σ:St}{H:Hp}{s:Shared}{fp:List Addr}(I:Inv X pins σ H s)(hf:∀b∈fp,YM X pins H b)(ho:∀b∈fp,∃o,s.heap.get? b=some o/\∀v,o.data≠.cell v):Inv X (pins++WU fp s.heap) σ H s:=
 I.pins_of λp hp=>(AX.mp hp).elim (λz=>I.pin p (Au _ z)) λz=>by obtain⟨hb,e⟩:=Xr z;obtain⟨f0,f1,f2,_⟩:=hf p.1 hb;obtain⟨o,e',d⟩:=ho p.1 hb;rw[e]at e';cases e';exact⟨e,f0,f1,f2,d⟩
def Inv.unpinned {pins pl:List (Addr×Obj)}{σ:St}{H:Hp}{s:Shared}(I:Inv X (pins++pl) σ H s):Inv X pins σ H s:=I.pins_of λp hp=>I.pin p (Au _ (Aq _ hp))
def qO {iter:Expr}{body:List Stmt}{wi:TI}{g:TG}{tb:TS}{pos:Pos}(hp:PassesOwn (model X.prog X.w) X.A X.env X.xe)(hc:X.calm=true)(hi:PI X tg iter wi)(hg:PG X tg g)(hb:PSs X body tb)
  (hs:∀x,foldedSetIterable iter X.env x=pure x:=by intro _;rfl):PS X (.For tg iter body [] pos) (tFor wi g tb):=by
 intro pins s σ H D I h;refine wpAny_For (thn (hi pins s σ H _ I h) λv s1 h1=>thn h1 λoK s2 h2=>?_) hs;obtain⟨it,fp,tn,J,H2,e,I2,T,kW,f2,W,⟨m0,w0⟩,turn⟩:=h2;subst e;have dq:∀{H':Hp},(∀b∈fp,H' b=none)->∀b∈fp,YM X pins H' b:=λhn b hb=>⟨hn b hb,(f2 b hb).2⟩
 refine codeAny_forLoop_any (λn s'=>∃i af H',Inv X pins af H' s'/\tn i s'.heap/\(∀b∈fp,H' b=none)/\W i n af H') ?_ m0 ⟨0,σ,H2,I2,kW,λb hb=>(f2 b hb).1,w0⟩;rintro n s3 ⟨i,eF,H3,I3,oj,Hq,w3⟩
 rcases turn i n eF H3 w3 with ⟨stop,qn⟩|⟨go,N,hN,step⟩
 ·refine DH hp (thn (T.done X rfl rfl rfl hc i pins s3 eF H3 X.xe I3 (dq Hq) oj stop) λr s4 ⟨hr,I4⟩=>?_);subst hr;exact Dn ⟨eF,H3,I4,qn⟩
 ·refine DH hp (thn (T.item X rfl rfl rfl hc i pins s3 eF H3 X.xe I3 (dq Hq) oj go) λr s4 ⟨u,hr,h4⟩=>?_);subst hr;refine DH hp (thn h4 λ_ s5 ⟨x,H5,I5,r5,y5,ka,pF⟩=>?_);have Nl:=I5.pinned (dq pF) (T.obj _ _ ka);refine DH hp (thn (hg _ s5 eF H5 x u _ Nl r5 (step x H5 y5)) λ_ s6 ⟨σ6,H6,I6,q6⟩=>?_);refine DH hp (thn (hb _ s6 σ6 H6 _ I6 q6) λf s7 q7=>?_);have again:∀{eE:St} {H7:Hp},Inv X (pins++WU fp s5.heap) eE H7 s7->N eE H7->∃m,m<n/\∃i af H',Inv X pins af H' s7/\tn i s7.heap/\(∀b∈fp,H' b=none)/\W i m af H':=λ{eE H7} I7 n7=>by obtain⟨m',hm,w7⟩:=hN eE H7 n7;refine⟨m',hm,i+1,eE,H7,I7.unpinned,T.keep _ _ _ ka λb hb o e=>(I7.pin (b,o) (Au _ (Au _ (ZO hb e)))).1,λb hb=>?_,w7⟩;obtain⟨o,e,d⟩:=T.obj _ _ ka b hb;exact (I7.pin (b,o) (Au _ (Au _ (ZO hb e)))).2.1
  cases f with
  |next=>obtain⟨eE,H7,I7,n7⟩:=q7;exact again I7 n7
  |cont=>obtain⟨eE,H7,I7,n7⟩:=q7;exact again I7 n7
  |brk=>obtain⟨eE,H7,I7,q7⟩:=q7;exact⟨eE,H7,I7.unpinned,q7⟩
  |ret v=>obtain⟨x7,eE,H7,I7,r7,q7⟩:=q7;exact⟨x7,eE,H7,I7.unpinned,r7,q7⟩
end
def jq {K:Fv}{a:Addr}{xs:List V}{g:TG}{tb:TS}{D:xj}{σ:St}{H:Hp}(Pv:Nat->St->Hp->Prop)(h0:Pv 0 σ H)(hl:∀i σ H,i<=xs.length->Pv i σ H->SqL K H a xs)
  (hs:∀i x σ H,xs[i]?=some x->Pv i σ H->g x σ H λbR H2=>tb {D with nx:=Pv (i+1),ct:=Pv (i+1),bk:=D.nx} bR H2)(hd:∀σ H,Pv xs.length σ H->D.nx σ H):
  ∃W:Nat->Nat->St->Hp->Prop,(∃m,W 0 m σ H)/\∀i m σ H,W i m σ H ->
   ((Itl K a).stop i H/\D.nx σ H)\/((Itl K a).go i H/\∃N:St->Hp->Prop,(∀af H',N af H'->∃m',m'<m/\W (i+1) m' af H')/\∀x H',(Itl K a).yld i H x H'->g x σ H' λbR H2=>tb {D with nx:=N,ct:=N,bk:=D.nx} bR H2):=by
 refine⟨λi m σ H=>m=xs.length-i/\i<=xs.length/\Pv i σ H,⟨xs.length,by simp,BC _,h0⟩,?_⟩;rintro i m σ H ⟨rfl,hi,p⟩;have q:=hl i σ H hi p;by_cases aA:i<xs.length
 ·refine .inr ⟨⟨xs,xs[i],q,by simp[aA]⟩,Pv (i+1),λaf H' p'=>⟨xs.length-(i+1),⋯,O,aA,p'⟩,λx H' y=>?_⟩;obtain⟨e,y⟩:=y;subst e;exact hs i x σ _ (y xs q) p
 ·have e:i=xs.length:=⋯;subst e;exact .inl ⟨⟨xs,q,AI _⟩,hd σ H p⟩
def QC {K:Fv}{a:Addr}{xs:List V}{g:TG}{tb:TS}{D:xj}{σ:St}{H:Hp}(Pv:Nat->St->Hp->Prop)(h0:Pv 0 σ H)(hl:∀i σ H,i<=xs.length->Pv i σ H->SqT K H a xs)
  (hs:∀i x σ H,xs[i]?=some x->Pv i σ H->g x σ H λbR H2=>tb {D with nx:=Pv (i+1),ct:=Pv (i+1),bk:=D.nx} bR H2)(hd:∀σ H,Pv xs.length σ H->D.nx σ H):
  ∃W:Nat->Nat->St->Hp->Prop,(∃m,W 0 m σ H)/\∀i m σ H,W i m σ H ->
   ((Itt K a).stop i H/\D.nx σ H)\/((Itt K a).go i H/\∃N:St->Hp->Prop,(∀af H',N af H'->∃m',m'<m/\W (i+1) m' af H')/\∀x H',(Itt K a).yld i H x H'->g x σ H' λbR H2=>tb {D with nx:=N,ct:=N,bk:=D.nx} bR H2):=by
 refine⟨λi m σ H=>m=xs.length-i/\i<=xs.length/\Pv i σ H,⟨xs.length,by simp,BC _,h0⟩,?_⟩;rintro i m σ H ⟨rfl,hi,p⟩;have q:=hl i σ H hi p;by_cases aA:i<xs.length
 ·refine .inr ⟨⟨xs,xs[i],q,by simp[aA]⟩,Pv (i+1),λaf H' p'=>⟨xs.length-(i+1),⋯,O,aA,p'⟩,λx H' y=>?_⟩;obtain⟨e,y⟩:=y;subst e;exact hs i x σ _ (y xs q) p
 ·have e:i=xs.length:=⋯;subst e;exact .inl ⟨⟨xs,q,AI _⟩,hd σ H p⟩
def Qg {lo:Int}{n:Nat}{g:TG}{tb:TS}{D:xj}{σ:St}{H:Hp}(Pv:Nat->St->Hp->Prop)(h0:Pv 0 σ H)
  (hs:∀i σ H,i<n->Pv i σ H->g (.int (lo+i)) σ H λbR H2=>tb {D with nx:=Pv (i+1),ct:=Pv (i+1),bk:=D.nx} bR H2)(hd:∀σ H,Pv n σ H->D.nx σ H):
  ∃W:Nat->Nat->St->Hp->Prop,(∃m,W 0 m σ H)/\∀i m σ H,W i m σ H ->
   ((Itr lo n).stop i H/\D.nx σ H)\/((Itr lo n).go i H/\∃N:St->Hp->Prop,(∀af H',N af H'->∃m',m'<m/\W (i+1) m' af H')/\∀x H',(Itr lo n).yld i H x H'->g x σ H' λbR H2=>tb {D with nx:=N,ct:=N,bk:=D.nx} bR H2):=by
 refine⟨λi m σ H=>m=n-i/\i<=n/\Pv i σ H,⟨n,by simp,BC _,h0⟩,?_⟩;rintro i m σ H ⟨rfl,hi,p⟩;by_cases aA:i<n
 ·refine .inr ⟨aA,Pv (i+1),λaf H' p'=>⟨n-(i+1),⋯,O,aA,p'⟩,λx H' y=>?_⟩;obtain⟨e,y⟩:=y;subst e y;exact hs i σ _ aA p
 ·have e:i=n:=⋯;subst e;exact .inl ⟨AI _,hd σ H p⟩
abbrev R2:=V->V->Hp->VK->Prop
def OpR (X:Cx)(f:Value->Value->Sem Value)(r:R2):Prop:=
 ∀(pins:List (Addr×Obj)) (s:Shared) (σ:St) (H:Hp) (x y:V) (v u:Value) (Q:VK),Inv X pins σ H s->RelV x v->RelV y u->r x y H Q ->
  wpAny (model X.prog X.w) X.A (f v u) (EP X pins σ Q) X.xe s
def UnR (X:Cx)(f:Value->Sem Value)(r:V->Hp->VK->Prop):Prop:=
 ∀(pins:List (Addr×Obj)) (s:Shared) (σ:St) (H:Hp) (x:V) (v:Value) (Q:VK),Inv X pins σ H s->RelV x v->r x H Q ->
  wpAny (model X.prog X.w) X.A (f v) (EP X pins σ Q) X.xe s
def qU (X:Cx)(f:Value)(r:List V->Hp->VK->Prop):Prop:=
 ∀(pins:List (Addr×Obj)) (s:Shared) (σ:St) (H:Hp) (xs:List V) (us:TF) (Q:VK),Inv X pins σ H s->qh xs us->r xs H Q ->
  wpAny (model X.prog X.w) X.A (call f us) (EP X pins σ Q) X.xe s
def tOp (r:R2)(ta tb:TE):TE:=λσ H Q=>ta σ H λx H1=>tb σ H1 λy H2=>r x y H2 Q
def tUn (r:V->Hp->VK->Prop)(ta:TE):TE:=λσ H Q=>ta σ H λx H1=>r x H1 Q
def rI (C:Int->Int->Prop)(g:Int->Int->V):R2:=λx y H Q=>∃i j,x=.int i/\y=.int j/\C i j/\Q (g i j) H
def rI0 (g:Int->Int->V):R2:=λx y H Q=>∃i j,x=.int i/\y=.int j/\Q (g i j) H
def rU (g:Int->V):V->Hp->VK->Prop:=λx H Q=>∃i,x=.int i/\Q (g i) H
section
variable {X:Cx}{a b c:Expr}{ta tb tc:TE}{pos:Pos}
def binT (ha:PE X a ta)(hb:PE X b tb){pins:List (Addr×Obj)}{s:Shared}{σ:St}{H:Hp}{R:V->V->Hp->Prop}(I:Inv X pins σ H s)
  (h:ta σ H λx H1=>tb σ H1 λy H2=>R x y H2){Q:TB}{f:Value->Value->Sem Value}
  (hf:∀v u s2 x y H2,Inv X pins σ H2 s2->RelV x v->RelV y u->R x y H2->wpAny (model X.prog X.w) X.A (f v u) Q X.xe s2):
  wpAny (model X.prog X.w) X.A (eval a X.env) (λv ag=>wpAny (model X.prog X.w) X.A (eval b X.env) (λu dJ=>wpAny (model X.prog X.w) X.A (f v u) Q X.xe dJ) X.xe ag) X.xe s:=by
 refine thn (ha pins s σ H _ I h) λv s1 ⟨x,H1,I1,r1,q1⟩=>?_;refine thn (hb pins s1 σ H1 _ I1 q1) λu s2 ⟨y,H2,I2,r2,q2⟩=>?_;exact hf v u s2 x y H2 I2 r1 r2 q2
def zQ {op:Operator}{r:R2}(ho:OpR X (binaryOp op) r)(ha:PE X a ta)(hb:PE X b tb):PE X (.BinOp a op b pos) (tOp r ta tb):=by intro pins s σ H Q I h;exact wpAny_BinOp (binT ha hb I h λv u s2 x y H2 I2 rx ry q=>ho pins s2 σ H2 x y v u Q I2 rx ry q)
def pe_un {op:UnaryOp}{r:V->Hp->VK->Prop}(ho:UnR X (unaryOp op) r)(ha:PE X a ta):PE X (.UnaryOp op a pos) (tUn r ta):=by intro pins s σ H Q I h;exact UnaryOp_ (thn (ha pins s σ H _ I h) λv s1 ⟨x,H1,I1,r1,q1⟩=>ho pins s1 σ H1 x v Q I1 r1 q1)
def opI {f:Value->Value->Sem Value}{C:Int->Int->Prop}{g:Int->Int->Int}
  (rule:∀(i j:Int) (t u:Tok) (s:Shared) (Q:TB) (E:TB),C i j->Q (.int (g i j) s.toks) {s with toks:=s.toks+1}->wpAny (model X.prog X.w) X.A (f (.int i t) (.int j u)) Q E s):
  OpR X f (rI C λi j=>.int (g i j)):=by
 intro pins s σ H x y v u Q I rx ry h;obtain⟨i,j,rfl,rfl,hc,q⟩:=h;obtain⟨t,rfl⟩:=rx;obtain⟨t',rfl⟩:=ry;exact rule i j t t' s _ _ hc ⟨.int (g i j),H,I.tok _,⟨_,O⟩,q⟩
def opI0 {f:Value->Value->Sem Value}{g:Int->Int->Int}
  (rule:∀(i j:Int) (t u:Tok) (s:Shared) (Q:TB) (E:TB),Q (.int (g i j) s.toks) {s with toks:=s.toks+1}->wpAny (model X.prog X.w) X.A (f (.int i t) (.int j u)) Q E s):
  OpR X f (rI0 λi j=>.int (g i j)):=by
 intro pins s σ H x y v u Q I rx ry h;obtain⟨i,j,rfl,rfl,q⟩:=h;obtain⟨t,rfl⟩:=rx;obtain⟨t',rfl⟩:=ry;exact rule i j t t' s _ _ ⟨.int (g i j),H,I.tok _,⟨_,O⟩,q⟩
def opB0 {f:Value->Value->Sem Value}{g:Int->Int->Bool}
  (rule:∀(i j:Int) (t u:Tok) (s:Shared) (Q:TB) (E:TB),Q (.bool (g i j)) s->wpAny (model X.prog X.w) X.A (f (.int i t) (.int j u)) Q E s):
  OpR X f (rI0 λi j=>.bl (g i j)):=by
 intro pins s σ H x y v u Q I rx ry h;obtain⟨i,j,rfl,rfl,q⟩:=h;obtain⟨t,rfl⟩:=rx;obtain⟨t',rfl⟩:=ry;exact rule i j t t' s _ _ ⟨.bl (g i j),H,I,O,q⟩
def CDiv (i j:Int):Prop:=0<j/\j<1073741824
def CPow (i j:Int):Prop:=0<=j/\j<=1000000/\i.natAbs<2^64
def CMul (i j:Int):Prop:=(-(2^64)<i/\i<2^64)\/(-(2^64)<j/\j<2^64)
def CMul.ok {i j:Int}(h:CMul i j):IntMulOk i j:=by
 rcases h with ⟨h1,h2⟩|⟨h1,h2⟩
 ·exact .of_left (intBits_le_64 h1 h2)
 ·exact .of_right (intBits_le_64 h1 h2)
def qC:OpR X (binaryOp .Add) (rI0 λi j=>.int (i+j)):=opI0 λ_ _ _ _ _ _ _ q=>add_int q
def WV:OpR X (binaryOp .Sub) (rI0 λi j=>.int (i-j)):=opI0 λ_ _ _ _ _ _ _ q=>sub_int q
def ZY:OpR X (binaryOp .Mult) (rI CMul λi j=>.int (i*j)):=opI λ_ _ _ _ _ _ _ hc q=>mul_int q hc.ok
def Z5:OpR X (binaryOp .FloorDiv) (rI CDiv λi j=>.int (i/j)):=opI λi j _ _ _ _ _ hc q=>by have h1:(0:Int)<j:=hc.1;have h2:j<1073741824:=hc.2;exact floordiv_int ⋯ (by rw[Fq i ⋯];exact q) (.inl (PyProof.noPylong_small ⋯))
def Zb:OpR X (binaryOp .Mod) (rI (λ_ j=>0<j) λi j=>.int (i%j)):=opI λi j _ _ _ _ _ hc q=>by have h1:(0:Int)<j:=hc;exact mod_int' ⋯ (by rw[Fp i ⋯];exact q)
def op_pow:OpR X (binaryOp .Pow) (rI CPow λi j=>.int (i^j.toNat)):=opI λ_ _ _ _ _ _ _ hc q=>pow_int_small hc.1 hc.2.1 hc.2.2 q
def unI {f:Value->Sem Value}{g:Int->Int}
  (rule:∀(i:Int) (t:Tok) (s:Shared) (Q:TB) (E:TB),Q (.int (g i) s.toks) {s with toks:=s.toks+1}->wpAny (model X.prog X.w) X.A (f (.int i t)) Q E s):
  UnR X f (rU λi=>.int (g i)):=by
 intro pins s σ H x v Q I rx h;obtain⟨i,rfl,q⟩:=h;obtain⟨t,rfl⟩:=rx;exact rule i t s _ _ ⟨.int (g i),H,I.tok _,⟨_,O⟩,q⟩
def un_neg:UnR X (unaryOp .USub) (rU λi=>.int (-i)):=unI λ_ _ _ _ _ q=>neg_int q
end
def scal:V->V->Bool
 |.non,.non=>true|.non,.int _=>true|.int _,.non=>true|.non,.bl _=>true|.bl _,.non=>true|.non,.str _=>true|.str _,.non=>true
 |.int _,.int _=>true|.bl _,.bl _=>true|.str _,.str _=>true|.byt _,.byt _=>true
 |.int _,.str _=>true|.str _,.int _=>true|.bl _,.str _=>true|.str _,.bl _=>true
 |_,_=>false
def rEq:R2:=λx y H Q=>scal x y=true/\Q (.bl (decide (x=y))) H
def rNe:R2:=λx y H Q=>scal x y=true/\Q (.bl (!decide (x=y))) H
def Xs {i j:Int}:decide (V.int i=V.int j)=(i==j):=by rw[C5];simp
def dec_bl {i j:Bool}:decide (V.bl i=V.bl j)=(i==j):=by rw[C5];simp
def Xt {i j:Str}:decide (V.str i=V.str j)=(i==j):=by rw[C5];simp
def Xu {i j:Array UInt8}:decide (V.byt i=V.byt j)=(i.toList==j.toList):=by rw[C5];cases i;cases j;simp
section
variable {X:Cx}{a b c:Expr}{ta tb tc:TE}{pos:Pos}
def qd {pins:List (Addr×Obj)}{σ:St}{H:Hp}{s:Shared}{Q:VK}{k k':Bool}(I:Inv X pins σ H s)(q:Q (.bl k) H)(e:k=k'):EP X pins σ Q (.bool k') s:=by subst e;exact⟨.bl k,H,I,O,q⟩
def ZE:OpR X (compareOp .Eq) rEq:=by
 intro pins s σ H x y v u Q I rx ry h;obtain⟨hs,q⟩:=h;cases x with
 |non=>
  cases rx;cases y with
  |non=>cases ry;exact PySem.EqNone.eq_none_none (qd I q (by simp))
  |bl j=>cases ry;exact PySem.EqNone.eq_none_bool (qd I q (by simp))
  |int j=>obtain⟨t',rfl⟩:=ry;exact PySem.EqNone.eq_none_int (qd I q (by simp))
  |str j=>obtain⟨t',rfl⟩:=ry;exact PySem.EqNone.eq_none_str (qd I q (by simp))
  |_=>exact absurd (show false=true from hs) AV
 |bl i=>
  cases rx;cases y with
  |non=>cases ry;exact PySem.EqNone.eq_bool_none (qd I q (by simp))
  |bl j=>cases ry;exact eq_bool (qd I q dec_bl)
  |str j=>obtain⟨t',rfl⟩:=ry;exact PySem.EqMixed.eq_bool_str (qd I q (by simp))
  |_=>exact absurd (show false=true from hs) AV
 |int i=>
  obtain⟨t,rfl⟩:=rx;cases y with
  |non=>cases ry;exact PySem.EqNone.eq_int_none (qd I q (by simp))
  |int j=>obtain⟨t',rfl⟩:=ry;exact eq_int (qd I q Xs)
  |str j=>obtain⟨t',rfl⟩:=ry;exact PySem.EqMixed.eq_int_str (qd I q (by simp))
  |_=>exact absurd (show false=true from hs) AV
 |str i=>
  obtain⟨t,rfl⟩:=rx;cases y with
  |non=>cases ry;exact PySem.EqNone.eq_str_none (qd I q (by simp))
  |bl j=>cases ry;exact PySem.EqMixed.eq_str_bool (qd I q (by simp))
  |int j=>obtain⟨t',rfl⟩:=ry;exact PySem.EqMixed.eq_str_int (qd I q (by simp))
  |str j=>obtain⟨t',rfl⟩:=ry;exact eq_str (qd I q Xt)
  |_=>exact absurd (show false=true from hs) AV
 |byt i=>
  obtain⟨t,rfl⟩:=rx;cases y with
  |byt j=>obtain⟨t',rfl⟩:=ry;exact PySem.W.eq_bytes (qd I q Xu)
  |_=>exact absurd (show false=true from hs) AV
 |_=>cases y <;> exact absurd (show false=true from hs) AV
def op_ne:OpR X (compareOp .NotEq) rNe:=by
 intro pins s σ H x y v u Q I rx ry h;obtain⟨hs,q⟩:=h;cases x with
 |non=>
  cases rx;cases y with
  |non=>cases ry;exact PySem.EqNone.ne_none_none (qd I q (by simp))
  |bl j=>cases ry;exact PySem.EqNone.ne_none_bool (qd I q (by simp))
  |int j=>obtain⟨t',rfl⟩:=ry;exact PySem.EqNone.ne_none_int (qd I q (by simp))
  |str j=>obtain⟨t',rfl⟩:=ry;exact PySem.EqNone.ne_none_str (qd I q (by simp))
  |_=>exact absurd (show false=true from hs) AV
 |bl i=>
  cases rx;cases y with
  |non=>cases ry;exact PySem.EqNone.ne_bool_none (qd I q (by simp))
  |bl j=>cases ry;exact ne_bool (qd I q (BF not dec_bl))
  |str j=>obtain⟨t',rfl⟩:=ry;exact PySem.EqMixed.ne_bool_str (qd I q (by simp))
  |_=>exact absurd (show false=true from hs) AV
 |int i=>
  obtain⟨t,rfl⟩:=rx;cases y with
  |non=>cases ry;exact PySem.EqNone.ne_int_none (qd I q (by simp))
  |int j=>obtain⟨t',rfl⟩:=ry;exact ne_int (qd I q (BF not Xs))
  |str j=>obtain⟨t',rfl⟩:=ry;exact PySem.EqMixed.ne_int_str (qd I q (by simp))
  |_=>exact absurd (show false=true from hs) AV
 |str i=>
  obtain⟨t,rfl⟩:=rx;cases y with
  |non=>cases ry;exact PySem.EqNone.ne_str_none (qd I q (by simp))
  |bl j=>cases ry;exact PySem.EqMixed.ne_str_bool (qd I q (by simp))
  |int j=>obtain⟨t',rfl⟩:=ry;exact PySem.EqMixed.ne_str_int (qd I q (by simp))
  |str j=>obtain⟨t',rfl⟩:=ry;exact ne_str (qd I q (BF not Xt))
  |_=>exact absurd (show false=true from hs) AV
 |byt i=>
  obtain⟨t,rfl⟩:=rx;cases y with
  |byt j=>obtain⟨t',rfl⟩:=ry;exact PySem.W.ne_bytes (qd I q (BF not Xu))
  |_=>exact absurd (show false=true from hs) AV
 |_=>cases y <;> exact absurd (show false=true from hs) AV
def op_lt:OpR X (compareOp .Lt) (rI0 λi j=>.bl (decide (i<j))):=opB0 λ_ _ _ _ _ _ _ q=>lt_int q
def op_gt:OpR X (compareOp .Gt) (rI0 λi j=>.bl (decide (j<i))):=opB0 λ_ _ _ _ _ _ _ q=>gt_int q
def op_ge:OpR X (compareOp .GtE) (rI0 λi j=>.bl (decide (j<=i))):=opB0 λ_ _ _ _ _ _ _ q=>ge_int q
def YN:OpR X (compareOp .Is) (λx y H Q=>y=.non/\Q (.bl (decide (x=.non))) H):=by
 intro pins s σ H x y v u Q I rx ry h;obtain⟨rfl,q⟩:=h;cases ry;refine is_none_gen (qd I q ?_);cases x <;> first
  | (cases rx;rfl)
  | (obtain⟨t,rfl⟩:=rx;rfl)
def qf (b:Expr){op:CmpOp}(h:op≠.In:=by decide)(h2:op≠.NotIn:=by decide):behindInMarks op b=false:=by
 have e1:(op==CmpOp.In)=false:=by cases op <;> first|rfl|exact absurd rfl h
 have e2:(op==CmpOp.NotIn)=false:=by cases op <;> first|rfl|exact absurd rfl h2
 cases b <;> simp[behindInMarks,e1,e2]
def wV {op:CmpOp}{r:R2}(ho:OpR X (compareOp op) r)(ha:PE X a ta)(hb:PE X b tb)(hm:behindInMarks op b=false):PE X (.Compare a [op] [b] pos) (tOp r ta tb):=by intro pins s σ H Q I h;exact wpAny_Compare1 (binT ha hb I h λv u s2 x y H2 I2 rx ry q=>ho pins s2 σ H2 x y v u Q I2 rx ry q) hm
def tTest (t:TE):TT:=λσ H Q=>t σ H λx H'=>∃k,x=.bl k/\Q k H'
def zO {op:CmpOp}{r:R2}(ho:OpR X (compareOp op) r)(ha:PE X a ta)(hb:PE X b tb)(hm:behindInMarks op b=false):PT X (.Compare a [op] [b] pos) (tTest (tOp r ta tb)):=by
 intro pins s σ H Q I h;refine wpAny_isTrue_Compare1 (thn (ha pins s σ H _ I h) λv s1 ⟨x,H1,I1,r1,q1⟩=>thn (hb pins s1 σ H1 _ I1 q1) λu s2 ⟨y,H2,I2,r2,q2⟩=>
  thn (ho pins s2 σ H2 x y v u _ I2 r1 r2 q2) λc s3 ⟨z,H3,I3,r3,k,e,q3⟩=>?_) hm
 subst e;cases r3;exact Dz ⟨H3,I3,q3⟩
def tChain (r r':R2)(ta tb tc:TE):TE:=λσ H Q=>ta σ H λx H1=>tb σ H1 λy H2=>r x y H2 λz H3=>∃k,z=.bl k /\
 (if k=true then tc σ H3 λw' H4=>r' y w' H4 Q else Q (.bl false) H3)
def pe_chain {op rm:CmpOp}{r r':R2}(ho:OpR X (compareOp op) r)(fG:OpR X (compareOp rm) r')(ha:PE X a ta)(hb:PE X b tb)(hc:PE X c tc)
  (hm:lastMarks [op,rm] [b,c]=false:=by with_unfolding_all rfl):PE X (.Compare a [op,rm] [b,c] pos) (tChain r r' ta tb tc):=by
 intro pins s σ H Q I h;refine Compare_chain (thn (ha pins s σ H _ I h) λv s1 ⟨x,H1,I1,r1,q1⟩=>chain_link (thn (hb pins s1 σ H1 _ I1 q1) λu s2 ⟨y,H2,I2,r2,q2⟩=>
  thn (ho pins s2 σ H2 x y v u _ I2 r1 r2 q2) λd s3 ⟨z,H3,I3,r3,k,e,q3⟩=>?_)) hm
 subst e;cases r3;refine Dz ?_;cases k with
 |false=>exact ite_ff ⟨.bl false,H3,I3,O,q3⟩
 |true=>exact ite_tt (chain_last (thn (hc pins s3 σ H3 _ I3 q3) λw' s4 ⟨z',H4,I4,r4,q4⟩=>fG pins s4 σ H4 y z' u w' Q I4 r2 r4 q4))
def WW:(sizeLine:Nat)<2^63:=by rw[Bl];decide
def wv:OpR X (binaryOp .Add) (λx y H Q=>∃i j,x=.str i/\y=.str j/\i.length+j.length<=sizeLine/\Q (.str (i++j)) H):=by intro pins s σ H x y v u Q I rx ry h;obtain⟨i,j,rfl,rfl,hz,q⟩:=h;obtain⟨t,rfl⟩:=rx;obtain⟨t',rfl⟩:=ry;exact add_str (λt' tk=>⟨.str (i++j),H,I.tok _,⟨_,O⟩,q⟩) hz
def vals1 {x:V}{us:TF}(r:qh [x] us):∃u,us=[u]/\RelV x u:=by
 cases r with
 |cons r1 r2=>cases r2;exact⟨_,rfl,r1⟩
def Xv {x y:V}{us:TF}(r:qh [x,y] us):∃u w',us=[u,w']/\RelV x u/\RelV y w':=by
 cases r with
 |cons r1 r2=>
  cases r2 with
  |cons r3 r4=>cases r4;exact⟨_,_,rfl,r1,r3⟩
def call_abs:qU X (.builtin "abs") (λxs H Q=>∃i,xs=[.int i]/\Q (.int (if i<0 then -i else i)) H):=by intro pins s σ H xs us Q I r h;obtain⟨i,rfl,q⟩:=h;obtain⟨u,rfl,t,rfl⟩:=vals1 r;exact call_abs_int λu tk=>⟨.int (if i<0 then -i else i),H,I.tok _,⟨_,O⟩,q⟩
def Xw (hc:X.calm=true):qU X (.builtin "max") (λxs H Q=>∃i j,xs=[.int i,.int j]/\Q (.int (if j > i then j else i)) H):=by
 intro pins s σ H xs us Q I r h;obtain⟨i,j,rfl,q⟩:=h;obtain⟨u,w',rfl,⟨t,rfl⟩,⟨t',rfl⟩⟩:=Xv r;refine max_two_ints (I.ok.hd hc) λh' tk k=>⟨_,H,I.kept k,?_,q⟩
 by_cases hj:j > i
 ·rw[if_pos hj,if_pos hj];exact⟨_,rfl⟩
 ·rw[if_neg hj,if_neg hj];exact⟨_,rfl⟩
def Xx (hc:X.calm=true):qU X (.builtin "min") (λxs H Q=>∃i j,xs=[.int i,.int j]/\Q (.int (if j<i then j else i)) H):=by
 intro pins s σ H xs us Q I r h;obtain⟨i,j,rfl,q⟩:=h;obtain⟨u,w',rfl,⟨t,rfl⟩,⟨t',rfl⟩⟩:=Xv r;refine min_two_ints (I.ok.hd hc) λh' tk k=>⟨_,H,I.kept k,?_,q⟩
 by_cases hj:j<i
 ·rw[if_pos hj,if_pos hj];exact⟨_,rfl⟩
 ·rw[if_neg hj,if_neg hj];exact⟨_,rfl⟩
def Xy:qU X (.type "int") (λxs H Q=>(∃i,xs=[.int i]/\Q (.int i) H)\/∃k,xs=[.bl k]/\Q (.int (if k then 1 else 0)) H):=by
 intro pins s σ H xs us Q I r h
 rcases h with ⟨i,rfl,q⟩|⟨k,rfl,q⟩
 ·obtain⟨u,rfl,t,rfl⟩:=vals1 r;exact call_int_int ⟨.int i,H,I,⟨_,O⟩,q⟩
 ·obtain⟨u,rfl,r1⟩:=vals1 r;cases r1;exact call_int_bool ⟨.int (if k then 1 else 0),H,I.tok _,⟨_,O⟩,q⟩
def LenV (K:Fv)(x:V)(H:Hp)(n:Nat):Prop:=
 match x with
 |.str y=>y.length<=sizeLine/\n=y.length
 |.byt y=>y.size<=sizeLine/\n=y.size
 |.ref p=>(∃xs,SqL K H p xs/\n=xs.length)\/∃xs,SqT K H p xs/\n=xs.length
 |_=>False
def call_len:qU X (.builtin "len") (λxs H Q=>∃x n,xs=[x]/\LenV X.K x H n/\Q (.int n) H):=by
 intro pins s σ H xs us Q I r h;obtain⟨x,n,rfl,e,q⟩:=h;obtain⟨u,rfl,rx⟩:=vals1 r;have hl:=WW;have hs:sizeLine=16777216:=Bl;cases x with
 |str y=>obtain⟨t,rfl⟩:=rx;obtain⟨hy,e'⟩:y.length<=sizeLine/\n=y.length:=e;subst e';exact len_str ⋯ ⟨.int _,H,I.tok _,⟨_,O⟩,q⟩
 |byt y=>obtain⟨t,rfl⟩:=rx;obtain⟨hy,e'⟩:y.size<=sizeLine/\n=y.size:=e;subst e';exact PySem.W.len_bytes ⋯ ⟨.int _,H,I.tok _,⟨_,O⟩,q⟩
 |ref p=>
  cases rx;have e':(∃xs,SqL X.K H p xs/\n=xs.length)\/∃xs,SqT X.K H p xs/\n=xs.length:=e
  rcases e' with ⟨xs,hx,e'⟩|⟨xs,hx,e'⟩
  ·subst e';obtain⟨its,r',pl,hz⟩:=I.list hx;have hlen:=r'.length;exact Calls.call_len_list pl.isList (by simp only[List.size_toArray];lia) ⟨.int xs.length,H,I.tok _,⟨_,by simp only[List.size_toArray];rw[hlen]⟩,q⟩
  ·subst e';obtain⟨its,r',pl,hz⟩:=I.tuple hx;have hlen:=r'.length;exact len_tuple pl (by simp only[List.size_toArray];lia) ⟨.int xs.length,H,I.tok _,⟨_,by simp only[List.size_toArray];rw[hlen]⟩,q⟩
 |_=>exact (show False from e).elim
def yX:qU X (.builtin "divmod") (λxs H Q=>∃i j,xs=[.int i,.int j]/\CDiv i j/\∀p,H p=none->Q (.ref p) (upd H p (.tup [.int (i/j),.int (i%j)]))):=by intro pins s σ H xs us Q I r h;obtain⟨i,j,rfl,⟨h1,h2⟩,q⟩:=h;obtain⟨u,w',rfl,⟨t,rfl⟩,⟨t',rfl⟩⟩:=Xv r;refine divmod_int ⋯ ?_ (.inl (PyProof.noPylong_small ⋯));rw[Fq i ⋯,Fp i ⋯];have hn:H s.heap.objs.size=none:=I.hok.fresh (AI _);refine⟨.ref s.heap.objs.size,_,?_,O,q _ hn⟩;refine I.laid (λb o e=>AE _ e) (AI _) ⟨by simp only[List.length_cons,List.length_nil];rw[Bl];decide,[.int (i/j) s.toks,.int (i%j) (s.toks+1)],.cons ⟨_,O⟩ (.cons ⟨_,O⟩ .nil),?_⟩;exact⟨_,AQ s.heap rfl,O,⟨0,O⟩,O⟩
end
structure ObjM (h:Heap)(x dx C:Addr)(mA:Str->Option Value):Prop where
 obj:h.get? x=some (PySem.W.instObj C dx)
 ns:h.Ns1 dx mA
 ne:dx≠x
def Xz {h:Heap}{dx:Addr}{mA:Str->Option Value}(n:h.Ns1 dx mA):∃od,h.get? dx=some od/\∀name,PySem.W.lookIn name od=some (mA name):=by
 obtain⟨o,es,ep,ho,hd,hk,_,hm⟩:=n;refine⟨o,ho,λname=>?_⟩;have e:=hm name;unfold nsFind findBy at e;rw[<- Array.find?_toList]at e;unfold PySem.W.lookIn;rw[hd];dsimp only;split
 ·rename_i y q;rw[q]at e;exact BF some e
 ·rename_i q;rw[q]at e;have a:es.toList.any (·.refKey)=false:=by rw[List.any_eq_false];intro y hy;obtain⟨z,t,eW⟩:=hk y (Array.mem_toList_iff.mp hy);simp[DictEntry.refKey,eW]
  have a':¬es.toList.any (·.refKey)=true:=by rw[a];exact AV
  rw[if_neg a'];exact BF some e
def ObjM.look {h:Heap}{x dx C:Addr}{mA:Str->Option Value}(I:ObjM h x dx C mA):∃od,PySem.W.InstAt h x (PySem.W.instObj C dx) C (some od)/\∀name,PySem.W.lookIn name od=some (mA name):=
 let ⟨od,ho,hl⟩:=Xz I.ns
 ⟨od,⟨I.obj,rfl,rfl,ho⟩,hl⟩
def Xg.some_of {v:V}{o:Option Value}(r:Xg (some v) o):∃u,o=some u/\RelV v u:=by
 cases o with
 |none=>exact (show False from r).elim
 |some u=>exact⟨u,O,r⟩
section
variable {P:Program}{w:World}{H H':Hp}{h h':Heap}{a C dx:Addr}{fs MK:List (Str × V)}
def ins_get (hok:HOk P w H h)(e:H a=some (.ins C dx fs)):∃mA,ObjM h a dx C mA/\(∀f,Xg (fs.lookup f) (mA f))/\PySem.Within mA (fs.map (·.1))/\fs.length<=1000/\H dx=some (.own a):=by
 obtain⟨d,z,ne,ob,mA,n,r,q⟩:=(show qm P w H h a (.ins C dx fs) from hok a _ e)
 exact⟨mA,⟨ob,n,ne⟩,r,q,z,d⟩
end
structure Cls (K:Fv)(C:Addr):Prop where
 pg:PySem.W.plainGet K C Str.empty=true
 hd:PySem.W.hasDictIn K C=true
 po:PySem.W.plainOver K C=true
 sa:PySem.W.findIn K (.ref C) "__setattr__" = some (some (.builtin "object.__setattr__"))
def Cls.get {K:Fv}{C:Addr}(c:Cls K C)(f:Str):PySem.W.plainGet K C f=true:=c.pg
section
variable {X:Cx}{pins:List (Addr×Obj)}{σ:St}{H:Hp}{s:Shared}{A:Around}{E:TB}{Q:TB}{c:Value}{b:Bool}
inductive YO (K:Fv)(H:Hp):V->Value->Prop where
 |non:YO K H .non (.type "NoneType")
 |bl (x:Bool):YO K H (.bl x) (.type "bool")
 |int (i:Int):YO K H (.int i) (.type "int")
 |str (x:Str):YO K H (.str x) (.type "str")
 |flt (x:UInt64):YO K H (.flt x) (.type "float")
 |lst {a:Addr} {xs:List V} (e:H a=some (.lst xs)):YO K H (.ref a) (.type "list")
 |frz {a:Addr} {o:Obj} {xs:List V} (e:H a=some (.frz o (.lst xs))):YO K H (.ref a) (.type "list")
 |tup {a:Addr} {xs:List V} (e:H a=some (.tup xs)):YO K H (.ref a) (.type "tuple")
 |dK {a:Addr} {kvs:List (Key×V)} (e:H a=some (.dK kvs)):YO K H (.ref a) (.type "dict")
 |dT {a:Addr} {kvs:List (List Key×V)} (e:H a=some (.dT kvs)):YO K H (.ref a) (.type "dict")
 |ins {a C dx:Addr} {fs:List (Str×V)} (e:H a=some (.ins C dx fs)) (cl:Cls K C) (ha:PySem.W.findIn K (.ref C) "__class__" = some (some (.builtin "object.__class__")))
   (hn:PySem.W.specialIn K (.builtin "object.__class__") "__get__" = some (some (.builtin "getset_descriptor.__get__"))) (vQ:PySem.W.takesIn K (.builtin "object.__class__")=some true)
   (hm:PySem.W.mroIn K C (.type "object")=some true):YO K H (.ref a) (.ref C)
def XA {x:V}{u t:Value}(I:Inv X pins σ H s)(rx:RelV x u)(ty:YO X.K H x t)(e:PySem.W.kitOne X.K t c=some b)(h:∀tk,Q (.bool b) {s with toks:=tk}):
  wpAny (model X.prog X.w) A (call (.builtin "isinstance") [u,c]) Q E s:=by
 cases ty with
 |non=>cases (show u=Value.none from rx);exact B3 PySem.W.kitx_none I.kIn True.intro e (λz=>nomatch z) h
 |bl y=>cases (show u=Value.bool y from rx);exact B3 PySem.W.kitx_bool I.kIn True.intro e (λz=>nomatch z) h
 |int i=>obtain⟨t,q⟩:=(show ∃t,u=Value.int i t from rx);cases q;exact B3 PySem.W.kitx_int I.kIn True.intro e (λz=>nomatch z) h
 |str y=>obtain⟨t,q⟩:=(show ∃t,u=Value.str y t from rx);cases q;exact B3 PySem.W.kitx_str I.kIn True.intro e (λz=>nomatch z) h
 |flt y=>obtain⟨t,q⟩:=(show ∃t,u=Value.float y t from rx);cases q;exact B3 PySem.W.kitx_float I.kIn True.intro e (λz=>nomatch z) h
 | @lst a xs ea=>
  cases (show u=Value.ref a from rx);obtain⟨_,_,n,_,h1⟩:=(show qm X.prog X.w H s.heap a (.lst xs) from I.hok a _ ea)
  exact B3 PySem.W.kitx_list I.kIn ⟨_,h1,rfl⟩ e (λz=>nomatch z) h
 | @frz a ob xs ea=>
  cases (show u=Value.ref a from rx);obtain⟨_,_,_,n,_,h1⟩:=(show qm X.prog X.w H s.heap a (.frz ob (.lst xs)) from I.hok a _ ea)
  exact B3 PySem.W.kitx_list I.kIn ⟨_,h1,rfl⟩ e (λz=>nomatch z) h
 | @tup a xs ea=>
  cases (show u=Value.ref a from rx);obtain⟨_,_,_,p⟩:=(show qm X.prog X.w H s.heap a (.tup xs) from I.hok a _ ea)
  obtain⟨o,h1,h2,_⟩:=p;exact B3 PySem.W.kitx_tuple I.kIn ⟨o,h1,h2⟩ e (λz=>nomatch z) h
 | @dK a kvs ea=>
  cases (show u=Value.ref a from rx);obtain⟨_,_,vs,_,p⟩:=(show qm X.prog X.w H s.heap a (.dK kvs) from I.hok a _ ea)
  obtain⟨o,es,ep,h1,h2,_⟩:=p;exact B3 PySem.W.kitx_dict I.kIn ⟨o,h1,h2.1⟩ e (λz=>nomatch z) h
 | @dT a kvs ea=>
  cases (show u=Value.ref a from rx);obtain⟨_,_,xs,_,o,es,ep,h1,h2,_⟩:=(show qm X.prog X.w H s.heap a (.dT kvs) from I.hok a _ ea)
  exact B3 PySem.W.kitx_dict I.kIn ⟨o,h1,h2.1⟩ e (λz=>nomatch z) h
 | @ins a C dx fs ea cl ha hn vQ hm=>cases (show u=Value.ref a from rx);obtain⟨mA,Oo,_⟩:=ins_get I.hok ea;obtain⟨od,J,_⟩:=Oo.look;exact B3 (PySem.W.kitx_own (cl.get _) cl.hd ha hn vQ hm) I.kIn J e (λz=>nomatch z) h
end
structure ZP (k:Nat)(A:Around):Prop where
 hd:A.handled=none
 dp:A.depth+3*k+5<recursionLimit
 un:A.units+16*k+200<cLine
def ZP.mono {j k:Nat}{A:Around}(r:ZP k A)(h:j<=k):ZP j A:=⟨r.hd,by have:=r.dp;lia,by have:=r.un;lia⟩
def ZP.deeper {k:Nat}{A:Around}(r:ZP (k+1) A)(env:Env):ZP k (A.deeper env):=
 ⟨r.hd,by have:=r.dp;show A.depth+1+3*k+5<_;lia,by have:=r.un;show A.units+3+16*k+200<_;lia⟩
def ZP.depth {k:Nat}{A:Around}(r:ZP k A):A.depth<recursionLimit:=by have:=r.dp;lia
def ZP.units {k:Nat}{A:Around}(r:ZP k A):A.units+64<cLine:=by have:=r.un;lia
def tNil:TA:=λ_ H Q=>Q [] H
def tCons (ta:TE)(tr:TA):TA:=λσ H Q=>ta σ H λx H1=>tr σ H1 λxs H2=>Q (x::xs) H2
section
variable {X:Cx}{e:Expr}{es:List Expr}{te:TE}{t:TA}{pos:Pos}
def zg:PA X [] tNil:=λ_ _ _ _ H Q I h=>Calls.spliced_nil ⟨[],H,I,.nil,h⟩
def zd (ha:PE X e te)(hr:PA X es t)(hs:starEach (e::es) X.env=(false,eval e X.env)::starEach es X.env:=by rfl):PA X (e::es) (tCons te t):=by intro pos pins s σ H Q I h;rw[hs];show wpAny _ _ (spliced ((false,eval e X.env)::backTo pos (starEach es X.env))) _ _ s;refine Calls.spliced_cons (thn (ha pins s σ H _ I h) λu s1 ⟨x,H1,I1,r1,q1⟩=>?_);exact thn (hr pos pins s1 σ H1 _ I1 q1) λus s2 ⟨xs,H2,I2,r2,q2⟩=>⟨x::xs,H2,I2,.cons r1 r2,q2⟩
def tTup (t:TA):TE:=λσ H Q=>t σ H λxs H1=>xs.length<=sizeLine/\∀p,H1 p=none->Q (.ref p) (upd H1 p (.tup xs))
def tLst (t:TA):TE:=λσ H Q=>t σ H λxs H1=>xs.length<=sizeLine/\∀p,H1 p=none->Q (.ref p) (upd H1 p (.lst xs))
def qi {x1}(h:PA X es t):PE X (.Tuple es x1 pos) (tTup t):=by intro pins s σ H Q I hq;refine wpAny_Tuple_spliced (thn (h pos pins s σ H _ I hq) λus s1 ⟨xs,H1,I1,r,z,q⟩=>⟨by rw[<- r.length];exact z,?_⟩);have hf:H1 s1.heap.objs.size=none:=I1.hok.fresh (AI _);refine⟨.ref s1.heap.objs.size,upd H1 s1.heap.objs.size (.tup xs),I1.laid (t':=s1.toks) (λb u e=>AE _ e) (AI _) ?_,O,q _ hf⟩;exact⟨z,us,r,⟨_,AQ _ rfl,O,⟨_,O⟩,O⟩⟩
def qX (h:PA X es t):PE X (.List es pos) (tLst t):=by intro pins s σ H Q I hq;refine wpAny_List_spliced (thn (h pos pins s σ H _ I hq) λus s1 ⟨xs,H1,I1,r,z,q⟩=>⟨by rw[<- r.length];exact z,?_⟩);have hf:H1 s1.heap.objs.size=none:=I1.hok.fresh (AI _);refine⟨.ref s1.heap.objs.size,upd H1 s1.heap.objs.size (.lst xs),I1.laid (t':=s1.toks) (λb u e=>AE _ e) (AI _) ?_,O,q _ hf⟩;exact⟨z,us,0,r,AQ _ rfl⟩
end
abbrev Sp:=List V->Hp->VK->XK->Prop
abbrev CXT:=List Env->Hp->Shared->XK->Value->Shared->Prop
structure Env0 (P:Program)(w:World)(K:Fv)(mg:Str->Option Value)(base:Heap)(A:Around)(outer:List Env)(s:Shared)(H:Hp):Prop where
 frames:A.frames=some outer
 mod:Mod K mg base
 bs:∀b o,base.get? b=some o->s.heap.get? b=some o/\H b=none
 bsz:base.objs.size<=s.heap.objs.size
 funs:s.heap.FunFrames base outer
 frf:∀b∈frs outer,H b=none
 hok:HOk P w H s.heap
 bare:AllBare s.gens
def CE (outer:List Env)(P:Program)(w:World)(H:Hp)(s:Shared)(Q:VK)(u:Value)(s':Shared):Prop:=
 ∃v H',s'.os=s.os/\AllBare s'.gens/\Un (frs outer) [] H H' s.heap s'.heap/\HOk P w H' s'.heap/\RelV v u/\Q v H'
def CR (CX:CXT)(outer:List Env)(P:Program)(w:World)(H:Hp)(s:Shared)(Q:VK)(E:XK)(r:Result)(s':Shared):Prop:=
 match r with
 |.ok (.ret u)=>CE outer P w H s Q u s'
 |.ok _=>False
 |.error e=>CX outer H s E e s'
structure jo (P:Program)(w:World)(K:Fv)(mg:Str->Option Value)(base:Heap)(CX:CXT)(k:Nat)(f:Addr)(fd:FuncData)(ps:TJ)(sp:Sp):Prop where
 len:∀vs H Q E,sp vs H Q E->vs.length=ps.length
 run:∀(A:Around) (outer:List Env) (s:Shared) (H:Hp) (args:Args) (us:TF) (vs:List V) (Q:VK) (E:XK),ZP k A->Env0 P w K mg base A outer s H->BindsTo s fd args (ps.zip us)->qh vs us->sp vs H Q E ->
  codeAny (model P w) A (.call (.ref f) args) (CR CX outer P w H s Q E) s
section
variable {X:Cx}{pins:List (Addr×Obj)}{σ:St}{H:Hp}{s s':Shared}
def Inv.env0 (I:Inv X pins σ H s):Env0 X.prog X.w X.K X.mg X.base X.A X.stack s H:=
 ⟨I.ok.frames,I.ok.mod,I.bs,Ar I.ok.bsz I.sz,I.stack,I.stkFree,I.hok,I.bare⟩
def Inv.after {Q:VK}{u:Value}(I:Inv X pins σ H s)(h:CE X.stack X.prog X.w H s Q u s'):EP X pins σ Q u s':=by obtain⟨v,H',os,bare,un,hok,r,q⟩:=h;obtain⟨hh,g,d,t,IG⟩:=s';obtain rfl:IG=s.os:=os;exact⟨v,H',I.call (h':=hh) (g':=g) (d':=d) (t':=t) (ch:=[]) un hok bare (λb z=>absurd z (by simp)),r,q⟩
end
def tCall (sp:Sp)(i0:List V)(E:XK)(t:TA):TE:=λσ H Q=>t σ H λvs H1=>sp (vs++i0) H1 Q E
def Binds (K:Fv)(fd:FuncData)(ps:TJ)(ds:TF):Prop:=
 ∀(s:Shared) (us:TF),K.In s.heap->(us++ds).length=ps.length->BindsTo s fd ⟨us,[]⟩ (ps.zip (us++ds))
def Binds.all {K:Fv}{fd:FuncData}{ps:TJ}(h:∀us:TF,us.length=ps.length->bindArgs fd ⟨us,[]⟩=pure (ps.zip us)):Binds K fd ps []:=λs us _ hl=>by rw[Az]at hl ⊢;exact .of_eq (h us hl)
def WX (CX:CXT)(X:Cx)(E:XK):Prop:=∀(pins:List (Addr×Obj)) (σ:St) (H:Hp) (s:Shared) (e:Value) (s':Shared),Inv X pins σ H s->CX X.stack H s E e s'->X.xe e s'
section
def run_fn {pins:List (Addr×Obj)}{σ:St}{H:Hp}{s:Shared}{Q:VK}{us:TF}{vs:List V}(F:jo X.prog X.w X.K X.mg X.base CX k f fd ps sp)(hr:ZP k X.A)(hb:Binds X.K fd ps ds)(hd:qh i0 ds)(hx:WX CX X E)
  (I:Inv X pins σ H s)(r:qh vs us)(h:sp (vs++i0) H Q E):wpAny (model X.prog X.w) X.A (call (.ref f) us) (EP X pins σ Q) X.xe s:=by
 have r2:qh (vs++i0) (us++ds):=r.append hd;have hl:(us++ds).length=ps.length:=by rw[<- r2.length];exact F.len _ _ _ _ h
 refine wpAny_call (D8 (F.run X.A X.stack s H ⟨us,[]⟩ (us++ds) (vs++i0) Q E hr I.env0 (hb s us I.kIn hl) r2 h) λr s' hq=>?_);cases r with
 |error e=>exact hx pins σ H s e s' I hq
 |ok fl=>
  cases fl with
  |ret u=>exact I.after hq
  |next=>exact False.elim hq
  |brk=>exact False.elim hq
  |cont=>exact False.elim hq
def XB (F:jo X.prog X.w X.K X.mg X.base CX k f fd ps sp)(hr:ZP k X.A)(hg:Gl X x)(hm:X.mg x=some (.ref f))(hk:PySem.W.keepIn X.K (.ref f)=true)(hb:Binds X.K fd ps ds)(hd:qh i0 ds)(hx:WX CX X E)
  (ha:PA X (e::es) t) (cU:(x==("__debug__" : Str))=false:=by decide) (he:starEach (e::es) X.env=(false,eval e X.env)::starEach es X.env:=by rfl) (cH:(backTo pos (starEach es X.env)).any (·.1)=false:=by rfl):
  PE X (.Call (.Name x p) (e::es) [] pos) (tCall sp i0 E t):=by
 intro pins s σ H Q I h;refine EU (Jf I hg hm ?_ cU);refine PySem.W.callWith_K (h₀:=X.base) I.ok.mod.kin hk (thn (ha pos pins s σ H _ I h) λus s1 ⟨vs,H1,I1,r,q⟩=>⟨I1.kIn,?_⟩) he cH;exact run_fn F hr hb hd hx I1 r q
end
structure zD (N P:TJ)(sc:Scope):Prop where
 kind:sc.kind=.function
 co:sc.isCoroutine=false
 gen:sc.isGenerator=false
 nd:N.Nodup
 pre:N.take P.length=P
 par:∀x∈P,sc.names.lookup x=some .local\/sc.names.lookup x=some .cell
 nofree:∀y∈sc.names,y.2≠.free
theorem WY {kindOf:Str->Option NameKind}{x:Str}:∀{binds:List (Str×Value)}{m:Str->Option Value},(∀v,(x,v) ∉ binds)->bindL kindOf binds m x=m x
 | [],_,_=>rfl
 | (n,v)::r,m,h=>by
  unfold bindL;rw[WY λw hw=>h w (BD _ hw)];split
  ·have:x≠n:=by rintro rfl;exact h v A5
   simp[this]
  ·rfl
theorem WZ {kindOf:Str->Option NameKind}{x:Str}:∀{binds:List (Str×Value)}{m:Str->Option Value},(∀v,(x,v) ∉ binds)->bindC kindOf binds m x=m x
 | [],_,_=>rfl
 | (n,v)::r,m,h=>by
  unfold bindC;rw[WZ λw hw=>h w (BD _ hw)];split
  ·rfl
  ·have:x≠n:=by rintro rfl;exact h v A5
   simp[this]
def W0 {kindOf:Str->Option NameKind}{x:Str}{v:Value}:∀{P:TJ}{vs:TF}{i:Nat}{m:Str->Option Value},P.Nodup->P[i]?=some x->vs[i]?=some v->kindOf x=some .local ->
  bindL kindOf (P.zip vs) m x=some v
 | [],_,_,_,_,h,_,_=>by simp at h
 |_::_,[],_,_,_,_,h,_=>by simp at h
 |p::P,w::vs,0,m,nd,h1,h2,hk=>by simp at h1 h2;subst h1;subst h2;show bindL kindOf ((p,w)::P.zip vs) m p=_;unfold bindL;rw[WY λv hv=>(Bh.mp nd).1 (C3 hv).1,if_pos hk];simp
 |p::P,w::vs,i+1,m,nd,h1,h2,hk=>by show bindL kindOf ((p,w)::P.zip vs) m x=_;unfold bindL;exact W0 (i:=i) (Bh.mp nd).2 (by simpa using h1) (by simpa using h2) hk
def W1 {kindOf:Str->Option NameKind}{x:Str}{v:Value}:∀{P:TJ}{vs:TF}{i:Nat}{m:Str->Option Value},P.Nodup->P[i]?=some x->vs[i]?=some v->kindOf x≠some .local ->
  bindC kindOf (P.zip vs) m x=some v
 | [],_,_,_,_,h,_,_=>by simp at h
 |_::_,[],_,_,_,_,h,_=>by simp at h
 |p::P,w::vs,0,m,nd,h1,h2,hk=>by simp at h1 h2;subst h1;subst h2;show bindC kindOf ((p,w)::P.zip vs) m p=_;unfold bindC;rw[WZ λv hv=>(Bh.mp nd).1 (C3 hv).1,if_neg hk];simp
 |p::P,w::vs,i+1,m,nd,h1,h2,hk=>by show bindC kindOf ((p,w)::P.zip vs) m x=_;unfold bindC;exact W1 (i:=i) (Bh.mp nd).2 (by simpa using h1) (by simpa using h2) hk
def start (N:TJ)(vs:List V):St:=vs.map some++List.replicate (N.length-vs.length) none
def Xh (CX:CXT)(P:Program)(w:World)(K:Fv)(mg:Str->Option Value)(base:Heap)(N:TJ)(qual:Str)(scope:Scope)(f:Addr)(cd:Value)(A:Around)(outer:List Env)(s:Shared)(H:Hp)(E:XK):Cx where
 prog:=P
 w:=w
 K:=K
 mg:=mg
 base:=base
 A:=A.deeper (envOfC qual scope s.heap.objs.size f cd)
 N:=N
 s₀:=s
 H₀:=H
 env:=envOfC qual scope s.heap.objs.size f cd
 outer:=outer
 stack:=envOfC qual scope s.heap.objs.size f cd::outer
 ex:=[]
 calm:=true
 fn:=λ_=>true
 pn:=[]
 xe:=λe s'=>wpAny (model P w) (A.deeper (envOfC qual scope s.heap.objs.size f cd)) (leaving (envOfC qual scope s.heap.objs.size f cd) e) (λ_ gN=>CX outer H s E e gN) (λe' gN=>CX outer H s E e' gN) s'
def YQ {sc:Scope}{n:Nat}{x:Str}(h:sc.names.lookup x=some .cell):∃c,(cellsFrom n sc.names []).lookup x=some c:=by have q:=PySem.W.cellsFrom_some sc.names n [] (.inl h);exact ET.mp q
def XC {CX:CXT}{P:Program}{w:World}{K:Fv}{mg:Str->Option Value}{base:Heap}{N ps:TJ}{qual:Str}{scope:Scope}{f:Addr}{cd:Value}{A:Around}{outer:List Env}{s s1:Shared}{H:Hp}{E:XK}{us:TF}{vs:List V}
  (S:zD N ps scope)(hd:A.handled=none)(e0:Env0 P w K mg base A outer s H)(hl:vs.length=ps.length)(r:qh vs us)
  (x:InCallC s s.heap.objs.size (bindL (envOfC qual scope s.heap.objs.size f cd).kindOf (ps.zip us) λ_=>none) (cellsFrom (s.heap.objs.size+1) scope.names []) (bindC (envOfC qual scope s.heap.objs.size f cd).kindOf (ps.zip us) λ_=>none) s1):
  Inv (Xh CX P w K mg base N qual scope f cd A outer s H E) [] (start N vs) H s1:=by
 have cH:ps.length<=N.length:=by have:=BF List.length S.pre;rw[Ae]at this;lia
 obtain⟨h1,tk,rfl,hk⟩:=x.done;have lx:∀b:Addr,b ∉ (Xh CX P w K mg base N qual scope f cd A outer s H E).ex:=λb z=>absurd (show b∈([]:List Addr) from z) (by simp);refine⟨⟨e0.mod,S.kind,O,O,AI _,λy z c h1 h2=>?_,λy hy=>?_,λy c _ h=>?_,λ_=>hd,Around.frames_deeper e0.frames,.inr ⟨O,O⟩,λb z=>absurd z (lx b),e0.bs,e0.bsz,λb _ _=>lx b,λb z=>absurd z (lx b),e0.funs,e0.frf⟩,
  rfl,e0.bare,TQ hk,⟨_,x.toInCall.ns,λi y v h1 h2 h3=>?_⟩,λy c h=>⟨_,x.cell y c h⟩,e0.hok.fresh (AI _),λy c h=>?_,λp hp=>absurd (show p∈([]:List (Addr×Obj)) from hp) (by simp),e0.hok.kept hk,?_⟩
 ·exact name_of_addr x.apart (By h1) (By h2)
 ·have hy:scope.names.lookup y=some .cell\/scope.names.lookup y=some .free:=hy
  rcases hy with hy|hy
  ·exact YQ hy
  ·exact absurd rfl (S.nofree _ (By hy))
 ·exact CZ (x.above y c (By h))
 ·have hi:i<vs.length:=by
   unfold start at h2;by_cases hi:i<vs.length
   ·exact hi
   ·rw[BI (by simpa using hi)]at h2;rw[List.getElem?_replicate]at h2;split at h2 <;> cases h2
  have ha:vs[i]?=some v:=by
   unfold start at h2;rw[BK (by simpa using hi),AG]at h2;cases e:vs[i]? with
   |none=>rw[e]at h2;cases h2
   |some a=>rw[e]at h2;cases h2;rfl
  obtain⟨u,hu,rv⟩:=r.get ha;have hp:ps[i]?=some y:=by rw[<- S.pre,B2 ⋯];exact h1
  have vq:ps.Nodup:=by rw[<- S.pre];exact S.nd.sublist (EO _ _)
  refine⟨u,rv,?_⟩
  rcases S.par y (AL hp) with k|k
  ·exact .inl ⟨k,W0 vq hp hu k⟩
  ·obtain⟨c,e⟩:=YQ (n:=s.heap.objs.size+1) k;refine .inr ⟨.inl k,c,e,?_⟩;have q:=x.cell y c e;rw[W1 vq hp hu (by show scope.names.lookup y≠_;rw[k];decide)]at q;exact q
 ·exact e0.hok.fresh (CZ (x.above y c (By h)))
 ·unfold start;show _=N.length;rw[AJ,AB,Eu];lia
def fn_of {CX:CXT}{P:Program}{w:World}{K:Fv}{mg:Str->Option Value}{base:Heap}{k:Nat}{f:Addr}{name qual:Str}{params:Arguments}{body:List Stmt}{scope:Scope}{dV kV doc pm aC ct oc:Value}{an od:Option Addr}
  {eM:Array (Option Value)}{N ps:TJ}{sp:Sp}(lk:K.lookup f=some ⟨oc,od,.func (PySem.W.fnOf name qual params body scope dV kV doc pm an aC ct),eM⟩)(bJ:PySem.W.codeIn K aC qual=true)(S:zD N ps scope)
  (len:∀vs H Q E,sp vs H Q E->vs.length=ps.length)
  (cX:∀(A:Around) (outer:List Env) (s:Shared) (H:Hp) (vs:List V) (Q:VK) (E:XK),ZP k (A.deeper (envOfC qual scope s.heap.objs.size f aC))->sp vs H Q E ->
   ∃t,PSs (Xh CX P w K mg base N qual scope f aC A outer s H E) body t/\t {nx:=λ_ H'=>Q .non H',rt:=Q} (start N vs) H):
  jo P w K mg base CX (k+1) f (PySem.W.fnOf name qual params body scope dV kV doc pm an aC ct) ps sp:=by
 refine⟨len,λA outer s H args us vs Q E hr e0 hb r fi=>?_⟩;have hl:=len _ _ _ _ fi;have KX:K.In s.heap:=e0.mod.kin.keeps λb o e=>(e0.bs b o e).1;have lim:s.heap.NoLimit:=e0.mod.nolimit.keeps λb o e=>(e0.bs b o e).1;have mV:∀y∈ps.zip us,scope.names.lookup y.1=some .local\/(scope.names.lookup y.1=some .cell/\((cellsFrom (s.heap.objs.size+1) scope.names []).lookup y.1).isSome=true):=λ⟨n,v⟩ hy=>by
  rcases S.par n (C3 hy).1 with q|q
  ·exact .inl q
  ·exact .inr ⟨q,PySem.W.cellsFrom_some _ _ _ (.inl q)⟩
 refine codeAny_call_function hr.depth (KX _ _ lk) rfl S.co S.gen rfl (PySem.W.codeRec_of KX bJ) (hb _ _ _ _ ?_);refine wpAny_newFunctionEnv_cells S.kind mV λenv he s1 x=>?_;subst he;refine⟨lim.keeps x.toInCall.keep,codeAny_func ?_⟩;obtain⟨t,ht,hq⟩:=cX A outer s H vs Q E (hr.deeper _) fi;have I:Inv (Xh CX P w K mg base N qual scope f aC A outer s H E) [] (start N vs) H s1:=XC S hr.hd e0 hl r x;refine CD (ht [] s1 (start N vs) H _ I hq) (λfl s' hs=>?_) λe s' hs=>hs;have fin:∀{af:St} {H':Hp} {v:V} {u:Value},Inv (Xh CX P w K mg base N qual scope f aC A outer s H E) [] af H' s'->RelV v u->Q v H'->CE outer P w H s Q u s':=
  λ{af H' v u} J rv q=>⟨v,H',J.os,J.bare,J.base,J.hok,rv,q⟩
 cases fl with
 |ret u=>obtain⟨v,af,H',J,rv,q⟩:=hs;exact fin J rv q
 |next=>obtain⟨af,H',J,q⟩:=hs;exact fin (v:=V.non) (u:=Value.none) J rfl q
 |brk=>obtain⟨_,_,_,q⟩:=hs;exact False.elim q
 |cont=>obtain⟨_,_,_,q⟩:=hs;exact False.elim q
section
variable {X:Cx}{x:Str}{p pos:Pos}{e:Expr}{es:List Expr}{t:TA}{id T:String}{r:List V->Hp->VK->Prop}
def tCB (r:List V->Hp->VK->Prop)(t:TA):TE:=λσ H Q=>t σ H λvs H1=>r vs H1 Q
def zR (hc:qU X (.builtin id) r) (hg:Gl X x) (hm:X.mg x=none) (hv:bootBuiltins x=some (.builtin id)) (ha:PA X (e::es) t) (hn:x ≠ "__name__":=by decide) (cU:(x==("__debug__" : Str))=false:=by decide)
  (he:starEach (e::es) X.env=(false,eval e X.env)::starEach es X.env:=by rfl) (cH:(backTo pos (starEach es X.env)).any (·.1)=false:=by rfl):PE X (.Call (.Name x p) (e::es) [] pos) (tCB r t):=by
 intro pins s σ H Q I h;refine EU (ZC I hg hm hv ?_ hn cU);exact PyProof.Rows.callWith_builtin1 (thn (ha pos pins s σ H _ I h) λus s1 ⟨vs,H1,I1,r1,q1⟩=>hc pins s1 σ H1 vs us Q I1 r1 q1) he cH
def zv (hc:qU X (.type T) r) (hg:Gl X x) (hm:X.mg x=none) (hv:bootBuiltins x=some (.type T)) (ha:PA X (e::es) t) (hn:x ≠ "__name__":=by decide) (cU:(x==("__debug__" : Str))=false:=by decide)
  (he:starEach (e::es) X.env=(false,eval e X.env)::starEach es X.env:=by rfl) (cH:(backTo pos (starEach es X.env)).any (·.1)=false:=by rfl):PE X (.Call (.Name x p) (e::es) [] pos) (tCB r t):=by
 intro pins s σ H Q I h;refine EU (ZC I hg hm hv ?_ hn cU);exact BN (thn (ha pos pins s σ H _ I h) λus s1 ⟨vs,H1,I1,r1,q1⟩=>hc pins s1 σ H1 vs us Q I1 r1 q1) he cH
end
end L2
namespace HT
open PySem PyProof.Rows
section
variable {prog:Program}{w:World}{A:Around}{E:TB}{s:Shared}
def cat_tup {t b:Addr}{vs ws:TF}{Q:TB}(ht:IsTup s.heap t vs.toArray)(hb:IsTup s.heap b ws.toArray)(hv:vs≠[])
  (h1:ws=[]->Q (.ref t) s) (h2:ws≠[]->Q (.ref s.heap.objs.size) {s with heap:=s.heap.push {cls:=.type "tuple",data:=.seq (vs++ws).toArray}})
  (hsz:vs.length+ws.length<=sizeLine):wpAny (model prog w) A (binaryOp .Add (.ref t) (.ref b)) Q E s:=by
 obtain⟨⟨cls,dd,data,sl⟩,ho,hc,n,hd⟩:=id ht;obtain⟨⟨uH,pJ,data2,kf⟩,fF,nq,n2,hd2⟩:=id hb;simp only at hc hd nq hd2;subst hc hd nq hd2;have e:vs.toArray++ws.toArray=(vs++ws).toArray:=by simp
 by_cases hw:ws=[]
 ·exact concat_meets ⟨_,ho,O⟩ ⟨_,fF,O⟩ noFill_tuple_add seq_tuple_add Ed Eb (ES _ _)
   (tuple_addW1 t b vs.toArray ws.toArray n n2 dd pJ sl kf (by simpa using hv) (by simp[hw])) ⟨ho,fF,h1 hw⟩
 ·refine concat_meets ⟨_,ho,O⟩ ⟨_,fF,O⟩ noFill_tuple_add seq_tuple_add Ed Eb (ES _ _)
   (tuple_addW2 t b vs.toArray ws.toArray n n2 dd pJ sl kf (by simpa using hv) (by simpa using hw) (by rw[List.size_toArray,List.size_toArray];exact hsz)) ⟨ho,fF,?_⟩
  rw[e];exact h2 hw
def sIx (n d:Nat):Option Int->Nat
 |none=>d
 |some v=>if v<0 then (v+(n:Int)).toNat else min v.toNat n
def sIx_none (n d:Nat):sIx n d none=d:=rfl
def sIx_nat (n d k:Nat):sIx n d (some (k:Int))=min k n:=by show (if (k:Int)<0 then ((k:Int)+(n:Int)).toNat else min (k:Int).toNat n)=min k n;rw[if_neg ⋯,Av]
def sIx_le (n d:Nat)(hd:d<=n)(o:Option Int):sIx n d o<=n:=by
 cases o with
 |none=>exact hd
 |some v=>
  show (if v<0 then (v+(n:Int)).toNat else min v.toNat n)<=n;by_cases hv:v<0
  ·rw[if_pos hv];lia
  ·rw[if_neg hv];exact Nat.min_le_right _ _
def clip_eq (v:Int)(n d:Nat):(if v<0 then max (v+(n:Int)) 0 else min v (n:Int))=((sIx n d (some v):Nat):Int):=by
 show (if v<0 then max (v+(n:Int)) 0 else min v (n:Int))=(((if v<0 then (v+(n:Int)).toNat else min v.toNat n):Nat):Int)
 by_cases hv:v<0
 ·simp only[if_pos hv];lia
 ·simp only[if_neg hv];lia
def adjust_gen (lo hi:Option Int)(n:Nat):Builtin.Slice.sliceAdjust lo hi 1 (n:Int)=(((sIx n 0 lo:Nat):Int),((sIx n n hi:Nat):Int)):=by
 have h1:¬((1:Int)<0):=⋯;unfold Builtin.Slice.sliceAdjust;simp only[h1,if_false];refine Prod.ext ?_ ?_
 ·cases lo with
  |none=>rfl
  |some v=>exact clip_eq v n 0
 ·cases hi with
  |none=>rfl
  |some v=>exact clip_eq v n n
def places_gen (i j:Nat):Builtin.Slice.slicePlaces (i:Int) (j:Int) 1=j-i:=by unfold Builtin.Slice.slicePlaces;have h1:(1:Int) > 0:=⋯;simp only[h1,if_true,Int.ediv_one];split <;> lia
def slicePart_ {v:Value}{o:Option Int}{Q:Option Int->Shared->Prop}(p:IsPart v o)(h:Q o s):wpAny (model prog w) A (Builtin.Slice.slicePartIndex v) Q E s:=by
 cases p with
 |none=>exact slicePart_none h
 |int i t=>exact slicePart_int h
def sliceApplied_gen {sl:Addr}{vl vu:Value}{lo hi:Option Int}{n:Nat}{Q:Int×Int×Nat->Shared->Prop}(hs:s.heap.IsSliceOf sl vl vu .none)(pl:IsPart vl lo)(pu:IsPart vu hi)
  (h:Q (((sIx n 0 lo:Nat):Int),1,sIx n n hi-sIx n 0 lo) s):wpAny (model prog w) A (Builtin.Slice.sliceApplied (.ref sl) (pure (n:Int))) Q E s:=by
 obtain⟨os,iB,d9,fm⟩:=id hs;unfold Builtin.Slice.sliceApplied Builtin.Slice.sliceFields;refine AA (AA (BO iB fm (x:=vl) rfl (AA (BO iB fm (x:=vu) rfl (AA (BO iB fm (x:=.none) rfl (AF ?_)))))));refine AA (slicePart_none ?_);show wpAny _ _ (if ((1:Int)==0)=true then _ else _) _ _ s;rw[if_neg ∅];refine AA (slicePart_ pl (AA (slicePart_ pu (AA (AF ?_)))));show wpAny _ _ (match Builtin.Slice.sliceAdjust lo hi 1 (n:Int) with|(lo,hi)=>pure (lo,(1:Int),Builtin.Slice.slicePlaces lo hi 1)) _ _ s;rw[adjust_gen lo hi n];show wpAny _ _ (pure (((sIx n 0 lo:Nat):Int),(1:Int),Builtin.Slice.slicePlaces ((sIx n 0 lo:Nat):Int) ((sIx n n hi:Nat):Int) 1)) _ _ s;rw[places_gen];exact AF h
def pick_gen (xs:TH)(i k:Nat):((List.range k).filterMap λ(m:Nat)=>xs[((i:Int)+(m:Int)*1).toNat]?).toArray=((xs.toList.drop i).take k).toArray:=by
 have e:(λ(m:Nat)=>xs[((i:Int)+(m:Int)*1).toNat]?)=λm=>xs[i+m]?:=by
  funext m
  have:((i:Int)+(m:Int)*1).toNat=i+m:=⋯;rw[this]
 rw[e];have:=pick_run xs i k;rw[List.filterMap_map]at this;have e2:((λx=>xs[x]?) ∘ λx=>i+x)=λm=>xs[i+m]?:=rfl;rw[e2]at this;rw[this]
def getItem_tuple_cut {t sl:Addr}{items:TH}{vl vu:Value}{lo hi:Option Int}{Q:TB}(ht:IsTup s.heap t items)(hs:s.heap.IsSliceOf sl vl vu .none)(pl:IsPart vl lo)(pu:IsPart vu hi)
  (hw:¬(sIx items.size 0 lo=0/\sIx items.size items.size hi=items.size))
  (h:Q (.ref s.heap.objs.size) {s with heap:=s.heap.push {cls:=.type "tuple",data:=.seq ((items.toList.drop (sIx items.size 0 lo)).take (sIx items.size items.size hi-sIx items.size 0 lo)).toArray}})
  (hsz:items.size<=sizeLine):wpAny (model prog w) A (getItem (.ref t) (.ref sl)) Q E s:=by
 have dH:sizeOk (.seq ((items.toList.drop (sIx items.size 0 lo)).take (sIx items.size items.size hi-sIx items.size 0 lo)).toArray):=by show ((items.toList.drop (sIx items.size 0 lo)).take (sIx items.size items.size hi-sIx items.size 0 lo)).toArray.size<=sizeLine;rw[Ao,Ae,Cw,Ad];lia
 have hj:sIx items.size items.size hi<=items.size:=sIx_le _ _ (AI _) hi;obtain⟨os,iB,d9,fm⟩:=id hs;have tY:s.TypeIs (.ref sl) "slice":=⟨os,iB,d9⟩
 unfold getItem
 try with_reducible refine BL ?_
 first|refine AA (AF ?_)|skip
 refine AA (wpAny_sequenceKey ht.typeIs ∅ ?_);refine AA (wpAny_callSpecial?_slot (name:=Str.ofString "__getitem__") ht.typeIs Bo
  (A6 Bo ht.typeIs entry_tuple_getitem ?_ (args_tuple_getitem _ _)))
 show wpAny _ _ (Builtin.Tuple.tupleItemsOf (.ref t) >>= _) _ _ s;refine AA (tupleItemsOf_ ht ?_);refine AA (CQ tY ?_);rw[if_pos ∅];refine AA (sliceApplied_gen hs pl pu ?_);have dQ:¬((((sIx items.size 0 lo:Nat):Int)==0&&(1:Int)==1&&(sIx items.size items.size hi-sIx items.size 0 lo)==items.size)=true):=by intro q;rw[Bv,Bv]at q;have q1:((sIx items.size 0 lo:Nat):Int)=0:=eq_of_beq q.1.1;have q2:sIx items.size items.size hi-sIx items.size 0 lo=items.size:=eq_of_beq q.2;exact hw ⟨⋯,⋯⟩
 show wpAny _ _ (if (((sIx items.size 0 lo:Nat):Int)==0&&(1:Int)==1&&(sIx items.size items.size hi-sIx items.size 0 lo)==items.size)=true then _ else _) _ _ s;rw[if_neg dQ,pick_gen]
 first
  |exact AA (m:=Builtin.Tuple.tupleExact _) (A3 (AF ⟨_,rfl,AF h⟩) dH)
  |exact AA (m:=Builtin.Tuple.tupleExact _) (A3 (AA (AF (AF ⟨_,rfl,AF h⟩))) dH)
  |exact AA (AA (m:=Builtin.Tuple.tupleExact _) (A3 (AF (AF ⟨_,rfl,AF h⟩)) dH))
  |exact AA (AA (m:=Builtin.Tuple.tupleExact _) (A3 (AF ⟨_,rfl,AF h⟩) dH))
end
end HT
namespace L2
open PySem PySem.Spec PyProof.Rows
abbrev TO:=St->Hp->(Option Int->Hp->Prop)->Prop
def PO (X:Cx)(e:Option Expr)(t:TO):Prop:=
 ∀(pins:List (Addr×Obj)) (s:Shared) (σ:St) (H:Hp) (Q:Option Int->Hp->Prop),Inv X pins σ H s->t σ H Q ->
  wpAny (model X.prog X.w) X.A (evalPart e X.env) (λu s'=>∃o H',Inv X pins σ H' s'/\IsPart u o/\Q o H') X.xe s
def tNoPart:TO:=λ_ H Q=>Q none H
def tPart (t:TE):TO:=λσ H Q=>t σ H λx H1=>∃i,x=.int i/\Q (some i) H1
section
variable {X:Cx}{e:Expr}{te:TE}{lo hi:Option Expr}{tl th:TO}{pos p2:Pos}
def j4:PO X none tNoPart:=by intro pins s σ H Q I h;rw[evalPart_none];exact AF ⟨none,H,I,.none,h⟩
def jB (h:PE X e te):PO X (some e) (tPart te):=by intro pins s σ H Q I hw;rw[evalPart_some];refine thn (h pins s σ H _ I hw) λu s1 ⟨x,H1,I1,r1,q1⟩=>?_;obtain⟨i,rfl,q⟩:=q1;obtain⟨t,rfl⟩:=r1;exact⟨some i,H1,I1,.int i t,q⟩
def SlR (X:Cx)(r:V->Option Int->Option Int->Hp->VK->Prop):Prop:=
 ∀(pins:List (Addr×Obj)) (s:Shared) (σ:St) (H:Hp) (x:V) (v vl vu:Value) (lo hi:Option Int) (sl:Addr) (Q:VK),Inv X pins σ H s->RelV x v->s.heap.IsSliceOf sl vl vu .none->IsPart vl lo->IsPart vu hi->r x lo hi H Q ->
  ∃T id,typeLookup (.type T) "__getitem__" = pure (some (.builtin id))/\s.TypeIs v T/\wpAny (model X.prog X.w) X.A (getItem v (.ref sl)) (EP X pins σ Q) X.xe s
def SlR.or {r r':V->Option Int->Option Int->Hp->VK->Prop}(h:SlR X r)(h':SlR X r'):SlR X (λx lo hi H Q=>r x lo hi H Q\/r' x lo hi H Q):=by
 intro pins s σ H x v vl vu lo hi sl Q I rx hs pl pu q
 rcases q with q|q
 ·exact h pins s σ H x v vl vu lo hi sl Q I rx hs pl pu q
 ·exact h' pins s σ H x v vl vu lo hi sl Q I rx hs pl pu q
def tSl (r:V->Option Int->Option Int->Hp->VK->Prop)(te:TE)(tl th:TO):TE:=λσ H Q=>te σ H λx H1=>tl σ H1 λl H2=>th σ H2 λu H3=>r x l u H3 Q
def q5 {r:V->Option Int->Option Int->Hp->VK->Prop}(hr:SlR X r)(he:PE X e te)(hl:PO X lo tl)(hu:PO X hi th):PE X (.Subscript e (.Slice lo hi none p2) pos) (tSl r te tl th):=by intro pins s σ H Q I h;refine Subscript_ (thn (he pins s σ H _ I h) λv s1 ⟨x,H1,I1,r1,q1⟩=>?_);refine wpAny_Slice (thn (hl pins s1 σ H1 _ I1 q1) λvl s2 ⟨l,H2,I2,pl,q2⟩=>thn (hu pins s2 σ H2 _ I2 q2) λvu s3 ⟨u,H3,I3,pu,q3⟩=>?_);rw[evalPart_none];refine AF ?_;have I4:Inv X pins σ H3 {s3 with heap:=s3.heap.push {cls:=.type "slice",data:=.fields #[vl,vu,.none]}}:=I3.kept (t':=s3.toks) λb ob q=>AE _ q;obtain⟨T,id,hT,ht,hg⟩:=hr pins {s3 with heap:=s3.heap.push {cls:=.type "slice",data:=.fields #[vl,vu,.none]}} σ H3 x v vl vu l u s3.heap.objs.size Q I4 r1 (Heap.IsSliceOf.new ..) pl pu q3;show wpAny (model X.prog X.w) X.A (subscriptTail e (.Slice lo hi none p2) v (.ref s3.heap.objs.size)) (EP X pins σ Q) X.xe {s3 with heap:=s3.heap.push {cls:=.type "slice",data:=.fields #[vl,vu,.none]}};exact tail_any (ops:=[.ref s3.heap.objs.size,v]) ht hT hg (by with_unfolding_all rfl)
def ZF (xs:List V)(lo hi:Option Int):List V:=(xs.drop (HT.sIx xs.length 0 lo)).take (HT.sIx xs.length xs.length hi-HT.sIx xs.length 0 lo)
def Jg (xs:List V)(lo hi:Option Int):(ZF xs lo hi).length<=xs.length:=by unfold ZF;rw[Ae,Cw];lia
def rSlT (K:Fv):V->Option Int->Option Int->Hp->VK->Prop:=λx lo hi H Q=>∃a xs,x=.ref a/\SqT K H a xs /\
 ¬(HT.sIx xs.length 0 lo=0/\HT.sIx xs.length xs.length hi=xs.length)/\∀p,H p=none->Q (.ref p) (upd H p (.tup (ZF xs lo hi)))
def sl_tup:SlR X (rSlT X.K):=by
 intro pins s σ H x v vl vu lo hi sl Q I rx hs pl pu h;obtain⟨a,xs,rfl,hx,hw,q⟩:=h;cases rx;obtain⟨its,r,ht,hz⟩:=I.tuple hx;have hlen:its.toArray.size=xs.length:=by rw[Ao];exact r.length.symm
 refine⟨"tuple",_,Bo.lookup,ht.typeIs,?_⟩;refine HT.getItem_tuple_cut ht hs pl pu (by rw[hlen];exact hw) ?_ (by rw[hlen];exact hz);rw[hlen];refine⟨.ref s.heap.objs.size,_,I.laid (t':=s.toks) (o:=.tup (ZF xs lo hi)) (λb ob q=>AE _ q) (AI _) ?_,O,q _ (I.hok.fresh (AI _))⟩;exact⟨Ar (Jg xs lo hi) hz,_,(r.drop (HT.sIx xs.length 0 lo)).take (HT.sIx xs.length xs.length hi-HT.sIx xs.length 0 lo),PTup.new _ _⟩
def rCatT (K:Fv):R2:=λx y H Q=>∃a b xs ys,x=.ref a/\y=.ref b/\SqT K H a xs/\SqT K H b ys/\xs≠[]/\xs.length+ys.length<=sizeLine /\
 (ys=[]->Q (.ref a) H)/\(ys≠[]->∀p,H p=none->Q (.ref p) (upd H p (.tup (xs++ys))))
def qh.nil_iff {xs:List V}{us:TF}(r:qh xs us):us=[]↔xs=[]:=by
 cases r with
 |nil=>simp
 |cons _ _=>simp
def op_catT:OpR X (binaryOp .Add) (rCatT X.K):=by intro pins s σ H x y v u Q I rx ry h;obtain⟨a,b,xs,ys,rfl,rfl,ha,hb,hx,hz,q1,q2⟩:=h;cases rx;cases ry;obtain⟨its,r1,p1,_⟩:=I.tuple ha;obtain⟨bO,r2,p2,_⟩:=I.tuple hb;refine HT.cat_tup p1 p2 (λz=>hx (r1.nil_iff.mp z)) (λz=>⟨.ref a,H,I,O,q1 (r2.nil_iff.mp z)⟩) (λz=>?_) (by rw[<- r1.length,<- r2.length];exact hz);refine⟨.ref s.heap.objs.size,_,I.laid (t':=s.toks) (o:=.tup (xs++ys)) (λb ob q=>AE _ q) (AI _) ?_,O,q2 (λw=>z (r2.nil_iff.mpr w)) _ (I.hok.fresh (AI _))⟩;exact⟨by rw[AJ];exact hz,_,r1.append r2,PTup.new _ _⟩
end
def ixN (n:Nat)(i:Int):Option Nat:=if 0<=i then (if i<n then some i.toNat else none) else if -(n:Int)<=i then some (i+n).toNat else none
def atI {α:Type}(xs:List α)(i:Int):Option α:=(ixN xs.length i).bind λj=>xs[j]?
def XD {n:Nat}{i:Int}{j:Nat}(h:ixN n i=some j):seqIndex? i n=some j/\j<n /\ -(n:Int)<=i/\i<n:=by
 unfold ixN at h;by_cases h0:0<=i
 ·rw[if_pos h0]at h;by_cases h1:i<n
  ·rw[if_pos h1]at h;have e:i.toNat=j:=AH h;exact⟨by rw[seqIndex_of h0 h1,e],⋯,⋯,h1⟩
  ·rw[if_neg h1]at h;cases h
 ·rw[if_neg h0]at h;by_cases h1:-(n:Int)<=i
  ·rw[if_pos h1]at h;have e:(i+n).toNat=j:=AH h;exact⟨by rw[seqIndex_neg ⋯ h1,e],⋯,h1,⋯⟩
  ·rw[if_neg h1]at h;cases h
def yY {α:Type}{xs:List α}{i:Int}{v:α}(h:atI xs i=some v):∃j,seqIndex? i xs.length=some j/\xs[j]?=some v/\j<xs.length /\ -(xs.length:Int)<=i/\i<xs.length:=by
 unfold atI at h;cases e:ixN xs.length i with
 |none=>rw[e]at h;cases h
 |some j=>rw[e]at h;obtain⟨h1,h2,h3,h4⟩:=XD e;exact⟨j,h1,h,h2,h3,h4⟩
def qF {α:Type}{xs:List α}{j:Nat}{v:α}(h:xs[j]?=some v):atI xs (j:Int)=some v:=by
 have hj:j<xs.length:=(AD.mp h).1;have e:ixN xs.length (j:Int)=some j:=by unfold ixN;rw[if_pos ⋯,if_pos ⋯];simp
 unfold atI;rw[e];exact h
def atI_last {α:Type}(xs:List α)(v:α):atI (xs++[v]) (-1)=some v:=by
 have hl:(xs++[v]).length=xs.length+1:=by simp
 have e:ixN (xs++[v]).length (-1)=some xs.length:=by
  unfold ixN;rw[hl,if_neg ∅,if_pos ⋯]
  congr 1
  lia
 unfold atI;rw[e];show (xs++[v])[xs.length]?=some v;simp
def PlainIx (b:Expr):Prop:=∀o i,subscripted b false o i=operate [o,i] (getItem o i)
def IxR (X:Cx)(r:R2):Prop:=
 ∀(value slice:Expr) (pins:List (Addr×Obj)) (s:Shared) (σ:St) (H:Hp) (x y:V) (v u:Value) (Q:VK),Inv X pins σ H s->RelV x v->RelV y u->r x y H Q ->
  subscripted slice false v u=operate [v,u] (getItem v u)->wpAny (model X.prog X.w) X.A (subscriptTail value slice v u) (EP X pins σ Q) X.xe s
def MtR (X:Cx)(id:String)(r:V->List V->Hp->VK->Prop):Prop:=
 ∀(pins:List (Addr×Obj)) (s:Shared) (σ:St) (H:Hp) (x:V) (xs:List V) (v:Value) (us:TF) (Q:VK),Inv X pins σ H s->RelV x v->qh xs us->r x xs H Q ->
  wpAny (model X.prog X.w) X.A (call (.builtin id) (v::us)) (EP X pins σ Q) X.xe s
section
variable {X:Cx}{a b:Expr}{ta tb:TE}{pos:Pos}
def IxR.or {r r':R2}(h:IxR X r)(h':IxR X r'):IxR X (λx y H Q=>r x y H Q\/r' x y H Q):=by
 intro value slice pins s σ H x y v u Q I rx ry q hs
 rcases q with q|q
 ·exact h value slice pins s σ H x y v u Q I rx ry q hs
 ·exact h' value slice pins s σ H x y v u Q I rx ry q hs
def zE {r:R2}(hr:IxR X r)(ha:PE X a ta)(hb:PE X b tb)(hs:PlainIx b):PE X (.Subscript a b pos) (tOp r ta tb):=by intro pins s σ H Q I h;exact Subscript_ (binT ha hb I h λv u s2 x y H2 I2 rx ry q=>hr a b pins s2 σ H2 x y v u Q I2 rx ry q (hs _ _))
def rIxL (K:Fv):R2:=λx y H Q=>∃p xs i v,x=.ref p/\y=.int i/\SqL K H p xs/\atI xs i=some v/\Q v H
def rIxT (K:Fv):R2:=λx y H Q=>∃p xs i v,x=.ref p/\y=.int i/\SqT K H p xs/\atI xs i=some v/\Q v H
def rIxS:R2:=λx y H Q=>∃z i c,x=.str z/\y=.int i/\z.length<=sizeLine/\atI z.cps.toList i=some c/\Q (.str ⟨#[c]⟩) H
def ix_list:IxR X (rIxL X.K):=by
 intro value slice pins s σ H x y v u Q I rx ry h hs;obtain⟨p,xs,i,z,rfl,rfl,hq,he,q⟩:=h;cases rx;obtain⟨t,rfl⟩:=ry;obtain⟨its,r,pl,hz⟩:=I.list hq;obtain⟨j,h1,h2,h3,h4,h5⟩:=yY he;obtain⟨w,ew,du⟩:=r.get h2;have hl:=r.length;have hn:=WW;have fin:EP X pins σ Q w s:=⟨z,H,I,du,q⟩
 by_cases h0:0<=i
 ·have hj:i.toNat=j:=by rw[seqIndex_of h0 h5]at h1;exact AH h1
  exact item_listR pl.isList h0 ⋯ (by rw[hj];simpa using ew) fin hs
 ·have hj:(i+(its.toArray.size:Int)).toNat=j:=by rw[seqIndex_neg ⋯ h4]at h1;rw[Ao,<- hl];exact AH h1
  exact subscriptTail_builtinR (x:=w) pl.isList.typeIs slot_list_getitem.lookup
   (wpAny_getItem_list_neg (Q:=λr s'=>r=w/\EP X pins σ Q r s') pl.isList ⋯ (by rw[Ao] <;> lia) ⋯ (by rw[hj];simpa using ew) ⟨rfl,fin⟩) hs
def ix_tup:IxR X (rIxT X.K):=by
 intro value slice pins s σ H x y v u Q I rx ry h hs;obtain⟨p,xs,i,z,rfl,rfl,hq,he,q⟩:=h;cases rx;obtain⟨t,rfl⟩:=ry;obtain⟨its,r,pl,hz⟩:=I.tuple hq;obtain⟨j,h1,h2,h3,h4,h5⟩:=yY he;obtain⟨w,ew,du⟩:=r.get h2;have hl:=r.length;have hn:=WW;have fin:EP X pins σ Q w s:=⟨z,H,I,du,q⟩
 exact subscriptTail_builtinR (x:=w) pl.typeIs slot_tuple_getitem.lookup
  (getItem_tuple (j:=j) (Q:=λr s'=>r=w/\EP X pins σ Q r s') pl ⋯ ⋯ (by rw[Ao,<- hl];exact h1) (by simpa using ew) ⟨rfl,fin⟩) hs
def ix_str:IxR X rIxS:=by
 intro value slice pins s σ H x y v u Q I rx ry h hs;obtain⟨z,i,c,rfl,rfl,hz,he,q⟩:=h;obtain⟨t,rfl⟩:=rx;obtain⟨t',rfl⟩:=ry;obtain⟨j,h1,h2,h3,h4,h5⟩:=yY he;have hl:z.cps.toList.length=z.length:=by simp[Str.length]
 rw[hl]at h1 h4 h5;have hn:=WW;exact tail_any (typeIs_str s z t) slot_str_getitem.lookup (getItem_str (c:=c) (by have e1:decide (i < -(2^63:Int))=false:=Ag ⋯;have e2:decide (i ≥ 2^63)=false:=Ag ⋯;rw[e1,e2,Bool.or_false]) (by rw[h1];simpa using h2) ⟨.str ⟨#[c]⟩,H,I.tok _,⟨_,rfl⟩,q⟩) hs
def rIx (K:Fv):R2:=λx y H Q=>rIxL K x y H Q\/rIxT K x y H Q\/rIxS x y H Q
def ix_seq:IxR X (rIx X.K):=ix_list.or (ix_tup.or ix_str)
def xo (its:TF) (n j:Nat) (u:Value):Obj.mapSeq (·.setIfInBounds j u) {cls:=.type "list",data:=.seq its.toArray n} = {cls:=.type "list",data:=.seq (its.set j u).toArray n}:=by simp[Obj.mapSeq]
def Inv.lst {pins:List (Addr×Obj)}{σ:St}{H:Hp}{s:Shared}{p:Addr}{xs:List V}(I:Inv X pins σ H s)(h:H p=some (.lst xs)):
  ∃(its:TF) (n:Nat),qh xs its/\s.heap.get? p=some {cls:=.type "list",data:=.seq its.toArray n}/\xs.length<=sizeLine:=by
 obtain⟨z,its,n,r,e⟩:=I.hok p _ h;exact⟨its,n,r,e,z⟩
def Inv.lstUpd {pins:List (Addr×Obj)}{σ:St}{H:Hp}{s:Shared}{p:Addr}{xs ys:List V}{its its':TF}{n n':Nat}{f:Obj->Obj}(I:Inv X pins σ H s)(h:H p=some (.lst xs))
  (ho:s.heap.get? p=some {cls:=.type "list",data:=.seq its.toArray n}) (hf:f {cls:=.type "list",data:=.seq its.toArray n} = {cls:=.type "list",data:=.seq its'.toArray n'}) (r:qh ys its') (hz:ys.length<=sizeLine) (t:Nat):
  Inv X pins σ (upd H p (.lst ys)) {s with heap:=s.heap.update p f,toks:=t}:=by
 have e:(s.heap.update p f).get? p=some {cls:=.type "list",data:=.seq its'.toArray n'}:=by rw[A9 f ho (by rw[hf] <;> rfl),hf]
 refine I.write (x:=p) (e:=p) (by rw[h];trivial) (.inl rfl) (λb u hb q=>(BE _ _ (An hb)).trans q) ⟨_,e⟩ ?_;exact⟨hz,its',n',r,e⟩
def rSetL:V->V->V->Hp->(Hp->Prop)->Prop:=λo i v H Q=>∃p xs k j,o=.ref p/\i=.int k/\H p=some (.lst xs)/\ixN xs.length k=some j/\Q (upd H p (.lst (xs.set j v)))
def YR:PSet X rSetL:=by
 intro pins s σ H o i v ov iv u Q I ro ri rv h;obtain⟨p,xs,k,j,rfl,rfl,hp,hj,q⟩:=h;cases ro;obtain⟨t,rfl⟩:=ri;obtain⟨its,n,r,ho,hz⟩:=I.lst hp;obtain⟨h1,h2,h3,h4⟩:=XD hj;have hl:=r.length;have hn:=WW;have I':Inv X pins σ (upd H p (.lst (xs.set j v))) {s with heap:=s.heap.update p (Obj.mapSeq (·.setIfInBounds j u))}:=
  I.lstUpd hp ho (xo its n j u) (r.set rv j) (by rw[List.length_set];exact hz) s.toks
 by_cases h0:0<=k
 ·have hk:k.toNat=j:=by rw[seqIndex_of h0 h4]at h1;exact AH h1
  exact PySem.W.ki_setAt ho h0 ⋯ (by rw[Ao,<- hl];exact h4) (by rw[hk];exact⟨_,I',q⟩)
 ·have hk:(k+(its.toArray.size:Int)).toNat=j:=by rw[seqIndex_neg ⋯ h3]at h1;rw[Ao,<- hl];exact AH h1
  exact PySem.W.ki_setBack ho ⋯ (by rw[Ao,<- hl];exact h3) ⋯ (by rw[hk];exact⟨_,I',q⟩)
def W2 (lo hi:Option Int)(n:Nat):(sliceBounds lo hi none n).1=((HT.sIx n 0 lo:Nat):Int)/\(sliceBounds lo hi none n).2.1=((HT.sIx n n hi:Nat):Int)/\(sliceBounds lo hi none n).2.2=1:=by
 refine⟨?_,?_,O⟩
 ·cases lo with
  |none=>simp[sliceBounds,HT.sIx]
  |some i=>
   simp only[sliceBounds,HT.sIx,Option.getD_none,show (1:Int) > 0 by decide,if_true];by_cases h:i<0
   ·simp only[h,if_true] <;> lia
   ·simp only[h,if_false] <;> lia
 ·cases hi with
  |none=>simp[sliceBounds,HT.sIx]
  |some i=>
   simp only[sliceBounds,HT.sIx,Option.getD_none,show (1:Int) > 0 by decide,if_true];by_cases h:i<0
   ·simp only[h,if_true] <;> lia
   ·simp only[h,if_false] <;> lia
def wW (its:TF)(lo hi:Option Int):slicePick its.toArray lo hi none=((its.drop (HT.sIx its.length 0 lo)).take (HT.sIx its.length its.length hi-HT.sIx its.length 0 lo)).toArray:=by obtain⟨h1,h2,h3⟩:=W2 lo hi its.toArray.size;unfold slicePick;rw[h1,h2,h3];simp only[sliceRange_one,pick_run,List.size_toArray] <;> rfl
def rSlL (K:Fv):V->Option Int->Option Int->Hp->VK->Prop:=λx lo hi H Q=>∃a xs,x=.ref a/\SqL K H a xs/\∀p,H p=none->Q (.ref p) (upd H p (.lst (ZF xs lo hi)))
def sl_list:SlR X (rSlL X.K):=by intro pins s σ H x v vl vu lo hi sl Q I rx hs pl pu h;obtain⟨a,xs,rfl,hx,q⟩:=h;cases rx;obtain⟨its,r,ht,hz⟩:=I.list hx;have hlen:=r.length;refine⟨"list",_,slot_list_getitem.lookup,ht.isList.typeIs,?_⟩;refine wpAny_getItem_list_slice ht.isList hs pl pu .none (by simp) ?_ (by rw[List.size_toArray] <;> lia);rw[wW,<- hlen];refine⟨.ref s.heap.objs.size,_,I.laid (t':=s.toks) (o:=.lst (ZF xs lo hi)) (λb ob q=>AE _ q) (AI _) ?_,O,q _ (I.hok.fresh (AI _))⟩;exact⟨Ar (Jg xs lo hi) hz,_,0,(r.drop (HT.sIx xs.length 0 lo)).take (HT.sIx xs.length xs.length hi-HT.sIx xs.length 0 lo),AQ _ rfl⟩
def qV:V->Bool
 |.non=>true
 |.bl _=>true
 |.int _=>true
 |.str _=>true
 |_=>false
def eqV:V->V->Bool
 |.non,.non=>true
 |.bl a,.bl b=>a==b
 |.bl a,.int b=>(if a then 1 else 0)==b
 |.int a,.bl b=>a==(if b then 1 else 0)
 |.int a,.int b=>a==b
 |.str a,.str b=>a==b
 |_,_=>false
def YS {A:Around}{s:Shared}{y x:V}{u v:Value}(ry:RelV y u)(rx:RelV x v)(fy:qV y=true)(fx:qV x=true):SeqAt.EqAt A s u v (eqV y x):=by
 cases y with
 |non=>
  cases ry;cases x with
  |non=>cases rx;exact EM _
  |bl b=>cases rx;exact SeqAt.EqAt.none_bool b
  |int b=>obtain⟨t,rfl⟩:=rx;exact SeqAt.EqAt.none_int b t
  |str b=>obtain⟨t,rfl⟩:=rx;exact SeqAt.EqAt.none_str b t
  |_=>exact absurd (show false=true from fx) AV
 |bl a=>
  cases ry;cases x with
  |non=>cases rx;exact SeqAt.EqAt.bool_none a
  |bl b=>cases rx;exact SeqAt.EqAt.bool_bool a b
  |int b=>obtain⟨t,rfl⟩:=rx;exact SeqAt.EqAt.bool_int a b t
  |str b=>obtain⟨t,rfl⟩:=rx;exact SeqAt.EqAt.bool_str a b t
  |_=>exact absurd (show false=true from fx) AV
 |int a=>
  obtain⟨t',rfl⟩:=ry;cases x with
  |non=>cases rx;exact SeqAt.EqAt.int_none a t'
  |bl b=>cases rx;exact SeqAt.EqAt.int_bool a t' b
  |int b=>obtain⟨t,rfl⟩:=rx;exact SeqAt.EqAt.int_int a t' b t
  |str b=>obtain⟨t,rfl⟩:=rx;exact SeqAt.EqAt.int_str a t' b t
  |_=>exact absurd (show false=true from fx) AV
 |str a=>
  obtain⟨t',rfl⟩:=ry;cases x with
  |non=>cases rx;exact SeqAt.EqAt.str_none a t'
  |bl b=>cases rx;exact SeqAt.EqAt.str_bool a t' b
  |int b=>obtain⟨t,rfl⟩:=rx;exact SeqAt.EqAt.str_int a t' b t
  |str b=>obtain⟨t,rfl⟩:=rx;exact SeqAt.EqAt.str_str a t' b t
  |_=>exact absurd (show false=true from fx) AV
 |_=>exact absurd (show false=true from fy) AV
def eqU (x:V)(u:Value):Bool:=match u with
 |.none=>eqV .non x
 |.bool b=>eqV (.bl b) x
 |.int i _=>eqV (.int i) x
 |.str z _=>eqV (.str z) x
 |_=>false
def YT {x y:V}{u:Value}(r:RelV y u)(f:qV y=true):eqU x u=eqV y x:=by
 cases y with
 |non=>cases r;rfl
 |bl b=>cases r;rfl
 |int i=>obtain⟨t,rfl⟩:=r;rfl
 |str z=>obtain⟨t,rfl⟩:=r;rfl
 |_=>exact absurd (show false=true from f) AV
theorem yZ {x:V}:∀{xs:List V}{us:List Value},qh xs us->xs.all qV=true->us.any (eqU x)=xs.any λy=>eqV y x
 |_,_,.nil,_=>rfl
 |y::xs,u::us,.cons r t,f=>by rw[Ca,Bv]at f;rw[Dy,Dy,YT r f.1,yZ t f.2]
theorem Qh {A:Around}{s:Shared}{x:V}{v:Value}(rx:RelV x v)(fx:qV x=true):∀{xs:List V}{us:List Value},qh xs us->xs.all qV=true->∀u∈us,SeqAt.EqAt A s u v (eqU x u)
 |_,_,.nil,_=>λu hu=>by cases hu
 |y::xs,u::us,.cons r t,f=>λu' hu=>by
  rw[Ca,Bv]at f
  rcases Al.mp hu with rfl|hu
  ·rw[YT r f.1];exact YS r rx f.1 fx
  ·exact Qh rx fx t f.2 u' hu
def inV (x:V)(xs:List V):Bool:=xs.any λy=>eqV y x
def rIn (K:Fv)(neg:Bool):R2:=λx y H Q=>∃p xs,y=.ref p/\(SqL K H p xs\/SqT K H p xs)/\qV x=true/\xs.all qV=true/\Q (.bl (if neg then !inV x xs else inV x xs)) H
def XE:OpR X (compareOp .In) (rIn X.K false):=by
 intro pins s σ H x y v u Q I rx ry h;obtain⟨p,xs,rfl,hq,fx,fs,q⟩:=h;cases ry
 rcases hq with hq|hq
 ·obtain⟨its,r,pl,hz⟩:=I.list hq;refine SeqAt.in_listAt (eqU x) pl.isList (λw hw=>Qh rx fx r fs w (by simpa using hw)) ⟨.bl _,H,I,O,?_⟩;rw[show its.toArray.any (eqU x)=its.any (eqU x) by simp,yZ r fs];exact q
 ·obtain⟨its,r,pl,hz⟩:=I.tuple hq;refine SeqAt.in_tupleAt (eqU x) pl (λw hw=>Qh rx fx r fs w (by simpa using hw)) ⟨.bl _,H,I,O,?_⟩;rw[show its.toArray.any (eqU x)=its.any (eqU x) by simp,yZ r fs];exact q
def W3:qU X (.type "list") (λxs H Q=>∃p ys,xs=[.ref p]/\(SqL X.K H p ys\/SqT X.K H p ys)/\∀l,H l=none->Q (.ref l) (upd H l (.lst ys))):=by
 intro pins s σ H xs us Q I r h;obtain⟨p,ys,rfl,hq,q⟩:=h;obtain⟨u,rfl,rx⟩:=vals1 r;cases rx;have fin:∀(its:TF),qh ys its->ys.length<=sizeLine->∀(h':Heap) (c':Nat),(∀b o',s.heap.get? b=some o'->h'.get? b=some o') ->
   h'.get? s.heap.objs.size=some {cls:=.type "list",dict:=none,data:=.seq its.toArray c',slots:=#[]}->EP X pins σ Q (.ref s.heap.objs.size) {s with heap:=h'}:=λits r' hz h' c' kp e=>
  ⟨.ref s.heap.objs.size,_,I.laid (t':=s.toks) kp (AI _) (show qm X.prog X.w _ h' _ (.lst ys) from⟨hz,its,c',r',e⟩),rfl,q _ (I.hok.fresh (AI _))⟩
 rcases hq with hq|hq
 ·obtain⟨its,r',pl,hz⟩:=I.list hq;have hlen:=r'.length;obtain⟨o,ho,hc,n,hd⟩:=pl.isList;exact call_list_seq p (.inl rfl) ho hc hd (λh' c' kp e=>fin its r' hz h' c' kp e) (by simp only[List.size_toArray] <;> lia)
 ·obtain⟨its,r',pl,hz⟩:=I.tuple hq;have hlen:=r'.length;obtain⟨o,ho,hc,n,hd⟩:=pl;exact call_list_seq p (.inr rfl) ho hc hd (λh' c' kp e=>fin its r' hz h' c' kp e) (by simp only[List.size_toArray] <;> lia)
def wX:qU X (.type "tuple") (λxs H Q=>∃p ys,xs=[.ref p]/\((SqL X.K H p ys/\∀l,H l=none->Q (.ref l) (upd H l (.tup ys)))\/(SqT X.K H p ys/\Q (.ref p) H))):=by
 intro pins s σ H xs us Q I r h;obtain⟨p,ys,rfl,h⟩:=h;obtain⟨u,rfl,rx⟩:=vals1 r;cases rx
 rcases h with ⟨hq,q⟩|⟨hq,q⟩
 ·obtain⟨its,r',pl,hz⟩:=I.list hq;have hlen:=r'.length;refine call_tuple_list pl.isList (λh' kp=>?_) (by simp only[List.size_toArray] <;> lia);have I1:Inv X pins σ H {s with heap:=h'}:=I.kept (t':=s.toks) kp;have I2:Inv X pins σ (upd H h'.objs.size (.tup ys)) {s with heap:=h'.push {cls:=.type "tuple",data:=.seq its.toArray}}:=
   I1.laid (t':=s.toks) (λb o e=>AE _ e) (AI _) (show qm X.prog X.w _ _ _ (.tup ys) from⟨hz,its,r',PTup.new _ _⟩)
  exact⟨.ref h'.objs.size,_,I2,O,q _ (I1.hok.fresh (AI _))⟩
 ·obtain⟨its,r',pl,hz⟩:=I.tuple hq;exact call_tuple_same pl ⟨.ref p,H,I,O,q⟩
def tyV (K:Fv)(T:String)(x:V)(H:Hp):Prop:=match x with
 |.str _=>T = "str"
 |.int _=>T = "int"
 |.ref p=>(T = "list" /\ ∃xs,SqL K H p xs)\/(T = "tuple" /\ ∃o,K.lookup p=some o/\o.cls=.type "tuple" /\ o.dict=none) \/
   (T = "dict" /\ ((∃kvs,H p=some (.dK kvs))\/∃kvs,H p=some (.dT kvs)))\/(T = "set" /\ ∃S n,H p=some (.set S n))\/(T = "tuple" /\ ∃xs,H p=some (.tup xs))
 |_=>False
def XF {pins:List (Addr×Obj)}{σ:St}{H:Hp}{s:Shared}{T:String}{x:V}{v:Value}(I:Inv X pins σ H s)(r:RelV x v)(ty:tyV X.K T x H):
  s.TypeIs v T/\∀a,v=.ref a->∃ob,s.heap.get? a=some ob/\ob.dict=none:=by
 cases x with
 |str z=>obtain⟨t,rfl⟩:=r;cases (show T = "str" from ty);exact⟨typeIs_str s z t,λ_ e=>nomatch e⟩
 |int i=>obtain⟨t,rfl⟩:=r;cases (show T = "int" from ty);exact⟨typeIs_int s i t,λ_ e=>nomatch e⟩
 |ref p=>
  cases r
  rcases ty with ⟨rfl,xs,hq⟩|⟨rfl,o,hk,hc,hd⟩|⟨rfl,hk⟩|⟨rfl,S,n,hk⟩|⟨rfl,xs,hk⟩
  rotate_left 4
  ·obtain⟨_,its,_,o,e,c,_,hd⟩:=I.hok p _ hk;exact⟨⟨o,e,c⟩,λa e2=>by cases e2;exact⟨o,e,hd⟩⟩
  ·obtain⟨its,_,pl,_⟩:=I.list hq;refine⟨pl.isList.typeIs,λa e=>?_⟩;cases e;obtain⟨o,n,e,c,hd,_⟩:=pl;exact⟨o,e,hd⟩
  ·refine⟨⟨o,I.kIn p o hk,hc⟩,λa e=>?_⟩;cases e;exact⟨o,I.kIn _ o hk,hd⟩
  ·have z:∃o,s.heap.get? p=some o/\o.ExactDict:=by
    rcases hk with ⟨kvs,hk⟩|⟨kvs,hk⟩
    ·obtain⟨_,_,_,_,o,_,_,e,ex,_⟩:=I.hok p _ hk;exact⟨o,e,ex⟩
    ·obtain⟨_,_,_,_,o,_,_,e,ex,_⟩:=I.hok p _ hk;exact⟨o,e,ex⟩
   obtain⟨o,e,ex⟩:=z;refine⟨⟨o,e,ex.1⟩,λa e2=>?_⟩;cases e2;exact⟨o,e,ex.2.1⟩
  ·obtain⟨o,_,_,_,e,ex,_⟩:=I.hok p _ hk;refine⟨⟨o,e,ex.1⟩,λa e2=>?_⟩;cases e2;exact⟨o,e,ex.2.1⟩
 |_=>exact False.elim ty
def tBM0 (K:Fv)(T:String)(r:V->List V->Hp->VK->Prop)(to:TE):TE:=λσ H Q=>to σ H λx H1=>tyV K T x H1/\r x [] H1 Q
def tBM (K:Fv)(T:String)(r:V->List V->Hp->VK->Prop)(to:TE)(t:TA):TE:=λσ H Q=>to σ H λx H1=>tyV K T x H1/\t σ H1 λxs H2=>r x xs H2 Q
variable {o e:Expr}{es:List Expr}{to:TE}{t:TA}{name:Str}{apos aH:Pos}{T id:String}{r:V->List V->Hp->VK->Prop}
def pe_bm0 (pa:PlainAttrs T) (slot:Slot T name id) (dG:typeOf (.builtin id)=pure (.type "method_descriptor")) (hm:MtR X id r) (ho:PE X o to)
  (bK:attributeBase o name X.env (eval o X.env)=eval o X.env:=by rfl) (bI:(apos.endLine==aH.line)=true:=by rfl):PE X (.Call (.Attribute o name apos) [] [] aH) (tBM0 X.K T r to):=by
 intro pins s σ H Q I h;refine wpAny_Call_method0_late bK bI (thn (ho pins s σ H _ I h) λv s1 ⟨x,H1,I1,r1,ty,q1⟩=>?_);obtain⟨h1,h2⟩:=XF I1 r1 ty;exact⟨T,id,pa,slot,dG,h1,h2,E3 rfl (PySem.evalArgs_none (hm pins s1 σ H1 x [] v [] Q I1 r1 .nil q1))⟩
def pe_bm (pa:PlainAttrs T) (slot:Slot T name id) (dG:typeOf (.builtin id)=pure (.type "method_descriptor")) (hm:MtR X id r) (ho:PE X o to) (ha:PA X (e::es) t)
  (bK:attributeBase o name X.env (eval o X.env)=eval o X.env:=by rfl)
  (iM:((backTo aH (starEach (e::es) X.env)).all (λx=>!x.1)&&(backToKw aH (keywordEach [] X.env)).all (λx=>x.1.isSome)
   && decide ((e::es).length+([]:List Keyword).length+(if ([]:List Keyword).isEmpty then 0 else 1)<30))=true:=by rfl)
  (bI:(apos.endLine==aH.line)=true:=by rfl) (hs:starEach (e::es) X.env=(false,eval e X.env)::starEach es X.env:=by rfl) (dA:(backTo aH (starEach es X.env)).any (·.1)=false:=by rfl):
  PE X (.Call (.Attribute o name apos) (e::es) [] aH) (tBM X.K T r to t):=by
 intro pins s σ H Q I h;refine wpAny_Call_method_late bK iM bI rfl (thn (ho pins s σ H _ I h) λv s1 ⟨x,H1,I1,r1,ty,q1⟩=>?_);obtain⟨h1,h2⟩:=XF I1 r1 ty;refine⟨T,id,pa,slot,dG,h1,h2,?_⟩;have hA:=ha aH pins s1 σ H1 _ I1 q1;rw[hs]at hA ⊢;refine E3 (by show (false || (backTo aH (starEach es X.env)).any (·.1))=false;rw[dA] <;> rfl) (Calls.evalArgs_plain ?_);exact thn hA λus s2 ⟨vs,H2,I2,r2,q2⟩=>hm pins s2 σ H2 x vs v us Q I2 r1 r2 q2
end
def MtM (X:Cx)(id:String)(r:V->List V->Hp->VK->Prop):Prop:=
 ∀(pins:List (Addr×Obj)) (s:Shared) (σ:St) (H:Hp) (x:V) (xs:List V) (v:Value) (us:TF) (Q:VK),Inv X pins σ H s->RelV x v->qh xs us->r x xs H Q ->
  wpAny (model X.prog X.w) X.A (call (.builtin id) (v::us)) (EP X pins σ Q) X.xe s
theorem qh.one:∀{x:V}{us:List Value},qh [x] us->∃u,us=[u]/\RelV x u
 |_,_,.cons r .nil=>⟨_,rfl,r⟩
theorem qh.zero:∀{us:List Value},qh [] us->us=[]
 |_,.nil=>rfl
def qh.dropLast {xs:List V}{us:TF}(h:qh xs us):qh xs.dropLast us.dropLast:=by
 induction h with
 |nil=>exact .nil
 |cons r t ih=>
  cases t with
  |nil=>exact .nil
  |cons q t'=>exact .cons r ih
theorem qh.eraseIdx:∀{xs:List V}{us:List Value}(i:Nat),qh xs us->qh (xs.eraseIdx i) (us.eraseIdx i)
 |_,_,_,.nil=>.nil
 |_,_,0,.cons _ t=>t
 |_,_,i+1,.cons r t=>.cons r (qh.eraseIdx i t)
theorem qh.rep {xs:List V}{us:List Value}(h:qh xs us):∀k:Nat,qh (List.replicate k xs).flatten (List.replicate k us).flatten
 |0=>.nil
 |k+1=>by rw[CY,CY,ER,ER];exact qh.append h (qh.rep h k)
def xp {α:Type}(l:List α):l.eraseIdx (l.length-1)=l.dropLast:=by
 induction l with
 |nil=>rfl
 |cons a r ih=>
  cases r with
  |nil=>rfl
  |cons b r=>
   have e:(a::b::r).length-1=((b::r).length-1)+1:=by have h1:(a::b::r).length=r.length+2:=rfl;have h2:(b::r).length=r.length+1:=rfl;lia
   rw[e,List.eraseIdx_cons_succ,ih]
   all_goals rfl
theorem W4 {α:Type}:∀(l:List α) (i:Nat),(l.eraseIdx i).length<=l.length
 | [],_=>AI _
 |_::_,0=>DJ _
 |_::r,i+1=>Du (W4 r i)
def W5 (its:TF):∀(k:Nat) (acc:TF),
  List.foldl (λx1 x2=>x1++x2) acc.toArray (List.replicate k its.toArray)=(acc++(List.replicate k its).flatten).toArray
 |0,acc=>by simp
 |k+1,acc=>by
  have e:acc.toArray++its.toArray=(acc++its).toArray:=by simp
  have e2:(acc++its)++(List.replicate k its).flatten=acc++(List.replicate (k+1) its).flatten:=by rw[CY,ER,A8]
  rw[<- e2,<- W5 its k (acc++its),<- e,CY,CV]
section
variable {X:Cx}{pins:List (Addr×Obj)}{σ:St}{H:Hp}{s:Shared}{l b:Addr}{xs ys zs:List V}
def Inv.lset {its its':TF}{n:Nat}{f:Array Value->Array Value}{t':Nat}(I:Inv X pins σ H s)(hH:H l=some (.lst xs))
  (e:s.heap.get? l=some {cls:=.type "list",data:=.seq its.toArray n}) (hf:f its.toArray=its'.toArray) (hv:qh ys its') (hz:ys.length<=sizeLine):
  Inv X pins σ (upd H l (.lst ys)) {s with heap:=s.heap.update l (Obj.mapSeq f),toks:=t'}:=by
 have q:=PySem.IsL.update e f;rw[hf]at q;refine I.write (x:=l) (e:=l) (by rw[hH];exact trivial) (.inl rfl) (λb' u hb hu=>(BE s.heap (Obj.mapSeq f) (An hb)).trans hu) ⟨_,q⟩ ?_;exact⟨hz,its',_,hv,q⟩
def Inv.lnew {its:TF}{t':Nat}(I:Inv X pins σ H s)(hv:qh ys its)(hz:ys.length<=sizeLine):
  Inv X pins σ (upd H s.heap.objs.size (.lst ys)) {s with heap:=s.heap.push {cls:=.type "list",data:=.seq its.toArray},toks:=t'}:=
 I.laid (λ_ _ q=>AE _ q) (AI _) ⟨hz,its,0,hv,AQ _ rfl⟩
def Inv.fresh (I:Inv X pins σ H s):H s.heap.objs.size=none:=I.hok.fresh (AI _)
def Inv.lstM (I:Inv X pins σ H s) (hH:H l=some (.lst xs)):xs.length<=sizeLine/\∃(its:TF) (n:Nat),qh xs its/\xs.length=its.length/\s.heap.get? l=some {cls:=.type "list",data:=.seq its.toArray n}:=by obtain⟨z,its,n,r,e⟩:=I.hok l _ hH;exact⟨z,its,n,r,r.length,e⟩
def notLongL {n:Nat}(h:n<=sizeLine):Builtin.List.listTooLong n=false:=by unfold Builtin.List.listTooLong;exact Ag ⋯
end
section
variable {X:Cx}
def rAppend:V->List V->Hp->VK->Prop:=λx vs H Q=>∃l xs y,x=.ref l/\vs=[y]/\H l=some (.lst xs)/\xs.length<sizeLine/\Q .non (upd H l (.lst (xs++[y])))
def qP:MtM X "list.append" rAppend:=by intro pins s σ H x vs v us Q I rx rv h;obtain⟨l,xs,y,rfl,rfl,hH,hz,q⟩:=h;cases rx;obtain⟨u,rfl,ru⟩:=rv.one;obtain⟨z,its,n,r,hl,e⟩:=I.lstM hH;refine Cg F.slot_list_append ⟨_,e,O⟩ F.entry_list_append (F.args_list_append_2 _ _) (PySem.list_append l its.toArray n u (by rw[Ao];lia)) ⟨e,?_⟩;refine⟨.non,_,I.lset (its':=its++[u]) hH e (by simp) (r.append (.cons ru .nil)) ?_,O,q⟩;rw[AJ,List.length_singleton];lia
def rExtend:V->List V->Hp->VK->Prop:=λx vs H Q=>∃l b xs zs,x=.ref l/\vs=[.ref b]/\H l=some (.lst xs)/\H b=some (.lst zs)/\xs.length+zs.length<=sizeLine/\Q .non (upd H l (.lst (xs++zs)))
def Zc:MtM X "list.extend" rExtend:=by
 intro pins s σ H x vs v us Q I rx rv h;obtain⟨l,b,xs,zs,rfl,rfl,hH,hB,hz,q⟩:=h;cases rx;obtain⟨u,rfl,ru⟩:=rv.one;cases ru;obtain⟨z,its,n,r,hl,e⟩:=I.lstM hH;obtain⟨z2,bO,n2,r2,iH,e2⟩:=I.lstM hB;have hsz:its.toArray.size+bO.toArray.size<=sizeLine:=by rw[Ao,Ao];lia
 have mL:¬(!its.toArray.isEmpty&&Builtin.List.listTooLong (its.toArray.size+bO.toArray.size))=true:=by rw[notLongL hsz,Bool.and_false];exact AV
 refine Cg F.slot_list_extend ⟨_,e,O⟩ F.entry_list_extend (F.args_list_extend_2 _ _)
  (AutoSeq1.list_extend_list_list_0 l its.toArray n b bO.toArray n2 mL (by rw[Ao];lia) ⋯) ⟨e,e2,?_⟩
 refine⟨.non,_,I.lset (its':=its++bO) hH e (by simp) (r.append r2) ?_,O,q⟩;rw[AJ];lia
def rPop:V->List V->Hp->VK->Prop:=λx vs H Q=>∃l xs y,x=.ref l/\vs=[]/\H l=some (.lst xs)/\xs[xs.length-1]?=some y/\Q y (upd H l (.lst xs.dropLast))
def mt_pop:MtM X "list.pop" rPop:=by
 intro pins s σ H x vs v us Q I rx rv h;obtain⟨l,xs,y,rfl,rfl,hH,hy,q⟩:=h;cases rx;have ig:=rv.zero;subst ig;obtain⟨z,its,n,r,hl,e⟩:=I.lstM hH;obtain⟨u,hu,ru⟩:=r.get hy;have oQ:its.toArray[its.toArray.size-1]?=some u:=by show its.toArray[its.length-1]?=some u;rw[<- AY,<- hl];exact hu
 refine Cg F.slot_list_pop ⟨_,e,O⟩ F.entry_list_pop (F.args_list_pop_1 _) (MeetsSeq.list_pop_last l its.toArray n u oQ (by rw[Ao];lia)) ⟨e,?_⟩;refine⟨y,_,I.lset (its':=its.dropLast) hH e ?_ r.dropLast ?_,ru,q⟩
 ·show its.toArray.eraseIdxIfInBounds (its.toArray.size-1)=its.dropLast.toArray;rw[Ao,FX,xp]
 ·rw[Ex];lia
def rPopAt:V->List V->Hp->VK->Prop:=λx vs H Q=>∃l xs i k y,x=.ref l/\vs=[.int i]/\H l=some (.lst xs) /\ -(2^63)<=i/\i<2^63/\seqIndex? i xs.length=some k/\xs[k]?=some y/\Q y (upd H l (.lst (xs.eraseIdx k)))
def mt_popAt:MtM X "list.pop" rPopAt:=by
 intro pins s σ H x vs v us Q I rx rv h;obtain⟨l,xs,i,k,y,rfl,rfl,hH,h1,h2,hk,hy,q⟩:=h;cases rx;obtain⟨u,rfl,ru⟩:=rv.one;obtain⟨t,rfl⟩:=ru;obtain⟨z,its,n,r,hl,e⟩:=I.lstM hH;obtain⟨w,hw,du⟩:=r.get hy;refine Cg F.slot_list_pop ⟨_,e,O⟩ F.entry_list_pop (F.args_list_pop_2 _ _)
  (MeetsSeq.list_pop_at l its.toArray n i t k w (fitsIndex_both h1 h2) (by rw[Ao,<- hl];exact hk) (by rw[<- AY];exact hw) (by rw[Ao];lia)) ⟨e,?_⟩
 refine⟨y,_,I.lset (its':=its.eraseIdx k) hH e ?_ (r.eraseIdx k) ?_,du,q⟩
 ·show its.toArray.eraseIdxIfInBounds k=(its.eraseIdx k).toArray;rw[FX]
 ·have:=W4 xs k;lia
def rCat:R2:=λx y H Q=>∃l b xs zs,x=.ref l/\y=.ref b/\H l=some (.lst xs)/\H b=some (.lst zs)/\xs.length+zs.length<=sizeLine/\∀p,H p=none->Q (.ref p) (upd H p (.lst (xs++zs)))
def XG:OpR X (binaryOp .Add) rCat:=by
 intro pins s σ H x y v u Q I rx ry h;obtain⟨l,b,xs,zs,rfl,rfl,hH,hB,hz,q⟩:=h;cases rx;cases ry;obtain⟨z,its,n,r,hl,e⟩:=I.lstM hH;obtain⟨z2,bO,n2,r2,iH,e2⟩:=I.lstM hB;refine PySem.P.add_list e e2 ?_ (by rw[Ao,Ao];lia);have ea:its.toArray++bO.toArray=(its++bO).toArray:=by simp
 rw[ea];exact⟨.ref _,_,I.lnew (t':=s.toks) (r.append r2) (by rw[AJ];lia),O,q _ I.fresh⟩
def len_rep {α:Type}(xs:List α)(k:Nat):(List.replicate k xs).flatten.length=k*xs.length:=by
 induction k with
 |zero=>simp
 |succ k ih=>rw[CY,ER,AJ,ih,Cj,Nat.add_comm]
end
end L2
namespace Att
open PySem PySem.W PySem.Calls PyProof.Rows
def ints_of_wellAll {P:Params}{h:Heap}:∀(ns:List Int) (vs:TF),WellAll P h vs (ns.map WData.int)->IntsAre vs ns:=by
 intro ns
 induction ns with
 |nil=>intro vs w;rw[Ei]at w;cases w;exact .nil
 |cons n ns ih=>
  intro vs w;rw[Af]at w;cases w with
  |cons a b=>cases a;exact .cons _ _ (ih _ b)
def script_of {l:OpenLaw}{n:Nat}(hn:l.most=some n){P:Params}{h:Heap}{args:List WData}{vals:TF}
  (fE:l.row.toRowW.claim.pre args=true)(rS:WellAll P h vals args):
  ∃a vs ns,vals=[Value.ref a]/\args=[WData.list (ns.map WData.int)]/\h.get? a=some {cls:=.type "list",data:=.seq vs.toArray}/\IntsAre vs ns/\ns.length<=n:=by
 have KN:WShape.hasAll [] args [.list .int]=true:=(pre_splitW fE).1;have hc:l.pre.holds [] {args:=args} = true:=(pre_splitW fE).2;obtain⟨d,r,rfl,h1,h2⟩:=hasAllW_cons KN;obtain rfl:=hasAllW_nil h2;obtain⟨xs,rfl,h3⟩:=hasW_list h1;obtain⟨ns,rfl⟩:=items_int h3;have hlen:ns.length<=n:=by
  unfold OpenLaw.pre at hc;have h4:(WTm.not (.lt (.lit (.int (n:Int))) (.len (.arg 0)))).holds [] {args:=[.list (ns.map .int)]} = true:=by have h4:=(holds_andW hc).1;rw[hn]at h4;exact h4
  have h5:=condW_of h4 (w_not (w_lt w_lit (w_len_list (w_arg rfl))));rw[AB]at h5;refine Nat.le_of_not_lt λq=>?_;have q':(n:Int)<((ns.length:Nat):Int):=⋯
  first
   | (rw[Am q']at h5;exact absurd h5 ∅)
   | (simp at h5;lia)
 cases rS with
 |cons w1 w2=>
  cases w2;cases w1 with
  |list ho dD=>exact⟨_,_,ns,O,O,ho,ints_of_wellAll ns _ dD,hlen⟩
def post_true (l:OpenLaw)(args:List WData):l.row.toRowW.claim.post args (.bool true) args=true:=
 postW_of (r:=l.row.toRowW) (X:=(true==true))
  (show WShape.has [] (.bool true) .bool=true by first|rfl|decide|simp[WShape.has,WShape.arms,WShape.armsAll])
  (show (WTm.eq .res (.lit (.bool true))).value [] {args:=args,res:=some (.bool true),after:=args} = some (.bool (true==true)) from w_eq_bool (w_res rfl) w_lit) rfl
def attach_call {l:OpenLaw}{n:Nat}{q:Program}{loose:TJ}{XP:(Str->Option Value)->Heap->Prop}{YP:World->Heap->Prop}{d:DefRec}
  (hn:l.most=some n)(ng:d.params.defaults=[])
  (call:∀(w:World) (s₀ ag:Shared) (mg mb:Str->Option Value) (fa:Addr) (o:Obj) (pm cd doc:Value) (a:Addr) (vs:TF) (ns:List Int),
   Ground q loose [] XP w s₀ mg mb ag.heap->YP w ag.heap ->
   ag.heap.get? fa=some o->o.data=.func (docDef d.name d.params d.body d.scope pm cd doc)->ag.heap.CodeRec cd d.name->mg d.name=some (.ref fa) ->
   ag.heap.get? a=some {cls:=.type "list",data:=.seq vs.toArray}->IntsAre vs ns->ns.length<=n->ag.gens = #[] ->
   codeAny (model l.prog w) callerA (.call (.ref fa) ⟨[.ref a],[]⟩) (λr s'=>r=.ok (.ret (.bool true))/\OldK ag.heap s'.heap/\s'.os=ag.os/\AllBare s'.gens) ag):
  WalkO q loose XP YP l.row.toRowW d [] (λf vs=>PySem.call f vs):=by
 intro w s₀ ag mg mb G Y fa o pm cd doc dV kV ho hd bJ hD hmg hg args vals as fE K3 oX rS hlo;obtain rfl:dV=.none:=Dflts.none hD ng;obtain rfl:kV=.none:=Dflts.noKw hD;obtain⟨a,vs,ns,rfl,rfl,iD,hints,hlen⟩:=script_of hn fE rS;refine enter_call (D8 (call w s₀ ag mg mb fa o pm cd doc a vs ns G Y ho (fd_plain hd) bJ hmg iD hints hlen hg) λr s' hq=>?_);obtain⟨rfl,h2,h3,h4⟩:=hq;exact⟨.inl ⟨.bool true,.bool true,[],rfl,λ_=>rfl,.bool true,post_true l _,λ_=>⟨List.Pairwise.nil,λ_ hm=>(nomatch hm)⟩⟩,h2,h3,h4⟩
end Att
namespace L2
open PySem PySem.Spec PyProof.Rows
theorem W6:∀{vs:List Value}{ns:List Int},IntsAre vs ns->qh (ns.map V.int) vs
 |_,_,.nil=>.nil
 |_,_,.cons n t h=>.cons ⟨t,rfl⟩ (W6 h)
def Only (H:Hp):Prop:=∀b,H b=none\/∃o xs,H b=some (.frz o (.lst xs))
def law_call {P:Program}{w:World}{K:Fv}{mg mb:Str->Option Value}{CX:CXT}{k:Nat}{fa a:Addr}{fd:FuncData}{x:Str}{sp:Sp}{ag:Shared}{vs:TF}{ns:List Int}
  (KX:K.In ag.heap) (vX:ag.heap.Ns mainGlobals mg) (hb:ag.heap.Ns builtinsNs mb) (Lv:∀x:Str,x ≠ "__name__" -> mb x=bootBuiltins x) (sV:ag.heap.NoLimit) (hg:ag.gens = #[])
  (ha:ag.heap.get? a=some {cls:=.type "list",data:=.seq vs.toArray}) (hi:IntsAre vs ns) (hl:ns.length<=sizeLine) (hr:ZP k callerA)
  (F:∀base:Heap,K.In base->base.Ns mainGlobals mg->jo P w K mg base CX k fa fd [x] sp) (nu:∀(s:Shared) (u:Value),BindsTo s fd ⟨[u],[]⟩ [(x,u)])
  (fi:∀H:Hp,Only H->SqL K H a (ns.map V.int)->sp [.ref a] H (λv _=>v=.bl true) λ_ _ _=>False)
  (ur:∀H e s',CX [] H ag (λ_ _ _=>False) e s'->False):
  codeAny (model P w) callerA (.call (.ref fa) ⟨[.ref a],[]⟩) (λr s'=>r=.ok (.ret (.bool true))/\OldK ag.heap s'.heap/\s'.os=ag.os/\AllBare s'.gens) ag:=by
 have rv:=W6 hi;have rE:=hi.length;have core:∀H:Hp,Only H->SqL K H a (ns.map V.int)->HOk P w H ag.heap->(∀b,H b≠none->b=a)->(H a≠none->K.lookup a=none) ->
   codeAny (model P w) callerA (.call (.ref fa) ⟨[.ref a],[]⟩) (λr s'=>r=.ok (.ret (.bool true))/\OldK ag.heap s'.heap/\s'.os=ag.os/\AllBare s'.gens) ag:=by
  intro H hO hS hok hA hK;have dI:∀{b:Addr} {o:Obj},ag.heap.get? b=some o->H b=none->(hidT ag.heap H).get? b=some o:=λe n=>hidT_get e n;have lx:∀{b:Addr} {o:Obj} {es:Array DictEntry} {ep:Nat},ag.heap.get? b=some o->o.data=.dict es ep->H b=none:=λ{b o es ep} e d=>by
   cases q:H b with
   |none=>rfl
   |some u=>have e':b=a:=hA b (by rw[q];simp);subst e';rw[ha]at e;cases e;have d':Data.seq vs.toArray _=Data.dict es ep:=d;cases d'
  have oF:∀{b:Addr} {m:Str->Option Value},ag.heap.Ns b m->(hidT ag.heap H).Ns b m:=λ{b m} ⟨o,es,ep,e,d,r⟩=>⟨o,es,ep,dI e (lx e d),d,r⟩
  have Hd:K.In (hidT ag.heap H):=λb o e=>dI (KX b o e) (by
   cases q:H b with
   |none=>rfl
   |some u=>have e':b=a:=hA b (by rw[q];simp);subst e';rw[hK (by rw[q];simp)]at e;cases e)
  have hM:Mod K mg (hidT ag.heap H):=⟨Hd,oF vX,⟨mb,oF hb,Lv⟩,let ⟨mc,h1,h2⟩:=sV;⟨mc,oF h1,h2⟩⟩
  have e0:Env0 P w K mg (hidT ag.heap H) callerA [] ag H:=⟨rfl,hM,λb o e=>of_hidT e,Eg (Xm _ _),trivial,λb hb=>absurd (show b∈([]:List Addr) from hb) (by simp),hok,.of_eq hg⟩
  refine D8 ((F _ Hd (oF vX)).run callerA [] ag H ⟨[.ref a],[]⟩ [.ref a] [.ref a] _ _ hr e0 (nu ag (.ref a)) (.cons rfl .nil) (fi H hO hS)) λr s' h=>?_;cases r with
  |error e=>exact (ur H e s' h).elim
  |ok fl=>
   cases fl with
   |next=>exact False.elim h
   |brk=>exact False.elim h
   |cont=>exact False.elim h
   |ret u=>
    obtain⟨v,H',os,bare,un,sI,r',q⟩:=h;have q':v=.bl true:=q;subst q';obtain rfl:u=Value.bool true:=r';refine⟨O,OldK.of_keep λb o e=>?_,os,bare⟩;cases q:H b with
    |none=>exact un.keep b o e q (by intro z;exact absurd (show b∈([]:List Addr) from z) (by simp)) (by simp)
    |some u=>
     rcases hO b with z|⟨ob,xs,z⟩
     ·rw[q]at z;cases z
     ·have z2:=un.frzs b ob _ z;obtain⟨e1,_⟩:=hok b _ z;obtain⟨e2,_⟩:=sI b _ z2;rw[e]at e1;cases e1;exact e2
 cases hk:K.lookup a with
 |some o=>have e:=KX a o hk;rw[ha]at e;cases e;refine core (λ_=>none) (λ_=>.inl rfl) (.inr ⟨_,vs.toArray,_,hk,O,O,O,by rw[Ao,rE];exact hl,by simpa using rv⟩) (λb u z=>by have z':(none:Option HO)=some u:=z;cases z') (λb z=>absurd rfl z) λz=>absurd rfl z
 |none=>
  refine core (λb=>if b=a then some (.frz {cls:=.type "list",data:=.seq vs.toArray} (.lst (ns.map V.int))) else none) (λb=>?_) (.inl (.inr ⟨{cls:=.type "list",data:=.seq vs.toArray},if_pos rfl⟩)) (λb u z=>?_) (λb z=>?_) λ_=>hk
  ·by_cases hb:b=a
   ·exact .inr ⟨_,_,if_pos hb⟩
   ·exact .inl (if_neg hb)
  ·by_cases hb:b=a
   ·have z':=(if_pos hb).symm.trans z;cases z';subst hb;exact⟨ha,by rw[AB];exact hl,vs,_,rv,ha⟩
   ·have z':=(if_neg hb).symm.trans z;cases z'
  ·by_cases hb:b=a
   ·exact hb
   ·exact absurd (if_neg hb) z
def XH {l:PySem.W.OpenLaw}{n k:Nat}{q:Program}{loose:TJ}{XP:(Str->Option Value)->Heap->Prop}{YP:World->Heap->Prop}{d:DefRec}{K:Params->Fv}{CX:World->CXT}{sp:World->Sp}{x:Str}
  (hn:l.most=some n)(KY:n<=sizeLine)(ng:d.params.defaults=[])(hr:ZP k callerA)
  (hY:∀(w:World) (h:Heap),YP w h->(K w.params).In h)
  (F:∀(w:World) (mg:Str->Option Value) (fa:Addr) (h:Heap),(K w.params).In h->h.Ns mainGlobals mg->mg d.name=some (.ref fa) ->
   ∃fd:FuncData,(∀(s:Shared) (u:Value),BindsTo s fd ⟨[u],[]⟩ [(x,u)]) /\
    ∀base:Heap,(K w.params).In base->base.Ns mainGlobals mg->jo l.prog w (K w.params) mg base (CX w) k fa fd [x] (sp w))
  (fi:∀(w:World) (H:Hp) (a:Addr) (ns:List Int),ns.length<=n->Only H->SqL (K w.params) H a (ns.map V.int)->sp w [.ref a] H (λv _=>v=.bl true) λ_ _ _=>False)
  (ur:∀(w:World) (H:Hp) (s:Shared) (e:Value) (s':Shared),CX w [] H s (λ_ _ _=>False) e s'->False):
  PySem.W.WalkO q loose XP YP l.row.toRowW d [] (λf vs=>PySem.call f vs):=by
 refine Att.attach_call hn ng λw s₀ ag mg mb fa o pm cd doc a vs ns G Y ho hd bJ hmg iD hints hlen hg=>?_;have KX:=hY w _ Y;obtain⟨fd,hb,hF⟩:=F w mg fa _ KX G.T.g hmg;exact law_call KX G.T.g G.T.b G.T.builtins G.T.nolimit hg iD hints (Ar hlen KY) hr hF hb (λH hO hS=>fi w H a ns hlen hO hS) λH e s'=>ur w H ag e s'
end L2
namespace L2
open PySem PySem.Spec PyProof.Rows
def Zh (s:Stmt):Arguments:=match s with
 |.FunctionDef _ a _ _ _ _ _ _ _ _=>a
 |_=>{posonlyargs:=[],args:=[],vararg:=none,kwonlyargs:=[],kw_defaults:=[],kwarg:=none,defaults:=[]}
def jG (s:Stmt):List Stmt:=match s with
 |.FunctionDef _ _ b _ _ _ _ _ _ _=>b
 |_=>[]
def zm (s:Stmt):Scope:=match s with
 |.FunctionDef _ _ _ _ _ _ sc _ _ _=>sc
 |_=>{kind:=.function,names:=[],isGenerator:=false,isCoroutine:=false}
abbrev CX0:CXT:=λ_ _ _ _ _ _=>False
abbrev E0:XK:=λ_ _ _=>False
def pass0 {X:Cx}:WX CX0 X E0:=λ_ _ _ _ _ _ _ h=>h.elim
structure Fun (K:Fv)(x qual:Str)(st:Stmt)(f:Addr)(fd:FuncData):Prop where
 ex:∃(oc:Value) (od:Option Addr) (kV doc pm:Value) (an:Option Addr) (aC ct:Value) (eM:Array (Option Value)),
  fd=PySem.W.fnOf x qual (Zh st) (jG st) (zm st) .none kV doc pm an aC ct/\K.lookup f=some ⟨oc,od,.func fd,eM⟩/\PySem.W.codeIn K aC qual=true
 kp:PySem.W.keepIn K (.ref f)=true
section
variable {P:Program}{w:World}{K:Fv}{mg:Str->Option Value}{base:Heap}
def Fun.ok {x qual:Str}{st:Stmt}{f:Addr}{fd:FuncData}{N ps:TJ}{k:Nat}{sp:Sp}(F:Fun K x qual st f fd)(S:zD N ps (zm st))(len:∀vs H Q E,sp vs H Q E->vs.length=ps.length)
  (cX:∀(aC:Value) (A:Around) (outer:List Env) (s:Shared) (H:Hp) (vs:List V) (Q:VK) (E:XK),ZP k (A.deeper (envOfC qual (zm st) s.heap.objs.size f aC))->sp vs H Q E ->
   ∃t,PSs (Xh CX0 P w K mg base N qual (zm st) f aC A outer s H E).nox (jG st) t/\t {nx:=λ_ H'=>Q .non H',rt:=Q} (start N vs) H):jo P w K mg base CX0 (k+1) f fd ps sp:=by
 obtain⟨oc,od,kV,doc,pm,an,aC,ct,eM,rfl,lk,bJ⟩:=F.ex;refine fn_of lk bJ S len λA outer s H vs Q E hr fi=>?_;obtain⟨t,h,q⟩:=cX aC A outer s H vs Q E hr fi;exact⟨t,h.nox,q⟩
def Fun.binds {x qual:Str}{st:Stmt}{f:Addr}{fd:FuncData}{ps:TJ}(F:Fun K x qual st f fd)
  (h:∀(kV doc pm:Value) (an:Option Addr) (aC ct:Value) (us:TF),us.length=ps.length->bindArgs (PySem.W.fnOf x qual (Zh st) (jG st) (zm st) .none kV doc pm an aC ct) ⟨us,[]⟩=pure (ps.zip us)):Binds K fd ps []:=by
 obtain⟨oc,od,kV,doc,pm,an,aC,ct,eM,rfl,lk,bJ⟩:=F.ex;exact .all (h kV doc pm an aC ct)
def fun_mk {x qual:Str}{st:Stmt}{f:Addr}{oc:Value}{od an:Option Addr}{eM:Array (Option Value)}{kV doc pm aC ct:Value}(l:K.lookup f=some ⟨oc,od,.func (PySem.W.fnOf x qual (Zh st) (jG st) (zm st) .none kV doc pm an aC ct),eM⟩)
  (c:PySem.W.codeIn K aC qual=true)(k:PySem.W.keepIn K (.ref f)=true):Fun K x qual st f (PySem.W.fnOf x qual (Zh st) (jG st) (zm st) .none kV doc pm an aC ct):=⟨⟨oc,od,kV,doc,pm,an,aC,ct,eM,rfl,l,c⟩,k⟩
end
def hu_of {A:Around}{k:Nat}(hr:ZP k A):A.units+1<cLine:=Da (Nat.add_le_add_left (by decide:1<=64) _) hr.units
def zt {n:Nat}(h:n<=1000):n<sizeLine:=Da h ∅
def pgl {X:Cx}(i:Nat)(x:Str)(pos:Pos)(hN:X.N.Nodup)(hi:X.N[i]?=some x)(hl:X.env.scope.names.lookup x=some .local):PG X (.Name x pos) (qN i):=Qz hN hi (.inl hl) (.inr hl)
def vOk (n:List (Str×NameKind)) (x:Str):Bool:=(match n.lookup x with|some .local=>true|some .cell=>true|some .free=>true|_=>false)&&(!(x==("__debug__" : Str)) && !(x==("__classdict__" : Str)))
def pw {X:Cx}(i:Nat)(x:Str)(pos:Pos)(hN:X.N[i]?=some x)(h:vOk X.env.scope.names x=true):PE X (.Name x pos) (tVar i):=by
 unfold vOk at h;rw[Bv,Bv,Bool.not_eq_true',Bool.not_eq_true']at h;refine pe_var hN ?_ h.2.1 h.2.2;cases e:X.env.scope.names.lookup x with
 |none=>rw[e]at h;cases h.1
 |some k=>cases k <;> first|exact .inl e|exact .inr (.inl e)|exact .inr (.inr e)|(rw[e]at h;cases h.1)
section
variable {X:Cx}
theorem pv (i:Nat) {x:Str}{pos:Pos}(hN:X.N[i]?=some x:=by rfl) (hv:Vis X.env.scope x:=by first|exact Or.inl rfl|exact Or.inr (Or.inl rfl)|exact Or.inr (Or.inr rfl)) (hd:(x==("__debug__" : Str))=false:=by decide)
  (bJ:(x==("__classdict__" : Str))=false:=by decide):PE X (.Name x pos) (tVar i):=pe_var hN hv hd bJ
end
def iteF {A B:Prop}(h:B):if false=true then A else B:=by rw[if_neg AV];exact h
def iteT {A B:Prop}(h:A):if true=true then A else B:=by rw[if_pos rfl];exact h
def ww {c A B:Prop}[Decidable c] (h1:c->A)(h2:¬c->B):if c then A else B:=by
 by_cases h:c
 ·rw[if_pos h];exact h1 h
 ·rw[if_neg h];exact h2 h
def zH (H H':Hp):Prop:=∀b o,H b=some o->H' b=some o
def zH.refl (H:Hp):zH H H:=λ_ _ h=>h
def zH.trans {H H1 H2:Hp}(a:zH H H1)(b:zH H1 H2):zH H H2:=λc o h=>b c o (a c o h)
def zH.free {H H':Hp}(e:zH H H'){l:Addr}(h:H' l=Option.none):H l=Option.none:=by
 cases q:H l with
 |none=>rfl
 |some o=>rw[e l o q]at h;cases h
def zH.seq {K:Fv}{H H':Hp}{a:Addr}{xs:List V}(e:zH H H')(h:SqL K H a xs):SqL K H' a xs:=by
 rcases h with (h|⟨o,h⟩)|h
 ·exact .inl (.inl (e _ _ h))
 ·exact .inl (.inr ⟨o,e _ _ h⟩)
 ·exact .inr h
abbrev NoX:TB:=λ_ _=>False
def wpX {α:Type}{M:Model}{A:Around}{t:Sem α}{Q:α->Shared->Prop}{E:TB}{s:Shared}(h:wpAny M A t Q NoX s):wpAny M A t Q E s:=
 CD h (λ_ _ q=>q) λ_ _ f=>f.elim
def XI (ifs:List Expr)(env:Env):Sem Bool:=
 forIn ifs true λc r=>if r=true then do let ok <- isTrue c env (eval c env);pure (ForInStep.yield ok) else pure (ForInStep.yield r)
def wY {prog:Program}{w:World}{A:Around}{R:Result->Shared->Prop}{s:Shared}{elt tg iter:Expr}{ifs:List Expr}{scope:Scope}{pos:Pos}{it acc:Value}{env:Env}(Iv:Nat->Shared->Prop)
  (turn:∀n s,Iv n s->wpAny (model prog w) A (pyNext it) (λr s1=>match r with
   |none=>R (.ok .next) s1
   |some v=>wpAny (model prog w) A (letOwnedTupleGo tg it v) (λ_ s2=>wpAny (model prog w) A (assign tg env v) (λ_ s3=>wpAny (model prog w) A (XI ifs env) (λok s4=>
      if ok=true then wpAny (model prog w) A (eval elt env) (λx s5=>wpAny (model prog w) A (call (.builtin "list.append") [acc,x]) (λ_ s6=>∃m,m<n/\Iv m s6) NoX s5) NoX s4
      else ∃m,m<n/\Iv m s4) NoX s3) NoX s2) NoX s1) NoX s)
  (n:Nat) (h:Iv n s):codeAny (model prog w) A (.compLoop (.ListComp elt [⟨tg,iter,ifs,0⟩] scope pos) 0 it acc env) R s:=by
 refine codeAny_loop rfl Iv (λn s hI=>?_) n h;show wpAny (model prog w) A ((compTurn (.ListComp elt [⟨tg,iter,ifs,0⟩] scope pos) 0 it acc env).onRaise (λx=>do noteFrame x env;theTreesLotGoes x)) _ _ s;refine wpAny_noted (wpX ?_);rw[compTurn_list];refine AA (wpAny_standAt (AA (thn (turn n s hI) λr s1 h1=>?_)));cases r with
 |none=>exact AF h1
 |some v=>
  refine AA (thn h1 λ_ s2 h2=>AA (thn h2 λ_ s3 h3=>AA (thn h3 λok s4 h4=>?_)));cases ok with
  |false=>exact AF ⟨O,h4⟩
  |true=>exact AA (AA (thn h4 λx s5 h5=>AA (thn h5 λ_ s6 h6=>AF (AF ⟨O,h6⟩))))
def jH (env:Env)(y:Str×NameKind)(cs:List (Str×Addr)):List (Str×Addr):=if (y.2==NameKind.free)=true then (y.1,(env.cells.lookup y.1).getD 0)::cs else cs
def XJ (env:Env)(scope:Scope):List (Str×Addr):=scope.names.foldl (λc y=>jH env y c) []
theorem Jh {α β:Type}{f:α->β->Sem (ForInStep β)}{g:β->α->β}:∀(l:List α) (c:β),(∀x∈l,∀c,f x c=pure (.yield (g c x)))->forIn l c f=pure (l.foldl g c)
 | [],c,_=>rfl
 |x::l,c,h=>by rw[List.forIn_cons,h x A5,pure_bind];exact Jh l (g c x) λy hy=>h y (BD _ hy)
def wx {env:Env}{scope:Scope}(h:∀y∈scope.names,y.2=.free->∃c,env.cells.lookup y.1=some c):closureFor scope env=pure (XJ env scope):=by
 simp only[closureFor];rw[Jh (g:=λc y=>jH env y c) scope.names [] (λy hy c=>?_)]
 ·rfl
 ·obtain⟨n,k⟩:=y;by_cases hk:k=.free
  ·subst hk;obtain⟨a,ha⟩:=h _ hy rfl;have pj:env.cells.lookup n=some a:=ha;simp[jH,cellOf,pj]
  ·have hb:(k==NameKind.free)=false:=by simpa using hk
   simp only[jH,hb,Bool.false_eq_true,if_false]
def QM {env:Env}:∀(ns:List (Str×NameKind)) (cs:List (Str×Addr)),(∀y∈ns,y.2=.free->∃c,env.cells.lookup y.1=some c)->(∀x c,cs.lookup x=some c->env.cells.lookup x=some c) ->
  ∀x c,(ns.foldl (λc y=>jH env y c) cs).lookup x=some c->env.cells.lookup x=some c
 | [],_,_,h=>h
 |y::ns,cs,hf,h=>by
  refine QM ns (jH env y cs) (λz hz=>hf z (BD _ hz)) λx c e=>?_;unfold jH at e;split at e
  ·rename_i hk;have kB:y.2=.free:=by simpa using hk
   obtain⟨a,ha⟩:=hf y A5 kB;rw[Ec]at e;split at e
   ·rename_i hx;have dM:x=y.1:=by simpa using hx
    rw[ha]at e;rw[dM,ha];exact e
   ·exact h x c e
  ·exact h x c e
theorem ZG {env:Env}(x:Str):∀(ns:List (Str×NameKind)) (cs:List (Str×Addr)),((x,NameKind.free)∈ns\/∃c,cs.lookup x=some c)->∃c,(ns.foldl (λc y=>jH env y c) cs).lookup x=some c
 | [],_,h=>by
  rcases h with h|h
  ·exact absurd h (by simp)
  ·exact h
 |y::ns,cs,h=>by
  refine ZG x ns (jH env y cs) ?_
  rcases h with h|⟨c,h⟩
  ·rcases Al.mp h with e|h
   ·subst e;exact .inr ⟨(List.lookup x env.cells).getD 0,by simp[jH]⟩
   ·exact .inl h
  ·refine .inr ?_;unfold jH;split
   ·rw[Ec];split
    ·exact⟨_,O⟩
    ·exact⟨c,h⟩
   ·exact⟨c,h⟩
def relK (env:Env)(n:Str)(k:NameKind):NameKind:=if (k==NameKind.free&&env.scope.kind==.function&&env.kindOf n==some .cell)=true then .cell else k
def relP (env:Env)(y:Str×NameKind):Str×NameKind:=if (y.2==NameKind.free&&env.scope.kind==.function&&env.kindOf y.1==some .cell)=true then (y.1,NameKind.cell) else (y.1,y.2)
def relP_eq (env:Env)(y:Str×NameKind):relP env y=(y.1,relK env y.1 y.2):=by unfold relP relK;split <;> rfl
theorem wy {env:Env}(x:Str):∀ns:List (Str×NameKind),(ns.map (relP env)).lookup x=(ns.lookup x).map (relK env x)
 | []=>rfl
 | (n,k)::r=>by
  have ih:=wy (env:=env) x r;rw[Af,relP_eq,Ec,Ec];cases hx:x==n with
  |true=>
   have e:x=n:=by simpa using hx
   subst e;rfl
  |false=>exact ih
def j6 {env : Env}{scope : Scope}(x : Str) : (relabel scope env).names.lookup x = (scope.names.lookup x).map (relK env x) := wy x scope.names
def XL (N:List Str)(scope:Scope)(p:Option Nat×Str):Bool:=match p.1 with
 |none=>true
 |some j=>decide (N[j]?=some p.2)&&decide (scope.names.lookup p.2=some .free)
structure zC (N:TJ)(sc:Scope)(N':TJ)(ix:List (Option Nat))(scope:Scope):Prop where
 kind:scope.kind=.function
 nocell:∀y∈scope.names,y.2≠.cell
 locs:∀y∈scope.names,y.2=.local->scope.names.lookup y.1=some .local
 frees:∀y∈scope.names,y.2=.free->(sc.names.lookup y.1=some .cell\/sc.names.lookup y.1=some .free)
 nd:N'.Nodup
 len:ix.length=N'.length
 cap:(ix.zip N').all (XL N scope)=true
def ixSt (ix:List (Option Nat))(σ:St):St:=ix.map λo=>o.bind λi=>(σ[i]?).join
def jc (X:Cx)(N':TJ)(scope:Scope)(C:Addr)(fp:List Addr)(s₀:Shared)(H₀:Hp):Cx where
 prog:=X.prog
 w:=X.w
 K:=X.K
 mg:=X.mg
 base:=X.base
 A:=X.A
 N:=N'
 s₀:=s₀
 H₀:=H₀
 env:=compEnvC scope (XJ X.env scope) C X.env
 outer:=X.stack
 stack:=X.stack
 ex:=fp
 fn:=λ_=>false
 calm:=X.calm
 pn:=[]
 xe:=NoX
section
variable {X:Cx}{N':TJ}{ix:List (Option Nat)}{scope:Scope}{pins:List (Addr×Obj)}{σ:St}{H:Hp}{s:Shared}{fp:List Addr}
def zC.has (S:zC X.N X.env.scope N' ix scope)(ok:X.Ok):∀y∈scope.names,y.2=.free->∃c,X.env.cells.lookup y.1=some c:=λy hy hk=>ok.has y.1 (S.frees y hy hk)
def zC.sub (S:zC X.N X.env.scope N' ix scope)(ok:X.Ok):∀x c,(XJ X.env scope).lookup x=some c->X.env.cells.lookup x=some c:=
 QM scope.names [] (S.has ok) λx c e=>by simp at e
def zC.frK (S : zC X.N X.env.scope N' ix scope){x : Str}(h : (relabel scope X.env).names.lookup x = some .cell \/ (relabel scope X.env).names.lookup x = some .free) : scope.names.lookup x = some .free := by
 rw [j6]at h;cases e:scope.names.lookup x with
 |none=>rw[e]at h;simp at h
 |some k=>
  rw[e]at h;cases k with
  |free=>rfl
  |cell=>exact absurd rfl (S.nocell _ (By e))
  | «local»=>simp[relK]at h
  |globalExplicit=>simp[relK]at h
  |globalImplicit=>simp[relK]at h
def xq {h1:Heap}{m:Str->Option Value}{tk:Nat}(S:zC X.N X.env.scope N' ix scope)(I:Inv X pins σ H s)(hf:∀b∈fp,YM X pins H b)(aA:∀b∈fp,b<s.heap.objs.size)
  (ns:h1.Ns s.heap.objs.size m)(kp:∀b o,s.heap.get? b=some o->h1.get? b=some o):
  Inv (jc X N' scope s.heap.objs.size fp s H) [] (ixSt ix σ) H {s with heap:=h1,toks:=tk}:=by
 have sub:=S.sub I.ok;have Hx:∀x c,(XJ X.env scope).lookup x=some c->c<s.heap.objs.size:=λx c e=>by obtain⟨v,q⟩:=I.cell x c (sub x c e);exact q.lt
 refine⟨⟨I.ok.mod,S.kind,I.ok.glob,I.ok.blt,AI _,λx y c h1 h2=>I.ok.inj x y c (sub x c h1) (sub y c h2),λx hx=>?_,λx c z _=>?_,I.ok.hd,I.ok.frames,.inl rfl,λb hb=>⟨?_,λx c e=>?_⟩,I.bs,Ar I.ok.bsz I.sz,λb o e hb=>?_,λb hb z=>?_,I.stack,I.stkFree⟩,
  rfl,I.bare,TQ kp,⟨m,ns,λi x v h1 h2 h3=>?_⟩,λx c e=>?_,I.hok.fresh (AI _),λx c e=>I.freeC x c (sub x c e),λp hp=>absurd (show p∈([]:List (Addr×Obj)) from hp) (by simp),I.hok.kept kp,?_⟩
 ·exact ZG x scope.names [] (.inl (By (S.frK hx)))
 ·exact absurd (show false=true from z) (by simp)
 ·exact AZ (aA b hb)
 ·exact (hf b hb).2.2.2.2.1 x c (sub x c e)
 ·rcases (hf b hb).2.2.2.1 with z|z
  ·exact I.ok.noex b o e z
  ·exact absurd (Ah (AR e) (Ar I.ok.bsz z)) (BA _)
 ·rcases Al.mp (I.stkSub b z) with e|e
  ·exact (hf b hb).2.1 e
  ·exact (hf b hb).2.2.1 e
 ·have hi:i<ix.length:=by have:=(AD.mp h1).1;rw[S.len];exact this
  have e1:ix[i]?=some ix[i]:=AC hi;have fq:(ixSt ix σ)[i]?=some (some v):=h2;rw[ixSt,AG,e1]at fq;have fP:(ix[i].bind λj=>(σ[j]?).join)=some v:=AH fq;cases ej:ix[i] with
  |none=>rw[ej]at fP;cases fP
  |some j=>
   rw[ej]at fP;have pE:(σ[j]?).join=some v:=fP;have hz:(ix[i],x)∈ix.zip N':=by
    have ez:(ix.zip N')[i]?=some (ix[i],x):=by rw[Bb];exact⟨e1,h1⟩
    exact AL ez
   have cq:=BB.mp S.cap _ hz;have uG:(decide (X.N[j]?=some x)&&decide (scope.names.lookup x=some .free))=true:=by unfold XL at cq;simp only[ej]at cq;exact cq
   rw[Bv]at uG;have c1:=A2 uG.1;have c2:=A2 uG.2;have kx:X.env.scope.names.lookup x=some .cell\/X.env.scope.names.lookup x=some .free:=S.frees (x,.free) (By c2) rfl;have hs:σ[j]?=some (some v):=by
    cases q:σ[j]? with
    |none=>rw[q]at pE;cases pE
    |some o=>rw[q]at pE;have:o=some v:=pE;rw[this]
   obtain⟨m0,hn0,sZ⟩:=I.loc;obtain⟨u,ru,lk⟩:=sZ j x v c1 hs (kx.elim (λz=>.inr (.inl z)) λz=>.inr (.inr z));refine⟨u,ru,.inr ⟨?_,?_⟩⟩
   ·show (relabel scope X.env).names.lookup x = some .cell \/ (relabel scope X.env).names.lookup x = some .free;rw [j6, c2];simp only[Option.map_some,relK];split
    ·exact .inl rfl
    ·exact .inr rfl
   ·rcases lk with ⟨k,_⟩|⟨_,c,ec,hc⟩
    ·have k':X.env.scope.names.lookup x=some .local:=k;rw[k']at kx
     rcases kx with z|z <;> cases z
    ·obtain⟨c',Hv⟩:=ZG (env:=X.env) x scope.names [] (.inl (By c2));have:=sub x c' Hv;rw[ec]at this;cases this;exact⟨c,Hv,hc.keeps kp⟩
 ·obtain⟨v,q⟩:=I.cell x c (sub x c e);exact⟨v,q.keeps kp⟩
 ·show (ixSt ix σ).length=N'.length;rw[ixSt,AB,S.len]
def PF (X:Cx)(ifs:List Expr)(t:TT):Prop:=∀(pins:List (Addr×Obj)) (s:Shared) (σ:St) (H:Hp) (Q:Bool->Hp->Prop),Inv X pins σ H s->t σ H Q->wpAny (model X.prog X.w) X.A (XI ifs X.env) (TP X pins σ Q) X.xe s
def tYes:TT:=λ_ H Q=>Q true H
def zP:PF X [] tYes:=λ_ _ _ H _ I h=>wpAny_tests_nil ⟨H,I,h⟩
def wz {c:Expr}{t:TT}(hc:PT X c t):PF X [c] t:=λpins s σ H Q I h=>wpAny_tests_one (hc pins s σ H Q I h)
def jd (J:It)(g:TG)(tt:TT)(te:TE)(az:St)(H1:Hp)(Q:VK)(D:Addr):Prop:=∃W:Nat->Nat->St->Hp->Prop,(∃m,W 0 m az (upd H1 D (.lst [])))/\∀i m af H',W i m af H' ->
 (J.stop i H'/\Q (.ref D) H')\/(J.go i H'/\∀x H2,J.yld i H' x H2->g x af H2 λbR H3=>tt bR H3 λb H4=>
  if b=true then te bR H4 λv H5=>∃xs,H5 D=some (.lst xs)/\xs.length<sizeLine/\∃m',m'<m/\W (i+1) m' bR (upd H5 D (.lst (xs++[v]))) else ∃m',m'<m/\W (i+1) m' bR H4)
def tComp (ix:List (Option Nat))(wi:TI)(g:TG)(tt:TT)(te:TE):TE:=λσ H Q=>wi σ H λJ H1=>∀D,H1 D=none->jd J g tt te (ixSt ix σ) H1 Q D
def wA {elt tg iter:Expr}{ifs:List Expr}{pos:Pos}{g:TG}{tt:TT}{te:TE}{Q:VK}{Z:Value->Addr->Result->Shared->Prop}{it:Addr}{tn:Nat->Heap->Prop}{J:It}
  (S:zC X.N X.env.scope N' ix scope)(hc:X.calm=true)
  (hg:∀C fp s₀ H₀,PG (jc X N' scope C fp s₀ H₀) tg g)(ht:∀C fp s₀ H₀,PF (jc X N' scope C fp s₀ H₀) ifs tt)(he:∀C fp s₀ H₀,PE (jc X N' scope C fp s₀ H₀) elt te)
  (I:Inv X pins σ H s)(T:Turn X.prog X.w X.K tg J fp it tn)(st:tn 0 s.heap)(hf:∀b∈fp,YM X pins H b)
  (h:∀D,H D=none->∃W:Nat->Nat->St->Hp->Prop,(∃m,W 0 m (ixSt ix σ) (upd H D (.lst [])))/\∀i m af H',W i m af H' ->
   (J.stop i H'/\Q (.ref D) H')\/(J.go i H'/\∀x H2,J.yld i H' x H2->g x af H2 λbR H3=>tt bR H3 λb H4=>
    if b=true then te bR H4 λv H5=>∃xs,H5 D=some (.lst xs)/\xs.length<sizeLine/\∃m',m'<m/\W (i+1) m' bR (upd H5 D (.lst (xs++[v]))) else ∃m',m'<m/\W (i+1) m' bR H4))
  (hZ:∀D C H' s' m,Inv X pins σ H' s'->s'.heap.Ns C m->H' C=none->s.heap.objs.size<=C->Q (.ref D) H'->Z (.ref D) C (.ok .next) s'):
  wpAny (model X.prog X.w) X.A (newList []) (λacc s3=>wpAny (model X.prog X.w) X.A (newFunctionEnv scope X.env.globals (XJ X.env scope) [] X.env.qual none .none (some X.env)) (λnS s4=>
   codeAny (model X.prog X.w) X.A (.compStart (.ListComp elt [⟨tg, iter, ifs, 0⟩] scope pos) 0 (.ref it) acc {nS with scope := relabel scope X.env}) (Z acc nS.locals) s4) X.xe s3) X.xe s := by
 refine A3 (wpAny_newFunctionEnv S.nocell (by intro y hy;simp at hy) (λh1 vo u0=>?_) S.kind);have I3:Inv X pins σ (upd H s.heap.objs.size (.lst [])) {s with heap:=s.heap.push {cls:=.type "list",data:=.seq ([]:TF).toArray},toks:=s.toks}:=I.lnew (ys:=[]) (its:=[]) .nil (BC _);generalize hs3:({s with heap:=s.heap.push {cls:=.type "list",data:=.seq ([]:TF).toArray}}:Shared)=s3 at vo u0 ⊢;have I3:Inv X pins σ (upd H s.heap.objs.size (.lst [])) s3:=by rw[<- hs3];exact I3
 have hsz:s3.heap.objs.size=s.heap.objs.size+1:=by rw[<- hs3];exact DX _ _
 have oj:tn 0 s3.heap:=by rw[<- hs3];exact T.keep _ _ _ st λb _ o e=>AE _ e
 have Hz:∀b∈fp,b<s.heap.objs.size:=λb hb=>by obtain⟨o,e,_⟩:=T.obj _ _ st b hb;exact AR e
 have kC:∀b∈fp,YM X pins (upd H s.heap.objs.size (.lst [])) b:=λb hb=>⟨by rw[zJ (AZ (Hz b hb))];exact (hf b hb).1,(hf b hb).2⟩
 obtain⟨W,⟨m0,w0⟩,turn⟩:=h s.heap.objs.size I.fresh;have kp:∀b o,s3.heap.get? b=some o->h1.get? b=some o:=λb o e=>(u0.2 b (AZ (AR e))).trans (AE _ e);have J0:=xq (tk:=s3.toks+([]:List (Str×Value)).length) S I3 kC (λb hb=>by rw[hsz];exact Bi (Hz b hb)) vo kp;have uW:tn 0 h1:=T.keep _ _ _ oj λb _ o e=>kp b o e;have dq:∀{H':Hp} {pl:List (Addr×Obj)},(∀b∈fp,H' b=none)->(∀b∈fp,∀p∈pl,p.1≠b)->∀b∈fp,YM (jc X N' scope s3.heap.objs.size fp s3 (upd H s.heap.objs.size (.lst []))) pl H' b:=λhn hp b hb=>
  ⟨hn b hb,(J0.ok.exf b hb).1,J0.ok.exfs b hb,.inl hb,(J0.ok.exf b hb).2,λp q=>hp b hb p q⟩
 have loop:codeAny (model X.prog X.w) X.A (.compLoop (.ListComp elt [⟨tg,iter,ifs,0⟩] scope pos) 0 (.ref it) (.ref s.heap.objs.size) (jc X N' scope s3.heap.objs.size fp s3 (upd H s.heap.objs.size (.lst []))).env) (Z (.ref s.heap.objs.size) s3.heap.objs.size)
   {s3 with heap:=h1,toks:=s3.toks+([]:List (Str×Value)).length}:=by
  refine wY (λn s'=>∃i af H',Inv (jc X N' scope s3.heap.objs.size fp s3 (upd H s.heap.objs.size (.lst []))) [] af H' s'/\tn i s'.heap/\(∀b∈fp,H' b=none)/\W i n af H') ?_ m0
   ⟨0,_,_,J0,uW,λb hb=>(kC b hb).1,w0⟩
  rintro n s5 ⟨i,nY,H5,I5,ka,pF,w5⟩
  rcases turn i n nY H5 w5 with ⟨stop,q⟩|⟨go,step⟩
  ·refine thn (T.done (jc X N' scope s3.heap.objs.size fp s3 (upd H s.heap.objs.size (.lst []))) rfl rfl rfl hc i [] s5 nY H5 NoX I5 (dq (pl:=[]) pF (λ_ _ p hp=>absurd hp (by simp))) ka stop) λr s6 ⟨hr,I6⟩=>?_;subst hr;have I7:Inv X pins σ H5 s6:=I3.call' (ch:=fp) I6.os I6.base I6.hok I6.bare λb hb=>⟨(kC b hb).2.2.2.1,(kC b hb).2.1,(kC b hb).2.2.2.2.1,(kC b hb).2.2.2.2.2⟩
   obtain⟨m6,n6,_⟩:=I6.loc;exact hZ _ _ H5 s6 m6 I7 n6 I6.free (by rw[hsz];exact DJ _) q
  ·refine thn (T.item (jc X N' scope s3.heap.objs.size fp s3 (upd H s.heap.objs.size (.lst []))) rfl rfl rfl hc i [] s5 nY H5 NoX I5 (dq (pl:=[]) pF (λ_ _ p hp=>absurd hp (by simp))) ka go) λr s6 ⟨u,hr,h6⟩=>?_;subst hr;refine thn h6 λ_ s7 ⟨x,H7,I7,r7,y7,st7,fr7⟩=>?_;have Nk:=I7.pinned (dq (pl:=[]) fr7 (λ_ _ p hp=>absurd hp (by simp))) (T.obj _ _ st7);refine thn (hg _ _ _ _ _ s7 nY H7 x u _ Nk r7 (step x H7 y7)) λ_ s8 ⟨σ8,H8,I8,q8⟩=>?_;refine thn (ht _ _ _ _ _ s8 σ8 H8 _ I8 q8) λb s9 ⟨H9,I9,q9⟩=>?_;have again:∀{af:St} {H':Hp} {s':Shared} {m':Nat},Inv (jc X N' scope s3.heap.objs.size fp s3 (upd H s.heap.objs.size (.lst []))) ([]++WU fp s7.heap) af H' s'->m'<n->W (i+1) m' af H' ->
     ∃m,m<n/\∃i af H',Inv (jc X N' scope s3.heap.objs.size fp s3 (upd H s.heap.objs.size (.lst []))) [] af H' s'/\tn i s'.heap/\(∀b∈fp,H' b=none)/\W i m af H':=λ{af H' s' m'} I' hm w'=>by
    refine⟨m',hm,i+1,af,H',I'.unpinned,T.keep _ _ _ st7 λb hb o e=>(I'.pin (b,o) (Au _ (Au _ (ZO hb e)))).1,λb hb=>?_,w'⟩;obtain⟨o,e,d⟩:=T.obj _ _ st7 b hb;exact (I'.pin (b,o) (Au _ (Au _ (ZO hb e)))).2.1
   cases b with
   |false=>
    obtain⟨m',hm,w'⟩:=(show ∃m',m'<n/\W (i+1) m' σ8 H9 from q9)
    exact again I9 hm w'
   |true=>refine thn (he _ _ _ _ _ s9 σ8 H9 _ I9 q9) λv eI ⟨y,HQ,I10,r10,q10⟩=>?_;obtain⟨xs,hx,hl,m',hm,w'⟩:=q10;refine thn (qP _ eI σ8 HQ (.ref s.heap.objs.size) [y] (.ref s.heap.objs.size) [v] (λ_ H'=>W (i+1) m' σ8 H') I10 rfl (.cons r10 .nil) ⟨_,xs,y,O,O,hx,hl,w'⟩) λ_ rf ⟨_,Nt,I11,_,q11⟩=>?_;exact again I11 hm q11
 exact codeAny_compStart_list loop (T.self _ _ _ _ _ uW loop)
def zF {elt tg iter:Expr}{ifs:List Expr}{pos:Pos}{wi:TI}{g:TG}{tt:TT}{te:TE}(S:zC X.N X.env.scope N' ix scope)(hc:X.calm=true)(hi:PI X tg iter wi)
  (hg:∀C fp s₀ H₀,PG (jc X N' scope C fp s₀ H₀) tg g)(ht:∀C fp s₀ H₀,PF (jc X N' scope C fp s₀ H₀) ifs tt)(he:∀C fp s₀ H₀,PE (jc X N' scope C fp s₀ H₀) elt te)
  (hs:∀x,foldedSetIterable iter X.env x=pure x:=by intro _;rfl):PE X (.ListComp elt [⟨tg,iter,ifs,0⟩] scope pos) (tComp ix wi g tt te):=by
 intro pins s σ H Q I h;rw[eval_ListComp];refine wpAny_comprehension_free (use:=none) rfl hs (wx (S.has I.ok)) S.kind S.locs (thn (hi pins s σ H _ I h) λv s1 h1=>thn h1 λoK s2 h2=>?_);obtain⟨it,fp,tn,J,H2,e,I2,T,kW,f2,q⟩:=h2;subst e;refine wA (Z:=λacc C=>compPost (model X.prog X.w) X.A X.xe none (EP X pins σ Q) acc C) S hc hg ht he I2 T kW f2 q ?_;intro D C H' s' m I' hn hC hz qD;refine⟨m,hn,λh' sb=>?_⟩;have uO:Inv X pins σ H' {s' with heap:=h',toks:=s'.toks}:=I'.turned (it:=C) (λb o hb e=>(sb.2 b hb).trans e) hC (λz=>absurd (Ah I2.lt (by rw[<- z];exact hz)) (BA _))
  (.inr (Ar I2.sz hz)) (λx c e z=>by obtain⟨v,w⟩:=I2.cell x c e;exact absurd (Ah w.lt (by rw[z];exact hz)) (BA _)) (λp hp z=>absurd (Ah (AR (I2.pin p hp).1) (by rw[z];exact hz)) (BA _))
 exact⟨.ref D,H',uO,O,qD⟩
def qp {i:Nat}{y:Str}{py eG:Pos}{elt tg iter:Expr}{ifs:List Expr}{pos:Pos}{wi:TI}{g:TG}{tt:TT}{te:TE}(S:zC X.N X.env.scope N' ix scope)(hc:X.calm=true)(hi:PI X tg iter wi)
  (hg:∀C fp s₀ H₀,PG (jc X N' scope C fp s₀ H₀) tg g)(ht:∀C fp s₀ H₀,PF (jc X N' scope C fp s₀ H₀) ifs tt)(he:∀C fp s₀ H₀,PE (jc X N' scope C fp s₀ H₀) elt te)
  (hN:X.N.Nodup)(hy:X.N[i]?=some y)(hl:X.env.scope.names.lookup y=some .local)(rZ:swapsWith (.ListComp elt [⟨tg,iter,ifs,0⟩] scope pos) (some (.Name y py)) eG.line X.env=pure true)
  (hs:∀x,foldedSetIterable iter X.env x=pure x:=by intro _;rfl):PS X (.Assign [.Name y py] (.ListComp elt [⟨tg,iter,ifs,0⟩] scope pos) eG) (tAsg (tComp ix wi g tt te) (qN i)):=by
 intro pins s σ H D I h;rw[exec_Assign_Name_used _ _ _ _ rZ];refine AA (wpAny_standAt (AA ?_));rw[arm_evalThenUse_ListComp];refine AA (thn (wpAny_comprehension_free (use:=some (assign (.Name y py) X.env)) (Q:=λ_ s'=>SP X pins D .next s') rfl hs (wx (S.has I.ok)) S.kind S.locs
  (thn (hi pins s σ H _ I h) λv s1 h1=>thn h1 λoK s2 h2=>?_)) λ_ s' q=>AF (AF q))
 obtain⟨it,fp,tn,J,H2,e,I2,T,kW,f2,q⟩:=h2;subst e;refine wA (Q:=λx H1=>qN i x σ H1 D.nx) (Z:=λacc C=>compPost (model X.prog X.w) X.A X.xe (some (assign (.Name y py) X.env)) (λ_ s'=>SP X pins D .next s') acc C) S hc hg ht he I2 T kW f2 q ?_;intro Dl C H' s' m I' hn hC hz qD;have d7:C≠X.env.locals:=λz=>absurd (Ah I2.lt (by rw[<- z];exact hz)) (BA _);have gR:∀x c,X.env.cells.lookup x=some c->c≠C:=λx c e z=>by obtain⟨v,w⟩:=I2.cell x c e;exact absurd (Ah w.lt (by rw[z];exact hz)) (BA _)
 show wpAny (model X.prog X.w) X.A (assign (.Name y py) X.env (.ref Dl)) _ X.xe s';refine wpAny_assign_Name (WS I' hN hy (.inl hl) (show RelV (.ref Dl) (.ref Dl) from rfl) (λgN J' ⟨a,sb,ha⟩=>?_) (.inr hl));have na:C≠a:=by
  rcases ha with z|z
  ·rw[z];exact d7
  ·exact An (gR y a z)
 refine⟨m,hn.sameBut sb na,λh' Ir=>?_⟩;have uO:Inv X pins (σ.set i (some (.ref Dl))) H' {gN with heap:=h',toks:=gN.toks}:=J'.turned (it:=C) (λb o hb e=>(Ir.2 b hb).trans e) hC d7 (.inr (Ar I2.sz hz)) gR
  (λp hp z=>absurd (Ah (AR (I2.pin p hp).1) (by rw[z];exact hz)) (BA _))
 exact⟨_,H',uO,qD⟩
end
def bt_abs:bootBuiltins "abs" = some (.builtin "abs"):=∅
def jI:bootBuiltins "len" = some (.builtin "len"):=∅
def bt_all:bootBuiltins "all" = some (.builtin "all"):=∅
def wZ:bootBuiltins "isinstance" = some (.builtin "isinstance"):=∅
def bt_int:bootBuiltins "int" = some (.type "int"):=∅
def bt_str:bootBuiltins "str" = some (.type "str"):=∅
def zG:bootBuiltins "tuple" = some (.type "tuple"):=∅
def ZH:bootBuiltins "list" = some (.type "list"):=∅
def Def (P:Program)(w:World)(K:Fv)(mg:Str->Option Value)(base:Heap)(k:Nat)(x:Str)(ps:TJ)(sp:Sp):Prop:=
 ∃(f:Addr) (fd:FuncData),jo P w K mg base CX0 k f fd ps sp/\mg x=some (.ref f)/\PySem.W.keepIn K (.ref f)=true/\Binds K fd ps []
section
variable {X:Cx}
def zw {k k':Nat}{x:Str}{ps:TJ}{sp:Sp}{e:Expr}{es:List Expr}{t:TA}{p pos:Pos}(D:Def X.prog X.w X.K X.mg X.base k x ps sp)(hr:ZP k' X.A)(hk:k<=k')(hg:Gl X x)(ha:PA X (e::es) t)
  (cU:(x==("__debug__" : Str))=false:=by decide) (he:starEach (e::es) X.env=(false,eval e X.env)::starEach es X.env:=by rfl) (cH:(backTo pos (starEach es X.env)).any (·.1)=false:=by rfl):
  PE X (.Call (.Name x p) (e::es) [] pos) (tCall sp [] E0 t):=by
 obtain⟨f,fd,F,m,kp,b⟩:=D;exact XB F (hr.mono hk) hg m kp b .nil pass0 ha cU he cH
def XM:qU X (.builtin "isinstance") (λxs H Q=>∃x n t b,xs=[x,.ty n]/\YO X.K H x t/\PySem.W.kitOne X.K t (.type n)=some b/\Q (.bl b) H):=by intro pins s σ H xs us Q I r h;obtain⟨x,n,t,b,rfl,ty,e,q⟩:=h;obtain⟨u,w',rfl,r1,r2⟩:=Xv r;cases r2;exact XA I r1 ty e λtk=>⟨.bl b,H,I.tok tk,O,q⟩
def YU {K:Fv}(n:String):PySem.W.kitOne K (.type n) (.type n)=some true:=by simp[PySem.W.kitOne]
def Its (z:Str):It:=⟨λi _=>i<z.cps.size,λi H x H'=>H'=H/\∃c,z.cps[i]?=some c/\x=.str ⟨#[c]⟩,λi _=>z.cps.size<=i⟩
def iStr (tl:TE):TI:=λσ H R=>tl σ H λx H1=>∃z,x=.str z/\R (Its z) H1
def turn_str {P:Program}{w:World}{K:Fv}{tg:Expr}{z:Str}{tk:Tok}{it:Addr}{ty:String}(dG:ty = "str_ascii_iterator" \/ ty = "str_iterator"):
  Turn P w K tg (Its z) [it] it (λi h=>h.IsStrIter it ty z tk i/\i<=z.cps.size) where
 mem:=by simp
 obj:=λi h st b hb=>by
  have e:b=it:=by simpa using hb
  subst e;obtain⟨⟨o,h1,h2,h3⟩,_⟩:=st;exact⟨o,h1,λv q=>by rw[h3]at q;cases q⟩
 keep:=λi h h' st k=>by obtain⟨⟨o,h1,h2⟩,h3⟩:=st;exact⟨⟨o,k it (by simp) o h1,h2⟩,h3⟩
 item:=by
  intro X hP hw hK hc i pins s σ H E I hf st hg;subst hP hw hK;obtain⟨f0,f1,f2,f3,f4,f5⟩:=hf it (by simp);have fin:∀(v:Value) (h':Heap) (tk':Nat),SignAt z i v->h'.IsStrIter it ty z tk (i+1)->(∀b o,b ∉ [it]->s.heap.get? b=some o->h'.get? b=some o) ->
    ∃u,some v=some u/\wpAny (model X.prog X.w) X.A (letOwnedTupleGo tg (.ref it) u) (λ_ s2=>∃x H',Inv X pins σ H' s2/\RelV x u/\(Its z).yld i H x H'/\(s2.heap.IsStrIter it ty z tk (i+1)/\i+1<=z.cps.size)/\∀b∈[it],H' b=none) E {s with heap:=h',toks:=tk'}:=by
   intro v h' tk' hv aQ kk;obtain⟨c,t,Lm,rfl⟩:=hv;have I1:Inv X pins σ H {s with heap:=h',toks:=tk'}:=I.turned (λb o hb e=>kk b o (by simpa using hb) e) f0 f1 f3 f4 f5;obtain⟨o,h1,h2,h3⟩:=id aQ;refine⟨_,O,Xp (s:={s with heap:=h',toks:=tk'}) (n:=ty) h1 h2 h3 ?_ ⟨.str ⟨#[c]⟩,H,I1,⟨t,O⟩,⟨O,c,Lm,O⟩,⟨aQ,hg⟩,λb hb=>(hf b hb).1⟩⟩
   rcases dG with rfl|rfl <;> decide
  rcases dG with rfl|rfl
  ·exact (Walks.strAscii (I.ok.hd hc) it z tk).item i s _ _ hg st.1 λv h' tk' hv aQ kk=>fin v h' tk' hv aQ kk
  ·exact (Walks.strWide (I.ok.hd hc) it z tk).item i s _ _ hg st.1 λv h' tk' hv aQ kk=>fin v h' tk' hv aQ kk
 done:=by
  intro X hP hw hK hc i pins s σ H E I hf st hg;subst hP hw hK;obtain⟨f0,f1,f2,f3,f4,f5⟩:=hf it (by simp);have e:i=z.cps.size:=Fi st.2 hg;subst e
  rcases dG with rfl|rfl
  ·exact (Walks.strAscii (I.ok.hd hc) it z tk).done s _ _ st.1 λh' tk' kk=>⟨O,I.turned (λb o hb e=>kk b o (by simpa using hb) e) f0 f1 f3 f4 f5⟩
  ·exact (Walks.strWide (I.ok.hd hc) it z tk).done s _ _ st.1 λh' tk' kk=>⟨O,I.turned (λb o hb e=>kk b o (by simpa using hb) e) f0 f1 f3 f4 f5⟩
 self:=λA i s Q E st h=>by
  rcases dG with rfl|rfl
  ·exact wpAny_pyIter_striter_ascii st.1 h
  ·exact wpAny_pyIter_striter_wide st.1 h
def pi_str {tg l:Expr}{tl:TE}(hl:PE X l tl):PI X tg l (iStr tl):=by
 intro pins s σ H R I h;refine thn (hl pins s σ H _ I h) λv s1 ⟨x,H1,I1,r1,q1⟩=>?_;obtain⟨z,rfl,q⟩:=q1;obtain⟨t,rfl⟩:=r1;have fin:∀ty:String,ty = "str_ascii_iterator" \/ ty = "str_iterator" -> PIE X pins σ tg R (.ref s1.heap.objs.size) {s1 with heap:=s1.heap.push {cls:=.type ty,data:=.fields #[.str z t,.int 0 0]}}:=λty dG=>by
  refine⟨s1.heap.objs.size,[s1.heap.objs.size],_,_,H1,O,I1.kept (t':=s1.toks) λb o e=>AE _ e,turn_str (z:=z) (tk:=t) dG,⟨⟨_,AQ _ rfl,O,O⟩,BC _⟩,λb hb=>?_,q⟩;have e:b=s1.heap.objs.size:=by simpa using hb
  subst e;exact I1.fpOk (AI _) (I1.hok.fresh (AI _))
 cases ha:z.cps.all (·<128)
 ·exact wpAny_pyIter_wide ha (fin _ (.inr rfl))
 ·exact wpAny_pyIter_ascii ha (fin _ (.inl rfl))
def rSlS:V->Option Int->Option Int->Hp->VK->Prop:=λx lo hi H Q=>∃z,x=.str z/\z.length<=sizeLine/\Q (.str (PySem.Txt.slice z lo hi)) H
def sl_str:SlR X rSlS:=by
 intro pins s σ H x v vl vu lo hi sl Q I rx hs pl pu h;obtain⟨z,rfl,hz,q⟩:=h;obtain⟨t,rfl⟩:=rx;refine⟨"str",_,F.slot_str_getitem.lookup,typeIs_str _ _ _,?_⟩;cases pl with
 |none=>
  cases pu with
  |none=>exact Dr (l:=none) (u:=none) (st:=none) hs rfl (E4 ⟨Ar (EI z _ _) hz,λt' k=>⟨.str _,H,I.tok k,⟨t',O⟩,q⟩⟩)
  |int j uj=>exact Dr (l:=none) (u:=some (j,uj)) (st:=none) hs rfl (E4 ⟨Ar (EI z _ _) hz,λt' k=>⟨.str _,H,I.tok k,⟨t',O⟩,q⟩⟩)
 |int i ui=>
  cases pu with
  |none=>exact Dr (l:=some (i,ui)) (u:=none) (st:=none) hs rfl (E4 ⟨Ar (EI z _ _) hz,λt' k=>⟨.str _,H,I.tok k,⟨t',O⟩,q⟩⟩)
  |int j uj=>exact Dr (l:=some (i,ui)) (u:=some (j,uj)) (st:=none) hs rfl (E4 ⟨Ar (EI z _ _) hz,λt' k=>⟨.str _,H,I.tok k,⟨t',O⟩,q⟩⟩)
def sl_any:SlR X (λx lo hi H Q=>rSlL X.K x lo hi H Q\/(rSlT X.K x lo hi H Q\/rSlS x lo hi H Q)):=sl_list.or (sl_tup.or sl_str)
end
def cW (R:St->Prop)(P:Nat->List V->Hp->Prop)(n:Nat)(D:Addr):Nat->Nat->St->Hp->Prop:=λi m af H=>m=n-i/\i<=n/\R af/\∃ys,P i ys H/\H D=some (.lst ys)
def Xi (R:St->Prop)(P:Nat->List V->Hp->Prop)(n:Nat)(D:Addr)(σ:St)(i:Nat):VK:=λv H5=>∃xs,H5 D=some (.lst xs)/\xs.length<sizeLine/\∃m',m'<n-i/\cW R P n D (i+1) m' σ (upd H5 D (.lst (xs++[v])))
def cNo (R:St->Prop)(P:Nat->List V->Hp->Prop)(n:Nat)(D:Addr)(σ:St)(i:Nat):Hp->Prop:=λH4=>∃m',m'<n-i/\cW R P n D (i+1) m' σ H4
def Zx {R:St->Prop}{P:Nat->List V->Hp->Prop}{n:Nat}{D:Addr}{σ:St}{i:Nat}{ys:List V}{v:V}{H:Hp}(hi:i<n)(r:R σ)(h:H D=some (.lst ys))(hl:ys.length<sizeLine)(p:P (i+1) (ys++[v]) (upd H D (.lst (ys++[v])))):Xi R P n D σ i v H:=
 ⟨ys,h,hl,n-(i+1),⋯,rfl,hi,r,_,p,ze⟩
def cno {R:St->Prop}{P:Nat->List V->Hp->Prop}{n:Nat}{D:Addr}{σ:St}{i:Nat}{ys:List V}{H:Hp}(hi:i<n)(r:R σ)(h:H D=some (.lst ys))(p:P (i+1) ys H):cNo R P n D σ i H:=
 ⟨n-(i+1),⋯,rfl,hi,r,_,p,h⟩
def jU {J:It}{g:TG}{tt:TT}{te:TE}{az:St}{H1:Hp}{Q:VK}{D:Addr}{n:Nat}{xv:Nat->V}{st:Nat->St}(R:St->Prop)(P:Nat->List V->Hp->Prop)(r0:R az)(h0:P 0 [] (upd H1 D (.lst [])))
  (hj:∀i ys H,i<n->P i ys H->H D=some (.lst ys)->J.go i H/\∀x H2,J.yld i H x H2->H2=H/\x=xv i)(he:∀ys H,P n ys H->H D=some (.lst ys)->J.stop n H)
  (hg:∀i ys af H (K:St->Hp->Prop),i<n->R af->P i ys H->K (st i) H->g (xv i) af H K)
  (hs:∀i ys H,i<n->P i ys H->H D=some (.lst ys)->tt (st i) H λb H4=>if b=true then te (st i) H4 (Xi R P n D (st i) i) else cNo R P n D (st i) i H4)
  (hd:∀ys H,P n ys H->H D=some (.lst ys)->Q (.ref D) H):
  jd J g tt te az H1 Q D:=by
 refine⟨cW R P n D,⟨n,by simp[cW,r0];exact⟨_,h0,ze⟩⟩,?_⟩;rintro i m af H' ⟨rfl,hi,r,ys,p,hD⟩;by_cases aA:i<n
 ·obtain⟨g1,g2⟩:=hj i ys H' aA p hD;refine .inr ⟨g1,λx H2 y=>?_⟩;obtain⟨rfl,rfl⟩:=g2 x H2 y;exact hg i ys af H2 _ aA r p (hs i ys H2 aA p hD)
 ·have e:i=n:=⋯;subst e;exact .inl ⟨he ys H' p hD,hd ys H' p hD⟩
def W7 (t:Nat)(az:St):St->Prop:=λaf=>∀v,af.set t v=az.set t v
def XN {t:Nat}{az:St}:W7 t az az:=λ_=>rfl
def qG {t:Nat}{az:St}{x:Option V}:W7 t az (az.set t x):=λv=>by rw[List.set_set]
def zT {t:Nat}{tt:TT}{te:TE}{az:St}{H1:Hp}{Q:VK}{D:Addr}{lo:Int}{n:Nat}(P:Nat->List V->Hp->Prop)(h0:P 0 [] (upd H1 D (.lst [])))
  (hs:∀i ys H,i<n->P i ys H->H D=some (.lst ys)->tt (az.set t (some (.int (lo+i)))) H λb H4=>if b=true then te (az.set t (some (.int (lo+i)))) H4 (Xi (W7 t az) P n D (az.set t (some (.int (lo+i)))) i) else cNo (W7 t az) P n D (az.set t (some (.int (lo+i)))) i H4)
  (hd:∀ys H,P n ys H->H D=some (.lst ys)->Q (.ref D) H):
  jd (Itr lo n) (qN t) tt te az H1 Q D:=
 jU (xv:=λi=>.int (lo+i)) (st:=λi=>az.set t (some (.int (lo+i)))) (W7 t az) P XN h0 (λi _ H hi _ _=>⟨hi,λx H2 y=>y⟩) (λ_ _ _ _=>AI n)
  (λi _ af H K _ r _ k=>by show K (af.set t (some (.int (lo+i)))) H;rw[r];exact k) hs hd
def Zd {K:Fv}{a:Addr}{xs:List V}{t:Nat}{tt:TT}{te:TE}{az:St}{H1:Hp}{Q:VK}{D:Addr}(P:Nat->List V->Hp->Prop)(h0:P 0 [] (upd H1 D (.lst [])))(hl:∀i ys H,P i ys H->H D=some (.lst ys)->SqL K H a xs)
  (hs:∀i ys H x,xs[i]?=some x->P i ys H->H D=some (.lst ys)->tt (az.set t (some x)) H λb H4=>if b=true then te (az.set t (some x)) H4 (Xi (W7 t az) P xs.length D (az.set t (some x)) i) else cNo (W7 t az) P xs.length D (az.set t (some x)) i H4)
  (hd:∀ys H,P xs.length ys H->H D=some (.lst ys)->Q (.ref D) H):
  jd (Itl K a) (qN t) tt te az H1 Q D:=by
 have get:∀i,i<xs.length->xs[i]?=some (xs.getD i .non):=λi hi=>by simp[List.getD,hi]
 refine jU (xv:=λi=>xs.getD i .non) (st:=λi=>az.set t (some (xs.getD i .non))) (W7 t az) P XN h0 (λi ys H hi p hD=>⟨⟨xs,_,hl i ys H p hD,get i hi⟩,λx H2 y=>⟨y.1,?_⟩⟩) (λys H p hD=>⟨xs,hl _ ys H p hD,AI _⟩)
  (λi _ af H K _ r _ k=>by show K (af.set t (some (xs.getD i .non))) H;rw[r];exact k) (λi ys H hi p hD=>hs i ys H _ (get i hi) p hD) hd
 have e:=y.2 xs (hl i ys H p hD);rw[get i hi]at e;exact (AH e).symm
def Q1 {K:Fv}{a:Addr}{xs:List V}{t:Nat}{tt:TT}{te:TE}{az:St}{H1:Hp}{Q:VK}{D:Addr}(P:Nat->List V->Hp->Prop)(h0:P 0 [] (upd H1 D (.lst [])))(hl:∀i ys H,P i ys H->H D=some (.lst ys)->SqT K H a xs)
  (hs:∀i ys H x,xs[i]?=some x->P i ys H->H D=some (.lst ys)->tt (az.set t (some x)) H λb H4=>if b=true then te (az.set t (some x)) H4 (Xi (W7 t az) P xs.length D (az.set t (some x)) i) else cNo (W7 t az) P xs.length D (az.set t (some x)) i H4)
  (hd:∀ys H,P xs.length ys H->H D=some (.lst ys)->Q (.ref D) H):
  jd (Itt K a) (qN t) tt te az H1 Q D:=by
 have get:∀i,i<xs.length->xs[i]?=some (xs.getD i .non):=λi hi=>by simp[List.getD,hi]
 refine jU (xv:=λi=>xs.getD i .non) (st:=λi=>az.set t (some (xs.getD i .non))) (W7 t az) P XN h0 (λi ys H hi p hD=>⟨⟨xs,_,hl i ys H p hD,get i hi⟩,λx H2 y=>⟨y.1,?_⟩⟩) (λys H p hD=>⟨xs,hl _ ys H p hD,AI _⟩)
  (λi _ af H K _ r _ k=>by show K (af.set t (some (xs.getD i .non))) H;rw[r];exact k) (λi ys H hi p hD=>hs i ys H _ (get i hi) p hD) hd
 have e:=y.2 xs (hl i ys H p hD);rw[get i hi]at e;exact (AH e).symm
def comp_str {z:Str}{t:Nat}{tt:TT}{te:TE}{az:St}{H1:Hp}{Q:VK}{D:Addr}(P:Nat->List V->Hp->Prop)(h0:P 0 [] (upd H1 D (.lst [])))
  (hs:∀i ys H c,z.cps[i]?=some c->P i ys H->H D=some (.lst ys)->tt (az.set t (some (.str ⟨#[c]⟩))) H λb H4=>if b=true then te (az.set t (some (.str ⟨#[c]⟩))) H4 (Xi (W7 t az) P z.cps.size D (az.set t (some (.str ⟨#[c]⟩))) i) else cNo (W7 t az) P z.cps.size D (az.set t (some (.str ⟨#[c]⟩))) i H4)
  (hd:∀ys H,P z.cps.size ys H->H D=some (.lst ys)->Q (.ref D) H):
  jd (Its z) (qN t) tt te az H1 Q D:=by
 have get:∀i,i<z.cps.size->z.cps[i]?=some (z.cps.getD i 0):=λi hi=>by simp[Array.getD,hi]
 refine jU (xv:=λi=>.str ⟨#[z.cps.getD i 0]⟩) (st:=λi=>az.set t (some (.str ⟨#[z.cps.getD i 0]⟩))) (W7 t az) P XN h0 (λi ys H hi p hD=>⟨hi,λx H2 y=>⟨y.1,?_⟩⟩) (λys H p hD=>AI _)
  (λi _ af H K _ r _ k=>by show K (af.set t (some (.str ⟨#[z.cps.getD i 0]⟩))) H;rw[r];exact k) (λi ys H hi p hD=>hs i ys H _ (get i hi) p hD) hd
 obtain⟨c,e,ex⟩:=y.2;rw[get i hi]at e;rw[ex,<- AH e]
def comp_tt3 {K:Fv}{a:Addr}{n:Nat}{xs:List V}{ad:Nat->Addr}{v1 v2 v3:Nat->V}{tt:TT}{te:TE}{H1:Hp}{Q:VK}{D:Addr}(P:Nat->List V->Hp->Prop)(h0:P 0 [] (upd H1 D (.lst [])))(hn:xs.length=n)(hx:∀i,i<n->xs[i]?=some (.ref (ad i)))
  (hl:∀i ys H,P i ys H->H D=some (.lst ys)->SqT K H a xs)(ht:∀i ys H,i<n->P i ys H->SqT K H (ad i) [v1 i,v2 i,v3 i])
  (hs:∀i ys H,i<n->P i ys H->H D=some (.lst ys)->tt [some (v1 i),some (v2 i),some (v3 i)] H λb H4=>if b=true then te [some (v1 i),some (v2 i),some (v3 i)] H4 (Xi (λσ=>σ.length=3) P n D [some (v1 i),some (v2 i),some (v3 i)] i) else cNo (λσ=>σ.length=3) P n D [some (v1 i),some (v2 i),some (v3 i)] i H4)
  (hd:∀ys H,P n ys H->H D=some (.lst ys)->Q (.ref D) H):
  jd (Itt K a) (gTup K 3 (ZD (qN 0) (ZD (qN 1) (ZD (qN 2) gNil)))) tt te [none,none,none] H1 Q D:=by
 refine jU (xv:=λi=>.ref (ad i)) (st:=λi=>[some (v1 i),some (v2 i),some (v3 i)]) (λσ=>σ.length=3) P rfl h0 (λi ys H hi p hD=>⟨⟨xs,_,hl i ys H p hD,hx i hi⟩,λx H2 y=>⟨y.1,?_⟩⟩) (λys H p hD=>⟨xs,hl _ ys H p hD,Eg hn⟩)
  (λi ys af H K' hi r p k=>?_) hs hd
 ·have e:=y.2 xs (hl i ys H p hD);rw[hx i hi]at e;exact (AH e).symm
 ·match af,r with
  | [s1,s2,s3],_=>exact⟨ad i,_,O,ht i ys H hi p,O,_,_,O,_,_,O,_,_,O,O,k⟩
def yes {σ:St}{H:Hp}{A B:Hp->Prop}(h:A H):tYes σ H λb H4=>if b=true then A H4 else B H4:=by
 show if true=true then A H else B H
 rw[if_pos rfl];exact h
section
variable {X:Cx}(K:Fv)
def zr (hK:X.K=K:=by rfl):IxR X (rIx K):=hK ▸ ix_seq
def ZQ (hK:X.K=K:=by rfl):OpR X (compareOp .In) (rIn K false):=hK ▸ XE
def Z6 (hK:X.K=K:=by rfl):SlR X (λx lo hi H Q=>rSlL K x lo hi H Q\/(rSlT K x lo hi H Q\/rSlS x lo hi H Q)):=hK ▸ sl_any
def qx (hK:X.K=K:=by rfl):qU X (.builtin "len") (λxs H Q=>∃x n,xs=[x]/\LenV K x H n/\Q (.int n) H):=hK ▸ call_len
def Qi (hK:X.K=K:=by rfl):qU X (.type "list") (λxs H Q=>∃p ys,xs=[.ref p]/\(SqL K H p ys\/SqT K H p ys)/\∀l,H l=none->Q (.ref l) (upd H l (.lst ys))):=hK ▸ W3
def zq (hK:X.K=K:=by rfl):qU X (.type "tuple") (λxs H Q=>∃p ys,xs=[.ref p]/\((SqL K H p ys/\∀l,H l=none->Q (.ref l) (upd H l (.tup ys)))\/(SqT K H p ys/\Q (.ref p) H))):=hK ▸ wX
def xr (hK:X.K=K:=by rfl):qU X (.builtin "isinstance") (λxs H Q=>∃x n t b,xs=[x,.ty n]/\YO K H x t/\PySem.W.kitOne K t (.type n)=some b/\Q (.bl b) H):=hK ▸ XM
def zV {tg l:Expr}{tl:TE}(hl:PE X l tl)(hK:X.K=K:=by rfl):PI X tg l (iList K tl):=hK ▸ pi_list hl
def qr {tg l:Expr}{tl:TE}(hl:PE X l tl)(hK:X.K=K:=by rfl):PI X tg l (iTup K tl):=hK ▸ pi_tup hl
def qY {o e:Expr}{es:List Expr}{to:TE}{t:TA}{name:Str}{apos aH:Pos}{T id:String}{r:V->List V->Hp->VK->Prop}(pa:PlainAttrs T) (slot:Slot T name id) (dG:typeOf (.builtin id)=pure (.type "method_descriptor")) (hm:MtR X id r) (ho:PE X o to) (ha:PA X (e::es) t)
  (bK:attributeBase o name X.env (eval o X.env)=eval o X.env:=by rfl)
  (iM:((backTo aH (starEach (e::es) X.env)).all (λx=>!x.1)&&(backToKw aH (keywordEach [] X.env)).all (λx=>x.1.isSome)
   && decide ((e::es).length+([]:List Keyword).length+(if ([]:List Keyword).isEmpty then 0 else 1)<30))=true:=by rfl)
  (bI:(apos.endLine==aH.line)=true:=by rfl) (hs:starEach (e::es) X.env=(false,eval e X.env)::starEach es X.env:=by rfl) (dA:(backTo aH (starEach es X.env)).any (·.1)=false:=by rfl) (hK:X.K=K:=by rfl):
  PE X (.Call (.Attribute o name apos) (e::es) [] aH) (tBM K T r to t):=hK ▸ pe_bm pa slot dG hm ho ha bK iM bI hs dA
def kpe_bm0 {o:Expr}{to:TE}{name:Str}{apos aH:Pos}{T id:String}{r:V->List V->Hp->VK->Prop}(pa:PlainAttrs T) (slot:Slot T name id) (dG:typeOf (.builtin id)=pure (.type "method_descriptor")) (hm:MtR X id r) (ho:PE X o to)
  (bK:attributeBase o name X.env (eval o X.env)=eval o X.env:=by rfl) (bI:(apos.endLine==aH.line)=true:=by rfl) (hK:X.K=K:=by rfl):PE X (.Call (.Attribute o name apos) [] [] aH) (tBM0 K T r to):=hK ▸ pe_bm0 pa slot dG hm ho bK bI
def qW {es:List Expr}{k:Nat}{pos:Pos}{t:TGs}{n:Nat}(hc:X.calm=true)(h:PGs X es t)(hn:(assignEach es X.env).length=n:=by rfl)(dz:(assignEach es X.env).findIdx? (·.1)=none:=by rfl)(hK:X.K=K:=by rfl):PG X (.Tuple es k pos) (gTup K n t):=hK ▸ pg_tup hc h hn dz
end
structure Fly (l:List Env)(H':Hp)(old:Heap)(e:Addr)(cls:Value)(h:Heap):Prop where
 ex:∃B a0,Heap.FlyingW B l e cls a0 h/\∀b o,h.get? b=some o->b ∉ frs l->((∃u,H' b=some u)\/∃u,old.get? b=some u)->B.get? b=some o
 new:H' e=none
 nold:old.get? e=none
def CX1 (P:Program)(w:World):CXT:=λouter H s E e s'=>∃(ea:Addr) (cls:Value) (H':Hp),e=.ref ea/\s'.os=s.os/\AllBare s'.gens/\Un (frs outer) [] H H' s.heap s'.heap/\HOk P w H' s'.heap/\Fly outer H' s.heap ea cls s'.heap/\E cls none H'
def qm.some {P:Program}{w:World}{H:Hp}{h:Heap}{a:Addr}{o:HO}(x:qm P w H h a o):∃ob,h.get? a=some ob:=by
 cases o with
 |lst xs=>obtain⟨_,_,_,_,e⟩:=x;exact⟨_,e⟩
 |tup xs=>obtain⟨_,_,_,o,e,_⟩:=x;exact⟨_,e⟩
 |dK kvs=>obtain⟨_,_,_,_,o,_,_,e,_⟩:=x;exact⟨_,e⟩
 |dT kvs=>obtain⟨_,_,_,_,o,_,_,e,_⟩:=x;exact⟨_,e⟩
 |set S n=>obtain⟨o,_,_,_,e,_⟩:=x;exact⟨_,e⟩
 |ins C dx fs=>obtain⟨_,_,_,e,_⟩:=x;exact⟨_,e⟩
 |own y=>exact x
 |xd fs=>obtain⟨_,⟨_,_,_,e,_⟩,_⟩:=x;exact⟨_,e⟩
 |rng lo hi=>obtain⟨_,_,_,e⟩:=x;exact⟨_,e⟩
 |frz ob u=>obtain⟨e,_⟩:=x;exact⟨_,e⟩
 |tbl ps=>exact⟨_,x⟩
 |met f y=>exact⟨_,x⟩
 |ext φ=>obtain⟨_,z,_⟩:=x;exact z
section
variable {X:Cx}{pins:List (Addr×Obj)}{σ:St}{H H':Hp}{s s':Shared}{h2:Heap}
def Inv.left (I:Inv X pins σ H s)(hex:X.ex=[])(k:∀b o,s.heap.get? b=some o->b ∉ frs X.stack->((∃u,H b=some u)\/∃u,X.s₀.heap.get? b=some u)->h2.get? b=some o)
  (sl:∀b o,s.heap.get? b=some o->b∈frs X.outer->∃q,h2.get? b=some {o with slots:=q}):Un (frs X.outer) [] X.H₀ H X.s₀.heap h2/\HOk X.prog X.w H h2:=by
 have nx:∀b,b ∉ X.ex:=λb z=>by rw[hex]at z;exact absurd z (by simp)
 have d7:∀b o,X.s₀.heap.get? b=some o->b≠X.env.locals:=λb o e=>AZ (Ah (AR e) I.ok.above);have vm:∀b,b≠X.env.locals->b ∉ frs X.outer->b ∉ frs X.stack:=λb h1 h3 z=>(Al.mp (I.stkSub b z)).elim h1 h3;refine⟨⟨λb o e n nf _=>?_,λb o e n hb _=>?_,λb o e n _=>I.base.free b o e n (nx b),λb o e _=>?_,I.base.tups,I.base.frzs,I.base.tbls⟩,λa o e=>?_⟩
 ·exact k b o (I.base.keep b o e n nf (nx b)) (vm b (d7 b o e) nf) (.inr ⟨o,e⟩)
 ·obtain⟨q,e1⟩:=I.base.slot b o e n hb (nx b);obtain⟨q',e2⟩:=sl b _ e1 hb;exact⟨q',e2⟩
 ·obtain⟨o',e1⟩:=I.base.there b o e (nx b);by_cases hb:b∈frs X.outer
  ·obtain⟨q,e2⟩:=sl b o' e1 hb;exact⟨_,e2⟩
  ·exact⟨o',k b o' e1 (vm b (d7 b o e) hb) (.inr ⟨o,e⟩)⟩
 ·refine (I.hok a o e).stay (λb u hb q=>?_) (λ_ q=>q) λ_ _ q=>q;have ht:∃u,H b=some u:=by
   rcases hb with z|z
   ·exact⟨o,by rw[z];exact e⟩
   ·exact⟨_,z⟩
  refine k b u q (λz=>?_) (.inl ht);obtain⟨v,hv⟩:=ht;rw[I.stkFree b z]at hv;cases hv
def Inv.cov (I:Inv X pins σ H s)(hex:X.ex=[]){b:Addr}(h:(∃u,H b=some u)\/∃u,X.s₀.heap.get? b=some u):(∃o,s.heap.get? b=some o)/\b≠X.env.locals:=by
 rcases h with ⟨u,e⟩|⟨u,e⟩
 ·refine⟨(I.hok b u e).some,λz=>?_⟩;rw[z,I.free]at e;cases e
 ·exact⟨I.base.there b u e (by rw[hex];simp),AZ (Ah (AR e) I.ok.above)⟩
end
def Thrown (X:Cx)(E:XK):Prop:=∀(pins:List (Addr×Obj)) (σ:St) (H:Hp) (s:Shared) (h':Heap) (e:Addr) (cls:Value) (vs:TF),Inv X pins σ H s->Heap.MadeExcOf s.heap h' e cls vs->E cls none H->X.xe (.ref e) {s with heap:=h'}
section
variable {P:Program}{w:World}{K:Fv}{mg:Str->Option Value}{base:Heap}{N:TJ}{qual:Str}{scope:Scope}{f:Addr}{cd:Value}{A:Around}{outer:List Env}{s:Shared}{H:Hp}{E:XK}
def frs_mem {l:List Env}:∀env∈l,∀b,env.frame=some b->b∈frs l:=λenv he b hb=>EJ.mpr ⟨env,he,hb⟩
def thrown1:Thrown (Xh (CX1 P w) P w K mg base N qual scope f cd A outer s H E) E:=by
 intro pins σ H1 s1 h' e cls vs I hm q;have hex:(Xh (CX1 P w) P w K mg base N qual scope f cd A outer s H E).ex=[]:=rfl;have dz:(Xh (CX1 P w) P w K mg base N qual scope f cd A outer s H E).stack=envOfC qual scope s.heap.objs.size f cd::outer:=rfl;have fin:∀b o,s1.heap.get? b=some o->b ∉ frs (envOfC qual scope s.heap.objs.size f cd::outer)->(PySem.W.hideAll s1.heap (frs (envOfC qual scope s.heap.objs.size f cd::outer))).get? b=some o:=λb o e1 nb=>PySem.W.hideAll_get _ e1 nb;refine wpAny_leaves_madeW (base:=PySem.W.hideAll s1.heap (frs (envOfC qual scope s.heap.objs.size f cd::outer))) (h:=s1.heap) (L:=s.heap.objs.size) I.ok.frames rfl (λb o z=>PySem.W.of_hideAll _ z)
  (PySem.W.funFrames_hide I.stack frs_mem) hm λkH t fl tp bt up=>?_
 have k:∀b o,s1.heap.get? b=some o->b ∉ frs (envOfC qual scope s.heap.objs.size f cd::outer)->((∃u,H1 b=some u)\/∃u,s.heap.get? b=some u)->kH.get? b=some o:=λb o e1 nb _=>fl.1 b o (fin b o e1 nb);obtain⟨un,hok⟩:=I.left (h2:=kH) hex k (λb o e1 hb=>up b o (hm.keeps b o e1) (by obtain⟨_,o2,e2,nf⟩:=I.funs.mem hb;rw[e1]at e2;cases e2;exact nf))
 have cw:H1 e=none:=by
  cases z:H1 e with
  |none=>rfl
  |some u=>obtain⟨ob,eo⟩:=(I.hok e u z).some;rw[hm.new]at eo;cases eo
 refine⟨e,cls,H1,O,I.os,I.bare,un,hok,⟨⟨_,_,fl,λb o e1 nb hc=>?_⟩,cw,?_⟩,q⟩
 ·obtain⟨⟨o',eo⟩,d7⟩:=I.cov hex hc;have lz:b ∉ frs (envOfC qual scope s.heap.objs.size f cd::outer):=λz=>(Al.mp (I.stkSub b z)).elim d7 nb;have e2:=fl.1 b o' (fin b o' eo lz);have e3:o=o':=AH (e1.symm.trans e2);rw[e3];exact fin b o' eo lz
 ·cases z:s.heap.get? e with
  |none=>rfl
  |some u=>obtain⟨ob,eo⟩:=I.base.there e u z (by rw[hex];simp);rw[hm.new]at eo;cases eo
def pass1 {E':XK}(hE:∀c d H,E' c d H->E c d H):WX (CX1 P w) (Xh (CX1 P w) P w K mg base N qual scope f cd A outer s H E) E':=by
 intro pins σ Hc sc e s' I h;obtain⟨ea,cls,H',rfl,os,bare,un,hok,dE,q⟩:=h;have hex:(Xh (CX1 P w) P w K mg base N qual scope f cd A outer s H E).ex=[]:=rfl;have I':=I.call' os un hok bare (λb z=>absurd z (by simp));obtain⟨B,a0,fl,cv⟩:=dE.ex;have uF:∀b o,s'.heap.get? b=some o->b ∉ frs (envOfC qual scope s.heap.objs.size f cd::outer)->((∃u,H' b=some u)\/∃u,s.heap.get? b=some u)->B.get? b=some o:=λb o e1 nb hc=>cv b o e1 nb (by
  rcases hc with z|⟨u,z⟩
  ·exact .inl z
  ·exact .inr (I.base.there b u z (by rw[hex];simp)))
 refine wpAny_leaves_onW (L:=s.heap.objs.size) I'.ok.frames rfl fl λkH nK up=>?_;obtain⟨Ik,sH⟩:=I'.left (h2:=kH) hex (λb o e1 nb hc=>nK.1 b o (uF b o e1 nb hc)) (λb o e1 hb=>up b o e1 (by obtain⟨_,o2,e2,nf⟩:=I'.funs.mem hb;rw[e1]at e2;cases e2;exact nf))
 refine⟨ea,cls,H',O,I'.os,I'.bare,Ik,sH,⟨⟨B,a0,nK,λb o e1 nb hc=>?_⟩,dE.new,?_⟩,hE _ _ _ q⟩
 ·obtain⟨⟨o',eo⟩,d7⟩:=I'.cov hex hc;have lz:b ∉ frs (envOfC qual scope s.heap.objs.size f cd::outer):=λz=>(Al.mp (I'.stkSub b z)).elim d7 nb;have e2:=nK.1 b o' (uF b o' eo lz hc);have e3:o=o':=AH (e1.symm.trans e2);rw[e3];exact uF b o' eo lz hc
 ·cases z:s.heap.get? ea with
  |none=>rfl
  |some u=>obtain⟨ob,eo⟩:=I.base.there ea u z (by rw[hex];simp);rw[dE.nold]at eo;cases eo
end
def exc_obj {K:Fv}{g:Heap}{C:Addr}{kK:TF}{newId:String}(X:K.In g)(q:PySem.W.excIn K C kK newId=true):
  ∃tl N nm qn bs hd sn sub ab col dd k0 k1 k2 k3 k5 mN,g.get? C=some (excClassObj nm qn C N bs tl hd sn sub ab col dd k0 k1 k2 k3 k5 newId)/\g.Ns N mN/\mN "__init__" = none/\OwnTail g kK tl:=by
 unfold PySem.W.excIn at q;split at q
 ·rename_i d1 c1 l1 Nh;split at q
  ·rename_i C1 tl j0 j1 j2 j3 n1 j5 fH cD;simp only[Bool.and_eq_true,beq_iff_eq,Bool.not_eq_true']at q;obtain⟨⟨⟨⟨⟨r1,r2⟩,r3⟩,r4⟩,r5⟩,r6⟩:=q;subst r1 r2;obtain⟨nm,bs,mro,ns,qn,hd,sn,sub,ab,col,del⟩:=c1;have sT:mro=_:=fH;have IC:del=false:=r3;subst sT IC;have kf:l1 = #[j0,j1,j2,j3,some (.builtin n1),j5]:=by
    cases l1 with
    |mk ls=>have:ls=_:=cD;rw[this]
   subst kf;exact⟨tl,ns,nm,qn,bs,hd,sn,sub,ab,col,d1,j0,j1,j2,j3,j5,_,X _ _ Nh,.of_isNs (PySem.W.isNs_of_in X r5),PySem.W.nsMap_none_of_in X r5 r6,PySem.W.tail_of_in X r4⟩
  ·cases q
 ·cases q
section
variable {X:Cx}
def tRaise (C:Addr)(E:XK)(t:TA):TS:=λ_ σ H=>t σ H λvs H1=>vs.length<=sizeLine/\E (.ref C) none H1
def ps_raise {x:Str}{C:Addr}{kK Ng:TF}{newId IP gX Ks Bn B0:String}{E:XK}{e0:Expr}{es:List Expr}{t:TA}{np aH pos:Pos}(hg:Gl X x)(hm:X.mg x=some (.ref C))(q:PySem.W.excIn X.K C kK newId=true)
  (Fn:ExcBaseFacts Bn newId Ks Ng) (L8:kK.contains (.type Bn)=true) (FB:ExcBaseFacts B0 IP gX kK) (hc:X.calm=true) (hx:Thrown X E) (ha:PA X (e0::es) t) (cU:(x==("__debug__" : Str))=false:=by decide)
  (he:starEach (e0::es) X.env=(false,eval e0 X.env)::starEach es X.env:=by rfl) (cH:(backTo aH (starEach es X.env)).any (·.1)=false:=by rfl):
  PS X (.Raise (some (.Call (.Name x np) (e0::es) [] aH)) none pos) (tRaise C E t):=by
 intro pins s σ H D I h;obtain⟨tl,N,nm,qn,bs,hd,sn,sub,ab,col,dd,k0,k1,k2,k3,k5,mN,hC,hN,mD,T⟩:=exc_obj I.mod.kin q;have pj:=ha aH pins s σ H _ I h;rw[he]at pj;refine wpAny_Raise_call_subU (C:=C) (nm:=nm) (q:=qn) (N:=N) (bs:=bs) (bm:=tl) (hdct:=hd) (sn:=sn) (sub:=sub) (ab:=ab) (col:=col) (dd:=dd) (k0:=k0) (k1:=k1) (k2:=k2) (k3:=k3) (k5:=k5)
  Fn L8 FB (mN:=mN) (T.hasType FB.hasBase) (I.ok.hd hc) (by rw[he];show (false || (backTo aH (starEach es X.env)).any (·.1))=false;rw[cH];rfl) mD (Jf I hg hm ⟨rfl,?_⟩ cU)
 rw[he];refine Calls.evalArgs_plain (CD pj (λus s2 ⟨vs,H2,I2,r,hz,qE⟩=>⟨O,?_,I2.bk _ _ hC,hN.keeps I2.bk,T.keeps I2.bk,λh' e hm=>?_⟩) λ_ _ y=>y)
 ·rw[<- r.length];exact hz
 ·exact hx pins σ H2 s2 h' e _ _ I2 hm qE
end
def Qj (X:Cx)(pins:List (Addr×Obj))(R:Value->St->Hp->Prop):TB:=λe s'=>∃af Hc sc,Inv X pins af Hc sc/\CX1 X.prog X.w X.stack Hc sc (λcls _ H'=>R cls af H') e s'
abbrev TSx:=xj->St->Hp->(Value->St->Hp->Prop)->Prop
abbrev TEx:=St->Hp->VK->(Value->Hp->Prop)->Prop
def PSx (X:Cx)(st:Stmt)(t:TSx):Prop:=∀(E:TB) (pins:List (Addr×Obj)) (s:Shared) (σ:St) (H:Hp) (D:xj) (R:Value->St->Hp->Prop),Inv X pins σ H s->t D σ H R->(∀e s',Qj X pins R e s'->E e s') ->
 wpAny (model X.prog X.w) X.A (exec st X.env) (SP X pins D) E s
def PEx (X:Cx)(e:Expr)(t:TEx):Prop:=∀(E:TB) (pins:List (Addr×Obj)) (s:Shared) (σ:St) (H:Hp) (Q:VK) (R:Value->Hp->Prop),Inv X pins σ H s->t σ H Q R->(∀e s',Qj X pins (λcls af H'=>af=σ/\R cls H') e s'->E e s') ->
 wpAny (model X.prog X.w) X.A (eval e X.env) (EP X pins σ Q) E s
def CX1.imp {P:Program}{w:World}{l:List Env}{H:Hp}{s:Shared}{E E':XK}{e:Value}{s':Shared}(h:CX1 P w l H s E e s')(k:∀c d H,E c d H->E' c d H):CX1 P w l H s E' e s':=by obtain⟨ea,cls,H',a,b,c,d,f,g,q⟩:=h;exact⟨ea,cls,H',a,b,c,d,f,g,k _ _ _ q⟩
section
variable {X:Cx}
def tCallX (sp:Sp)(t:TA):TEx:=λσ H Q R=>t σ H λvs H1=>sp vs H1 Q λcls _ H'=>R cls H'
def pex_call {k:Nat}{f:Addr}{fd:FuncData}{ps:TJ}{sp:Sp}{x:Str}{p pos:Pos}{e:Expr}{es:List Expr}{t:TA}(F:jo X.prog X.w X.K X.mg X.base (CX1 X.prog X.w) k f fd ps sp)(hr:ZP k X.A)(hg:Gl X x)(hm:X.mg x=some (.ref f))
  (hk:PySem.W.keepIn X.K (.ref f)=true) (hb:Binds X.K fd ps []) (ha:PA X.nox (e::es) t) (cU:(x==("__debug__" : Str))=false:=by decide)
  (he:starEach (e::es) X.env=(false,eval e X.env)::starEach es X.env:=by rfl) (cH:(backTo pos (starEach es X.env)).any (·.1)=false:=by rfl):PEx X (.Call (.Name x p) (e::es) [] pos) (tCallX sp t):=by
 intro E pins s σ H Q R I h hE;refine EU (Jf I hg hm ?_ cU);refine PySem.W.callWith_K (h₀:=X.base) I.ok.mod.kin hk (CD (ha pos pins s σ H _ (I.wish _) h) (λus s1 ⟨vs,H1,I1',r,q⟩=>⟨I1'.unwish.kIn,?_⟩) λ_ _ z=>False.elim z) he cH;have I1:=I1'.unwish;have hl:us.length=ps.length:=by rw[<- r.length];exact F.len _ _ _ _ q
 have LB:BindsTo s1 fd ⟨us,[]⟩ (ps.zip us):=by have z:=hb s1 us I1.kIn (by rw[Az];exact hl);rw[Az]at z;exact z
 refine wpAny_call (D8 (F.run X.A X.stack s1 H1 ⟨us,[]⟩ us vs Q _ hr I1.env0 LB r q) λres s' hq=>?_);cases res with
 |error e=>have sf:CX1 X.prog X.w X.stack H1 s1 (λcls _ H'=>R cls H') e s':=hq;exact hE e s' ⟨σ,H1,s1,I1,CX1.imp sf λ_ _ _ z=>⟨O,z⟩⟩
 |ok fl=>
  cases fl with
  |ret u=>exact I1.after hq
  |next=>exact False.elim hq
  |brk=>exact False.elim hq
  |cont=>exact False.elim hq
def psx_set {i:Nat}{y:Str}{py eG:Pos}{e:Expr}{t:TEx}(hN:X.N.Nodup)(hy:X.N[i]?=some y)(hl:Loc X.env.scope y)(he:PEx X e t)(rZ:swapsWith e (some (.Name y py)) eG.line X.env=pure false:=by rfl)
  (hf:X.fn y=true\/X.env.scope.names.lookup y=some .local:=by first|exact .inl rfl|exact .inr rfl|assumption):
  PSx X (.Assign [.Name y py] e eG) (λD σ H R=>t σ H (λv H1=>D.nx (σ.set i (some v)) H1) λcls H'=>R cls σ H'):=by
 intro E pins s σ H D R I h hE;refine wpAny_Assign_Name (CD (he E pins s σ H _ _ I h λe s' ⟨af,Hc,sc,I',c⟩=>hE e s' ⟨af,Hc,sc,I',c.imp λcls d H2 z=>?_⟩) (λv s1 ⟨x,H1,I1,r1,q1⟩=>wU I1 hN hy hl r1 (λs2 I2=>⟨_,_,I2,q1⟩) hf) λ_ _ z=>z) rZ;rw[z.1];exact z.2
end
section
variable {X:Cx}{pins:List (Addr×Obj)}{σ:St}{H:Hp}{s:Shared}
def Inv.adopt {e:Addr}{u:HO}(I:Inv X pins σ H s)(hn:H e=none)(h0:X.s₀.heap.get? e=none)(nL:e≠X.env.locals)(nC:∀x c,X.env.cells.lookup x=some c->c≠e)(nP:∀p∈X.pn++pins,p.1≠e)
  (ok:qm X.prog X.w (upd H e u) s.heap e u):Inv X pins σ (upd H e u) s:=by
 have ne:∀{b:Addr} {v:HO},H b=some v->b≠e:=λq=>zN q hn;refine⟨I.ok,I.os,I.bare,⟨I.base.keep,I.base.slot,λb o q n hx=>?_,I.base.there,λb xs q=>?_,λb o v q=>?_,λb ps q=>?_⟩,I.loc,I.cell,?_,λx c q=>?_,λp hp=>?_,λa o q=>?_,I.len⟩
 ·have z:b≠e:=λz=>by rw[z,h0]at q;cases q
  rw[zJ z];exact I.base.free b o q n hx
 ·have q1:=I.base.tups b xs q;rw[zJ (ne q1)];exact q1
 ·have q1:=I.base.frzs b o v q;rw[zJ (ne q1)];exact q1
 ·obtain⟨more,q1⟩:=I.base.tbls b ps q;exact⟨more,by rw[zJ (ne q1)];exact q1⟩
 ·rw[zJ (An nL)];exact I.free
 ·rw[zJ (nC x c q)];exact I.freeC x c q
 ·obtain⟨p1,p2,p3⟩:=I.pin p hp;exact⟨p1,by rw[zJ (nP p hp)];exact p2,p3⟩
 ·by_cases z:a=e
  ·subst z;rw[ze]at q;cases q;exact ok
  ·rw[zJ z]at q;exact (I.hok a o q).stay (λ_ _ _ r=>r) (λc r=>by rw[zJ (ne r)];exact r) λc xs r=>by rw[zJ (ne r)];exact r
end
section
variable {X:Cx}{pins:List (Addr×Obj)}{R:Value->St->Hp->Prop}{e:Value}{s':Shared}
def Qj.see (h:Qj X pins R e s'):∃ea cls af H',e=.ref ea/\Inv X pins af H' s'/\H' ea=none/\R cls af H'/\(∃oe vs,s'.heap.get? ea=some oe/\oe.cls=cls/\oe.data=.fields vs) /\
  (X.ex=[]->X.s₀.heap.get? ea=none)/\ea≠X.env.locals/\(∀x c,X.env.cells.lookup x=some c->c≠ea)/\∀p∈X.pn++pins,p.1≠ea:=by
 obtain⟨af,Hc,sc,I,ea,cls,H',rfl,os,bare,un,hok,dE,q⟩:=h;have I':=I.call' os un hok bare (λb z=>absurd z (by simp));obtain⟨B,a0,fl,cv⟩:=dE.ex;obtain⟨oe,vs,h1,h2,h3,_⟩:=fl.first;have no:∀o,sc.heap.get? ea=some o->False:=λo z=>by rw[dE.nold]at z;cases z
 refine⟨ea,cls,af,H',O,I',dE.new,q,⟨oe,vs,h1,h2,h3⟩,λhex=>?_,λz=>?_,λx c e z=>?_,λp hp z=>?_⟩
 ·cases z:X.s₀.heap.get? ea with
  |none=>rfl
  |some u=>obtain⟨o,e1⟩:=I.base.there ea u z (by rw[hex];simp);exact (no o e1).elim
 ·obtain⟨m,⟨o,_,_,ho,_⟩,_⟩:=I.loc;exact no o (by rw[z];exact ho)
 ·obtain⟨v,o,ho,_⟩:=I.cell x c e;exact no o (by rw[<- z];exact ho)
 ·exact no p.2 (by rw[<- z];exact (I.pin p hp).1)
def Ji {ea:Addr}{cls a0:Value}{af:St}{Hc H':Hp}{sc:Shared}{B h5:Heap}(I:Inv X pins af Hc sc)(os:s'.os=sc.os)(bare:AllBare s'.gens)(un:Un (frs X.stack) [] Hc H' sc.heap s'.heap)(hok:HOk X.prog X.w H' s'.heap)
  (new:H' ea=none)(nold:sc.heap.get? ea=none)(fl:Heap.FlyingW B X.stack ea cls a0 s'.heap)(cv:∀b o,s'.heap.get? b=some o->b ∉ frs X.stack->((∃u,H' b=some u)\/∃u,sc.heap.get? b=some u)->B.get? b=some o)
  (fS:Heap.FlyingW B X.stack ea cls a0 h5)(up:s'.heap.UpToSlots h5)(q:R cls af H'):Qj X pins R (.ref ea) {s' with heap:=h5}:=by
 have I':=I.call' os un hok bare (λb z=>absurd z (by simp));have sl:∀b o,s'.heap.get? b=some o->b∈frs X.stack->∃q,h5.get? b=some {o with slots:=q}:=λb o e1 hb=>up b o e1 (by obtain⟨_,o2,e2,nf⟩:=fl.2.2.1.mem hb;rw[e1]at e2;cases e2;exact nf)
 refine⟨af,Hc,sc,I,ea,cls,H',O,os,bare,⟨λb o e n nf _=>?_,λb o e n hb hx=>?_,un.free,λb o e hx=>?_,un.tups,un.frzs,un.tbls⟩,λa o e=>?_,⟨⟨B,a0,fS,λb o e1 nb hc=>?_⟩,new,nold⟩,q⟩
 ·exact fS.1 b o (cv b o (un.keep b o e n nf (by simp)) nf (.inr ⟨o,e⟩))
 ·obtain⟨q1,e1⟩:=un.slot b o e n hb hx;obtain⟨q2,e2⟩:=sl b _ e1 hb;exact⟨q2,e2⟩
 ·obtain⟨o',e1⟩:=un.there b o e hx;by_cases hb:b∈frs X.stack
  ·obtain⟨q2,e2⟩:=sl b o' e1 hb;exact⟨_,e2⟩
  ·exact⟨o',fS.1 b o' (cv b o' e1 hb (.inr ⟨o,e⟩))⟩
 ·refine (hok a o e).stay (λb u hb q=>?_) (λ_ q=>q) λ_ _ q=>q;have ht:∃u,H' b=some u:=by
   rcases hb with z|z
   ·exact⟨o,by rw[z];exact e⟩
   ·exact⟨_,z⟩
  refine fS.1 b u (cv b u q (λz=>?_) (.inl ht));obtain⟨v,hv⟩:=ht;rw[I'.stkFree b z]at hv;cases hv
 ·have ho:∃o',s'.heap.get? b=some o':=by
   rcases hc with ⟨u,z⟩|⟨u,z⟩
   ·exact (hok b u z).some
   ·exact un.there b u z (by simp)
  obtain⟨o',eo⟩:=ho;have eB:=cv b o' eo nb hc;have e3:o=o':=AH (e1.symm.trans (fS.1 b o' eB));rw[e3];exact eB
def land1 {E:TB}{A:Around}{M:Model}{rest:Sem Flow}{Q:Flow->Shared->Prop}(dz:X.stack=X.env::X.outer)(hf:X.env.frame=some X.env.locals)(Lf:A.frames=some X.stack)(h:Qj X pins R e s')
  (k:∀h5,Qj X pins R e {s' with heap:=h5}->wpAny M A rest Q E {s' with heap:=h5}):wpAny M A (noteFrame e X.env) (λ_ s2=>wpAny M A (setFlight e none) (λ_ s3=>wpAny M A rest Q E s3) E s2) E s':=by
 obtain⟨af,Hc,sc,I,ea,cls,H',rfl,os,bare,un,hok,dE,q⟩:=h;obtain⟨B,a0,fl,cv⟩:=dE.ex;refine wpAny_looks_onW (base:=B) (outer:=X.outer) (by rw[Lf,dz]) hf (by rw[<- dz];exact fl) λh4 held Ij=>wpAny_landsW held λh5 fS pX=>k h5 ?_;exact Ji I os bare un hok dE.new dE.nold fl cv (by rw[dz];exact fS) (Ij.trans pX) q
def land2 {E:TB}{A:Around}{M:Model}{Q:Unit->Shared->Prop}(h:Qj X pins R e s')(k:∀h5,Qj X pins R e {s' with heap:=h5}->Q () {s' with heap:=h5}):wpAny M A (setFlight e none) Q E s':=by obtain⟨af,Hc,sc,I,ea,cls,H',rfl,os,bare,un,hok,dE,q⟩:=h;obtain⟨B,a0,fl,cv⟩:=dE.ex;exact lands_againW fl λh5 fS pX=>k h5 (Ji I os bare un hok dE.new dE.nold fl cv fS pX q)
end
def Cx.inEx (X:Cx)(ea:Addr):Cx:={X with A:=X.A.mark (some (.ref ea)),calm:=false,xe:=λ_ _=>False}
section
variable {X:Cx}{pins:List (Addr×Obj)}{σ:St}{H:Hp}{s:Shared}{ea:Addr}
def Inv.inEx (I:Inv X pins σ H s)(ea:Addr):Inv (X.inEx ea) pins σ H s:=⟨⟨I.ok.mod,I.ok.kind,I.ok.glob,I.ok.blt,I.ok.above,I.ok.inj,I.ok.has,I.ok.cab,λz=>absurd (show false=true from z) (by simp),I.ok.frames,I.ok.stk,I.ok.exf,I.ok.bs,I.ok.bsz,I.ok.noex,I.ok.exfs,I.ok.funs,I.ok.frf⟩,
 I.os,I.bare,I.base,I.loc,I.cell,I.free,I.freeC,I.pin,I.hok,I.len⟩
def Inv.outEx (ok:X.Ok)(I:Inv (X.inEx ea) pins σ H s):Inv X pins σ H s:=⟨ok,I.os,I.bare,I.base,I.loc,I.cell,I.free,I.freeC,I.pin,I.hok,I.len⟩
def tTry (K:Fv)(C:Addr)(tb:TSx)(ts:TS):TS:=λD σ H=>tb D σ H λcls af H'=>PySem.W.exmOne K cls (.ref C)=some true/\ts D af H'
def ty_looks {M:Model}{h:Heap}{ea:Addr}{cls:Value}(z:∃oe vs,h.get? ea=some oe/\oe.cls=cls/\oe.data=.fields vs):PySem.W.Looks M h (typeOf (.ref ea)) cls:=by obtain⟨oe,vs,a,b,_⟩:=z;subst b;exact (PySem.W.Looks.ld a).andThen .now
def ps_try {x:Str}{C:Addr}{st b0:Stmt}{fT:List Stmt}{np sk pos:Pos}{tb:TSx}{ts:TS}(dz:X.stack=X.env::X.outer)(hf:X.env.frame=some X.env.locals)
  (hg:Gl X x) (hm:X.mg x=some (.ref C)) (hb:PSx X st tb) (hs:∀ea,PSs (X.inEx ea) (b0::fT) ts) (cU:(x==("__debug__" : Str))=false:=by decide):
  PS X (.Try [st] [.ExceptHandler (some (.Name x np)) none (b0::fT) sk] [] [] pos) (tTry X.K C tb ts):=by
 intro pins s σ H D I h;refine wpAny_Try_except (wpAny_execs_cons (CD (hb _ pins s σ H D _ I h (λe s' hc=>?_)) (λf s1 q=>?_) λ_ _ z=>z))
 rotate_left
 ·cases f with
  |next=>exact Dn (Dn q)
  |ret v=>exact q
  |brk=>exact q
  |cont=>exact q
 refine land1 dz hf I.ok.frames hc λh5 F5=>?_;obtain⟨ea,cls,af,H',rfl,I5,hn,⟨hx,hR⟩,KW,h0,nL,nC,nP⟩:=F5.see;refine wpAny_handleBy_cons (codeAny_handlers_test (Jf (X:=X.inEx ea) (I5.inEx ea) hg hm ((PySem.W.exm_one I5.kIn (ty_looks KW) hx).here ?_) cU)) (by intro q;cases q);refine codeAny_handlers_suite (land2 F5 λh6 Lu=>?_);obtain⟨ea',Nc,bR,H2,e2,I6,hn6,⟨vN,LQ⟩,KU,h06,nL6,nC6,nP6⟩:=Lu.see;cases e2;refine CD (hs ea pins _ _ _ D (I6.inEx ea) LQ) (λf s9 q=>?_) λ_ _ z=>False.elim z;cases f with
 |next=>obtain⟨pN,H9,I9,q9⟩:=q;exact⟨_,_,I9.outEx I.ok,q9⟩
 |brk=>obtain⟨pN,H9,I9,q9⟩:=q;exact⟨_,_,I9.outEx I.ok,q9⟩
 |cont=>obtain⟨pN,H9,I9,q9⟩:=q;exact⟨_,_,I9.outEx I.ok,q9⟩
 |ret u=>obtain⟨v,pN,H9,I9,r9,q9⟩:=q;exact⟨_,_,_,I9.outEx I.ok,r9,q9⟩
end
def Def1 (P:Program)(w:World)(K:Fv)(mg:Str->Option Value)(base:Heap)(k:Nat)(x:Str)(ps:TJ)(sp:Sp):Prop:=
 ∃(f:Addr) (fd:FuncData),jo P w K mg base (CX1 P w) k f fd ps sp/\mg x=some (.ref f)/\PySem.W.keepIn K (.ref f)=true/\Binds K fd ps []
section
def Wa {E:XK}(D:Def1 X.prog X.w X.K X.mg X.base k x ps sp)(hr:ZP k' X.A)(hk:k<=k')(hg:Gl X x)(hp:WX (CX1 X.prog X.w) X E)(ha:PA X (e::es) t)
  (cU:(x==("__debug__" : Str))=false:=by decide) (he:starEach (e::es) X.env=(false,eval e X.env)::starEach es X.env:=by rfl) (cH:(backTo pos (starEach es X.env)).any (·.1)=false:=by rfl):
  PE X (.Call (.Name x p) (e::es) [] pos) (tCall sp [] E t):=by
 obtain⟨f,fd,F,m,kp,b⟩:=D;exact XB F (hr.mono hk) hg m kp b .nil hp ha cU he cH
def pex_def (D:Def1 X.prog X.w X.K X.mg X.base k x ps sp)(hr:ZP k' X.A)(hk:k<=k')(hg:Gl X x)(ha:PA X.nox (e::es) t)
  (cU:(x==("__debug__" : Str))=false:=by decide) (he:starEach (e::es) X.env=(false,eval e X.env)::starEach es X.env:=by rfl) (cH:(backTo pos (starEach es X.env)).any (·.1)=false:=by rfl):
  PEx X (.Call (.Name x p) (e::es) [] pos) (tCallX sp t):=by
 obtain⟨f,fd,F,m,kp,b⟩:=D;exact pex_call F (hr.mono hk) hg m kp b ha cU he cH
end
section
variable {P:Program}{w:World}{K:Fv}{mg:Str->Option Value}{base:Heap}
def Fun.ok1 {x qual:Str}{st:Stmt}{f:Addr}{fd:FuncData}{N ps:TJ}{k:Nat}{sp:Sp}(F:Fun K x qual st f fd)(S:zD N ps (zm st))(len:∀vs H Q E,sp vs H Q E->vs.length=ps.length)
  (cX:∀(aC:Value) (A:Around) (outer:List Env) (s:Shared) (H:Hp) (vs:List V) (Q:VK) (E:XK),ZP k (A.deeper (envOfC qual (zm st) s.heap.objs.size f aC))->sp vs H Q E ->
   ∃t,PSs (Xh (CX1 P w) P w K mg base N qual (zm st) f aC A outer s H E) (jG st) t/\t {nx:=λ_ H'=>Q .non H',rt:=Q} (start N vs) H):jo P w K mg base (CX1 P w) (k+1) f fd ps sp:=by
 obtain⟨oc,od,kV,doc,pm,an,aC,ct,eM,rfl,lk,bJ⟩:=F.ex;exact fn_of lk bJ S len λA outer s H vs Q E hr fi=>cX aC A outer s H vs Q E hr fi
end
def Qk (xs ys:List V):Bool:=(xs.zip ys).all (λp=>eqV p.1 p.2)&&xs.length==ys.length
def Ql {A:Around}{s:Shared}{xs ys:List V}{us vs:TF}(rx:qh xs us)(ry:qh ys vs)(fx:xs.all qV=true)(fy:ys.all qV=true)(j:Nat)(h1:j<us.toArray.size)(h2:j<vs.toArray.size):
  SeqAt.EqAt A s us.toArray[j] vs.toArray[j] (eqV (xs.getD j .non) (ys.getD j .non)):=by
 have l1:=rx.length;have l2:=ry.length;have g1:j<us.length:=by simpa using h1
 have g2:j<vs.length:=by simpa using h2
 have k1:xs[j]?=some (xs.getD j .non):=by simp[List.getD,show j<xs.length by lia]
 have k2:ys[j]?=some (ys.getD j .non):=by simp[List.getD,show j<ys.length by lia]
 obtain⟨u,e1,r1⟩:=rx.get k1;obtain⟨v,e2,r2⟩:=ry.get k2;have f1:=BB.mp fx _ (AL k1);have f2:=BB.mp fy _ (AL k2);have w1:us.toArray[j]=u:=by rw[AC g1]at e1;simpa using AH e1
 have w2:vs.toArray[j]=v:=by rw[AC g2]at e2;simpa using AH e2
 rw[w1,w2];exact YS r1 r2 f1 f2
theorem Ze:∀(xs ys:List V),xs.length=ys.length->((List.range xs.length).all λj=>eqV (xs.getD j .non) (ys.getD j .non))=(xs.zip ys).all λp=>eqV p.1 p.2
 | [],[],_=>rfl
 | [],_::_,h=>by cases h
 |_::_,[],h=>by cases h
 |x::xs,y::ys,h=>by have ih:=Ze xs ys (by simpa using h);rw[Ax,Eh,Ca,FV,Dd,Ca,<- ih];rfl
section
variable {X:Cx}
def bools_at {bs:List Bool}:∀{us:TF},qh (bs.map V.bl) us->us=bs.map Value.bool:=by
 induction bs with
 |nil=>intro us r;rw[Ei]at r;cases r;rfl
 |cons b bs ih=>
  intro us r;rw[Af]at r;cases r with
  |cons r1 r2=>rw[Af,<- ih r2];cases r1;rfl
theorem Jj:∀bs:List Bool,((List.range bs.length).all λi=>bs.getD i true)=bs.all id
 | []=>rfl
 |b::bs=>by have ih:=Jj bs;rw[Ax,Eh,Ca,FV,Ca,<- ih];rfl
def call_all (hc:X.calm=true):qU X (.builtin "all") (λxs H Q=>∃(p:Addr) (bs:List Bool),xs=[.ref p]/\SqL X.K H p (bs.map V.bl)/\Q (.bl (bs.all id)) H):=by
 intro pins s σ H xs us Q I r h;obtain⟨p,bs,rfl,hq,q⟩:=h;obtain⟨u,rfl,ru⟩:=vals1 r;cases ru;obtain⟨its,rv,pl,_⟩:=I.list hq;have hl:s.heap.IsList p its.toArray:=pl.isList;have aA:p<s.heap.objs.size:=by obtain⟨_,e,_⟩:=hl;exact AR e
 refine call_all_walk (D6 hl ⟨_,_,_,_,_,_,λi=>bs.getD i true,O,Walks.list (A:=X.A.in1) (I.ok.hd hc) _ p (AZ aA) its.toArray,⟨⟨_,AQ _ rfl,O,O⟩,hl.push _⟩,λi v s' Q' E' hv hQ=>?_,λh' tk hk=>⟨.bl _,H,I.kept (old_kept hk),O,?_⟩⟩)
 ·have gh:its[i]?=some v:=by simpa using hv
  rw[bools_at rv,AG]at gh;obtain⟨b,hb,rfl⟩:=Aj.mp gh;have e:bs.getD i true=b:=by simp[List.getD,hb]
  have z:Q' (bs.getD i true) s':=hQ;rw[e]at z;exact Dz z
 ·have e1:its.toArray.size=bs.length:=by have:=rv.length;rw[AB]at this;simp;lia
  rw[e1];have e2:=Jj bs;rw[e2];exact q
def bt_max:bootBuiltins "max" = some (.builtin "max"):=∅
def W8 (K:Fv) (hc:X.calm=true) (hK:X.K=K:=by rfl):qU X (.builtin "all") (λxs H Q=>∃(p:Addr) (bs:List Bool),xs=[.ref p]/\SqL K H p (bs.map V.bl)/\Q (.bl (bs.all id)) H):=hK ▸ call_all hc
end
section
variable {X:Cx}{tg:Expr}
def rNeT (K:Fv):R2:=λx y H Q=>∃p q xs ys,x=.ref p/\y=.ref q/\SqT K H p xs/\SqT K H q ys/\xs.all qV=true/\ys.all qV=true/\xs.length=ys.length/\Q (.bl (!Qk xs ys)) H
def op_neT (K:Fv){k:Nat}(hr:ZP k X.A)(hK:X.K=K:=by rfl):OpR X (compareOp .NotEq) (rNeT K):=by
 subst hK;intro pins s σ H x y v u Q I rx ry h;obtain⟨p,q,xs,ys,rfl,rfl,h1,h2,f1,f2,hz,hq⟩:=h;cases rx;cases ry;obtain⟨us,r1,pl1,_⟩:=I.tuple h1;obtain⟨vs,r2,pl2,_⟩:=I.tuple h2;have hu:X.A.units<cLine:=Nat.lt_of_succ_lt (hu_of hr);have l1:=r1.length;have l2:=r2.length;refine SeqAt.RcNeAt.tuples pl1 pl2 hu (Ql r1 r2 f1 f2) X.prog X.w _ _ ⟨.bl _,H,I,O,?_⟩;have e:min us.toArray.size vs.toArray.size=xs.length:=by simp;lia
 have e2:(us.toArray.size==vs.toArray.size)=true:=by simp;lia
 rw[e,Ze xs ys hz,e2,Bool.and_true];unfold Qk at hq;rw[hz]at hq;simpa using hq
def xt (K:Fv) (hc:X.calm=true):qU X (.builtin "max") (λxs H Q=>∃i j,xs=[.int i,.int j]/\Q (.int (if j > i then j else i)) H):=Xw hc
end
section
variable {prog:Program}{w:World}{A:Around}{E:TB}{s:Shared}
def jV (b:Bool):Obj:={cls:=.type "set",dict:=none,data:=.set #[] 0 (.fresh 0 0 b)}
end
section
variable {X:Cx}
def bt_set:bootBuiltins "set" = some (.type "set"):=∅
end
section
variable {prog:Program}{w:World}{A:Around}{E:TB}{s:Shared}
def y3 {it t:Addr}{k:Nat}{items:TH}{x:Value}{Q:TB}(hi:s.heap.IsTupleIter it t k)(ht:s.heap.IsTuple t items)(hx:items[k]?=some x)
  (q:∀h',h'.IsTupleIter it t (k+1)->Heap.SameBut it s.heap h'->Q x {s with heap:=h'}):wpAny (model prog w) A (Builtin.SmallTypes.nextOf (.ref it)) Q E s:=by
 obtain⟨oi,a1,a2,a3⟩:=id hi;obtain⟨ot,b1,_,nt,b3⟩:=ht;unfold Builtin.SmallTypes.nextOf;refine AA (wpAny_callSpecial?_slot (name:=Str.ofString "__next__") hi.typeIs Ci (A6 Ci hi.typeIs FE ?_ (FC _)));refine AA (m:=field (.ref it) 0) (BO a1 a3 (x:=.ref t) rfl ?_);show wpAny _ _ (if (Value.ref t==Value.none)=true then _ else field (.ref it) 1 >>= _) _ _ s;rw[if_neg (show ¬((Value.ref t==Value.none)=true) from AV)];refine AA (BO a1 a3 (x:=.int k 0) rfl (AA (m:=seqItems? (.ref t)) (B5 b1 b3 ?_)));simp only[Int.toNat_natCast,hx];refine AA (B4 a1 a3 (by simp) (AF ⟨x,O,AF (q _ ⟨_,A9 _ a1 (CN (BM a3 _)),(DS ..).trans a2,?_⟩ (BW ..))⟩));rw[BM a3];simp[rawInt]
def y4 {it t:Addr}{k:Nat}{items:TH}{Q:TB}(hh:A.handled=none)(hi:s.heap.IsTupleIter it t k)(ht:s.heap.IsTuple t items)(hx:items[k]?=none)
  (q:∀h' e,Heap.ExtBut it s.heap h'->(∃o,h'.get? e=some o/\o.cls=.type "StopIteration")->E (.ref e) {s with heap:=h'}):wpAny (model prog w) A (Builtin.SmallTypes.nextOf (.ref it)) Q E s:=by
 obtain⟨oi,a1,a2,a3⟩:=id hi;obtain⟨ot,b1,_,nt,b3⟩:=ht;unfold Builtin.SmallTypes.nextOf;refine AA (wpAny_callSpecial?_slot (name:=Str.ofString "__next__") hi.typeIs Ci (A6 Ci hi.typeIs FE ?_ (FC _)));refine AA (m:=field (.ref it) 0) (BO a1 a3 (x:=.ref t) rfl ?_);show wpAny _ _ (if (Value.ref t==Value.none)=true then _ else field (.ref it) 1 >>= _) _ _ s;rw[if_neg (show ¬((Value.ref t==Value.none)=true) from AV)];refine AA (BO a1 a3 (x:=.int k 0) rfl (AA (m:=seqItems? (.ref t)) (B5 b1 b3 ?_)));simp only[Int.toNat_natCast,hx];refine AA (Bm (AA (B4 a1 a3 (by simp) (wpAny_bind (m:=newExc (.type "StopIteration") []) ?_))));simp only[newExc,newTuple];refine AA (A3 (AA (m:=firstArgMember _ _) (Bw (a:=Value.none) (by first|rfl|(simp only[firstArgMember];rfl)) (A3 ?_ (by size_fits)))) (by size_fits));simp only[raiseNew];refine AA (Et ?_)
 first|rw[show A.in1.handled=none from hh]|rw[hh]
 exact AA (AF (FG (q _ _ (((BW ..).extBut.push _).push _) ⟨_,AQ _ rfl,O⟩)))
def HSq (k:Bool) (h:Heap) (a:Addr) (xs:TH):Prop:=∃o,h.get? a=some o/\o.cls=.type (bif k then "tuple" else "list")/\∃n,o.data=.seq xs n
def HIt (k:Bool) (h:Heap) (a t:Addr) (i:Nat):Prop:=∃o,h.get? a=some o/\o.cls=.type (bif k then "tuple_iterator" else "list_iterator")/\o.data=.fields #[.ref t,.int i 0]
def HSq.ext {k:Bool}{h h':Heap}{a b:Addr}{xs:TH}:HSq k h a xs->Heap.ExtBut b h h'->a≠b->HSq k h' a xs:=λ⟨o,e,r⟩ f n=>⟨o,f _ _ n e,r⟩
def HIt.ext {k:Bool}{h h':Heap}{a b t:Addr}{i:Nat}:HIt k h a t i->Heap.ExtBut b h h'->a≠b->HIt k h' a t i:=λ⟨o,e,r⟩ f n=>⟨o,f _ _ n e,r⟩
variable {kd ke:Bool}
def nextI {it t:Addr}{k:Nat}{items:TH}{x:Value}{Q:TB}(hi:HIt kd s.heap it t k)(ht:HSq kd s.heap t items)(hx:items[k]?=some x)
  (q:∀h',HIt kd h' it t (k+1)->Heap.SameBut it s.heap h'->Q x {s with heap:=h'}):wpAny (model prog w) A (Builtin.SmallTypes.nextOf (.ref it)) Q E s:=by
 cases kd
 ·exact wpAny_nextOf_list_item hi ht hx q
 ·exact y3 hi ht hx q
def nextE {it t:Addr}{k:Nat}{items:TH}{Q:TB}(hh:A.handled=none)(hi:HIt kd s.heap it t k)(ht:HSq kd s.heap t items)(hx:items[k]?=none)
  (q:∀h' e,Heap.ExtBut it s.heap h'->(∃o,h'.get? e=some o/\o.cls=.type "StopIteration")->E (.ref e) {s with heap:=h'}):wpAny (model prog w) A (Builtin.SmallTypes.nextOf (.ref it)) Q E s:=by
 cases kd
 ·exact wpAny_nextOf_list_end hh hi ht hx q
 ·exact y4 hh hi ht hx q
def iterK {l:Addr}{xs:TH}{Q:TB}(h:HSq kd s.heap l xs) (q:Q (.ref s.heap.objs.size) {s with heap:=s.heap.push {cls:=.type (bif kd then "tuple_iterator" else "list_iterator"),data:=.fields #[.ref l,.int 0 0]}}):wpAny (model prog w) A (pyIter (.ref l)) Q E s:=by
 cases kd
 ·exact D6 h q
 ·exact Fg h q
structure y6 (kd ke:Bool)(z TI TO i1 i2 t1 t2:Addr)(xs ys:TH)(f0:Value)(k1 k2:Nat)(h:Heap):Prop where
 zi:IsZip h z TI TO f0
 ti:IsPair h TI (.ref i1) (.ref i2)
 to:∃a b,IsPair h TO a b
 a1:HIt kd h i1 t1 k1
 a2:HIt ke h i2 t2 k2
 b1:HSq kd h t1 xs
 b2:HSq ke h t2 ys
structure Far (z TI TO i1 i2 t1 t2:Addr):Prop where
 nd:[z,TI,TO,i1,i2].Nodup
 f1:t1 ∉ [z,TO,i1,i2]
 f2:t2 ∉ [z,TO,i1,i2]
def xu (z TO i1 i2:Addr)(h h':Heap):Prop:=∀c o,c ∉ [z,TO,i1,i2]->h.get? c=some o->h'.get? c=some o
variable {z TI TO i1 i2 t1 t2:Addr}{xs ys:TH}{k1 k2:Nat}
def zip_item {x y:Value}{Q:TB}(D:Far z TI TO i1 i2 t1 t2)(Z:y6 kd ke z TI TO i1 i2 t1 t2 xs ys .none k1 k2 s.heap)(hx:xs[k1]?=some x)(hy:ys[k2]?=some y)
  (q:∀h',y6 kd ke z TI TO i1 i2 t1 t2 xs ys (rawInt s.heap.objs.size) (k1+1) (k2+1) h'->IsPair h' s.heap.objs.size x y->xu z TO i1 i2 s.heap h'->Q (.ref s.heap.objs.size) {s with heap:=h'}):
  wpAny (model prog w) A (Builtin.«zip.__next__» ⟨[.ref z],[]⟩) (λfin s'=>∃v,fin=.done (.ret v)/\Q v s') E s:=by
 obtain⟨nd,f1,f2⟩:=D;simp only[List.nodup_cons,List.mem_cons,List.not_mem_nil,or_false,not_or,List.nodup_nil,and_true,not_false_eq_true]at nd f1 f2;obtain⟨⟨lr,fB,fh,fW⟩,⟨vz,vB,vA⟩,⟨lE,lC⟩,gU⟩:=nd;obtain⟨lh,ve,vh,vf⟩:=f1;obtain⟨oy,oz,oC,vd⟩:=f2;obtain⟨zi,ti,⟨a,b,to⟩,a1,a2,b1,b2⟩:=Z;refine AA (m:=field (.ref z) 2) (BO zi rfl (x:=.bool false) rfl ?_);refine AA (m:=field (.ref z) 3) (BO zi rfl (x:=.ref TI) rfl (AA (B5 ti rfl ?_)));refine AA (m:=Builtin.SmallTypes.ownedTupleIsFree (.ref z)) ?_;unfold Builtin.SmallTypes.ownedTupleIsFree;refine AA (BO zi rfl (x:=.none) rfl (AF ?_));simp only[if_true];refine AA (Bm (AA (BO zi rfl (x:=.ref TO) rfl (AA (DG zi (by simp) λg1 gK s1=>?_)))));have nZ:IsZip g1 z TI TO .ellipsis:=gK;refine AA ?_;simp only[List.zipIdx_cons,List.zipIdx_nil,List.forIn_cons,List.forIn_nil];refine AA (AA (Fd (AA (m:=Builtin.SmallTypes.nextOf (.ref i1)) ?_)));refine nextI (a1.ext s1.extBut (An fh)) (b1.ext s1.extBut lh) hx λg2 HH s2=>AF ?_;have to2:IsPair g2 TO a b:=s2.extBut _ _ lE (s1.extBut _ _ (An fB) to);refine AA (B5 to2 rfl (AA (FF to2 λg3 kT s3=>AA (FK (AF ?_)))));have to3:IsPair g3 TO x b:=kT;refine AA (AA (Fd (AA (m:=Builtin.SmallTypes.nextOf (.ref i2)) ?_)));refine nextI (((a2.ext s1.extBut (An fW)).ext s2.extBut (An gU)).ext s3.extBut (An lC)) (((b2.ext s1.extBut oy).ext s2.extBut oC).ext s3.extBut oz) hy λg4 Nj s4=>AF ?_;have uU:IsPair g4 TO x b:=s4.extBut _ _ lC to3;refine AA (B5 uU rfl (AA (FF uU λg5 pY s5=>AA (FK (AF (AF ?_))))));have uT:IsPair g5 TO x y:=pY;refine AA (B5 uT rfl (AA (wpAny_newTuple ?_)));have sz:g5.objs.size=s.heap.objs.size:=by rw[s5.1,s4.1,s3.1,s2.1,s1.1]
 have pQ:IsZip g5 z TI TO .ellipsis:=s5.extBut _ _ fB (s4.extBut _ _ fW (s3.extBut _ _ fB (s2.extBut _ _ fh nZ)));have k5:∀c o,c≠z->c≠TO->c≠i1->c≠i2->s.heap.get? c=some o->g5.get? c=some o:=λc o c1 c2 c3 c4 e=>s5.extBut _ _ c2 (s4.extBut _ _ c4 (s3.extBut _ _ c2 (s2.extBut _ _ c3 (s1.extBut _ _ c1 e))));have a15:HIt kd g5 i1 t1 (k1+1):=((HH.ext s3.extBut (An lE)).ext s4.extBut gU).ext s5.extBut (An lE);have a25:HIt ke g5 i2 t2 (k2+1):=Nj.ext s5.extBut (An lC);refine AA (m:=Builtin.SmallTypes.ownedTupleHandOut (.ref z) (.ref g5.objs.size)) ?_;unfold Builtin.SmallTypes.ownedTupleHandOut;have HY:IsZip (g5.push {cls:=.type "tuple",data:=.seq #[x,y]}) z TI TO .ellipsis:=AE _ pQ;refine AA (DG HY (by simp) λg7 pP s7=>?_);have HX:IsZip g7 z TI TO (rawInt g5.objs.size):=pP;refine DG HX (by simp) λg8 pO s8=>?_;have HV:IsZip g8 z TI TO (rawInt g5.objs.size):=pO;have up:∀c o,c≠z->g5.get? c=some o->g8.get? c=some o:=λc o c1 e=>s8.extBut _ _ c1 (s7.extBut _ _ c1 (AE _ e));have new:IsPair g8 g5.objs.size x y:=s8.extBut _ _ (Be (AR pQ)) (s7.extBut _ _ (Be (AR pQ)) (AQ _ rfl));have tp:∀{k:Bool} {c:Addr} {us:TH},c≠z->c≠TO->c≠i1->c≠i2->HSq k s.heap c us->HSq k g8 c us:=λ{k c us} c1 c2 c3 c4 ⟨o,e,r⟩=>⟨o,up c o c1 (k5 c o c1 c2 c3 c4 e),r⟩
 have il:∀{k:Bool} {c u:Addr} {n:Nat},c≠z->HIt k g5 c u n->HIt k g8 c u n:=λ{k c u n} c1 ⟨o,e,r⟩=>⟨o,up c o c1 e,r⟩
 refine AF ⟨_,O,?_⟩;have fin:=q g8 ⟨by rw[<- sz];exact HV,up _ _ (An lr) (k5 _ _ (An lr) vz vB vA ti),⟨x,y,up _ _ (An fB) uT⟩,il (An fh) a15,il (An fW) a25,tp lh ve vh vf b1,tp oy oz oC vd b2⟩ (by rw[<- sz];exact new) λc o hc e=>by simp only[List.mem_cons,List.not_mem_nil,or_false,not_or]at hc;obtain⟨c1,c2,c3,c4⟩:=hc;exact up c o c1 (k5 c o c1 c2 c3 c4 e)
 rw[<- sz]at fin;exact fin
def zip_end {Q:Fin->Shared->Prop}(hh:A.handled=none)(D:Far z TI TO i1 i2 t1 t2)(Z:y6 kd ke z TI TO i1 i2 t1 t2 xs ys .none k1 k2 s.heap)(iP:xs[k1]?=none\/ys[k2]?=none)
  (q:∀h' e,xu z TO i1 i2 s.heap h'->(∃o,h'.get? e=some o/\o.cls=.type "StopIteration")->E (.ref e) {s with heap:=h'}):wpAny (model prog w) A (Builtin.«zip.__next__» ⟨[.ref z],[]⟩) Q E s:=by
 obtain⟨nd,f1,f2⟩:=D;simp only[List.nodup_cons,List.mem_cons,List.not_mem_nil,or_false,not_or,List.nodup_nil,and_true,not_false_eq_true]at nd f1 f2;obtain⟨⟨lr,fB,fh,fW⟩,⟨vz,vB,vA⟩,⟨lE,lC⟩,gU⟩:=nd;obtain⟨lh,ve,vh,vf⟩:=f1;obtain⟨oy,oz,oC,vd⟩:=f2;obtain⟨zi,ti,⟨a,b,to⟩,a1,a2,b1,b2⟩:=Z;refine AA (m:=field (.ref z) 2) (BO zi rfl (x:=.bool false) rfl ?_);refine AA (m:=field (.ref z) 3) (BO zi rfl (x:=.ref TI) rfl (AA (B5 ti rfl ?_)));refine AA (m:=Builtin.SmallTypes.ownedTupleIsFree (.ref z)) ?_;unfold Builtin.SmallTypes.ownedTupleIsFree;refine AA (BO zi rfl (x:=.none) rfl (AF ?_));simp only[if_true];refine AA (Bm (AA (BO zi rfl (x:=.ref TO) rfl (AA (DG zi (by simp) λg1 gK s1=>?_)))));have nZ:IsZip g1 z TI TO .ellipsis:=gK;refine AA ?_;simp only[List.zipIdx_cons,List.zipIdx_nil,List.forIn_cons,List.forIn_nil];refine AA (AA (Fd (AA (m:=Builtin.SmallTypes.nextOf (.ref i1)) ?_)));cases hx:xs[k1]? with
 |none=>
  refine nextE hh (a1.ext s1.extBut (An fh)) (b1.ext s1.extBut lh) hx λg2 e s2 ⟨oe,oe1,oe2⟩=>?_;have uR:IsZip g2 z TI TO .ellipsis:=s2 _ _ fh nZ;have ez:e≠z:=λc=>by rw[c,uR]at oe1;cases oe1;simp at oe2
  refine DG uR (by simp) λg3 _ s3=>q g3 e (λc o hc e'=>?_) ⟨oe,s3.extBut _ _ ez oe1,oe2⟩;simp only[List.mem_cons,List.not_mem_nil,or_false,not_or]at hc;exact s3.extBut _ _ hc.1 (s2 _ _ hc.2.2.1 (s1.extBut _ _ hc.1 e'))
 |some x=>
  have hy:ys[k2]?=none:=iP.elim (λc=>by rw[hx]at c;cases c) id;refine nextI (a1.ext s1.extBut (An fh)) (b1.ext s1.extBut lh) hx λg2 HH s2=>AF ?_;have to2:IsPair g2 TO a b:=s2.extBut _ _ lE (s1.extBut _ _ (An fB) to);refine AA (B5 to2 rfl (AA (FF to2 λg3 kT s3=>AA (FK (AF ?_)))));refine AA (AA (Fd (AA (m:=Builtin.SmallTypes.nextOf (.ref i2)) ?_)));refine nextE hh (((a2.ext s1.extBut (An fW)).ext s2.extBut (An gU)).ext s3.extBut (An lC)) (((b2.ext s1.extBut oy).ext s2.extBut oC).ext s3.extBut oz) hy λg4 e s4 ⟨oe,oe1,oe2⟩=>?_;have uQ:IsZip g4 z TI TO .ellipsis:=s4 _ _ fW (s3.extBut _ _ fB (s2.extBut _ _ fh nZ));have ez:e≠z:=λc=>by rw[c,uQ]at oe1;cases oe1;simp at oe2
  refine DG uQ (by simp) λg5 _ s5=>q g5 e (λc o hc e'=>?_) ⟨oe,s5.extBut _ _ ez oe1,oe2⟩;simp only[List.mem_cons,List.not_mem_nil,or_false,not_or]at hc;exact s5.extBut _ _ hc.1 (s4 _ _ hc.2.2.2 (s3.extBut _ _ hc.2.1 (s2.extBut _ _ hc.2.2.1 (s1.extBut _ _ hc.1 e'))))
def y8 {x y:Value}{Q:Option Value->Shared->Prop}(D:Far z TI TO i1 i2 t1 t2)(Z:y6 kd ke z TI TO i1 i2 t1 t2 xs ys .none k1 k2 s.heap)(hx:xs[k1]?=some x)(hy:ys[k2]?=some y)
  (q:∀h',y6 kd ke z TI TO i1 i2 t1 t2 xs ys (rawInt s.heap.objs.size) (k1+1) (k2+1) h'->IsPair h' s.heap.objs.size x y->xu z TO i1 i2 s.heap h'->Q (some (.ref s.heap.objs.size)) {s with heap:=h'}):wpAny (model prog w) A (pyNext (.ref z)) Q E s:=by
 have ty:s.TypeIs (.ref z) "zip":=⟨_,Z.zi,rfl⟩
 unfold pyNext;exact AA (Bj (wpAny_callSpecial?_slot (name:=Str.ofString "__next__") ty Ds (A6 Ds ty PySem.F.entry_zip_next (zip_item D Z hx hy λh' u1 u2 u3=>AF (q h' u1 u2 u3)) (PySem.F.args_zip_next_1 _))))
def y9 {Q:Option Value->Shared->Prop}(hh:A.handled=none)(D:Far z TI TO i1 i2 t1 t2)(Z:y6 kd ke z TI TO i1 i2 t1 t2 xs ys .none k1 k2 s.heap)(iP:xs[k1]?=none\/ys[k2]?=none)
  (q:∀h',xu z TO i1 i2 s.heap h'->Q none {s with heap:=h'}):wpAny (model prog w) A (pyNext (.ref z)) Q E s:=by
 have ty:s.TypeIs (.ref z) "zip":=⟨_,Z.zi,rfl⟩
 unfold pyNext;refine AA (Bj (wpAny_callSpecial?_slot (name:=Str.ofString "__next__") ty Ds (A6 Ds ty PySem.F.entry_zip_next (zip_end hh D Z iP λh' e hk ⟨o,o1,o2⟩=>?_) (PySem.F.args_zip_next_1 _))));exact AA (Bz (T := "StopIteration") (b:=true) ⟨o,o1,o2⟩ EW (AF (q h' hk)))
def zp1 (kd:Bool) (h:Heap) (t1:Addr):Heap:=h.push {cls:=.type (bif kd then "tuple_iterator" else "list_iterator"),data:=.fields #[.ref t1,.int 0 0]}
def zp2 (kd ke:Bool) (h:Heap) (t1 t2:Addr):Heap:=(zp1 kd h t1).push {cls:=.type (bif ke then "tuple_iterator" else "list_iterator"),data:=.fields #[.ref t2,.int 0 0]}
def zp3 (kd ke:Bool) (h:Heap) (t1 t2:Addr):Heap:=(zp2 kd ke h t1 t2).push {cls:=.type "tuple",data:=.seq #[.ref h.objs.size,.ref (zp1 kd h t1).objs.size]}
def zp4 (kd ke:Bool) (h:Heap) (t1 t2:Addr):Heap:=(zp3 kd ke h t1 t2).push {cls:=.type "tuple",data:=.seq #[.none,.none]}
def zp5 (kd ke:Bool) (h:Heap) (t1 t2:Addr):Heap:=(zp4 kd ke h t1 t2).push {cls:=.type "zip",data:=.fields #[.none,.bool false,.bool false,.ref (zp2 kd ke h t1 t2).objs.size,.ref (zp3 kd ke h t1 t2).objs.size]}
def zip_new (kd ke:Bool) (t1 t2:Addr) (xs ys:TH):Meets (Builtin.«zip.__new__» ⟨[.type "zip",.ref t1,.ref t2],[]⟩) (λ_ R s=>HSq kd s.heap t1 xs/\HSq ke s.heap t2 ys/\R (.ok (.ret (.ref (zp4 kd ke s.heap t1 t2).objs.size))) {s with heap:=zp5 kd ke s.heap t1 t2}):=
 .of_wp λprog w A R s h=>by
  obtain⟨hp,g,d,tk,os⟩:=s;obtain⟨u1,u2,h⟩:=h;have Io:=PySem.sub_zip;have T1:HSq kd (Shared.heap ⟨hp,g,d,tk,os⟩) t1 xs:=u1;have T2:HSq ke (Shared.heap ⟨hp.push {cls:=.type (bif kd then "tuple_iterator" else "list_iterator"),data:=.fields #[.ref t1,.int 0 0]},g,d,tk,os⟩) t2 ys:=(by obtain⟨o,e,r⟩:=u2;exact⟨o,AE _ e,r⟩)
  wp_walk using iterK T1,iterK T2
  exact⟨_,O,h⟩
def XO {Q:TB}(h1:HSq kd s.heap t1 xs)(h2:HSq ke s.heap t2 ys)
  (q:∀h' z TI TO i1 i2,Far z TI TO i1 i2 t1 t2->y6 kd ke z TI TO i1 i2 t1 t2 xs ys .none 0 0 h'->(∀b∈[z,TI,TO,i1,i2],s.heap.objs.size<=b)->(∀c o,s.heap.get? c=some o->h'.get? c=some o)->Q (.ref z) {s with heap:=h'}):
  wpAny (model prog w) A (call (.type "zip") [.ref t1,.ref t2]) Q E s:=by
 refine callType_new PySem.F.called_zip ∅ (PySem.F.typeCall_zip_2 _ _) (PySem.F.newCall_zip_2 _ _) (λobj=>PySem.F.args_object_init_3 obj _ _) PySem.F.entry_zip_new (zip_new kd ke t1 t2 xs ys) ⟨h1,h2,?_⟩;have l1:t1<s.heap.objs.size:=by obtain⟨_,e,_⟩:=h1;exact AR e
 have l2:t2<s.heap.objs.size:=by obtain⟨_,e,_⟩:=h2;exact AR e
 have z1:(zp1 kd s.heap t1).objs.size=s.heap.objs.size+1:=DX ..;have z2:(zp2 kd ke s.heap t1 t2).objs.size=s.heap.objs.size+2:=by unfold zp2;rw[Heap.size_push,z1]
 have z3:(zp3 kd ke s.heap t1 t2).objs.size=s.heap.objs.size+3:=by unfold zp3;rw[Heap.size_push,z2]
 have z4:(zp4 kd ke s.heap t1 t2).objs.size=s.heap.objs.size+4:=by unfold zp4;rw[Heap.size_push,z3]
 have kp:∀c o,s.heap.get? c=some o->(zp5 kd ke s.heap t1 t2).get? c=some o:=λc o e=>AE _ (AE _ (AE _ (AE _ (AE _ e))));have g5:(zp5 kd ke s.heap t1 t2).get? (zp4 kd ke s.heap t1 t2).objs.size=some _:=AQ _ rfl;have g4:(zp5 kd ke s.heap t1 t2).get? (zp3 kd ke s.heap t1 t2).objs.size=some _:=AE _ (AQ _ rfl);have g3:(zp5 kd ke s.heap t1 t2).get? (zp2 kd ke s.heap t1 t2).objs.size=some _:=AE _ (AE _ (AQ _ rfl));have g2:(zp5 kd ke s.heap t1 t2).get? (zp1 kd s.heap t1).objs.size=some _:=AE _ (AE _ (AE _ (AQ _ rfl)));have g1:(zp5 kd ke s.heap t1 t2).get? s.heap.objs.size=some _:=AE _ (AE _ (AE _ (AE _ (AQ _ rfl))));refine⟨⟨_,g5,O⟩,q _ _ (zp2 kd ke s.heap t1 t2).objs.size (zp3 kd ke s.heap t1 t2).objs.size s.heap.objs.size (zp1 kd s.heap t1).objs.size ⟨?_,?_,?_⟩ ⟨g5,g3,⟨_,_,g4⟩,⟨_,g1,O,O⟩,⟨_,g2,O,O⟩,?_,?_⟩ ?_ kp⟩
 ·rw[z1,z2,z3,z4];generalize s.heap.objs.size=n;simp
 ·rw[z1,z3,z4];generalize s.heap.objs.size=n at *;have:∀a b:Nat,a<b->¬(a=b):=λa b h=>AZ h;simp only[List.mem_cons,List.not_mem_nil,or_false,not_or];exact⟨this _ _ (Ah l1 (Bt ..)),this _ _ (Ah l1 (Bt ..)),this _ _ l1,this _ _ (Ah l1 (Bt ..))⟩
 ·rw[z1,z3,z4];generalize s.heap.objs.size=n at *;have:∀a b:Nat,a<b->¬(a=b):=λa b h=>AZ h;simp only[List.mem_cons,List.not_mem_nil,or_false,not_or];exact⟨this _ _ (Ah l2 (Bt ..)),this _ _ (Ah l2 (Bt ..)),this _ _ l2,this _ _ (Ah l2 (Bt ..))⟩
 ·obtain⟨o,e,r⟩:=h1;exact⟨o,kp _ _ e,r⟩
 ·obtain⟨o,e,r⟩:=h2;exact⟨o,kp _ _ e,r⟩
 ·rw[z1,z2,z3,z4];generalize s.heap.objs.size=n;intro b hb;simp only[List.mem_cons,List.not_mem_nil,or_false]at hb
  rcases hb with rfl|rfl|rfl|rfl|rfl
  ·exact Bt ..
  ·exact Bt ..
  ·exact Bt ..
  ·exact AI _
  ·exact Bt ..
end
def SqK (b:Bool)(K:Fv)(H:Hp)(a:Addr)(xs:List V):Prop:=bif b then SqT K H a xs else SqL K H a xs
def Inv.sqK {X:Cx}{pins:List (Addr×Obj)}{σ:St}{H:Hp}{s:Shared}{a:Addr}{xs:List V}{kd:Bool}(I:Inv X pins σ H s)(h:SqK kd X.K H a xs):∃its,qh xs its/\HSq kd s.heap a its.toArray/\xs.length<=sizeLine:=by
 cases kd
 ·obtain⟨its,rv,p,l⟩:=I.list h;exact⟨its,rv,p.isList,l⟩
 ·exact I.tuple h
def Inv.sqK_inj {X:Cx}{pins:List (Addr×Obj)}{σ:St}{H:Hp}{s:Shared}{a:Addr}{xs ys:List V}{kd:Bool}(I:Inv X pins σ H s)(h:SqK kd X.K H a xs)(k:SqK kd X.K H a ys):xs=ys:=by
 cases kd
 ·exact I.list_inj h k
 ·exact I.tuple_inj h k
def ItzK (kd ke : Bool)(K : Fv)(p q : Addr) : It :=
  ⟨λi H => ∃xs ys x y, SqK kd K H p xs /\ SqK ke K H q ys /\ xs[i]?=some x /\ ys[i]?=some y,
   λi H v H' => ∃T x y, H T = none /\ v = .ref T /\ H' = upd H T (.tup [x, y]) /\ ∀xs ys, SqK kd K H p xs -> SqK ke K H q ys -> xs[i]?=some x /\ ys[i]?=some y,
   λi H => ∃xs ys, SqK kd K H p xs /\ SqK ke K H q ys /\ (xs.length <= i \/ ys.length <= i)⟩
def Inv.zipped {X:Cx}{pins:List (Addr×Obj)}{σ:St}{H:Hp}{s:Shared}{z TO i1 i2:Addr}{h':Heap}{t':Nat}(I:Inv X pins σ H s)(hf:∀b∈[z,TO,i1,i2],YM X pins H b)(k:xu z TO i1 i2 s.heap h'):Inv X pins σ H {s with heap:=h',toks:=t'}:=by
 have nt:∀b u,H b=some u->b ∉ [z,TO,i1,i2]:=λb u e hb=>by rw[(hf b hb).1]at e;cases e
 have nl:X.env.locals ∉ [z,TO,i1,i2]:=λhb=>(hf _ hb).2.1 rfl;refine I.step (g':=s.gens) (d':=s.drawn) (ch:=[z,TO,i1,i2]) (λb hb=>⟨(hf b hb).2.2.2.1,(hf b hb).2.1,(hf b hb).2.2.2.2.1,(hf b hb).2.2.2.2.2⟩) (λb o _ _ hc e _=>k b o hc e) (λb o _ _ hc e _=>⟨o.slots,k b o hc e⟩) (λ_ _ _ _ n=>n)
  (λb o hc e=>⟨o,k b o hc e⟩) (λ_ _ e=>e) (λ_ _ _ e=>e) (λb ps e=>⟨#[],by rw[e];simp⟩) (λm hm=>?_) (λb u e=>?_) I.bare
 ·obtain⟨o,es,ep,ho,r⟩:=hm;exact⟨o,es,ep,k _ o nl ho,r⟩
 ·refine (I.hok b u e).stay (λc v hc q=>k c v ?_ q) (λ_ q=>q) λ_ _ q=>q
  rcases hc with z|z
  ·rw[z];exact nt b u e
  ·exact nt c _ z
structure ZipTn (kd ke:Bool)(z TI TO i1 i2 t1 t2:Addr)(k:Nat)(h:Heap):Prop where
 zi:IsZip h z TI TO .none
 ti:IsPair h TI (.ref i1) (.ref i2)
 to:∃a b,IsPair h TO a b
 a1:HIt kd h i1 t1 k
 a2:HIt ke h i2 t2 k
def turn_zip {kd ke:Bool}{P:Program}{w:World}{K:Fv}{elts:List Expr}{kk:Nat}{pos:Pos}{z TI TO i1 i2 t1 t2:Addr}(D:Far z TI TO i1 i2 t1 t2):
  Turn P w K (.Tuple elts kk pos) (ItzK kd ke K t1 t2) [z,TI,TO,i1,i2] z (λi h=>ZipTn kd ke z TI TO i1 i2 t1 t2 i h) where
 mem:=by simp
 obj:=λi h st b hb=>by
  obtain⟨u1,u2,⟨a,c,u3⟩,⟨o4,u4,_,d4⟩,⟨o5,u5,_,d5⟩⟩:=st;simp only[List.mem_cons,List.not_mem_nil,or_false]at hb
  rcases hb with rfl|rfl|rfl|rfl|rfl
  ·exact⟨_,u1,λv zz=>by cases zz⟩
  ·exact⟨_,u2,λv zz=>by cases zz⟩
  ·exact⟨_,u3,λv zz=>by cases zz⟩
  ·exact⟨_,u4,λv zz=>by rw[d4]at zz;cases zz⟩
  ·exact⟨_,u5,λv zz=>by rw[d5]at zz;cases zz⟩
 keep:=λi h h' st k=>by obtain⟨u1,u2,⟨a,c,u3⟩,⟨o4,u4,r4⟩,⟨o5,u5,r5⟩⟩:=st;exact⟨k _ (by simp) _ u1,k _ (by simp) _ u2,⟨a,c,k _ (by simp) _ u3⟩,⟨o4,k _ (by simp) _ u4,r4⟩,⟨o5,k _ (by simp) _ u5,r5⟩⟩
 item:=by
  intro X hP hw hK hc i pins s σ H E I hf st hg;subst hP hw hK;obtain⟨xs,ys,x,y,kj,ki,hx,hy⟩:=hg;obtain⟨lH,ox,p1,Kx⟩:=I.sqK kj;obtain⟨bO,ow,p2,gZ⟩:=I.sqK ki;obtain⟨u,hu,ru⟩:=ox.get hx;obtain⟨v,hv,rv⟩:=ow.get hy;refine y8 (s:=s) D ⟨st.zi,st.ti,st.to,st.a1,st.a2,p1,p2⟩ (x:=u) (y:=v) (by simpa using hu) (by simpa using hv) λh' Z hp hk=>⟨_,O,wpAny_letOwnedTupleGo_zip Z.zi λh2 z2 sb=>?_⟩
  have iO:∀b∈[z,TO,i1,i2],YM X pins H b:=λb hb=>hf b (by simp only[List.mem_cons,List.not_mem_nil,or_false]at hb ⊢;rcases hb with e|e|e|e <;> simp[e]);have k2:xu z TO i1 i2 s.heap h2:=λc o hc e=>(sb.2 c (λzz=>hc (by simp[zz]))).trans (hk c o hc e);have I1:Inv X pins σ H {s with heap:=h2}:=I.zipped (t':=s.toks) iO k2;have HU:z<s.heap.objs.size:=AR st.zi;have at2:IsPair h2 s.heap.objs.size u v:=(sb.2 _ (Be HU)).trans hp;have Hn:H s.heap.objs.size=none:=I.hok.fresh (AI _);have I2:Inv X pins σ (upd H s.heap.objs.size (.tup [x,y])) {s with heap:=h2}:=by
   refine I1.adopt Hn (EL I.sz) (Be I.lt) (λxx cc e zz=>?_) (λp hp zz=>?_) ⟨by show 2<=sizeLine;decide,[u,v],.cons ru (.cons rv .nil),⟨_,at2,O,⟨0,O⟩,O⟩⟩
   ·obtain⟨_,q⟩:=I.cell xx cc e;exact absurd q.lt (by rw[zz];exact BA _)
   ·exact absurd (AR (I.pin p hp).1) (by rw[zz];exact BA _)
  have n5:∀b∈[z,TI,TO,i1,i2],b≠s.heap.objs.size:=λb hb zz=>by
   obtain⟨u1,u2,⟨a,c,u3⟩,⟨o4,u4,_⟩,⟨o5,u5,_⟩⟩:=st;simp only[List.mem_cons,List.not_mem_nil,or_false]at hb
   rcases hb with e|e|e|e|e
   ·rw[e]at zz;exact absurd (AR u1) (by rw[zz];exact BA _)
   ·rw[e]at zz;exact absurd (AR u2) (by rw[zz];exact BA _)
   ·rw[e]at zz;exact absurd (AR u3) (by rw[zz];exact BA _)
   ·rw[e]at zz;exact absurd (AR u4) (by rw[zz];exact BA _)
   ·rw[e]at zz;exact absurd (AR u5) (by rw[zz];exact BA _)
  obtain⟨nd,_,_⟩:=D;simp only[List.nodup_cons,List.mem_cons,List.not_mem_nil,or_false,not_or,List.nodup_nil,and_true,not_false_eq_true]at nd;obtain⟨⟨lr,fB,fh,fW⟩,_,_,_⟩:=nd;obtain⟨a,b,to⟩:=Z.to;refine⟨.ref s.heap.objs.size,_,I2,O,⟨_,x,y,Hn,O,O,λIh ys' h1 h2=>?_⟩,⟨z2,(sb.2 _ (An lr)).trans Z.ti,⟨a,b,(sb.2 _ (An fB)).trans to⟩,Z.a1.ext sb.extBut (An fh),Z.a2.ext sb.extBut (An fW)⟩,λb hb=>?_⟩
  ·rw[I.sqK_inj h1 kj,I.sqK_inj h2 ki];exact⟨hx,hy⟩
  ·rw[zJ (n5 b hb)];exact (hf b hb).1
 done:=by intro X hP hw hK hc i pins s σ H E I hf st hg;subst hP hw hK;obtain⟨xs,ys,kj,ki,hx⟩:=hg;obtain⟨lH,ox,p1,Kx⟩:=I.sqK kj;obtain⟨bO,ow,p2,gZ⟩:=I.sqK ki;have l1:=ox.length;have l2:=ow.length;have iO:∀b∈[z,TO,i1,i2],YM X pins H b:=λb hb=>hf b (by simp only[List.mem_cons,List.not_mem_nil,or_false]at hb ⊢;rcases hb with e|e|e|e <;> simp[e]);exact y9 (I.ok.hd hc) D ⟨st.zi,st.ti,st.to,st.a1,st.a2,p1,p2⟩ (by rcases hx with h|h;exact .inl (by simp;lia);exact .inr (by simp;lia)) λh' hk=>⟨rfl,I.zipped (t':=s.toks) iO hk⟩
 self:=λA i s Q E st h=>wpAny_pyIter_zip st.zi h
section
variable {X:Cx}
def bt_zip:bootBuiltins "zip" = some (.type "zip"):=∅
def iZipK (kd ke:Bool)(K:Fv)(ta:TA):TI:=λσ H R=>ta σ H λvs H1=>∃p q xs ys,vs=[.ref p,.ref q]/\SqK kd K H1 p xs/\SqK ke K H1 q ys/\R (ItzK kd ke K p q) H1
def Wb (kd ke:Bool) (K:Fv) {elts:List Expr}{kk:Nat}{fu:Pos}{a b:Expr}{ta:TA}{p pos:Pos}(hg:Gl X "zip") (hm:X.mg "zip" = none) (ha:PA X [a,b] ta) (hs:starEach [a,b] X.env=[(false,eval a X.env),(false,eval b X.env)]:=by rfl) (bZ:starEach [b] X.env=[(false,eval b X.env)]:=by rfl) (hK:X.K=K:=by rfl):
  PI X (.Tuple elts kk fu) (.Call (.Name "zip" p) [a,b] [] pos) (iZipK kd ke K ta):=by
 subst hK;intro pins s σ H R I h;refine Call_ (ZC I hg hm bt_zip (BN (thn (ha pos pins s σ H _ I h) λus s1 ⟨vs,H1,I1,r1,q1⟩=>?_) (by rw[hs,bZ]) (by rw[bZ];rfl)));obtain⟨p1,p2,xs,ys,e,kj,ki,q⟩:=q1;subst e;obtain⟨u1,u2,rfl,r1,r2⟩:=Xv r1;cases r1;cases r2;obtain⟨lH,ox,t1,_⟩:=I1.sqK kj;obtain⟨bO,ow,t2,_⟩:=I1.sqK ki;refine XO t1 t2 λh' z TI TO i1 i2 D Z new kp=>wpAny_pyIter_zip Z.zi ?_;have I2:Inv X pins σ H1 {s1 with heap:=h'}:=I1.kept (t':=s1.toks) kp;exact⟨z,[z,TI,TO,i1,i2],_,ItzK kd ke X.K p1 p2,H1,O,I2,turn_zip D,⟨Z.zi,Z.ti,Z.to,Z.a1,Z.a2⟩,λb hb=>I1.fpOk (new b hb) (I1.hok.fresh (new b hb)),q⟩
abbrev Itz:=ItzK true true
end
section
variable {X:Cx}
def W9:OpR X (compareOp .LtE) (λx y H Q=>∃i j,x=.str i/\y=.str j/\Q (.bl (!decide (j.cps.toList<i.cps.toList))) H):=by intro pins s σ H x y v u Q I rx ry h;obtain⟨i,j,rfl,rfl,q⟩:=h;obtain⟨t,rfl⟩:=rx;obtain⟨t',rfl⟩:=ry;exact PySem.P.le_str (qd I q rfl)
end
def Ya (H:Hp):Nat->V->V->Prop
 |0,v,u=>v=u/\qV v=true
 |n+1,v,u=>(v=u/\qV v=true)\/∃a b xs ys,v=.ref a/\u=.ref b/\H a=some (.tup xs)/\H b=some (.tup ys)/\Paired (Ya H n) xs ys
def Q2 {v:V}(h:qV v=true):eqV v v=true:=by
 cases v with
 |non=>rfl
 |bl b=>simp[eqV]
 |int i=>simp[eqV]
 |str x=>simp[eqV]
 |_=>cases h
theorem Paired.at {α β:Type}{F:α->β->Prop}:∀{cK:List α}{cJ:List β},Paired F cK cJ->∀(i:Nat) (x:α) (y:β),cK[i]?=some x->cJ[i]?=some y->F x y
 |_,_,.nil,i,x,y,h,_=>by simp at h
 |_,_,.cons r t,0,x,y,h,k=>by simp at h k;subst h k;exact r
 |_,_,.cons r t,i+1,x,y,h,k=>Paired.at t i x y (by simpa using h) (by simpa using k)
def TV:=@Paired.at
section
variable {X:Cx}{pins:List (Addr×Obj)}{σ:St}{H:Hp}{s:Shared}
def Jk {A:Around}{n:Nat}{xs ys:List V}{us vs:TF}(ih:∀{v u:V}{v' u':Value},RelV v v'->RelV u u'->Ya H n v u->SeqAt.EqAt A s v' u' true)(r1:qh xs us)(r2:qh ys vs)(pr:Paired (Ya H n) xs ys)(j:Nat)(h1:j<us.toArray.size)(h2:j<vs.toArray.size):
  SeqAt.EqAt A s us.toArray[j] vs.toArray[j] true:=by
 have l1:=r1.length;have l2:=r2.length;have g1:j<us.length:=by simpa using h1
 have g2:j<vs.length:=by simpa using h2
 have k1:xs[j]?=some (xs.getD j .non):=by simp[List.getD,show j<xs.length by lia]
 have k2:ys[j]?=some (ys.getD j .non):=by simp[List.getD,show j<ys.length by lia]
 obtain⟨u,e1,q1⟩:=r1.get k1;obtain⟨v,e2,q2⟩:=r2.get k2;have w1:us.toArray[j]=u:=by rw[AC g1]at e1;simpa using AH e1
 have w2:vs.toArray[j]=v:=by rw[AC g2]at e2;simpa using AH e2
 rw[w1,w2];exact ih q1 q2 (TV pr j _ _ k1 k2)
theorem YV (I:Inv X pins σ H s):∀(n:Nat) {A:Around}{v u:V}{v' u':Value},A.units+n<cLine->RelV v v'->RelV u u'->Ya H n v u->SeqAt.EqAt A s v' u' true
 |0,A,v,u,v',u',_,r1,r2,h=>by obtain⟨rfl,f⟩:=h;have:=YS (A:=A) (s:=s) r1 r2 f f;rw[Q2 f]at this;exact this
 |n+1,A,v,u,v',u',hu,r1,r2,h=>by
  rcases h with ⟨rfl,f⟩|⟨a,b,xs,ys,rfl,rfl,ha,hb,pr⟩
  ·have:=YS (A:=A) (s:=s) r1 r2 f f;rw[Q2 f]at this;exact this
  ·cases r1;cases r2;by_cases ab:a=b
   ·subst ab;exact EM _
   ·obtain⟨_,us,q1,p1⟩:=I.hok a _ ha;obtain⟨_,vs,q2,p2⟩:=I.hok b _ hb;have ln:=Ac pr;have l1:=q1.length;have l2:=q2.length;have z:=Ep (A:=A) (s:=s) (e:=λ_=>true) p1.isTup p2.isTup ⋯ (Jk (A:=A.in1) (λ{v u v' u'} a1 a2 a3=>YV I n (A:=A.in1) (by show A.units+1+n<cLine;lia) a1 a2 a3) q1 q2 pr);have e:((List.range (min us.toArray.size vs.toArray.size)).all (λ_=>true)&&us.toArray.size==vs.toArray.size)=true:=by simp;lia
    rw[e]at z;exact EY ab z
def rNeD (n:Nat):R2:=λx y H Q=>∃a b xs ys,x=.ref a/\y=.ref b/\H a=some (.tup xs)/\H b=some (.tup ys)/\Paired (Ya H n) xs ys/\Q (.bl false) H
def op_neD (n:Nat){k:Nat}(hr:ZP k X.A)(hn:n<=20):OpR X (compareOp .NotEq) (rNeD n):=by
 intro pins s σ H x y v u Q I rx ry h;obtain⟨a,b,xs,ys,rfl,rfl,ha,hb,pr,q⟩:=h;cases rx;cases ry;have hu:X.A.units+64<cLine:=hr.units;obtain⟨_,us,q1,p1⟩:=I.hok a _ ha;obtain⟨_,vs,q2,p2⟩:=I.hok b _ hb;have ln:=Ac pr;have l1:=q1.length;have l2:=q2.length;have z:=SeqAt.RcNeAt.tuples (A:=X.A) (s:=s) (e:=λ_=>true) p1.isTup p2.isTup ⋯ (Jk (A:=X.A.in1) (λ{v u v' u'} a1 a2 a3=>YV I n (A:=X.A.in1) (by show X.A.units+1+n<cLine;lia) a1 a2 a3) q1 q2 pr);have e:(!((List.range (min us.toArray.size vs.toArray.size)).all (λ_=>true)&&us.toArray.size==vs.toArray.size))=false:=by simp;lia
 rw[e]at z;exact z X.prog X.w _ _ ⟨.bl _,H,I,O,q⟩
end
def for_zip {K:Fv}{p q:Addr}{xs ys:List V}{n a b:Nat}{tb:TS}{D:xj}{σ:St}{H:Hp}(Pv:Nat->St->Hp->Prop)(hn:n=min xs.length ys.length)(h0:Pv 0 σ H)(hl:∀i σ H,i<=n->Pv i σ H->SqT K H p xs/\SqT K H q ys)
  (hs:∀i x y σ H T,i<n->xs[i]?=some x->ys[i]?=some y->H T=none->Pv i σ H->tb {D with nx:=Pv (i+1),ct:=Pv (i+1),bk:=D.nx} ((σ.set a (some x)).set b (some y)) (upd H T (.tup [x,y])))(hd:∀σ H,Pv n σ H->D.nx σ H):
  ∃W:Nat->Nat->St->Hp->Prop,(∃m,W 0 m σ H)/\∀i m σ H,W i m σ H ->
   ((Itz K p q).stop i H/\D.nx σ H)\/((Itz K p q).go i H/\∃N:St->Hp->Prop,(∀af H',N af H'->∃m',m'<m/\W (i+1) m' af H')/\∀x H',(Itz K p q).yld i H x H'->(gTup K 2 (ZD (qN a) (ZD (qN b) gNil))) x σ H' λbR H2=>tb {D with nx:=N,ct:=N,bk:=D.nx} bR H2):=by
 refine⟨λi m σ H=>m=n-i/\i<=n/\Pv i σ H,⟨n,by simp,BC _,h0⟩,?_⟩;rintro i m σ H ⟨rfl,hi,pp⟩;obtain⟨q1,q2⟩:=hl i σ H hi pp;by_cases aA:i<n
 ·have k1:xs[i]?=some (xs.getD i .non):=by simp[List.getD,show i<xs.length by lia]
  have k2:ys[i]?=some (ys.getD i .non):=by simp[List.getD,show i<ys.length by lia]
  refine .inr ⟨⟨xs,ys,_,_,q1,q2,k1,k2⟩,Pv (i+1),λaf H' p'=>⟨n-(i+1),⋯,O,aA,p'⟩,?_⟩;rintro v H2 ⟨T,x,y,hT,rfl,rfl,dD⟩;obtain⟨e1,e2⟩:=dD xs ys q1 q2;exact⟨T,_,O,TU ze,O,_,_,O,_,_,O,O,hs i x y σ H T aA e1 e2 hT pp⟩
 ·have e:i=n:=⋯;subst e;exact .inl ⟨⟨xs,ys,q1,q2,⋯⟩,hd σ H pp⟩
end L2
namespace L4
open PySem L2
def Off (p:Addr)(H H':Hp):Prop:=∀b o,b≠p->H b=some o->H' b=some o
def Tk (H H':Hp):Prop:=∀b xs,H b=some (.tup xs)->H' b=some (.tup xs)
def Off.refl {p:Addr}{H:Hp}:Off p H H:=λ_ _ _ h=>h
def Off.trans {p:Addr}{H H1 H2:Hp}(a:Off p H H1)(b:Off p H1 H2):Off p H H2:=λc o n h=>b c o n (a c o n h)
def Off.put {p:Addr}{H:Hp}{o:HO}:Off p H (upd H p o):=λc u n h=>by rw[zJ n];exact h
def Off.new {p t:Addr}{H:Hp}{o:HO}(h:H t=none):Off p H (upd H t o):=λc u n q=>by rw[zJ (zN q h)];exact q
def TX:=@Off.new
def Tk.trans {H H1 H2:Hp}(a:Tk H H1)(b:Tk H1 H2):Tk H H2:=λc xs h=>b c xs (a c xs h)
def Tk.refl {H:Hp}:Tk H H:=λ_ _ h=>h
def Tk.put {t:Addr}{H:Hp}{xs:List V}{o:HO}(h:H t=some (.lst xs)):Tk H (upd H t o):=λc u q=>by rw[zJ (ne_of q h (by intro z;cases z))];exact q
def TY:=@Tk.put
def zf {H:Hp}{p:Addr}(h:H p=none)(o:HO):zH H (upd H p o):=λb u q=>by rw[zJ (zN q h)];exact q
def Off.fresh {p f:Addr}{H H':Hp}{o:HO}(h:Off p H H')(n:H f=none):Off p H (upd H' f o):=λb u hb q=>by rw[zJ (zN q n)];exact h b u hb q
def Off.of {p:Addr}{H H':Hp}(s:zH H H'):Off p H H':=λb o _ q=>s b o q
def TZ:=@Off.of
def Tk.of {H H':Hp}(s:zH H H'):Tk H H':=λb xs q=>s b _ q
def Ta:=@Tk.of
def take_snoc {α:Type}{xs:List α}{i:Nat}{x:α}(h:xs[i]?=some x):xs.take (i+1)=xs.take i++[x]:=by rw[List.take_add_one,h];rfl
def zy {n:Nat}(h:n<=1000):n<=sizeLine:=CZ (zt h)
end L4
namespace Fr
end Fr
namespace Fr
end Fr
namespace L4
open PySem L2
def _root_.L2.zH.put {H H':Hp}{l:Addr}{o:HO}(h:zH H H')(n:H l=none):zH H (upd H' l o):=λb u e=>by rw[zJ (zN e n)];exact h b u e
end L4
namespace L2
open PySem PySem.Spec PyProof.Rows
variable {X:Cx}
def YW {x:Str}{v:V}{pos:Pos}(hg:Gl X x) (hm:∃u,X.mg x=some u/\RelV v u) (hd:(x==("__debug__" : Str))=false:=by decide):PE X (.Name x pos) (tC v):=by obtain⟨u,h,r⟩:=hm;exact pe_glob hg h r hd
end L2
namespace HT
open PySem PyProof.Rows
open PySem.SeqAt
open PySem.AutoSeq1 (wpAny_loadPart')
open PySem.MeetsSeq PySem.MeetsSeq2 PySem.MeetsSeq3
variable {prog:Program}{w:World}{A:Around}{E:TB}{s:Shared}
def getItem_tuple_whole {t sl:Addr}{items:TH}{vl vu:Value}{lo hi:Option Int}{Q:TB}(ht:IsTup s.heap t items)(hs:s.heap.IsSliceOf sl vl vu .none)(pl:IsPart vl lo)(pu:IsPart vu hi)
  (hw:sIx items.size 0 lo=0/\sIx items.size items.size hi=items.size)
  (h:Q (.ref t) s):wpAny (model prog w) A (getItem (.ref t) (.ref sl)) Q E s:=by
 obtain⟨os,iB,d9,fm⟩:=id hs;have tY:s.TypeIs (.ref sl) "slice":=⟨os,iB,d9⟩
 unfold getItem
 try with_reducible refine BL ?_
 first|refine AA (AF ?_)|skip
 refine AA (wpAny_sequenceKey ht.typeIs ∅ ?_);refine AA (wpAny_callSpecial?_slot (name:=Str.ofString "__getitem__") ht.typeIs Bo
  (A6 Bo ht.typeIs entry_tuple_getitem ?_ (args_tuple_getitem _ _)))
 show wpAny _ _ (Builtin.Tuple.tupleItemsOf (.ref t) >>= _) _ _ s;refine AA (tupleItemsOf_ ht ?_);refine AA (CQ tY ?_);rw[if_pos ∅];refine AA (sliceApplied_gen hs pl pu ?_);have rM:(((sIx items.size 0 lo:Nat):Int)==0&&(1:Int)==1&&(sIx items.size items.size hi-sIx items.size 0 lo)==items.size)=true:=by rw[hw.1,hw.2];simp
 show wpAny _ _ (if (((sIx items.size 0 lo:Nat):Int)==0&&(1:Int)==1&&(sIx items.size items.size hi-sIx items.size 0 lo)==items.size)=true then _ else _) _ _ s;rw[if_pos rM];refine AA (m:=Builtin.Tuple.tupleIsExact _) (AA (CQ ht.typeIs (AF ?_)));rw[if_pos ∅]
 first
  |exact AA (Bm (AF ⟨_,rfl,AF h⟩))
  |exact Bm (AF ⟨_,rfl,AF h⟩)
  |exact AA (Bm ⟨_,rfl,AF h⟩)
  |exact AF ⟨_,rfl,AF h⟩
end HT
namespace L2
open PySem PySem.Spec PyProof.Rows
variable {X:Cx}
def rSlTW (K:Fv):V->Option Int->Option Int->Hp->VK->Prop:=λx lo hi H Q=>∃a xs,x=.ref a/\SqT K H a xs /\
 (HT.sIx xs.length 0 lo=0/\HT.sIx xs.length xs.length hi=xs.length)/\Q (.ref a) H
def sl_tupW:SlR X (rSlTW X.K):=by
 intro pins s σ H x v vl vu lo hi sl Q I rx hs pl pu h;obtain⟨a,xs,rfl,hx,hw,q⟩:=h;cases rx;obtain⟨its,r,ht,hz⟩:=I.tuple hx;have hlen:its.toArray.size=xs.length:=by rw[Ao];exact r.length.symm
 refine⟨"tuple",_,Bo.lookup,ht.typeIs,?_⟩;exact HT.getItem_tuple_whole ht hs pl pu (by rw[hlen];exact hw) ⟨.ref a,H,I,O,q⟩
section
variable {X:Cx}
def rCatA (K:Fv):R2:=λx y H Q=>∃a b xs ys,x=.ref a/\y=.ref b/\SqT K H a xs/\SqT K H b ys/\xs.length+ys.length<=sizeLine /\
 (xs=[]->Q (.ref b) H)/\(xs≠[]->ys=[]->Q (.ref a) H)/\(xs≠[]->ys≠[]->∀p,H p=none->Q (.ref p) (upd H p (.tup (xs++ys))))
def op_catA (K:Fv)(hK:X.K=K:=by rfl):OpR X (binaryOp .Add) (rCatA K):=by
 subst hK;intro pins s σ H x y v u Q I rx ry h;obtain⟨a,b,xs,ys,rfl,rfl,ha,hb,hz,q0,q1,q2⟩:=h;by_cases hx:xs=[]
 ·cases rx;cases ry;obtain⟨its,r1,p1,_⟩:=I.tuple ha;obtain⟨bO,r2,p2,_⟩:=I.tuple hb;obtain⟨⟨cls,dd,data,sl⟩,ho,hc,n,hd⟩:=id p1;obtain⟨⟨uH,pJ,data2,kf⟩,fF,nq,n2,hd2⟩:=id p2;simp only at hc hd nq hd2;subst hc hd nq hd2;have hv:its=[]:=(qh.nil_iff r1).mpr hx;exact concat_meets ⟨_,ho,O⟩ ⟨_,fF,O⟩ noFill_tuple_add seq_tuple_add Ed Eb (ES _ _)
   (tuple_addW0 a b its.toArray bO.toArray n n2 dd pJ sl kf (by simp[hv])) ⟨ho,fF,⟨.ref b,H,I,rfl,q0 hx⟩⟩
 ·exact op_catT pins s σ H _ _ v u Q I rx ry ⟨a,b,xs,ys,O,O,ha,hb,hx,hz,q1 hx,q2 hx⟩
end
end L2
namespace L4
open PySem L2
open PySem L2 PySem.StrLaws
def Small (x:Str):Prop:=∀c∈x.cps.toList,97<=c/\c<=122
def Z7 {α:Type}{K:Fv}{a D:Addr}{t:Nat}{te:TE}{az:St}{H1:Hp}{Q:VK}(as:List α)(g h:α->V)(ha:H1 a=some (.tup (as.map g)))(hl:as.length<=1000)(hD:H1 D=none)
  (he:∀z∈as,∀H' Q',zH H1 H'->(∀ck,zH H' ck->Q' (h z) ck)->te (az.set t (some (g z))) H' Q')
  (q:∀H',zH H1 H'->H' D=some (.lst (as.map h))->Q (.ref D) H'):jd (Itt K a) (qN t) tYes te az H1 Q D:=by
 refine Q1 (xs:=as.map g) (λi ys H'=>zH H1 H'/\ys=(as.take i).map h) ⟨zf hD _,O⟩ (λi ys H' hh _=>TU (hh.1 _ _ ha)) ?_ ?_
 ·rintro i ys H' x hx ⟨s1,rfl⟩ br;have hi:i<(as.map g).length:=(AD.mp hx).1;rw[AG]at hx;obtain⟨z,hz,rfl⟩:=Aj.mp hx;refine yes (he z (AL hz) H' _ s1 λck s2=>?_);rw[AB]at hi;refine Zx (by rw[AB];exact hi) qG (s2 _ _ br) (by rw[AB,Ae];exact zt ⋯) ⟨λb o qb=>?_,?_⟩
  ·rw[zJ (zN qb hD)];exact s2 b o (s1 b o qb)
  ·rw[take_snoc hz,AO];rfl
 ·rintro ys H' ⟨s1,rfl⟩ br;rw[AB,Ak]at br;exact q H' s1 br
def ZR {α:Type}{K:Fv}{a D:Addr}{t:Nat}{te:TE}{az:St}{H1:Hp}{Q:VK}(as:List α)(g h:α->V)(ha:H1 a=some (.lst (as.map g)))(hl:as.length<=1000)(hD:H1 D=none)
  (he:∀z∈as,∀H' Q',zH H1 H'->(∀ck,zH H' ck->Q' (h z) ck)->te (az.set t (some (g z))) H' Q')
  (q:∀H',zH H1 H'->H' D=some (.lst (as.map h))->Q (.ref D) H'):jd (Itl K a) (qN t) tYes te az H1 Q D:=by
 refine Zd (xs:=as.map g) (λi ys H'=>zH H1 H'/\ys=(as.take i).map h) ⟨zf hD _,O⟩ (λi ys H' hh _=>TR (hh.1 _ _ ha)) ?_ ?_
 ·rintro i ys H' x hx ⟨s1,rfl⟩ br;have hi:i<(as.map g).length:=(AD.mp hx).1;rw[AG]at hx;obtain⟨z,hz,rfl⟩:=Aj.mp hx;refine yes (he z (AL hz) H' _ s1 λck s2=>?_);rw[AB]at hi;refine Zx (by rw[AB];exact hi) qG (s2 _ _ br) (by rw[AB,Ae];exact zt ⋯) ⟨λb o qb=>?_,?_⟩
  ·rw[zJ (zN qb hD)];exact s2 b o (s1 b o qb)
  ·rw[take_snoc hz,AO];rfl
 ·rintro ys H' ⟨s1,rfl⟩ br;rw[AB,Ak]at br;exact q H' s1 br
def map_str {z:Str}{D:Addr}{t:Nat}{te:TE}{az:St}{H1:Hp}{Q:VK}(h:Nat->V)(hl:z.length<=1000)(hD:H1 D=none)
  (he:∀c∈z.cps.toList,∀H' Q',zH H1 H'->(∀ck,zH H' ck->Q' (h c) ck)->te (az.set t (some (.str ⟨#[c]⟩))) H' Q')
  (q:∀H',zH H1 H'->H' D=some (.lst (z.cps.toList.map h))->Q (.ref D) H'):jd (Its z) (qN t) tYes te az H1 Q D:=by
 refine comp_str (λi ys H'=>zH H1 H'/\ys=(z.cps.toList.take i).map h) ⟨zf hD _,O⟩ ?_ ?_
 ·rintro i ys H' c hc ⟨s1,rfl⟩ br;have hi:i<z.cps.size:=(Fu.mp hc).1;have iS:z.cps.toList[i]?=some c:=by simpa using hc
  have hs:z.cps.size=z.length:=rfl;refine yes (he c (AL iS) H' _ s1 λck s2=>?_);refine Zx hi qG (s2 _ _ br) (by rw[AB,Ae];exact zt ⋯) ⟨λb o qb=>?_,?_⟩
  ·rw[zJ (zN qb hD)];exact s2 b o (s1 b o qb)
  ·rw[take_snoc iS,AO];rfl
 ·rintro ys H' ⟨s1,rfl⟩ br;rw[BX (by simp)]at br;exact q H' s1 br
def trues {α:Type}(as:List α):as.map (λ_=>V.bl true)=(as.map λ_=>true).map V.bl:=by rw[AW];rfl
def XQ {α:Type}(as:List α):(as.map λ_=>true).all id=true:=by rw[BB];intro x hx;obtain⟨_,_,rfl⟩:=AK.mp hx;rfl
def zH.rfl' {H:Hp}:zH H H:=λ_ _ h=>h
inductive Th where
 |non
 |bl (b:Bool)
 |int (i:Int)
 |str (x:Str)
 |lst
 |dct
 |tup (ts:List Th)
def tyTh:Th->Value
 |.non=>.type "NoneType"
 |.bl _=>.type "bool"
 |.int _=>.type "int"
 |.str _=>.type "str"
 |.lst=>.type "list"
 |.dct=>.type "dict"
 |.tup _=>.type "tuple"
def isStrB:Th->Bool
 |.str _=>true
 |_=>false
theorem kit_str {K:Fv}(t:Th):PySem.W.kitOne K (tyTh t) (.type "str")=some (isStrB t):=by cases t <;> first|rfl|exact YU _
end L4
namespace L2
open PySem PySem.Spec PyProof.Rows
open Builtin
end L2
namespace L4
open PySem L2
open PySem L2 PySem.StrLaws
end L4
namespace L2
open PySem PySem.Spec PyProof.Rows
open PySem PySem.Spec PyProof.Rows PySem.Builtin PySem.Builtin.Str
section
variable {X:Cx}
def Wc:OpR X (binaryOp .Mult) (λx y H Q=>∃(i:Str) (n:Int),x=.str i/\y=.int n/\0<=n/\n<=100/\i.length<=10/\Q (.str (Txt.mul i n)) H):=by
 intro pins s σ H x y v u Q I rx ry h;obtain⟨i,n,rfl,rfl,n0,n1,il,q⟩:=h;obtain⟨t,rfl⟩:=rx;obtain⟨t',rfl⟩:=ry;refine SB.mul ⟨by simp;lia,λh1 _=>?_,λh1 _=>?_⟩ λt' k=>⟨.str _,H,I.tok _,⟨_,O⟩,q⟩
 ·have h2:(2^63-1:Int)/100<=(2^63-1)/n:=by
   rw[Int.le_ediv_iff_mul_le ⋯];have h3:(2^63-1:Int)/100*n<=(2^63-1:Int)/100*100:=Int.mul_le_mul_of_nonneg_left n1 ∅;have h4:(2^63-1:Int)/100*100<=2^63-1:=by decide
   lia
  have h5:(10:Int)<=(2^63-1:Int)/100:=by decide
  lia
 ·have:i.length*n.toNat<=10*100:=Nat.mul_le_mul il ⋯;unfold tooLong sizeLine;exact Ag ⋯
end
end L2
namespace L4
open PySem L2 PySem.StrLaws
open PySem L2
end L4
namespace L2
open PySem PySem.Spec PyProof.Rows
section
variable {X:Cx}
def bt_min:bootBuiltins "min" = some (.builtin "min"):=∅
def xw (K:Fv) (hc:X.calm=true):qU X (.builtin "min") (λxs H Q=>∃i j,xs=[.int i,.int j]/\Q (.int (if j<i then j else i)) H):=Xx hc
end
def iteDT {c A B:Prop}[Decidable c] (hc:decide c=true)(h:A):if decide c=true then A else B:=by rw[if_pos hc];exact h
def iteDF {c A B:Prop}[Decidable c] (hc:decide c=false)(h:B):if decide c=true then A else B:=by rw[if_neg (by rw[hc];exact AV)];exact h
end L2
namespace L4
open PySem L2
end L4
namespace Fr
end Fr
namespace PySem
open Sem (wp)
section
variable {prog:Program}{w:World}{A:Around}{E:TB}{s:Shared}
def wpAny_collect_range {Q:List Value->Shared->Prop}{it:Addr}{a b c:Int}{t u v:Tok}{n:Nat}(hh:A.handled=none)(hr:IsRange s.heap it a b c t u v)(bY:Builtin.Range.small a b c=true)
  (hn:Builtin.Range.rangeSize a b c=n)(hlen:n<=2^24)
  (hQ:∀h' tk (acc:TH),(∀b o',s.heap.get? b=some o'->h'.get? b=some o')->ItemsOf (λi v=>∃t,v=.int (a+i*c) t) acc n->Q acc.toList {s with heap:=h',toks:=tk}):
  wpAny (model prog w) A (collect (.ref it)) Q E s:=by
 unfold collect;refine AA (wpAny_runValue (CJ F.entry_proto_collect ?_));rw[Bx F.plain_proto_collect _];show wpAny _ A.in1 (newList [] >>= λl=>again (.builtin "list.__iadd__" ⟨[l,.ref it],[]⟩)) _ _ s;refine AA (A3 ?_);refine AF ⟨CS F.plain_list_iadd _,CJ F.entry_list_iadd ?_⟩;rw[Bx F.plain_list_iadd _];show wpAny _ A.in1 (Builtin.List.listExtendWith (.ref s.heap.objs.size) (.ref it) (.ref s.heap.objs.size)) _ _ _;have hS:(s.heap.push {cls:=.type "list",data:=.seq ([]:TF).toArray}).get? s.heap.objs.size=some {cls:=.type "list",data:=.seq #[] 0}:=AQ _ rfl;have nM:∀(s':Shared),(∃h' tk acc c',s' = {s with heap:=h',toks:=tk}/\(∀b o,b≠s.heap.objs.size->(s.heap.push {cls:=.type "list",data:=.seq ([]:TF).toArray}).get? b=some o->h'.get? b=some o)/\h'.get? s.heap.objs.size=some {cls:=.type "list",dict:=none,data:=.seq acc c',slots:=#[]}/\ItemsOf (λi v=>∃t,v=.int (a+i*c) t) acc n)->wpAny (model prog w) A (match Value.ref s.heap.objs.size with
   |Value.ref a=>do
    match (<- load a).data with
     |Data.seq xs _=>pure xs.toList
     |_=>unsupported "internal:collect"
   |_=>unsupported "internal:collect") Q E s':=by
  rintro s' ⟨h',tk,acc,c',rfl,kp,e,aj⟩;show wpAny _ A (load s.heap.objs.size >>= _) _ _ _;refine AA (wpAny_load e ?_);refine AF ?_;exact hQ h' tk acc (λb o' hb=>kp b o' (AZ (AR hb)) (AE _ hb)) aj
 refine CD (wpAny_extend_range (A:=A) (R:=λr s'=>r=.ok (.ret (.ref s.heap.objs.size))/\∃h' tk acc c',s' = {s with heap:=h',toks:=tk}/\(∀b o,b≠s.heap.objs.size->(s.heap.push {cls:=.type "list",data:=.seq ([]:TF).toArray}).get? b=some o->h'.get? b=some o)/\h'.get? s.heap.objs.size=some {cls:=.type "list",dict:=none,data:=.seq acc c',slots:=#[]}/\ItemsOf (λi v=>∃t,v=.int (a+i*c) t) acc n)
  (s:={s with heap:=s.heap.push {cls:=.type "list",data:=.seq ([]:TF).toArray}}) hh (AE _ hr) bY hn hlen _ _ 0 hS λh' tk aI c' k1 k2 k3=>⟨rfl,h',tk,aI,c',rfl,k1,k2,k3⟩) (λfin s' h=>?_) (λe s' h=>?_)
 ·cases fin with
  |done f=>obtain⟨e,h⟩:=h;cases e;exact nM _ h
  |again c'=>exact⟨h.1,D8 h.2 λr gN hr=>by obtain⟨rfl,hr⟩:=hr;exact nM _ hr⟩
 ·exact absurd h.1 (by simp)
end
def meets_tuple_new_range (l:Addr)(a b c:Int)(t u v:Tok)(n:Nat)(bY:Builtin.Range.small a b c=true)(hn:Builtin.Range.rangeSize a b c=n)(hlen:n<=2^20):
  Meets (Builtin.«tuple.__new__» ⟨[.type "tuple",.ref l],[]⟩)
   (λA R s=>A.handled=none/\IsRange s.heap l a b c t u v/\∀(h':Heap) (tk:Nat) (acc:TH),(∀b o',s.heap.get? b=some o'->h'.get? b=some o')->ItemsOf (λi v=>∃t,v=.int (a+i*c) t) acc n->R (.ok (.ret (.ref h'.objs.size))) {s with heap:=h'.push {cls:=.type "tuple",data:=.seq acc},toks:=tk}):=
 .of_wp λprog w A R s h=>by
  obtain⟨hp,g,d,tk,os⟩:=s;obtain⟨hh,ht,h⟩:=h;have r8:=sub_tuple_self;have v9:=init_tuple_lookup;have hmh:=madeHere_tuple;have hT:Shared.TypeIs ⟨hp,g,d,tk,os⟩ (.ref l) "range":=⟨_,ht,rfl⟩
  wp_walk using AutoSeq1.wpAny_loadPart' ht,CQ hT,wpAny_collect_range (A:=A.in1) hh ht bY hn ⋯
  intro h' tk' acc hk aj;show wpAny _ _ (Builtin.Tuple.tupleExact acc.toList.toArray >>= λv=>ret v) _ _ _;unfold Builtin.Tuple.tupleExact;have hsz:acc.size<=sizeLine:=by rw[aj.1];exact Ar hlen ∅
  refine AA (A3 ?_ (by show acc.toList.toArray.size<=sizeLine;simpa using hsz));refine AF ⟨_,O,?_⟩;have e:acc.toList.toArray=acc:=by simp
  rw[e];exact h h' tk' acc hk aj
section
variable {prog:Program}{w:World}{A:Around}{E:TB}{s:Shared}
def call_tuple_range {l:Addr}{a b c:Int}{t u v:Tok}{n:Nat}{Q:TB}(hh:A.handled=none)(hr:IsRange s.heap l a b c t u v)(bY:Builtin.Range.small a b c=true)(hn:Builtin.Range.rangeSize a b c=n)(hlen:n<=2^20)
  (h:∀(h':Heap) (tk:Nat) (acc:TH),(∀b o',s.heap.get? b=some o'->h'.get? b=some o')->ItemsOf (λi v=>∃t,v=.int (a+i*c) t) acc n->Q (.ref h'.objs.size) {s with heap:=h'.push {cls:=.type "tuple",data:=.seq acc},toks:=tk}):
  wpAny (model prog w) A (call (.type "tuple") [.ref l]) Q E s:=
 callType_new F.called_tuple ∅ (F.typeCall_tuple_1 _) (F.newCall_tuple_1 _) (λobj=>F.args_object_init_2 obj _) F.entry_tuple_new
  (meets_tuple_new_range l a b c t u v n bY hn hlen) ⟨hh,hr,λh' tk acc hk aj=>⟨⟨_,AQ _ rfl,rfl⟩,h h' tk acc hk aj⟩⟩
end
end PySem
namespace PySem.SeqAt
open PySem
def wpAny_forRange {M:Model}{A:Around}{E:TB}{s:Shared}{β:Type}{a b:Nat}(f:Nat->β->Sem (ForInStep β))(I:Nat->β->Shared->Prop)(Q:β->Shared->Prop)
  (turn:∀i c s,a<=i->i<b->I i c s->wpAny M A (f i c) (λr s'=>match r with|.yield c'=>I (i+1) c' s'|.done c'=>Q c' s') E s)
  (fin:∀c s,I (max a b) c s->Q c s)(c:β)(h:I a c s):wpAny M A (forIn [a:b] c f) Q E s:=by
 rw[Std.Legacy.Range.forIn_eq_forIn_range'];have hsz:([a:b]:Std.Legacy.Range).size=b-a:=by simp[Std.Legacy.Range.size]
 show wpAny M A (forIn (List.range' a ([a:b]:Std.Legacy.Range).size 1) c f) Q E s;rw[hsz];refine wpAny_forIn_list f (λl c st=>∃i,a<=i/\i<=max a b/\l=List.range' i (max a b-i) 1/\I i c st) Q ?_ ?_ _ c ⟨a,AI _,⋯,by congr 1;lia,h⟩
 ·rintro x rest c st ⟨i,F8,tf,hl,hI⟩;have aA:i<max a b:=by
   rcases Ef i (max a b) with h'|h'
   ·exact h'
   ·rw[show max a b-i=0 by lia]at hl;simp at hl
  obtain⟨n,hn⟩:∃n,max a b-i=n+1:=⟨max a b-i-1,⋯⟩
  rw[hn,List.range'_succ]at hl;obtain⟨rfl,rfl⟩:=Cr hl;refine CD (turn x c st F8 ⋯ hI) (λr aQ h'=>?_) λ_ _ h'=>h';cases r with
  |done c'=>exact h'
  |yield c'=>exact⟨x+1,⋯,⋯,by congr 1;lia,h'⟩
 ·rintro c st ⟨i,F8,tf,hl,hI⟩;have:i=max a b:=by
   rcases Ef i (max a b) with h'|h'
   ·obtain⟨n,hn⟩:∃n,max a b-i=n+1:=⟨max a b-i-1,⋯⟩
    rw[hn,List.range'_succ]at hl;cases hl
   ·lia
  rw[this]at hI;exact fin c st hI
def tuple_indexAt (l:Addr)(items:TH)(n:Nat)(dd:Option Addr)(sl:Array (Option Value))(x:Value)(e:Value->Bool)(j:Nat)(hj:j<items.size)
  (hit:e items[j]=true)(dQ:∀m (hm:m<items.size),m<j->e items[m]=false):
  Meets (Builtin.«tuple.index» ⟨[.ref l,x],[]⟩)
   (λA R s=>s.heap.get? l=some {cls:=.type "tuple",dict:=dd,data:=.seq items n,slots:=sl}/\(∀y,y∈items->EqAt A.in1 s y x (e y))/\R (.ok (.ret (.int j s.toks))) {s with toks:=s.toks+1}):=
 .of_wp λprog w A R s h=>by
  obtain⟨hp,g,d,tk,os⟩:=s;obtain⟨hl,he,h⟩:=h
  wp_walk using AutoSeq1.wpAny_loadPart' hl,wpAny_forRange _ (λi c s'=>c=(none,())/\s'=⟨hp,g,d,tk,os⟩/\i<=j) _
  case turn=>
   rintro i c s' hi1 hi2 ⟨rfl,rfl,fk⟩;have hi:i<items.size:=⋯;rw[BU hi];refine AA (he _ (Array.getElem_mem hi) prog w _ _ ?_)
   rcases Ef i j with h'|h'
   ·rw[dQ i hi h']
    wp_walk
    exact⟨O,O,h'⟩
   ·have e1:i=j:=⋯;subst e1;rw[hit]
    wp_walk
    exact⟨_,O,h⟩
  case fin=>
   rintro c s' ⟨rfl,rfl,fk⟩;lia
  case h=>
   exact⟨O,O,BC _⟩
end PySem.SeqAt
namespace L2
open PySem PySem.Spec PyProof.Rows
theorem Wd:∀{ns:List Int}{us:List Value},qh (ns.map V.int) us->IntsAre us ns
 | [],us,h=>by cases h;exact .nil
 |n::ns,us,h=>by
  rw[Af]at h;cases h with
  |cons r t=>obtain⟨tk,rfl⟩:=r;exact .cons n tk (Wd t)
def Jl {ns:List Int}{us:TF}(h:IntsAre us ns):qh (ns.map V.int) us:=by
 induction h with
 |nil=>exact .nil
 |cons n t _ ih=>exact .cons ⟨t,O⟩ ih
theorem We:∀{xs:List V}{us:List Value},xs.length=us.length->(∀(i:Nat) x u,xs[i]?=some x->us[i]?=some u->RelV x u)->qh xs us
 | [],[],_,_=>.nil
 | [],_::_,h,_=>by cases h
 |_::_,[],h,_=>by cases h
 |x::xs,u::us,h,k=>.cons (k 0 x u rfl rfl) (We (by simpa using h) λi y v a b=>k (i+1) y v (by simpa using a) (by simpa using b))
def xy {n:Nat}{acc:TH}(h:ItemsOf (λi v=>∃t,v=.int (0+i*1) t) acc n):qh ((List.range n).map λ(i:Nat)=>V.int (i:Int)) acc.toList:=by
 refine We (by rw[AB,AU];simpa using h.1.symm) λi x u hx hu=>?_;rw[AG]at hx;obtain⟨j,hj,rfl⟩:=Aj.mp hx;have ej:j=i:=by have:=AD.mp hj;obtain⟨_,e⟩:=this;rw[List.getElem_range]at e;exact e.symm
 subst ej;obtain⟨t,e⟩:=h.2 j u (by simpa using hu);rw[e,Bf,Int.mul_one];exact⟨t,O⟩
section
variable {X:Cx}
def Wf (K:Fv) (hK:X.K=K:=by rfl):qU X (.builtin "sorted") (λxs H Q=>∃(p:Addr) (ns:List Int),xs=[.ref p]/\SqL K H p (ns.map V.int)/\ns.length<64/\∀(l:Addr) (ms:List Int),H l=none->ms.Perm ns->ms.Pairwise (· <= ·)->Q (.ref l) (upd H l (.lst (ms.map V.int)))):=by subst hK;intro pins s σ H xs us Q I r h;obtain⟨p,ns,rfl,hq,nz,q⟩:=h;obtain⟨u,rfl,rx⟩:=vals1 r;cases rx;obtain⟨its,rv,pl,hz⟩:=I.list hq;have hl:=rv.length;rw[AB]at hl;refine sorted_ints pl.isList (Wd rv) ⋯ λout de a1 a2 a3=>?_;obtain⟨e,he⟩:=sortedAll_at s.heap its out;refine⟨.ref (s.heap.objs.size+1),_,I.laid (t':=s.toks) (o:=.lst (de.map V.int)) (λb o q=>sortedAll_old q) (DJ _) ?_,O,q _ de (I.hok.fresh (DJ _)) a2 a3⟩;refine⟨by rw[AB,a2.length_eq];exact CZ (zt ⋯),out.toList,e,Jl a1,?_⟩;simpa [seqObj]using he
def rRepL (K:Fv):R2:=λx y H Q=>∃a xs n,x=.ref a/\y=.int n/\H a=some (.lst xs)/\0<=n/\n<=1000/\xs.length*n.toNat<=1000/\∀p,H p=none->Q (.ref p) (upd H p (.lst (List.replicate n.toNat xs).flatten))
def op_repL (K:Fv):OpR X (binaryOp .Mult) (rRepL K):=by
 intro pins s σ H x y v u Q I rx ry h;obtain⟨a,xs,k,rfl,rfl,ha,k0,k1,hz,q⟩:=h;cases rx;obtain⟨t,rfl⟩:=ry;obtain⟨z,its,n,r,hl,e⟩:=I.lstM ha;have e1:List.foldl (λx1 x2=>x1++x2) #[] (List.replicate k.toNat its.toArray)=(List.replicate k.toNat its).flatten.toArray:=by have:=W5 its k.toNat [];rw[CT]at this;exact this
 have cw:List.foldl (λx1 x2=>x1++x2) #[] (List.replicate (if its.toArray.isEmpty=true then 0 else k.toNat) its.toArray)=(List.replicate k.toNat its).flatten.toArray:=by
  cases hi:its with
  |nil=>simp
  |cons b bs=>
   rw[<- hi];have:its.toArray.isEmpty=false:=by rw[hi];rfl
   rw[this];exact e1
 refine wpAny_binaryOp_repeat_ref (T := "list") (U := "int") ∅ ⟨_,e,O⟩ (λs'=>typeIs_int s' k t) noFill_list_mul F.fills_int_mul F.slot_int_rmul repeat_list F.slot_int_index.lookup
  (Cg F.slot_int_rmul (typeIs_int s k t) F.entry_int_rmul (F.args_int_rmul_2 _ _) (int___rmul___int_list k t a its.toArray n)
   ⟨e,rfl,⟨_,e,rfl⟩,Cg F.slot_list_mul ⟨_,e,rfl⟩ F.entry_list_mul (F.args_list_mul_2 _ _)
    (AutoListH.list___mul___list_int_3 a its.toArray n k t (by simp[Builtin.List.listFitsIndex];lia) (by
     have h1:its.length*k.toNat<=1000:=by rw[<- hl];exact hz
     have h2:((its.length*k.toNat:Nat):Int)<=1000:=by exact_mod_cast h1
     rw[Ce,show ((k.toNat:Nat):Int)=k by lia]at h2;simp only[List.size_toArray];lia) (by
     have h1:its.length*k.toNat<=1000:=by rw[<- hl];exact hz
     have h2:((its.length*k.toNat:Nat):Int)<=1000:=by exact_mod_cast h1
     rw[Ce,show ((k.toNat:Nat):Int)=k by lia]at h2;simp[Builtin.List.listTooLong,sizeLine];lia))
    ⟨e,?_⟩⟩)
 rw[cw];refine⟨.ref s.heap.objs.size,_,I.laid (t':=s.toks) (o:=.lst (List.replicate k.toNat xs).flatten) (λb ob q=>AE _ q) (AI _) ?_,O,q _ (I.hok.fresh (AI _))⟩;exact⟨by rw[len_rep];exact CZ (zt (by rw[BP];exact hz)),_,0,r.rep k.toNat,AQ _ rfl⟩
def rIndexT:V->List V->Hp->VK->Prop:=λx vs H Q=>∃p xs y j,x=.ref p/\vs=[y]/\H p=some (.tup xs)/\qV y=true/\xs.all qV=true/\(∃v,xs[j]?=some v/\eqV v y=true)/\(∀m v,m<j->xs[m]?=some v->eqV v y=false)/\Q (.int (j:Nat)) H
def XR:MtR X "tuple.index" rIndexT:=by
 intro pins s σ H x vs v us Q I rx rv h;obtain⟨p,xs,y,j,rfl,rfl,hq,fy,fx,⟨vj,hj,ej⟩,dQ,q⟩:=h;cases rx;obtain⟨u,rfl,ru⟩:=vals1 rv;obtain⟨_,its,r,o,e,hc,⟨n,hd⟩,_⟩:=I.hok p _ hq;obtain⟨c,d,dt,sl⟩:=o;cases hc;cases hd;have hlen:=r.length;have at_:∀m (hm:m<its.toArray.size),∃v,xs[m]?=some v/\eqU y its.toArray[m]=eqV v y:=λm hm=>by
  have eV:m<xs.length:=by rw[hlen];simpa using hm
  have k1:xs[m]?=some xs[m]:=AC eV;obtain⟨w,e1,r1⟩:=r.get k1;have w1:its.toArray[m]=w:=by
   have g1:m<its.length:=by simpa using hm
   rw[AC g1]at e1;simpa using AH e1
  refine⟨_,k1,?_⟩;rw[w1];exact YT r1 (BB.mp fx _ (AL k1))
 have dS:j<its.toArray.size:=by have:=(AD.mp hj).1;simp;lia
 refine Cg F.slot_tuple_index ⟨_,e,O⟩ F.entry_tuple_index (F.args_tuple_index_2 _ _) (SeqAt.tuple_indexAt p its.toArray n d sl u (eqU y) j dS ?_ ?_) ⟨e,λw hw=>Qh ru fy r fx w (by simpa using hw),⟨.int _,H,I.tok _,⟨_,O⟩,q⟩⟩
 ·obtain⟨v,e1,e2⟩:=at_ j dS;rw[hj]at e1;cases e1;rw[e2];exact ej
 ·intro m hm gq;obtain⟨v,e1,e2⟩:=at_ m hm;rw[e2];exact dQ m v gq e1
def tRng (ta:TA):TE:=λσ H Q=>ta σ H λvs H1=>∃j:Int,vs=[.int j]/\∀p,H1 p=none->Q (.ref p) (upd H1 p (.rng 0 j))
def pe_rng {a:Expr}{ta:TA}{p pos:Pos}(hg:Gl X "range") (hm:X.mg "range" = none) (ha:PA X [a] ta) (hs:starEach [a] X.env=[(false,eval a X.env)]:=by rfl):PE X (.Call (.Name "range" p) [a] [] pos) (tRng ta):=by
 intro pins s σ H Q I h;refine Call_ (ZC I hg hm boot_range (BN (thn (ha pos pins s σ H _ I h) λus s1 ⟨vs,H1,I1,r1,q1⟩=>?_) hs rfl));obtain⟨j,e,q⟩:=q1;subst e;cases r1 with
 |cons r rr=>cases rr;obtain⟨t,rfl⟩:=r;refine call_range_1 ⟨.ref s1.heap.objs.size,_,I1.laid (t':=_) (o:=.rng 0 j) (λb o q=>AE _ q) (AI _) ?_,O,q _ (I1.hok.fresh (AI _))⟩;exact⟨_,_,_,AQ _ rfl⟩
def xz (hc:X.calm=true):qU X (.type "list") (λxs H Q=>∃(p:Addr) (j:Int),xs=[.ref p]/\H p=some (.rng 0 j)/\0<=j/\j<=1000/\∀l,H l=none->Q (.ref l) (upd H l (.lst ((List.range j.toNat).map λ(i:Nat)=>V.int (i:Int))))):=by
 intro pins s σ H xs us Q I r h;obtain⟨p,j,rfl,hp,j0,j1,q⟩:=h;obtain⟨u,rfl,rx⟩:=vals1 r;cases rx;obtain⟨t,u,v,e⟩:=I.hok p _ hp;have hn:Builtin.Range.rangeSize 0 j 1=(j.toNat:Nat):=by rw[rangeSize_one];split <;> lia
 refine call_list_range (I.ok.hd hc) e (small_one ⋯ ⋯ ⋯ ⋯) hn ⋯ λh' tk acc c' kp he aj=>?_;refine⟨.ref s.heap.objs.size,_,I.laid (t':=tk) (o:=.lst ((List.range j.toNat).map λ(i:Nat)=>V.int (i:Int))) kp (AI _) ?_,O,q _ (I.hok.fresh (AI _))⟩;refine⟨by rw[AB,AU];exact CZ (zt ⋯),acc.toList,c',?_,by simpa using he⟩;exact xy aj
end
def Inv.changed {X:Cx}{pins:List (Addr×Obj)}{σ:St}{H:Hp}{s:Shared}{ch:List Addr}{h':Heap}{t':Nat}(I:Inv X pins σ H s)(hf:∀b∈ch,YM X pins H b)(k:∀c o,c ∉ ch->s.heap.get? c=some o->h'.get? c=some o):Inv X pins σ H {s with heap:=h',toks:=t'}:=by
 have nt:∀b u,H b=some u->b ∉ ch:=λb u e hb=>by rw[(hf b hb).1]at e;cases e
 have nl:X.env.locals ∉ ch:=λhb=>(hf _ hb).2.1 rfl;refine I.step (g':=s.gens) (d':=s.drawn) (ch:=ch) (λb hb=>⟨(hf b hb).2.2.2.1,(hf b hb).2.1,(hf b hb).2.2.2.2.1,(hf b hb).2.2.2.2.2⟩) (λb o _ _ hc e _=>k b o hc e) (λb o _ _ hc e _=>⟨o.slots,k b o hc e⟩) (λ_ _ _ _ n=>n)
  (λb o hc e=>⟨o,k b o hc e⟩) (λ_ _ e=>e) (λ_ _ _ e=>e) (λb ps e=>⟨#[],by rw[e];simp⟩) (λm hm=>?_) (λb u e=>?_) I.bare
 ·obtain⟨o,es,ep,ho,r⟩:=hm;exact⟨o,es,ep,k _ o nl ho,r⟩
 ·refine (I.hok b u e).stay (λc v hc q=>k c v ?_ q) (λ_ q=>q) λ_ _ q=>q
  rcases hc with z|z
  ·rw[z];exact nt b u e
  ·exact nt c _ z
def Ite (K : Fv)(a : Addr) : It :=
  ⟨λi H => ∃xs x, SqL K H a xs /\ xs[i]?=some x,
   λi H v H' => ∃T x, H T = none /\ v = .ref T /\ H' = upd H T (.tup [.int (i : Nat), x]) /\ ∀xs, SqL K H a xs -> xs[i]?=some x,
   λi H => ∃xs, SqL K H a xs /\ xs.length <= i⟩
def XS {P:Program}{w:World}{K:Fv}{elts:List Expr}{kk:Nat}{pos:Pos}{e it a:Addr}(F2:e≠it):
  Turn P w K (.Tuple elts kk pos) (Ite K a) [e,it] e (λi h=>(∃old,IsEnum h e it i old)/\h.IsListIter it a i) where
 mem:=by simp
 obj:=λi h st b hb=>by
  obtain⟨⟨old,u1⟩,⟨o4,u4,_,d4⟩⟩:=st;simp only[List.mem_cons,List.not_mem_nil,or_false]at hb
  rcases hb with rfl|rfl
  ·exact⟨_,u1,λv zz=>by cases zz⟩
  ·exact⟨_,u4,λv zz=>by rw[d4]at zz;cases zz⟩
 keep:=λi h h' st k=>by obtain⟨⟨old,u1⟩,⟨o4,u4,r4⟩⟩:=st;exact⟨⟨old,k _ (by simp) _ u1⟩,⟨o4,k _ (by simp) _ u4,r4⟩⟩
 item:=by
  intro X hP hw hK hc i pins s σ H E I hf st hg;subst hP hw hK;obtain⟨xs,x,hq,hx⟩:=hg;obtain⟨⟨old,he⟩,hit⟩:=st;obtain⟨its,rv,p,hz⟩:=I.list hq;obtain⟨u,hu,ru⟩:=rv.get hx;have elt:e<s.heap.objs.size:=AR he;have Kt:it<s.heap.objs.size:=by obtain⟨o,x,_⟩:=hit;exact AR x
  refine wpAny_pyNext_enum_item (s:=s) he hit p.isList (x:=u) (by simpa using hu) F2 λh' ho aT hT hsz hk=>⟨_,O,wpAny_letOwnedTupleGo_enum ho λh2 cz b5=>?_⟩
  have k2:∀c o,c ∉ [e,it]->s.heap.get? c=some o->h2.get? c=some o:=λc o hc q=>(b5.2 c (λzz=>hc (by simp[zz]))).trans (hk c o (λzz=>hc (by simp[zz])) (λzz=>hc (by simp[zz])) q);have I1:Inv X pins σ H {s with heap:=h2,toks:=s.toks+1}:=I.changed (t':=s.toks+1) hf k2;have at2:h2.get? s.heap.objs.size=some {cls:=.type "tuple",data:=.seq #[.int i s.toks,u]}:=(b5.2 _ (Be elt)).trans hT;have Hn:H s.heap.objs.size=none:=I.hok.fresh (AI _);have I2:Inv X pins σ (upd H s.heap.objs.size (.tup [.int (i:Nat),x])) {s with heap:=h2,toks:=s.toks+1}:=by
   refine I1.adopt Hn (EL I.sz) (Be I.lt) (λxx cc e zz=>?_) (λp hp zz=>?_) ⟨by show 2<=sizeLine;decide,[.int i s.toks,u],.cons ⟨_,O⟩ (.cons ru .nil),⟨_,at2,O,⟨0,O⟩,O⟩⟩
   ·obtain⟨_,q⟩:=I.cell xx cc e;exact absurd q.lt (by rw[zz];exact BA _)
   ·exact absurd (AR (I.pin p hp).1) (by rw[zz];exact BA _)
  refine⟨.ref s.heap.objs.size,_,I2,O,⟨_,x,Hn,O,O,λIh h1=>?_⟩,⟨⟨_,by simpa using cz⟩,aT.at λo y=>(b5.2 it (An F2)).trans y⟩,λb hb=>?_⟩
  ·rw[I.list_inj h1 hq];exact hx
  ·have:b≠s.heap.objs.size:=by
    simp only[List.mem_cons,List.not_mem_nil,or_false]at hb
    rcases hb with rfl|rfl
    ·exact AZ elt
    ·exact AZ Kt
   rw[zJ this];exact (hf b hb).1
 done:=by intro X hP hw hK hc i pins s σ H E I hf st hg;subst hP hw hK;obtain⟨xs,hq,hx⟩:=hg;obtain⟨⟨old,he⟩,hit⟩:=st;obtain⟨its,rv,p,hz⟩:=I.list hq;have l1:=rv.length;exact wpAny_pyNext_enum_end (I.ok.hd hc) he hit p.isList (by simp;lia) λh' eb=>⟨O,I.changed (t':=s.toks) (ch:=[it]) (λb hb=>hf b (by simp only[List.mem_cons,List.not_mem_nil,or_false]at hb ⊢;exact .inr hb)) λc o hc q=>eb c o (λzz=>hc (by simp[zz])) q⟩
 self:=λA i s Q E st h=>by obtain⟨⟨old,he⟩,_⟩:=st;exact wpAny_pyIter_enum he h
section
variable {X:Cx}
def ya:bootBuiltins "enumerate" = some (.type "enumerate"):=∅
def iEnum (K:Fv)(ta:TA):TI:=λσ H R=>ta σ H λvs H1=>∃p xs,vs=[.ref p]/\SqL K H1 p xs/\R (Ite K p) H1
def kpi_enum (K:Fv) {elts:List Expr}{kk:Nat}{fu:Pos}{a:Expr}{ta:TA}{p pos:Pos}(hg:Gl X "enumerate") (hm:X.mg "enumerate" = none) (ha:PA X [a] ta) (hs:starEach [a] X.env=[(false,eval a X.env)]:=by rfl) (hK:X.K=K:=by rfl):
  PI X (.Tuple elts kk fu) (.Call (.Name "enumerate" p) [a] [] pos) (iEnum K ta):=by
 subst hK;intro pins s σ H R I h;refine Call_ (ZC I hg hm ya (BN (thn (ha pos pins s σ H _ I h) λus s1 ⟨vs,H1,I1,r1,q1⟩=>?_) hs rfl));obtain⟨p1,xs,e,hq,q⟩:=q1;subst e;obtain⟨u1,rfl,r2⟩:=vals1 r1;cases r2;obtain⟨its,rv,pl,_⟩:=I1.list hq;refine call_enumerate_list pl.isList λh' he hit hsz kp=>?_;refine wpAny_pyIter_enum he ?_;have I2:Inv X pins σ H1 {s1 with heap:=h'}:=I1.kept (t':=s1.toks) kp;refine⟨s1.heap.objs.size+1,[s1.heap.objs.size+1,s1.heap.objs.size],_,Ite X.K p1,H1,O,I2,XS (Nat.succ_ne_self _),⟨⟨_,he⟩,hit⟩,λb hb=>?_,q⟩;simp only[List.mem_cons,List.not_mem_nil,or_false]at hb
 rcases hb with rfl|rfl
 ·exact I1.fpOk (DJ _) (I1.hok.fresh (DJ _))
 ·exact I1.fpOk (AI _) (I1.hok.fresh (AI _))
end
def XT {K:Fv}{a:Addr}{xs:List V}{tt:TT}{te:TE}{H1:Hp}{Q:VK}{D:Addr}{more:St}(P:Nat->List V->Hp->Prop)(h0:P 0 [] (upd H1 D (.lst [])))
  (hp:∀i zs H,P i zs H->H D=some (.lst zs)->SqL K H a xs)
  (hs:∀i zs H T x,xs[i]?=some x->P i zs H->H D=some (.lst zs)->H T=none->tt (some (.int (i:Nat))::some x::more) (upd H T (.tup [.int (i:Nat),x])) λb H4=>if b=true then te (some (.int (i:Nat))::some x::more) H4 (Xi (λσ=>∃x y,σ=x::y::more) P xs.length D (some (.int (i:Nat))::some x::more) i) else cNo (λσ=>∃x y,σ=x::y::more) P xs.length D (some (.int (i:Nat))::some x::more) i H4)
  (hd:∀zs H,P xs.length zs H->H D=some (.lst zs)->Q (.ref D) H):
  jd (Ite K a) (gTup K 2 (ZD (qN 0) (ZD (qN 1) gNil))) tt te (none::none::more) H1 Q D:=by
 refine⟨cW (λσ=>∃x y,σ=x::y::more) P xs.length D,⟨xs.length,(FQ _).symm,BC _,⟨_,_,O⟩,_,h0,ze⟩,?_⟩;rintro i m af H' ⟨rfl,hi,⟨s1,s2,rfl⟩,zs,pp,hD⟩;have q1:=hp i zs H' pp hD;by_cases aA:i<xs.length
 ·have k1:xs[i]?=some (xs.getD i .non):=by simp[List.getD,aA]
  refine .inr ⟨⟨xs,_,q1,k1⟩,?_⟩;rintro v H2 ⟨T,x,hT,rfl,rfl,dD⟩;exact⟨T,_,O,TU ze,O,_,_,O,_,_,O,O,hs i zs H' T x (dD xs q1) pp hD hT⟩
 ·have e:i=xs.length:=⋯;subst e;exact .inl ⟨⟨xs,q1,AI _⟩,hd zs H' pp hD⟩
def XU:bootBuiltins "divmod" = some (.builtin "divmod"):=∅
def ZI:bootBuiltins "sorted" = some (.builtin "sorted"):=∅
end L2
namespace L4
open PySem L2
abbrev nV (i:Nat):V:=.int (i:Int)
def Wel (H:Hp)(p:Addr):Prop:=∃x y:Int,H p=some (.lst [.int x,.int y])
def Wel.put {H:Hp}{p:Addr}{x y:Int}:Wel (upd H p (.lst [.int x,.int y])) p:=⟨x,y,ze⟩
def Wel.same {H H':Hp}{p:Addr}(h:Wel H p)(s:zH H H'):Wel H' p:=by obtain⟨x,y,e⟩:=h;exact⟨x,y,s _ _ e⟩
def Wel.off {H:Hp}{p t:Addr}{o:HO}(h:Wel H p)(n:p≠t):Wel (upd H t o) p:=by obtain⟨x,y,e⟩:=h;exact⟨x,y,by rw[zJ n];exact e⟩
def Wel.ne {H:Hp}{p t:Addr}(h:Wel H p)(n:H t=none):p≠t:=by obtain⟨x,y,e⟩:=h;exact zN e n
def Wel.tk {p:Addr}{H H':Hp}(h:Wel H p)(o:Off p H H'):Tk H H':=λb xs e=>by obtain⟨x,y,q⟩:=h;exact o b _ (ne_of e q (by intro z;cases z)) e
def ZJ:Sp:=λvs H Q _=>∃(p:Addr) (m:Nat),vs=[.ref p,.int (m:Int)]/\Wel H p/\0<m/\m<1000000/\∀(v:Nat) H',v<m->Off p H H'->Wel H' p->Q (nV v) H'
def wB {t:Nat}{te:TE}{az:St}{H1:Hp}{Q:VK}{D p:Addr}{lo:Int}{n m:Nat}(w:Wel H1 p)(hD:H1 D=none)(hn:n<=900)
  (he:∀i H' Q',i<n->Wel H' p->(∀(v:Nat) ck,v<m->Off p H' ck->Wel ck p->Q' (nV v) ck)->te (az.set t (some (.int (lo+i)))) H' Q')
  (q:∀(vs:TC) H',vs.length=n->(∀v∈vs,v<m)->Off p H1 H'->Wel H' p->H' D=some (.lst (vs.map nV))->Q (.ref D) H'):jd (Itr lo n) (qN t) tYes te az H1 Q D:=by
 have pD:=w.ne hD;refine zT (λi ys H'=>∃vs:TC,ys=vs.map nV/\vs.length=i/\(∀v∈vs,v<m)/\Off p H1 H'/\Wel H' p) ⟨[],O,O,(λv h=>by cases h),TX hD,w.off pD⟩ ?_ ?_
 ·rintro i ys H' hi ⟨vs,rfl,hl,hv,o1,w1⟩ br;refine yes (he i H' _ hi w1 λv ck v1 o2 w2=>?_);have aK:=o2 D _ (An pD) br;refine Zx hi qG aK (by rw[AB,hl];exact zt ⋯) ⟨vs++[v],by rw[AO];rfl,by rw[AJ,hl];rfl,λu hu=>?_,(o1.trans o2).fresh hD,w2.off pD⟩
  rcases AX.mp hu with h|h
  ·exact hv u h
  ·rw[AN.mp h];exact v1
 ·rintro ys H' ⟨vs,rfl,hl,hv,o1,w1⟩ br;exact q vs H' hl hv o1 w1 br
def TL (n:Nat)(xs:List V):Prop:=∃ys:TJ,xs=ys.map V.str/\ys.length<=n/\∀y∈ys,y.length<=100
def TL.cut {n:Nat}{xs:List V}(h:TL n xs)(lo hi:Option Int):TL n (ZF xs lo hi):=by obtain⟨ys,rfl,hl,hy⟩:=h;unfold ZF;refine⟨_,by rw[<- E7,<- E6],?_,λy h=>hy y (DM (Br h))⟩;rw[Ae,Cw];lia
def TL.app {n m:Nat}{xs ys:List V}(h:TL n xs)(k:TL m ys):TL (n+m) (xs++ys):=by
 obtain⟨a,rfl,al,ah⟩:=h;obtain⟨b,rfl,bl,bh⟩:=k;refine⟨a++b,by rw[AO],by rw[AJ];lia,λy h=>?_⟩
 rcases AX.mp h with h|h
 ·exact ah y h
 ·exact bh y h
def TL.mono {n m:Nat}{xs:List V}(h:TL n xs)(k:n<=m):TL m xs:=by obtain⟨a,e,al,ah⟩:=h;exact⟨a,e,Ar al k,ah⟩
def TL.len {n:Nat}{xs:List V}(h:TL n xs):xs.length<=n:=by obtain⟨a,rfl,al,ah⟩:=h;rw[AB];exact al
def Wg (x:Str)(n:Int):(Txt.mul x n).length<=x.length*n.toNat:=by
 unfold Txt.mul;split
 ·exact BC _
 ·split
  ·rename_i h1 h2;simp at h2
   rcases h2 with h2|h2
   ·rw[h2];simp
   ·rw[h2];simp
  ·have aux:∀(k:Nat) (a acc:Array Nat),((List.replicate k a).foldl (· ++ ·) acc).size=acc.size+k*a.size:=by
    intro k a
    induction k with
    |zero=>intro acc;simp
    |succ k ih=>intro acc;rw[CY,CV,ih,FW,Cj];lia
   show ((List.replicate n.toNat x.cps).foldl (· ++ ·) #[]).size<=_;rw[aux];simp;rw[BP];exact AI _
def Yb (x y:Str):(x++y).length=x.length+y.length:=by show (x.cps++y.cps).size=_;rw[FW];rfl
end L4
namespace Tn
def place (m:Nat)(r:TC):Nat:=r.foldl (λp x=>p*m+x) 0
def place_snoc (m:Nat)(r:TC)(x:Nat):place m (r++[x])=place m r*m+x:=by unfold place;rw[List.foldl_append];rfl
def pls (m:Nat)(gs:List Nat):Nat->List Nat
 |0=>[0]
 |k+1=>(pls m gs k).flatMap λp=>gs.map λg=>p*m+g
theorem flat_get {α β:Type}(f:α->List β)(b:Nat)(hf:∀x,(f x).length=b):∀(xs:List α) (i j:Nat) (x:α),xs[i]?=some x->j<b->(xs.flatMap f)[i*b+j]?=(f x)[j]?
 | [],i,j,x,h,_=>by simp at h
 |y::ys,0,j,x,h,hj=>by
  have e:y=x:=by simpa using h
  subst e;rw[DF,Nat.zero_mul,FN,BK (by rw[hf];exact hj)]
 |y::ys,i+1,j,x,h,hj=>by
  have h':ys[i]?=some x:=by simpa using h
  have e:(i+1)*b+j=(f y).length+(i*b+j):=by rw[hf,Cj];lia
  rw[DF,e,BI ⋯,Nat.add_sub_cancel_left];exact flat_get f b hf ys i j x h' hj
theorem flat_len {α β:Type}(f:α->List β)(b:Nat)(hf:∀x,(f x).length=b):∀(xs:List α),(xs.flatMap f).length=xs.length*b
 | []=>by simp
 |y::ys=>by rw[DF,AJ,hf,flat_len f b hf ys,Ax,Cj];lia
theorem pls_len (m:Nat)(gs:List Nat):∀k,(pls m gs k).length=gs.length^k
 |0=>rfl
 |k+1=>by show ((pls m gs k).flatMap λp=>gs.map λg=>p*m+g).length=_;rw[flat_len _ gs.length (λx=>by rw[AB]),pls_len m gs k,DQ]
def Rw (m k:Nat)(r:TC):Prop:=r.length=k/\∀x∈r,x<m
def place_lt {m:Nat}:∀(k:Nat) (r:TC),Rw m k r->place m r<m^k:=by
 intro k
 induction k with
 |zero=>
  intro r h;have:r=[]:=CP.mp h.1;subst this;show 0<m^0;rw[FS]
  decide
 |succ k ih=>
  intro r h;obtain⟨h1,h2⟩:=h;have bT:r≠[]:=by intro z;rw[z]at h1;cases h1
  have e:=Fj bT;have hr:Rw m k r.dropLast:=⟨by rw[Ex,h1];rfl,λx hx=>h2 x ((List.dropLast_sublist r).subset hx)⟩
  have h3:=ih _ hr;have h4:=h2 (r.getLast bT) (List.getLast_mem bT);rw[<- e,place_snoc,DQ];have h5:(place m r.dropLast+1)*m<=m^k*m:=Bp m h3;rw[Cj]at h5;lia
def row_of {m:Nat}:∀(k p:Nat),p<m^k->∃r,Rw m k r/\place m r=p:=by
 intro k
 induction k with
 |zero=>
  intro p hp;have:p=0:=by simpa using hp
  exact⟨[],⟨O,λx hx=>by cases hx⟩,this.symm⟩
 |succ k ih=>
  intro p hp;have hm:0<m:=by
   rcases Dc m with z|z
   ·rw[z,DQ,Nat.mul_zero]at hp;lia
   ·exact z
  have hq:p/m<m^k:=by rw[Cd hm,<- DQ];exact hp
  obtain⟨r,⟨h1,h2⟩,h3⟩:=ih (p/m) hq;refine⟨r++[p%m],⟨by rw[AJ,h1];rfl,λx hx=>?_⟩,?_⟩
  ·rcases AX.mp hx with h|h
   ·exact h2 x h
   ·rw[AN.mp h];exact CG _ hm
  ·rw[place_snoc,h3,BP];exact DY p m
def pls_get {m:Nat}{gs:TC}(hg:gs.length=m):∀(k:Nat) (r:TC),Rw m k r->(pls m gs k)[place m r]?=some (place m (r.map λx=>gs.getD x 0)):=by
 intro k
 induction k with
 |zero=>intro r h;have:r=[]:=CP.mp h.1;subst this;rfl
 |succ k ih=>
  intro r h;obtain⟨h1,h2⟩:=h;have bT:r≠[]:=by intro z;rw[z]at h1;cases h1
  have e:=Fj bT;have hr:Rw m k r.dropLast:=⟨by rw[Ex,h1];rfl,λx hx=>h2 x ((List.dropLast_sublist r).subset hx)⟩
  have h3:=ih _ hr;have h4:=h2 (r.getLast bT) (List.getLast_mem bT);rw[<- e,place_snoc,AO,Af,Ei,place_snoc];show ((pls m gs k).flatMap λp=>gs.map λg=>p*m+g)[_]?=_;rw[flat_get _ m (λx=>by rw[AB,hg]) _ _ _ _ h3 h4,AG];have e2:gs[r.getLast bT]?=some (gs.getD (r.getLast bT) 0):=by rw[AM,AC ⋯];rfl
  rw[e2];rfl
def pls_lt {m:Nat}{gs:TC}(hg:gs.length=m)(hl:∀x∈gs,x<m)(k:Nat):∀p∈pls m gs k,p<m^k:=λp hp=>by
 obtain⟨i,hi⟩:=DN hp;have bM:i<m^k:=by have:=(AD.mp hi).1;rw[pls_len,hg]at this;exact this
 obtain⟨r,hr,e⟩:=row_of k i bM;have h2:=pls_get hg k r hr;rw[e,hi]at h2;rw[AH h2];refine place_lt k _ ⟨by rw[AB];exact hr.1,λx hx=>?_⟩;obtain⟨y,hy,rfl⟩:=AK.mp hx;rw[AM,AC (by rw[hg];exact hr.2 y hy)];exact hl _ (Cy _)
structure Or (m:Nat)(o:TC):Prop where
 len:o.length=m
 lt:∀x∈o,x<m
 nd:o.Nodup
def at' (o:TC)(i:Nat):Nat:=o.getD i 0
def Or.at_mem {m:Nat}{o:TC}(h:Or m o){i:Nat}(hi:i<m):o[i]?=some (at' o i):=by unfold at';rw[AM,AC (by rw[h.len];exact hi)];rfl
def Or.at_lt {m:Nat}{o:TC}(h:Or m o){i:Nat}(hi:i<m):at' o i<m:=h.lt _ (AL (h.at_mem hi))
theorem nodup_len:∀(m:Nat) (xs:List Nat),xs.Nodup->(∀x∈xs,x<m)->xs.length<=m
 |0,[],_,_=>AI _
 |0,x::xs,_,h=>absurd (h x (A5 ..)) (C2 _)
 |m+1,xs,nd,h=>by
  have h1:=nodup_len m (xs.erase m) (nd.erase m) λx hx=>by obtain⟨ne,hm⟩:=nd.mem_erase_iff.mp hx;have:=h x hm;lia
  by_cases hm:m∈xs
  ·rw[List.length_erase_of_mem hm]at h1;lia
  ·rw[List.erase_of_not_mem hm]at h1;lia
def inv (m:Nat)(o:TC):TC:=(List.range m).map λi=>o.idxOf i
def Or.mem {m:Nat}{o:TC}(h:Or m o){i:Nat}(hi:i<m):i∈o:=by
 refine Classical.byContradiction λhn=>?_;have:=nodup_len m (i::o) (Bh.mpr ⟨hn,h.nd⟩) λx hx=>by
  rcases Al.mp hx with rfl|hx
  ·exact hi
  ·exact h.lt x hx
 rw[Ax,h.len]at this;lia
def inv_at {m:Nat}{o:TC}{i:Nat}(hi:i<m):at' (inv m o) i=o.idxOf i:=by unfold at' inv;rw[AM,AG,A0 hi];rfl
def Or.inv_l {m:Nat}{o:TC}(h:Or m o){i:Nat}(hi:i<m):at' o (at' (inv m o) i)=i:=by rw[inv_at hi];have hm:=h.mem hi;unfold at';rw[AM,AC (CA hm),C0];rfl
def Or.inv_lt {m:Nat}{o:TC}(h:Or m o){i:Nat}(hi:i<m):at' (inv m o) i<m:=by rw[inv_at hi,<- h.len];exact CA (h.mem hi)
def Or.inv_r {m:Nat}{o:TC}(h:Or m o){i:Nat}(hi:i<m):at' (inv m o) (at' o i)=i:=by
 rw[inv_at (h.at_lt hi)];have e:=h.at_mem hi;have hl:i<o.length:=by rw[h.len];exact hi
 have e2:at' o i=o[i]:=by rw[AC hl]at e;exact (AH e).symm
 rw[e2];exact h.nd.idxOf_getElem i hl
def inv_len (m:Nat)(o:TC):(inv m o).length=m:=by unfold inv;rw[List.length_map,List.length_range]
def Or.inv {m:Nat}{o:TC}(h:Or m o):Or m (inv m o):=by
 refine⟨inv_len m o,λx hx=>?_,?_⟩
 ·obtain⟨i,hi,e⟩:=AK.mp hx;have:=h.inv_lt (AS.mp hi);rw[inv_at (AS.mp hi),e]at this;exact this
 ·unfold Tn.inv;rw[DL,A7];refine CM ?_ (DL.mp Dx);intro a b ha hb ne e;apply ne;have h1:=h.inv_l (AS.mp ha);have h2:=h.inv_l (AS.mp hb);rw[inv_at (AS.mp ha)]at h1;rw[inv_at (AS.mp hb)]at h2;rw[<- h1,<- h2,e]
def tc (m:Nat)(o:TC)(k:Nat)(cs:TC):TC:=(pls m (inv m o) k).map λp=>at' o (at' cs p)
def tc_len (m:Nat)(o:TC)(k:Nat)(cs:TC):(tc m o k cs).length=m^k:=by unfold tc;rw[AB,pls_len,inv_len]
def tc_at {m:Nat}{o:TC}{k:Nat}{cs:TC}{r:TC}(hr:Rw m k r):at' (tc m o k cs) (place m r)=at' o (at' cs (place m (r.map (at' (inv m o))))):=by have e:=pls_get (inv_len m o) k r hr;unfold at' tc;rw[AM,AG,e];rfl
structure Cs (m k:Nat)(cs:TC):Prop where
 len:cs.length=m^k
 lt:∀x∈cs,x<m
def Cs.at_lt {m k:Nat}{cs:TC}(h:Cs m k cs){p:Nat}(hp:p<m^k):at' cs p<m:=by unfold at';rw[AM,AC (by rw[h.len];exact hp)];exact h.lt _ (Cy _)
def Rw.map {m k:Nat}{r:TC}{f:Nat->Nat}(h:Rw m k r)(hf:∀x,x<m->f x<m):Rw m k (r.map f):=⟨by rw[AB];exact h.1,λx hx=>by obtain⟨y,hy,e⟩:=AK.mp hx;rw[<- e];exact hf y (h.2 y hy)⟩
def map_inv {m:Nat}{r:TC}{f g:Nat->Nat}(h:∀x∈r,g (f x)=x):(r.map f).map g=r:=by
 rw[AW]
 conv=>rhs;rw[<- List.map_id r]
 exact Ab λx hx=>h x hx
def tc_cs {m k:Nat}{o cs:TC}(h:Or m o)(c:Cs m k cs):Cs m k (tc m o k cs):=⟨tc_len ..,λx hx=>by
 obtain⟨i,hi⟩:=DN hx;have hl:i<m^k:=by have:=(AD.mp hi).1;rw[tc_len]at this;exact this
 obtain⟨r,hr,e⟩:=row_of k i hl;have e2:at' (tc m o k cs) i=x:=by unfold at';rw[AM,hi];rfl
 rw[<- e2,<- e,tc_at hr];exact h.at_lt (c.at_lt (place_lt k _ (hr.map λx hx=>h.inv_lt hx)))⟩
def tc_row {m k:Nat}{o cs r:TC}(h:Or m o)(hr:Rw m k r):at' (tc m o k cs) (place m (r.map (at' o)))=at' o (at' cs (place m r)):=by rw[tc_at (hr.map λx hx=>h.at_lt hx),map_inv (m:=m) λx hx=>h.inv_r (hr.2 x hx)]
def tw (m:Nat)(o ws:TC):TC:=(List.range m).filter λi=>decide (at' (inv m o) i∈ws)
theorem tw_mem {m:Nat}{o ws:List Nat}{i:Nat}:i∈tw m o ws↔i<m/\at' (inv m o) i∈ws:=by unfold tw;rw[CU,AS,DZ]
def sub_range {m:Nat}{ws:TC}(hs:ws.Pairwise (·<·))(hl:∀x∈ws,x<m):(List.range m).filter (λi=>decide (i∈ws))=ws:=by
 have h1:((List.range m).filter (λi=>decide (i∈ws))).Pairwise (·<·):=B7 _ Bu;refine List.Perm.eq_of_pairwise (le:=(·<·)) (λa b _ _ x y=>absurd x (Nat.lt_asymm y)) h1 hs ?_;refine (DK ?_ ?_).mpr λa=>?_
 ·exact h1.imp λh=>AZ h
 ·exact hs.imp λh=>AZ h
 ·rw[CU,AS,DZ];exact⟨λh=>h.2,λh=>⟨hl a h,h⟩⟩
theorem tw_ris (m:Nat)(o ws:List Nat):(tw m o ws).Pairwise (·<·):=B7 _ Bu
end Tn
namespace L2
open PySem PySem.Spec PyProof.Rows
def yb {a:List V}(h:a.all qV=true):Qk a a=true:=by
 unfold Qk;rw[Bv];refine⟨?_,by simp⟩;rw[BB];intro p hp;have h1:=C3 hp;have e:p.1=p.2:=by obtain⟨i,hi⟩:=DN hp;rw[Bb]at hi;exact AH (hi.1.symm.trans hi.2)
 rw[<- e];exact Q2 (BB.mp h _ h1.1)
theorem wC {α:Type}(d:α)(f:α->α->Bool):∀(xs ys:List α),xs.length=ys.length->((List.range xs.length).all λj=>f (xs.getD j d) (ys.getD j d))=(xs.zip ys).all λp=>f p.1 p.2
 | [],[],_=>rfl
 | [],_::_,h=>by cases h
 |_::_,[],h=>by cases h
 |x::xs,y::ys,h=>by have ih:=wC d f xs ys (by simpa using h);rw[Ax,Eh,Ca,FV,Dd,Ca,<- ih];rfl
def yS (H:Hp)(as:List (List V))(xs:List V):Prop:=Paired (λa v=>∃t,v=.ref t/\H t=some (.tup a)) as xs
def yS.same {H H':Hp}(s:zH H H'){as:List (List V)}{xs:List V}(h:yS H as xs):yS H' as xs:=by
 unfold yS at h ⊢
 induction h with
 |nil=>exact .nil
 |cons r _ ih=>obtain⟨t,e,h1⟩:=r;exact .cons ⟨t,e,s _ _ h1⟩ ih
def yS.snoc {H:Hp}{as:List (List V)}{xs:List V}{a:List V}{t:Addr}(h:yS H as xs)(h1:H t=some (.tup a)):yS H (as++[a]) (xs++[.ref t]):=by
 unfold yS at h ⊢
 induction h with
 |nil=>exact .cons ⟨t,O,h1⟩ .nil
 |cons r _ ih=>exact .cons r ih
def yS.keep {H H':Hp}(s:∀b xs,H b=some (.tup xs)->H' b=some (.tup xs)){as:List (List V)}{xs:List V}(h:yS H as xs):yS H' as xs:=by
 unfold yS at h ⊢
 induction h with
 |nil=>exact .nil
 |cons r _ ih=>obtain⟨t,e,h1⟩:=r;exact .cons ⟨t,e,s _ _ h1⟩ ih
def xA (as bs:List (List V)):Bool:=(as.zip bs).all (λp=>Qk p.1 p.2)&&as.length==bs.length
section
variable {X:Cx}
def rNeLT (n:Nat):R2:=λx y H Q=>∃p q as bs xs ys,x=.ref p/\y=.ref q/\H p=some (.lst xs)/\H q=some (.lst ys)/\yS H as xs/\yS H bs ys/\(∀a∈as,a.length=n/\a.all qV=true)/\(∀b∈bs,b.length=n/\b.all qV=true)/\Q (.bl (!xA as bs)) H
def op_neLT (n:Nat){k:Nat}(hr:ZP k X.A):OpR X (compareOp .NotEq) (rNeLT n):=by
 intro pins s σ H x y v u Q I rx ry h;obtain⟨p,q,as,bs,xs,ys,rfl,rfl,hp,hq,ta,tb,fa,fb,hQ⟩:=h;cases rx;cases ry;have hu:X.A.units+64<cLine:=hr.units;obtain⟨us,r1,pl1,_⟩:=I.list (TR hp);obtain⟨vs,r2,pl2,_⟩:=I.list (TR hq);have l1:=r1.length;have l2:=r2.length;have la:=Ac ta;have lb:=Ac tb;by_cases hz:as.length=bs.length
 ·refine SeqAt.RcNeAt.lists pl1.isList pl2.isList (e:=λj=>Qk (as.getD j []) (bs.getD j [])) (by simp;lia) ⋯ (λj h1 h2=>?_) X.prog X.w _ _ ⟨.bl _,H,I,O,?_⟩
  ·have g1:j<us.length:=by simpa using h1
   have g2:j<vs.length:=by simpa using h2
   have ja:as[j]?=some (as.getD j []):=by simp[List.getD,show j<as.length by lia]
   have jb:bs[j]?=some (bs.getD j []):=by simp[List.getD,show j<bs.length by lia]
   have jx:xs[j]?=some (xs.getD j .non):=by simp[List.getD,show j<xs.length by lia]
   have jy:ys[j]?=some (ys.getD j .non):=by simp[List.getD,show j<ys.length by lia]
   obtain⟨t,et,ht⟩:=TV ta j _ _ ja jx;obtain⟨t',MU,cM⟩:=TV tb j _ _ jb jy;obtain⟨u1,e1,q1⟩:=r1.get jx;obtain⟨u2,e2,q2⟩:=r2.get jy;rw[et]at q1;rw[MU]at q2;cases q1;cases q2;have w1:us.toArray[j]=.ref t:=by rw[AC g1]at e1;simpa using AH e1
   have w2:vs.toArray[j]=.ref t':=by rw[AC g2]at e2;simpa using AH e2
   rw[w1,w2];obtain⟨n1,f1⟩:=fa _ (AL ja);obtain⟨n2,f2⟩:=fb _ (AL jb);by_cases tt:t=t'
   ·subst tt;have ee:=ht.symm.trans cM;have e3:as.getD j []=bs.getD j []:=by
     injection ee with e4
     injection e4
    show SeqAt.EqAt _ _ _ _ (Qk (as.getD j []) (bs.getD j []));rw[<- e3,yb f1];exact EM _
   ·obtain⟨_,d6,v1,p1⟩:=I.hok t _ ht;obtain⟨_,oa,v2,p2⟩:=I.hok t' _ cM;have m1:=v1.length;have m2:=v2.length;have z:=Ep (A:=X.A.in1) (s:=s) p1.isTup p2.isTup (by show X.A.units+1<cLine;lia) (Ql v1 v2 f1 f2);have e:((List.range (min d6.toArray.size oa.toArray.size)).all (λj'=>eqV ((as.getD j []).getD j' .non) ((bs.getD j []).getD j' .non))&&d6.toArray.size==oa.toArray.size)=Qk (as.getD j []) (bs.getD j []):=by
     have z1:d6.toArray.size=(as.getD j []).length:=by rw[Ao];exact m1.symm
     have z2:oa.toArray.size=(bs.getD j []).length:=by rw[Ao];exact m2.symm
     have e5:min d6.toArray.size oa.toArray.size=(as.getD j []).length:=by rw[z1,z2,n1,n2,FT]
     rw[e5,Ze _ _ (n1.trans n2.symm),z1,z2];rfl
    rw[e]at z;exact EY tt z
  ·have e:us.toArray.size=as.length:=by simp;lia
   rw[e,wC [] Qk as bs hz];unfold xA at hQ;rw[hz]at hQ;simpa using hQ
 ·refine SeqAt.RcNeAt.lists_lengths pl1.isList pl2.isList (by simp;lia) ⋯ X.prog X.w _ _ ⟨.bl _,H,I,O,?_⟩;have e:xA as bs=false:=by unfold xA;simp[hz]
  rw[e]at hQ;exact hQ
end
def yc {kd ke:Bool}{K:Fv}{p q:Addr}{xs ys:List V}{n:Nat}{tt:TT}{te:TE}{H1:Hp}{Q:VK}{D:Addr}{more:St}(P:Nat->List V->Hp->Prop)(hn:n=min xs.length ys.length)(h0:P 0 [] (upd H1 D (.lst [])))
  (hp:∀i zs H,P i zs H->H D=some (.lst zs)->SqK kd K H p xs/\SqK ke K H q ys)
  (hs:∀i zs H T x y,xs[i]?=some x->ys[i]?=some y->i<n->P i zs H->H D=some (.lst zs)->H T=none->tt (some x::some y::more) (upd H T (.tup [x,y])) λb H4=>if b=true then te (some x::some y::more) H4 (Xi (λσ=>∃x y,σ=x::y::more) P n D (some x::some y::more) i) else cNo (λσ=>∃x y,σ=x::y::more) P n D (some x::some y::more) i H4)
  (hd:∀zs H,P n zs H->H D=some (.lst zs)->Q (.ref D) H):
  jd (ItzK kd ke K p q) (gTup K 2 (ZD (qN 0) (ZD (qN 1) gNil))) tt te (none::none::more) H1 Q D:=by
 refine⟨cW (λσ=>∃x y,σ=x::y::more) P n D,⟨n,(FQ _).symm,BC _,⟨_,_,O⟩,_,h0,ze⟩,?_⟩;rintro i m af H' ⟨rfl,hi,⟨s1,s2,rfl⟩,zs,pp,hD⟩;obtain⟨q1,q2⟩:=hp i zs H' pp hD;by_cases aA:i<n
 ·have k1:xs[i]?=some (xs.getD i .non):=by simp[List.getD,show i<xs.length by lia]
  have k2:ys[i]?=some (ys.getD i .non):=by simp[List.getD,show i<ys.length by lia]
  refine .inr ⟨⟨xs,ys,_,_,q1,q2,k1,k2⟩,?_⟩;rintro v H2 ⟨T,x,y,hT,rfl,rfl,dD⟩;obtain⟨e1,e2⟩:=dD xs ys q1 q2;exact⟨T,_,O,TU ze,O,_,_,O,_,_,O,O,hs i zs H' T x y e1 e2 aA pp hD hT⟩
 ·have e:i=n:=⋯;subst e;exact .inl ⟨⟨xs,ys,q1,q2,⋯⟩,hd zs H' pp hD⟩
end L2
namespace Tn
theorem pls_lt' {m:Nat}{gs:List Nat}(hl:∀x∈gs,x<m):∀(k:Nat),∀p∈pls m gs k,p<m^k
 |0,p,hp=>by
  have e:p=0:=by simpa [pls]using hp
  rw[e,FS]
  decide
 |k+1,p,hp=>by obtain⟨q,hq,hp⟩:=BV.mp hp;obtain⟨g,hg,rfl⟩:=AK.mp hp;have h1:=pls_lt' hl k q hq;have h2:=hl g hg;rw[DQ];have h3:(q+1)*m<=m^k*m:=Bp m h1;rw[Cj]at h3;lia
def rowsR (n:Nat):Nat->List (List Nat)
 |0=>[[]]
 |1=>(List.range n).map λi=>[i]
 |2=>(List.range (n*n)).map λi=>[i/n,i%n]
 |_=>[]
theorem rows_rw {n:Nat}:∀{k:Nat},∀r∈rowsR n k,Rw n k r
 |0,r,h=>by rw[AN.mp h];exact⟨O,λx hx=>by cases hx⟩
 |1,r,h=>by obtain⟨i,hi,rfl⟩:=AK.mp h;exact⟨O,λx hx=>by rw[AN.mp hx];exact AS.mp hi⟩
 |2,r,h=>by
  obtain⟨i,hi,rfl⟩:=AK.mp h;have hi:=AS.mp hi;have mp:0<n:=by
   rcases Dc n with z|z
   ·rw[z]at hi;lia
   ·exact z
  refine⟨O,λx hx=>?_⟩
  rcases Al.mp hx with h|h
  ·rw[h];exact (Cd mp).mpr hi
  ·rw[AN.mp h];exact CG _ mp
 |k+3,r,h=>by cases h
theorem rows_len {n:Nat}:∀{k:Nat},k<=2->(rowsR n k).length=n^k
 |0,_=>rfl
 |1,_=>by show ((List.range n).map _).length=n^1;rw[AB,AU,D9]
 |2,_=>by show ((List.range (n*n)).map _).length=n^2;rw[AB,AU,Nat.pow_two]
 |k+3,h=>⋯
def at_map {gs:TC}{i:Nat}(hi:i<gs.length):gs[i]?=some (at' gs i):=by unfold at';rw[AM,AC hi];rfl
theorem pls_rows {m:Nat}{gs:List Nat}:∀{k:Nat},k<=2->pls m gs k=(rowsR gs.length k).map λr=>place m (r.map (at' gs))
 |0,_=>rfl
 |1,_=>by
  show ([0].flatMap λp=>gs.map λg=>p*m+g)=((List.range gs.length).map λi=>[i]).map _;rw[AW];refine BJ λi=>?_;simp only[List.flatMap_cons,List.flatMap_nil,List.append_nil];rw[AG,AG];by_cases hi:i<gs.length
  ·rw[at_map hi,A0 hi];rfl
  ·rw[Aw ⋯,Aw (by rw[AU];lia)];rfl
 |2,_=>by
  have e1:pls m gs 1=gs.map λg=>0*m+g:=by show ([0].flatMap λp=>gs.map λg=>p*m+g)=_;simp
  show ((pls m gs 1).flatMap λp=>gs.map λg=>p*m+g)=((List.range (gs.length*gs.length)).map λi=>[i/gs.length,i%gs.length]).map _;rw[AW];refine BJ λi=>?_;rw[AG];have fl:((pls m gs 1).flatMap λp=>gs.map λg=>p*m+g).length=gs.length*gs.length:=by rw[flat_len _ gs.length (λx=>by rw[AB]),e1,AB]
  by_cases hi:i<gs.length*gs.length
  ·have np:0<gs.length:=by
    rcases Dc gs.length with z|z
    ·rw[z]at hi;lia
    ·exact z
   have h1:i/gs.length<gs.length:=(Cd np).mpr hi;have h2:i%gs.length<gs.length:=CG _ np;have e2:(pls m gs 1)[i/gs.length]?=some (0*m+at' gs (i/gs.length)):=by rw[e1,AG,at_map h1];rfl
   have e3:=flat_get (λp=>gs.map λg=>p*m+g) gs.length (λx=>by rw[AB]) (pls m gs 1) (i/gs.length) (i%gs.length) _ e2 h2;have e4:i/gs.length*gs.length+i%gs.length=i:=by rw[BP];exact DY i gs.length
   rw[e4]at e3;rw[e3,AG,at_map h2,A0 hi];rfl
  ·rw[Aw ⋯,Aw (by rw[AU];lia)];rfl
 |k+3,h=>⋯
theorem zip_same {α β γ:Type}(f:α->β)(g:α->γ):∀L:List α,(L.map f).zip (L.map g)=L.map λr=>(f r,g r)
 | []=>rfl
 |x::L=>by rw[Af,Af,Af,Dd,zip_same f g L]
def pw (n b:Nat)(ws us:TC):TC:=(List.range n).filter λp=>decide (p/b∈ws)&&decide (p%b∈us)
def dw (b:Nat)(ws us:TC):TC:=ws.flatMap λf=>us.map λs=>f*b+s
def dw_mem {b:Nat}{ws us:TC}(hu:∀x∈us,x<b){p:Nat}:p∈dw b ws us↔p/b∈ws/\p%b∈us:=by
 unfold dw;rw[BV];constructor
 ·rintro⟨f,hf,hp⟩;obtain⟨s,hs,rfl⟩:=AK.mp hp;have hb:=hu s hs;have e1:(f*b+s)/b=f:=by rw[BP,EE ⋯,Dw hb,Ck]
  have e2:(f*b+s)%b=s:=by rw[BP,ED,Dv hb]
  rw[e1,e2];exact⟨hf,hs⟩
 ·rintro⟨h1,h2⟩;refine⟨_,h1,AK.mpr ⟨_,h2,?_⟩⟩;rw[BP];exact DY p b
theorem dw_ris {b:Nat}{us:List Nat}(hu:∀x∈us,x<b)(ru:us.Pairwise (·<·)):∀{ws:List Nat},ws.Pairwise (·<·)->(dw b ws us).Pairwise (·<·)
 | [],_=>.nil
 |w::ws,h=>by
  obtain⟨h1,h2⟩:=Cz.mp h;show ((us.map λs=>w*b+s)++dw b ws us).Pairwise (·<·);rw[Bq];refine⟨?_,dw_ris hu ru h2,λx hx y hy=>?_⟩
  ·rw[A7];exact ru.imp λaO=>⋯
  ·obtain⟨s,hs,rfl⟩:=AK.mp hx;obtain⟨h3,h4⟩:=(dw_mem hu).mp hy;have h5:=h1 _ h3;have h6:=hu s hs;have h7:=DY y b;have h8:(w+1)*b<=y/b*b:=Bp b h5;rw[Cj]at h8;rw[BP]at h7;lia
def pw_dw {a b:Nat}{ws us:TC}(du:ws.Pairwise (·<·))(hw:∀x∈ws,x<a)(ru:us.Pairwise (·<·))(hu:∀x∈us,x<b):pw (a*b) b ws us=dw b ws us:=by
 have hl:∀x∈dw b ws us,x<a*b:=λx hx=>by obtain⟨h1,h2⟩:=(dw_mem hu).mp hx;have h3:=hw _ h1;have h4:=hu _ h2;have h5:=DY x b;have h6:(x/b+1)*b<=a*b:=Bp b h3;rw[Cj]at h6;rw[BP]at h5;lia
 rw[<- sub_range (dw_ris hu ru du) hl];unfold pw;refine List.filter_congr λp hp=>?_;rw[<- Bool.decide_and];exact decide_eq_decide.mpr (dw_mem hu).symm
def fsts (n b:Nat):TC:=(List.range n).map λp=>p/b
def snds (n b:Nat):TC:=(List.range n).map λp=>p%b
def pc (n a b k:Nat)(cs ds:TC):TC:=((pls a (fsts n b) k).zip (pls b (snds n b) k)).map λz=>at' cs z.1*b+at' ds z.2
def dc (n a b k:Nat)(cs ds:TC):TC:=(rowsR n k).map λr=>at' cs (place a (r.map (·/b)))*b+at' ds (place b (r.map (·%b)))
def fsts_len (n b:Nat):(fsts n b).length=n:=by unfold fsts;rw[List.length_map,List.length_range]
def snds_len (n b:Nat):(snds n b).length=n:=by unfold snds;rw[List.length_map,List.length_range]
def fsts_at {n b i:Nat}(h:i<n):at' (fsts n b) i=i/b:=by unfold at' fsts;rw[AM,AG,A0 h];rfl
def snds_at {n b i:Nat}(h:i<n):at' (snds n b) i=i%b:=by unfold at' snds;rw[AM,AG,A0 h];rfl
def pc_dc {n a b k:Nat}(hk:k<=2)(cs ds:TC):pc n a b k cs ds=dc n a b k cs ds:=by unfold pc dc;rw[pls_rows hk,pls_rows hk,fsts_len,snds_len,zip_same,AW];refine Ab λr hr=>?_;have h:=rows_rw r hr;have e1:r.map (at' (fsts n b))=r.map (·/b):=Ab λx hx=>fsts_at (h.2 x hx);have e2:r.map (at' (snds n b))=r.map (·%b):=Ab λx hx=>snds_at (h.2 x hx);show at' cs (place a (r.map (at' (fsts n b))))*b+at' ds (place b (r.map (at' (snds n b))))=_;rw[e1,e2]
def div_lt' {a b x:Nat}(h:x<a*b):x/b<a:=by
 have bp:0<b:=by
  rcases Dc b with z|z
  ·rw[z]at h;lia
  ·exact z
 exact (Cd bp).mpr h
def dc_cs {a b k:Nat}{cs ds:TC}(hk:k<=2)(bp:0<b)(hc:Cs a k cs)(hd:Cs b k ds):Cs (a*b) k (dc (a*b) a b k cs ds):=by
 refine⟨by unfold dc;rw[List.length_map,rows_len hk],λx hx=>?_⟩;obtain⟨r,hr,rfl⟩:=AK.mp hx;have h:=rows_rw r hr;have h1:=hc.at_lt (place_lt k _ (Rw.map (m:=a) (k:=k) (r:=r.map (·/b)) (f:=id) ⟨by rw[AB];exact h.1,λx hx=>by obtain⟨y,hy,rfl⟩:=AK.mp hx;exact div_lt' (h.2 y hy)⟩ λx hx=>hx))
 rw[List.map_id]at h1;have h2:=hd.at_lt (place_lt k (r.map (·%b)) ⟨by rw[AB];exact h.1,λx hx=>by obtain⟨y,hy,rfl⟩:=AK.mp hx;exact CG _ bp⟩)
 have h3:(at' cs (place a (r.map (·/b)))+1)*b<=a*b:=Bp b h1;rw[Cj]at h3;show at' cs (place a (r.map (·/b)))*b+at' ds (place b (r.map (·%b)))<a*b;lia
end Tn
namespace L2
open PySem PySem.Spec PyProof.Rows
section
variable {X:Cx}
def kslT (K:Fv)(hK:X.K=K:=by rfl):SlR X (λx lo hi H Q=>rSlT K x lo hi H Q\/rSlTW K x lo hi H Q):=by subst hK;exact sl_tup.or sl_tupW
end
def Jm {K:Fv}{a:Addr}{n:Nat}{xs:List V}{ad:Nat->Addr}{v1 v2 v3:Nat->V}{tt:TT}{te:TE}{H1:Hp}{Q:VK}{D:Addr}{more:St}(P:Nat->List V->Hp->Prop)(h0:P 0 [] (upd H1 D (.lst [])))(hn:xs.length=n)(hx:∀i,i<n->xs[i]?=some (.ref (ad i)))
  (hl:∀i ys H,P i ys H->H D=some (.lst ys)->SqT K H a xs)(ht:∀i ys H,i<n->P i ys H->SqT K H (ad i) [v1 i,v2 i,v3 i])
  (hs:∀i ys H,i<n->P i ys H->H D=some (.lst ys)->tt (some (v1 i)::some (v2 i)::some (v3 i)::more) H λb H4=>if b=true then te (some (v1 i)::some (v2 i)::some (v3 i)::more) H4 (Xi (λσ=>∃x y z,σ=x::y::z::more) P n D (some (v1 i)::some (v2 i)::some (v3 i)::more) i) else cNo (λσ=>∃x y z,σ=x::y::z::more) P n D (some (v1 i)::some (v2 i)::some (v3 i)::more) i H4)
  (hd:∀ys H,P n ys H->H D=some (.lst ys)->Q (.ref D) H):
  jd (Itt K a) (gTup K 3 (ZD (qN 0) (ZD (qN 1) (ZD (qN 2) gNil)))) tt te (none::none::none::more) H1 Q D:=by
 refine jU (xv:=λi=>.ref (ad i)) (st:=λi=>some (v1 i)::some (v2 i)::some (v3 i)::more) (λσ=>∃x y z,σ=x::y::z::more) P ⟨_,_,_,O⟩ h0 (λi ys H hi p hD=>⟨⟨xs,_,hl i ys H p hD,hx i hi⟩,λx H2 y=>⟨y.1,?_⟩⟩) (λys H p hD=>⟨xs,hl _ ys H p hD,Eg hn⟩)
  (λi ys af H K' hi r p k=>?_) hs hd
 ·have e:=y.2 xs (hl i ys H p hD);rw[hx i hi]at e;exact (AH e).symm
 ·obtain⟨x,y,z,rfl⟩:=r;exact⟨ad i,_,O,ht i ys H hi p,O,_,_,O,_,_,O,_,_,O,O,k⟩
section
variable {κ:Type}[DecidableEq κ]
def jk (kvs:List (κ×V))(k:κ):Option V:=(kvs.find? λkv=>decide (kv.1=k)).map (·.2)
def Z8 (kvs:List (κ×V))(k:κ)(v:V):List (κ×V):=
 if (kvs.any λkv=>decide (kv.1=k))=true then kvs.map (λkv=>if kv.1=k then (kv.1,v) else kv) else kvs++[(k,v)]
def qz {p:κ×V}{r:List (κ×V)}{k:κ}(e:p.1=k):jk (p::r) k=some p.2:=by simp[jk,List.find?_cons,e]
def qw {p:κ×V}{r:List (κ×V)}{k:κ}(e:¬p.1=k):jk (p::r) k=jk r k:=by simp[jk,List.find?_cons,e]
theorem Qm (k:κ):∀kvs:List (κ×V),(kvs.any λkv=>decide (kv.1=k))=(jk kvs k).isSome
 | []=>rfl
 |p::r=>by
  rw[Dy];by_cases e:p.1=k
  ·simp only[qz e,decide_eq_true e,Bool.true_or,Option.isSome_some]
  ·rw[qw e,Ag e,Bool.false_or];exact Qm k r
theorem YX (k j:κ)(y:V):∀kvs:List (κ×V),jk (kvs.map λkv=>if kv.1=k then (kv.1,y) else kv) j=(jk kvs j).map λx=>if j=k then y else x
 | []=>rfl
 |p::r=>by
  have ih:=YX k j y r;rw[Af];by_cases h:p.1=k
  ·rw[if_pos h];by_cases e:p.1=j
   ·rw[qz (p:=(p.1,y)) e,qz e,EC,if_pos (e.symm.trans h)]
   ·rw[qw (p:=(p.1,y)) e,qw e,ih]
  ·rw[if_neg h];by_cases e:p.1=j
   ·rw[qz (p:=p) e,qz e,EC,if_neg (λz=>h (e.trans z))]
   ·rw[qw (p:=p) e,qw e,ih]
theorem yd (k j:κ)(y:V):∀kvs:List (κ×V),jk kvs k=none->jk (kvs++[(k,y)]) j=if j=k then some y else jk kvs j
 | [],_=>by
  by_cases e:k=j
  ·rw[if_pos e.symm];exact qz (p:=(k,y)) e
  ·rw[if_neg (λz=>e z.symm)];exact qw (p:=(k,y)) e
 |p::r,hn=>by
  rw[List.cons_append];have hk:¬p.1=k:=λz=>by rw[qz z]at hn;cases hn
  rw[qw hk]at hn;have ih:=yd k j y r hn;by_cases e:p.1=j
  ·rw[qz e,qz e,if_neg (λz=>hk (e.trans z))]
  ·rw[qw e,qw e,ih]
def Q3 (kvs:List (κ×V))(k j:κ)(y:V):jk (Z8 kvs k y) j=if j=k then some y else jk kvs j:=by
 unfold Z8;by_cases a:(kvs.any λkv=>decide (kv.1=k))=true
 ·rw[if_pos a,YX];rw[Qm]at a;by_cases e:j=k
  ·obtain⟨x,hx⟩:=ET.mp a;rw[if_pos e,e,hx,EC,if_pos rfl]
  ·rw[if_neg e];cases jk kvs j with
   |none=>rfl
   |some x=>rw[EC,if_neg e]
 ·rw[if_neg a];refine yd k j y kvs ?_;rw[Qm]at a;cases q:jk kvs k with
  |none=>rfl
  |some x=>rw[q]at a;exact (a rfl).elim
def Zi (kvs:List (κ×V))(k:κ)(v:V):(Z8 kvs k v).length<=kvs.length+1:=by
 unfold Z8;split
 ·rw[AB];lia
 ·rw[AJ,Ax,List.length_nil];lia
def Wh {kvs:List (κ×V)}{k:κ}(v:V)(h:jk kvs k=none):Z8 kvs k v=kvs++[(k,v)]:=by unfold Z8;rw[Qm,h];exact if_neg ∅
def Xg.isSome_eq {o:Option V}{u:Option Value}(r:Xg o u):o.isSome=u.isSome:=by
 cases o with
 |none=>cases u with
  |none=>rfl
  |some _=>exact (show False from r).elim
 |some _=>cases u with
  |none=>exact (show False from r).elim
  |some _=>rfl
def KV.val {kvs:List (κ×V)}{vs:List (κ×Value)}(r:KV kvs vs)(k:κ):Xg (jk kvs k) (valueAt vs k):=by
 unfold KV at r
 induction r with
 |nil=>exact True.intro
 | @cons p q ps qs h t ih=>
  obtain⟨h1,h2⟩:=h;by_cases e:p.1=k
  ·have e':q.1=k:=h1.symm.trans e;have b:valueAt (q::qs) k=some q.2:=by simp[valueAt,List.find?_cons,e']
   rw[qz e,b];exact h2
  ·have e':¬q.1=k:=λz=>e (h1.trans z);have b:valueAt (q::qs) k=valueAt qs k:=by simp[valueAt,List.find?_cons,e']
   rw[qw e,b];exact ih
def KV.any {kvs:List (κ×V)}{vs:List (κ×Value)}(r:KV kvs vs)(k:κ):(kvs.any λkv=>decide (kv.1=k))=vs.any λkv=>decide (kv.1=k):=by
 unfold KV at r
 induction r with
 |nil=>rfl
 |cons h t ih=>rw[Dy,Dy,ih,h.1]
def KV.repl {kvs:List (κ×V)}{vs:List (κ×Value)}(r:KV kvs vs)(k:κ){y:V}{u:Value}(ry:RelV y u):
  KV (kvs.map λkv=>if kv.1=k then (kv.1,y) else kv) (vs.map λkv=>if kv.1=k then (kv.1,u) else kv):=by
 unfold KV at r ⊢
 induction r with
 |nil=>exact .nil
 | @cons p q ps qs h t ih=>
  rw[Af,Af];refine .cons ?_ ih;obtain⟨h1,h2⟩:=h;by_cases e:p.1=k
  ·rw[if_pos e,if_pos (h1.symm.trans e)];exact⟨h1,ry⟩
  ·rw[if_neg e,if_neg (λz=>e (h1.trans z))];exact⟨h1,h2⟩
def KV.put {kvs:List (κ×V)}{vs:List (κ×Value)}(r:KV kvs vs)(k:κ){y:V}{u:Value}(ry:RelV y u):KV (Z8 kvs k y) (stored vs k u):=by
 unfold Z8 stored;rw[r.any k];by_cases e:(vs.any λkv=>decide (kv.1=k))=true
 ·rw[if_pos e,if_pos e];exact r.repl k ry
 ·rw[if_neg e,if_neg e];exact Paired.snoc r ⟨rfl,ry⟩
def KV.keys {kvs:List (κ×V)}{vs:List (κ×Value)}(r:KV kvs vs):kvs.map (·.1)=vs.map (·.1):=by
 unfold KV at r
 induction r with
 |nil=>rfl
 |cons h t ih=>rw[Af,Af,ih,h.1]
def KV.length {kvs:List (κ×V)}{vs:List (κ×Value)}(r:KV kvs vs):kvs.length=vs.length:=Ac r
end
def xB {P:Program}{w:World}{k:Key}{u:Value}(r:RelV (kV k) u):(zS P w).is k u=true:=by
 cases k with
 |inl i=>obtain⟨t,e⟩:=(show ∃t,u=Value.int i t from r);subst e;exact yU P w i t
 |inr x=>obtain⟨t,e⟩:=(show ∃t,u=Value.str x t from r);subst e;exact yV P w x t
theorem ye {P:Program}{w:World}:∀{ks:List Key}{us:List Value},qh (ks.map kV) us->ItemsAre (zS P w) ks us
 | [],_,r=>by rw[Ei]at r;cases r;exact .nil
 |k::ks,_,r=>by
  rw[Af]at r;cases r with
  |cons h t=>exact .cons (xB h) (ye t)
abbrev KT (H:Hp):List (List Key×V)->List (List Key×Addr×Value)->Prop:=Paired λp q=>p.1=q.1/\H q.2.1=some (.tup (p.1.map kV))/\RelV p.2 q.2.2
def KT.val {H:Hp}{kvs:List (List Key×V)}{xs:List (List Key×Addr×Value)}(r:KT H kvs xs)(k:List Key):Xg (jk kvs k) ((atKey xs k).map (·.2)):=by
 induction r with
 |nil=>exact True.intro
 | @cons p q ps qs h t ih=>
  obtain⟨h1,_,h2⟩:=h;by_cases e:p.1=k
  ·have e':q.1=k:=h1.symm.trans e;have b:atKey (q::qs) k=some q.2:=by simp[atKey,List.find?_cons,e']
   rw[qz e,b];exact h2
  ·have e':¬q.1=k:=λz=>e (h1.trans z);have b:atKey (q::qs) k=atKey qs k:=by simp[atKey,List.find?_cons,e']
   rw[qw e,b];exact ih
def KT.repl {H:Hp}{kvs:List (List Key×V)}{xs:List (List Key×Addr×Value)}(r:KT H kvs xs)(k:List Key){y:V}{u:Value}(ry:RelV y u):
  KT H (kvs.map λkv=>if kv.1=k then (kv.1,y) else kv) (xs.map (putAt k u)):=by
 induction r with
 |nil=>exact .nil
 | @cons p q ps qs h t ih=>
  rw[Af,Af];refine .cons ?_ ih;obtain⟨h1,h2,h3⟩:=h;unfold putAt;by_cases e:p.1=k
  ·rw[if_pos e,if_pos (h1.symm.trans e)];exact⟨h1,h2,ry⟩
  ·rw[if_neg e,if_neg (λz=>e (h1.trans z))];exact⟨h1,h2,h3⟩
def KT.put {H:Hp}{kvs:List (List Key×V)}{xs:List (List Key×Addr×Value)}(r:KT H kvs xs)(k:List Key){b:Addr}{y:V}{u:Value}(hb:H b=some (.tup (k.map kV)))(ry:RelV y u):
  KT H (Z8 kvs k y) (storedH xs k b u):=by
 have e:(kvs.any λkv=>decide (kv.1=k))=(atKey xs k).isSome:=by rw[Qm,(r.val k).isSome_eq,Option.isSome_map]
 unfold Z8 storedH;rw[e];by_cases q:(atKey xs k).isSome=true
 ·rw[if_pos q,if_pos q];exact r.repl k ry
 ·rw[if_neg q,if_neg q];exact Paired.snoc r ⟨rfl,hb,ry⟩
def KT.keeps {H H':Hp}{kvs:List (List Key×V)}{xs:List (List Key×Addr×Value)}(r:KT H kvs xs)(ht:∀b ys,H b=some (.tup ys)->H' b=some (.tup ys)):KT H' kvs xs:=
 TM r λ_ _ z=>⟨z.1,ht _ _ z.2.1,z.2.2⟩
section
variable {P:Program}{w:World}{H:Hp}{h:Heap}{a:Addr}
def rd_of {u:HO}(ok:HOk P w H h)(e:Rd H a u):qm P w H h a u:=e.ok ok
def XV {kvs:List (Key×V)}(ok:HOk P w H h)(e:Rd H a (.dK kvs)):kvs.length<=sizeLine/\(a==sysModules)=false/\∃vs,KV kvs vs/\h.DictOf (zS P w) a vs:=
 show qm P w H h a (.dK kvs) from rd_of ok e
def dk_of {kvs:List (Key×V)}(ok:HOk P w H h)(e:H a=some (.dK kvs)):kvs.length<=sizeLine/\(a==sysModules)=false/\∃vs,KV kvs vs/\h.DictOf (zS P w) a vs:=XV ok (.inl e)
def yf {ks:List Key}(ok:HOk P w H h)(e:H a=some (.tup (ks.map kV))):(tupleKind (zS P w)).is h ks a:=by
 obtain⟨_,its,r,o,h1,h2,⟨n,h3⟩,_⟩:=(show qm P w H h a (.tup (ks.map kV)) from ok a _ e)
 exact⟨o,its.toArray,n,h1,h2,h3,by simpa using ye r⟩
def dt_rd {kvs:List (List Key×V)}(ok:HOk P w H h)(e:Rd H a (.dT kvs)):kvs.length<=sizeLine/\(a==sysModules)=false /\
  ∃xs,KT H kvs xs/\h.DictOfH (tupleKind (zS P w)) a xs:=by
 obtain⟨z,y,xs,r,o,es,ep,h1,h2,h3,h4,h5⟩:=(show qm P w H h a (.dT kvs) from rd_of ok e)
 refine⟨z,y,xs,r,o,es,ep,h1,h2,h3,h4,λx hx=>?_,h5⟩;have all:∀{l:List (List Key×V)} {m:List (List Key×Addr×Value)},KT H l m->∀x∈m,(tupleKind (zS P w)).is h x.1 x.2.1:=by
  intro l m q
  induction q with
  |nil=>intro x hx;exact nomatch hx
  | @cons p q ps qs hq t ih=>
   intro x hx
   rcases Al.mp hx with e|hx
   ·subst e;exact yf ok (by rw[<- hq.1];exact hq.2.1)
   ·exact ih x hx
 exact all r x hx
def dt_of {kvs:List (List Key×V)}(ok:HOk P w H h)(e:H a=some (.dT kvs)):kvs.length<=sizeLine/\(a==sysModules)=false /\
  ∃xs,KT H kvs xs/\h.DictOfH (tupleKind (zS P w)) a xs:=dt_rd ok (.inl e)
end
def Wi (H:Hp)(a:Addr)(y:V)(r:Option V):Prop:=
 (∃kvs k,Rd H a (.dK kvs)/\y=kV k/\r=jk kvs k)\/∃kvs k b,Rd H a (.dT kvs)/\y=.ref b/\H b=some (.tup (k.map kV))/\r=jk kvs k
def DPut (H:Hp)(a:Addr)(y v:V)(H':Hp):Prop:=
 (∃kvs k,H a=some (.dK kvs)/\y=kV k/\kvs.length<sizeLine/\H'=upd H a (.dK (Z8 kvs k v))) \/
 ∃kvs k b,H a=some (.dT kvs)/\y=.ref b/\H b=some (.tup (k.map kV))/\kvs.length<sizeLine/\H'=upd H a (.dT (Z8 kvs k v))
def Wi.k {H:Hp}{a:Addr}{kvs:List (Key×V)}{k:Key}(e:H a=some (.dK kvs)):Wi H a (kV k) (jk kvs k):=.inl ⟨kvs,k,.inl e,rfl,rfl⟩
def Wi.t {H:Hp}{a b:Addr}{kvs:List (List Key×V)}{k:List Key}(e:H a=some (.dT kvs))(eb:H b=some (.tup (k.map kV))):Wi H a (.ref b) (jk kvs k):=.inr ⟨kvs,k,b,.inl e,rfl,eb,rfl⟩
def DPut.k {H:Hp}{a:Addr}{kvs:List (Key×V)}{k:Key}{v:V}(e:H a=some (.dK kvs))(hl:kvs.length<sizeLine):DPut H a (kV k) v (upd H a (.dK (Z8 kvs k v))):=.inl ⟨kvs,k,e,rfl,hl,rfl⟩
def DPut.t {H:Hp}{a b:Addr}{kvs:List (List Key×V)}{k:List Key}{v:V}(e:H a=some (.dT kvs))(eb:H b=some (.tup (k.map kV)))(hl:kvs.length<sizeLine):
  DPut H a (.ref b) v (upd H a (.dT (Z8 kvs k v))):=.inr ⟨kvs,k,b,e,rfl,eb,hl,rfl⟩
section
variable {X:Cx}{pins:List (Addr×Obj)}{σ:St}{H:Hp}{s:Shared}{a:Addr}{y v:V}{u r:Value}{o:Option V}{A:Around}{E:TB}
def Inv.big (I:Inv X pins σ H s):sysModules<s.heap.objs.size:=by have h:mainGlobals<s.heap.objs.size:=(I.mod.glob.keeps I.bk).lt;exact Ee ∅ h
def XW {Q:TB}(hu:A.units+1<cLine)(I:Inv X pins σ H s)(g:Wi H a y (some v))(ry:RelV y u)(h:∀w' s',Inv X pins σ H s'->RelV v w'->Q w' s'):
  wpAny (model X.prog X.w) A (getItem (.ref a) u) Q E s:=by
 rcases g with ⟨kvs,k,e,ey,l⟩|⟨kvs,k,b,e,ey,eb,l⟩
 ·subst ey;obtain⟨z,hd,vs,rel,dd⟩:=XV I.hok e;obtain⟨w',hw,du⟩:=Xg.some_of (v:=v) (o:=valueAt vs k) (by rw[l];exact rel.val k);exact wpAny_getItem_of (xB ry) dd.mapOf hw (h w' _ (I.tok _) du)
 ·subst ey;cases (show u=Value.ref b from ry);obtain⟨z,hd,xs,rel,dd⟩:=dt_rd I.hok e;obtain⟨w',hw,du⟩:=Xg.some_of (v:=v) (o:=(atKey xs k).map (·.2)) (by rw[l];exact rel.val k);obtain⟨p,hp,kq⟩:=Aj.mp hw;refine wpAny_getItem_heap (EV hu) (yf I.hok eb) dd hp ?_;rw[kq];exact h w' _ (I.tok _) du
def XX {Q:TB}(hu:A.units+1<cLine)(I:Inv X pins σ H s)(g:Wi H a y o)(ry:RelV y u)(h:∀s',Inv X pins σ H s'->Q (.bool (!o.isSome)) s'):
  wpAny (model X.prog X.w) A (compareOp .NotIn u (.ref a)) Q E s:=by
 rcases g with ⟨kvs,k,e,ey,l⟩|⟨kvs,k,b,e,ey,eb,l⟩
 ·subst ey;obtain⟨z,hd,vs,rel,dd⟩:=XV I.hok e;refine wpAny_notIn_of (xB ry) hd dd.mapOf ?_;rw[<- (rel.val k).isSome_eq,<- l];exact h _ (I.tok _)
 ·subst ey;cases (show u=Value.ref b from ry);obtain⟨z,hd,xs,rel,dd⟩:=dt_rd I.hok e;refine wpAny_notIn_heap (EV hu) (yf I.hok eb) hd dd ?_;have q:=(rel.val k).isSome_eq;rw[Option.isSome_map]at q;rw[<- q,<- l];exact h _ (I.tok _)
def XY {h':Heap}{t':Nat}{ob:HO}(I:Inv X pins σ H s)(mu:Mut (H a))(hs:Heap.SameBut a s.heap h')(he:∃q,h'.get? a=some q)(new:qm X.prog X.w (upd H a ob) h' a ob):
  Inv X pins σ (upd H a ob) {s with heap:=h',toks:=t'}:=
 I.write (x:=a) (e:=a) mu (.inl rfl) (λb q hb z=>(hs.2 b hb).trans z) he new
def dk_new {P:Program}{w:World}{H':Hp}{h':Heap}{kvs:List (Key×V)}{vs:List (Key×Value)}(z:kvs.length<=sizeLine)(hd:(a==sysModules)=false)(rel:KV kvs vs)(dd:h'.DictOf (zS P w) a vs):
  qm P w H' h' a (.dK kvs):=⟨z,hd,vs,rel,dd⟩
def yg {H':Hp}{Q:Unit->Shared->Prop}(hu:A.units+1<cLine)(I:Inv X pins σ H s)(g:DPut H a y v H')(ry:RelV y u)(rv:RelV v r)(h:∀s',Inv X pins σ H' s'->Q () s'):
  wpAny (model X.prog X.w) A (setItem (.ref a) u r) Q E s:=by
 rcases g with ⟨kvs,k,e,ey,l,eH⟩|⟨kvs,k,b,e,ey,eb,l,eH⟩
 ·subst ey eH;obtain⟨z,hd,vs,rel,dd⟩:=dk_of I.hok e;have hz:vs.length<=sizeLine:=by rw[<- rel.length];exact z
  have hl:(Z8 kvs k v).length<=sizeLine:=by have:=Zi kvs k v;lia
  refine wpAny_setItem_pairs (hsz:=hz) (xB ry) dd λh' pK hs=>h _ ?_;have he:∃q,h'.get? a=some q:=let ⟨q,_,_,hq,_⟩:=pK;⟨q,hq⟩;exact XY I (by rw[e];exact True.intro) hs he (dk_new hl hd (rel.put k rv) pK)
 ·subst ey eH;cases (show u=Value.ref b from ry);obtain⟨z,hd,xs,rel,dd⟩:=dt_of I.hok e;have hz:xs.length<=sizeLine:=by rw[<- Ac rel];exact z
  have hl:(Z8 kvs k v).length<=sizeLine:=by have:=Zi kvs k v;lia
  refine wpAny_setItem_heap (hsz:=hz) (EV hu) (yf I.hok eb) dd λh' pK hs=>h _ ?_;obtain⟨q,es,ep,hq,h2,h3,h4,_,h5⟩:=pK;refine XY I (by rw[e];exact True.intro) hs ⟨q,hq⟩ ⟨hl,hd,_,(rel.put k eb rv).keeps λc ys ec=>?_,q,es,ep,hq,h2,h3,h4,h5⟩;rw[zJ (ne_of ec e (λz=>nomatch z))];exact ec
end
section
variable {X:Cx}{pins:List (Addr×Obj)}{σ:St}{H:Hp}{s:Shared}{a:Addr}{kvs:List (Key × V)}{k:Key}{u:Value}{A:Around}{E:TB}
def d_len {Q:TB}(I:Inv X pins σ H s) (e:Rd H a (.dK kvs)) (h:∀t s',Inv X pins σ H s'->Q (.int kvs.length t) s'):wpAny (model X.prog X.w) A (call (.builtin "len") [.ref a]) Q E s:=by obtain⟨z,hd,vs,rel,dd⟩:=XV I.hok e;refine call_len_dict hd dd (by rw[<- rel.length];rw[Bl]at z;lia) ?_;rw[<- rel.length];exact h _ _ (I.tok _)
end
def NoSl (i:Expr):Prop:=∀ov iv,subscripted i false ov iv=operate [ov,iv] (getItem ov iv)
def XZ {prog:Program}{w:World}{A:Around}{E:TB}{s:Shared}{env:Env}{value slice:Expr}{pos:Pos}{T id:String}{Q:TB}
  (hl:typeLookup (.type T) "__getitem__" = pure (some (.builtin id))) (hs:NoSl slice)
  (h:wpAny (model prog w) A (eval value env) (λo ag=>wpAny (model prog w) A (eval slice env) (λi dJ=>dJ.TypeIs o T/\wpAny (model prog w) A (getItem o i) Q E dJ) E ag) E s):
  wpAny (model prog w) A (eval (.Subscript value slice pos) env) Q E s:=by
 refine Subscript_ (CD h (λo ag eO=>CD eO (λi dJ gY=>?_) λ_ _ x=>x) λ_ _ x=>x);obtain⟨hT,gY⟩:=gY;unfold subscriptTail;refine AA ?_;rw[getitemInPython_of_ne hT.not_modules];refine AA (Ct hT hl ?_);have fin:wpAny (model prog w) A (subscripted slice false o i) (λr kU=>wpAny (model prog w) A (letTemporaryGo value o r >>= λ_=>pure r) Q E kU) E dJ:=by rw[hs o i];exact wpAny_operating (CD gY (λr kU rK=>AA (wpAny_letTemporaryGo (AF rK))) λ_ _ x=>x)
 first
  |exact AF (AA fin)
  |exact AA (AF (AA fin))
  |exact AA fin
def Yc {X:Cx}{pins:List (Addr×Obj)}{σ:St}{H:Hp}{s:Shared}{a:Addr}{y:V}{o:Option V}(I:Inv X pins σ H s) (g:Wi H a y o):s.TypeIs (.ref a) "dict":=by
 rcases g with ⟨kvs,k,e,_,_⟩|⟨kvs,k,b,e,_,_,_⟩
 ·obtain⟨_,_,vs,_,dd⟩:=XV I.hok e;exact dd.typeIs
 ·obtain⟨_,_,xs,_,dd⟩:=dt_rd I.hok e;exact dd.typeIs
def tDGet (td ty:TE):TE:=λσ H Q=>td σ H λx H1=>ty σ H1 λy H2=>∃a v,x=.ref a/\Wi H2 a y (some v)/\Q v H2
def sDPut (td ty tv:TE):TS:=λD σ H=>tv σ H λv H1=>td σ H1 λx H2=>ty σ H2 λy H3=>∃a H4,x=.ref a/\DPut H3 a y v H4/\D.nx σ H4
section
variable {X:Cx}{o i e value:Expr}{pos pos' fu:Pos}{td ty tv:TE}
def Jn (hu:X.A.units+1<cLine)(ho:PE X o td)(hi:PE X i ty)(hs:NoSl i):PE X (.Subscript o i pos) (tDGet td ty):=by intro pins s σ H Q I h;refine XZ PySem.F.slot_dict_getitem.lookup hs (thn (ho pins s σ H _ I h) λu s1 ⟨x,H1,I1,rx,q1⟩=>thn (hi pins s1 σ H1 _ I1 q1) λiv s2 ⟨y,H2,I2,ry,a,v,ex,g,q2⟩=>?_);subst ex;obtain rfl:u=Value.ref a:=rx;exact⟨Yc I2 g,XW hu I2 g ry λw' s3 I3 du=>⟨v,H2,I3,du,q2⟩⟩
def ps_dput (hu:X.A.units+1<cLine)(ho:PE X o td)(hi:PE X i ty)(hv:PE X value tv)(hs:swapsWith value (some (.Subscript o i pos')) pos.line X.env=pure false):
  PS X (.Assign [.Subscript o i pos'] value pos) (sDPut td ty tv):=by
 intro pins s σ H D I h;refine wpAny_Assign_Subscript (thn (hv pins s σ H _ I h) λr s1 ⟨v,H1,I1,rv,q1⟩=>thn (ho pins s1 σ H1 _ I1 q1) λu s2 ⟨x,H2,I2,rx,q2⟩=>thn (hi pins s2 σ H2 _ I2 q2) λiv s3 ⟨y,H3,I3,ry,a,H4,ex,g,q3⟩=>?_) hs;subst ex;obtain rfl:u=Value.ref a:=rx;exact yg hu I3 g ry rv λs4 I4=>⟨σ,H4,I4,q3⟩
end
def dk_empty {P:Program}{w:World}{H:Hp}(h:Heap) (hb:sysModules<h.objs.size):qm P w H (h.push {cls:=.type "dict",data:=.dict #[]}) h.objs.size (.dK []):=
 ⟨BC _,beq_eq_false_iff_ne.mpr (An (AZ hb)),[],.nil,Heap.DictOf.new h⟩
def dt_empty {P:Program}{w:World}{H:Hp}(h:Heap) (hb:sysModules<h.objs.size):qm P w H (h.push {cls:=.type "dict",data:=.dict #[]}) h.objs.size (.dT []):=
 ⟨BC _,beq_eq_false_iff_ne.mpr (An (AZ hb)),[],.nil,_,#[],0,AQ _ rfl,⟨rfl,rfl,rfl⟩,rfl,rfl,List.nodup_nil⟩
def tDNewK:TE:=λ_ H Q=>∀p,H p=none->Q (.ref p) (upd H p (.dK []))
def tDNewT:TE:=λ_ H Q=>∀p,H p=none->Q (.ref p) (upd H p (.dT []))
section
variable {X:Cx}{pos:Pos}
def YY:PE X (.Dict [] [] pos) tDNewK:=λpins s σ H Q I h=>
 wpAny_Dict_empty ⟨.ref s.heap.objs.size,_,I.laid (a:=s.heap.objs.size) (o:=.dK []) (t':=s.toks) (λ_ _ q=>AE _ q) (AI _) (dk_empty s.heap I.big),rfl,h _ (I.hok.fresh (AI _))⟩
def pe_dnewT:PE X (.Dict [] [] pos) tDNewT:=λpins s σ H Q I h=>
 wpAny_Dict_empty ⟨.ref s.heap.objs.size,_,I.laid (a:=s.heap.objs.size) (o:=.dT []) (t':=s.toks) (λ_ _ q=>AE _ q) (AI _) (dt_empty s.heap I.big),rfl,h _ (I.hok.fresh (AI _))⟩
end
def no_keys:typeLookup (.type "list") "keys" = pure none:=E5 ∅
def qg:plainId "dict.update.loop" = true:=∅
def jr:entryFor table "dict.update.loop" = some Builtin.«dict.update.loop»:=entryFor_of_fast (by kernel_rfl)
def jW:isSubtype (.type "AttributeError") (.type "AttributeError")=pure true:=by rw[CW];kernel_rfl
def keys_by {prog:Program}{w:World}{A:Around}{E:TB}{s:Shared}{a:Addr}{o:Obj}{xs:TH}{k:Nat}{t:Tok}{Q:TB}
  (hx:s.heap.get? a=some o) (hc:o.cls=.type "list") (ay:o.data=.seq xs k) (hd:o.dict=none) (hA:A.handled=none)
  (h:∀h' tk e,Heap.NewExcOf s.heap h' e "AttributeError" -> E (.ref e) {s with heap:=h',toks:=tk}):
  wpAny (model prog w) A (getAttrBy (.ref a) (.str "keys" t) false) Q E s:=by
 obtain⟨c,dct,dat,sl⟩:=o;simp only at hc ay hd;subst hc ay hd;obtain⟨hp,g,d,tk,os⟩:=s;have hT:∀tk',(⟨hp,g,d,tk',os⟩:Shared).TypeIs (.ref a) "list":=λ_=>⟨_,hx,rfl⟩
 have f1:=jW;have f3:=Dt.lookup;have f4:=Dt.bind (.ref a);have f5:=am_list_getattr_none;unfold getAttrBy
 repeat (any_goals (first|assumption|exact hT _|((with_reducible show wpAny _ _ (call (Value.builtin "list.__getattribute__") _ _) _ _ _);refine Cg Dt (hT _) am_entry_list_getattribute (PySem.F.args_list_getattribute_2 _ _) (meets_getattribute_miss_list a xs k sl "keys" _ no_keys ∅ ∅) ⟨hx,hA,λh' tk' e dM=>?_⟩)|wp_step))
 obtain⟨t',u',he⟩:=dM.there;show wpAny _ _ (getattributeRaised _ _ _ _ _ _ _) _ _ _;unfold getattributeRaised
 repeat (any_goals (first|assumption|wp_step))
 exact h _ _ _ dM.of
def X0 {prog:Program}{w:World}{A:Around}{E:TB}{s:Shared}{a:Addr}{o:Obj}{xs:TH}{k:Nat}{Q:Option Value->Shared->Prop}
  (hx:s.heap.get? a=some o) (hc:o.cls=.type "list") (ay:o.data=.seq xs k) (hd:o.dict=none) (hA:A.handled=none)
  (h:∀h' tk,(∀b ob,s.heap.get? b=some ob->h'.get? b=some ob)->Q none {s with heap:=h',toks:=tk}):
  wpAny (model prog w) A (getAttr? (.ref a) "keys") Q E s:=by
 unfold getAttr? getAttrBy?;refine AA (wpAny_mkText (AA (Bj (keys_by (s:={s with toks:=s.toks+1}) hx hc ay hd hA λh' tk e ne=>?_))));obtain⟨kp,nw,ob,vs,he,h1,h2⟩:=ne;refine AA (Bz (T := "AttributeError") (b:=true) ⟨ob,he,h1⟩ jW ?_);exact AF (h h' tk kp)
def putAll (kvs:List (Key×V))(ps:List (Key×V)):List (Key×V):=ps.foldl (λacc p=>Z8 acc p.1 p.2) kvs
section
variable {prog:Program}{w:World}{A:Around}{R:Result->Shared->Prop}
def Jo (prog:Program)(w:World)(h:Heap)(v:Value)(k:Key)(x:Value):Prop:=∃b key,v=.ref b/\h.IsTuple b #[key,x]/\(zS prog w).is k key=true
def Jo.keep {prog:Program}{w:World}{h h':Heap}{v x:Value}{k:Key}{b0:Addr}(p:Jo prog w h v k x) (hs:∀b o,b≠b0->h.get? b=some o->h'.get? b=some o) (hn:∀o,h.get? b0=some o->o.cls≠.type "tuple"):Jo prog w h' v k x:=by obtain⟨b,key,rfl,⟨o,e,c,r⟩,hk⟩:=p;exact⟨b,key,O,⟨o,hs b o (λz=>by subst z;exact hn o e c) e,c,r⟩,hk⟩
end
def Prs (H:Hp):List V->List (Key×V)->Prop:=Paired λx p=>∃b,x=.ref b/\H b=some (.tup [kV p.1,p.2])
def prs_at {P:Program}{w:World}{H:Hp}{h:Heap}(ok:HOk P w H h){xs:List V}{ps:List (Key×V)}(r:Prs H xs ps):∀{us:TF},qh xs us->∃rs:List (Key×Value),KV ps rs/\∀(j:Nat) (p:Key×Value) (v:Value),rs[j]?=some p->us[j]?=some v->Jo P w h v p.1 p.2:=by
 unfold Prs at r
 induction r with
 |nil=>intro us rv;exact⟨[],.nil,λj p v e=>by simp at e⟩
 | @cons x p xs ps hx t ih=>
  intro us rv;cases rv with
  | @cons _ u _ us hu rv=>
   obtain⟨rs,r1,r2⟩:=ih rv;obtain⟨b,rfl,hb⟩:=hx;obtain⟨_,its,ri,o,e1,e2,⟨n,e3⟩,_⟩:=(show qm P w H h b (.tup [kV p.1,p.2]) from ok b _ hb)
   cases ri with
   | @cons _ ku _ _ hk ri=>
    cases ri with
    | @cons _ vu _ _ hv ri=>
     cases ri;refine⟨(p.1,vu)::rs,.cons ⟨O,hv⟩ r1,λj q v ej ev=>?_⟩;cases j with
     |zero=>cases (AH ej);cases (AH ev);obtain rfl:u=Value.ref b:=hu;exact⟨b,ku,O,⟨o,e1,e2,n,e3⟩,xB hk⟩
     |succ j=>exact r2 j q v ej ev
def put_all {ps:List (Key×V)}{rs:List (Key×Value)}(r:KV ps rs):∀{acc:List (Key×V)}{gI:List (Key×Value)},KV acc gI->KV (putAll acc ps) (rs.foldl (λ(acc:List (Key×Value)) (p:Key×Value)=>stored acc p.1 p.2) gI):=by
 unfold KV at r
 induction r with
 |nil=>exact λq=>q
 | @cons p q ps qs h t ih=>intro acc gI ra;obtain⟨h1,h2⟩:=h;show KV (putAll (Z8 acc p.1 p.2) ps) _;rw[CV,<- h1];exact ih (KV.put ra p.1 h2)
theorem Qn:∀(ps acc:List (Key×V)),(putAll acc ps).length<=acc.length+ps.length
 | [],acc=>AI _
 |p::ps,acc=>by have h1:=Qn ps (Z8 acc p.1 p.2);have h2:=Zi acc p.1 p.2;show (putAll (Z8 acc p.1 p.2) ps).length<=_;rw[Ax];lia
def X1:bootBuiltins "dict" = some (.type "dict"):=∅
section
variable {X:Cx}
def tKGet (td ty:TE):TE:=λσ H Q=>td σ H λx H1=>ty σ H1 λy H2=>∃a kvs k v,x=.ref a/\H2 a=some (.dK kvs)/\y=kV k/\jk kvs k=some v/\Q v H2
def pe_kget {o i:Expr}{pos:Pos}{td ty:TE}(ho:PE X o td)(hi:PE X i ty)(hs:NoSl i):PE X (.Subscript o i pos) (tKGet td ty):=by intro pins s σ H Q I h;refine XZ PySem.F.slot_dict_getitem.lookup hs (thn (ho pins s σ H _ I h) λu s1 ⟨x,H1,I1,rx,q1⟩=>thn (hi pins s1 σ H1 _ I1 q1) λiv s2 ⟨y,H2,I2,ry,a,kvs,k,v,ex,ea,ey,l,q2⟩=>?_);subst ex ey;obtain rfl:u=Value.ref a:=rx;obtain⟨z,hd,vs,rel,dd⟩:=dk_of I2.hok ea;obtain⟨w',hw,du⟩:=Xg.some_of (v:=v) (o:=valueAt vs k) (by rw[<- l];exact rel.val k);exact⟨dd.typeIs,wpAny_getItem_of (xB ry) dd.mapOf hw ⟨v,H2,I2.tok _,du,q2⟩⟩
end
open PySem PySem.Spec PyProof.Rows L4
def Prs.tk {H H':Hp}(s:Tk H H'){xs:List V}{ps:List (Key×V)}(h:Prs H xs ps):Prs H' xs ps:=by
 unfold Prs at h ⊢
 induction h with
 |nil=>exact .nil
 |cons r _ ih=>obtain⟨b,e,hb⟩:=r;exact .cons ⟨b,e,s _ _ hb⟩ ih
def Jp:Manifest.owners.lookup (String.ofList ['d','e','s','r','e','v','e','r'].reverse)=some Manifest.sig_reversed:=by kernel_rfl
def je:Slot "reversed" "__next__" "reversed.__next__":=
 .of (owner := "reversed") (n := "__next__") (by rw[Dp,Cq];kernel_rfl) ∅ ∅ ∅
  (by first|exact .inl ∅ | exact .inr ∅) (by rw[CW];kernel_rfl)
def ZZ:entryFor table "reversed.__next__" = some Builtin.«reversed.__next__»:=entryFor_of_tree (by kernel_rfl)
def ZK (a:Value):argsOk "reversed.__next__" ⟨[a],[]⟩:=by unfold argsOk;rw[signature?_of (id := "reversed.__next__") (n:=['_','_','t','x','e','n','_','_']) (o:=['d','e','s','r','e','v','e','r']) (by kernel_rfl) Jp];kernel_rfl
def Zj:Slot "reversed" "__length_hint__" "reversed.__length_hint__":=
 .of (owner := "reversed") (n := "__length_hint__") (by rw[Dp,Cq];kernel_rfl) ∅ ∅ ∅
  (by first|exact .inl ∅ | exact .inr ∅) (by rw[CW];kernel_rfl)
def J2:entryFor table "reversed.__length_hint__" = some Builtin.«reversed.__length_hint__»:=entryFor_of_tree (by kernel_rfl)
def Jq (a:Value):argsOk "reversed.__length_hint__" ⟨[a],[]⟩:=by unfold argsOk;rw[signature?_of (id := "reversed.__length_hint__") (n:=['_','_','t','n','i','h','_','h','t','g','n','e','l','_','_']) (o:=['d','e','s','r','e','v','e','r']) (by kernel_rfl) Jp];kernel_rfl
def Qo:Slot "reversed" "__iter__" "reversed.__iter__":=
 .of (owner := "reversed") (n := "__iter__") (by rw[Dp,Cq];kernel_rfl) ∅ ∅ ∅
  (by first|exact .inl ∅ | exact .inr ∅) (by rw[CW];kernel_rfl)
def Jr (a:Value):argsOk "reversed.__iter__" ⟨[a],[]⟩:=by unfold argsOk;rw[signature?_of (id := "reversed.__iter__") (n:=['_','_','r','e','t','i','_','_']) (o:=['d','e','s','r','e','v','e','r']) (by kernel_rfl) Jp];kernel_rfl
def J3:entryFor table "reversed.__iter__" = some Builtin.«dict_keyiterator.__iter__»:=
 entryFor_alias (id' := "dict_keyiterator.__iter__") (by kernel_rfl) (by first|rfl|ac_rfl|(unfold String.splitOn;simp +decide [String.splitOnAux])) ∅ (by kernel_rfl)
def xC:typeLookup (.type "tuple") "__reversed__" = pure none:=E5 ∅
def xD:typeLookup (.type "reversed") "__len__" = pure none:=E5 ∅
def Wj:Slot "reversed" "__init__" "object.__init__":=
 .of (owner := "object") (n := "__init__") (by rw[Dp,Cq];kernel_rfl) ∅ ∅ ∅
  (by first|exact .inl ∅ | exact .inr ∅) (by rw[CW];kernel_rfl)
def xE:TypeCalled "reversed" "reversed.__new__" "object.__init__":=
 ⟨∅,∅,⟨_,_,PySem.F.mro_reversed⟩,PySem.F.made_reversed,∅,by rw[CW];kernel_rfl,Wj⟩
def yh:isSubtype (.type "tuple") (.type "dict")=pure false:=by rw[CW];kernel_rfl
def seq_nat' {v n:Nat}(h:v<n):seqIndex? (v:Int) n=some v:=by unfold seqIndex?;have h1:¬((v:Int)<0):=⋯;simp only[h1,if_false];rw[if_pos (by simp;lia)];rfl
def revO (t:Addr) (i:Int):Obj:={cls:=.type "reversed",data:=.fields #[.ref t,rawInt i]}
def Z9 (h:Heap) (a t:Addr) (i:Int):Prop:=∃o,h.get? a=some o/\o.cls=.type "reversed" /\ o.data=.fields #[.ref t,rawInt i]
def Z9.typeIs {s:Shared}{a t:Addr}{i:Int}(x:Z9 s.heap a t i):s.TypeIs (.ref a) "reversed":=let ⟨o,ho,hc,_⟩:=x;⟨o,ho,hc⟩
def Z9.at {h h':Heap}{a t:Addr}{i:Int}(x:Z9 h a t i)(e:∀o,h.get? a=some o->h'.get? a=some o):Z9 h' a t i:=let ⟨o,ho,r⟩:=x;⟨o,e _ ho,r⟩
def Wk (t:Addr)(items:TH)(hz:(items.size:Int)<2^63):
  Meets (Builtin.«reversed.__new__» ⟨[.type "reversed",.ref t],[]⟩) (λ_ R s=>IsTup s.heap t items/\∀tk,R (.ok (.ret (.ref s.heap.objs.size))) {s with heap:=s.heap.push (revO t ((items.size:Int)-1)),toks:=tk}):=
 .of_wp λprog w A R s h=>by
  obtain⟨ht,h⟩:=h;have hT:s.TypeIs (.ref t) "tuple":=ht.typeIs;unfold Builtin.«reversed.__new__»;refine AA (Bw (newClass_reversed _) ?_)
  try dsimp only
  refine AA (Bw (a:=()) (by first|rfl|kernel_rfl) ?_);refine AA (Bw (a:=()) (by first|rfl|kernel_rfl) ?_)
  try dsimp only
  refine AA (Ct hT xC ?_)
  try dsimp only
  refine AA ?_;refine AA (m:=isInstance (.ref t) (.type "dict")) (Bz (T := "tuple") (b:=false) hT yh ?_);rw[if_neg AV];refine AA (m:=specialOf (.ref t) "__getitem__") (Ct hT Fl.lookup ?_);refine Bw (a:=true) (by first|rfl|kernel_rfl) ?_;show wpAny _ _ (call (.builtin "len") [.ref t] >>= _) _ _ _;refine AA (len_tuple ht hz ?_);show wpAny _ _ (asInt? (.int items.size (s.toks+1)) >>= _) _ _ _;refine AA (Bw (a:=some (items.size:Int)) rfl ?_);show wpAny _ _ (newObj (.type "reversed") (.fields #[.ref t,rawInt ((items.size:Int)-1)]) >>= _) _ _ _;refine AA (A3 (AF ?_) (by size_fits));exact⟨_,O,h _⟩
section
variable {prog:Program}{w:World}{A:Around}{E:TB}{s:Shared}
def Qa {t:Addr}{items:TH}{Q:TB}(ht:IsTup s.heap t items)(hz:(items.size:Int)<2^63)
  (h:∀tk,Q (.ref s.heap.objs.size) {s with heap:=s.heap.push (revO t ((items.size:Int)-1)),toks:=tk}):wpAny (model prog w) A (call (.type "reversed") [.ref t]) Q E s:=by
 refine callType_new xE ∅ (PySem.F.typeCall_reversed_1 _) (PySem.F.newCall_reversed_1 _) (λobj=>PySem.F.args_object_init_2 obj _) PySem.F.entry_reversed_new (Wk t items hz) ⟨ht,λtk=>?_⟩;exact⟨⟨_,AQ _ rfl,O⟩,h tk⟩
def Wl {it t:Addr}{i:Nat}{items:TH}{x:Value}{Q:Option Value->Shared->Prop}(hit:Z9 s.heap it t (i:Int))(ht:IsTup s.heap t items)(hx:items[i]?=some x)(hz:(items.size:Int)<2^63)
  (hQ:∀h' tk,Z9 h' it t ((i:Int)-1)->Heap.SameBut it s.heap h'->Q (some x) {s with heap:=h',toks:=tk}):wpAny (model prog w) A (pyNext (.ref it)) Q E s:=by
 obtain⟨o,ho,hc,hd⟩:=id hit;have hi:i<items.size:=by
  rcases Ef i items.size with z|z
  ·exact z
  ·rw[Bg z]at hx;cases hx
 unfold pyNext;refine AA (Bj (wpAny_callSpecial?_slot (name:=Str.ofString "__next__") hit.typeIs je
  (A6 je hit.typeIs ZZ ?_ (ZK _))))
 unfold Builtin.«reversed.__next__»;refine AA (Bw (a:=(Value.ref it,[])) rfl ?_)
 try dsimp only
 refine AA (BO ho hd (x:=.ref t) rfl ?_);refine AA (BO ho hd (x:=rawInt (i:Int)) rfl ?_);show wpAny _ _ (if (i:Int)<0 then _ else _) _ _ s;rw[if_neg ⋯];show wpAny _ _ (specialOf (.ref t) "__getitem__" >>= _) _ _ s;refine AA (Ct ht.typeIs Fl.lookup ?_);show wpAny _ _ (mkInt (i:Int) >>= _) _ _ _;refine AA (wpAny_mkInt ?_);refine AA (Bj (getItem_tuple (s:={s with toks:=s.toks+1}) ht ⋯ ⋯ (j:=i) (seq_nat' hi) hx ?_));show wpAny _ _ (field (.ref it) 1 >>= _) _ _ _;refine AA (BO ho hd (x:=rawInt (i:Int)) rfl ?_);show wpAny _ _ (setField (.ref it) 1 (rawInt ((i:Int)-1)) >>= _) _ _ _;refine AA (B4 ho hd (by simp) (AF ⟨x,O,AF (hQ _ _ ?_ (BW ..))⟩));exact⟨_,A9 _ ho (CN (BM hd _)),(DS ..).trans hc,by
  rw[BM hd];simp⟩
def yi {it t:Addr}{Q:Option Value->Shared->Prop}(hh:A.handled=none)(hit:Z9 s.heap it t (-1))
  (hQ:∀h',Heap.ExtBut it s.heap h'->Q none {s with heap:=h'}):wpAny (model prog w) A (pyNext (.ref it)) Q E s:=by
 obtain⟨o,ho,hc,hd⟩:=id hit;unfold pyNext;refine AA (Bj (wpAny_callSpecial?_slot (name:=Str.ofString "__next__") hit.typeIs je
  (A6 je hit.typeIs ZZ ?_ (ZK _))))
 unfold Builtin.«reversed.__next__»;refine AA (Bw (a:=(Value.ref it,[])) rfl ?_)
 try dsimp only
 refine AA (BO ho hd (x:=.ref t) rfl ?_);refine AA (BO ho hd (x:=rawInt (-1)) rfl ?_);show wpAny _ _ (if (-1:Int)<0 then _ else _) _ _ s;rw[if_pos ∅];refine AA (Bm ?_);refine AA ?_;refine AA (m:=setField (.ref it) 1 (rawInt (-1))) (B4 ho hd (by simp) ?_);have fF:=A9 (Obj.mapFields λvs=>vs.set! 1 (rawInt (-1))) ho (CN (BM hd _));have hd2:=BM hd (λvs=>vs.set! 1 (rawInt (-1)));refine B4 fF hd2 (by simp) ?_;refine AA ?_;show wpAny _ _ (newExc (.type "StopIteration") [] >>= _) _ _ _;refine AA ?_;simp only[newExc,newTuple];refine AA (A3 ?_ (by size_fits));refine AA (m:=firstArgMember _ _) (Bw (a:=Value.none) (by first|rfl|(simp only[firstArgMember];rfl)) ?_);refine A3 ?_ (by size_fits);simp only[raiseNew];refine AA (Et ?_)
 first|rw[show A.in1.handled=none from hh]|rw[hh]
 refine AA (AF (FG ?_));refine AA (Bz (T := "StopIteration") (b:=true) ⟨_,AQ _ rfl,O⟩ EW ?_);refine AF (hQ _ ?_);intro b o' hb e;exact AE _ (AE _ ((BE _ _ (An hb)).trans ((BE _ _ (An hb)).trans e)))
def wE {it t:Addr}{i:Int}{Q:TB}(hit:Z9 s.heap it t i)(h:Q (.ref it) s):wpAny (model prog w) A (pyIter (.ref it)) Q E s:=by refine D5 hit.typeIs Qo (A6 Qo hit.typeIs J3 ?_ (Jr _));show wpAny _ _ (ret (.ref it)) _ _ s;exact AF ⟨_,O, "reversed",_,hit.typeIs,je.lookup,h⟩
def hint_rev {it t:Addr}{i:Nat}{items:TH}{Q:Bool->Shared->Prop}(hit:Z9 s.heap it t ((i:Int)-1))(ht:IsTup s.heap t items)(hi:i<=items.size)(hz:items.size<=1000)
  (h:∀b tk,Q b {s with toks:=tk}):wpAny (model prog w) A (Builtin.List.listLengthHint (.ref it)) Q E s:=by
 obtain⟨o,ho,hc,hd⟩:=id hit;unfold Builtin.List.listLengthHint;refine AA (Ct hit.typeIs xD ?_);show wpAny _ _ (specialOf (Value.ref it) (Str.ofString "__length_hint__") >>= _) _ _ _;refine AA (Ct hit.typeIs Zj.lookup ?_);generalize hid:("reversed.__length_hint__" : String)=id0
 wp_delta
 rw[show splitId id0=some ("reversed", "__length_hint__") from by subst hid;ac_rfl];subst hid;refine AA (Bz (T := "reversed") (b:=true) hit.typeIs PySem.F.sub_reversed_self ?_);refine BY (λaO=>absurd aO ∅) (λ_=>?_);refine BY (λaO=>absurd aO ∅) (λ_=>?_);refine AA (Bm ?_);refine AA (Bw (Zj.bind _) ?_);have KJ:Builtin.List.listTooLong ((i:Int).toNat)=false:=by simp[Builtin.List.listTooLong,sizeLine];lia
 have Lg:Builtin.List.listFitsIndex (i:Int)=true:=by simp[Builtin.List.listFitsIndex];lia
 refine AA (Bj (A6 Zj hit.typeIs J2 ?_ (Jq _)));unfold Builtin.«reversed.__length_hint__»;refine AA (Bw (a:=Value.ref it) rfl ?_);refine AA (BO ho hd (x:=.ref t) rfl ?_);show wpAny _ _ (if (Value.ref t==Value.none)=true then _ else call (.builtin "len") [.ref t] >>= _) _ _ s;rw[if_neg (show ¬((Value.ref t==Value.none)=true) from AV)];refine AA (len_tuple ht ⋯ ?_);show wpAny _ _ (asInt? (.int items.size (s.toks+1)) >>= _) _ _ _;refine AA (Bw (a:=some (items.size:Int)) rfl ?_);refine AA (BO ho hd (x:=rawInt ((i:Int)-1)) rfl ?_);show wpAny _ _ (if ((items.size:Nat):Int)<((i:Int)-1)+1 then _ else _) _ _ _;rw[if_neg ⋯];rw[show (i:Int)-1+1=(i:Int) by lia];show wpAny _ _ (mkInt (i:Int) >>= λv=>ret v) _ _ _;refine AA (wpAny_mkInt (AF ⟨_,O,?_⟩));have h0:¬((i:Int)<0):=⋯;dsimp only;generalize (i:Int)=k at *;refine AA (m:=asInt? (Value.int k _)) (AF ?_);refine BY (λaO=>absurd aO (by rw[Lg];decide)) (λ_=>?_);refine BY (λaO=>absurd aO h0) (λ_=>?_);exact BY (λaO=>absurd aO (by rw[KJ];decide)) (λ_=>AF (h _ _))
end
def Walks.rev {prog:Program}{w:World}{A:Around}(hh:A.handled=none)(I l:Addr)(bT:l≠I)(items:TH)(hz:(items.size:Int)<2^63):
  Walks prog w A I [I,l] [I] items.size (λi v=>items[items.size-1-i]?=some v) (λi h=>i<=items.size/\Z9 h I l ((items.size:Int)-1-(i:Int))/\IsTup h l items) where
 sub:=λb hb=>by simp at hb;simp[hb]
 frame:=λ_ _ _ x hk=>⟨x.1,x.2.1.at λo e=>hk I (by simp) o e,let ⟨o,e,r⟩:=x.2.2;⟨o,hk l (by simp) o e,r⟩⟩
 item:=λi s Q E hi x hQ=>by have e:(items.size:Int)-1-(i:Int)=((items.size-1-i:Nat):Int):=⋯;have hit:=x.2.1;rw[e]at hit;have hx:items[items.size-1-i]?=some (items[items.size-1-i]'(⋯)):=BU ⋯;refine Wl hit x.2.2 hx hz λh' tk aT b5=>?_;have e2:((items.size-1-i:Nat):Int)-1=(items.size:Int)-1-((i+1:Nat):Int):=⋯;rw[e2]at aT;exact hQ _ h' tk hx ⟨hi,aT,let ⟨o,e,r⟩:=x.2.2;⟨o,(b5.2 l bT).trans e,r⟩⟩ λb o hb eo=>b5.extBut b o (λh=>hb (by simp[h])) eo
 done:=λs Q E x hQ=>by have e:(items.size:Int)-1-(items.size:Int) = -1:=⋯;have hit:=x.2.1;rw[e]at hit;exact yi hh hit λh' cz=>hQ h' s.toks λb o hb eo=>cz b o (λh=>hb (by simp[h])) eo
 self:=λ_ _ _ _ x hQ=>wE x.2.1 hQ
section
variable {prog:Program}{w:World}{A:Around}{s:Shared}
def xF {R:Result->Shared->Prop}{it t:Addr}{items:TH}(hh:A.handled=none)(hit:Z9 s.heap it t ((items.size:Int)-1))(ht:IsTup s.heap t items)(bT:t≠it)(hz:items.size<=1000)
  (S:Addr) (res:Value) (c₀:Nat) (hS:s.heap.get? S=some {cls:=.type "list",data:=.seq #[] c₀})
  (hR:∀h' tk aI c',(∀b o,b≠S->b≠it->s.heap.get? b=some o->h'.get? b=some o)->h'.get? S=some {cls:=.type "list",dict:=none,data:=.seq aI c',slots:=#[]} ->
   ItemsOf (λi v=>items[items.size-1-i]?=some v) aI items.size->R (.ok (.ret res)) {s with heap:=h',toks:=tk}):
  wpAny (model prog w) A.in1 (Builtin.List.listExtendWith (.ref S) (.ref it) res)
   (λfin s'=>match fin with|.done f=>R (.ok f) s'|.again c'=>c'.quiet=true/\codeAny (model prog w) A c' R s') (λe s'=>R (.error e) s') s:=by
 have iV:S≠it:=λe=>by obtain⟨o,ho,hc,_⟩:=hit;rw[e,ho]at hS;have:=AH hS;rw[this]at hc;exact absurd hc (show ¬(Value.type "list" = Value.type _) by decide)
 have pz:S≠t:=λe=>by obtain⟨o,ho,hc,_⟩:=ht;rw[e,ho]at hS;have:=AH hS;rw[this]at hc;exact absurd hc (show ¬(Value.type "list" = Value.type _) by decide)
 have tZ:S ∉ [it,t]:=λhm=>by
  rcases Al.mp hm with h|h
  ·exact iV h
  ·exact pz (AN.mp h)
 have W:=(Walks.rev (prog:=prog) (w:=w) (A:=A.in1) hh it t bT items ⋯).toS;have key:∀(h:Heap) (c₁ tk:Nat),Z9 h it t ((items.size:Int)-1)->IsTup h t items->(∀b o,b≠S->s.heap.get? b=some o->h.get? b=some o) ->
   h.get? S=some {cls:=.type "list",data:=.seq #[] c₁}->codeAny (model prog w) A (.builtin "list.extend.loop" ⟨[.ref S,.ref it,res],[]⟩) R {s with heap:=h,toks:=tk}:=by
  intro h c₁ tk aT cM hk ff;refine codeAny_extend_loopS W (by rw[Bl];lia) S tZ res items.size 0 _ #[] c₁ rfl (BC _) ⟨BC _,by simpa using aT,cM⟩ ff (ItemsOf.nil _) λs' aI c' hm fO aj=>?_;rw[Moved.eq_with hm];refine hR s'.heap s'.toks aI c' (λb o hb hi e=>hm.heap b o (λdB=>?_) (hk b o hb e)) fO aj
  rcases Al.mp dB with e'|dB
  ·exact hb e'
  ·exact hi (AN.mp dB)
 unfold Builtin.List.listExtendWith;refine AA (CQ (T := "reversed") hit.typeIs ?_);have h1:Builtin.List.listSameRef (.ref S) (.ref it)=false:=by simp[Builtin.List.listSameRef,iV]
 have h2:(Value.type "reversed" == Value.type "list")=false:=by decide
 have h3:(Value.type "reversed" == Value.type "tuple")=false:=by decide
 simp only[h1,h2,h3,Bool.or_false,Bool.false_eq_true,if_false];refine AA (wE hit ?_);refine AA (BL (hint_rev (i:=items.size) hit ht (AI _) hz λb tk=>?_));refine BY (λ_=>?_) (λ_=>AF ⟨CS DR _,key _ c₀ _ hit ht (λb o _ e=>e) hS⟩);refine AA (Bm ?_);refine AA ?_;show wpAny _ _ (updateSeq S (·.push .none) >>= λ_=>updateSeq S (·.pop)) _ _ _;refine AA (Dm hS rfl ?_);have bL:=A9 (Obj.mapSeq (·.push Value.none)) hS rfl;refine Dm (hz:=by seq_fits) bL rfl ?_;have e8:=A9 (Obj.mapSeq (·.pop)) bL rfl;have oth:∀b o,b≠S->s.heap.get? b=some o->((s.heap.update S (Obj.mapSeq (·.push Value.none))).update S (Obj.mapSeq (·.pop))).get? b=some o:=λb o hb e=>(BE _ _ (An hb)).trans ((BE _ _ (An hb)).trans e);refine AF ⟨CS DR _,key _ _ _ (hit.at λo e=>oth it o (An iV) e) (let ⟨o,e,r⟩:=ht;⟨o,oth t o (An pz) e,r⟩) oth e8⟩
def init_rev {R:Result->Shared->Prop}{it t:Addr}{items:TH}(hh:A.handled=none) (hit:Z9 s.heap it t ((items.size:Int)-1)) (ht:IsTup s.heap t items) (bT:t≠it) (hz:items.size<=1000) (S:Addr) (hS:s.heap.get? S=some {cls:=.type "list",data:=.seq #[]})
  (pz:S≠t) (LN:S≠it) (hR:∀h' tk aI c',(∀b o,b≠S->b≠it->s.heap.get? b=some o->h'.get? b=some o)->h'.get? S=some {cls:=.type "list",dict:=none,data:=.seq aI c',slots:=#[]} ->
   ItemsOf (λi v=>items[items.size-1-i]?=some v) aI items.size->R (.ok (.ret .none)) {s with heap:=h',toks:=tk}):
  wpAny (model prog w) A.in1 (Builtin.«list.__init__» ⟨[.ref S,.ref it],[]⟩)
   (λfin s'=>match fin with|.done f=>R (.ok f) s'|.again c'=>c'.quiet=true/\codeAny (model prog w) A c' R s') (λe s'=>R (.error e) s') s:=by
 show wpAny _ _ (do let old <- Builtin.List.listItems (.ref S);Builtin.List.listUpdate (.ref S) (λ_=>#[]);letGo old.toList.reverse;Builtin.List.listExtendWith (.ref S) (.ref it) .none) _ _ s;refine AA ?_;unfold Builtin.List.listItems;refine AA (B5 hS rfl (AF ?_));show wpAny _ _ (updateSeq S (λ_=>#[]) >>= λ_=>letGo (#[]:TH).toList.reverse >>= λ_=>Builtin.List.listExtendWith (.ref S) (.ref it) .none) _ _ s;refine AA (Dm hS rfl ?_);have bL:=A9 (Obj.mapSeq (λ_=>(#[]:TH))) hS rfl;have oth:∀b o,b≠S->s.heap.get? b=some o->(s.heap.update S (Obj.mapSeq (λ_=>(#[]:TH)))).get? b=some o:=
  λb o hb e=>(BE _ _ (An hb)).trans e
 refine AA (FK ?_);refine xF hh (hit.at λo e=>oth it o (An LN) e) (let ⟨o,e,r⟩:=ht;⟨o,oth t o (An pz) e,r⟩) bT hz S .none _ bL λh' tk aI c' hk fO aj=>?_;exact hR h' tk aI c' (λb o hb hi e=>hk b o hb hi (oth b o hb e)) fO aj
def Wm {E:TB}{Q:TB}{it t:Addr}{items:TH}(hh:A.handled=none)(hit:Z9 s.heap it t ((items.size:Int)-1))(ht:IsTup s.heap t items)(bT:t≠it)(hz:items.size<=1000)
  (hQ:∀h' tk aI c',(∀b o,b≠it->s.heap.get? b=some o->h'.get? b=some o) ->
   h'.get? s.heap.objs.size=some {cls:=.type "list",dict:=none,data:=.seq aI c',slots:=#[]}->ItemsOf (λi v=>items[items.size-1-i]?=some v) aI items.size->Q (.ref s.heap.objs.size) {s with heap:=h',toks:=tk}):
  wpAny (model prog w) A (call (.type "list") [.ref it]) Q E s:=by
 refine FM (Q₁:=λobj ag=>obj=.ref s.heap.objs.size/\ag = {s with heap:=s.heap.push {cls:=.type "list",data:=.seq #[]}}) PySem.F.called_list (PySem.F.typeCall_list_1 _) PySem.F.entry_list_init
  (code_list_new _ ⟨rfl,rfl⟩) λobj ag eO=>?_
 obtain⟨rfl,rfl⟩:=eO;have hS:(s.heap.push {cls:=.type "list",data:=.seq #[]}).get? s.heap.objs.size=some {cls:=.type "list",data:=.seq #[]}:=AQ _ rfl;have vF:it<s.heap.objs.size:=let ⟨_,e,_⟩:=hit;AR e;have vE:t<s.heap.objs.size:=let ⟨_,e,_⟩:=ht;AR e;refine⟨⟨_,hS,O⟩,PySem.F.args_list_init_2 _ _,init_rev (A:=A.in1) hh (hit.at λo e=>AE _ e) (let ⟨o,e,r⟩:=ht;⟨o,AE _ e,r⟩) bT hz _ hS (Be vE) (Be vF) λh' tk aI c' hk fO aj=>?_⟩;exact⟨O,hQ h' tk aI c' (λb o hi e=>hk b o (AZ (AR e)) hi (AE _ e)) fO aj⟩
end
def Yd:bootBuiltins "reversed" = some (.type "reversed"):=∅
def vals_rev {xs:List V}{its:TF}{acc:TH}(r:qh xs its)(h:ItemsOf (λi v=>its.toArray[its.toArray.size-1-i]?=some v) acc its.toArray.size):qh xs.reverse acc.toList:=by
 have l:=r.length;refine We (by rw[DV];have:=h.1;simp at this ⊢;lia) λi x u hx hu=>?_;have hi:i<xs.length:=by have:=(AD.mp hx).1;rw[DV]at this;exact this
 rw[List.getElem?_reverse hi]at hx;obtain⟨u',lX,ru⟩:=r.get hx;have e:=h.2 i u (by simpa using hu);have e2:its[its.length-1-i]?=some u:=by simpa using e
 rw[<- l,lX]at e2;rw[<- AH e2];exact ru
section
variable {X:Cx}
def tListRev (K:Fv)(ta:TA):TE:=λσ H Q=>ta σ H λvs H1=>∃p xs,vs=[.ref p]/\SqT K H1 p xs/\xs.length<=1000/\∀l,H1 l=none->Q (.ref l) (upd H1 l (.lst xs.reverse))
def xG (K:Fv) {a:Expr}{ta:TA}{p p2 pos eJ:Pos}(hg:Gl X "list") (hm:X.mg "list" = none) (pf:Gl X "reversed") (sT:X.mg "reversed" = none) (ha:PA X [a] ta) (hs:starEach [a] X.env=[(false,eval a X.env)]:=by rfl) (bZ:starEach [.Call (.Name "reversed" p2) [a] [] eJ] X.env=[(false,eval (.Call (.Name "reversed" p2) [a] [] eJ) X.env)]:=by rfl) (hc:X.calm=true:=by rfl) (hK:X.K=K:=by rfl):
  PE X (.Call (.Name "list" p) [.Call (.Name "reversed" p2) [a] [] eJ] [] pos) (tListRev K ta):=by
 subst hK;intro pins s σ H Q I h;refine Call_ (ZC I hg hm ZH (BN ?_ bZ rfl));rw[bZ];show wpAny _ _ (spliced [(false,eval (.Call (.Name "reversed" p2) [a] [] eJ) X.env)]) _ _ s;refine Calls.spliced_cons ?_;refine Call_ (ZC I pf sT Yd (BN (thn (ha eJ pins s σ H _ I h) λus s1 ⟨vs,H1,I1,r1,q1⟩=>?_) hs rfl));obtain⟨p1,xs,e,hq,hz,q⟩:=q1;subst e;obtain⟨u1,rfl,r2⟩:=vals1 r1;cases r2;obtain⟨its,rv,pl,_⟩:=I1.tuple hq;have lv:=rv.length;have ID:p1<s1.heap.objs.size:=PyProof.Rows.IsTup.lt pl;have sz:its.toArray.size<=1000:=by simp;lia
 refine Qa pl ⋯ λtk=>?_;refine Calls.spliced_nil ?_;have I2:Inv X pins σ H1 {s1 with heap:=s1.heap.push (revO p1 ((its.toArray.size:Int)-1)),toks:=tk}:=I1.kept (t':=tk) λ_ _ e=>AE _ e;have hsz:(s1.heap.push (revO p1 ((its.toArray.size:Int)-1))).objs.size=s1.heap.objs.size+1:=DX ..;refine Wm (s:={s1 with heap:=s1.heap.push (revO p1 ((its.toArray.size:Int)-1)),toks:=tk}) (I1.ok.hd hc) (it:=s1.heap.objs.size) (t:=p1) (items:=its.toArray) ⟨_,AQ _ rfl,O,O⟩ (let ⟨o,e,r⟩:=pl;⟨o,AE _ e,r⟩) (AZ ID) sz λh' gM acc c' kp he aj=>?_;have cz:h'.get? (s1.heap.objs.size+1)=some {cls:=.type "list",dict:=none,data:=.seq acc c',slots:=#[]}:=by have:({s1 with heap:=s1.heap.push (revO p1 ((its.toArray.size:Int)-1)),toks:=tk}:Shared).heap.objs.size=s1.heap.objs.size+1:=hsz;rw[this]at he;exact he
 have I3:Inv X pins σ H1 {s1 with heap:=h',toks:=gM}:=by refine I1.changed (t':=gM) (ch:=[]) (λb hb=>by cases hb) λc o _ e=>kp c o (AZ (AR e)) (AE _ e)
 have Hn:H1 (s1.heap.objs.size+1)=none:=I1.hok.fresh (DJ _);have I4:Inv X pins σ (upd H1 (s1.heap.objs.size+1) (.lst xs.reverse)) {s1 with heap:=h',toks:=gM}:=by
  refine I3.adopt Hn (EL (EN I1.sz)) (Be (Bi I1.lt)) (λxx cc e zz=>?_) (λp hp zz=>?_) ⟨by rw[DV];exact CZ (zt ⋯),acc.toList,c',vals_rev rv aj,by simpa using cz⟩
  ·obtain⟨_,q⟩:=I1.cell xx cc e;exact absurd q.lt (by rw[zz];exact Nat.not_lt.mpr (DJ _))
  ·exact absurd (AR (I1.pin p hp).1) (by rw[zz];exact Nat.not_lt.mpr (DJ _))
 rw[hsz];exact⟨.ref (s1.heap.objs.size+1),_,I4,O,q _ Hn⟩
open Classical in
def sKPut (td ty tv:TE):TS:=λD σ H=>tv σ H λv H1=>td σ H1 λx H2=>ty σ H2 λy H3=>∃a kvs k,x=.ref a/\y=kV k/\H3 a=some (.dK kvs)/\kvs.length<sizeLine/\D.nx σ (upd H3 a (.dK (Z8 kvs k v)))
def X2 {o i value:Expr}{pos pos':Pos}{td ty tv:TE}{j:Nat}(hr:ZP j X.A)(ho:PE X o td)(hi:PE X i ty)(hv:PE X value tv)(hs:swapsWith value (some (.Subscript o i pos')) pos.line X.env=pure false):
  PS X (.Assign [.Subscript o i pos'] value pos) (sKPut td ty tv):=by
 intro pins s σ H D I h;have hu:X.A.units+64<cLine:=hr.units;refine wpAny_Assign_Subscript (thn (hv pins s σ H _ I h) λr s1 ⟨v,H1,I1,rv,q1⟩=>thn (ho pins s1 σ H1 _ I1 q1) λu s2 ⟨x,H2,I2,rx,q2⟩=>thn (hi pins s2 σ H2 _ I2 q2) λiv s3 ⟨y,H3,I3,ry,a,kvs,k,ex,ey,e,l,q3⟩=>?_) hs;subst ex ey;obtain rfl:u=Value.ref a:=rx;exact yg ⋯ I3 (DPut.k e l) ry rv λs4 I4=>⟨σ,_,I4,q3⟩
def rKNotIn:R2:=λy x H Q=>∃a kvs k,x=.ref a/\y=kV k/\H a=some (.dK kvs)/\Q (.bl (!(jk kvs k).isSome)) H
def yj {j:Nat}(hr:ZP j X.A):OpR X (compareOp .NotIn) rKNotIn:=by intro pins s σ H x y v u Q I rx ry h;obtain⟨a,kvs,k,rfl,rfl,ha,q⟩:=h;have hu:X.A.units+64<cLine:=hr.units;obtain rfl:u=Value.ref a:=ry;exact XX ⋯ I (Wi.k ha) rx λs' I'=>⟨.bl _,H,I',O,q⟩
def rEqT (K:Fv):R2:=λx y H Q=>∃p q xs ys,x=.ref p/\y=.ref q/\SqT K H p xs/\SqT K H q ys/\xs.all qV=true/\ys.all qV=true/\xs.length=ys.length/\Q (.bl (Qk xs ys)) H
def op_eqT (K:Fv){k:Nat}(hr:ZP k X.A)(hK:X.K=K:=by rfl):OpR X (compareOp .Eq) (rEqT K):=by
 subst hK;intro pins s σ H x y v u Q I rx ry h;obtain⟨p,q,xs,ys,rfl,rfl,hp,hq,fx,fy,hl,hQ⟩:=h;cases rx;cases ry;have hu:X.A.units+64<cLine:=hr.units;obtain⟨us,r1,p1,_⟩:=I.tuple hp;obtain⟨vs,r2,p2,_⟩:=I.tuple hq;have l1:=r1.length;have l2:=r2.length;have z:=Ep (A:=X.A) (s:=s) p1 p2 ⋯ (Ql r1 r2 fx fy);have e:((List.range (min us.toArray.size vs.toArray.size)).all (λj=>eqV (xs.getD j .non) (ys.getD j .non))&&us.toArray.size==vs.toArray.size)=Qk xs ys:=by
  have z1:us.toArray.size=xs.length:=by rw[Ao];exact l1.symm
  have z2:vs.toArray.size=ys.length:=by rw[Ao];exact l2.symm
  have e5:min us.toArray.size vs.toArray.size=xs.length:=by rw[z1,z2,hl,FT]
  rw[e5,Ze _ _ hl,z1,z2];rfl
 rw[e]at z;exact z X.prog X.w _ _ ⟨.bl _,H,I,O,hQ⟩
end
end L2
namespace L4
open PySem L2
theorem wF:∀(ps acc:List (Key×V)) (k:Key),k ∉ ps.map Prod.fst->jk (putAll acc ps) k=jk acc k
 | [],acc,k,_=>rfl
 |p::ps,acc,k,h=>by rw[Af,Al,not_or]at h;show jk (putAll (Z8 acc p.1 p.2) ps) k=_;rw[wF ps _ k h.2,Q3,if_neg h.1]
theorem X3:∀(ps acc:List (Key×V)) (p:Key×V),(ps.map Prod.fst).Nodup->p∈ps->jk (putAll acc ps) p.1=some p.2
 | [],acc,p,_,h=>by cases h
 |z::ps,acc,p,hn,h=>by
  rw[Af,Bh]at hn;show jk (putAll (Z8 acc z.1 z.2) ps) p.1=_
  rcases Al.mp h with rfl|h
  ·rw[wF ps _ _ hn.1,Q3,if_pos rfl]
  ·exact X3 ps _ p hn.2 h
end L4
namespace L2
open PySem PySem.Spec PyProof.Rows
section
variable {prog:Program}{w:World}{A:Around}{R:Result->Shared->Prop}
abbrev TK (prog:Program) (w:World):HeapKind prog w (List Key):=tupleKind (zS prog w)
def yk {h h':Heap}{ks:List Key}{a b0:Addr}(x:(TK prog w).is h ks a) (hs:∀b o,b≠b0->h.get? b=some o->h'.get? b=some o) (hn:∀o,h.get? b0=some o->o.cls≠.type "tuple"):(TK prog w).is h' ks a:=by obtain⟨o,items,n,e,c,r⟩:=x;exact⟨o,items,n,hs a o (λz=>by subst z;exact hn o e c) e,c,r⟩
def wG {h h':Heap}{d b0:Addr}{xs:List (List Key×Addr×Value)}(m:h.DictOfH (TK prog w) d xs) (hd:d≠b0) (hs:∀b o,b≠b0->h.get? b=some o->h'.get? b=some o) (hn:∀o,h.get? b0=some o->o.cls≠.type "tuple"):h'.DictOfH (TK prog w) d xs:=by obtain⟨o,es,ep,ho,hc,cV,he,K9,kz⟩:=m;exact⟨o,es,ep,hs d o hd ho,hc,cV,he,λx hx=>yk (K9 x hx) hs hn,kz⟩
def Qb (prog:Program)(w:World)(h:Heap)(v:Value)(p:List Key×Addr×Value):Prop:=∃b,v=.ref b/\h.IsTuple b #[.ref p.2.1,p.2.2]/\(TK prog w).is h p.1 p.2.1
def Qb.keep {h h':Heap}{v:Value}{p:List Key×Addr×Value}{b0:Addr}(x:Qb prog w h v p) (hs:∀b o,b≠b0->h.get? b=some o->h'.get? b=some o) (hn:∀o,h.get? b0=some o->o.cls≠.type "tuple"):Qb prog w h' v p:=by obtain⟨b,rfl,⟨o,e,c,r⟩,hk⟩:=x;exact⟨b,O,⟨o,hs b o (λz=>by subst z;exact hn o e c) e,c,r⟩,yk hk hs hn⟩
def X4 (acc ps:List (List Key×Addr×Value)):List (List Key×Addr×Value):=ps.foldl (λacc p=>storedH acc p.1 p.2.1 p.2.2) acc
def Ye (acc:List (List Key×Addr×Value))(k:List Key)(a:Addr)(v:Value):(storedH acc k a v).length<=acc.length+1:=by
 unfold storedH;split
 ·rw[AB];lia
 ·rw[AJ];simp
def X5 (hh:A.handled=none)(hu:A.units+1<cLine)(D L it:Addr)(items:TH)(ug:D≠L)(iZ:D≠it)(ue:L≠it)(ps:List (List Key×Addr×Value))(hlen:ps.length=items.size)(hsz:ps.length<=sizeLine):
  ∀(n i:Nat) (s:Shared) (acc:List (List Key×Addr×Value)),n+i=items.size->acc.length<=i->s.heap.IsListIter it L i->s.heap.IsList L items->s.heap.DictOfH (TK prog w) D acc ->
  (∀(j:Nat) (p:List Key×Addr×Value) (v:Value),ps[j]?=some p->items[j]?=some v->Qb prog w s.heap v p) ->
  (∀h' tk,h'.DictOfH (TK prog w) D (X4 acc (ps.drop i))->(∀b o,b≠D->b≠it->s.heap.get? b=some o->h'.get? b=some o)->R (.ok (.ret .none)) {s with heap:=h',toks:=tk}) ->
  codeAny (model prog w) A (.builtin "dict.update.loop" ⟨[.ref D,.ref it,rawInt i,.none],[]⟩) R s:=by
 intro n
 induction n with
 |zero=>intro i s acc hn aj hit hl hd hp hR;obtain⟨oi,mB,ef,_⟩:=id hit;refine CJ jr ?_;rw[Bx qg _];show wpAny _ A.in1 (pyNext (.ref it) >>= _) _ _ s;refine AA (E9 (show A.in1.handled=none from hh) hit hl (by simp;lia) λh' eb=>?_);show wpAny _ _ (Builtin.Dict.addKeywords D [] >>= _) _ _ _;refine AA (AF (AF (hR h' s.toks ?_ λb o _ h2 e=>eb b o h2 e)));rw[El ⋯];exact wG hd iZ (λb o hb e=>eb b o hb e) λo e=>by rw[mB]at e;cases e;rw[ef];decide
 |succ n ih=>
  intro i s acc hn aj hit hl hd hp hR;have hi:i<items.size:=⋯;obtain⟨v,hv⟩:∃v,items[i]?=some v:=⟨items[i],by simp[hi]⟩
  obtain⟨p,iA⟩:∃p,ps[i]?=some p:=⟨ps[i]'(⋯),by rw[AC ⋯]⟩
  refine CJ jr ?_;rw[Bx qg _];show wpAny _ A.in1 (pyNext (.ref it) >>= _) _ _ s;refine AA (Ez hit hl hv λh1 iI cD=>?_);obtain⟨oi,mB,ef,_⟩:=hit;have vk:∀o,s.heap.get? it=some o->o.cls≠.type "tuple":=λo e=>by rw[mB]at e;cases e;rw[ef];decide
  have gk:∀(j:Nat) (p:List Key×Addr×Value) (v:Value),ps[j]?=some p->items[j]?=some v->Qb prog w h1 v p:=λj p v a b=>(hp j p v a b).keep (b0:=it) (λb o hb e=>cD.extBut b o hb e) vk;obtain⟨b,rfl,hb,hk⟩:=gk i p v iA hv;obtain⟨ot,e1,e2,nt,e3⟩:=id hb;have nh:=wG hd iZ (λb o hb e=>cD.extBut b o hb e) vk;refine AA (BL (AA (wpAny_tryCatch ?_)));unfold Builtin.Dict.pairItems;refine AA (CQ (T := "tuple") ⟨ot,e1,e2⟩ ?_);rw[if_pos ∅];refine AA (B5 e1 e3 (AF ?_));show wpAny _ _ (holding [.ref p.2.1,p.2.2] (dictSet D (.ref p.2.1) p.2.2)) _ _ _;refine BL (wpAny_dictSet_heap (s:={s with heap:=h1}) (hsz:=⋯) (EV hu) hk nh λh2 hd2 bZ=>?_);refine AF ⟨CS qg _,?_⟩;have fj:h1.IsList L items:=hl.extBut cD.extBut ue;have hle:(storedH acc p.1 p.2.1 p.2.2).length<=i+1:=Ar (Ye ..) ⋯;obtain⟨oD,_,_,sQ,tQ,_⟩:=id nh;have:=ih (i+1) {s with heap:=h2,toks:=s.toks+(TK prog w).draws p.1} (storedH acc p.1 p.2.1 p.2.2) ⋯ hle (iI.extBut bZ.extBut (An iZ)) (fj.extBut bZ.extBut (An ug)) hd2 (λj p v a b=>(gk j p v a b).keep (b0:=D) (λb o hb e=>bZ.extBut b o hb e) λo e=>by rw[sQ]at e;cases e;rw[tQ.1];decide) λh' tk cV kB=>?_
  ·simpa using this
  ·refine hR h' tk ?_ λb o h1 h2 e=>kB b o h1 h2 (bZ.extBut b o h1 (cD.extBut b o h2 e));have e4:ps.drop i=p::ps.drop (i+1):=by rw[AD]at iA;obtain⟨h5,h6⟩:=iA;rw[<- h6];exact CC h5
   unfold X4;rw[e4,CV];exact cV
def QP {E:TB}{Q:TB}{s:Shared}{L:Addr}{o:Obj}{items:TH}{k:Nat}{ps:List (List Key×Addr×Value)}(hh:A.handled=none) (hu:A.units+2<cLine) (hx:s.heap.get? L=some o) (hc:o.cls=.type "list") (ay:o.data=.seq items k) (tJ:o.dict=none)
  (hlen:ps.length=items.size) (hsz:ps.length<=sizeLine) (hp:∀(j:Nat) (p:List Key×Addr×Value) (v:Value),ps[j]?=some p->items[j]?=some v->Qb prog w s.heap v p)
  (h:∀h' tk,h'.DictOfH (TK prog w) s.heap.objs.size (X4 [] ps)->(∀b o,s.heap.get? b=some o->h'.get? b=some o)->Q (.ref s.heap.objs.size) {s with heap:=h',toks:=tk}):
  wpAny (model prog w) A (call (.type "dict") [.ref L]) Q E s:=by
 refine FM (Q₁:=λobj ag=>obj=.ref s.heap.objs.size/\ag = {s with heap:=s.heap.push {cls:=.type "dict",data:=.dict #[]}}) PySem.F.kt_called_dict (Fm _) PySem.F.entry_dict_init (kt_code_dict_new _ ⟨O,O⟩) ?_;rintro obj ag ⟨rfl,rfl⟩;have cw:(s.heap.push {cls:=.type "dict",data:=.dict #[]}).DictOf (zS prog w) s.heap.objs.size []:=Heap.DictOf.new s.heap;have mE:(s.heap.push {cls:=.type "dict",data:=.dict #[]}).DictOfH (TK prog w) s.heap.objs.size []:=⟨_,#[],0,AQ _ rfl,⟨rfl,rfl,rfl⟩,rfl,rfl,λx hx=>(by cases hx),.nil⟩
 have gf:=AE {cls:=.type "dict",data:=.dict #[]} hx;have nX:L<s.heap.objs.size:=AR hx;refine⟨cw.typeIs,PySem.F.args_dict_init_2 _ _,?_⟩;unfold Builtin.«dict.__init__»;refine AA ?_;unfold Builtin.Dict.selfAndRest;refine AA (DP cw.typeIs ?_);show wpAny _ _ (pure (s.heap.objs.size,[Value.ref L])) _ _ _;refine AF ?_;show wpAny _ _ (Builtin.Dict.updateFrom "dict.__init__" s.heap.objs.size (.ref L) [] .none) _ _ _;unfold Builtin.Dict.updateFrom;refine AA (CQ (T := "list") ⟨o,gf,hc⟩ ?_);rw[if_pos ∅];refine AA (X0 gf hc ay tJ (show A.in1.in1.handled=none from hh) λh' tk kp=>?_);rw[if_pos (by rfl)];have iY:h'.IsList L items:=⟨o,kp _ _ gf,hc,k,ay⟩
 refine AA (Bm (AA (D6 iY ?_)));have i6:∃od,h'.get? s.heap.objs.size=some od:=⟨_,kp _ _ (AQ _ rfl)⟩
 have i5:s.heap.objs.size<h'.objs.size:=let ⟨_,e⟩:=i6;AR e;refine AF ⟨CS qg _,?_⟩;have rJ:(h'.push {cls:=.type "list_iterator",data:=.fields #[.ref L,.int 0 0]}).IsListIter h'.objs.size L 0:=⟨_,AQ _ rfl,rfl,rfl⟩
 have cV:(h'.push {cls:=.type "list_iterator",data:=.fields #[.ref L,.int 0 0]}).DictOfH (TK prog w) s.heap.objs.size []:=by obtain⟨od,es,ep,e,h1,h2,h3,_,h5⟩:=mE;exact⟨od,es,ep,AE _ (kp _ _ e),h1,h2,h3,(λx hx=>by cases hx),h5⟩
 refine X5 (A:=A.in1) (show A.in1.handled=none from hh) (show A.units+1+1<cLine from hu) s.heap.objs.size L h'.objs.size items (Be nX) (AZ i5) (AZ (Ee nX i5)) ps hlen hsz items.size 0 {s with heap:=h'.push {cls:=.type "list_iterator",data:=.fields #[.ref L,.int 0 0]},toks:=tk} [] rfl (AI _) rJ (iY.push _) cV (λj p v a b=>?_) λh2 gM hd2 fJ=>?_
 ·obtain⟨bb,e1,⟨ot,e2,r⟩,⟨o3,i3,n3,e3,r3⟩⟩:=hp j p v a b;exact⟨bb,e1,⟨ot,AE _ (kp _ _ (AE _ e2)),r⟩,⟨o3,i3,n3,AE _ (kp _ _ (AE _ e3)),r3⟩⟩
 ·refine⟨O,h h2 gM ?_ λb ob e=>fJ b ob (AZ (AR e)) (AZ (Ee (AR e) i5)) (AE _ (kp _ _ (AE _ e)))⟩;rw[EK]at hd2;exact hd2
end
def Yf (H:Hp):List V->List (List Key×V)->Prop:=Paired λx p=>∃b kb,x=.ref b/\H b=some (.tup [.ref kb,p.2])/\H kb=some (.tup (p.1.map kV))
def putAllT (kvs ps:List (List Key×V)):List (List Key×V):=ps.foldl (λacc p=>Z8 acc p.1 p.2) kvs
def prsT_at {P:Program}{w:World}{H:Hp}{h:Heap}(ok:HOk P w H h){xs:List V}{ps:List (List Key×V)}(r:Yf H xs ps):∀{us:TF},qh xs us->∃rs:List (List Key×Addr×Value),KT H ps rs/\∀(j:Nat) (p:List Key×Addr×Value) (v:Value),rs[j]?=some p->us[j]?=some v->Qb P w h v p:=by
 unfold Yf at r
 induction r with
 |nil=>intro us rv;exact⟨[],.nil,λj p v e=>by simp at e⟩
 | @cons x p xs ps hx t ih=>
  intro us rv;cases rv with
  | @cons _ u _ us hu rv=>
   obtain⟨rs,r1,r2⟩:=ih rv;obtain⟨b,kb,rfl,hb,v5⟩:=hx;obtain⟨_,its,ri,o,e1,e2,⟨n,e3⟩,_⟩:=(show qm P w H h b (.tup [.ref kb,p.2]) from ok b _ hb)
   cases ri with
   | @cons _ ku _ _ hk ri=>
    cases ri with
    | @cons _ vu _ _ hv ri=>
     cases ri;obtain rfl:ku=Value.ref kb:=hk;refine⟨(p.1,kb,vu)::rs,.cons ⟨O,v5,hv⟩ r1,λj q v ej ev=>?_⟩;cases j with
     |zero=>cases (AH ej);cases (AH ev);obtain rfl:u=Value.ref b:=hu;exact⟨b,O,⟨o,e1,e2,n,e3⟩,yf ok v5⟩
     |succ j=>exact r2 j q v ej ev
def put_allT {H:Hp}{ps:List (List Key×V)}{rs:List (List Key×Addr×Value)}(r:KT H ps rs):∀{acc:List (List Key×V)}{gI:List (List Key×Addr×Value)},KT H acc gI->KT H (putAllT acc ps) (X4 gI rs):=by
 unfold KT at r
 induction r with
 |nil=>exact λq=>q
 | @cons p q ps qs h t ih=>intro acc gI ra;obtain⟨h1,h2,h3⟩:=h;show KT H (putAllT (Z8 acc p.1 p.2) ps) (X4 (storedH gI q.1 q.2.1 q.2.2) qs);rw[<- h1];exact ih (KT.put ra p.1 h2 h3)
theorem Z0:∀(ps acc:List (List Key×V)),(putAllT acc ps).length<=acc.length+ps.length
 | [],acc=>AI _
 |p::ps,acc=>by have h1:=Z0 ps (Z8 acc p.1 p.2);have h2:=Zi acc p.1 p.2;show (putAllT (Z8 acc p.1 p.2) ps).length<=_;rw[Ax];lia
section
variable {X:Cx}
def tDictPT (ta:TA):TE:=λσ H Q=>ta σ H λvs H1=>∃p xs ps,vs=[.ref p]/\H1 p=some (.lst xs)/\Yf H1 xs ps/\∀D,H1 D=none->Q (.ref D) (upd H1 D (.dT (putAllT [] ps)))
def X6 {k:Nat}(hr:ZP k X.A) {a:Expr}{ta:TA}{p pos:Pos}(hg:Gl X "dict") (hm:X.mg "dict" = none) (ha:PA X [a] ta) (hs:starEach [a] X.env=[(false,eval a X.env)]:=by rfl) (hc:X.calm=true:=by rfl):
  PE X (.Call (.Name "dict" p) [a] [] pos) (tDictPT ta):=by
 intro pins s σ H Q I h;have hu:X.A.units+64<cLine:=hr.units;refine Call_ (ZC I hg hm X1 (BN (thn (ha pos pins s σ H _ I h) λus s1 ⟨vs,H1,I1,r1,q1⟩=>?_) hs rfl));obtain⟨p1,xs,ps,e,hq,ko,q⟩:=q1;subst e;obtain⟨u1,rfl,r2⟩:=vals1 r1;cases r2;obtain⟨hz,its,n,rv,eo⟩:=(show qm X.prog X.w H1 s1.heap p1 (.lst xs) from I1.hok p1 _ hq)
 obtain⟨rs,rk,gj⟩:=prsT_at I1.hok ko rv;have a1:ps.length=rs.length:=Ac rk;have a2:=Ac ko;have l1:rs.length=its.toArray.size:=by have a3:=rv.length;simp;lia
 refine QP (ps:=rs) (I1.ok.hd hc) ⋯ eo rfl rfl rfl l1 ⋯ (λj p v a b=>gj j p v a (by simpa using b)) λh' tk cV kp=>?_;have hb:(s1.heap.objs.size==sysModules)=false:=beq_eq_false_iff_ne.mpr (An (AZ I1.big));have hl:(putAllT [] ps).length<=sizeLine:=by have:=Z0 ps [];simp at this;lia
 have Hn:H1 s1.heap.objs.size=none:=I1.hok.fresh (AI _);obtain⟨od,es,ep,f1,f2,f3,f4,_,f6⟩:=cV;exact⟨.ref s1.heap.objs.size,_,I1.laid (a:=s1.heap.objs.size) (o:=.dT (putAllT [] ps)) (t':=tk) kp (AI _) ⟨hl,hb,_,(put_allT rk .nil).keeps λb ys e=>by rw[zJ (zN e Hn)];exact e,od,es,ep,f1,f2,f3,f4,f6⟩,O,q _ Hn⟩
def hu1 {k:Nat}{A:Around}(hr:ZP k A):A.units+1<cLine:=by have:A.units+64<cLine:=hr.units;lia
def rTNotIn:R2:=λy x H Q=>∃a b kvs k,x=.ref a/\y=.ref b/\H a=some (.dT kvs)/\H b=some (.tup (k.map kV))/\Q (.bl (!(jk kvs k).isSome)) H
def Js {j:Nat}(hr:ZP j X.A):OpR X (compareOp .NotIn) rTNotIn:=by intro pins s σ H x y v u Q I rx ry h;obtain⟨a,b,kvs,k,rfl,rfl,ha,hb,q⟩:=h;have hu:X.A.units+64<cLine:=hr.units;obtain rfl:u=Value.ref a:=ry;exact XX ⋯ I (Wi.t ha hb) rx λs' I'=>⟨.bl _,H,I',O,q⟩
end
open PySem
abbrev Rs (xs:Array Nat):Prop:=xs.toList.Pairwise (·<·)
def wH (xs:TC)(j:Nat):Nat:=(xs.filter λx=>decide (x<j)).length
def YZ (xs:TC)(j:Nat):wH xs j<=xs.length:=C8 _ _
theorem Zk:∀(xs:List Nat) (j i:Nat) (x:Nat),xs.Pairwise (·<·)->xs[i]?=some x->(x<j↔i<wH xs j)
 | [],j,i,x,_,h=>by simp at h
 |y::xs,j,0,x,hp,h=>by
  obtain rfl:y=x:=by simpa using h
  unfold wH;rw[B6];by_cases hy:y<j
  ·simp[hy]
  ·have:xs.filter (λx=>decide (x<j))=[]:=by rw[List.filter_eq_nil_iff];intro z hz;have:=(Cz.mp hp).1 z hz;simp;lia
   simp[hy,this]
 |y::xs,j,i+1,x,hp,h=>by
  have h':xs[i]?=some x:=by simpa using h
  have ih:=Zk xs j i x (Cz.mp hp).2 h';have hyx:=(Cz.mp hp).1 x (AL h');unfold wH at ih ⊢;rw[B6];by_cases hy:y<j
  ·simp only[hy,decide_true,if_true,List.length_cons];rw[ih];lia
  ·simp only[hy,decide_false,Bool.false_eq_true,if_false];constructor
   ·intro hx;lia
   ·intro hi;have:=ih.mpr ⋯;lia
theorem Wn {xs:Array Nat}{j:Nat}(hr:Rs xs):∀(fuel lo hi:Nat),hi-lo<=fuel->lo<=wH xs.toList j->wH xs.toList j<=hi->hi<=xs.size->SetTable.below.go xs j fuel lo hi=wH xs.toList j
 |0,lo,hi,h1,h2,h3,h4=>by unfold SetTable.below.go;lia
 |fuel+1,lo,hi,h1,h2,h3,h4=>by
  unfold SetTable.below.go;by_cases aA:lo<hi
  ·rw[if_pos aA];have hm:(lo+hi)/2<xs.size:=⋯;have hx:xs.toList[(lo+hi)/2]?=some xs[(lo+hi)/2]:=by simp[hm]
   have hc:=Zk xs.toList j _ _ hr hx;have eg:xs.getD ((lo+hi)/2) j=xs[(lo+hi)/2]:=by simp[Array.getD,hm]
   dsimp only;rw[eg];by_cases hy:xs[(lo+hi)/2]<j
   ·rw[if_pos hy];have:=hc.mp hy;exact Wn hr fuel _ _ ⋯ ⋯ h3 h4
   ·rw[if_neg hy];have:¬(lo+hi)/2<wH xs.toList j:=λz=>hy (hc.mpr z);exact Wn hr fuel _ _ ⋯ h2 ⋯ ⋯
  ·rw[if_neg aA];lia
def Qp {xs:Array Nat}(hr:Rs xs)(j:Nat):SetTable.below xs j=wH xs.toList j:=by unfold SetTable.below;have:=YZ xs.toList j;exact Wn hr _ _ _ ⋯ (BC _) (by simpa using this) (AI _)
def at_below {xs:Array Nat}(hr:Rs xs){j:Nat}:xs[SetTable.below xs j]?=some j↔j∈xs.toList:=by
 rw[Qp hr];constructor
 ·intro h;have:xs.toList[wH xs.toList j]?=some j:=by simpa using h
  exact AL this
 ·intro h;obtain⟨i,hi⟩:=As.mp h;have h1:¬i<wH xs.toList j:=λz=>BA _ ((Zk _ _ _ _ hr hi).mpr z);have bM:=(AD.mp hi).1;have dW:wH xs.toList j<=i:=⋯;have hc:wH xs.toList j<xs.toList.length:=⋯;have hx:xs.toList[wH xs.toList j]?=some xs.toList[wH xs.toList j]:=AC hc;have h2:¬xs.toList[wH xs.toList j]<j:=λz=>BA _ ((Zk _ _ _ _ hr hx).mp z);have e:wH xs.toList j=i:=by
   rcases Nat.lt_or_eq_of_le dW with h3|h3
   ·exfalso;have:=BS.mp hr (wH xs.toList j) i hc bM h3;have ei:xs.toList[i]=j:=(AD.mp hi).2;lia
   ·exact h3
  rw[e];simpa using hi
def xH {xs:Array Nat}(hr:Rs xs){i x:Nat}(h:xs[i]?=some x):SetTable.below xs (x+1)=i+1:=by
 rw[Qp hr];have hx:xs.toList[i]?=some x:=by simpa using h
 have h1:=(Zk _ (x+1) _ _ hr hx).mp (CH _);by_cases h2:i+1<xs.toList.length
 ·have hy:xs.toList[i+1]?=some xs.toList[i+1]:=AC h2;have h3:¬xs.toList[i+1]<x+1:=by have bM:=(AD.mp hx).1;have:=BS.mp hr i (i+1) bM h2 (CH _);have ei:xs.toList[i]=x:=(AD.mp hx).2;lia
  have hn:¬i+1<wH xs.toList (x+1):=λz=>h3 ((Zk _ (x+1) _ _ hr hy).mpr z);lia
 ·have:=YZ xs.toList (x+1);lia
def Qq {α:Type}(xs:Array α)(p:Nat)(x:α):(SetTable.insertAt xs p x).toList=xs.toList.take p++x::xs.toList.drop p:=by unfold SetTable.insertAt;simp;exact BX (by simp)
def xI {xs:Array Nat}(hr:Rs xs){j:Nat}(hj:j ∉ xs.toList):Rs (SetTable.insertAt xs (SetTable.below xs j) j):=by
 unfold Rs;rw[Qq,Qp hr];have hle:=YZ xs.toList j;rw[Bq];refine⟨hr.sublist (EO _ _),?_,?_⟩
 ·rw[Cz];refine⟨λy hy=>?_,hr.sublist (FU _ _)⟩;obtain⟨i,hi⟩:=As.mp hy;rw[Cc]at hi;have h1:¬y<j:=λz=>by have:=(Zk _ j _ _ hr hi).mp z;lia
  have h2:y≠j:=λz=>hj (z ▸ AL hi);lia
 ·intro a ha b hb;obtain⟨i,hi⟩:=As.mp ha;have bM:=(AD.mp hi).1;rw[Ae]at bM;rw[B2 ⋯]at hi;have LC:a<j:=(Zk _ j _ _ hr hi).mpr ⋯
  rcases Al.mp hb with rfl|hb
  ·exact LC
  ·obtain⟨i',iJ⟩:=As.mp hb;rw[Cc]at iJ;have h1:¬b<j:=λz=>by have:=(Zk _ j _ _ hr iJ).mp z;lia
   lia
structure X7 (t:SetTable)(b:Bool):Prop where
 dum:t.dummies = #[]
 rs:Rs t.place
 led:t.led=b
def X7.fresh (b:Bool):X7 (.fresh 0 0 b) b:=⟨rfl,List.Pairwise.nil,rfl⟩
def X8 (j:Nat):SetTable.has #[] j=false:=by unfold SetTable.has;simp
def xJ {t:SetTable}{b:Bool}(h:X7 t b){j:Nat}(e:t.slot j=.empty):j ∉ t.place.toList:=λhm=>by unfold SetTable.slot at e;have:=(at_below h.rs).mpr hm;dsimp only at e;rw[this]at e;simp at e
def Yg {t:SetTable}{b:Bool}(h:X7 t b){j:Nat}:t.slot j≠.dummy:=λe=>by
 unfold SetTable.slot at e;rw[h.dum,X8]at e;dsimp only at e;split at e
 ·cases e
 ·simp at e
def X9 (t:SetTable)(p:SetTable.Probe):(t.advance p).dummy=p.dummy:=by unfold SetTable.advance;split <;> rfl
theorem wI {t:SetTable}{b:Bool}(h:X7 t b){f:Nat->Int}{x:Int}:∀(fuel:Nat) (p:SetTable.Probe) (j:Nat) (d:Option Nat),p.dummy=none->SetTable.probe.go t f x fuel p=some (.empty j d)->d=none/\t.slot j=.empty
 |0,p,j,d,_,e=>by unfold SetTable.probe.go at e;cases e
 |fuel+1,p,j,d,hp,e=>by
  unfold SetTable.probe.go at e;cases hs:t.slot p.j with
  |empty=>
   rw[hs]at e;dsimp only at e;injection e with e
   injection e with e1 e2
   rw[<- e1,<- e2];exact⟨hp,hs⟩
  |dummy=>exact absurd hs (Yg h)
  |live i=>
   rw[hs]at e;dsimp only at e;split at e
   ·cases e
   ·exact wI h fuel _ j d (by rw[X9];exact hp) e
def free_ti {t:SetTable}{b:Bool}(h:X7 t b){x:Int}{sl:Nat}{wd:Bool}(e:t.freeSlot x=some (sl,wd)):wd=false/\sl ∉ t.place.toList:=by
 unfold SetTable.freeSlot SetTable.probe at e;split at e
 ·rename_i j d hg;obtain⟨rfl,hs⟩:=wI h _ _ j d rfl hg;injection e with e
  injection e with e1 e2
  rw[<- e1,<- e2];exact⟨O,xJ h hs⟩
 ·cases e
def zaa {f:Nat->Option Nat}:∀(n:Nat),(((List.range n).filterMap λj=>(f j).map (j,·)).map (·.1)).Pairwise (·<·):=by
 intro n;have e:(((List.range n).filterMap λj=>(f j).map (j,·)).map (·.1))=(List.range n).filter λj=>(f j).isSome:=by
  induction List.range n with
  |nil=>rfl
  |cons a l ih=>
   rw[E2,B6];cases hf:f a with
   |none=>simpa using ih
   |some k=>simpa using ih
 rw[e];exact B7 _ Bu
def tt0 (mask:Nat)(P:TC):SetTable:={mask:=mask,place:=P.toArray,dummies:=#[],finger:=0,led:=true,moves:=0,plain:=true}
def xK:Nat->Nat->List (List Nat)
 |0,_=>[[]]
 |hi+1,n=>xK hi n++(if n=0 then [] else (xK hi (n-1)).map (·++[hi]))
theorem Wo:∀(hi n:Nat),[]∈xK hi n
 |0,n=>AN.mpr rfl
 |hi+1,n=>Aq _ (Wo hi n)
theorem Q4:∀(hi n:Nat) (P:List Nat),P.Pairwise (·<·)->(∀p∈P,p<hi)->P.length<=n->P∈xK hi n
 |0,n,P,_,hl,_=>by
  cases P with
  |nil=>exact Wo 0 n
  |cons p P=>exact absurd (hl p (A5 ..)) (C2 _)
 |hi+1,n,P,hp,hl,hn=>by
  rcases C9 P with rfl|⟨Q,q,rfl⟩
  ·exact Wo _ _
  ·rw[DA]at *;rw[Bq]at hp;obtain⟨h1,_,h3⟩:=hp;have hq:=hl q (by simp);rw[AJ]at hn;have kz:Q.length+1<=n:=hn;by_cases e:q=hi
   ·refine Au _ ?_;rw[if_neg ⋯,e];exact AK.mpr ⟨Q,Q4 hi (n-1) Q h1 (λp hp=>by have:=h3 p hp q (by simp);lia) ⋯,O⟩
   ·refine Aq _ (Q4 hi n _ ?_ (λp hp=>?_) (by rw[AJ];exact hn))
    ·rw[Bq];exact⟨h1,Df _ _,h3⟩
    ·rcases AX.mp hp with h|h
     ·have:=h3 p h q (by simp);lia
     ·rw[AN.mp h];lia
theorem free7':((xK 8 4).all λP=>(List.range 9).all λd=>match (tt0 7 P).freeSlot (d:Int) with
  |some (sl,_)=>decide (sl<8)
  |none=>false)=true:=∅
def free31':((xK 9 9).all λP=>(List.range 9).all λd=>P.contains d || (tt0 31 P).freeSlot (d:Int)==some (d,false))=true:=∅
def zab (t:SetTable)(hd:t.dummies = #[])(h:Int):t.freeSlot h=(tt0 t.mask t.place.toList).freeSlot h:=by
 obtain⟨mask,place,dummies,finger,led,moves,plain⟩:=t;dsimp only at hd;subst hd;obtain⟨pl⟩:=place;unfold SetTable.freeSlot SetTable.probe;have fz:∀j,SetTable.slot ⟨mask,⟨pl⟩,#[],finger,led,moves,plain⟩ j=SetTable.slot (tt0 mask pl) j:=λj=>rfl;have fg:∀p,SetTable.advance ⟨mask,⟨pl⟩,#[],finger,led,moves,plain⟩ p=SetTable.advance (tt0 mask pl) p:=λp=>rfl;have nG:∀(f:Nat->Int) (x:Int) (fuel:Nat) (p:SetTable.Probe),SetTable.probe.go ⟨mask,⟨pl⟩,#[],finger,led,moves,plain⟩ f x fuel p=SetTable.probe.go (tt0 mask pl) f x fuel p:=by
  intro f x fuel
  induction fuel with
  |zero=>intro p;rfl
  |succ fuel ih=>
   intro p;unfold SetTable.probe.go;rw[fz];cases SetTable.slot (tt0 mask pl) p.j with
   |empty=>rfl
   |dummy=>dsimp only;rw[fg];exact ih _
   |live i=>dsimp only;rw[fg,ih]
 rw[nG];rfl
structure Dg (es:Array (Int×Value))(t:SetTable)(b:Bool):Prop where
 ti:X7 t b
 plain:t.plain=true
 len:t.place.size=es.size
 form:(t.mask=7/\es.size<=4/\∀p∈t.place.toList,p<8)\/(t.mask=31/\es.size<=9/\es.toList.map (·.1)=t.place.toList.map (λ(p:Nat)=>(p:Int))/\∀p∈t.place.toList,p<9)
def dg_fresh (b:Bool):Dg #[] (.fresh 0 0 b) b:=⟨X7.fresh b,rfl,rfl,.inl ⟨rfl,BC _,λp hp=>by cases hp⟩⟩
def Q5 {α:Type}(xs:Array α)(p:Nat)(x:α)(hp:p<=xs.size):(SetTable.insertAt xs p x).size=xs.size+1:=by rw[<- Ad,Qq,AJ,Ax,Ae,Cw,Ad];lia
def Y0 {xs:Array Nat}(hr:Rs xs)(j:Nat):SetTable.below xs j<=xs.size:=by rw[Qp hr];simpa using YZ xs.toList j
def lay7 {es:Array (Int×Value)}{t:SetTable}{b:Bool}(h:Dg es t b)(h7:t.mask=7)(h4:es.size<=4)(h8:∀p∈t.place.toList,p<8){d:Nat}(hd:d<9)(v:Value):
  ∃sl,sl<8/\sl ∉ t.place.toList/\t.freeSlot (d:Int)=some (sl,false):=by
 have hm:=Q4 8 4 t.place.toList h.ti.rs h8 (by have:=h.len;simp;lia);have hc:=BB.mp (BB.mp free7' _ hm) d (AS.mpr hd);have e:=zab t h.ti.dum (d:Int);rw[h7]at e;rw[<- e]at hc;cases hf:t.freeSlot (d:Int) with
 |none=>rw[hf]at hc;cases hc
 |some z=>obtain⟨sl,wd⟩:=z;rw[hf]at hc;obtain⟨h1,h2⟩:=free_ti h.ti hf;exact⟨sl,A2 hc,h2,by rw[h1]⟩
def lay31 {es:Array (Int×Value)}{t:SetTable}{b:Bool}(h:Dg es t b)(uu:t.mask=31)(h9:∀p∈t.place.toList,p<9)(hs:es.size<=9){d:Nat}(hd:d<9)(hn:d ∉ t.place.toList):t.freeSlot (d:Int)=some (d,false):=by
 have hm:=Q4 9 9 t.place.toList h.ti.rs h9 (by have:=h.len;simp;lia);have hc:=BB.mp (BB.mp free31' _ hm) d (AS.mpr hd);have e:=zab t h.ti.dum (d:Int);rw[uu]at e;rw[<- e]at hc
 rcases (Bool.or_eq_true _ _).mp hc with hc|hc
 ·exact absurd (by simpa using hc) hn
 ·exact eq_of_beq hc
structure Own (ds:TC)(owner:Array (Option Nat))(k:Nat):Prop where
 size:owner.size=32
 own:∀j i,owner.getD j none=some i↔(i<k/\ds[i]?=some j)
def bits_dig {d:Nat}(hd:d<9):SetTable.bits (d:Int)%(31+1)=d:=by unfold SetTable.bits;have e:((d:Int)%(2^64:Int))=(d:Int):=Int.emod_eq_of_lt ⋯ (by rw[show (2^64:Int)=18446744073709551616 from by decide];lia);rw[e,Av];lia
def free_own {ds:TC}{owner:Array (Option Nat)}{k d:Nat}(h:Own ds owner k)(hd:d<9)(hn:∀i,i<k->ds[i]? ≠ some d)(p:Nat):SetTable.layClean.free 31 owner (SetTable.turns 31) d p=some d:=by
 show SetTable.layClean.free 31 owner 46 d p=some d;unfold SetTable.layClean.free;have hr:SetTable.runEnd 31 d+1-d=10:=by unfold SetTable.runEnd;rw[if_pos ⋯];lia
 rw[hr];have h0:(owner.getD (d+0) (some 0)).isNone=true:=by
  have h1:owner.getD d none=none:=by
   cases e:owner.getD d none with
   |none=>rfl
   |some i=>obtain⟨a,b⟩:=(h.own d i).mp e;exact absurd b (hn i a)
  have hs:d<owner.size:=by rw[h.size];lia
  rw[Ck];simp[Array.getD,hs]at h1 ⊢;exact h1
 rw[show List.range 10=0::[1,2,3,4,5,6,7,8,9] from rfl,List.find?_cons_of_pos (p:=λk=>(owner.getD (d+k) (some 0)).isNone) h0];rfl
def own_step {ds:TC}{owner:Array (Option Nat)}{k d:Nat}(h:Own ds owner k)(hd:d<9)(hk:ds[k]?=some d)(hn:∀i,i<k->ds[i]? ≠ some d):Own ds (owner.setIfInBounds d (some k)) (k+1):=by
 refine⟨by simp[h.size],λj i=>?_⟩;have hs:d<owner.size:=by rw[h.size];lia
 by_cases e:j=d
 ·subst e;have e1:(owner.setIfInBounds j (some k)).getD j none=some k:=by simp[Array.getD,hs]
  rw[e1];constructor
  ·intro z;cases z;exact⟨CH _,hk⟩
  ·rintro⟨a,b⟩
   rcases Nat.lt_succ_iff_lt_or_eq.mp a with a|a
   ·exact absurd b (hn i a)
   ·rw[a]
 ·have e1:(owner.setIfInBounds d (some k)).getD j none=owner.getD j none:=by simp only[Array.getD_eq_getD_getElem?,Array.getElem?_setIfInBounds];rw[if_neg (λz=>e z.symm)]
  rw[e1,h.own];constructor
  ·rintro⟨a,b⟩;exact⟨Bi a,b⟩
  ·rintro⟨a,b⟩
   rcases Nat.lt_succ_iff_lt_or_eq.mp a with a|a
   ·exact⟨a,b⟩
   ·subst a;rw[hk]at b;exact absurd (AH b).symm e
def zac {ds:TC}(hd:∀d∈ds,d<9)(nd:ds.Nodup):∃owner,SetTable.layClean 31 (ds.map λ(d:Nat)=>(d:Int)).toArray=some owner/\Own ds owner ds.length:=by
 unfold SetTable.layClean;rw[<- Array.foldl_toList];have key:∀(r:TC) (pre:TC) (owner:Array (Option Nat)),ds=pre++r->Own ds owner pre.length ->
   ∃eK,(r.map λ(d:Nat)=>(d:Int)).foldl (λ(acc:Option (Array (Option Nat)×Nat)) h=>do
    let (owner,k) <- acc
    let j <- SetTable.layClean.free 31 owner (SetTable.turns 31) (SetTable.bits h%(31+1)) (SetTable.bits h)
    pure (owner.setIfInBounds j (some k),k+1)) (some (owner,pre.length))=some (eK,ds.length)/\Own ds eK ds.length:=by
  intro r
  induction r with
  |nil=>intro pre owner e ho;rw[Az]at e;rw[e]at ho ⊢;exact⟨owner,O,ho⟩
  |cons d r ih=>
   intro pre owner e ho;have hk:ds[pre.length]?=some d:=by rw[e];simp
   have dC:d<9:=hd d (by rw[e];simp);have hn:∀i,i<pre.length->ds[i]? ≠ some d:=λi hi z=>by have fJ:=hk;have:=(Co (AD.mp z).1 nd).mp (z.trans fJ.symm);lia
   have hs:=own_step ho dC hk hn;have hf:=free_own ho dC hn (SetTable.bits (d:Int));rw[Af,CV];have e2:(do
    let (owner,k) <- some (owner,pre.length)
    let j <- SetTable.layClean.free 31 owner (SetTable.turns 31) (SetTable.bits (d:Int)%(31+1)) (SetTable.bits (d:Int))
    pure (owner.setIfInBounds j (some k),k+1))=some (owner.setIfInBounds d (some pre.length),pre.length+1):=by
    show (SetTable.layClean.free 31 owner (SetTable.turns 31) (SetTable.bits (d:Int)%(31+1)) (SetTable.bits (d:Int)) >>= λj=>some (owner.setIfInBounds j (some pre.length),pre.length+1))=_;rw[bits_dig dC,hf];rfl
   rw[e2];have:=ih (pre++[d]) (owner.setIfInBounds d (some pre.length)) (by rw[e];simp) (by rw[List.length_append];exact hs);rw[AJ]at this;exact this
 obtain⟨owner,e,ho⟩:=key ds [] (Array.replicate 32 none) rfl ⟨by simp,λj i=>by
  constructor
  ·intro z;exfalso;by_cases hj:j<32
   ·simp[Array.getD,hj]at z
   ·simp[Array.getD,hj]at z
  ·rintro⟨a,_⟩;exact absurd a (C2 _)⟩
 refine⟨owner,?_,ho⟩;rw[show ((ds.map λ(d:Nat)=>(d:Int)).toArray).toList=ds.map λ(d:Nat)=>(d:Int) from rfl];exact BF (Option.map (·.1)) e
def jm (owner:Array (Option Nat)):List (Nat×Nat):=(List.range 32).filterMap λj=>(owner.getD j none).map (j,·)
def ZS {ds:TC}{owner:Array (Option Nat)}(h:Own ds owner ds.length)(hd:∀d∈ds,d<9){z:Nat×Nat}:z∈jm owner↔ds[z.2]?=some z.1:=by
 unfold jm;rw[EJ];constructor
 ·rintro⟨j,hj,e⟩;obtain⟨i,e1,rfl⟩:=Aj.mp e;exact ((h.own j i).mp e1).2
 ·intro e;have hi:=(AD.mp e).1;have h9:=hd _ (AL e);refine⟨z.1,AS.mpr ⋯,?_⟩;rw[(h.own z.1 z.2).mpr ⟨hi,e⟩];rfl
def zad (owner:Array (Option Nat)):((jm owner).map (·.1)).Pairwise (·<·):=zaa (f:=λj=>owner.getD j none) 32
def zae {ds:TC}{owner:Array (Option Nat)}(h:Own ds owner ds.length)(hd:∀d∈ds,d<9):List.Perm ((jm owner).map (·.2)) (List.range ds.length):=by
 have rs:=zad owner;rw[A7]at rs;refine (DK ?_ Dx).mpr λi=>?_
 ·unfold List.Nodup;rw[A7];refine CM (λ{a b} ha hb aO e=>?_) rs;have h1:=(ZS h hd).mp ha;have h2:=(ZS h hd).mp hb;rw[e,h2]at h1;have:=AH h1;lia
 ·rw[AK,AS];constructor
  ·rintro⟨z,hz,rfl⟩;exact (AD.mp ((ZS h hd).mp hz)).1
  ·intro hi;exact⟨(ds[i],i),(ZS h hd).mpr (AC hi),O⟩
theorem zaf {es:Array (Int×Value)}:∀(L:List Nat),(∀i∈L,i<es.size)->L.filterMap (es[·]?)=L.map λi=>es.getD i (0,.none)
 | [],_=>rfl
 |i::L,h=>by have hi:=h i (A5 ..);rw[E2,Af,zaf L λk hk=>h k (BD _ hk)];simp[hi,Array.getD]
def zag {es:Array (Int×Value)}{t:SetTable}{b:Bool}{ds:TC}(ti:X7 t b)(hp:t.plain=true)(he:es.toList.map (·.1)=ds.map λ(d:Nat)=>(d:Int))(hd:∀d∈ds,d<9)(nd:ds.Nodup)(h9:ds.length<=9){w:Nat}(hw:SetTable.sizeAbove w=32):
  Dg (relayAll t es w).1 (relayAll t es w).2.1 b/\List.Perm (relayAll t es w).1.toList es.toList:=by
 have hl:es.size=ds.length:=by have:=BF List.length he;simpa using this
 obtain⟨owner,eo,ho⟩:=zac hd nd;have eh:es.map (·.1)=(ds.map λ(d:Nat)=>(d:Int)).toArray:=by apply Fc.mp;rw[Fb];exact he
 have er:t.relaid (es.map (·.1)) w=some ({mask:=31,place:=((jm owner).map (·.1)).toArray,dummies:=#[],finger:=t.finger,led:=t.led,moves:=t.movedTo 31,plain:=t.plain},((jm owner).map (·.2)).toArray):=by unfold SetTable.relaid SetTable.laid;rw[hw,eh,eo];rfl
 have perm:=zae ho hd;have ll:(jm owner).length=ds.length:=by
  have:=perm.length_eq
  rwa [AB,AU]at this
 have bH:∀i∈(jm owner).map (·.2),i<es.size:=λi hi=>by rw[hl];exact AS.mp (perm.mem_iff.mp hi)
 have Ht:(((jm owner).map (·.2)).toArray.filterMap (es[·]?)).toList=((jm owner).map (·.2)).map λi=>es.getD i (0,.none):=by rw[Array.toList_filterMap];exact zaf _ bH
 have eC:(((jm owner).map (·.2)).toArray.filterMap (es[·]?)).size=ds.length:=by rw[<- Ad,Ht,AB,AB,ll]
 have cov:coversAll ((jm owner).map (·.2)).toArray es.size=true:=by unfold coversAll;rw[List.isPerm_iff,hl];exact perm
 have ra:relayAll t es w=(((jm owner).map (·.2)).toArray.filterMap (es[·]?),{mask:=31,place:=((jm owner).map (·.1)).toArray,dummies:=#[],finger:=t.finger,led:=t.led,moves:=t.movedTo 31,plain:=t.plain},false):=by unfold relayAll;rw[er];dsimp only;rw[cov,eC];rw[if_pos];simp only[SetTable.fits,SetTable.fill,Bool.true_and,List.size_toArray,List.length_map,ll,Array.size_empty,Bool.and_eq_true,beq_iff_eq,decide_eq_true_eq];refine⟨trivial,?_⟩;show _+0<=31;lia
 have pm:=relayAll_perm t es w;rw[ra]at pm ⊢;refine⟨⟨⟨O,zad owner,ti.led⟩,hp,?_,.inr ⟨O,by rw[eC];exact h9,?_,λp cj=>?_⟩⟩,pm⟩
 ·show ((jm owner).map (·.1)).toArray.size=_;rw[eC,Ao,AB,ll]
 ·show (((jm owner).map (·.2)).toArray.filterMap (es[·]?)).toList.map (·.1)=((jm owner).map (·.1)).map λ(p:Nat)=>(p:Int)
  rw[Ht,AW,AW,AW];refine Ab λz hz=>?_;have bX:=(ZS ho hd).mp hz;have hi:=(AD.mp bX).1;have:(es.toList.map (·.1))[z.2]?=some ((z.1:Nat):Int):=by rw[he,AG,bX];rfl
  rw[AG]at this;obtain⟨y,hy,ey⟩:=Aj.mp this;have Li:z.2<es.size:=⋯;show (es.getD z.2 (0,.none)).1=((z.1:Nat):Int)
  rw[<- ey];have:es[z.2]?=some y:=by simpa using hy
  simp[Array.getD,Li]at this ⊢;rw[this]
 ·have sv:p∈(jm owner).map (·.1):=by simpa using cj
  obtain⟨z,hz,rfl⟩:=AK.mp sv;exact hd _ (AL ((ZS ho hd).mp hz))
structure DgE (es:Array (Int×Value))(t:SetTable)(b:Bool)(ds:TC):Prop where
 dg:Dg es t b
 he:es.toList.map (·.1)=ds.map λ(d:Nat)=>(d:Int)
 hd:∀d∈ds,d<9
 nd:ds.Nodup
def DgE.len {es:Array (Int×Value)}{t:SetTable}{b:Bool}{ds:TC}(h:DgE es t b ds):es.size=ds.length:=by have:=BF List.length h.he;simpa using this
def zah (b:Bool):DgE #[] (.fresh 0 0 b) b []:=⟨dg_fresh b,rfl,(λd h=>by cases h),.nil⟩
theorem nine:∀(m:Nat) (xs:List Nat),xs.Nodup->(∀x∈xs,x<m)->xs.length<=m
 |0,xs,_,h=>by
  cases xs with
  |nil=>exact AI _
  |cons x xs=>exact absurd (h x (A5 ..)) (C2 _)
 |m+1,xs,nd,h=>by
  have h1:=nine m (xs.erase m) (nd.erase m) λx hx=>by
   have h2:=h x (List.mem_of_mem_erase hx);have h3:x≠m:=λe=>by rw[e]at hx;exact (List.Nodup.not_mem_erase nd) hx
   lia
  have h2:xs.length-1<=(xs.erase m).length:=by rw[List.length_erase];split <;> lia
  lia
def addE (t:SetTable)(es:Array (Int×Value))(x:Int)(v:Value):Array (Int×Value)×SetTable:=
 if (layNew t es x v).2.1.tooFull=true then ((relayAll (layNew t es x v).2.1 (layNew t es x v).1 (SetTable.grown (layNew t es x v).1.size)).1,(relayAll (layNew t es x v).2.1 (layNew t es x v).1 (SetTable.grown (layNew t es x v).1.size)).2.1) else ((layNew t es x v).1,(layNew t es x v).2.1)
def zai {t:SetTable}{es:Array (Int×Value)}{x:Int}{v:Value}{sl:Nat}{b:Bool}(h:X7 t b)(hl:t.place.size=es.size)(hf:t.freeSlot x=some (sl,false))(hm:es.size+1<=t.mask):
  layNew t es x v=(SetTable.insertAt es (SetTable.below t.place sl) (x,v),{t with place:=SetTable.insertAt t.place (SetTable.below t.place sl) sl},false,false):=by
 have hp:(t.put sl)=({t with place:=SetTable.insertAt t.place (SetTable.below t.place sl) sl},SetTable.below t.place sl):=by unfold SetTable.put;rw[h.dum,X8];obtain⟨mask,place,dummies,finger,led,moves,plain⟩:=t;have:=h.dum;dsimp only at this;subst this;rfl
 have bl:=Y0 h.rs sl;have s1:(SetTable.insertAt es (SetTable.below t.place sl) (x,v)).size=es.size+1:=Q5 _ _ _ ⋯;have s2:(SetTable.insertAt t.place (SetTable.below t.place sl) sl).size=es.size+1:=by rw[Q5 _ _ _ bl,hl]
 have fit:({t with place:=SetTable.insertAt t.place (SetTable.below t.place sl) sl}:SetTable).fits (es.size+1)=true:=by unfold SetTable.fits SetTable.fill;dsimp only;rw[s2,h.dum];simp;lia
 unfold layNew;rw[hf];dsimp only;rw[hp];dsimp only;rw[s1];unfold SetTable.orStandIn;rw[if_pos fit,fit];rfl
def ins_map {α β:Type}(f:α->β)(xs:Array α)(p:Nat)(x:α):(SetTable.insertAt xs p x).toList.map f=(xs.toList.map f).take p++f x::(xs.toList.map f).drop p:=by rw[Qq,AO,Af,E6,E7]
def zaj {xs ys:TC}(h:List.Perm (xs.map λ(d:Nat)=>(d:Int)) (ys.map λ(d:Nat)=>(d:Int))):List.Perm xs ys:=by have:=h.map Int.toNat;simpa [List.map_map,Function.comp_def]using this
def dig_add {es:Array (Int×Value)}{t:SetTable}{b:Bool}{ds:TC}(h:DgE es t b ds){d:Nat}(gC:d<9)(hn:d ∉ ds)(v:Value):
  (layNew t es (d:Int) v).2.2.1=false/\(layNew t es (d:Int) v).2.1.plain=true/\∃cC,DgE (addE t es (d:Int) v).1 (addE t es (d:Int) v).2 b cC/\List.Perm cC (d::ds):=by
 have hl:=h.dg.len;have el:=h.len;have n9:ds.length+1<=9:=nine 9 (d::ds) (Bh.mpr ⟨hn,h.nd⟩) (λx hx=>by
  rcases Al.mp hx with rfl|hx
  ·exact gC
  ·exact h.hd x hx)
 have perm:∀p,List.Perm (ds.take p++d::ds.drop p) (d::ds):=λp=>by refine List.perm_middle.trans ?_;rw[C7]
 have good:∀p,(∀x∈ds.take p++d::ds.drop p,x<9)/\(ds.take p++d::ds.drop p).Nodup:=λp=>by
  refine⟨λx hx=>?_,?_⟩
  ·rcases Al.mp ((perm p).mem_iff.mp hx) with rfl|hx
   ·exact gC
   ·exact h.hd x hx
  ·exact (perm p).nodup_iff.mpr (Bh.mpr ⟨hn,h.nd⟩)
 have main:∀sl,t.freeSlot (d:Int)=some (sl,false)->es.size+1<=t.mask->sl ∉ t.place.toList ->
   X7 {t with place:=SetTable.insertAt t.place (SetTable.below t.place sl) sl} b/\(SetTable.insertAt es (SetTable.below t.place sl) ((d:Int),v)).toList.map (·.1)=(ds.take (SetTable.below t.place sl)++d::ds.drop (SetTable.below t.place sl)).map (λ(d:Nat)=>(d:Int))/\(SetTable.insertAt es (SetTable.below t.place sl) ((d:Int),v)).size=es.size+1/\(SetTable.insertAt t.place (SetTable.below t.place sl) sl).size=es.size+1:=λsl hf hm hs=>by
  have bl:=Y0 h.dg.ti.rs sl;refine⟨⟨h.dg.ti.dum,xI h.dg.ti.rs hs,h.dg.ti.led⟩,?_,Q5 _ _ _ ⋯,by rw[Q5 _ _ _ bl,hl]⟩;rw[ins_map,h.he,AO,Af,E6,E7]
 rcases h.dg.form with ⟨f7,f4,f8⟩|⟨f31,f9,fe,f99⟩
 ·obtain⟨sl,s8,hs,hf⟩:=lay7 h.dg f7 f4 f8 gC v;have hm:es.size+1<=t.mask:=⋯;have eL:=zai (v:=v) h.dg.ti hl hf hm;obtain⟨og,cz,s1,s2⟩:=main sl hf hm hs;obtain⟨g1,g2⟩:=good (SetTable.below t.place sl);have pp:=perm (SetTable.below t.place sl);generalize ds.take (SetTable.below t.place sl)++d::ds.drop (SetTable.below t.place sl)=cC at cz g1 g2 pp;refine⟨by rw[eL],by rw[eL];exact h.dg.plain,?_⟩;unfold addE;rw[eL];dsimp only;by_cases aN:({t with place:=SetTable.insertAt t.place (SetTable.below t.place sl) sl}:SetTable).tooFull=true
  ·rw[if_pos aN];have h5:es.size+1=5:=by unfold SetTable.tooFull SetTable.fill at aN;dsimp only at aN;rw[s2,h.dg.ti.dum,f7]at aN;have:=A2 aN;simp at this;lia
   have hw:SetTable.sizeAbove (SetTable.grown (SetTable.insertAt es (SetTable.below t.place sl) ((d:Int),v)).size)=32:=by
    rw[s1,h5]
    decide
   have r:=zag (es:=SetTable.insertAt es (SetTable.below t.place sl) ((d:Int),v)) (t:={t with place:=SetTable.insertAt t.place (SetTable.below t.place sl) sl}) (b:=b) og h.dg.plain cz g1 g2 (by rw[pp.length_eq];exact n9) hw;obtain⟨r1,r2⟩:=r;have rl:=r2.length_eq;rw[Ad,Ad]at rl
   replace rl:=rl.trans s1
   rcases r1.form with ⟨_,q4,_⟩|⟨q1,q2,q3,q4⟩
   ·exfalso;lia
   ·have pl:=r2.map Prod.fst;have F3:=cz;rw[show (λ(x:Int×Value)=>x.1)=Prod.fst from rfl]at q3 F3;rw[q3,F3]at pl
    replace pl:=zaj pl
    refine⟨_,⟨r1,q3,q4,pl.nodup_iff.mpr g2⟩,pl.trans pp⟩
  ·rw[if_neg aN];have h4:es.size+1<=4:=by unfold SetTable.tooFull SetTable.fill at aN;dsimp only at aN;rw[s2,h.dg.ti.dum,f7]at aN;simp at aN;lia
   refine⟨cC,⟨⟨og,h.dg.plain,by dsimp only;rw[s1,s2],.inl ⟨f7,by dsimp only;rw[s1];exact h4,λp hp=>?_⟩⟩,cz,g1,g2⟩,pp⟩;have cj:p∈(SetTable.insertAt t.place (SetTable.below t.place sl) sl).toList:=hp;rw[Qq]at cj
   rcases AX.mp cj with cj|cj
   ·exact f8 p (Br cj)
   ·rcases Al.mp cj with rfl|cj
    ·exact s8
    ·exact f8 p (DM cj)
 ·have Hu:ds=t.place.toList:=by have h1:=h.he.symm.trans fe;exact List.map_inj_right (λa b e=>⋯) |>.mp h1
  have hs:d ∉ t.place.toList:=Hu ▸ hn;have hf:=lay31 h.dg f31 f99 f9 gC hs;have hm:es.size+1<=t.mask:=⋯;have eL:=zai (v:=v) h.dg.ti hl hf hm;obtain⟨og,cz,s1,s2⟩:=main d hf hm hs;obtain⟨g1,g2⟩:=good (SetTable.below t.place d);have pp:=perm (SetTable.below t.place d);have M4:ds.take (SetTable.below t.place d)++d::ds.drop (SetTable.below t.place d)=(SetTable.insertAt t.place (SetTable.below t.place d) d).toList:=by rw[Qq,Hu]
  rw[M4]at cz g1 g2 pp;refine⟨by rw[eL],by rw[eL];exact h.dg.plain,_,?_,pp⟩;unfold addE;rw[eL];dsimp only;have aN:¬({t with place:=SetTable.insertAt t.place (SetTable.below t.place d) d}:SetTable).tooFull=true:=by unfold SetTable.tooFull SetTable.fill;dsimp only;rw[s2,h.dg.ti.dum,f31];simp;lia
  rw[if_neg aN];exact⟨⟨og,h.dg.plain,by dsimp only;rw[s1,s2],.inr ⟨f31,by dsimp only;rw[s1];lia,cz,g1⟩⟩,cz,g1,g2⟩
def DIs (b:Bool)(h:Heap)(a:Addr)(ds:TC):Prop:=
 ∃o es ep t,h.get? a=some o/\o.ExactSet/\o.data=.set es ep t/\DgE es t b ds/\∀e∈es.toList,∃tk,e.2=Value.int e.1 tk
def DIs.keep {b:Bool}{h h':Heap}{a:Addr}{ds:TC}(x:DIs b h a ds)(k:∀o,h.get? a=some o->h'.get? a=some o):DIs b h' a ds:=by obtain⟨o,es,ep,t,ho,r⟩:=x;exact⟨o,es,ep,t,k o ho,r⟩
def Dg.fits {es:Array (Int×Value)}{t:SetTable}{b:Bool}(h:Dg es t b):t.fits es.size=true:=by
 unfold SetTable.fits SetTable.fill;rw[h.len,h.ti.dum];simp
 rcases h.form with ⟨h1,h2,_⟩|⟨h1,h2,_⟩ <;> lia
def Dg.small {es:Array (Int×Value)}{t:SetTable}{b:Bool}(h:Dg es t b):es.size<=9:=by rcases h.form with ⟨h1,h2,_⟩|⟨h1,h2,_⟩ <;> lia
def Wp:∀d:Nat,d<9->hashInt (d:Int)=(d:Int):=by decide
def DgE.mem {es:Array (Int×Value)}{t:SetTable}{b:Bool}{ds:TC}(h:DgE es t b ds){e:Int×Value}(he:e∈es.toList):∃d∈ds,e.1=(d:Int):=by have:=List.mem_map_of_mem (f:=λ(x:Int×Value)=>x.1) he;rw[h.he]at this;obtain⟨d,hd,e'⟩:=AK.mp this;exact⟨d,hd,e'.symm⟩
def DgE.at {es:Array (Int×Value)}{t:SetTable}{b:Bool}{ds:TC}(h:DgE es t b ds){d:Nat}(hd:d∈ds):∃e∈es.toList,e.1=(d:Int):=by have:(d:Int)∈ds.map λ(d:Nat)=>(d:Int):=List.mem_map_of_mem hd;rw[<- h.he]at this;obtain⟨e,he,e'⟩:=AK.mp this;exact⟨e,he,e'⟩
section
variable {prog:Program}{w:World}{A:Around}{E:TB}{s:Shared}
def zak {es:Array (Int×Value)}{t:SetTable}{b:Bool}{ds:TC}(h:DgE es t b ds)(hv:∀e∈es.toList,∃tk,e.2=Value.int e.1 tk):ElemsOf (intKind prog w) es.toList:=λe he=>by obtain⟨tk,ev⟩:=hv e he;obtain⟨d,hd,e1⟩:=h.mem he;rw[ev];refine⟨⟨e.1,by simp[intKind,Value.isInt],?_⟩,O⟩;show e.1=hashInt e.1;rw[e1,Wp d (h.hd d hd)]
def ym {h:Heap}{a:Addr}{o:Obj}{es dZ:Array (Int×Value)}{ep:Nat}{t t':SetTable}{b:Bool}{cC:TC}(ho:h.get? a=some o)(hex:o.ExactSet)(hd:o.data=.set es ep t)(hg:DgE dZ t' b cC)(hv:∀e∈dZ.toList,∃tk,e.2=Value.int e.1 tk):
  DIs b (h.update a (Obj.putSet dZ t')) a cC:=by
 have pe:(h.update a (Obj.putSet dZ t')).get? a=some {o with data:=.set dZ (ep+1) t'}:=by have:=A9 (Obj.putSet dZ t') ho (by rw[putSet_of dZ t' hd];rfl);rw[putSet_of dZ t' hd]at this;exact this
 exact⟨_,dZ,ep+1,t',pe,hex,O,hg,hv⟩
def setAddD {a:Addr}{ds:TC}{b:Bool}{d:Nat}{tk:Tok}{Q:Bool->Shared->Prop}(hS:DIs b s.heap a ds)(gC:d<9)
  (h:∀h' cC,Heap.SameBut a s.heap h'->DIs b h' a cC->List.Perm cC (if d∈ds then ds else d::ds)->Q (!decide (d∈ds)) {s with heap:=h'}):
  wpAny (model prog w) A (setAddHashed a (.int (d:Int) tk) (hashInt (d:Int))) Q E s:=by
 obtain⟨o,es,ep,t,ho,hex,hd,hg,hv⟩:=hS;have hf:=hg.dg.fits;have F1:=zak (prog:=prog) (w:=w) hg hv;have hb:es.size<scanBound:=by have:=hg.dg.small;unfold scanBound;lia
 have eW:(intKind prog w).is (d:Int) (.int (d:Int) tk)=true:=by simp[intKind,Value.isInt]
 unfold setAddHashed setAddHashedIn;refine BL (AA (Cu ho hd hf ?_));dsimp only;rw[byScan_of (knd:=intKind prog w) rfl hb F1];simp only[↓reduceIte];unfold setAddByScan;refine AA ?_;refine AA (Bm ?_);refine AA (wpAny_setScan_of (knd:=intKind prog w) eW ho hd hf F1 ?_);cases hr:List.findIdx? (λe=>(intKind prog w).is (d:Int) e.2) es.toList with
 |some j=>
  dsimp only;obtain⟨hj,sr,_⟩:=List.findIdx?_eq_some_iff_getElem.mp hr;have hm:=Cy hj;have bH:d∈ds:=by
   obtain⟨tk',ev⟩:=hv _ hm;obtain⟨d',cV,e1⟩:=hg.mem hm;rw[ev]at sr;have:es.toList[j].1=(d:Int):=by simp[intKind,Value.isInt]at sr;exact sr
   rw[e1]at this
   rwa [show d'=d by lia]at cV
  refine AF (AF ?_);have e:s = {s with heap:=s.heap}:=by cases s;rfl
  have:=h s.heap ds (Heap.SameBut.refl a s.heap) ⟨o,es,ep,t,ho,hex,hd,hg,hv⟩ (by rw[if_pos bH]);rw[Am bH]at this;rw[e];exact this
 |none=>
  dsimp only;have bH:d ∉ ds:=λbH=>by obtain⟨e,he,e1⟩:=hg.at bH;obtain⟨tk',ev⟩:=hv e he;have:=List.findIdx?_eq_none_iff.mp hr e he;rw[ev,e1]at this;simp[intKind,Value.isInt]at this
  have Fw:∀(b:Bool) {ag:Shared} {Q':Unit->Shared->Prop},Q' () ag->wpAny (model prog w) A (match b with|true=>rule "set.scan.the-table-gave-way" | false=>pure ()) Q' E ag:=
   λb ag Q' hq=>by cases b <;> first|exact AF hq|exact Bm hq
  have eh:(intKind prog w).hash (d:Int)=(d:Int):=Wp d gC;have M3:hashInt (d:Int)=(d:Int):=Wp d gC;obtain⟨a1,a2,cC,a3,a4⟩:=dig_add hg gC bH (.int (d:Int) tk);have cN:=layNew_perm t es (d:Int) (.int (d:Int) tk);unfold addE at a3;rw[show (intKind prog w).hash (d:Int)=(d:Int) from eh]at *
  try rw[M3]
  generalize hL:layNew t es (d:Int) (.int (d:Int) tk)=L at a1 a2 a3 cN ⊢;obtain⟨dY,t1,kP,MJ⟩:=L;dsimp only at a1 a2 a3 cN ⊢;subst a1;rw[Cp]at cN;have vP:∀e∈dY.toList,∃tk,e.2=Value.int e.1 tk:=λe he=>by
   rcases AX.mp (cN.mem_iff.mp he) with he|he
   ·exact hv e he
   ·rw[AN.mp he];exact⟨tk,O⟩
  have s1:dY.size=es.size+1:=by rw[<- Ad,cN.length_eq,AJ,Ad];rfl
  have se:=hg.dg.small;have Lz:dY.size<scanBound:=by unfold scanBound;lia
  have pp:List.Perm cC (if d∈ds then ds else d::ds):=by rw[if_neg bH];exact a4
  have fin:∀h',Heap.SameBut a s.heap h'->DIs b h' a cC->Q true {s with heap:=h'}:=λh' z1 z2=>by have:=h h' cC z1 z2 pp;rw[Ag bH]at this;exact this
  refine AA (Fw _ ?_);rw[if_pos a2];refine AA ?_;rw[hashByValue_scannable 8 rfl];refine AF ?_;simp only[plainKind,↓reduceIte,Bool.not_false,Bool.true_and];have pe:(s.heap.update a (Obj.putSet dY t1)).get? a=some {o with data:=.set dY (ep+1) t1}:=by have:=A9 (Obj.putSet dY t1) ho (by rw[putSet_of dY t1 hd];rfl);rw[putSet_of dY t1 hd]at this;exact this
  have mv:=BW s.heap a (Obj.putSet dY t1);refine AA (wpAny_storeSet_of ho hd ?_ (Eo Lz));by_cases aN:t1.tooFull=true
  ·rw[if_pos aN]at a3 ⊢;have hp:=relayAll_perm t1 dY (SetTable.grown dY.size);generalize hRl:relayAll t1 dY (SetTable.grown dY.size)=Rl at hp a3 ⊢;obtain⟨MV,t3,Hm⟩:=Rl;dsimp only at hp a3 ⊢;refine AA (Fw _ ?_);have Ly:MV.size<scanBound:=by have:=a3.dg.small;unfold scanBound;lia
   refine AA (wpAny_storeSet_of pe rfl ?_ (Eo Ly));exact AF (AF (fin _ (mv.trans (BW _ a _)) (ym pe hex rfl a3 λe he=>vP e (hp.mem_iff.mp he))))
  ·rw[if_neg aN]at a3 ⊢;exact AF (AF (fin _ mv (ym ho hex hd a3 vP)))
end
abbrev j7 (w:World):Bool:=w.params.followText "set-order"
section
variable {prog:Program}{w:World}{A:Around}{E:TB}{s:Shared}
def Wq (a:Value){Q₁:TB}
  (h:Q₁ (.ref s.heap.objs.size) {s with heap:=s.heap.push {cls:=.type "set",dict:=none,data:=.set #[] 0 (.fresh 0 0 (!j7 w))}}):
  codeAny (model prog w) A (.call (.builtin "set.__new__") ⟨[.type "set",a],[]⟩) (wants Q₁ E) s:=by
 refine codeAny_of_tree ?_;show wpAny _ A.in1 (do checkBuiltinCall "set.__new__" ⟨[.type "set",a],[]⟩;again (.builtin "set.__new__" ⟨[.type "set",a],[]⟩)) _ _ s;refine AA (Bw (PySem.F.newCall_set_1 a) (AF ⟨CS PySem.F.plain_set_new _,CJ PySem.F.entry_set_new ?_⟩));rw[Bx PySem.F.plain_set_new _];unfold Builtin.«set.__new__» Builtin.Frozenset.newClass;have r8:=sub_set_self;obtain⟨hp,g,d,tk,os⟩:=s;dsimp only
 wp_walk
 refine EG (AF ?_);dsimp only;simp only[newObj];refine AA (wpAny_alloc (AF ?_));exact AF h
def zal {R:Result->Shared->Prop}{J l a:Addr}{items:TH}{ys:TC}{bb:Bool}(hh:A.in1.handled=none)(hJ:l≠J)(aJ:a≠J)(al:a≠l)(hv:∀(i:Nat) (v:Value),items[i]?=some v->∃t,v=.int ((ys.getD i 0:Nat):Int) t)(hn:items.size=ys.length)(hb:∀y∈ys,y<9):
  ∀(k i:Nat) (s:Shared) (ds:TC),ys.length-i=k->i<=ys.length->s.heap.IsListIter J l i->s.heap.IsList l items->DIs bb s.heap a ds->(∀d,d∈ds↔d∈ys.take i) ->
   (∀h' tk cC,(∀b o,b≠a->b≠J->s.heap.get? b=some o->h'.get? b=some o)->DIs bb h' a cC->(∀d,d∈cC↔d∈ys)->R (.ok (.ret .none)) {s with heap:=h',toks:=tk}) ->
   codeAny (model prog w) A (.builtin "set.update.loop" ⟨[.ref a,.ref J],[]⟩) R s:=by
 intro k
 induction k with
 |zero=>intro i s ds hk hi h1 h2 h3 fm hR;have e:i=ys.length:=⋯;subst e;refine CJ E1 ?_;rw[Bx DT _];show wpAny _ A.in1 (pyNext (.ref J) >>= _) _ _ s;refine AA (E9 hh h1 h2 (by first|lia|(simp;lia)) λh' eb=>?_);show wpAny _ A.in1 (ret Value.none) _ _ _;rw[Ak]at fm;exact AF (hR h' s.toks ds (λb o _ nb e=>eb b o nb e) (h3.keep λo e=>eb a o aJ e) fm)
 |succ k ih=>
  intro i s ds hk hi h1 h2 h3 fm hR;have aA:i<ys.length:=⋯;refine CJ E1 ?_;rw[Bx DT _];show wpAny _ A.in1 (pyNext (.ref J) >>= _) _ _ s;have hi2:items[i]?=some (items[i]'(⋯)):=by simp[show i<items.size by lia]
  refine AA (Ez h1 h2 hi2 λh' fQ sb=>?_);obtain⟨t,et⟩:=hv i _ hi2;rw[et];have Mi:DIs bb h' a ds:=h3.keep λo e=>(sb.2 a aJ).trans e;show wpAny _ A.in1 (holding [Value.int ((ys.getD i 0:Nat):Int) t] (setAdd a (.int ((ys.getD i 0:Nat):Int) t)) >>= _) _ _ _;refine AA (BL ?_);unfold setAdd;have Kq:(PySem.intKind prog w).is ((ys.getD i 0:Nat):Int) (.int ((ys.getD i 0:Nat):Int) t)=true:=by simp[PySem.intKind,Value.isInt]
  refine BL (AA ((PySem.intKind prog w).pyHash (k:=((ys.getD i 0:Nat):Int)) Kq ?_));have ey:ys[i]?=some (ys.getD i 0):=by simp[List.getD,aA]
  have e1:ys.take (i+1)=ys.take i++[ys.getD i 0]:=by rw[List.take_add_one,ey];rfl
  refine setAddD (s:={s with heap:=h',toks:=s.toks+1}) Mi (hb _ (AL ey)) λkH cC p4 h4 pm=>?_;have tI:∀d,d∈cC↔d∈ys.take (i+1):=λd=>by
   rw[pm.mem_iff,e1,AX,AN,<- fm d];split
   ·rename_i hc;constructor
    ·exact .inl
    ·rintro (z|rfl)
     ·exact z
     ·exact hc
   ·rw[Al];exact Or.comm
  refine AF ⟨CS DT _,ih (i+1) {s with heap:=kH,toks:=s.toks+1} cC ⋯ aA ?_ ?_ h4 tI λh6 tk M6 k6 s6 m6=>hR h6 tk M6 (λb o na nJ e=>k6 b o na nJ ((p4.2 b na).trans ((sb.2 b nJ).trans e))) s6 m6⟩
  ·obtain⟨o,q1,q2⟩:=fQ;exact⟨o,(p4.2 J (An aJ)).trans q1,q2⟩
  ·obtain⟨o,q1,q2⟩:=h2;exact⟨o,(p4.2 l (An al)).trans ((sb.2 l hJ).trans q1),q2⟩
def zam {l:Addr}{items:TH}{ys:TC}{Q:TB}(hh:A.handled=none)(hl:s.heap.IsList l items)(hi:∀(i:Nat) (v:Value),items[i]?=some v->∃t,v=.int ((ys.getD i 0:Nat):Int) t)(hn:items.size=ys.length)(hb:∀y∈ys,y<9)
  (h:∀h' tk ds,DIs (!j7 w) h' s.heap.objs.size ds->(∀d,d∈ds↔d∈ys)->(∀b o,b<s.heap.objs.size->s.heap.get? b=some o->h'.get? b=some o)->Q (.ref s.heap.objs.size) {s with heap:=h',toks:=tk}):
  wpAny (model prog w) A (call (.type "set") [.ref l]) Q E s:=by
 obtain⟨c0,tl0,K0⟩:=CF.mro;have made:=CF.made;have subs:=CF.sub;have nt:=CF.notType;have cc:=CF.canCreate;have uV:=PySem.F.typeCall_set_1 (.ref l);refine wpAny_call (codeAny_of_tree ?_);show wpAny _ _ (callAny (.type "set") ⟨[.ref l],[]⟩) _ _ _;refine AF ⟨Code.quiet_builtin _ ∅,CJ PySem.F.entry_type_call ?_⟩;rw[Around.under_plain (weight_type_call_type "set" [.ref l] []) rfl]
 repeat (any_goals (first|assumption|wp_step))
 refine D8 (Wq (.ref l) (E:=E) (Q₁:=λv s1=>∃b:Bool,b=(!j7 w)/\v=.ref s.heap.objs.size/\s1 = {s with heap:=s.heap.push (jV b)}) ⟨_,O,O,O⟩) λr s1 hr=>?_
 match r,hr with
 |.error e,hr=>exact hr
 |.ok (.ret v),hr=>
  obtain⟨b,eb,ev,es⟩:=hr;subst ev es;have at0:(s.heap.push (jV b)).get? s.heap.objs.size=some (jV b):=AQ _ rfl;have Il:Shared.TypeIs {s with heap:=s.heap.push (jV b)} (.ref s.heap.objs.size) "set":=⟨_,at0,rfl⟩
  have il:=CF.init.lookup;have ib:=CF.init.bind (.ref s.heap.objs.size)
  repeat (any_goals (first|assumption|wp_step))
  refine D8 (codeAny_call_builtin (R:=wants (λr s2=>r=.none/\∃h' tk ds,s2 = {s with heap:=h',toks:=tk}/\DIs (!j7 w) h' s.heap.objs.size ds/\(∀d,d∈ds↔d∈ys)/\∀b o,b<s.heap.objs.size->s.heap.get? b=some o->h'.get? b=some o) E) CF.init.plain PySem.F.entry_set_init (check_set_init_1 Il ?_)) λr2 s2 eS=>?_
  ·obtain⟨⟨oc,od,IH,eM⟩,iC,dW,nl,Ll⟩:=id hl;have tM:oc=_:=dW;have tK:IH=_:=Ll;subst tM tK;have sE:(s.heap.push (jV b)).get? l=some {cls:=.type "list",dict:=od,data:=.seq items nl,slots:=eM}:=AE _ iC;have n1:=PySem.F.sub_list_set;have n2:=PySem.F.sub_list_frozenset;have n3:(Value.type "list" == Value.type "dict")=false:=by decide
   have fj:(s.heap.push (jV b)).IsList l items:=⟨_,sE,rfl,nl,rfl⟩
   have lS:l<s.heap.objs.size:=AR iC;have jS:(s.heap.push (jV b)).objs.size=s.heap.objs.size+1:=DX ..;unfold Builtin.«set.__init__» noKeywords Builtin.Frozenset.updateFrom;generalize ePI:pyIter=PI
   wp_walk
   subst ePI;refine D6 fj (AA (wpAny_runValue ?_));refine zal (bb:=!j7 w) (J:=(s.heap.push (jV b)).objs.size) (l:=l) (a:=s.heap.objs.size) (items:=items) (ys:=ys) (by simp[hh]) (AZ (by rw[jS];exact Bi lS)) (AZ (by rw[jS];exact CH _)) (Be lS) hi hn hb (ys.length-0) 0 _ [] rfl (BC _) ⟨_,AQ _ rfl,O,O⟩ (fj.push _) ?_ (λd=>by simp) λh' tk ds hk hS hm=>?_
   ·exact⟨_,#[],0,.fresh 0 0 b,AE _ at0,⟨O,O,O⟩,O,eb ▸ zah b,λe he=>by cases he⟩
   ·show wpAny _ _ _ _ _ _;refine AF ?_;show wpAny _ _ (ret Value.none) _ _ _;refine AF ⟨O,h',tk,ds,O,hS,hm,λc o hc e=>hk c o (AZ hc) (AZ (by rw[jS];exact Bi hc)) (AE _ (AE _ e))⟩
  ·match r2,eS with
   |.error e,eS=>exact eS
   |.ok (.ret v),eS=>
    obtain⟨ev,h',tk,ds,es,hS,hm,hk⟩:=eS;subst ev es
    repeat (any_goals (first|assumption|wp_step))
    exact h _ _ _ hS hm hk
   |.ok .next,eS=>exact eS.elim
   |.ok .brk,eS=>exact eS.elim
   |.ok .cont,eS=>exact eS.elim
 |.ok .next,hr=>exact hr.elim
 |.ok .brk,hr=>exact hr.elim
 |.ok .cont,hr=>exact hr.elim
end
theorem zan {α:Type}(next:Nat->Nat):∀(fuel k:Nat) (left:List α) (out:Array α),left.length=fuel->List.Perm (pickOrder.go next fuel k left out).toList (out.toList++left)
 |0,k,left,out,h=>by unfold pickOrder.go;rw[CP.mp h,Az]
 |fuel+1,k,left,out,h=>by unfold pickOrder.go;have aA:next k%left.length<left.length:=CG _ ⋯;rw[AC aA];dsimp only;refine (zan next fuel (k+1) _ _ (by rw[List.length_eraseIdx,if_pos aA,h];rfl)).trans ?_;rw[Cp,A8];refine DB _ ?_;generalize next k%left.length=i at aA;rw[List.eraseIdx_eq_take_drop_succ];show List.Perm (left[i]::(left.take i++left.drop (i+1))) left;refine List.perm_middle.symm.trans ?_;rw[<- CC aA,C7]
def zao {α:Type}(next:Nat->Nat)(xs:Array α):List.Perm (pickOrder next xs).toList xs.toList:=by have:=zan next xs.size 0 xs.toList #[] (by simp);simpa [pickOrder]using this
def qy:Slot "set_iterator" "__next__" "set_iterator.__next__":=
 .of (owner := "set_iterator") (n := "__next__") (by rw[Dp,Cq];kernel_rfl) ∅ ∅ ∅
  (by first|exact .inl ∅ | exact .inr ∅) (by rw[CW];kernel_rfl)
def ZL:entryFor table "set_iterator.__next__" = some Builtin.«set_iterator.__next__»:=entryFor_of_tree (by kernel_rfl)
def Z1 (a:Value):argsOk "set_iterator.__next__" ⟨[a],[]⟩:=by unfold argsOk;kernel_rfl
def Z2:Slot "set_iterator" "__iter__" "set_iterator.__iter__":=
 .of (owner := "set_iterator") (n := "__iter__") (by rw[Dp,Cq];kernel_rfl) ∅ ∅ ∅
  (by first|exact .inl ∅ | exact .inr ∅) (by rw[CW];kernel_rfl)
def Jt:entryFor table "set_iterator.__iter__" = some Builtin.«dict_keyiterator.__iter__»:=entryFor_alias (id' := "dict_keyiterator.__iter__") (by kernel_rfl) rfl ∅ (by kernel_rfl)
def J4 (a:Value):argsOk "set_iterator.__iter__" ⟨[a],[]⟩:=by unfold argsOk;kernel_rfl
def Ju:entryFor table "set.__iter__" = some Builtin.«frozenset.__iter__»:=entryFor_alias (id' := "frozenset.__iter__") (by kernel_rfl) rfl ∅ (by kernel_rfl)
def xL (w:World)(a:Addr)(es:Array (Int×Value))(ep:Nat):Array (Int×Value):=if j7 w=true then pickOrder (w.params.setOrder a ep) es else es
def yn (w:World)(a:Addr)(es:Array (Int×Value))(ep:Nat):List.Perm (xL w a es ep).toList es.toList:=by
 unfold xL;split
 ·exact zao _ _
 ·exact .refl _
def Qr (w:World)(a:Addr)(es:Array (Int×Value))(ep:Nat):(xL w a es ep).size=es.size:=by have:=(yn w a es ep).length_eq;simpa using this
def Jv (w:World)(t:SetTable):Nat->Nat
 |0=>0
 |i+1=>if j7 w=true then 0 else t.place.getD i 0+1
theorem zap {w:World}{t:SetTable}(h:j7 w=true):∀i,Jv w t i=0
 |0=>rfl
 |i+1=>if_pos h
def yo {w:World}{t:SetTable}(h:j7 w=false)(i:Nat):Jv w t (i+1)=t.place.getD i 0+1:=if_neg (by rw[h];simp)
def J5 (h:Heap) (I a:Addr) (sl i n ep:Nat):Prop:=∃o,h.get? I=some o/\o.cls=.type "set_iterator" /\ o.data=.fields #[.int (sl:Nat) 0,.int (i:Nat) 0,.ref a,.int (n:Nat) 0,.int (ep:Nat) 0]
def J5.typeIs {s:Shared}{I a:Addr}{sl i n ep:Nat}(x:J5 s.heap I a sl i n ep):s.TypeIs (.ref I) "set_iterator":=let ⟨o,ho,hc,_⟩:=x;⟨o,ho,hc⟩
def DAt (b:Bool)(h:Heap)(a:Addr)(es:Array (Int×Value))(ep:Nat)(t:SetTable):Prop:=∃o,h.get? a=some o/\o.ExactSet/\o.data=.set es ep t/\Dg es t b
section
variable {prog:Program}{w:World}{A:Around}{E:TB}{s:Shared}{a I:Addr}{es:Array (Int × Value)}{ep:Nat}{t:SetTable}
def QD {Q:TB}(hd:DAt (!j7 w) s.heap a es ep t)
  (hQ:Q (.ref s.heap.objs.size) {s with heap:=s.heap.push {cls:=.type "set_iterator",data:=.fields #[.int (0:Nat) 0,.int (0:Nat) 0,.ref a,.int (es.size:Nat) 0,.int (ep:Nat) 0]}}):
  wpAny (model prog w) A (pyIter (.ref a)) Q E s:=by
 obtain⟨o,ho,hx,ay,hg⟩:=hd;have hf:=hg.fits;have hT:s.TypeIs (.ref a) "set":=⟨o,ho,hx.1⟩
 refine D5 hT PySem.F.slot_set_iter (A6 PySem.F.slot_set_iter hT Ju ?_ (PySem.F.args_set_iter_1 _));unfold Builtin.«frozenset.__iter__» Builtin.Frozenset.slot0;refine AA (AA (AF ?_));refine AF ?_;unfold Builtin.Frozenset.sizeOf setEntries;refine AA (AA (AA (Cu ho ay hf (AF (AF ?_)))));unfold setDrawn setsByText;refine AA (AA (Cu ho ay hf ?_));refine AA (AA (EG (AF (AF ?_))));refine BY (λaO=>absurd (show (!(j7 w)&&(!t.plain&&decide (es.size > 1)))=true from aO) (by rw[hg.plain];simp)) (λ_=>AA (AF ?_));refine AA (wpAny_setEpoch_of ho ay hf ?_);refine AA (A3 ?_);exact AF ⟨_,O, "set_iterator",_,⟨_,AQ _ rfl,O⟩,qy.lookup,hQ⟩
def xM {xs:Array Nat}(hr:Rs xs):SetTable.below xs 0=0:=by rw[Qp hr];unfold wH;rw[List.filter_eq_nil_iff.mpr λx _=>by simp];rfl
theorem xN {b:Bool}(hg:Dg es t b)(ht:j7 w=false):∀(i:Nat),i<=t.place.size->SetTable.below t.place (Jv w t i)=i
 |0,_=>xM hg.ti.rs
 |i+1,hi=>by rw[yo ht];exact xH hg.ti.rs (by simp[Array.getD,show i<t.place.size by lia])
def Y2 {Q:Option (Value×Nat)->Shared->Prop}{i:Nat}(hi:i<=es.size)(hd:DAt (!j7 w) s.heap a es ep t)
  (hQ:Q ((xL w a es ep)[i]?.map λe=>(e.2,Jv w t (i+1))) s):
  wpAny (model prog w) A (setNext a (Jv w t i) i ep) Q E s:=by
 obtain⟨o,ho,hx,ay,hg⟩:=id hd;have hf:=hg.fits;unfold setNext setsByText;refine AA (Cu ho ay hf ?_);refine AA (AA (EG (AF ?_)));refine BY (λaO=>?_) (λaO=>?_)
 ·have ht:j7 w=true:=aO;rw[if_neg (by simp)];unfold setWalk setsByText;refine AA (AA (Cu ho ay hf ?_));refine AA (AA (EG (AF ?_)));refine BY (λ_=>?_) (λhn=>absurd aO hn);refine AA (EG (AF (AF ?_)));rw[zap ht]at hQ ⊢;unfold xL at hQ;rw[if_pos ht]at hQ;exact hQ
 ·have ht:j7 w=false:=Bool.eq_false_iff.mpr aO;refine BY (λLk=>absurd (show (!t.plain&&decide (es.size > 1))=true from Lk) (by rw[hg.plain];simp)) (λ_=>?_);have sX:t.led=true:=by rw[hg.ti.led,ht];rfl
  show wpAny _ _ (_ >>= _) _ _ _;refine AA (Bw (a:=()) (show (if (!t.led && !es.isEmpty)=true then (unsupported "set:maker-not-led" : Sem Unit) else pure ())=pure () by rw[sX];rfl) ?_);refine AF ?_;rw[xN hg ht i (by rw[hg.len];exact hi)];unfold xL at hQ;rw[if_neg (by rw[ht];simp),yo ht]at hQ;by_cases aA:i<es.size
  ·have e1:es[i]?=some es[i]:=by simp[aA]
   have sU:i<t.place.size:=by rw[hg.len];exact aA
   have e2:t.place[i]?=some (t.place.getD i 0):=by simp[Array.getD,sU]
   rw[e1]at hQ ⊢;rw[e2];exact hQ
  ·have e1:es[i]?=none:=Bg ⋯;rw[e1]at hQ ⊢;exact hQ
def QQ {Q:Option Value->Shared->Prop}{i:Nat}{e:Int×Value}(hit:J5 s.heap I a (Jv w t i) i es.size ep)(hd:DAt (!j7 w) s.heap a es ep t)(he:(xL w a es ep)[i]?=some e)
  (hQ:∀h',J5 h' I a (Jv w t (i+1)) (i+1) es.size ep->Heap.SameBut I s.heap h'->Q (some e.2) {s with heap:=h'}):
  wpAny (model prog w) A (pyNext (.ref I)) Q E s:=by
 obtain⟨oI,kr,F4,iQ⟩:=id hit;obtain⟨o,ho,hx,ay,hg⟩:=id hd;have hf:=hg.fits;unfold pyNext;refine AA (Bj (wpAny_callSpecial?_slot (name:=Str.ofString "__next__") hit.typeIs qy
  (A6 qy hit.typeIs ZL ?_ (Z1 _))))
 unfold Builtin.«set_iterator.__next__»;refine AA (AF ?_);refine AA (D7 kr iQ ?_);dsimp only;unfold setEntries;refine AA (AA (Cu ho ay hf (AF ?_)));rw[if_neg (by simp)];have hi:i<es.size:=by
  have:=(Fu.mp he).1
  rwa [Qr]at this
 simp only[Int.toNat_natCast];refine AA (Y2 (CZ hi) hd ?_);rw[he];dsimp only[Option.map_some];refine AA (B4 kr iQ (by simp) ?_);have h1:=A9 (Obj.mapFields (·.setIfInBounds 0 (rawInt ((Jv w t (i+1):Nat):Int)))) kr (CN (BM iQ _));have d1:=BM iQ (·.setIfInBounds 0 (rawInt ((Jv w t (i+1):Nat):Int)));refine AA (B4 h1 d1 (by simp) ?_);refine AF ⟨_,O,AF (hQ _ ⟨_,A9 _ h1 (CN (BM d1 _)),?_,?_⟩ ((BW ..).trans (BW ..)))⟩
 ·rw[DS,DS];exact F4
 ·rw[BM d1];simp[rawInt]
def Jw {Q:Option Value->Shared->Prop}(hh:A.handled=none)(hit:J5 s.heap I a (Jv w t es.size) es.size es.size ep)(hd:DAt (!j7 w) s.heap a es ep t)
  (hQ:∀h',Heap.ExtBut I s.heap h'->Q none {s with heap:=h'}):
  wpAny (model prog w) A (pyNext (.ref I)) Q E s:=by
 obtain⟨oI,kr,F4,iQ⟩:=id hit;obtain⟨o,ho,hx,ay,hg⟩:=id hd;have hf:=hg.fits;unfold pyNext;refine AA (Bj (wpAny_callSpecial?_slot (name:=Str.ofString "__next__") hit.typeIs qy
  (A6 qy hit.typeIs ZL ?_ (Z1 _))))
 unfold Builtin.«set_iterator.__next__»;refine AA (AF ?_);refine AA (D7 kr iQ ?_);dsimp only;unfold setEntries;refine AA (AA (Cu ho ay hf (AF ?_)));rw[if_neg (by simp)];simp only[Int.toNat_natCast];refine AA (Y2 (AI _) hd ?_);rw[Bg (by rw[Qr];exact AI _)];dsimp only[Option.map_none];refine AA (B4 kr iQ (by simp) ?_);show wpAny _ _ (newExc (.type "StopIteration") [] >>= _) _ _ _;refine AA ?_;simp only[newExc,newTuple];refine AA (A3 ?_ (by size_fits));refine AA (m:=firstArgMember _ _) (Bw (a:=Value.none) (by first|rfl|(simp only[firstArgMember];rfl)) ?_);refine A3 ?_ (by size_fits);simp only[raiseNew];refine AA (Et ?_);rw[show A.in1.handled=none from hh];refine AA (AF (FG ?_));refine AA (Bz (T := "StopIteration") (b:=true) ⟨_,AQ _ rfl,O⟩ EW ?_);exact AF (hQ _ (((BW ..).extBut.push _).push _))
end
open PySem PySem.Spec PyProof.Rows PySem.W
section
variable {prog:Program}{w:World}{A:Around}{E:TB}{s:Shared}{a:Addr}{es:Array (Int × Value)}{ep:Nat}{t:SetTable}
def zaq {Q:Bool->Shared->Prop}(hT:s.TypeIs (.ref a) "set") (h:Q false s):wpAny (model prog w) A (Builtin.List.listLengthHint (.ref a)) Q E s:=by
 unfold Builtin.List.listLengthHint;refine AA (Ct hT PySem.F.slot_set_len.lookup ?_);generalize hid:("set.__len__" : String)=id0
 wp_delta
 rw[show splitId id0=some ("set", "__len__") from by subst hid;ac_rfl];subst hid;refine AA (Bz (T := "set") (b:=true) hT (by rw[CW];kernel_rfl) ?_);refine BY (λaO=>absurd aO ∅) (λ_=>?_);refine BY (λ_=>?_) (λaO=>absurd ∅ aO);refine AA (CQ hT ?_);exact AF h
def DAt.keep {b:Bool}{h h':Heap}(x:DAt b h a es ep t)(k:∀o,h.get? a=some o->h'.get? a=some o):DAt b h' a es ep t:=let ⟨o,ho,r⟩:=x;⟨o,k o ho,r⟩
def J5.keep {h h':Heap}{I a:Addr}{sl i n ep:Nat}(x:J5 h I a sl i n ep)(k:∀o,h.get? I=some o->h'.get? I=some o):J5 h' I a sl i n ep:=let ⟨o,ho,r⟩:=x;⟨o,k o ho,r⟩
def Yh {Q:TB}{I a:Addr}{sl i n ep:Nat}(hit:J5 s.heap I a sl i n ep)(h:Q (.ref I) s):wpAny (model prog w) A (pyIter (.ref I)) Q E s:=by refine D5 hit.typeIs Z2 (A6 Z2 hit.typeIs Jt ?_ (J4 _));show wpAny _ _ (ret (.ref I)) _ _ s;exact AF ⟨_,O, "set_iterator",_,hit.typeIs,qy.lookup,h⟩
def xO (hh:A.handled=none)(I:Addr)(bT:a≠I):Walks prog w A I [I,a] [I] es.size (λi v=>∃e,(xL w a es ep)[i]?=some e/\v=e.2) (λi h=>J5 h I a (Jv w t i) i es.size ep/\DAt (!j7 w) h a es ep t) where
 sub:=λb hb=>by simp at hb;simp[hb]
 frame:=λ_ _ _ st hk=>⟨st.1.keep λo e=>hk I (by simp) o e,st.2.keep λo e=>hk a (by simp) o e⟩
 item:=λi s Q E hi st hQ=>by
  have iJ:i<(xL w a es ep).size:=by rw[Qr];exact hi
  have he:(xL w a es ep)[i]?=some ((xL w a es ep)[i]'iJ):=BU iJ;refine QQ st.1 st.2 he λh' aT b5=>?_;exact hQ _ h' s.toks ⟨_,he,O⟩ ⟨aT,st.2.keep λo e=>b5.extBut a o bT e⟩ λb o hb e=>b5.extBut b o (λh=>hb (by simp[h])) e
 done:=λs Q E st hQ=>Jw hh st.1 st.2 λh' cz=>hQ h' s.toks λb o hb e=>cz b o (λh=>hb (by simp[h])) e
 self:=λ_ _ _ _ st hQ=>Yh st.1 hQ
def kdl_setD:KdlSrc prog w "set" a a es.size (λi v=>∃e,(xL w a es ep)[i]?=some e/\v=e.2) (λh=>DAt (!j7 w) h a es ep t) where
 type:=λ_ hm=>let ⟨o,ho,hx,_⟩:=hm;⟨o,ho,hx.1⟩
 there:=λ_ hm=>let ⟨o,ho,_⟩:=hm;⟨AR ho,AR ho⟩
 keep:=λ_ _ hm hk=>hm.keep λo e=>hk a (.inl rfl) o e
 notList:=by decide
 notTuple:=by decide
 hint:=λ_ _ _ _ hm hq=>zaq (let ⟨o,ho,hx,_⟩:=hm;⟨o,ho,hx.1⟩) hq
 iter:=λ_ s hh hm=>⟨_,_,(λ_ _ hq=>QD hm hq),xO hh _ (let ⟨o,ho,_⟩:=hm;AZ (AR ho)),⟨⟨_,AQ _ rfl,rfl,rfl⟩,hm.keep λo e=>AE _ e⟩⟩
def xP {ns:List Int}{acc:TH}{W:Array (Int×Value)}(hi:ItemsOf (λi v=>∃e,W[i]?=some e/\v=e.2) acc W.size)(hv:∀e∈W.toList,∃tk,e.2=Value.int e.1 tk):IntsAre acc.toList (W.toList.map Prod.fst):=by
 have key:∀(us:TF) (es:List (Int×Value)),us.length=es.length->(∀(i:Nat) u,us[i]?=some u->∃e,es[i]?=some e/\u=e.2)->(∀e∈es,∃tk,e.2=Value.int e.1 tk)->IntsAre us (es.map Prod.fst):=by
  intro us
  induction us with
  |nil=>
   intro es hl _ _;cases es with
   |nil=>exact .nil
   |cons e es=>cases hl
  |cons u us ih=>
   intro es hl hi hv;cases es with
   |nil=>cases hl
   |cons e es=>
    obtain⟨e',h1,h2⟩:=hi 0 u rfl;obtain rfl:e=e':=by simpa using h1
    obtain⟨tk,h3⟩:=hv e (A5 ..);rw[h2,h3];exact .cons _ tk (ih es (by simpa using hl) (λi u hu=>hi (i+1) u (by simpa using hu)) λe he=>hv e (BD _ he))
 refine key _ _ ?_ (λi u hu=>?_) hv
 ·rw[Ad,Ad];exact hi.1
 ·obtain⟨e,h1,h2⟩:=hi.2 i u (by rw[<- AY];exact hu);exact⟨e,by rw[AY];exact h1,h2⟩
def Yi {ds:TC}{Q:TB}(hh:A.handled=none)(hd:DIs (!j7 w) s.heap a ds)
  (h:∀(h1 h':Heap) (tk:Nat) (out:TH) (e:Nat) (de:List Int),(∀b o,s.heap.get? b=some o->h1.get? b=some o)->(∀b o,h1.get? b=some o->h'.get? b=some o)->h'.get? h1.objs.size=some (seqObj "list" out e)->IntsAre out.toList de->de.Perm (ds.map λ(d:Nat)=>(d:Int))->de.Pairwise (· <= ·)->Q (.ref h1.objs.size) {s with heap:=h',toks:=tk}):
  wpAny (model prog w) A (call (.builtin "sorted") [.ref a]) Q E s:=by
 obtain⟨o,es,ep,t,ho,hx,ay,hg,hv⟩:=hd;have hs:=hg.dg.small;have h9:es.size<=sizeLine:=Eo (by unfold scanBound;lia);refine En kind_sorted plain_sorted entry_sorted (args_sorted1 _) ?_;unfold Builtin.«sorted»;refine AA (m:=checkCount "sorted" 1 1 _) (AF ?_);refine AA (kdu_collect (A:=A.in1) (kdl_setD (a:=a) (es:=es) (ep:=ep) (t:=t)) hh ⟨o,ho,hx,ay,hg.dg⟩ h9 λh' tk acc hk aj=>?_);have wp:=yn w a es ep;have gE:=aj;rw[<- Qr w a es ep]at gE;have hI:=xP (ns:=[]) gE λe he=>hv e (wp.mem_iff.mp he);have hl:acc.toList.length=es.size:=by rw[Ad];exact aj.1
 have hp:List.Perm ((xL w a es ep).toList.map Prod.fst) (ds.map λ(d:Nat)=>(d:Int)):=by
  have:=wp.map Prod.fst;have he:=hg.he;rw[show (λ(x:Int×Value)=>x.1)=Prod.fst from rfl]at he
  rwa [he]at this
 refine AA (Fe ?_ (by rw[hl];exact h9));have dP:(h'.push (seqObj "list" acc.toList.toArray 0)).get? h'.objs.size=some (seqObj "list" acc.toList.toArray 0):=AQ _ rfl;show wpAny _ _ _ _ _ {s with heap:=h'.push (seqObj "list" acc.toList.toArray 0),toks:=tk};refine AA (BL (A6 slot_list_sort ⟨_,dP,O⟩ entry_list_sort (list_sort_tree dP hI ⋯ λout de a1 a2 a3=>⟨_,O,?_⟩) (args_list_sort _)));obtain⟨e,he⟩:=sortedHeap_at (vs:=acc.toList) (out:=out) dP;exact AF ⟨_,O,h h' _ tk out e de hk (λb o q1=>by have hb:=AR q1;rw[sortedHeap_old (AZ hb) (by rw[DX];exact Bi hb)];exact AE _ q1) he a1 (a2.trans hp) a3⟩
end
def DSet (w:World)(a:Addr)(ds:TC):HO:=.ext λh=>DIs (!j7 w) h a ds
def nI (d:Nat):V:=.int (d:Int)
section
variable {X:Cx}
def xQ (K:Fv) (hc:X.calm=true) (hK:X.K=K:=by rfl):qU X (.type "set") (λxs H Q=>∃(p:Addr) (ys:TC),xs=[.ref p]/\SqL K H p (ys.map nI)/\(∀y∈ys,y<9)/\∀(a:Addr) (ds:TC),H a=none->ds.Nodup->(∀d,d∈ds↔d∈ys)->Q (.ref a) (upd H a (DSet X.w a ds))):=by
 subst hK;intro pins s σ H xs us Q I r h;obtain⟨p,ys,rfl,hq,hz,q⟩:=h;obtain⟨u,rfl,ru⟩:=vals1 r;cases ru;obtain⟨its,rv,pl,_⟩:=I.list hq;have hl:=rv.length;rw[AB]at hl;refine zam (I.ok.hd hc) pl.isList (ys:=ys) (λi v hv=>?_) (by simpa using hl.symm) hz λh' tk ds hS hm hk=>?_
 ·have gh:its[i]?=some v:=by simpa using hv
  have hi:=(AD.mp gh).1;have e1:(ys.map nI)[i]?=some (nI (ys.getD i 0)):=by rw[AG];simp[List.getD,show i<ys.length by lia]
  obtain⟨u,hu,t,e⟩:=rv.get e1;rw[gh]at hu;cases hu;exact⟨t,e⟩
 have fr:=I.hok.fresh (AI s.heap.objs.size);have nd:ds.Nodup:=by obtain⟨_,_,_,_,_,_,_,hg,_⟩:=hS;exact hg.nd
 refine⟨.ref s.heap.objs.size,_,I.laid (t':=tk) (o:=DSet X.w s.heap.objs.size ds) (λb o e=>hk b o (AR e) e) (AI _) ⟨hS,?_,λh1 h2 z k=>z.keep k⟩,O,q _ ds fr nd hm⟩;obtain⟨o,_,_,_,ho,_⟩:=hS;exact⟨o,ho⟩
def Wr (hc:X.calm=true):qU X (.builtin "sorted") (λxs H Q=>∃(a:Addr) (ds:TC),xs=[.ref a]/\H a=some (DSet X.w a ds)/\∀(l:Addr) (ms:TC),H l=none->ms.Perm ds->ms.Pairwise (· <= ·)->Q (.ref l) (upd H l (.lst (ms.map nI)))):=by
 intro pins s σ H xs us Q I r h;obtain⟨a,ds,rfl,ha,q⟩:=h;obtain⟨u,rfl,rx⟩:=vals1 r;cases rx;have hd:=(I.hok a _ ha).1;refine Yi (I.ok.hd hc) hd λh1 h' tk out e de k1 k2 he a1 a2 a3=>?_;have I1:Inv X pins σ H {s with heap:=h1,toks:=tk}:=I.un (TQ k1) (I.hok.kept k1);have sm:ds.length<=9:=by obtain⟨_,_,_,_,_,_,_,hg,_⟩:=hd;rw[<- hg.len];exact hg.dg.small
 have en:de=(de.map Int.toNat).map λ(d:Nat)=>(d:Int):=by
  rw[AW];have:de.map id=de.map ((λ(d:Nat)=>(d:Int)) ∘ Int.toNat):=Ab λz hz=>by obtain⟨d,_,e⟩:=AK.mp (a2.mem_iff.mp hz);rw[<- e];rfl
  rwa [List.map_id]at this
 have ep:List.Perm (de.map Int.toNat) ds:=by have:=a2.map Int.toNat;simpa [List.map_map,Function.comp_def]using this
 refine⟨.ref h1.objs.size,_,I1.laid (t':=tk) (o:=.lst ((de.map Int.toNat).map nI)) k2 (AI _) ?_,O,q _ (de.map Int.toNat) (I1.hok.fresh (AI _)) ep ?_⟩
 ·refine⟨by rw[AB,ep.length_eq];exact Ar sm (Eo (by unfold scanBound;lia)),out.toList,e,?_,?_⟩
  ·have:=Jl a1;rw[en,AW]at this;rw[AW]at *;exact this
  ·simpa [seqObj]using he
 ·rw[A7];exact a3.imp λh=>Int.toNat_le_toNat h
end
section
variable {X:Cx}
def rIndexL:V->List V->Hp->VK->Prop:=λx vs H Q=>∃p xs y j,x=.ref p/\vs=[y]/\H p=some (.lst xs)/\qV y=true/\xs.all qV=true/\(∃v,xs[j]?=some v/\eqV v y=true)/\(∀m v,m<j->xs[m]?=some v->eqV v y=false)/\Q (.int (j:Nat)) H
def zar:MtR X "list.index" rIndexL:=by
 intro pins s σ H x vs v us Q I rx rv h;obtain⟨p,xs,y,j,rfl,rfl,hq,fy,fx,⟨vj,hj,ej⟩,dQ,q⟩:=h;cases rx;obtain⟨u,rfl,ru⟩:=vals1 rv;obtain⟨z,its,n,r,hlen,e⟩:=I.lstM hq;have at_:∀m (hm:m<its.toArray.size),∃v,xs[m]?=some v/\eqU y its.toArray[m]=eqV v y:=λm hm=>by
  have eV:m<xs.length:=by rw[hlen];simpa using hm
  have k1:xs[m]?=some xs[m]:=AC eV;obtain⟨w,e1,r1⟩:=r.get k1;have w1:its.toArray[m]=w:=by
   have g1:m<its.length:=by simpa using hm
   rw[AC g1]at e1;simpa using AH e1
  refine⟨_,k1,?_⟩;rw[w1];exact YT r1 (BB.mp fx _ (AL k1))
 have hjx:=(AD.mp hj).1;have dS:j<its.toArray.size:=by simp;lia
 have mW:(j:Int)<2^63-1:=by
  have:(sizeLine:Nat)<=2^60:=by decide
  have h2:j<2^60:=⋯;lia
 refine Cg Fs ⟨_,e,O⟩ Fk (FZ _ _) (Fh p its.toArray n none #[] u (eqU y) j dS mW ?_ ?_) ⟨e,λw hw=>Qh ru fy r fx w (by simpa using hw),⟨.int _,H,I.tok _,⟨_,O⟩,q⟩⟩
 ·obtain⟨v,e1,e2⟩:=at_ j dS;rw[hj]at e1;cases e1;rw[e2];exact ej
 ·intro m hm gq;obtain⟨v,e1,e2⟩:=at_ m hm;rw[e2];exact dQ m v gq e1
def QE {α β:Type}{R:α->β->Prop}{as:List α}{bs:List β}(h:Paired R as bs):∀{i:Nat}{a:α},as[i]?=some a->∃b,bs[i]?=some b/\R a b:=by
 induction h with
 |nil=>intro i a e;simp at e
 |cons r _ ih=>
  intro i a e;cases i with
  |zero=>simp at e;subst e;exact⟨_,O,r⟩
  |succ i=>obtain⟨b,e1,e2⟩:=ih (i:=i) (by simpa using e);exact⟨b,by simpa using e1,e2⟩
def Lls (H:Hp):List (List V)->List V->Prop:=Paired λzs v=>∃a,v=.ref a/\H a=some (.lst zs)
def lsAt (H:Hp)(ys:List V):Value->Bool
 |.ref a=>match H a with
  |some (.lst zs)=>Qk zs ys
  |_=>false
 |_=>false
def Jx {xs:List V}(h:xs.all qV=true):Qk xs xs=true:=by
 unfold Qk;rw[Bv];refine⟨?_,by simp⟩;rw[BB];intro p hp;have h1:=C3 hp;have e:p.1=p.2:=by obtain⟨i,hi⟩:=DN hp;rw[Bb]at hi;rw[hi.1]at hi;exact AH hi.2
 rw[<- e];exact Q2 (BB.mp h _ h1.1)
def rIndexLL:V->List V->Hp->VK->Prop:=λx vs H Q=>∃(p b:Addr) (xs:List V) (ft:List (List V)) (ys:List V) (j:Nat),x=.ref p/\vs=[.ref b]/\H p=some (.lst xs)/\Lls H ft xs/\(∀zs∈ft,zs.all qV=true/\zs.length=ys.length)/\H b=some (.lst ys)/\ys.all qV=true/\(∃zs,ft[j]?=some zs/\Qk zs ys=true)/\(∀m zs,m<j->ft[m]?=some zs->Qk zs ys=false)/\Q (.int (j:Nat)) H
def xR {k:Nat}(hr:ZP k X.A):MtR X "list.index" rIndexLL:=by
 intro pins s σ H x vs v us Q I rx rv h;obtain⟨p,b,xs,ft,ys,j,rfl,rfl,hq,hL,hf,hb,fy,⟨zj,hj,ej⟩,dQ,q⟩:=h;cases rx;obtain⟨u,rfl,ru⟩:=vals1 rv;cases ru;obtain⟨z,its,n,r,hlen,e⟩:=I.lstM hq;obtain⟨zb,oM,nb,rb,hlb,eb⟩:=I.lstM hb;have KD:X.A.in1.in1.units<cLine:=by have:=hr.units;show X.A.units+1+1<cLine;lia
 have lP:=Ac hL;have at_:∀m (hm:m<its.toArray.size),∃a zs,its.toArray[m]=.ref a/\H a=some (.lst zs)/\ft[m]?=some zs:=λm hm=>by
  have eV:m<xs.length:=by rw[hlen];simpa using hm
  have k1:xs[m]?=some xs[m]:=AC eV;obtain⟨w,e1,r1⟩:=r.get k1;have w1:its.toArray[m]=w:=by
   have g1:m<its.length:=by simpa using hm
   rw[AC g1]at e1;simpa using AH e1
  have k2:ft[m]?=some (ft[m]'(⋯)):=AC ⋯;obtain⟨v',k3,a,ea,ha⟩:=QE hL k2;rw[k1]at k3;cases k3;rw[ea]at r1;cases r1;exact⟨a,_,w1,ha,k2⟩
 have te:∀m (hm:m<its.toArray.size) zs,ft[m]?=some zs->lsAt H ys its.toArray[m]=Qk zs ys:=λm hm zs hz=>by obtain⟨a,zs',e1,e2,e3⟩:=at_ m hm;rw[hz]at e3;cases e3;rw[e1];show (match H a with|some (.lst zs)=>Qk zs ys|_=>false)=_;rw[e2]
 have K7:=(AD.mp hj).1;have dS:j<its.toArray.size:=by simp;lia
 have mW:(j:Int)<2^63-1:=by
  have:(sizeLine:Nat)<=2^60:=by decide
  have h2:j<2^60:=⋯;lia
 refine Cg Fs ⟨_,e,O⟩ Fk (FZ _ _) (Fh p its.toArray n none #[] (.ref b) (lsAt H ys) j dS mW ?_ ?_) ⟨e,λw hw=>?_,⟨.int _,H,I.tok _,⟨_,O⟩,q⟩⟩
 ·rw[te j dS zj hj];exact ej
 ·intro m hm gq;obtain⟨a,zs,_,_,e3⟩:=at_ m hm;rw[te m hm zs e3];exact dQ m zs gq e3
 ·obtain⟨m,hm,rfl⟩:=Array.mem_iff_getElem.mp hw;obtain⟨a,zs,e1,e2,e3⟩:=at_ m hm;obtain⟨f1,f2⟩:=hf zs (AL e3);rw[te m hm zs e3,e1];by_cases aO:a=b
  ·subst aO;rw[hb]at e2;cases e2;rw[Jx fy];exact EM _
  ·obtain⟨za,lI,na,ra,oZ,ea⟩:=I.lstM e2;have bX:lI.toArray.size=oM.toArray.size:=by simp;lia
   have k:=SeqAt.RcAt.lists (A:=X.A.in1.in1) (s:=s) (PySem.IsL.isList ea) (PySem.IsL.isList eb) bX KD (Ql ra rb f1 fy);have e4:lI.toArray.size=zs.length:=by simp;lia
   rw[e4,Ze zs ys f2]at k;have e5:Qk zs ys=(zs.zip ys).all λp=>eqV p.1 p.2:=by unfold Qk;rw[f2];simp
   rw[e5];exact SeqAt.EqAt.of_in1 (EY aO k)
end
end L2
namespace L4
open PySem L2
namespace Sy
end Sy
def Ltr (x:Str):Prop:=x.length=1/\Small x
open PySem L2
def Yf.tk {H H':Hp}(s:Tk H H'){xs:List V}{ps:List (List Key×V)}(h:Yf H xs ps):Yf H' xs ps:=by
 unfold Yf at h ⊢
 induction h with
 |nil=>exact .nil
 |cons r _ ih=>obtain⟨b,kb,e,hb,hk⟩:=r;exact .cons ⟨b,kb,e,s _ _ hb,s _ _ hk⟩ ih
def Yf.snoc {H:Hp}{xs:List V}{ps:List (List Key×V)}{p:List Key×V}{b kb:Addr}(h:Yf H xs ps)(hb:H b=some (.tup [.ref kb,p.2]))(hk:H kb=some (.tup (p.1.map kV))):Yf H (xs++[.ref b]) (ps++[p]):=by
 unfold Yf at h ⊢
 induction h with
 |nil=>exact .cons ⟨b,kb,O,hb,hk⟩ .nil
 |cons r _ ih=>exact .cons r ih
theorem wJ:∀(ps acc:List (List Key×V)) (k:List Key),k ∉ ps.map Prod.fst->jk (putAllT acc ps) k=jk acc k
 | [],acc,k,_=>rfl
 |p::ps,acc,k,h=>by rw[Af,Al,not_or]at h;show jk (putAllT (Z8 acc p.1 p.2) ps) k=_;rw[wJ ps _ k h.2,Q3,if_neg h.1]
theorem zas:∀(ps acc:List (List Key×V)) (p:List Key×V),(ps.map Prod.fst).Nodup->p∈ps->jk (putAllT acc ps) p.1=some p.2
 | [],acc,p,_,h=>by cases h
 |z::ps,acc,p,hn,h=>by
  rw[Af,Bh]at hn;show jk (putAllT (Z8 acc z.1 z.2) ps) p.1=_
  rcases Al.mp h with rfl|h
  ·rw[wJ ps _ _ hn.1,Q3,if_pos rfl]
  ·exact zas ps _ p hn.2 h
end L4
namespace Tn
def fp {α:Type}[DecidableEq α] (xs:List α):TC:=xs.map λx=>xs.idxOf x
def fp_len {α:Type}[DecidableEq α] (xs:List α):(fp xs).length=xs.length:=AB _
def fp_at {α:Type}[DecidableEq α] {xs:List α}{i:Nat}{x:α}(h:xs[i]?=some x):at' (fp xs) i=xs.idxOf x:=by unfold at' fp;rw[AM,AG,h];rfl
def idx_get {α:Type}[DecidableEq α] {xs:List α}{x:α}(h:x∈xs):xs[xs.idxOf x]?=some x:=by have hl:=CA h;rw[AC hl,C0]
theorem idx_le {α:Type}[DecidableEq α]:∀{xs:List α}{x:α}{i:Nat},xs[i]?=some x->xs.idxOf x<=i
 | [],x,i,h=>by simp at h
 |y::xs,x,i,h=>by
  rw[List.idxOf_cons];by_cases e:y=x
  ·simp[e]
  ·have e':(y==x)=false:=by simpa using e
   rw[e'];cases i with
   |zero=>simp at h;exact absurd h e
   |succ i=>have:=idx_le (xs:=xs) (x:=x) (i:=i) (by simpa using h);simpa using this
structure Mk (n:Nat)(ms:TC):Prop where
 len:ms.length=n
 le:∀i,i<n->at' ms i<=i
 rep:∀i,i<n->at' ms (at' ms i)=at' ms i
def fp_mk {α:Type}[DecidableEq α] (xs:List α):Mk xs.length (fp xs):=by
 refine⟨fp_len xs,λi hi=>?_,λi hi=>?_⟩
 ·rw[fp_at (AC hi)];exact idx_le (AC hi)
 ·rw[fp_at (AC hi),fp_at (idx_get (Cy hi))]
def fp_eq {α:Type}[DecidableEq α] {xs:List α}{i j:Nat}{x y:α}(hi:xs[i]?=some x)(hj:xs[j]?=some y):at' (fp xs) i=at' (fp xs) j↔x=y:=by
 rw[fp_at hi,fp_at hj];constructor
 ·intro e;have h1:=idx_get (AL hi);have h2:=idx_get (AL hj);rw[e,h2]at h1;exact (AH h1).symm
 ·intro e;rw[e]
def at_ext {xs ys:TC}{n:Nat}(h1:xs.length=n)(h2:ys.length=n)(h:∀i,i<n->at' xs i=at' ys i):xs=ys:=by
 refine BJ λi=>?_;by_cases hi:i<n
 ·have:=h i hi;unfold at' at this;rw[AM,AM,AC ⋯,AC ⋯]at this;rw[AC ⋯,AC ⋯];exact BF some this
 ·rw[Aw ⋯,Aw ⋯]
def Mk.lt {n:Nat}{ms:TC}(h:Mk n ms){i:Nat}(hi:i<n):at' ms i<n:=Da (h.le i hi) hi
def mk_ext {n:Nat}{ms ks:TC}(h1:Mk n ms)(h2:Mk n ks)(h:∀i j,i<n->j<n->(at' ms i=at' ms j↔at' ks i=at' ks j)):ms=ks:=by
 refine at_ext h1.len h2.len λi hi=>Fi ?_ ?_
 ·have a:=h2.lt hi;have:=(h _ i a hi).mpr (h2.rep i hi);rw[<- this];exact h1.le _ a
 ·have a:=h1.lt hi;have:=(h _ i a hi).mp (h1.rep i hi);rw[<- this];exact h2.le _ a
def reps (n:Nat)(ms:TC):TC:=(List.range n).filter λi=>decide (at' ms i=i)
theorem count_back {p q:Nat->Bool}:∀{l:List Nat},(∀i∈l,p i=true->q i=true)->(l.filter q).length<=(l.filter p).length->∀i∈l,q i=true->p i=true
 | [],_,_,i,hi,_=>by cases hi
 |a::l,h,hc,i,hi,hq=>by
  have ha:=h a (A5 ..);have ht:=λi hi=>h i (BD a hi);have mono:(l.filter p).length<=(l.filter q).length:=by
   have:∀l:TC,(∀i∈l,p i=true->q i=true)->(l.filter p).length<=(l.filter q).length:=by
    intro l
    induction l with
    |nil=>intro _;exact AI _
    |cons b l ih=>intro hb;have h1:=ih λi hi=>hb i (BD _ hi);have h2:=hb b (A5 ..);rw[B6,B6];cases hpb:p b <;> cases hqb:q b <;> simp_all <;> lia
   exact this l ht
  rw[B6,B6]at hc;cases gj:p a with
  |true=>
   rw[gj,ha gj]at hc;simp at hc
   rcases Al.mp hi with rfl|hi
   ·exact gj
   ·exact count_back ht hc i hi hq
  |false=>
   rw[gj]at hc;cases hqa:q a with
   |true=>rw[hqa]at hc;simp at hc;lia
   |false=>
    rw[hqa]at hc;simp at hc
    rcases Al.mp hi with rfl|hi
    ·rw[hqa]at hq;cases hq
    ·exact count_back ht hc i hi hq
def reps_grow {n:Nat}{ms ks:TC}(h1:Mk n ms)(h2:Mk n ks)(h:∀i j,i<n->j<n->at' ks i=at' ks j->at' ms i=at' ms j)(ne:¬ks=ms):(reps n ms).length<(reps n ks).length:=by
 refine Classical.byContradiction λhc=>ne ?_;have up:∀i∈List.range n,decide (at' ms i=i)=true->decide (at' ks i=i)=true:=λi hi e=>by have hi:=AS.mp hi;have e:=A2 e;refine Am ?_;have a:=h2.lt hi;have h3:=h _ i a hi (h2.rep i hi);have h4:=h1.le _ a;have h5:=h2.le i hi;lia
 have dn:=count_back up (by unfold reps at hc;lia);refine mk_ext h2 h1 λi j hi hj=>⟨h i j hi hj,λe=>?_⟩
 have a:=h2.lt hi;have b:=h2.lt hj;have ra:=A2 (dn _ (AS.mpr a) (Am (h2.rep i hi)));have rb:=A2 (dn _ (AS.mpr b) (Am (h2.rep j hj)));have ea:=h _ i a hi (h2.rep i hi);have eb:=h _ j b hj (h2.rep j hj);lia
def sgn (fs:List (Nat->Nat))(ms:TC)(x:Nat):TC:=at' ms x::fs.map λf=>at' ms (f x)
def refn (n:Nat)(fs:List (Nat->Nat))(ms:TC):TC:=fp ((List.range n).map (sgn fs ms))
def refn_mk (n:Nat)(fs:List (Nat->Nat))(ms:TC):Mk n (refn n fs ms):=by
 have:=fp_mk ((List.range n).map (sgn fs ms))
 rwa [AB,AU]at this
def refn_eq {n:Nat}{fs:List (Nat->Nat)}{ms:TC}{i j:Nat}(hi:i<n)(hj:j<n):at' (refn n fs ms) i=at' (refn n fs ms) j↔at' ms i=at' ms j/\∀f∈fs,at' ms (f i)=at' ms (f j):=by
 unfold refn;rw[fp_eq (x:=sgn fs ms i) (y:=sgn fs ms j) (by rw[AG,A0 hi];rfl) (by rw[AG,A0 hj];rfl)];unfold sgn;rw[List.cons.injEq];constructor
 ·intro ⟨a,b⟩;refine⟨a,λf hf=>?_⟩;exact List.map_inj_left.mp b f hf
 ·intro ⟨a,b⟩;exact⟨a,Ab b⟩
def itr (n:Nat)(fs:List (Nat->Nat))(ms:List Nat):Nat->List Nat
 |0=>ms
 |k+1=>refn n fs (itr n fs ms k)
theorem itr_mk {n:Nat}{fs:List (Nat->Nat)}{ms:List Nat}(h:Mk n ms):∀k,Mk n (itr n fs ms k)
 |0=>h
 |k+1=>refn_mk ..
theorem itr_sub {n:Nat}{fs:List (Nat->Nat)}{ms:List Nat}:∀k i j,i<n->j<n->at' (itr n fs ms k) i=at' (itr n fs ms k) j->at' ms i=at' ms j
 |0,_,_,_,_,e=>e
 |k+1,i,j,hi,hj,e=>itr_sub k i j hi hj ((refn_eq hi hj).mp e).1
def reps_le (n:Nat)(ms:TC):(reps n ms).length<=n:=by
 have:=C8 (λi=>decide (at' ms i=i)) (List.range n)
 rwa [AU]at this
def itr_stop {n:Nat}{fs:List (Nat->Nat)}{ms:TC}(h:Mk n ms)(hn:1<=n):refn n fs (itr n fs ms n)=itr n fs ms n:=by
 have all:∀k,refn n fs (itr n fs ms k)=itr n fs ms k\/k+1<=(reps n (itr n fs ms k)).length:=by
  intro k
  induction k with
  |zero=>refine .inr ?_;have h0:0∈reps n ms:=CU.mpr ⟨AS.mpr ⋯,Am (by have:=h.le 0 ⋯;lia)⟩;exact Ej h0
  |succ k ih=>
   by_cases e:refn n fs (itr n fs ms k)=itr n fs ms k
   ·refine .inl ?_;show refn n fs (refn n fs (itr n fs ms k))=refn n fs (itr n fs ms k);rw[e,e]
   ·have:=reps_grow (itr_mk h k) (itr_mk h (k+1)) (λi j hi hj z=>((refn_eq hi hj).mp z).1) e
    rcases ih with ih|ih
    ·exact absurd ih e
    ·exact .inr ⋯
 rcases all n with h1|h1
 ·exact h1
 ·have:=reps_le n (itr n fs ms n);lia
structure Fix (n:Nat)(ws:TC)(fs:List (Nat->Nat))(M:TC):Prop where
 mks:Mk n M
 wish:∀i j,i<n->j<n->at' M i=at' M j->(i∈ws↔j∈ws)
 step:∀i j,i<n->j<n->at' M i=at' M j->∀f∈fs,at' M (f i)=at' M (f j)
def mk0 (n:Nat)(ws:TC):TC:=fp ((List.range n).map λi=>decide (i∈ws))
def mkN (n:Nat)(ws:TC)(fs:List (Nat->Nat)):TC:=itr n fs (mk0 n ws) n
def mk0_mk (n:Nat)(ws:TC):Mk n (mk0 n ws):=by
 have:=fp_mk ((List.range n).map λi=>decide (i∈ws))
 rwa [AB,AU]at this
def mkN_fix {n:Nat}(ws:TC)(fs:List (Nat->Nat))(hn:1<=n):Fix n ws fs (mkN n ws fs):=by
 refine⟨itr_mk (mk0_mk n ws) n,λi j hi hj e=>?_,λi j hi hj e f hf=>?_⟩
 ·have h1:=itr_sub n i j hi hj e;unfold mk0 at h1;rw[fp_eq (x:=decide (i∈ws)) (y:=decide (j∈ws)) (by rw[AG,A0 hi];rfl) (by rw[AG,A0 hj];rfl)]at h1;simpa using h1
 ·have h1:=itr_stop (fs:=fs) (mk0_mk n ws) hn;have e':at' (itr n fs (mk0 n ws) n) i=at' (itr n fs (mk0 n ws) n) j:=e;rw[<- h1]at e';exact ((refn_eq hi hj).mp e').2 f hf
def reps_mem {n:Nat}{M:TC}{r:Nat}:r∈reps n M↔r<n/\at' M r=r:=by unfold reps;rw[CU,AS,DZ]
def reps_ris (n:Nat)(M:TC):(reps n M).Pairwise (·<·):=B7 _ Bu
def Mk.mem_reps {n:Nat}{M:TC}(h:Mk n M){i:Nat}(hi:i<n):at' M i∈reps n M:=reps_mem.mpr ⟨h.lt hi,h.rep i hi⟩
def Mk.mem_iff {n:Nat}{M:TC}(h:Mk n M)(d:Nat):d∈M↔d∈reps n M:=by
 constructor
 ·intro hd;obtain⟨i,hi⟩:=As.mp hd;have bM:i<n:=by rw[<- h.len];exact (AD.mp hi).1
  have:at' M i=d:=by unfold at';rw[AM,hi];rfl
  rw[<- this];exact h.mem_reps bM
 ·intro hd;obtain⟨h1,h2⟩:=reps_mem.mp hd;have:M[d]?=some (at' M d):=by unfold at';rw[AM,AC (by rw[h.len];exact h1)];rfl
  rw[h2]at this;exact AL this
def ris_eq {xs ys:TC}(h1:xs.Pairwise (· <= ·))(n1:xs.Nodup)(h2:ys.Pairwise (·<·))(h:∀d,d∈xs↔d∈ys):xs=ys:=by have n2:ys.Nodup:=h2.imp λh=>AZ h;exact ((DK n1 n2).mpr h).eq_of_pairwise (λa b _ _ h k=>Fi h k) h1 (h2.imp CZ)
def partF (n:Nat)(M:TC)(r:Nat):TC:=(List.range n).filter λi=>decide (at' M i=r)
def part_mem {n:Nat}{M:TC}{r i:Nat}:i∈partF n M r↔i<n/\at' M i=r:=by unfold partF;rw[CU,AS,DZ]
def part_head {n:Nat}{M:TC}(h:Mk n M){r:Nat}(hr:r∈reps n M):(partF n M r)[0]?=some r:=by
 obtain⟨h1,h2⟩:=reps_mem.mp hr;have hm:r∈partF n M r:=part_mem.mpr ⟨h1,h2⟩;have ris:(partF n M r).Pairwise (·<·):=B7 _ Bu;cases e:partF n M r with
 |nil=>rw[e]at hm;cases hm
 |cons a l=>
  have ha:a∈partF n M r:=by rw[e];exact A5 ..
  obtain⟨a1,a2⟩:=part_mem.mp ha;have:=h.le a a1;rw[e]at hm ris
  rcases Al.mp hm with rfl|hm
  ·rfl
  ·have:=(Cz.mp ris).1 r hm;lia
end Tn
namespace L2
open PySem PySem.Spec PyProof.Rows
open PySem PySem.Spec PyProof.Rows PySem.W
def EAt (h:Heap)(d:Addr)(es:Array DictEntry)(ep:Nat):Prop:=∃o,h.get? d=some o/\o.ExactDict/\o.data=.dict es ep
def EAt.keep {h h':Heap}{d:Addr}{es:Array DictEntry}{ep:Nat}(x:EAt h d es ep)(k:∀o,h.get? d=some o->h'.get? d=some o):EAt h' d es ep:=let ⟨o,ho,r⟩:=x;⟨o,k o ho,r⟩
def EAt.ty {s:Shared}{d:Addr}{es:Array DictEntry}{ep:Nat}(x:EAt s.heap d es ep):s.TypeIs (.ref d) "dict":=let ⟨o,ho,hc,_⟩:=x;⟨o,ho,hc.1⟩
def EAt.lt {h:Heap}{d:Addr}{es:Array DictEntry}{ep:Nat}(x:EAt h d es ep):d<h.objs.size:=let ⟨_,ho,_⟩:=x;AR ho
section
variable {prog:Program}{w:World}{A:Around}{E:TB}{s:Shared}{d it:Addr}{es:Array DictEntry}{ep i:Nat}
def iter_e {Q:TB}(hd:(d==sysModules)=false)(hm:EAt s.heap d es ep)
  (hQ:Q (.ref s.heap.objs.size) {s with heap:=s.heap.push {cls:=.type "dict_keyiterator",data:=.fields #[.ref d,.int 0 0,.int es.size 0,.int ep 0]}}):
  wpAny (model prog w) A (pyIter (.ref d)) Q E s:=by
 have hT:=hm.ty;obtain⟨o,ho,hc,ay⟩:=id hm;refine D5 hT F.slot_dict_iter (A6 F.slot_dict_iter hT F.entry_dict_iter ?_ (F.args_dict_iter_1 _));unfold Builtin.«dict.__iter__»;refine AA ?_;unfold Builtin.Dict.dictSlotNone;refine AA (DP hT (AF ?_));show wpAny _ _ (Builtin.Dict.showsAll d >>= _) _ _ s;unfold Builtin.Dict.showsAll;rw[if_neg (by rw[hd];exact AV)];refine AA (AF (AA (Cv ho ay (AA (Do ho ay ?_)))));exact AA (A3 (AF ⟨_,O, "dict_keyiterator",_,⟨_,AQ _ rfl,O⟩,Cb.lookup,hQ⟩))
def next_e {Q:Option Value->Shared->Prop}(hit:s.heap.IsKeyIter it d i es.size ep)(hm:EAt s.heap d es ep)(hi:i<es.size)
  (hQ:∀h',h'.IsKeyIter it d (i+1) es.size ep->Heap.SameBut it s.heap h'->Q (some es[i].key) {s with heap:=h'}):
  wpAny (model prog w) A (pyNext (.ref it)) Q E s:=by
 obtain⟨o,ho,hc,hd⟩:=id hit;obtain⟨od,eT,bJ,dC⟩:=id hm;unfold pyNext;refine AA (Bj (wpAny_callSpecial?_slot (name:=Str.ofString "__next__") hit.typeIs Cb
  (A6 Cb hit.typeIs F.entry_dict_keyiterator_next ?_ (F.args_dict_keyiterator_next_1 _))))
 refine AA (AF (AA (AA ?_)))
 first|refine AA (DD hit.typeIs (AF ?_))|refine AA (Di hit.typeIs (AF ?_))
 refine AA (D7 ho hd ?_);simp only[show Builtin.Dict_items.ownsTuple "dict_keyiterator" = false by decide,Bool.false_eq_true,if_false];show wpAny _ _ (if (Value.ref d==Value.none)=true then _ else _) _ _ s;rw[if_neg (show ¬((Value.ref d==Value.none)=true) from AV)];refine AA (AF (AA (Cv eT dC ?_)));rw[if_neg (by simp)];refine AA (AF (AA (Do eT dC ?_)));rw[if_neg (by simp)];refine AF ?_;simp only[show ¬((i:Int)<0) from by lia,if_false,Int.toNat_natCast,Array.getElem?_eq_getElem hi];refine AA ?_
 first|refine AA (DD hit.typeIs (AF ?_))|refine AA (Di hit.typeIs (AF ?_))
 refine AA (wpAny_isOneOf_keyiter hit.typeIs ?_);show wpAny _ _ (setField (.ref it) 1 (rawInt ((i:Int)+1)) >>= _) _ _ s;refine AA (B4 ho hd (by simp) ?_);have aT:(s.heap.update it (Obj.mapFields (·.setIfInBounds 1 (rawInt ((i:Int)+1))))).IsKeyIter it d (i+1) es.size ep:=
  ⟨_,A9 _ ho (CN (BM hd _)),(DS ..).trans hc,by rw[BM hd];simp[rawInt]⟩
 refine AA (BL ?_);refine AA (wpAny_isOneOf_keyiter (s:={s with heap:=s.heap.update it (Obj.mapFields (·.setIfInBounds 1 (rawInt ((i:Int)+1))))}) aT.typeIs ?_);show wpAny _ _ (pure es[i].key) _ _ _;exact AF (AF ⟨_,O,AF (hQ _ aT (BW ..))⟩)
def last_e {Q:Option Value->Shared->Prop}(hh:A.handled=none)(hit:s.heap.IsKeyIter it d es.size es.size ep)(hm:EAt s.heap d es ep)
  (hQ:∀h',Heap.ExtBut it s.heap h'->Q none {s with heap:=h'}):wpAny (model prog w) A (pyNext (.ref it)) Q E s:=by
 obtain⟨o,ho,hc,hd⟩:=id hit;obtain⟨od,eT,bJ,dC⟩:=id hm;unfold pyNext;refine AA (Bj (wpAny_callSpecial?_slot (name:=Str.ofString "__next__") hit.typeIs Cb
  (A6 Cb hit.typeIs F.entry_dict_keyiterator_next ?_ (F.args_dict_keyiterator_next_1 _))))
 refine AA (AF (AA (AA ?_)))
 first|refine AA (DD hit.typeIs (AF ?_))|refine AA (Di hit.typeIs (AF ?_))
 refine AA (D7 ho hd ?_);simp only[show Builtin.Dict_items.ownsTuple "dict_keyiterator" = false by decide,Bool.false_eq_true,if_false];show wpAny _ _ (if (Value.ref d==Value.none)=true then _ else _) _ _ s;rw[if_neg (show ¬((Value.ref d==Value.none)=true) from AV)];refine AA (AF (AA (Cv eT dC ?_)));rw[if_neg (by simp)];refine AA (AF (AA (Do eT dC ?_)));rw[if_neg (by simp)];refine AF ?_;simp only[show ¬((es.size:Int)<0) from by lia,if_false,Int.toNat_natCast,Array.getElem?_eq_none (Nat.le_refl es.size)];refine AA ?_
 first|refine AA (DD hit.typeIs (AF ?_))|refine AA (Di hit.typeIs (AF ?_))
 show wpAny _ _ (setField (.ref it) 0 .none >>= _) _ _ s;refine AA (B4 ho hd (by simp) ?_);show wpAny _ _ (newExc (.type "StopIteration") [] >>= _) _ _ _;refine AA ?_;simp only[newExc,newTuple];refine AA (A3 ?_ (by size_fits));refine AA (m:=firstArgMember _ _) (Bw (a:=Value.none) (by first|rfl|(simp only[firstArgMember];rfl)) ?_);refine A3 ?_ (by size_fits);simp only[raiseNew];refine AA (Et ?_);rw[show A.in1.handled=none from hh];refine AA (AF (FG ?_));refine AA (Bz (T := "StopIteration") (b:=true) ⟨_,AQ _ rfl,O⟩ EW ?_);exact AF (hQ _ (((BW ..).extBut.push _).push _))
def walks_e (hh:A.handled=none)(I:Addr)(bT:d≠I):Walks prog w A I [I,d] [I] es.size (λi v=>∃e,es[i]?=some e/\v=e.key) (λi h=>h.IsKeyIter I d i es.size ep/\EAt h d es ep) where
 sub:=λb hb=>by simp at hb;simp[hb]
 frame:=λ_ _ _ st hk=>⟨st.1.at λo e=>hk I (by simp) o e,st.2.keep λo e=>hk d (by simp) o e⟩
 item:=λi s Q E hi st hQ=>next_e st.1 st.2 hi λh' aT b5=>hQ _ h' s.toks ⟨_,BU hi,rfl⟩ ⟨aT,st.2.keep λo e=>b5.extBut d o bT e⟩ λb o hb e=>b5.extBut b o (λh=>hb (by simp[h])) e
 done:=λs Q E st hQ=>last_e hh st.1 st.2 λh' cz=>hQ h' s.toks λb o hb e=>cz b o (λh=>hb (by simp[h])) e
 self:=λ_ _ _ _ st hQ=>wpAny_pyIter_keyiter st.1 hQ
def kdl_e (lo:(d==sysModules)=false):KdlSrc prog w "dict" d d es.size (λi v=>∃e,es[i]?=some e/\v=e.key) (λh=>EAt h d es ep) where
 type:=λ_ hm=>hm.ty
 there:=λ_ hm=>⟨hm.lt,hm.lt⟩
 keep:=λ_ _ hm hk=>hm.keep λo e=>hk d (.inl rfl) o e
 notList:=by decide
 notTuple:=by decide
 hint:=λ_ _ _ _ hm hq=>kdl_hint_dict hm.ty hq
 iter:=λ_ _ hh hm=>⟨_,_,(λ_ _ hq=>iter_e lo hm hq),walks_e hh _ (AZ hm.lt),⟨⟨_,AQ _ rfl,rfl,rfl⟩,hm.keep λo e=>AE _ e⟩⟩
end
section
variable {X:Cx}
def zat:qU X (.builtin "len") (λxs H Q=>∃a kvs,xs=[.ref a]/\H a=some (.dK kvs)/\Q (.int (kvs.length:Nat)) H):=by intro pins s σ H xs us Q I r h;obtain⟨a,kvs,rfl,ha,q⟩:=h;obtain⟨u,rfl,rx⟩:=vals1 r;cases rx;exact d_len I (.inl ha) λt s' I'=>⟨.int _,H,I',⟨_,O⟩,q⟩
end
end L2
namespace L4
open PySem L2
namespace Sy
end Sy
end L4
namespace L2
open PySem PySem.Spec PyProof.Rows
end L2
namespace L4
open PySem L2
end L4
namespace L2
open PySem PySem.Spec PyProof.Rows
end L2
namespace L4
open PySem L2
end L4
namespace L2
open PySem PySem.Spec PyProof.Rows
abbrev ItzM:=ItzK false true
section
variable {X:Cx}
abbrev iZipM:=iZipK false true
end
def no_keysT:typeLookup (.type "tuple") "keys" = pure none:=E5 ∅
def keys_byT {prog:Program}{w:World}{A:Around}{E:TB}{s:Shared}{a:Addr}{o:Obj}{xs:TH}{k:Nat}{t:Tok}{Q:TB}
  (hx:s.heap.get? a=some o) (hc:o.cls=.type "tuple") (ay:o.data=.seq xs k) (hd:o.dict=none) (hA:A.handled=none)
  (h:∀h' tk e,Heap.NewExcOf s.heap h' e "AttributeError" -> E (.ref e) {s with heap:=h',toks:=tk}):
  wpAny (model prog w) A (getAttrBy (.ref a) (.str "keys" t) false) Q E s:=by
 obtain⟨c,dct,dat,sl⟩:=o;simp only at hc ay hd;subst hc ay hd;obtain⟨hp,g,d,tk,os⟩:=s;have hT:∀tk',(⟨hp,g,d,tk',os⟩:Shared).TypeIs (.ref a) "tuple":=λ_=>⟨_,hx,rfl⟩
 have f1:=jW;have f3:=Dq.lookup;have f4:=Dq.bind (.ref a);have f5:=am_tuple_getattr_none;unfold getAttrBy
 repeat (any_goals (first|assumption|exact hT _|((with_reducible show wpAny _ _ (call (Value.builtin "tuple.__getattribute__") _ _) _ _ _);refine Cg Dq (hT _) am_entry_tuple_getattribute (PySem.F.args_tuple_getattribute_2 _ _) (meets_getattribute_miss_tuple a xs k sl "keys" _ no_keysT ∅ ∅) ⟨hx,hA,λh' tk' e dM=>?_⟩)|wp_step))
 obtain⟨t',u',he⟩:=dM.there;show wpAny _ _ (getattributeRaised _ _ _ _ _ _ _) _ _ _;unfold getattributeRaised
 repeat (any_goals (first|assumption|wp_step))
 exact h _ _ _ dM.of
def xS {prog:Program}{w:World}{A:Around}{E:TB}{s:Shared}{a:Addr}{o:Obj}{xs:TH}{k:Nat}{Q:Option Value->Shared->Prop}
  (hx:s.heap.get? a=some o) (hc:o.cls=.type "tuple") (ay:o.data=.seq xs k) (hd:o.dict=none) (hA:A.handled=none)
  (h:∀h' tk,(∀b ob,s.heap.get? b=some ob->h'.get? b=some ob)->Q none {s with heap:=h',toks:=tk}):
  wpAny (model prog w) A (getAttr? (.ref a) "keys") Q E s:=by
 unfold getAttr? getAttrBy?;refine AA (wpAny_mkText (AA (Bj (keys_byT (s:={s with toks:=s.toks+1}) hx hc ay hd hA λh' tk e ne=>?_))));obtain⟨kp,nw,ob,vs,he,h1,h2⟩:=ne;refine AA (Bz (T := "AttributeError") (b:=true) ⟨ob,he,h1⟩ jW ?_);exact AF (h h' tk kp)
section
variable {prog:Program}{w:World}{A:Around}{R:Result->Shared->Prop}
def zau (hh:A.handled=none)(D L it:Addr)(items:TH)(ug:D≠L)(iZ:D≠it)(ue:L≠it)(ps:List (Key×Value))(hlen:ps.length=items.size)(hsz:ps.length<=sizeLine):
  ∀(n i:Nat) (s:Shared) (acc:List (Key×Value)),n+i=items.size->acc.length<=i->s.heap.IsTupleIter it L i->s.heap.IsTuple L items->s.heap.DictOf (zS prog w) D acc ->
  (∀(j:Nat) (p:Key×Value) (v:Value),ps[j]?=some p->items[j]?=some v->Jo prog w s.heap v p.1 p.2) ->
  (∀h' tk,h'.DictOf (zS prog w) D ((ps.drop i).foldl (λ(acc:List (Key×Value)) (p:Key×Value)=>stored acc p.1 p.2) acc)->(∀b o,b≠D->b≠it->s.heap.get? b=some o->h'.get? b=some o)->R (.ok (.ret .none)) {s with heap:=h',toks:=tk}) ->
  codeAny (model prog w) A (.builtin "dict.update.loop" ⟨[.ref D,.ref it,rawInt i,.none],[]⟩) R s:=by
 intro n
 induction n with
 |zero=>intro i s acc hn aj hit hl hd hp hR;refine CJ jr ?_;rw[Bx qg _];show wpAny _ A.in1 (pyNext (.ref it) >>= _) _ _ s;refine AA (wpAny_pyNext_tuple_end (show A.in1.handled=none from hh) hit hl (by simp;lia) λh' eb=>?_);show wpAny _ _ (Builtin.Dict.addKeywords D [] >>= _) _ _ _;refine AA (AF (AF (hR h' s.toks ?_ λb o _ h2 e=>eb b o h2 e)));rw[El ⋯];exact hd.extBut eb iZ
 |succ n ih=>
  intro i s acc hn aj hit hl hd hp hR;have hi:i<items.size:=⋯;obtain⟨v,hv⟩:∃v,items[i]?=some v:=⟨items[i],by simp[hi]⟩
  obtain⟨p,iA⟩:∃p,ps[i]?=some p:=⟨ps[i]'(⋯),by rw[AC ⋯]⟩
  refine CJ jr ?_;rw[Bx qg _];show wpAny _ A.in1 (pyNext (.ref it) >>= _) _ _ s;refine AA (wpAny_pyNext_tuple_item hit hl hv λh1 iI cD=>?_);obtain⟨oi,mB,ef,_⟩:=hit;have gk:∀(j:Nat) (p:Key×Value) (v:Value),ps[j]?=some p->items[j]?=some v->Jo prog w h1 v p.1 p.2:=λj p v a b=>(hp j p v a b).keep (b0:=it) (λb o hb e=>cD.extBut b o hb e) λo e=>by rw[mB]at e;cases e;rw[ef];decide
  obtain⟨b,key,rfl,hb,hk⟩:=gk i p v iA hv;obtain⟨ot,e1,e2,nt,e3⟩:=id hb;have nh:=hd.extBut cD.extBut iZ;refine AA (BL (AA (wpAny_tryCatch ?_)));unfold Builtin.Dict.pairItems;refine AA (CQ (T := "tuple") ⟨ot,e1,e2⟩ ?_);rw[if_pos ∅];refine AA (B5 e1 e3 (AF ?_));show wpAny _ _ (holding [key,p.2] (dictSet D key p.2)) _ _ _;refine BL (wpAny_dictSet_pairs (hsz:=⋯) hk nh λh2 hd2 bZ=>?_);refine AF ⟨CS qg _,?_⟩;have fj:h1.IsTuple L items:=hl.extBut cD.extBut ue;have hle:(stored acc p.1 p.2).length<=i+1:=by
   unfold stored;split
   ·rw[AB];lia
   ·rw[AJ];simp;lia
  obtain⟨oD,_,_,sQ,tQ,_⟩:=nh;have:=ih (i+1) {s with heap:=h2,toks:=s.toks+1} (stored acc p.1 p.2) ⋯ hle (iI.extBut bZ.extBut (An iZ)) (fj.extBut bZ.extBut (An ug)) hd2 (λj p v a b=>(gk j p v a b).keep (b0:=D) (λb o hb e=>bZ.extBut b o hb e) λo e=>by rw[sQ]at e;cases e;rw[tQ.1];decide) λh' tk cV kB=>?_
  ·simpa using this
  ·refine hR h' tk ?_ λb o h1 h2 e=>kB b o h1 h2 (bZ.extBut b o h1 (cD.extBut b o h2 e));have e4:ps.drop i=p::ps.drop (i+1):=by rw[AD]at iA;obtain⟨h5,h6⟩:=iA;rw[<- h6];exact CC h5
   rw[e4,CV];exact cV
def QR {E:TB}{Q:TB}{s:Shared}{L:Addr}{o:Obj}{items:TH}{k:Nat}{ps:List (Key×Value)}(hh:A.handled=none) (hx:s.heap.get? L=some o) (hc:o.cls=.type "tuple") (ay:o.data=.seq items k) (tJ:o.dict=none)
  (hlen:ps.length=items.size) (hsz:ps.length<=sizeLine) (hp:∀(j:Nat) (p:Key×Value) (v:Value),ps[j]?=some p->items[j]?=some v->Jo prog w s.heap v p.1 p.2)
  (h:∀h' tk,h'.DictOf (zS prog w) s.heap.objs.size (ps.foldl (λ(acc:List (Key×Value)) (p:Key×Value)=>stored acc p.1 p.2) [])->(∀b o,s.heap.get? b=some o->h'.get? b=some o)->Q (.ref s.heap.objs.size) {s with heap:=h',toks:=tk}):
  wpAny (model prog w) A (call (.type "dict") [.ref L]) Q E s:=by
 refine FM (Q₁:=λobj ag=>obj=.ref s.heap.objs.size/\ag = {s with heap:=s.heap.push {cls:=.type "dict",data:=.dict #[]}}) PySem.F.kt_called_dict (Fm _) PySem.F.entry_dict_init (kt_code_dict_new _ ⟨O,O⟩) ?_;rintro obj ag ⟨rfl,rfl⟩;have cw:(s.heap.push {cls:=.type "dict",data:=.dict #[]}).DictOf (zS prog w) s.heap.objs.size []:=Heap.DictOf.new s.heap;have gf:=AE {cls:=.type "dict",data:=.dict #[]} hx;have nX:L<s.heap.objs.size:=AR hx;refine⟨cw.typeIs,PySem.F.args_dict_init_2 _ _,?_⟩;unfold Builtin.«dict.__init__»;refine AA ?_;unfold Builtin.Dict.selfAndRest;refine AA (DP cw.typeIs ?_);show wpAny _ _ (pure (s.heap.objs.size,[Value.ref L])) _ _ _;refine AF ?_;show wpAny _ _ (Builtin.Dict.updateFrom "dict.__init__" s.heap.objs.size (.ref L) [] .none) _ _ _;unfold Builtin.Dict.updateFrom;refine AA (CQ (T := "tuple") ⟨o,gf,hc⟩ ?_);rw[if_pos ∅];refine AA (xS gf hc ay tJ (show A.in1.in1.handled=none from hh) λh' tk kp=>?_);rw[if_pos (by rfl)];have iY:h'.IsTuple L items:=⟨o,kp _ _ gf,hc,k,ay⟩
 refine AA (Bm (AA (Fg iY ?_)));have i6:∃od,h'.get? s.heap.objs.size=some od:=⟨_,kp _ _ (AQ _ rfl)⟩
 have i5:s.heap.objs.size<h'.objs.size:=let ⟨_,e⟩:=i6;AR e;refine AF ⟨CS qg _,?_⟩;have rJ:(h'.push {cls:=.type "tuple_iterator",data:=.fields #[.ref L,.int 0 0]}).IsTupleIter h'.objs.size L 0:=⟨_,AQ _ rfl,rfl,rfl⟩
 have cV:(h'.push {cls:=.type "tuple_iterator",data:=.fields #[.ref L,.int 0 0]}).DictOf (zS prog w) s.heap.objs.size []:=by obtain⟨od,es,ep,e,r⟩:=cw;exact⟨od,es,ep,AE _ (kp _ _ e),r⟩
 refine zau (A:=A.in1) (show A.in1.handled=none from hh) s.heap.objs.size L h'.objs.size items (Be nX) (AZ i5) (AZ (Ee nX i5)) ps hlen hsz items.size 0 {s with heap:=h'.push {cls:=.type "tuple_iterator",data:=.fields #[.ref L,.int 0 0]},toks:=tk} [] rfl (AI _) rJ ⟨o,AE _ (kp _ _ gf),hc,k,ay⟩ cV (λj p v a b=>?_) λh2 gM hd2 fJ=>?_
 ·obtain⟨bb,key,e1,⟨ot,e2,r⟩,e3⟩:=hp j p v a b;exact⟨bb,key,e1,⟨ot,AE _ (kp _ _ (AE _ e2)),r⟩,e3⟩
 ·refine⟨O,h h2 gM ?_ λb ob e=>fJ b ob (AZ (AR e)) (AZ (Ee (AR e) i5)) (AE _ (kp _ _ (AE _ e)))⟩;rw[EK]at hd2;exact hd2
end
section
variable {X:Cx}
def tDictTP (K:Fv)(ta:TA):TE:=λσ H Q=>ta σ H λvs H1=>∃p xs ps,vs=[.ref p]/\H1 p=some (.tup xs)/\Prs H1 xs ps/\∀D,H1 D=none->Q (.ref D) (upd H1 D (.dK (putAll [] ps)))
def zav (K:Fv) {a:Expr}{ta:TA}{p pos:Pos}(hg:Gl X "dict") (hm:X.mg "dict" = none) (ha:PA X [a] ta) (hs:starEach [a] X.env=[(false,eval a X.env)]:=by rfl) (hc:X.calm=true:=by rfl) (hK:X.K=K:=by rfl):
  PE X (.Call (.Name "dict" p) [a] [] pos) (tDictTP K ta):=by
 subst hK;intro pins s σ H Q I h;refine Call_ (ZC I hg hm X1 (BN (thn (ha pos pins s σ H _ I h) λus s1 ⟨vs,H1,I1,r1,q1⟩=>?_) hs rfl));obtain⟨p1,xs,ps,e,hq,ko,q⟩:=q1;subst e;obtain⟨u1,rfl,r2⟩:=vals1 r1;cases r2;obtain⟨hz,its,rv,o,eo,c1,⟨n,c2⟩,c3⟩:=(show qm X.prog X.w H1 s1.heap p1 (.tup xs) from I1.hok p1 _ hq)
 obtain⟨rs,rk,gj⟩:=prs_at I1.hok ko rv;have l1:rs.length=its.toArray.size:=by have a1:=rk.length;have a2:=Ac ko;have a3:=rv.length;simp;lia
 have l2:ps.length<=sizeLine:=by have a2:=Ac ko;lia
 refine QR (ps:=rs) (I1.ok.hd hc) eo c1 c2 c3 l1 (by have:=rk.length;lia) (λj p v a b=>gj j p v a (by simpa using b)) λh' tk cV kp=>?_;have hb:(s1.heap.objs.size==sysModules)=false:=beq_eq_false_iff_ne.mpr (An (AZ I1.big));have hl:(putAll [] ps).length<=sizeLine:=by have:=Qn ps [];simp at this;lia
 exact⟨.ref s1.heap.objs.size,_,I1.laid (a:=s1.heap.objs.size) (o:=.dK (putAll [] ps)) (t':=tk) kp (AI _) ⟨hl,hb,_,put_all rk .nil,cV⟩,O,q _ (I1.hok.fresh (AI _))⟩
end
def kV_rel {P:Program}{w:World}{k:Key}{u:Value}(h:(zS P w).is k u=true):RelV (kV k) u:=by
 rcases ql (show yT k u=true from h) with ⟨i,t,rfl,rfl⟩|⟨x,t,rfl,rfl⟩
 ·exact⟨t,O⟩
 ·exact⟨t,O⟩
def Itk (d:Addr)(kvs:List (Key×V))(o:Obj):It:=
 ⟨λi H=>H d=some (.frz o (.dK kvs))/\i<kvs.length,λi H x H'=>H'=H/\∃p,kvs[i]?=some p/\x=kV p.1,λi H=>H d=some (.frz o (.dK kvs))/\kvs.length<=i⟩
def frz_at {P:Program}{w:World}{H:Hp}{h:Heap}{d:Addr}{kvs:List (Key×V)}{o:Obj}{pG:Array DictEntry}{ep:Nat}(ok:HOk P w H h)(e:H d=some (.frz o (.dK kvs)))(hd:o.data=.dict pG ep):∃vs,KV kvs vs/\h.DictAt (zS P w) d vs ep:=by
 obtain⟨e1,_,_,vs,rel,o',es,pH,e2,r1,r2,r3⟩:=(show qm P w H h d (.frz o (.dK kvs)) from ok d _ e)
 rw[e1]at e2;obtain rfl:=AH e2;have vb:=r2;rw[hd]at vb;injection vb with h1 h2
 subst h1 h2;exact⟨vs,rel,o,pG,e1,r1,hd,r3⟩
def zaw {P:Program}{w:World}{K:Fv}{tg:Expr}(d it:Addr)(kvs:List (Key×V))(o:Obj)(pG:Array DictEntry)(ep:Nat)(hd:o.data=.dict pG ep):
  Turn P w K tg (Itk d kvs o) [it] it (λi h=>h.IsKeyIter it d i kvs.length ep) where
 mem:=by simp
 obj:=λi h st b hb=>by
  have e:b=it:=by simpa using hb
  subst e;obtain⟨o,e,c,d⟩:=st;exact⟨o,e,λv z=>by rw[d]at z;cases z⟩
 keep:=λi h h' st k=>st.at λo e=>k it (by simp) o e
 item:=by
  intro X hP hw hK hc i pins s σ H E I hf st hg;subst hP hw hK;obtain⟨hq,hi⟩:=hg;obtain⟨vs,rel,da⟩:=frz_at I.hok hq hd;have hl:=rel.length;obtain⟨f0,f1,f2,f3,f4,f5⟩:=hf it (by simp);have hx:kvs[i]?=some kvs[i]:=AC hi;have hv:vs[i]?=some vs[i]:=AC ⋯;have K6:kvs[i].1=(vs[i]'(⋯)).1:=by have gw:=rel.keys;have h1:=BF (λl=>l[i]?) gw;simp only[List.getElem?_map,hx,hv]at h1;exact AH h1
  rw[hl]at st;refine wpAny_pyNext_dict_item st da hv λkey h' eW aQ sb=>?_;have I1:Inv X pins σ H {s with heap:=h'}:=I.turned (t':=s.toks) (λb o hb e=>(sb.2 b hb).trans e) f0 f1 f3 f4 f5;rw[<- hl]at aQ;obtain⟨o2,e,c,d2⟩:=id aQ;refine⟨key,O,Xp (s:={s with heap:=h'}) e c d2 ∅ ⟨kV kvs[i].1,H,I1,?_,⟨O,_,hx,O⟩,aQ,λb hb=>(hf b hb).1⟩⟩;rw[K6];exact kV_rel eW
 done:=by intro X hP hw hK hc i pins s σ H E I hf st hg;subst hP hw hK;obtain⟨hq,hi⟩:=hg;obtain⟨vs,rel,da⟩:=frz_at I.hok hq hd;have hl:=rel.length;obtain⟨f0,f1,f2,f3,f4,f5⟩:=hf it (by simp);rw[hl]at st;exact wpAny_pyNext_dict_end (I.ok.hd hc) st da (by simp;lia) λh' eb=>⟨O,I.turned (t':=s.toks) (λb o hb e=>eb b o hb e) f0 f1 f3 f4 f5⟩
 self:=λ_ _ _ _ _ st h=>wpAny_pyIter_keyiter st h
section
variable {X:Cx}
def iKeys (te:TE):TI:=λσ H R=>te σ H λx H1=>∃d kvs,x=.ref d/\H1 d=some (.dK kvs)/\∀o,R (Itk d kvs o) (upd H1 d (.frz o (.dK kvs)))
def pi_keys {tg l:Expr}{tl:TE}(hl:PE X l tl):PI X tg l (iKeys tl):=by
 intro pins s σ H R I h;refine thn (hl pins s σ H _ I h) λv s1 ⟨x,H1,I1,rx,d,kvs,ex,hd,q⟩=>?_;subst ex;obtain rfl:v=Value.ref d:=rx;obtain⟨z,hb,vs,rel,dd⟩:=dk_of I1.hok hd;obtain⟨o,es,ep,e1,r1,r2,r3⟩:=id dd;have da:s1.heap.DictAt (zS X.prog X.w) d vs ep:=⟨o,es,e1,r1,r2,r3⟩
 refine wpAny_pyIter_dict hb da ?_;have iH:=rel.length;have I2:Inv X pins σ (upd H1 d (.frz o (.dK kvs))) {s1 with heap:=s1.heap,toks:=s1.toks}:=I1.write (x:=d) (e:=d) (t':=s1.toks) (o:=.frz o (.dK kvs)) (by rw[hd];exact True.intro) (.inl rfl) (λb u _ e=>e) ⟨o,e1⟩ ⟨e1,z,hb,vs,rel,o,es,ep,e1,r1,r2,r3⟩;have I3:Inv X pins σ (upd H1 d (.frz o (.dK kvs))) {s1 with heap:=s1.heap.push {cls:=.type "dict_keyiterator",data:=.fields #[.ref d,.int 0 0,.int vs.length 0,.int ep 0]}}:=I2.kept (t':=s1.toks) λ_ _ e=>AE _ e;have hn:(upd H1 d (.frz o (.dK kvs))) s1.heap.objs.size=none:=I2.hok.fresh (AI _);refine⟨s1.heap.objs.size,[s1.heap.objs.size],_,Itk d kvs o,_,O,I3,zaw d s1.heap.objs.size kvs o es ep r2,⟨_,AQ _ rfl,O,by rw[iH];rfl⟩,λb hb=>?_,q o⟩;have eb:b=s1.heap.objs.size:=by simpa using hb
 subst eb;exact I1.fpOk (AI _) hn
def zax {d:Addr}{kvs:List (Key×V)}{ob:Obj}{t:Nat}{tt:TT}{te:TE}{az:St}{H1:Hp}{Q:VK}{D:Addr}(P:Nat->List V->Hp->Prop)(h0:P 0 [] (upd H1 D (.lst [])))(hl:∀i ys H,P i ys H->H D=some (.lst ys)->H d=some (.frz ob (.dK kvs)))
  (hs:∀i ys H p,kvs[i]?=some p->P i ys H->H D=some (.lst ys)->tt (az.set t (some (kV p.1))) H λb H4=>if b=true then te (az.set t (some (kV p.1))) H4 (Xi (W7 t az) P kvs.length D (az.set t (some (kV p.1))) i) else cNo (W7 t az) P kvs.length D (az.set t (some (kV p.1))) i H4)
  (hd:∀ys H,P kvs.length ys H->H D=some (.lst ys)->Q (.ref D) H):
  jd (Itk d kvs ob) (qN t) tt te az H1 Q D:=by
 have get:∀i,i<kvs.length->kvs[i]?=some (kvs.getD i (Sum.inl 0,.non)):=λi hi=>by simp[List.getD,hi]
 refine jU (xv:=λi=>kV (kvs.getD i (Sum.inl 0,.non)).1) (st:=λi=>az.set t (some (kV (kvs.getD i (Sum.inl 0,.non)).1))) (W7 t az) P XN h0 (λi ys H hi p hD=>⟨⟨hl i ys H p hD,hi⟩,λx H2 y=>⟨y.1,?_⟩⟩) (λys H p hD=>⟨hl _ ys H p hD,AI _⟩)
  (λi _ af H K _ r _ k=>by show K (af.set t (some _)) H;rw[r];exact k) (λi ys H hi p hD=>hs i ys H _ (get i hi) p hD) hd
 obtain⟨_,p,e1,e2⟩:=y;rw[get i hi]at e1;rw[e2,<- AH e1]
end
section
variable {prog:Program}{w:World}{A:Around}{E:TB}{s:Shared}
def zay {d:Addr}{kvs:List (Key×Value)}{Q:Bool->Shared->Prop}(hm:s.heap.DictOf (zS prog w) d kvs)(h:Q false s):wpAny (model prog w) A (Builtin.List.listLengthHint (.ref d)) Q E s:=by
 unfold Builtin.List.listLengthHint;refine AA (Ct (name:=Str.ofString "__len__") hm.typeIs PySem.F.slot_dict_len.lookup ?_);generalize hid:("dict.__len__" : String)=id0
 wp_delta
 rw[show splitId id0=some ("dict", "__len__") from by subst hid;ac_rfl];subst hid;refine AA (Bz (T := "dict") (b:=true) hm.typeIs isSubtype_dict_dict ?_);refine BY (λaO=>absurd aO ∅) (λ_=>?_);refine BY (λ_=>?_) (λhn=>absurd ∅ hn);refine AA (CQ hm.typeIs ?_);exact AF h
def Yj {R:Result->Shared->Prop}{d S:Addr}{kvs:List (Key×Value)}{ep:Nat}(hh:A.handled=none) (hb:(d==sysModules)=false) (hm:s.heap.DictAt (zS prog w) d kvs ep) (hz:kvs.length<=1000) (res:Value) (c₀:Nat) (hS:s.heap.get? S=some {cls:=.type "list",data:=.seq #[] c₀}) (t6:S≠d)
  (hR:∀h' tk aI c',(∀b o,b≠S->s.heap.get? b=some o->h'.get? b=some o)->h'.get? S=some {cls:=.type "list",dict:=none,data:=.seq aI c',slots:=#[]} ->
   ItemsOf (λi v=>∃k x,kvs[i]?=some (k,x)/\(zS prog w).is k v=true) aI kvs.length->R (.ok (.ret res)) {s with heap:=h',toks:=tk}):
  wpAny (model prog w) A.in1 (Builtin.List.listExtendWith (.ref S) (.ref d) res)
   (λfin s'=>match fin with|.done f=>R (.ok f) s'|.again c'=>c'.quiet=true/\codeAny (model prog w) A c' R s') (λe s'=>R (.error e) s') s:=by
 have pI:d<s.heap.objs.size:=hm.lt_size;have HJ:S<s.heap.objs.size:=AR hS;have tZ:S ∉ [s.heap.objs.size,d]:=λsR=>by
  rcases Al.mp sR with h|h
  ·exact absurd h (AZ HJ)
  ·exact t6 (AN.mp h)
 have W:=(Walks.dictKeys (prog:=prog) (w:=w) (knd:=zS prog w) (A:=A.in1) hh s.heap.objs.size d (AZ pI) kvs ep).toS;have key:∀(h:Heap) (c₁ tk:Nat),h.IsKeyIter s.heap.objs.size d 0 kvs.length ep->h.DictAt (zS prog w) d kvs ep->(∀b o,b≠S->s.heap.get? b=some o->h.get? b=some o) ->
   h.get? S=some {cls:=.type "list",data:=.seq #[] c₁}->codeAny (model prog w) A (.builtin "list.extend.loop" ⟨[.ref S,.ref s.heap.objs.size,res],[]⟩) R {s with heap:=h,toks:=tk}:=by
  intro h c₁ tk aT eV hk ff;refine codeAny_extend_loopS W (by rw[Bl];lia) S tZ res kvs.length 0 _ #[] c₁ rfl (BC _) ⟨aT,eV⟩ ff (ItemsOf.nil _) λs' aI c' hm fO aj=>?_;rw[Moved.eq_with hm];refine hR s'.heap s'.toks aI c' (λb o hb e=>hm.heap b o (λdB=>?_) (hk b o hb e)) fO aj
  rcases Al.mp dB with e'|dB
  ·exact hb e'
  ·exact absurd (AR e) (by rw[AN.mp dB];exact BA _)
 unfold Builtin.List.listExtendWith;refine AA (CQ (T := "dict") hm.dictOf.typeIs ?_);have h1:Builtin.List.listSameRef (.ref S) (.ref d)=false:=by simp[Builtin.List.listSameRef,t6]
 have h2:(Value.type "dict" == Value.type "list")=false:=by decide
 have h3:(Value.type "dict" == Value.type "tuple")=false:=by decide
 simp only[h1,h2,h3,Bool.or_false,Bool.false_eq_true,if_false];refine AA (wpAny_pyIter_dict hb hm ?_);have up:∀b o,s.heap.get? b=some o->(s.heap.push {cls:=.type "dict_keyiterator",data:=.fields #[.ref d,.int 0 0,.int kvs.length 0,.int ep 0]}).get? b=some o:=λb o e=>AE _ e;have hit:(s.heap.push {cls:=.type "dict_keyiterator",data:=.fields #[.ref d,.int 0 0,.int kvs.length 0,.int ep 0]}).IsKeyIter s.heap.objs.size d 0 kvs.length ep:=⟨_,AQ _ rfl,rfl,rfl⟩
 have fH:=hm.keep up;have t8:=up _ _ hS;refine AA (BL (zay fH.dictOf ?_));refine BY (λ_=>?_) (λ_=>AF ⟨CS DR _,key _ c₀ _ hit fH (λb o _ e=>up b o e) t8⟩);refine AA (Bm ?_);refine AA ?_;show wpAny _ _ (updateSeq S (·.push .none) >>= λ_=>updateSeq S (·.pop)) _ _ _;refine AA (Dm t8 rfl ?_);have bL:=A9 (Obj.mapSeq (·.push Value.none)) t8 rfl;refine Dm (hz:=by seq_fits) bL rfl ?_;have e8:=A9 (Obj.mapSeq (·.pop)) bL rfl;generalize s.heap.push { cls:=.type "dict_keyiterator",data:=.fields #[.ref d,.int 0 0,.int kvs.length 0,.int ep 0] } = h0 at *;have oth:∀b o,b≠S->h0.get? b=some o->((h0.update S (Obj.mapSeq (·.push Value.none))).update S (Obj.mapSeq (·.pop))).get? b=some o:=λb o hb e=>(BE _ _ (An hb)).trans ((BE _ _ (An hb)).trans e);refine AF ⟨CS DR _,key _ _ _ (hit.at λo e=>oth _ o (Be HJ) e) (fH.at' λo e=>oth d o (An t6) e) (λb o hb e=>oth b o hb (up b o e)) e8⟩
def J6 {Q:TB}{d:Addr}{kvs:List (Key×Value)}{ep:Nat}(hh:A.handled=none)(hb:(d==sysModules)=false)(hm:s.heap.DictAt (zS prog w) d kvs ep)(hz:kvs.length<=1000)
  (hQ:∀h' tk aI c',(∀b o,s.heap.get? b=some o->h'.get? b=some o) ->
   h'.get? s.heap.objs.size=some {cls:=.type "list",dict:=none,data:=.seq aI c',slots:=#[]}->ItemsOf (λi v=>∃k x,kvs[i]?=some (k,x)/\(zS prog w).is k v=true) aI kvs.length->Q (.ref s.heap.objs.size) {s with heap:=h',toks:=tk}):
  wpAny (model prog w) A (call (.type "list") [.ref d]) Q E s:=by
 refine FM (Q₁:=λobj ag=>obj=.ref s.heap.objs.size/\ag = {s with heap:=s.heap.push {cls:=.type "list",data:=.seq #[]}}) PySem.F.called_list (PySem.F.typeCall_list_1 _) PySem.F.entry_list_init
  (code_list_new _ ⟨rfl,rfl⟩) λobj ag eO=>?_
 obtain⟨rfl,rfl⟩:=eO;have hS:(s.heap.push {cls:=.type "list",data:=.seq #[]}).get? s.heap.objs.size=some {cls:=.type "list",data:=.seq #[]}:=AQ _ rfl;have pI:d<s.heap.objs.size:=hm.lt_size;have fH:=hm.keep (h':=s.heap.push {cls:=.type "list",data:=.seq #[]}) λb o e=>AE _ e;refine⟨⟨_,hS,O⟩,PySem.F.args_list_init_2 _ _,?_⟩;have rj:∀b o,s.heap.get? b=some o->(s.heap.push {cls:=.type "list",data:=.seq #[]}).get? b=some o:=λb o e=>AE _ e;have nb:∀b o,s.heap.get? b=some o->b≠s.heap.objs.size:=λb o e=>AZ (AR e);generalize s.heap.push { cls:=.type "list",data:=.seq #[] } = h0 at *;show wpAny _ _ (do let old <- Builtin.List.listItems (.ref s.heap.objs.size);Builtin.List.listUpdate (.ref s.heap.objs.size) (λ_=>#[]);letGo old.toList.reverse;Builtin.List.listExtendWith (.ref s.heap.objs.size) (.ref d) .none) _ _ _;refine AA ?_;unfold Builtin.List.listItems;refine AA (B5 hS rfl (AF ?_));show wpAny _ _ (updateSeq s.heap.objs.size (λ_=>#[]) >>= λ_=>letGo (#[]:TH).toList.reverse >>= λ_=>Builtin.List.listExtendWith (.ref s.heap.objs.size) (.ref d) .none) _ _ _;refine AA (Dm hS rfl ?_);have bL:=A9 (Obj.mapSeq (λ_=>(#[]:TH))) hS rfl;have oth:∀b o,b≠s.heap.objs.size->h0.get? b=some o->(h0.update s.heap.objs.size (Obj.mapSeq (λ_=>(#[]:TH)))).get? b=some o:=
  λb o hb e=>(BE _ _ (An hb)).trans e
 refine AA (FK ?_);refine Yj (A:=A.in1) hh hb (fH.at' λo e=>oth d o (AZ pI) e) hz .none _ bL (Be pI) λh' tk aI c' hk fO aj=>?_;exact⟨O,hQ h' tk aI c' (λb o e=>hk b o (nb b o e) (oth b o (nb b o e) (rj b o e))) fO aj⟩
end
theorem wK {α β:Type}{R:α->β->Prop}:∀{as:List α}{bs:List β},as.length=bs.length->(∀(i:Nat) (a:α) (b:β),as[i]?=some a->bs[i]?=some b->R a b)->Paired R as bs
 | [],[],_,_=>.nil
 |a::as,b::bs,h,k=>.cons (k 0 a b rfl rfl) (wK (by simpa using h) λi x y hx hy=>k (i+1) x y hx hy)
def zaz {P:Program}{w:World}{kvs:List (Key×V)}{vs:List (Key×Value)}(rel:KV kvs vs){acc:TH}(h:ItemsOf (λi v=>∃k x,vs[i]?=some (k,x)/\(zS P w).is k v=true) acc vs.length):qh (kvs.map λp=>kV p.1) acc.toList:=by have hl:=rel.length;refine wK (by have:=h.1;rw[AB];simp;lia) λi a b ha hb=>?_;rw[AG]at ha;obtain⟨p,hp,rfl⟩:=Aj.mp ha;rw[AY]at hb;obtain⟨k,x,hv,hk⟩:=h.2 i b hb;have h1:=BF (λl=>l[i]?) rel.keys;simp only[List.getElem?_map,hp,hv]at h1;have h2:p.1=k:=AH h1;rw[h2];exact kV_rel hk
section
variable {X:Cx}
def xT (hc:X.calm=true):qU X (.type "list") (λxs H Q=>∃a kvs,xs=[.ref a]/\H a=some (.dK kvs)/\kvs.length<=1000/\∀p,H p=none->Q (.ref p) (upd H p (.lst (kvs.map λp=>kV p.1)))):=by intro pins s σ H xs us Q I rv h;obtain⟨a,kvs,rfl,ha,hz,q⟩:=h;obtain⟨u1,rfl,r2⟩:=vals1 rv;cases r2;obtain⟨z,hb,vs,rel,dd⟩:=dk_of I.hok ha;obtain⟨ep,da⟩:=dd.dictAt;have hl:=rel.length;refine J6 (I.ok.hd hc) hb da ⋯ λh' tk acc c kp he aj=>?_;exact⟨.ref s.heap.objs.size,_,I.laid (a:=s.heap.objs.size) (o:=.lst (kvs.map λp=>kV p.1)) (t':=tk) kp (AI _) ⟨by rw[AB];exact z,acc.toList,c,zaz rel aj,by simpa using he⟩,O,q _ (I.hok.fresh (AI _))⟩
end
structure Ws (N':TJ)(scope:Scope)(N2:TJ)(ix:List (Option Nat))(bf:Scope):Prop where
 kind:bf.kind=.function
 nocell:∀y∈bf.names,y.2≠.cell
 locs:∀y∈bf.names,y.2=.local->bf.names.lookup y.1=some .local
 frees:∀z∈bf.names,z.2=.free->scope.names.lookup z.1=some .free
 nd:N2.Nodup
 len:ix.length=N2.length
 cap:(ix.zip N2).all (XL N' bf)=true
def Jy {X:Cx}{N':TJ}{scope:Scope}{C:Addr}{fp:List Addr}{s₀:Shared}{H₀:Hp}{N2:TJ}{ix:List (Option Nat)}{bf:Scope}(h:Ws N' scope N2 ix bf):
  zC (jc X N' scope C fp s₀ H₀).N (jc X N' scope C fp s₀ H₀).env.scope N2 ix bf:=by
 refine⟨h.kind,h.nocell,h.locs,λz hz hk=>?_,h.nd,h.len,h.cap⟩;show (relabel scope X.env).names.lookup z.1 = some .cell \/ (relabel scope X.env).names.lookup z.1 = some .free;rw [j6, h.frees z hz hk];simp only[Option.map_some,relK];split
 ·exact .inl rfl
 ·exact .inr rfl
open PySem PySem.Spec PyProof.Rows PySem.W
def ZB:List Nat->List Nat->Bool
 |x::xs,y::ys=>if x=y then ZB xs ys else decide (x<y)
 |_,_=>false
theorem Q6:∀(xs ys:List Nat),ZB xs ys=true->ZB ys xs=false
 | [],[],h=>by cases h
 | [],_::_,h=>by cases h
 |_::_,[],h=>by cases h
 |x::xs,y::ys,h=>by
  unfold ZB at h ⊢;by_cases e:x=y
  ·rw[if_pos e]at h;rw[if_pos e.symm];exact Q6 xs ys h
  ·rw[if_neg e,Cf]at h;rw[if_neg (λz=>e z.symm),EX];lia
theorem zaA:∀(xs ys:List Nat),xs.length=ys.length->xs≠ys->ZB xs ys=false->ZB ys xs=true
 | [],[],_,n,_=>absurd rfl n
 | [],_::_,h,_,_=>by cases h
 |_::_,[],h,_,_=>by cases h
 |x::xs,y::ys,hl,n,h=>by
  unfold ZB at h ⊢;by_cases e:x=y
  ·rw[if_pos e]at h;rw[if_pos e.symm];exact zaA xs ys (by simpa using hl) (λz=>n (by rw[e,z])) h
  ·rw[if_neg e,EX]at h;rw[if_neg (λz=>e z.symm),Cf];lia
theorem lex_tr:∀(xs ys zs:List Nat),ZB xs ys=true->ZB ys zs=true->ZB xs zs=true
 | [],[],_,h,_=>by cases h
 | [],_::_,_,h,_=>by cases h
 |_::_,[],_,h,_=>by cases h
 |_::_,_::_,[],_,h=>by cases h
 |x::xs,y::ys,z::zs,h1,h2=>by
  unfold ZB at h1 h2 ⊢;by_cases e:x=y
  ·rw[if_pos e]at h1;subst e;by_cases e2:x=z
   ·rw[if_pos e2]at h2 ⊢;exact lex_tr xs ys zs h1 h2
   ·rw[if_neg e2]at h2 ⊢;exact h2
  ·rw[if_neg e,Cf]at h1;by_cases e2:y=z
   ·subst e2;rw[if_neg e,Cf];exact h1
   ·rw[if_neg e2,Cf]at h2;rw[if_neg ⋯,Cf];lia
def Tl (h:Heap) (k:TC) (v:Value):Prop:=∃b o its n,v=.ref b/\h.get? b=some o/\o.cls=.type "tuple" /\ o.data=.seq its n/\Paired (λ(x:Nat) (u:Value)=>∃t,u=.int (x:Int) t) k its.toList
def Tl.keep {h h':Heap}{k:TC}{v:Value}(x:Tl h k v) (e:∀b o,h.get? b=some o->o.cls=.type "tuple" -> h'.get? b=some o):Tl h' k v:=by obtain⟨b,o,its,n,e1,e2,e3,e4,e5⟩:=x;exact⟨b,o,its,n,e1,e b o e2 e3,e3,e4,e5⟩
section
variable {prog:Program}{w:World}{A:Around}{E:TB}{s:Shared}
def lex_run {Q:Bool->Shared->Prop}:∀{k l:TC}{xs ys:TF}(i:Nat),Paired (λ(x:Nat) (u:Value)=>∃t,u=.int (x:Int) t) k xs->Paired (λ(x:Nat) (u:Value)=>∃t,u=.int (x:Int) t) l ys->k.length=l.length->Q (ZB k l) s->KatLex prog w A true false Q (xs.zip ys) i s:=by
 intro k
 induction k with
 |nil=>
  intro l xs ys i h1 h2 hl q;cases h1;cases l with
  |nil=>exact kat_nil q
  |cons y l=>cases hl
 |cons x k ih=>
  intro l xs ys i h1 h2 hl q;cases l with
  |nil=>cases hl
  |cons y l=>
   cases h1 with
   |cons r1 h1=>
    cases h2 with
    |cons r2 h2=>
     obtain⟨t,rfl⟩:=r1;obtain⟨u,rfl⟩:=r2;show KatLex prog w A true false Q ((_,_)::List.zip _ _) i s;refine kat_cons (wpAny_eqBool_int ?_);unfold ZB at q;by_cases e:x=y
     ·subst e;rw[if_pos rfl]at q;rw[show ((x:Int)==(x:Int))=true by simp];exact kat_yes (ih (i+1) h1 h2 (by simpa using hl) q)
     ·rw[if_neg e]at q;rw[show ((x:Int)==(y:Int))=false by simp;lia];have ed:decide ((x:Int)<(y:Int))=decide (x<y):=by simp
      refine kat_no ?_;cases hb:(true&&i==0) with
      |true=>refine oneLt_int ?_;rw[ed];exact q
      |false=>refine kat_one _ _ (lt_int ?_);rw[ed];exact q
def tl_lt {k l:TC}{v u:Value}{Q:Bool->Shared->Prop}(hv:Tl s.heap k v)(hu:Tl s.heap l u)(hl:k.length=l.length)(q:Q (ZB k l) s):wpAny (model prog w) A (keyLt' (tuples' true) v u) Q E s:=by obtain⟨b,o,its,n,rfl,e2,e3,e4,e5⟩:=hv;obtain⟨b',o',its',n',rfl,f2,f3,f4,f5⟩:=hu;have l1:k.length=its.size:=(Ac e5).trans Ad;have l2:l.length=its'.size:=(Ac f5).trans Ad;refine kat_lt e2 e4 f2 f4 ?_;rw[show decide (its.size<its'.size)=false from Ag ⋯];exact lex_run 0 e5 f5 hl q
end
open PySem PySem.Spec PyProof.Rows PySem.W L4
abbrev xU (H:Hp):List Nat->V->Prop:=λcol v=>∃t,v=.ref t/\H t=some (.tup (col.map nV))
def col_tl {P:Program}{w:World}{H:Hp}{h:Heap}(ok:HOk P w H h){col:TC}{b:Addr}(e:H b=some (.tup (col.map nV))):Tl h col (.ref b):=by
 obtain⟨hz,its,rv,o,g1,g2,⟨n,g3⟩,_⟩:=(show qm P w H h b (.tup (col.map nV)) from ok _ _ e)
 refine⟨b,o,_,n,O,g1,g2,g3,?_⟩
 clear g1 g2 g3 e hz
 rw[List.toList_toArray];generalize hc:col.map nV=xs at rv
 induction rv generalizing col with
 |nil=>
  cases col with
  |nil=>exact .nil
  |cons x col=>cases hc
 |cons r _ ih=>
  cases col with
  |nil=>cases hc
  |cons x col=>obtain⟨e1,e2⟩:=Cr hc;subst e1;exact .cons r (ih e2)
def Zl {α β:Type}{F:α->β->Prop}{as:List α}{bs:List β}(h:Paired F as bs)(a0:α)(b0:β){ids:TC}(hi:∀i∈ids,i<bs.length):Paired F (ids.map λi=>as.getD i a0) (ids.map λi=>bs.getD i b0):=by
 induction ids with
 |nil=>exact .nil
 |cons i ids ih=>have hl:=Ac h;have tf:=hi i A5;refine .cons ?_ (ih λj hj=>hi j (BD _ hj));show F (as.getD i a0) (bs.getD i b0);rw[AM,AM,AC tf,AC (show i<as.length by lia)];exact TV h i _ _ (AC _) (AC _)
def wL {α:Type}(as:List α)(a0:α){ids:TC}(h:ids.Perm (List.range as.length)):(ids.map λi=>as.getD i a0).Perm as:=by
 refine (h.map _).trans ?_;have:(List.range as.length).map (λi=>as.getD i a0)=as:=by
  refine BJ λi=>?_;rw[AG];by_cases hi:i<as.length
  ·rw[A0 hi,AC hi];show some (as.getD i a0)=_;rw[AM,AC hi];rfl
  ·rw[Aw (by rw[AU];lia),Aw ⋯];rfl
 rw[this]
section
variable {X:Cx}
def Jz (col:TC):List Key:=col.map λ(n:Nat)=>(Sum.inl (n:Int):Key)
def Y3 (col:TC):(Jz col).map kV=col.map nV:=by unfold Jz;rw[AW];rfl
def zaB {P:Program}{w:World}{H:Hp}{kvs:List (List Key×V)}:∀{ks:List TC}{kvs:List (List Key×V)}{xs:List (List Key×Addr×Value)},kvs.map Prod.fst=ks.map Jz->Paired (λ(p:List Key×V) (q:List Key×Addr×Value)=>p.1=q.1/\H q.2.1=some (.tup (p.1.map kV))/\RelV p.2 q.2.2) kvs xs ->
  Paired (xU H) ks (xs.map λx=>V.ref x.2.1):=by
 intro ks
 induction ks with
 |nil=>
  intro kvs xs e rp;cases kvs with
  |nil=>cases rp;exact .nil
  |cons p kvs=>cases e
 |cons k ks ih=>
  intro kvs xs e rp;cases kvs with
  |nil=>cases e
  |cons p kvs=>
   cases rp with
   |cons hq t=>obtain⟨e1,e2⟩:=Cr e;refine .cons ⟨_,O,?_⟩ (ih e2 t);rw[hq.2.1,e1,Y3]
theorem Yk (P:Program)(w:World):∀(xs:List (List Key×Addr×Value)),(xs.map (entryOfKey (tupleKind (zS P w)))).map (·.key)=xs.map λx=>Value.ref x.2.1
 | []=>rfl
 |x::xs=>by rw[Af,Af,Af,Yk P w xs];rfl
def Yl {d:Addr}(lo:(d==sysModules)=false):Meets (Builtin.«dict.__len__» ⟨[.ref d],[]⟩) (λ_ R s=>∃es ep,EAt s.heap d es ep/\R (.ok (.ret (.int es.size s.toks))) {s with toks:=s.toks+1}):=by intro prog w A R s ⟨es,ep,hm,hR⟩;have hT:=hm.ty;obtain⟨o,ho,hc,ay⟩:=id hm;unfold Builtin.«dict.__len__»;refine AA ?_;unfold Builtin.Dict.dictSlotNone;refine AA (DP hT (AF ?_));show wpAny _ _ (pure d >>= _) _ _ s;refine AA (AF ?_);unfold dictSize;refine AA (AA (Cv ho ay (AF ?_)));refine AA (wpAny_pendingCount_other lo ?_);unfold retInt;refine AA (wpAny_mkInt ?_);exact AF (by simpa using hR)
def wM:qU X (.builtin "len") (λxs H Q=>∃a kvs,xs=[.ref a]/\H a=some (.dT kvs)/\Q (.int (kvs.length:Nat)) H):=by
 intro pins s σ H xs us Q I r h;obtain⟨a,kvs,rfl,ha,q⟩:=h;obtain⟨u,rfl,rx⟩:=vals1 r;cases rx;obtain⟨z,lo,xs,rp,o,es,ep,h1,h2,h3,h4,h5⟩:=(show qm X.prog X.w H s.heap a (.dT kvs) from I.hok a _ ha)
 have hT:s.TypeIs (.ref a) "dict":=⟨o,h1,h2.1⟩
 have eC:es.size=kvs.length:=by rw[<- Ad,h4,AB,Ac rp]
 rw[Bl]at z;refine call_len_meets (n:=es.size) hT F.slot_dict_len F.entry_dict_len (F.args_dict_len_1 _) (Yl lo) ⋯ ⋯ (λQ' hq=>⟨es,ep,⟨o,h1,h2,h3⟩,hq⟩) ?_;refine⟨.int _,H,I.tok _,⟨_,O⟩,?_⟩;rw[eC];exact q
def JA (hc:X.calm=true):qU X (.type "list") (λxs H Q=>∃a kvs,∃ks:List TC,xs=[.ref a]/\H a=some (.dT kvs)/\kvs.map Prod.fst=ks.map Jz/\∀p bs,H p=none->Paired (xU H) ks bs->Q (.ref p) (upd H p (.lst bs))):=by
 intro pins s σ H xs us Q I rv h;obtain⟨a,kvs,ks,rfl,ha,ek,q⟩:=h;obtain⟨u1,rfl,r2⟩:=vals1 rv;cases r2;obtain⟨z,lo,xs,rp,o,es,ep,h1,h2,h3,h4,h5⟩:=(show qm X.prog X.w H s.heap a (.dT kvs) from I.hok a _ ha)
 have hp:=zaB (P:=X.prog) (w:=X.w) (kvs:=kvs) ek rp;have eC:es.size=xs.length:=by rw[<- Ad,h4,AB]
 have xl:=Ac rp;refine kdl_call (kdl_e (d:=a) (es:=es) (ep:=ep) lo) (I.ok.hd hc) ⟨o,h1,h2,h3⟩ ⋯ λh' tk acc c kp he aj=>?_;have ev:acc.toList=xs.map λx=>Value.ref x.2.1:=by
  rw[<- Yk X.prog X.w,<- h4];refine BJ λi=>?_;rw[AG,AY,AY];by_cases hi:i<es.size
  ·have g:acc[i]?=some (acc[i]'(by rw[aj.1];exact hi)):=BU _;obtain⟨e,he,ee⟩:=aj.2 i _ g;rw[g,he,ee];rfl
  ·rw[Bg (by rw[aj.1];lia),Bg ⋯];rfl
 refine⟨.ref s.heap.objs.size,_,I.laid (a:=s.heap.objs.size) (o:=.lst (xs.map λx=>V.ref x.2.1)) (t':=tk) kp (AI _) ⟨by rw[AB];lia,acc.toList,c,?_,by simpa using he⟩,O,q _ _ (I.hok.fresh (AI _)) hp⟩;rw[ev]
 clear hp h4 h5 rp he ev eC xl
 induction xs with
 |nil=>exact .nil
 |cons x xs ih=>exact .cons rfl ih
end
section
variable {prog:Program}{w:World}{A:Around}{E:TB}{s:Shared}{d it:Addr}{es:Array DictEntry}{ep i:Nat}
def iter_v {r:Addr}{Q:TB}(hv:s.heap.IsValuesView r d)(hm:EAt s.heap d es ep)
  (hQ:Q (.ref s.heap.objs.size) {s with heap:=s.heap.push {cls:=.type "dict_valueiterator",data:=.fields #[.ref d,.int 0 0,.int es.size 0,.int ep 0]}}):
  wpAny (model prog w) A (pyIter (.ref r)) Q E s:=by
 obtain⟨ov,vT,ni,Lj⟩:=id hv;obtain⟨o,ho,hc,ay⟩:=id hm;have hT:s.TypeIs (.ref r) "dict_values":=⟨ov,vT,ni⟩
 refine D5 hT F.slot_dict_values_iter (A6 F.slot_dict_values_iter hT F.entry_dict_values_iter ?_ (F.args_dict_values_iter_1 _));unfold Builtin.«dict_values.__iter__»;refine AA (AF ?_);unfold Builtin.Dict_items.dictOf;refine AA (AA (BO vT Lj (by rfl) ?_));refine AF ?_;unfold Builtin.Dict_items.newIterator;refine AA (AA (Cv ho ay (AA (Do ho ay ?_))));dsimp only;rw[if_neg ∅,if_neg ∅];exact A3 (AF ⟨_,O, "dict_valueiterator",_,⟨_,AQ _ rfl,O⟩,CO.lookup,hQ⟩)
def next_v {Q:Option Value->Shared->Prop}(hit:s.heap.IsValIter it d i es.size ep)(hm:EAt s.heap d es ep)(hi:i<es.size)
  (hQ:∀h',h'.IsValIter it d (i+1) es.size ep->Heap.SameBut it s.heap h'->Q (some es[i].val) {s with heap:=h'}):
  wpAny (model prog w) A (pyNext (.ref it)) Q E s:=by
 obtain⟨o,ho,hc,hd⟩:=id hit;obtain⟨od,eT,bJ,dC⟩:=id hm;unfold pyNext;refine AA (Bj (wpAny_callSpecial?_slot (name:=Str.ofString "__next__") hit.typeIs CO
  (A6 CO hit.typeIs F.entry_dict_valueiterator_next ?_ (Ft _))))
 refine AA (AF (AA (AA ?_)))
 first|refine AA (DC hit.typeIs (AF ?_))|refine AA (Dh hit.typeIs (AF ?_))
 refine AA (D7 ho hd ?_);simp only[show Builtin.Dict_items.ownsTuple "dict_valueiterator" = false by decide,Bool.false_eq_true,if_false];show wpAny _ _ (if (Value.ref d==Value.none)=true then _ else _) _ _ s;rw[if_neg (show ¬((Value.ref d==Value.none)=true) from AV)];refine AA (AF (AA (Cv eT dC ?_)));rw[if_neg (by simp)];refine AA (AF (AA (Do eT dC ?_)));rw[if_neg (by simp)];refine AF ?_;simp only[show ¬((i:Int)<0) from by lia,if_false,Int.toNat_natCast,Array.getElem?_eq_getElem hi];refine AA ?_
 first|refine AA (DC hit.typeIs (AF ?_))|refine AA (Dh hit.typeIs (AF ?_))
 refine AA (FA hit.typeIs ?_);show wpAny _ _ (setField (.ref it) 1 (rawInt ((i:Int)+1)) >>= _) _ _ s;refine AA (B4 ho hd (by simp) ?_);have aT:(s.heap.update it (Obj.mapFields (·.setIfInBounds 1 (rawInt ((i:Int)+1))))).IsValIter it d (i+1) es.size ep:=
  ⟨_,A9 _ ho (CN (BM hd _)),(DS ..).trans hc,by rw[BM hd];simp[rawInt]⟩
 refine AA (BL ?_);refine AA (FA (s:={s with heap:=s.heap.update it (Obj.mapFields (·.setIfInBounds 1 (rawInt ((i:Int)+1))))}) aT.typeIs ?_);rw[if_neg ∅];refine AA (FA (s:={s with heap:=s.heap.update it (Obj.mapFields (·.setIfInBounds 1 (rawInt ((i:Int)+1))))}) aT.typeIs ?_);rw[if_pos ∅];exact AF (AF ⟨_,O,AF (hQ _ aT (BW ..))⟩)
def last_v {Q:Option Value->Shared->Prop}(hh:A.handled=none)(hit:s.heap.IsValIter it d es.size es.size ep)(hm:EAt s.heap d es ep)
  (hQ:∀h',Heap.ExtBut it s.heap h'->Q none {s with heap:=h'}):wpAny (model prog w) A (pyNext (.ref it)) Q E s:=by
 obtain⟨o,ho,hc,hd⟩:=id hit;obtain⟨od,eT,bJ,dC⟩:=id hm;unfold pyNext;refine AA (Bj (wpAny_callSpecial?_slot (name:=Str.ofString "__next__") hit.typeIs CO
  (A6 CO hit.typeIs F.entry_dict_valueiterator_next ?_ (Ft _))))
 refine AA (AF (AA (AA ?_)))
 first|refine AA (DC hit.typeIs (AF ?_))|refine AA (Dh hit.typeIs (AF ?_))
 refine AA (D7 ho hd ?_);simp only[show Builtin.Dict_items.ownsTuple "dict_valueiterator" = false by decide,Bool.false_eq_true,if_false];show wpAny _ _ (if (Value.ref d==Value.none)=true then _ else _) _ _ s;rw[if_neg (show ¬((Value.ref d==Value.none)=true) from AV)];refine AA (AF (AA (Cv eT dC ?_)));rw[if_neg (by simp)];refine AA (AF (AA (Do eT dC ?_)));rw[if_neg (by simp)];refine AF ?_;simp only[show ¬((es.size:Int)<0) from by lia,if_false,Int.toNat_natCast,Array.getElem?_eq_none (Nat.le_refl es.size)];refine AA ?_
 first|refine AA (DC hit.typeIs (AF ?_))|refine AA (Dh hit.typeIs (AF ?_))
 show wpAny _ _ (setField (.ref it) 0 .none >>= _) _ _ s;refine AA (B4 ho hd (by simp) ?_);show wpAny _ _ (newExc (.type "StopIteration") [] >>= _) _ _ _;refine AA ?_;simp only[newExc,newTuple];refine AA (A3 ?_ (by size_fits));refine AA (m:=firstArgMember _ _) (Bw (a:=Value.none) (by first|rfl|(simp only[firstArgMember];rfl)) ?_);refine A3 ?_ (by size_fits);simp only[raiseNew];refine AA (Et ?_);rw[show A.in1.handled=none from hh];refine AA (AF (FG ?_));refine AA (Bz (T := "StopIteration") (b:=true) ⟨_,AQ _ rfl,O⟩ EW ?_);exact AF (hQ _ (((BW ..).extBut.push _).push _))
def walks_v (hh:A.handled=none)(I:Addr)(bT:d≠I):Walks prog w A I [I,d] [I] es.size (λi v=>∃e,es[i]?=some e/\v=e.val) (λi h=>h.IsValIter I d i es.size ep/\EAt h d es ep) where
 sub:=λb hb=>by simp at hb;simp[hb]
 frame:=λ_ _ _ st hk=>⟨st.1.at λo e=>hk I (by simp) o e,st.2.keep λo e=>hk d (by simp) o e⟩
 item:=λi s Q E hi st hQ=>next_v st.1 st.2 hi λh' aT b5=>hQ _ h' s.toks ⟨_,BU hi,rfl⟩ ⟨aT,st.2.keep λo e=>b5.extBut d o bT e⟩ λb o hb e=>b5.extBut b o (λh=>hb (by simp[h])) e
 done:=λs Q E st hQ=>last_v hh st.1 st.2 λh' cz=>hQ h' s.toks λb o hb e=>cz b o (λh=>hb (by simp[h])) e
 self:=λ_ _ _ _ st hQ=>wpAny_pyIter_valiter st.1 hQ
def kdl_v {r:Addr}(hr:r≠d):KdlSrc prog w "dict_values" r d es.size (λi v=>∃e,es[i]?=some e/\v=e.val) (λh=>h.IsValuesView r d/\EAt h d es ep) where
 type:=λs hm=>by obtain⟨o,h1,h2,_⟩:=hm.1;exact⟨o,h1,h2⟩
 there:=λ_ hm=>by obtain⟨o,h1,_⟩:=hm.1;exact⟨AR h1,hm.2.lt⟩
 keep:=λ_ _ hm hk=>⟨by obtain⟨o,h1,h2,h3⟩:=hm.1;exact⟨o,hk r (.inl rfl) o h1,h2,h3⟩,hm.2.keep λo e=>hk d (.inr rfl) o e⟩
 notList:=by decide
 notTuple:=by decide
 hint:=λ_ _ _ _ hm hq=>by obtain⟨o,h1,h2,_⟩:=hm.1;exact kdl_hint_values ⟨o,h1,h2⟩ hq
 iter:=λ_ _ hh hm=>⟨_,_,(λ_ _ hq=>iter_v hm.1 hm.2 hq),walks_v hh _ (AZ hm.2.lt),⟨⟨_,AQ _ rfl,rfl,rfl⟩,hm.2.keep λo e=>AE _ e⟩⟩
def J7 (lo:(d==sysModules)=false):Meets (Builtin.«dict.values» ⟨[.ref d],[]⟩) (λ_ R s=>EAt s.heap d es ep/\R (.ok (.ret (.ref s.heap.objs.size))) {s with heap:=s.heap.push {cls:=.type "dict_values",data:=.fields #[.ref d]}}):=by intro prog w A R s ⟨hm,hR⟩;have hT:=hm.ty;unfold Builtin.«dict.values»;show wpAny _ _ (Builtin.Dict.noArgs "values" ⟨[.ref d],[]⟩ >>= λd=>Builtin.Dict.showsAll d >>= λ_=>newFields "dict_values" [Value.ref d] >>= λx=>ret x) _ _ _;refine AA ?_;unfold Builtin.Dict.noArgs;refine AA (DP hT ?_);unfold Builtin.Dict.nameIsSure;show wpAny _ _ (pure () >>= λ_=>pure (Value.ref d) >>= λx=>Builtin.Dict.addrOf x) _ _ _;refine AA (AF (AA (AF (AF ?_))));unfold Builtin.Dict.showsAll;rw[if_neg (by rw[lo];exact AV)];exact AA (AF (AA (A3 (AF hR))))
end
section
variable {X:Cx}
def ViewO (r d:Addr):HO:=.ext λh=>h.IsValuesView r d
def tDVals (te:TE):TE:=λσ H Q=>te σ H λx H1=>∃d kvs,x=.ref d/\H1 d=some (.dT kvs)/\∀r,H1 r=none->Q (.ref r) (upd H1 r (ViewO r d))
def pe_dvals {o:Expr}{apos aH:Pos}{to:TE}(ho:PE X o to) (bK:attributeBase o "values" X.env (eval o X.env)=eval o X.env:=by rfl) (bI:(apos.endLine==aH.line)=true:=by rfl):
  PE X (.Call (.Attribute o "values" apos) [] [] aH) (tDVals to):=by
 intro pins s σ H Q I h;refine wpAny_Call_method0_late bK bI (thn (ho pins s σ H _ I h) λv s1 ⟨x,H1,I1,rx,d,kvs,ex,hd,q⟩=>?_);subst ex;obtain⟨h1,h2⟩:=XF I1 rx (show tyV X.K "dict" (.ref d) H1 from .inr (.inr (.inl ⟨rfl,.inr ⟨kvs,hd⟩⟩)));obtain rfl:v=Value.ref d:=rx;obtain⟨z,lo,xs,rp,ob,es,ep,e1,e2,e3,e4,e5⟩:=(show qm X.prog X.w H1 s1.heap d (.dT kvs) from I1.hok d _ hd)
 refine⟨"dict", "dict.values",PySem.F.plainAttrs_dict,PySem.F.slot_dict_values,PySem.F.type_dict_values,h1,h2,E3 rfl (PySem.evalArgs_none ?_)⟩;refine Cg PySem.F.slot_dict_values ⟨ob,e1,e2.1⟩ PySem.F.entry_dict_values (PySem.F.args_dict_values_1 _) (J7 (es:=es) (ep:=ep) lo) ⟨⟨ob,e1,e2,e3⟩,?_⟩;have hv:(s1.heap.push {cls:=.type "dict_values",data:=.fields #[.ref d]}).IsValuesView s1.heap.objs.size d:=⟨_,AQ _ rfl,rfl,rfl⟩
 refine⟨.ref s1.heap.objs.size,_,I1.laid (a:=s1.heap.objs.size) (o:=ViewO s1.heap.objs.size d) (t':=s1.toks) (λ_ _ e=>AE _ e) (AI _) ⟨hv,⟨_,AQ _ rfl⟩,λh1 h2 hp k=>?_⟩,O,q _ (I1.hok.fresh (AI _))⟩;obtain⟨o,g1,g2,g3⟩:=hp;exact⟨o,k o g1,g2,g3⟩
def xV (hc:X.calm=true):qU X (.type "list") (λxs H Q=>∃r a kvs,xs=[.ref r]/\H r=some (ViewO r a)/\r≠a/\H a=some (.dT kvs)/\∀p,H p=none->Q (.ref p) (upd H p (.lst (kvs.map Prod.snd)))):=by
 intro pins s σ H xs us Q I rv h;obtain⟨r,a,kvs,rfl,hr,ra,ha,q⟩:=h;obtain⟨u1,rfl,r2⟩:=vals1 rv;cases r2;obtain⟨z,lo,xs,rp,o,es,ep,h1,h2,h3,h4,h5⟩:=(show qm X.prog X.w H s.heap a (.dT kvs) from I.hok a _ ha)
 have hv:s.heap.IsValuesView r a:=(I.hok r _ hr).1;have eC:es.size=xs.length:=by rw[<- Ad,h4,AB]
 have xl:=Ac rp;refine kdl_call (kdl_v (d:=a) (r:=r) (es:=es) (ep:=ep) ra) (I.ok.hd hc) ⟨hv,o,h1,h2,h3⟩ ⋯ λh' tk acc c kp he aj=>?_;have ev:acc.toList=xs.map λx=>x.2.2:=by
  have e0:es.toList.map (·.val)=xs.map λx=>x.2.2:=by rw[h4,AW];rfl
  rw[<- e0];refine BJ λi=>?_;rw[AG,AY,AY];by_cases hi:i<es.size
  ·have g:acc[i]?=some (acc[i]'(by rw[aj.1];exact hi)):=BU _;obtain⟨e,he,ee⟩:=aj.2 i _ g;rw[g,he,ee];rfl
  ·rw[Bg (by rw[aj.1];lia),Bg ⋯];rfl
 refine⟨.ref s.heap.objs.size,_,I.laid (a:=s.heap.objs.size) (o:=.lst (kvs.map Prod.snd)) (t':=tk) kp (AI _) ⟨by rw[AB];lia,acc.toList,c,?_,by simpa using he⟩,O,q _ (I.hok.fresh (AI _))⟩;rw[ev]
 clear h4 h5 he ev eC xl ha z q
 induction rp with
 |nil=>exact .nil
 |cons hq _ ih=>exact .cons hq.2.2 ih
end
open PySem PySem.Spec PyProof.Rows L4
section
variable {X:Cx}
def tpAt (H:Hp)(ys:List V):Value->Bool
 |.ref a=>match H a with
  |some (.tup zs)=>Qk zs ys
  |_=>false
 |_=>false
theorem ZM:∀(k l:List Nat),k.length=l.length->Qk (k.map nV) (l.map nV)=decide (k=l)
 | [],[],_=>rfl
 | [],_::_,h=>by cases h
 |_::_,[],h=>by cases h
 |x::k,y::l,h=>by
  have ih:=ZM k l (by simpa using h);unfold Qk at ih ⊢;rw[Af,Af,Dd,Ca];have e1:eqV (nV x) (nV y)=decide (x=y):=by
   show decide ((x:Int)=(y:Int))=_;by_cases q:x=y
   ·rw[q];simp
   ·rw[Ag q];exact Ag λz=>q (E8.mp z)
  have e2:(((nV x::k.map nV).length==(nV y::l.map nV).length))=((k.map nV).length==(l.map nV).length):=by simp
  rw[e2,Bool.and_assoc,ih];show (eqV (nV x) (nV y)&&decide (k=l))=_;rw[e1];by_cases a:x=y <;> by_cases b:k=l <;> simp[a,b]
def rIndexC:V->List V->Hp->VK->Prop:=λx vs H Q=>∃(p b:Addr) (xs:List V) (ks:List TC) (col:TC) (j:Nat),x=.ref p/\vs=[.ref b]/\H p=some (.lst xs)/\Paired (xU H) ks xs/\(∀k∈ks,k.length=col.length)/\H b=some (.tup (col.map nV))/\ks[j]?=some col/\(∀m,m<j->ks[m]? ≠ some col)/\Q (nV j) H
def zaC {k:Nat}(hr:ZP k X.A):MtR X "list.index" rIndexC:=by
 intro pins s σ H x vs v us Q I rx rv h;obtain⟨p,b,xs,ks,col,j,rfl,rfl,hq,hL,hf,hb,hj,dQ,q⟩:=h;cases rx;obtain⟨u,rfl,ru⟩:=vals1 rv;cases ru;obtain⟨z,its,n,r,hlen,e⟩:=I.lstM hq;obtain⟨oM,rb,pb,_⟩:=I.tuple (TU (K:=X.K) hb);have hu:X.A.units+64<cLine:=hr.units;have lP:=Ac hL;have fl:∀c:TC,(c.map nV).all qV=true:=λc=>by rw[BB];intro v hv;obtain⟨m,_,rfl⟩:=AK.mp hv;rfl
 have at_:∀m (hm:m<its.toArray.size),∃a c,its.toArray[m]=.ref a/\H a=some (.tup (c.map nV))/\ks[m]?=some c:=λm hm=>by
  have eV:m<xs.length:=by rw[hlen];simpa using hm
  have k1:xs[m]?=some xs[m]:=AC eV;obtain⟨w,e1,r1⟩:=r.get k1;have w1:its.toArray[m]=w:=by
   have g1:m<its.length:=by simpa using hm
   rw[AC g1]at e1;simpa using AH e1
  have k2:ks[m]?=some (ks[m]'(⋯)):=AC ⋯;obtain⟨v',k3,a,ea,ha⟩:=QE hL k2;rw[k1]at k3;cases k3;rw[ea]at r1;cases r1;exact⟨a,_,w1,ha,k2⟩
 have te:∀m (hm:m<its.toArray.size) c,ks[m]?=some c->tpAt H (col.map nV) its.toArray[m]=decide (c=col):=λm hm c hc=>by obtain⟨a,c',e1,e2,e3⟩:=at_ m hm;rw[hc]at e3;cases e3;rw[e1];show (match H a with|some (.tup zs)=>Qk zs (col.map nV)|_=>false)=_;rw[e2];exact ZM _ _ (hf c (AL hc))
 have K7:=(AD.mp hj).1;have dS:j<its.toArray.size:=by simp;lia
 have mW:(j:Int)<2^63-1:=by
  have:(sizeLine:Nat)<=2^60:=by decide
  have h2:j<2^60:=⋯;lia
 refine Cg Fs ⟨_,e,O⟩ Fk (FZ _ _) (Fh p its.toArray n none #[] (.ref b) (tpAt H (col.map nV)) j dS mW ?_ ?_) ⟨e,λw hw=>?_,⟨.int _,H,I.tok _,⟨_,O⟩,q⟩⟩
 ·rw[te j dS col hj];exact Am rfl
 ·intro m hm gq;obtain⟨a,c,_,_,e3⟩:=at_ m hm;rw[te m hm c e3];exact Ag λz=>dQ m gq (by rw[e3,z])
 ·obtain⟨m,hm,rfl⟩:=Array.mem_iff_getElem.mp hw;obtain⟨a,c,e1,e2,e3⟩:=at_ m hm;have f2:=hf c (AL e3);rw[te m hm c e3,e1];by_cases aO:a=b
  ·subst aO;rw[hb]at e2;have:c=col:=by have h1:=HO.tup.inj (AH e2);have h2:=BF (λl=>Qk l (c.map nV)) h1;rw[ZM _ _ f2.symm,ZM _ _ rfl]at h2;exact (A2 (h2.trans (Am rfl))).symm
   rw[Am this];exact EM _
  ·obtain⟨lI,ra,pa,_⟩:=I.tuple (TU (K:=X.K) e2);have m1:=ra.length;have m2:=rb.length;rw[AB]at m1 m2;have z:=Ep (A:=X.A.in1.in1) (s:=s) pa pb (by show X.A.units+1+1<cLine;lia) (Ql ra rb (fl c) (fl col));have z1:lI.toArray.size=c.length:=by rw[Ao];exact m1.symm
   have z2:oM.toArray.size=col.length:=by rw[Ao];exact m2.symm
   have e5:min lI.toArray.size oM.toArray.size=(c.map nV).length:=by rw[z1,z2,f2,FT,AB,f2]
   rw[e5,Ze _ _ (by rw[AB,AB,f2]),z1,z2]at z;have e6:((((c.map nV).zip (col.map nV)).all λp=>eqV p.1 p.2)&&c.length==col.length)=decide (c=col):=by rw[<- ZM _ _ f2];unfold Qk;rw[AB,AB]
   rw[e6]at z;exact SeqAt.EqAt.of_in1 (EY aO z)
end
open Builtin
abbrev SM:=StateT SortSt Sem
def Xj:Bool->Keyed->Array Keyed->Nat->Nat->Nat->SM (Option Nat):=sortPriv% PySem.Builtin.gallop
def mLo':Array Keyed->Array Keyed->SM (Array Keyed):=sortPriv% PySem.Builtin.mergeLo
def mHi':Array Keyed->Array Keyed->SM (Array Keyed):=sortPriv% PySem.Builtin.mergeHi
def bey' (lf:Bool)(ky:Keyed)(ar:Array Keyed)(bs i:Nat):SM (Option Bool):=do
 let z <- elem' ar (bs+i)
 if lf then lt' z ky else return (<- lt' ky z).map (!·)
def gal_eq (lf:Bool)(ky:Keyed)(ar:Array Keyed)(bs n hn:Nat):Xj lf ky ar bs n hn=(do
 let mut la:=0
 let mut of:=1
 let mut lo:=0
 let mut hi:=0
 let some rt <- bey' lf ky ar bs hn|return none
 if rt then
  let mx:=n-hn
  for _ in [0:n] do
   if of ≥ mx then break
   let some mo <- bey' lf ky ar bs (hn+of)|return none
   if !mo then break
   la:=of
   of:=2*of+1
  lo:=hn+la+1
  hi:=hn+min of mx
 else
  let mx:=hn+1
  for _ in [0:n] do
   if of ≥ mx then break
   let some fd <- bey' lf ky ar bs (hn-of)|return none
   if fd then break
   la:=of
   of:=2*of+1
  lo:=hn+1-min of mx
  hi:=hn-la
 for _ in [0:n] do
  if lo ≥ hi then break
  let m:=lo+(hi-lo)/2
  let some mo <- bey' lf ky ar bs m|return none
  if mo then lo:=m+1 else hi:=m
 return some hi):=rfl
structure Cm (prog:Program)(w:World)(A:Around)(s:Shared)(κ:SortKind)(it:List Keyed)(R:Keyed->Keyed->Bool):Prop where
 lt:∀x∈it,∀y∈it,∀Q:Bool->Shared->Prop,Q (R x y) s->wpAny (model prog w) A (keyLt' κ x.1 y.1) Q (λ_ _=>False) s
 asym:∀x∈it,∀y∈it,R x y=true->R y x=false
 tot:∀x∈it,∀y∈it,x≠y->R x y=false->R y x=true
 tr:∀x∈it,∀y∈it,∀z∈it,R x y=true->R y z=true->R x z=true
section
variable {prog:Program}{w:World}{A:Around}{E:TB}{s:Shared}{κ:SortKind}{it:List Keyed}{R:Keyed->Keyed->Bool}{st:SortSt}
def zaD (C:Cm prog w A s κ it R){x y:Keyed}{Q:Option Bool->SortSt->Prop}(hk:kindOf st=κ)(hx:x∈it)(hy:y∈it)(h:Q (some (R x y)) st):wpS (model prog w) A E s (lt' x y) Q st:=by rw[lt'_eq];refine Aa (wpS_get ?_);rw[hk];refine Aa (wpS_lift (Bj (CD (C.lt x hx y hy (λb s'=>b=R x y/\s'=s) ⟨O,O⟩) (λb s' hb=>?_) λ_ _ z=>z.elim)));obtain⟨rfl,rfl⟩:=hb;exact⟨O,Ai h⟩
def jJ {M:Model}{ar:Array Keyed}{i:Nat}{x:Keyed}{Q:Keyed->SortSt->Prop}(h:ar[i]?=some x)(q:Q x st):wpS M A E s (elem' ar i) Q st:=by rw[elem'_eq,h];exact Ai q
def tm_bey (C:Cm prog w A s κ it R){lf:Bool}{ky z:Keyed}{ar:Array Keyed}{bs i:Nat}{Q:Option Bool->SortSt->Prop}(hk:kindOf st=κ)(hz:z∈it)(hy:ky∈it)(he:ar[bs+i]?=some z)(h:Q (some (if lf then R z ky else !R ky z)) st):wpS (model prog w) A E s (bey' lf ky ar bs i) Q st:=by
 unfold bey';refine Aa (jJ he ?_);cases lf with
 |true=>exact zaD C hk hz hy h
 |false=>exact Aa (zaD C hk hy hz (Ai h))
def tm_bis {M:Model}{n:Nat}{f:Nat->Bool}{b:Nat->SM (Option Bool)}(B:∀(i:Nat) (Q':Option Bool->SortSt->Prop),i<n->Q' (some (f i)) st->wpS M A E s (b i) Q' st){lo hi:Nat}(e1:lo<=hi)(e2:hi<=n)(e3:∀i,i<lo->f i=true)(e4:∀i,hi<=i->i<n->f i=false)(mo:∀i j,i<=j->j<n->f j=true->f i=true)
  {K:Option (Option Nat)×Nat×Nat->SM (Option Nat)}{Q:Option Nat->SortSt->Prop}(hK:∀k,k<=n->(∀i,i<k->f i=true)->(∀i,k<=i->i<n->f i=false)->wpS M A E s (K (none,k,k)) Q st):
  wpS M A E s (forIn [0:n] ((none,lo,hi):Option (Option Nat)×Nat×Nat) (λ_ c=>if c.2.1 ≥ c.2.2 then pure (ForInStep.done (none,c.2.1,c.2.2)) else do
   let z <- b (c.2.1+(c.2.2-c.2.1)/2)
   match z with
   |some m=>if m=true then pure (ForInStep.yield (none,c.2.1+(c.2.2-c.2.1)/2+1,c.2.2)) else pure (ForInStep.yield (none,c.2.1,c.2.1+(c.2.2-c.2.1)/2))
   |_=>pure (ForInStep.done (some none,c.2.1,c.2.2))) >>= K) Q st:=by
 refine Aa (CB (Bk (I:=λx c aQ=>st=aQ/\∃lo hi,c=(none,lo,hi)/\hi-lo+x<=n/\lo<=hi/\hi<=n/\(∀i,i<lo->f i=true)/\∀i,hi<=i->i<n->f i=false) (Q:=λc aQ=>st=aQ/\∃hi,c=(none,hi,hi)/\hi<=n/\(∀i,i<hi->f i=true)/\∀i,hi<=i->i<n->f i=false) ?_ ?_ ⟨O,lo,hi,O,⋯,e1,e2,e3,e4⟩) ?_)
 ·rintro i c aQ _ hi ⟨rfl,lo,hi,rfl,a1,a2,a3,a4,a5⟩;dsimp only;by_cases c1:lo ≥ hi
  ·rw[if_pos c1];obtain rfl:lo=hi:=⋯;exact Ai ⟨O,lo,O,a3,a4,a5⟩
  rw[if_neg c1];refine Aa (B _ _ ⋯ ?_);dsimp only;cases h2:f (lo+(hi-lo)/2) with
  |true=>exact Ai ⟨O,_,_,O,⋯,⋯,a3,λi iJ=>mo i _ ⋯ ⋯ h2,a5⟩
  |false=>
   refine Ai ⟨O,_,_,O,⋯,⋯,⋯,a4,λi iJ bH=>?_⟩;cases hh:f i with
   |false=>rfl
   |true=>rw[mo _ i iJ bH hh]at h2;cases h2
 ·rintro c aQ ⟨rfl,lo,hi,rfl,a1,a2,a3,a4,a5⟩;obtain rfl:lo=hi:=⋯;exact⟨O,lo,O,a3,a4,a5⟩
 rintro c aQ ⟨rfl,k,rfl,k1,k2,k3⟩;exact hK k k1 k2 k3
def wN (C:Cm prog w A s κ it R){lf:Bool}{ky:Keyed}{ar:Array Keyed}{bs n hn:Nat}{f:Nat->Bool}{Q:Option Nat->SortSt->Prop}(hk:kindOf st=κ)(hy:ky∈it)(hf:∀i,i<n->∃z,ar[bs+i]?=some z/\z∈it/\f i=if lf then R z ky else !R ky z)
  (mo:∀i j,i<=j->j<n->f j=true->f i=true)(h0:hn<n)(q:∀k,k<=n->(∀i,i<k->f i=true)->(∀i,k<=i->i<n->f i=false)->Q (some k) st):wpS (model prog w) A E s (Xj lf ky ar bs n hn) Q st:=by
 have B:∀(i:Nat) (Q':Option Bool->SortSt->Prop),i<n->Q' (some (f i)) st->wpS (model prog w) A E s (bey' lf ky ar bs i) Q' st:=λi Q' hi h=>by obtain⟨z,h1,h2,h3⟩:=hf i hi;rw[h3]at h;exact tm_bey C hk h2 hy h1 h
 have nf:∀i j,i<=j->j<n->f i=false->f j=false:=λi j fk hj h=>by
  cases hh:f j with
  |false=>rfl
  |true=>rw[mo i j fk hj hh]at h;cases h
 rw[gal_eq];dsimp only;refine Aa (B hn _ h0 ?_);dsimp only;cases h1:f hn with
 |true=>
  rw[if_pos rfl];refine Aa (CB (Bk (I:=λx c aQ=>st=aQ/\∃la of,c=(none,la,of)/\x+1<=of/\la<of/\hn+la<n/\f (hn+la)=true) (Q:=λc aQ=>st=aQ/\∃la of,c=(none,la,of)/\la<of/\hn+la<n/\f (hn+la)=true/\(n-hn<=of\/f (hn+of)=false)) ?_ ?_ ⟨O,0,1,O,AI _,by decide,h0,h1⟩) ?_)
  ·rintro i c aQ _ hi ⟨rfl,la,of,rfl,i1,lo,l2,l3⟩;dsimp only;by_cases c1:of ≥ n-hn
   ·rw[if_pos c1];exact Ai ⟨O,la,of,O,lo,l2,l3,.inl c1⟩
   rw[if_neg c1];refine Aa (B _ _ ⋯ ?_);dsimp only;cases h2:f (hn+of) with
   |false=>exact Ai ⟨O,la,of,O,lo,l2,l3,.inr h2⟩
   |true=>exact Ai ⟨O,of,2*of+1,O,⋯,⋯,⋯,h2⟩
  ·rintro c aQ ⟨rfl,la,of,rfl,i1,lo,l2,l3⟩;exact⟨O,la,of,O,lo,l2,l3,.inl ⋯⟩
  rintro c aQ ⟨rfl,la,of,rfl,lo,l2,l3,l4⟩;refine tm_bis B (lo:=hn+la+1) (hi:=hn+min of (n-hn)) ⋯ ⋯ (λi hi=>mo i (hn+la) ⋯ l2 l3) (λi hi bH=>?_) mo λk k1 k2 k3=>Ai (q k k1 k2 k3)
  rcases l4 with l4|l4
  ·lia
  ·by_cases c1:of ≥ n-hn
   ·lia
   exact nf _ i ⋯ bH l4
 |false=>
  rw[if_neg ∅];refine Aa (CB (Bk (I:=λx c aQ=>st=aQ/\∃la of,c=(none,la,of)/\x+1<=of/\la<of/\la<=hn/\f (hn-la)=false) (Q:=λc aQ=>st=aQ/\∃la of,c=(none,la,of)/\la<of/\la<=hn/\f (hn-la)=false/\(hn+1<=of\/f (hn-of)=true)) ?_ ?_ ⟨O,0,1,O,AI _,by decide,BC _,h1⟩) ?_)
  ·rintro i c aQ _ hi ⟨rfl,la,of,rfl,i1,lo,l2,l3⟩;dsimp only;by_cases c1:of ≥ hn+1
   ·rw[if_pos c1];exact Ai ⟨O,la,of,O,lo,l2,l3,.inl c1⟩
   rw[if_neg c1];refine Aa (B _ _ ⋯ ?_);dsimp only;cases h2:f (hn-of) with
   |true=>exact Ai ⟨O,la,of,O,lo,l2,l3,.inr h2⟩
   |false=>exact Ai ⟨O,of,2*of+1,O,⋯,⋯,⋯,h2⟩
  ·rintro c aQ ⟨rfl,la,of,rfl,i1,lo,l2,l3⟩;exact⟨O,la,of,O,lo,l2,l3,.inl ⋯⟩
  rintro c aQ ⟨rfl,la,of,rfl,lo,l2,l3,l4⟩;refine tm_bis B (lo:=hn+1-min of (hn+1)) (hi:=hn-la) ⋯ ⋯ (λi hi=>?_) (λi hi bH=>nf (hn-la) i hi bH l3) mo λk k1 k2 k3=>Ai (q k k1 k2 k3)
  rcases l4 with l4|l4
  ·lia
  ·by_cases c1:of ≥ hn+1
   ·lia
   exact mo i (hn-of) ⋯ ⋯ l4
end
abbrev KA:=Array Keyed
def sG' (g:Nat):SM Unit:=modify λt=>SortSt.mk' (kindOf t) (arrOf t) (pendingOf t) g (failedOf t)
abbrev LS:=Option KA×KA×Nat×Nat×Nat×Nat×Nat
def dnL (a b o:KA)(i j:Nat):KA:=o++a.extract i a.size++b.extract j b.size
def laL (a b o:KA)(i j:Nat):KA:=o++b.extract j b.size++a.extract i a.size
def lo4 (a b o:KA)(i j g k l:Nat):SM (ForInStep LS):=do
 let x <- elem' a i
 if i+1+1==a.size then return .done (some (laL a b (o.push x) (i+1) j),o.push x,i+1,j,g,k,l)
 if k<7&&l<7 then return .done (none,o.push x,i+1,j,g,k,l)
 return .yield (none,o.push x,i+1,j,g,k,l)
def lo3 (a b o:KA)(i j g k l:Nat):SM (ForInStep LS):=do
 let y <- elem' b j
 if j+1==b.size then return .done (some (dnL a b (o.push y) i (j+1)),o.push y,i,j+1,g,k,l)
 match <- Xj true (<- elem' a i) b (j+1) (b.size-(j+1)) 0 with
 |some m=>
  if m > 0 then
   if j+1+m==b.size then return .done (some (dnL a b (o.push y++b.extract (j+1) (j+1+m)) i (j+1+m)),o.push y++b.extract (j+1) (j+1+m),i,j+1+m,g,k,m)
   lo4 a b (o.push y++b.extract (j+1) (j+1+m)) i (j+1+m) g k m
  else lo4 a b (o.push y) i (j+1) g k m
 |_=>return .done (some (dnL a b (o.push y) i (j+1)),o.push y,i,j+1,g,k,l)
def lo2 (a b o:KA)(i j g k l:Nat):SM (ForInStep LS):=do
 sG' g
 match <- Xj false (<- elem' b j) a i (a.size-i) 0 with
 |some m=>
  if m > 0 then
   if i+m+1==a.size then return .done (some (laL a b (o++a.extract i (i+m)) (i+m) j),o++a.extract i (i+m),i+m,j,g,m,l)
   if i+m==a.size then return .done (some (dnL a b (o++a.extract i (i+m)) (i+m) j),o++a.extract i (i+m),i+m,j,g,m,l)
   lo3 a b (o++a.extract i (i+m)) (i+m) j g m l
  else lo3 a b o i j g m l
 |_=>return .done (some (dnL a b o i j),o,i,j,g,k,l)
def lo1 (a b:KA)(c:LS):SM (ForInStep LS):=if c.2.2.2.2.1 > 1 then lo2 a b c.2.1 c.2.2.1 c.2.2.2.1 (c.2.2.2.2.1-1) c.2.2.2.2.2.1 c.2.2.2.2.2.2 else lo2 a b c.2.1 c.2.2.1 c.2.2.2.1 c.2.2.2.2.1 c.2.2.2.2.2.1 c.2.2.2.2.2.2
abbrev LI:=Option KA×KA×Nat×Nat×Nat×Nat
def loI (a b:KA)(g:Nat)(c:LI):SM (ForInStep LI):=do
 match <- lt' (<- elem' b c.2.2.2.1) (<- elem' a c.2.2.1) with
 |some w=>
  if w then
   let y <- elem' b c.2.2.2.1
   if c.2.2.2.1+1==b.size then return .done (some (dnL a b (c.2.1.push y) c.2.2.1 (c.2.2.2.1+1)),c.2.1.push y,c.2.2.1,c.2.2.2.1+1,0,c.2.2.2.2.2+1)
   if c.2.2.2.2.2+1 ≥ g then return .done (none,c.2.1.push y,c.2.2.1,c.2.2.2.1+1,0,c.2.2.2.2.2+1)
   return .yield (none,c.2.1.push y,c.2.2.1,c.2.2.2.1+1,0,c.2.2.2.2.2+1)
  else
   let x <- elem' a c.2.2.1
   if c.2.2.1+1+1==a.size then return .done (some (laL a b (c.2.1.push x) (c.2.2.1+1) c.2.2.2.1),c.2.1.push x,c.2.2.1+1,c.2.2.2.1,c.2.2.2.2.1+1,0)
   if c.2.2.2.2.1+1 ≥ g then return .done (none,c.2.1.push x,c.2.2.1+1,c.2.2.2.1,c.2.2.2.2.1+1,0)
   return .yield (none,c.2.1.push x,c.2.2.1+1,c.2.2.2.1,c.2.2.2.2.1+1,0)
 |_=>return .done (some (dnL a b c.2.1 c.2.2.1 c.2.2.2.1),c.2.1,c.2.2.1,c.2.2.2.1,c.2.2.2.2.1,c.2.2.2.2.2)
abbrev LO:=Option KA×KA×Nat×Nat×Nat
def loO (a b:KA)(c:LO):SM (ForInStep LO):=do
 let d <- forIn [0:a.size+b.size] ((none,c.2.1,c.2.2.1,c.2.2.2.1,0,0):LI) λ_ d=>loI a b c.2.2.2.2 d
 match d.1 with
 |some r=>return .done (some r,d.2.1,d.2.2.1,d.2.2.2.1,c.2.2.2.2)
 |none=>
  rule "list.sort.gallop"
  let e <- forIn [0:a.size+b.size] ((none,d.2.1,d.2.2.1,d.2.2.2.1,c.2.2.2.2+1,d.2.2.2.2.1,d.2.2.2.2.2):LS) λ_ e=>lo1 a b e
  match e.1 with
  |some r=>return .done (some r,e.2.1,e.2.2.1,e.2.2.2.1,e.2.2.2.2.1)
  |none=>
   sG' (e.2.2.2.2.1+1)
   return .yield (none,e.2.1,e.2.2.1,e.2.2.2.1,e.2.2.2.2.1+1)
def mLo_eq0 (a b:Array Keyed):mLo' a b=(do
 rule "list.sort.merge-lo"
 let tl:=a.size+b.size
 let dn (o:Array Keyed) (i j:Nat):=o++a.extract i a.size++b.extract j b.size
 let la (o:Array Keyed) (i j:Nat):=o++b.extract j b.size++a.extract i a.size
 let mut o:Array Keyed:=#[<- elem' b 0]
 let mut i:=0
 let mut j:=1
 if j==b.size then return dn o i j
 if i+1==a.size then return la o i j
 let mut g:=gallopOf (<- get)
 for _ in [0:tl] do
  let mut ac:=0
  let mut bc:=0
  for _ in [0:tl] do
   let some bw <- lt' (<- elem' b j) (<- elem' a i)|return dn o i j
   if bw then
    o:=o.push (<- elem' b j);j:=j+1;bc:=bc+1;ac:=0
    if j==b.size then return dn o i j
    if bc ≥ g then break
   else
    o:=o.push (<- elem' a i);i:=i+1;ac:=ac+1;bc:=0
    if i+1==a.size then return la o i j
    if ac ≥ g then break
  rule "list.sort.gallop"
  g:=g+1
  for _ in [0:tl] do
   if g > 1 then g:=g-1
   sG' g
   let some k <- Xj false (<- elem' b j) a i (a.size-i) 0|return dn o i j
   ac:=k
   if k > 0 then
    o:=o++a.extract i (i+k);i:=i+k
    if i+1==a.size then return la o i j
    if i==a.size then return dn o i j
   o:=o.push (<- elem' b j);j:=j+1
   if j==b.size then return dn o i j
   let some k <- Xj true (<- elem' a i) b j (b.size-j) 0|return dn o i j
   bc:=k
   if k > 0 then
    o:=o++b.extract j (j+k);j:=j+k
    if j==b.size then return dn o i j
   o:=o.push (<- elem' a i);i:=i+1
   if i+1==a.size then return la o i j
   if ac<7&&bc<7 then break
  g:=g+1
  sG' g
 unsupported "internal:list.sort.merge-bound"):=rfl
def mLo_eq (a b:KA):mLo' a b=(do
 rule "list.sort.merge-lo"
 let y <- elem' b 0
 if 1==b.size then return dnL a b #[y] 0 1
 if 0+1==a.size then return laL a b #[y] 0 1
 let t <- get
 let c <- forIn [0:a.size+b.size] ((none,#[y],0,1,gallopOf t):LO) λ_ c=>loO a b c
 match c.1 with
 |some r=>return r
 |none=>unsupported "internal:list.sort.merge-bound"):=by
 rw[mLo_eq0];dsimp only
 congr 1
 funext _
 congr 1
 funext y
 refine ite_congr rfl (λ_=>rfl) (λ_=>?_);refine ite_congr rfl (λ_=>rfl) (λ_=>?_)
 congr 1
 funext t
 congr 1
 ·congr 1
  funext _ c
  unfold loO
  congr 1
  ·funext d
   obtain⟨r,d⟩:=d;cases r with
   |some r=>rfl
   |none=>
    dsimp only
    congr 1
    funext _
    congr 1
    funext e
    obtain⟨r,e⟩:=e;cases r <;> rfl
 ·funext c
  obtain⟨r,c⟩:=c;cases r <;> rfl
def Srt (R:Keyed->Keyed->Bool)(l:List Keyed):Prop:=l.Pairwise λx y=>R x y=true
def zaE {R:Keyed->Keyed->Bool}{Oo P X Y:List Keyed}(h1:Srt R (Oo++(P++X)))(h2:Srt R (Oo++Y))(h:∀p∈P,∀y∈Y,R p y=true):Srt R ((Oo++P)++X)/\Srt R ((Oo++P)++Y):=by
 unfold Srt at *;rw[<- A8]at h1;refine⟨h1,?_⟩;rw[Bq]at h1 h2 ⊢;refine⟨h1.1,h2.2.1,λp hp y hy=>?_⟩
 rcases AX.mp hp with hp|hp
 ·exact h2.2.2 p hp y hy
 ·exact h p hp y hy
def dr {a:KA}{i:Nat}{x:Keyed}(h:a[i]?=some x):a.toList.drop i=x::a.toList.drop (i+1):=by rw[<- AY]at h;obtain⟨hi,e⟩:=AD.mp h;rw[CC hi,e]
def JB {a:KA}{i:Nat}{y:Keyed}:y∈a.toList.drop i ↔ ∃t,i<=t/\a[t]?=some y:=by
 rw[As];constructor
 ·rintro⟨t,ht⟩;rw[Cc,AY]at ht;exact⟨i+t,⋯,ht⟩
 ·rintro⟨t,h1,h2⟩;exact⟨t-i,by rw[Cc,AY,show i+(t-i)=t by lia];exact h2⟩
def Y4 {a:KA}{i k:Nat}{y:Keyed}(h:y∈(a.toList.drop i).take k):∃t,i<=t/\t<i+k/\a[t]?=some y:=by obtain⟨t,ht⟩:=As.mp h;have hl:=(AD.mp ht).1;rw[Ae]at hl;rw[B2 ⋯,Cc,AY]at ht;exact⟨i+t,⋯,⋯,ht⟩
def zx {a:KA}{i:Nat}(h:i<a.size):∃x,a[i]?=some x:=⟨a[i],BU h⟩
def Zf {R:Keyed->Keyed->Bool}{a:KA}(h:Srt R a.toList){i j:Nat}{x y:Keyed}(fk:i<j)(hx:a[i]?=some x)(hy:a[j]?=some y):R x y=true:=by rw[<- AY]at hx hy;obtain⟨h1,rfl⟩:=AD.mp hx;obtain⟨h2,rfl⟩:=AD.mp hy;exact (BS.mp h) i j h1 h2 fk
def zu {a:KA}{i:Nat}{x:Keyed}(h:a[i]?=some x):x∈a.toList:=by rw[<- AY]at h;exact AL h
structure MC (it:List Keyed)(R:Keyed->Keyed->Bool)(a b:KA):Prop where
 ia:∀x∈a.toList,x∈it
 ib:∀x∈b.toList,x∈it
 nd:(a.toList++b.toList).Nodup
 sa:Srt R a.toList
 sb:Srt R b.toList
 a1:1<=a.size
 b1:1<=b.size
 fst:∀x y,a[0]?=some x->b[0]?=some y->R y x=true
 lst:∀x,a[a.size-1]?=some x->∀y∈b.toList,R y x=true
structure RS (R:Keyed->Keyed->Bool)(a b r:KA):Prop where
 s:Srt R r.toList
 p:r.toList.Perm (a.toList++b.toList)
structure ML (R:Keyed->Keyed->Bool)(a b:KA)(Oo X Y:List Keyed):Prop where
 sx:Srt R (Oo++X)
 sy:Srt R (Oo++Y)
 pm:(Oo++X++Y).Perm (a.toList++b.toList)
def ML.tx {R:Keyed->Keyed->Bool}{a b:KA}{Oo P X Y:List Keyed}(m:ML R a b Oo (P++X) Y)(h:∀p∈P,∀y∈Y,R p y=true):ML R a b (Oo++P) X Y:=by obtain⟨h1,h2⟩:=zaE m.sx m.sy h;exact⟨h1,h2,by rw[A8 Oo P X];exact m.pm⟩
def ML.ty {R:Keyed->Keyed->Bool}{a b:KA}{Oo P X Y:List Keyed}(m:ML R a b Oo X (P++Y))(h:∀p∈P,∀x∈X,R p x=true):ML R a b (Oo++P) X Y:=by obtain⟨h1,h2⟩:=zaE m.sy m.sx h;refine⟨h2,h1,List.Perm.trans ?_ m.pm⟩;rw[A8,A8,A8];refine DB _ ?_;rw[<- A8,<- A8];exact Em _ List.perm_append_comm
def ex_to {a:KA}(i:Nat):(a.extract i a.size).toList=a.toList.drop i:=by rw[B8,Bc];exact BX (by rw[Cw,Ad];exact AI _)
def ex_tk {a:KA}(i k:Nat):(a.extract i (i+k)).toList=(a.toList.drop i).take k:=by rw[B8,Bc,show i+k-i=k by lia]
def dn_to {a b o:KA}{i j:Nat}:(dnL a b o i j).toList=o.toList++a.toList.drop i++b.toList.drop j:=by unfold dnL;rw[BR,BR,ex_to,ex_to]
def la_to {a b o:KA}{i j:Nat}:(laL a b o i j).toList=o.toList++b.toList.drop j++a.toList.drop i:=by unfold laL;rw[BR,BR,ex_to,ex_to]
def JC {a:KA}{i:Nat}(h:i=a.size):a.toList.drop i=[]:=El (by rw[Ad];lia)
abbrev ML' (R:Keyed->Keyed->Bool) (a b o:KA) (i j:Nat):Prop:=ML R a b o.toList (a.toList.drop i) (b.toList.drop j)
def ML.dnb {R:Keyed->Keyed->Bool}{a b o:KA}{i j:Nat}(m:ML' R a b o i j)(h:j=b.size):RS R a b (dnL a b o i j):=by have p:=m.pm;have q:=m.sx;rw[JC h,Az]at p;exact⟨by rw[dn_to,JC h,Az];exact q,by rw[dn_to,JC h,Az];exact p⟩
def ML.dna {R:Keyed->Keyed->Bool}{a b o:KA}{i j:Nat}(m:ML' R a b o i j)(h:i=a.size):RS R a b (dnL a b o i j):=by have p:=m.pm;have q:=m.sy;rw[JC h,Az]at p;exact⟨by rw[dn_to,JC h,Az];exact q,by rw[dn_to,JC h,Az];exact p⟩
def ML.la {it:List Keyed}{R:Keyed->Keyed->Bool}{a b o:KA}{i j:Nat}(c:MC it R a b)(m:ML' R a b o i j)(h:i+1=a.size):RS R a b (laL a b o i j):=by
 obtain⟨x,hx⟩:=zx (a:=a) (i:=i) ⋯;have e:a.toList.drop i=[x]:=by rw[dr hx,JC h]
 have m2:=ML.ty (P:=b.toList.drop j) (Y:=[]) (X:=[x]) (Oo:=o.toList) (a:=a) (b:=b) (R:=R) ⟨e ▸ m.sx,by rw[Az];exact m.sy,by rw[Az];exact e ▸ m.pm⟩ λp hp y hy=>by rw[AN.mp hy];refine c.lst x ?_ p (DM hp);rw[show a.size-1=i by lia];exact hx
 have p:=m2.pm;rw[Az]at p;exact⟨by rw[la_to,e];exact m2.sx,by rw[la_to,e];exact p⟩
def SG (t u:SortSt):Prop:=kindOf u=kindOf t/\arrOf u=arrOf t/\pendingOf u=pendingOf t/\failedOf u=failedOf t
def GL (R:Keyed->Keyed->Bool)(a b o:KA)(i j n:Nat):Prop:=ML' R a b o i j/\i+1<a.size/\j<b.size/\n<i+j
def FL (R:Keyed->Keyed->Bool)(a b:KA)(t:SortSt)(n:Nat):ForInStep LS->SortSt->Prop
 |.done c,u=>SG t u/\((∃r,c.1=some r/\RS R a b r)\/(c.1=none/\GL R a b c.2.1 c.2.2.1 c.2.2.2.1 n))
 |.yield c,u=>SG t u/\c.1=none/\GL R a b c.2.1 c.2.2.1 c.2.2.2.1 n
section
variable {prog:Program}{w:World}{A:Around}{E:TB}{s:Shared}{κ:SortKind}{it:List Keyed}{R:Keyed->Keyed->Bool}{st t:SortSt}{M:Model}{a b o:KA}{i j g k l n:Nat}
def ML.px (m:ML' R a b o i j){x:Keyed}(hx:a[i]?=some x)(h:∀y∈b.toList.drop j,R x y=true):ML' R a b (o.push x) (i+1) j:=by
 have e:=dr hx;have m2:=ML.tx (P:=[x]) (X:=a.toList.drop (i+1)) (by rw[List.singleton_append,<- e];exact m) λp hp y hy=>by rw[AN.mp hp];exact h y hy
 rw[<- Cp]at m2;exact m2
def ML.py (m:ML' R a b o i j){y:Keyed}(hy:b[j]?=some y)(h:∀x∈a.toList.drop i,R y x=true):ML' R a b (o.push y) i (j+1):=by
 have e:=dr hy;have m2:=ML.ty (P:=[y]) (Y:=b.toList.drop (j+1)) (by rw[List.singleton_append,<- e];exact m) λp hp x hx=>by rw[AN.mp hp];exact h x hx
 rw[<- Cp]at m2;exact m2
def zaF {c:KA}(i k:Nat):c.toList.drop i=(c.toList.drop i).take k++c.toList.drop (i+k):=by rw[<- List.drop_drop,C7]
def ML.pxs (m:ML' R a b o i j)(k:Nat)(h:∀x∈(a.toList.drop i).take k,∀y∈b.toList.drop j,R x y=true):ML' R a b (o++a.extract i (i+k)) (i+k) j:=by have m2:=ML.tx (P:=(a.toList.drop i).take k) (X:=a.toList.drop (i+k)) (by rw[<- zaF];exact m) h;rw[<- ex_tk,<- BR]at m2;exact m2
def ML.pys (m:ML' R a b o i j)(k:Nat)(h:∀y∈(b.toList.drop j).take k,∀x∈a.toList.drop i,R y x=true):ML' R a b (o++b.extract j (j+k)) i (j+k):=by have m2:=ML.ty (P:=(b.toList.drop j).take k) (Y:=b.toList.drop (j+k)) (by rw[<- zaF];exact m) h;rw[<- ex_tk,<- BR]at m2;exact m2
def lo4_ok (c:MC it R a b)(e0:SG t st)(m:ML' R a b o i j)(h1:i+1<a.size)(h2:j<b.size)(hn:n<=i+j)(hx:∀x,a[i]?=some x->∀y∈b.toList.drop j,R x y=true):wpS M A E s (lo4 a b o i j g k l) (FL R a b t n) st:=by
 obtain⟨x,ex⟩:=zx (a:=a) (i:=i) ⋯;have m2:=m.px ex (hx x ex);unfold lo4;refine Aa (jJ ex ?_);by_cases c1:(i+1+1==a.size)=true
 ·rw[if_pos c1];exact Ai ⟨e0,.inl ⟨_,O,m2.la c (by simpa using c1)⟩⟩
 rw[if_neg c1];have eD:i+1+1≠a.size:=λz=>c1 (by simpa using z);have gl:GL R a b (o.push x) (i+1) j n:=⟨m2,⋯,h2,⋯⟩
 by_cases c2:(decide (k<7)&&decide (l<7))=true
 ·rw[if_pos c2];exact Ai ⟨e0,.inr ⟨O,gl⟩⟩
 ·rw[if_neg c2];exact Ai ⟨e0,O,gl⟩
def MC.no (C:Cm prog w A s κ it R)(c:MC it R a b){x y:Keyed}(hx:x∈a.toList)(hy:y∈b.toList)(h:R y x=false):R x y=true:=
 C.tot y (c.ib y hy) x (c.ia x hx) (λz=>by have:=(DE.mp c.nd).2.2 x hx y hy;exact this z.symm) h
def lo3_ok (C:Cm prog w A s κ it R)(c:MC it R a b)(hk:kindOf st=κ)(e0:SG t st)(m:ML' R a b o i j)(h1:i+1<a.size)(h2:j<b.size)(hn:n<=i+j)(hy:∀y,b[j]?=some y->∀x∈a.toList.drop i,R y x=true):wpS (model prog w) A E s (lo3 a b o i j g k l) (FL R a b t n) st:=by
 obtain⟨y,ey⟩:=zx (a:=b) (i:=j) h2;obtain⟨x,ex⟩:=zx (a:=a) (i:=i) ⋯;have m2:=m.py ey (hy y ey);unfold lo3;refine Aa (jJ ey ?_);by_cases c1:(j+1==b.size)=true
 ·rw[if_pos c1];exact Ai ⟨e0,.inl ⟨_,O,m2.dnb (by simpa using c1)⟩⟩
 rw[if_neg c1];have eD:j+1≠b.size:=λz=>c1 (by simpa using z);refine Aa (jJ ex (Aa (wN C (f:=λt=>match b[j+1+t]? with|some z=>R z x|none=>false) hk (c.ia x (zu ex)) (λt ht=>?_) (λp q pq hq h=>?_) ⋯ λm' k1 k2 k3=>?_)))
 ·obtain⟨z,ez⟩:=zx (a:=b) (i:=j+1+t) ⋯;exact⟨z,ez,c.ib z (zu ez),by simp only[ez];rfl⟩
 ·obtain⟨z,ez⟩:=zx (a:=b) (i:=j+1+q) ⋯;obtain⟨z',bq⟩:=zx (a:=b) (i:=j+1+p) ⋯;simp only[ez]at h;simp only[bq]
  rcases Ay pq with e|e
  ·rw[e,ez]at bq;rw[<- AH bq];exact h
  ·exact C.tr z' (c.ib z' (zu bq)) z (c.ib z (zu ez)) x (c.ia x (zu ex)) (Zf c.sb ⋯ bq ez) h
 have ax:∀u∈a.toList.drop i,u=x\/R x u=true:=λu hu=>by
  obtain⟨q,q1,q2⟩:=JB.mp hu
  rcases Ay q1 with e|e
  ·rw[<- e,ex]at q2;exact .inl (AH q2).symm
  ·exact .inr (Zf c.sa e ex q2)
 have m3:=m2.pys m' λz hz u hu=>by
  obtain⟨q,q1,q2,q3⟩:=Y4 hz;have f1:=k2 (q-(j+1)) ⋯;rw[show j+1+(q-(j+1))=q by lia]at f1;simp only[q3]at f1
  rcases ax u hu with rfl|h
  ·exact f1
  ·exact C.tr z (c.ib z (zu q3)) x (c.ia x (zu ex)) u (c.ia u (DM hu)) f1 h
 have lO:j+1+m'<b.size->∀x',a[i]?=some x'->∀u∈b.toList.drop (j+1+m'),R x' u=true:=λaA x' dj u hu=>by
  rw[ex]at dj;cases dj;obtain⟨z,ez⟩:=zx (a:=b) (i:=j+1+m') aA;have f1:=k3 m' (AI _) ⋯;simp only[ez]at f1;have f2:=c.no C (zu ex) (zu ez) f1;obtain⟨q,q1,q2⟩:=JB.mp hu
  rcases Ay q1 with e|e
  ·rw[<- e,ez]at q2;rw[<- AH q2];exact f2
  ·exact C.tr x (c.ia x (zu ex)) z (c.ib z (zu ez)) u (c.ib u (zu q2)) f2 (Zf c.sb e ez q2)
 dsimp only;by_cases c2:m' > 0
 ·rw[if_pos c2];by_cases c3:(j+1+m'==b.size)=true
  ·rw[if_pos c3];exact Ai ⟨e0,.inl ⟨_,O,m3.dnb (by simpa using c3)⟩⟩
  rw[if_neg c3];have uK:j+1+m'≠b.size:=λz=>c3 (by simpa using z);exact lo4_ok c e0 m3 h1 ⋯ ⋯ (lO ⋯)
 ·rw[if_neg c2];obtain rfl:m'=0:=⋯;exact lo4_ok c e0 m2 h1 ⋯ ⋯ (lO ⋯)
def sG_ok {Q:Unit->SortSt->Prop}(h:∀u,SG st u->Q () u):wpS M A E s (sG' g) Q st:=Ey (h _ ⟨rfl,rfl,rfl,rfl⟩)
def SG.tr {u v:SortSt}(h:SG t u)(k:SG u v):SG t v:=⟨k.1.trans h.1,k.2.1.trans h.2.1,k.2.2.1.trans h.2.2.1,k.2.2.2.trans h.2.2.2⟩
def lo2_ok (C:Cm prog w A s κ it R)(c:MC it R a b)(hk:kindOf st=κ)(e0:SG t st)(m:ML' R a b o i j)(h1:i+1<a.size)(h2:j<b.size)(hn:n<=i+j):wpS (model prog w) A E s (lo2 a b o i j g k l) (FL R a b t n) st:=by
 obtain⟨y,ey⟩:=zx (a:=b) (i:=j) h2;unfold lo2;refine Aa (sG_ok λu su=>?_);have e1:=e0.tr su;have d8:kindOf u=κ:=su.1.trans hk;refine Aa (jJ ey (Aa (wN C (f:=λt=>match a[i+t]? with|some z=>!R y z|none=>false) d8 (c.ib y (zu ey)) (λt ht=>?_) (λp q pq hq h=>?_) ⋯ λm' k1 k2 k3=>?_)))
 ·obtain⟨z,ez⟩:=zx (a:=a) (i:=i+t) ⋯;exact⟨z,ez,c.ia z (zu ez),by simp only[ez];rfl⟩
 ·obtain⟨z,ez⟩:=zx (a:=a) (i:=i+q) ⋯;obtain⟨z',bq⟩:=zx (a:=a) (i:=i+p) ⋯;simp only[ez]at h;simp only[bq]
  rcases Ay pq with e|e
  ·rw[e,ez]at bq;rw[<- AH bq];exact h
  ·have h':R y z=false:=by simpa using h
   have f1:=c.no C (zu ez) (zu ey) h';have f2:=C.tr z' (c.ia z' (zu bq)) z (c.ia z (zu ez)) y (c.ib y (zu ey)) (Zf c.sa ⋯ bq ez) f1;rw[C.asym z' (c.ia z' (zu bq)) y (c.ib y (zu ey)) f2];rfl
 have Nf:∀u∈b.toList.drop j,u=y\/R y u=true:=λu hu=>by
  obtain⟨q,q1,q2⟩:=JB.mp hu
  rcases Ay q1 with e|e
  ·rw[<- e,ey]at q2;exact .inl (AH q2).symm
  ·exact .inr (Zf c.sb e ey q2)
 have m3:=m.pxs m' λz hz u hu=>by
  obtain⟨q,q1,q2,q3⟩:=Y4 hz;have f1:=k2 (q-i) ⋯;rw[show i+(q-i)=q by lia]at f1;simp only[q3]at f1;have f2:=c.no C (zu q3) (zu ey) (by simpa using f1)
  rcases Nf u hu with rfl|h
  ·exact f2
  ·exact C.tr z (c.ia z (zu q3)) y (c.ib y (zu ey)) u (c.ib u (DM hu)) f2 h
 have lJ:i+m'<a.size->∀y',b[j]?=some y'->∀u∈a.toList.drop (i+m'),R y' u=true:=λaA y' nQ u hu=>by
  rw[ey]at nQ;cases nQ;obtain⟨z,ez⟩:=zx (a:=a) (i:=i+m') aA;have f1:=k3 m' (AI _) ⋯;simp only[ez]at f1;have f2:R y z=true:=by simpa using f1
  obtain⟨q,q1,q2⟩:=JB.mp hu
  rcases Ay q1 with e|e
  ·rw[<- e,ez]at q2;rw[<- AH q2];exact f2
  ·exact C.tr y (c.ib y (zu ey)) z (c.ia z (zu ez)) u (c.ia u (zu q2)) f2 (Zf c.sa e ez q2)
 dsimp only;by_cases c2:m' > 0
 ·rw[if_pos c2];by_cases c3:(i+m'+1==a.size)=true
  ·rw[if_pos c3];exact Ai ⟨e1,.inl ⟨_,O,m3.la c (by simpa using c3)⟩⟩
  rw[if_neg c3];have uK:i+m'+1≠a.size:=λz=>c3 (by simpa using z);by_cases c4:(i+m'==a.size)=true
  ·rw[if_pos c4];exact Ai ⟨e1,.inl ⟨_,O,m3.dna (by simpa using c4)⟩⟩
  rw[if_neg c4];have Nd:i+m'≠a.size:=λz=>c4 (by simpa using z);exact lo3_ok C c d8 e1 m3 ⋯ h2 ⋯ (lJ ⋯)
 ·rw[if_neg c2];obtain rfl:m'=0:=⋯;exact lo3_ok C c d8 e1 m h1 h2 hn (lJ ⋯)
def lo1_ok (C:Cm prog w A s κ it R)(c:MC it R a b)(hk:kindOf st=κ)(e0:SG t st){d:LS}(g:GL R a b d.2.1 d.2.2.1 d.2.2.2.1 n):wpS (model prog w) A E s (lo1 a b d) (FL R a b t (n+1)) st:=by
 unfold lo1;obtain⟨m,h1,h2,h3⟩:=g;split
 ·exact lo2_ok C c hk e0 m h1 h2 h3
 ·exact lo2_ok C c hk e0 m h1 h2 h3
def FI (R:Keyed->Keyed->Bool)(a b:KA)(t:SortSt)(n:Nat):ForInStep LI->SortSt->Prop
 |.done c,u=>t=u/\((∃r,c.1=some r/\RS R a b r)\/(c.1=none/\GL R a b c.2.1 c.2.2.1 c.2.2.2.1 n))
 |.yield c,u=>t=u/\c.1=none/\GL R a b c.2.1 c.2.2.1 c.2.2.2.1 n
def loI_ok (C:Cm prog w A s κ it R)(c:MC it R a b)(hk:kindOf st=κ){d:LI}(gl:GL R a b d.2.1 d.2.2.1 d.2.2.2.1 n):wpS (model prog w) A E s (loI a b g d) (FI R a b st (n+1)) st:=by
 obtain⟨m,h1,h2,h3⟩:=gl;obtain⟨y,ey⟩:=zx (a:=b) (i:=d.2.2.2.1) h2;obtain⟨x,ex⟩:=zx (a:=a) (i:=d.2.2.1) ⋯;unfold loI;refine Aa (jJ ey (Aa (jJ ex (Aa (zaD C hk (c.ib y (zu ey)) (c.ia x (zu ex)) ?_)))));dsimp only;cases hr:R y x with
 |true=>
  rw[if_pos rfl];have m2:=m.py ey λu hu=>by
   obtain⟨q,q1,q2⟩:=JB.mp hu
   rcases Ay q1 with e|e
   ·rw[<- e,ex]at q2;rw[<- AH q2];exact hr
   ·exact C.tr y (c.ib y (zu ey)) x (c.ia x (zu ex)) u (c.ia u (zu q2)) hr (Zf c.sa e ex q2)
  refine Aa (jJ ey ?_);by_cases c1:(d.2.2.2.1+1==b.size)=true
  ·rw[if_pos c1];exact Ai ⟨O,.inl ⟨_,O,m2.dnb (by simpa using c1)⟩⟩
  rw[if_neg c1];have eD:d.2.2.2.1+1≠b.size:=λz=>c1 (by simpa using z);have gl:GL R a b (d.2.1.push y) d.2.2.1 (d.2.2.2.1+1) (n+1):=⟨m2,h1,⋯,⋯⟩
  split
  ·exact Ai ⟨O,.inr ⟨O,gl⟩⟩
  ·exact Ai ⟨O,O,gl⟩
 |false=>
  rw[if_neg ∅];have f2:=c.no C (zu ex) (zu ey) hr;have m2:=m.px ex λu hu=>by
   obtain⟨q,q1,q2⟩:=JB.mp hu
   rcases Ay q1 with e|e
   ·rw[<- e,ey]at q2;rw[<- AH q2];exact f2
   ·exact C.tr x (c.ia x (zu ex)) y (c.ib y (zu ey)) u (c.ib u (zu q2)) f2 (Zf c.sb e ey q2)
  refine Aa (jJ ex ?_);by_cases c1:(d.2.2.1+1+1==a.size)=true
  ·rw[if_pos c1];exact Ai ⟨O,.inl ⟨_,O,m2.la c (by simpa using c1)⟩⟩
  rw[if_neg c1];have eD:d.2.2.1+1+1≠a.size:=λz=>c1 (by simpa using z);have gl:GL R a b (d.2.1.push x) (d.2.2.1+1) d.2.2.2.1 (n+1):=⟨m2,⋯,h2,⋯⟩
  split
  ·exact Ai ⟨O,.inr ⟨O,gl⟩⟩
  ·exact Ai ⟨O,O,gl⟩
def GL.le {n':Nat}(h:GL R a b o i j n)(e:n'<=n):GL R a b o i j n':=⟨h.1,h.2.1,h.2.2.1,by have:=h.2.2.2;lia⟩
def FO (R:Keyed->Keyed->Bool)(a b:KA)(t:SortSt)(n:Nat):ForInStep LO->SortSt->Prop
 |.done c,u=>SG t u/\∃r,c.1=some r/\RS R a b r
 |.yield c,u=>SG t u/\c.1=none/\GL R a b c.2.1 c.2.2.1 c.2.2.2.1 n
def loO_ok (C:Cm prog w A s κ it R)(c:MC it R a b)(hk:kindOf st=κ)(e0:SG t st){d:LO}(gl:GL R a b d.2.1 d.2.2.1 d.2.2.2.1 n):wpS (model prog w) A E s (loO a b d) (FO R a b t (n+1)) st:=by
 unfold loO;refine Aa (CB (Bk (I:=λx e u=>st=u/\e.1=none/\GL R a b e.2.1 e.2.2.1 e.2.2.2.1 (n+x)) (Q:=λe u=>st=u/\((∃r,e.1=some r/\RS R a b r)\/(e.1=none/\GL R a b e.2.1 e.2.2.1 e.2.2.2.1 (n+1)))) ?_ ?_ ⟨O,O,gl⟩) ?_)
 ·rintro x e u _ _ ⟨rfl,he,ge⟩;refine CB (loI_ok C c hk ge) λr v h=>?_;cases r with
  |done e'=>
   obtain⟨h1,h2|h2⟩:=h
   ·exact⟨h1,.inl h2⟩
   ·exact⟨h1,.inr ⟨h2.1,h2.2.le ⋯⟩⟩
  |yield e'=>exact h
 ·rintro e u ⟨rfl,he,ge⟩;refine⟨O,.inr ⟨he,ge.le ?_⟩⟩;have:=c.a1;lia
 rintro⟨r,d'⟩ u ⟨rfl,h⟩;cases r with
 |some r=>
  obtain⟨r',e,h⟩:=h.resolve_right λz=>by cases z.1
  cases e;exact Ai ⟨e0,r,O,h⟩
 |none=>
  have ux:=(h.resolve_left λ⟨_,z,_⟩=>by cases z).2;dsimp only;refine Aa (wpS_lift (Bm ⟨O,?_⟩));refine Aa (CB (Bk (I:=λx e u=>SG t u/\e.1=none/\GL R a b e.2.1 e.2.2.1 e.2.2.2.1 (n+1+x)) (Q:=λe u=>SG t u/\((∃r,e.1=some r/\RS R a b r)\/(e.1=none/\GL R a b e.2.1 e.2.2.1 e.2.2.2.1 (n+1)))) ?_ ?_ ⟨e0,O,ux⟩) ?_)
  ·rintro x e u _ _ ⟨hu,he,ge⟩;refine CB (lo1_ok C c (hu.1.trans (e0.1.symm.trans hk)) hu ge) λr v h=>?_;cases r with
   |done e'=>
    obtain⟨h1,h2|h2⟩:=h
    ·exact⟨h1,.inl h2⟩
    ·exact⟨h1,.inr ⟨h2.1,h2.2.le ⋯⟩⟩
   |yield e'=>exact h
  ·rintro e u ⟨hu,he,ge⟩;exact⟨hu,.inr ⟨he,ge.le ⋯⟩⟩
  rintro⟨r,d'⟩ u ⟨hu,h⟩;cases r with
  |some r=>
   obtain⟨r',e,h⟩:=h.resolve_right λz=>by cases z.1
   cases e;exact Ai ⟨hu,r,O,h⟩
  |none=>have uv:=(h.resolve_left λ⟨_,z,_⟩=>by cases z).2;exact Aa (sG_ok λv hv=>Ai ⟨hu.tr hv,O,uv⟩)
def mLo_ok (C:Cm prog w A s κ it R)(c:MC it R a b)(hk:kindOf st=κ){Q:KA->SortSt->Prop}(q:∀r u,SG st u->RS R a b r->Q r u):wpS (model prog w) A E s (mLo' a b) Q st:=by
 have a1:=c.a1;have b1:=c.b1;obtain⟨y,ey⟩:=zx (a:=b) (i:=0) ⋯;obtain⟨x,ex⟩:=zx (a:=a) (i:=0) ⋯;have s0:SG st st:=⟨rfl,rfl,rfl,rfl⟩
 have yx:=c.fst x y ex ey;have m0:ML' R a b #[y] 0 1:=by
  have:=ML.py (o:=#[]) (i:=0) (j:=0) (R:=R) (a:=a) (b:=b) ⟨c.sa,c.sb,DO _⟩ ey λu hu=>by
   obtain⟨q,q1,q2⟩:=JB.mp hu
   rcases Ay q1 with e|e
   ·rw[<- e,ex]at q2;rw[<- AH q2];exact yx
   ·exact C.tr y (c.ib y (zu ey)) x (c.ia x (zu ex)) u (c.ia u (zu q2)) yx (Zf c.sa e ex q2)
  exact this
 rw[mLo_eq];refine Aa (wpS_lift (Bm ⟨O,?_⟩));refine Aa (jJ ey ?_);by_cases c1:(1==b.size)=true
 ·rw[if_pos c1];exact Ai (q _ _ s0 (m0.dnb (by simpa using c1)))
 rw[if_neg c1];have eD:1≠b.size:=λz=>c1 (by simpa using z);by_cases c2:(0+1==a.size)=true
 ·rw[if_pos c2];exact Ai (q _ _ s0 (m0.la c (by simpa using c2)))
 rw[if_neg c2];have uL:0+1≠a.size:=λz=>c2 (by simpa using z);refine Aa (wpS_get (Aa (CB (Bk (I:=λx d u=>SG st u/\d.1=none/\GL R a b d.2.1 d.2.2.1 d.2.2.2.1 x) (Q:=λd u=>SG st u/\∃r,d.1=some r/\RS R a b r) ?_ ?_ ⟨s0,O,m0,by show 0+1<_;lia,by show 1<_;lia,by show 0<0+1;decide⟩) ?_)))
 ·rintro x d u _ _ ⟨hu,hd,gd⟩;refine CB (loO_ok C c (hu.1.trans hk) hu gd) λr v h=>?_;cases r with
  |done d'=>exact h
  |yield d'=>exact h
 ·rintro d u ⟨hu,hd,gd⟩;have:=gd.2.2.2;have:=gd.2.1;have:=gd.2.2.1;lia
 rintro⟨r,d⟩ u ⟨hu,r',e,hr⟩;cases e;exact Ai (q _ _ hu hr)
end
def mHi_eq0 (a b:KA):mHi' a b=(do
 rule "list.sort.merge-hi"
 let tl:=a.size+b.size
 let dn (o:KA) (i j:Nat):=a.extract 0 i++b.extract 0 j++o.reverse
 let fb (o:KA) (i j:Nat):=b.extract 0 j++a.extract 0 i++o.reverse
 let mut i:=a.size-1
 let mut j:=b.size
 let mut o:KA:=#[<- elem' a i]
 if i==0 then return dn o i j
 if j==1 then return fb o i j
 let mut g:=gallopOf (<- get)
 for _ in [0:tl] do
  let mut ac:=0
  let mut bc:=0
  for _ in [0:tl] do
   let some aw <- lt' (<- elem' b (j-1)) (<- elem' a (i-1))|return dn o i j
   if aw then
    i:=i-1;o:=o.push (<- elem' a i);ac:=ac+1;bc:=0
    if i==0 then return dn o i j
    if ac ≥ g then break
   else
    j:=j-1;o:=o.push (<- elem' b j);bc:=bc+1;ac:=0
    if j==1 then return fb o i j
    if bc ≥ g then break
  rule "list.sort.gallop"
  g:=g+1
  for _ in [0:tl] do
   if g > 1 then g:=g-1
   sG' g
   let some z <- Xj false (<- elem' b (j-1)) a 0 i (i-1)|return dn o i j
   let k:=i-z
   ac:=k
   if k > 0 then
    o:=o++(a.extract z i).reverse;i:=z
    if i==0 then return dn o i j
   j:=j-1;o:=o.push (<- elem' b j)
   if j==1 then return fb o i j
   let some z <- Xj true (<- elem' a (i-1)) b 0 j (j-1)|return dn o i j
   let k:=j-z
   bc:=k
   if k > 0 then
    o:=o++(b.extract z j).reverse;j:=z
    if j==1 then return fb o i j
    if j==0 then return dn o i j
   i:=i-1;o:=o.push (<- elem' a i)
   if i==0 then return dn o i j
   if ac<7&&bc<7 then break
  g:=g+1
  sG' g
 unsupported "internal:list.sort.merge-bound"):=rfl
abbrev HS:=Option KA×Nat×Nat×KA×Nat×Nat×Nat
def dnH (a b o:KA)(i j:Nat):KA:=a.extract 0 i++b.extract 0 j++o.reverse
def fbH (a b o:KA)(i j:Nat):KA:=b.extract 0 j++a.extract 0 i++o.reverse
def hi4 (a b o:KA)(i j g k l:Nat):SM (ForInStep HS):=do
 let x <- elem' a (i-1)
 if i-1==0 then return .done (some (dnH a b (o.push x) (i-1) j),i-1,j,o.push x,g,k,l)
 if k<7&&l<7 then return .done (none,i-1,j,o.push x,g,k,l)
 return .yield (none,i-1,j,o.push x,g,k,l)
def hi3 (a b o:KA)(i j g k l:Nat):SM (ForInStep HS):=do
 let y <- elem' b (j-1)
 if j-1==1 then return .done (some (fbH a b (o.push y) i (j-1)),i,j-1,o.push y,g,k,l)
 match <- Xj true (<- elem' a (i-1)) b 0 (j-1) (j-1-1) with
 |some z=>
  if j-1-z > 0 then
   if z==1 then return .done (some (fbH a b (o.push y++(b.extract z (j-1)).reverse) i z),i,z,o.push y++(b.extract z (j-1)).reverse,g,k,j-1-z)
   if z==0 then return .done (some (dnH a b (o.push y++(b.extract z (j-1)).reverse) i z),i,z,o.push y++(b.extract z (j-1)).reverse,g,k,j-1-z)
   hi4 a b (o.push y++(b.extract z (j-1)).reverse) i z g k (j-1-z)
  else hi4 a b (o.push y) i (j-1) g k (j-1-z)
 |_=>return .done (some (dnH a b (o.push y) i (j-1)),i,j-1,o.push y,g,k,l)
def hi2 (a b o:KA)(i j g k l:Nat):SM (ForInStep HS):=do
 sG' g
 match <- Xj false (<- elem' b (j-1)) a 0 i (i-1) with
 |some z=>
  if i-z > 0 then
   if z==0 then return .done (some (dnH a b (o++(a.extract z i).reverse) z j),z,j,o++(a.extract z i).reverse,g,i-z,l)
   hi3 a b (o++(a.extract z i).reverse) z j g (i-z) l
  else hi3 a b o i j g (i-z) l
 |_=>return .done (some (dnH a b o i j),i,j,o,g,k,l)
def hi1 (a b:KA)(c:HS):SM (ForInStep HS):=if c.2.2.2.2.1 > 1 then hi2 a b c.2.2.2.1 c.2.1 c.2.2.1 (c.2.2.2.2.1-1) c.2.2.2.2.2.1 c.2.2.2.2.2.2 else hi2 a b c.2.2.2.1 c.2.1 c.2.2.1 c.2.2.2.2.1 c.2.2.2.2.2.1 c.2.2.2.2.2.2
abbrev HI:=Option KA×Nat×Nat×KA×Nat×Nat
def hiI (a b:KA)(g:Nat)(c:HI):SM (ForInStep HI):=do
 match <- lt' (<- elem' b (c.2.2.1-1)) (<- elem' a (c.2.1-1)) with
 |some w=>
  if w then
   let x <- elem' a (c.2.1-1)
   if c.2.1-1==0 then return .done (some (dnH a b (c.2.2.2.1.push x) (c.2.1-1) c.2.2.1),c.2.1-1,c.2.2.1,c.2.2.2.1.push x,c.2.2.2.2.1+1,0)
   if c.2.2.2.2.1+1 ≥ g then return .done (none,c.2.1-1,c.2.2.1,c.2.2.2.1.push x,c.2.2.2.2.1+1,0)
   return .yield (none,c.2.1-1,c.2.2.1,c.2.2.2.1.push x,c.2.2.2.2.1+1,0)
  else
   let y <- elem' b (c.2.2.1-1)
   if c.2.2.1-1==1 then return .done (some (fbH a b (c.2.2.2.1.push y) c.2.1 (c.2.2.1-1)),c.2.1,c.2.2.1-1,c.2.2.2.1.push y,0,c.2.2.2.2.2+1)
   if c.2.2.2.2.2+1 ≥ g then return .done (none,c.2.1,c.2.2.1-1,c.2.2.2.1.push y,0,c.2.2.2.2.2+1)
   return .yield (none,c.2.1,c.2.2.1-1,c.2.2.2.1.push y,0,c.2.2.2.2.2+1)
 |_=>return .done (some (dnH a b c.2.2.2.1 c.2.1 c.2.2.1),c.2.1,c.2.2.1,c.2.2.2.1,c.2.2.2.2.1,c.2.2.2.2.2)
abbrev HO':=Option KA×Nat×Nat×KA×Nat
def hiO (a b:KA)(c:HO'):SM (ForInStep HO'):=do
 let d <- forIn [0:a.size+b.size] ((none,c.2.1,c.2.2.1,c.2.2.2.1,0,0):HI) λ_ d=>hiI a b c.2.2.2.2 d
 match d.1 with
 |some r=>return .done (some r,d.2.1,d.2.2.1,d.2.2.2.1,c.2.2.2.2)
 |none=>
  rule "list.sort.gallop"
  let e <- forIn [0:a.size+b.size] ((none,d.2.1,d.2.2.1,d.2.2.2.1,c.2.2.2.2+1,d.2.2.2.2.1,d.2.2.2.2.2):HS) λ_ e=>hi1 a b e
  match e.1 with
  |some r=>return .done (some r,e.2.1,e.2.2.1,e.2.2.2.1,e.2.2.2.2.1)
  |none=>
   sG' (e.2.2.2.2.1+1)
   return .yield (none,e.2.1,e.2.2.1,e.2.2.2.1,e.2.2.2.2.1+1)
def mHi_eq (a b:KA):mHi' a b=(do
 rule "list.sort.merge-hi"
 let x <- elem' a (a.size-1)
 if a.size-1==0 then return dnH a b #[x] (a.size-1) b.size
 if b.size==1 then return fbH a b #[x] (a.size-1) b.size
 let t <- get
 let c <- forIn [0:a.size+b.size] ((none,a.size-1,b.size,#[x],gallopOf t):HO') λ_ c=>hiO a b c
 match c.1 with
 |some r=>return r
 |none=>unsupported "internal:list.sort.merge-bound"):=by
 rw[mHi_eq0];dsimp only
 congr 1
 funext _
 congr 1
 funext y
 refine ite_congr rfl (λ_=>rfl) (λ_=>?_);refine ite_congr rfl (λ_=>rfl) (λ_=>?_)
 congr 1
 funext t
 congr 1
 ·congr 1
  funext _ c
  unfold hiO
  congr 1
  ·funext d
   obtain⟨r,d⟩:=d;cases r with
   |some r=>rfl
   |none=>
    dsimp only
    congr 1
    funext _
    congr 1
    funext e
    obtain⟨r,e⟩:=e;cases r <;> rfl
 ·funext c
  obtain⟨r,c⟩:=c;cases r <;> rfl
structure MH (R:Keyed->Keyed->Bool)(a b:KA)(Oo X Y:List Keyed):Prop where
 sx:Srt R (X++Oo)
 sy:Srt R (Y++Oo)
 pm:(X++Y++Oo).Perm (a.toList++b.toList)
section
variable {prog:Program}{w:World}{A:Around}{E:TB}{s:Shared}{κ:SortKind}{it:List Keyed}{R:Keyed->Keyed->Bool}{st t:SortSt}{M:Model}{a b o:KA}{i j g k l n:Nat}
def zaG {Oo P X Y:List Keyed}(h1:Srt R ((X++P)++Oo))(h2:Srt R (Y++Oo))(h:∀p∈P,∀y∈Y,R y p=true):Srt R (X++(P++Oo))/\Srt R (Y++(P++Oo)):=by
 unfold Srt at *;rw[A8]at h1;refine⟨h1,?_⟩;rw[Bq]at h1 h2 ⊢;refine⟨h2.1,h1.2.1,λy hy p hp=>?_⟩
 rcases AX.mp hp with hp|hp
 ·exact h p hp y hy
 ·exact h2.2.2 y hy p hp
def MH.ty {Oo P X Y:List Keyed}(m:MH R a b Oo X (Y++P))(h:∀p∈P,∀x∈X,R x p=true):MH R a b (P++Oo) X Y:=by obtain⟨h1,h2⟩:=zaG m.sy m.sx h;exact⟨h2,h1,by have:=m.pm;simpa only [List.append_assoc]using this⟩
def MH.tx {Oo P X Y:List Keyed}(m:MH R a b Oo (X++P) Y)(h:∀p∈P,∀y∈Y,R y p=true):MH R a b (P++Oo) X Y:=by obtain⟨h1,h2⟩:=zaG m.sx m.sy h;refine⟨h1,h2,List.Perm.trans ?_ m.pm⟩;simp only[List.append_assoc];refine DB _ ?_;rw[<- A8,<- A8];exact Em _ List.perm_append_comm
abbrev MH' (R:Keyed->Keyed->Bool) (a b o:KA) (i j:Nat):Prop:=MH R a b o.toList.reverse (a.toList.take i) (b.toList.take j)
def ex0 {c:KA}(i:Nat):(c.extract 0 i).toList=c.toList.take i:=by rw[B8,Bc,EK,FQ]
def Y5:(dnH a b o i j).toList=a.toList.take i++b.toList.take j++o.toList.reverse:=by unfold dnH;rw[BR,BR,ex0,ex0,EB]
def fbH_to:(fbH a b o i j).toList=b.toList.take j++a.toList.take i++o.toList.reverse:=by unfold fbH;rw[BR,BR,ex0,ex0,EB]
def MH.dna (m:MH' R a b o i j)(h:i=0):RS R a b (dnH a b o i j):=by subst h;have p:=m.pm;rw[Dj,CT]at p;exact⟨by rw[Y5,Dj,CT];exact m.sy,by rw[Y5,Dj,CT];exact p⟩
def MH.dnb (m:MH' R a b o i j)(h:j=0):RS R a b (dnH a b o i j):=by subst h;have p:=m.pm;rw[Dj,Az]at p;exact⟨by rw[Y5,Dj,Az];exact m.sx,by rw[Y5,Dj,Az];exact p⟩
def tk1 {c:KA}{i:Nat}{x:Keyed}(h:c[i]?=some x):c.toList.take (i+1)=c.toList.take i++[x]:=by rw[<- AY]at h;rw[List.take_succ,h];rfl
def tkm {c:KA}{i:Nat}{y:Keyed}(h:y∈c.toList.take i):∃q,q<i/\c[q]?=some y:=by obtain⟨q,_,h2,h3⟩:=Y4 (a:=c) (i:=0) (k:=i) (by rw[EK];exact h);exact⟨q,⋯,h3⟩
def MH.fb (C:Cm prog w A s κ it R)(c:MC it R a b)(m:MH' R a b o i j)(h:j=1):RS R a b (fbH a b o i j):=by
 subst h;have b1:=c.b1;have a1:=c.a1;obtain⟨y,ey⟩:=zx (a:=b) (i:=0) ⋯;obtain⟨x,ex⟩:=zx (a:=a) (i:=0) ⋯;have e:b.toList.take 1=[y]:=by rw[tk1 ey];rfl
 have yx:=c.fst x y ex ey;have m2:=MH.tx (P:=a.toList.take i) (X:=[]) (Y:=[y]) (Oo:=o.toList.reverse) (a:=a) (b:=b) (R:=R) ⟨m.sx,e ▸ m.sy,e ▸ m.pm⟩ λp hp z hz=>by
  rw[AN.mp hz];obtain⟨q,q1,q2⟩:=tkm hp
  rcases Dc q with h0|h0
  ·rw[h0,ex]at q2;rw[<- AH q2];exact yx
  ·exact C.tr y (c.ib y (zu ey)) x (c.ia x (zu ex)) p (c.ia p (zu q2)) yx (Zf c.sa h0 ex q2)
 have p:=m2.pm;rw[CT]at p;exact⟨by rw[fbH_to,e,A8];exact m2.sy,by rw[fbH_to,e,A8];exact p⟩
def MH.px (m:MH' R a b o (i+1) j){x:Keyed}(hx:a[i]?=some x)(h:∀y∈b.toList.take j,R y x=true):MH' R a b (o.push x) i j:=by
 have m2:=MH.tx (P:=[x]) (X:=a.toList.take i) (by rw[<- tk1 hx];exact m) λp hp y hy=>by rw[AN.mp hp];exact h y hy
 unfold MH';rw[Cp,EF];exact m2
def MH.py (m:MH' R a b o i (j+1)){y:Keyed}(hy:b[j]?=some y)(h:∀x∈a.toList.take i,R x y=true):MH' R a b (o.push y) i j:=by
 have m2:=MH.ty (P:=[y]) (Y:=b.toList.take j) (by rw[<- tk1 hy];exact m) λp hp x hx=>by rw[AN.mp hp];exact h x hx
 unfold MH';rw[Cp,EF];exact m2
def zaH {c:KA}{z i:Nat}(h:z<=i):c.toList.take i=c.toList.take z++(c.extract z i).toList:=by
 rw[B8,Bc]
 conv=>lhs;rw[show i=z+(i-z) by lia,List.take_add]
def exm {c:KA}{z i:Nat}{y:Keyed}(h:y∈(c.extract z i).toList):∃q,z<=q/\q<i/\c[q]?=some y:=by rw[B8,Bc]at h;obtain⟨q,h1,h2,h3⟩:=Y4 h;exact⟨q,h1,⋯,h3⟩
def MH.pxs (m:MH' R a b o i j){z:Nat}(hz:z<=i)(h:∀x∈(a.extract z i).toList,∀y∈b.toList.take j,R y x=true):MH' R a b (o++(a.extract z i).reverse) z j:=by have m2:=MH.tx (P:=(a.extract z i).toList) (X:=a.toList.take z) (by rw[<- zaH hz];exact m) h;unfold MH';rw[BR,EF,EB,List.reverse_reverse];exact m2
def MH.pys (m:MH' R a b o i j){z:Nat}(hz:z<=j)(h:∀y∈(b.extract z j).toList,∀x∈a.toList.take i,R x y=true):MH' R a b (o++(b.extract z j).reverse) i z:=by have m2:=MH.ty (P:=(b.extract z j).toList) (Y:=b.toList.take z) (by rw[<- zaH hz];exact m) h;unfold MH';rw[BR,EF,EB,List.reverse_reverse];exact m2
def GH (R:Keyed->Keyed->Bool)(a b o:KA)(i j n:Nat):Prop:=MH' R a b o i j/\1<=i/\i<=a.size/\2<=j/\j<=b.size/\n+i+j<a.size+b.size
def FH (R:Keyed->Keyed->Bool)(a b:KA)(t:SortSt)(n:Nat):ForInStep HS->SortSt->Prop
 |.done c,u=>SG t u/\((∃r,c.1=some r/\RS R a b r)\/(c.1=none/\GH R a b c.2.2.2.1 c.2.1 c.2.2.1 n))
 |.yield c,u=>SG t u/\c.1=none/\GH R a b c.2.2.2.1 c.2.1 c.2.2.1 n
def hi4_ok (e0:SG t st)(m:MH' R a b o i j)(h1:1<=i)(fQ:i<=a.size)(h2:2<=j)(fq:j<=b.size)(hn:n+i+j<=a.size+b.size)(hx:∀x,a[i-1]?=some x->∀y∈b.toList.take j,R y x=true):wpS M A E s (hi4 a b o i j g k l) (FH R a b t n) st:=by
 obtain⟨x,ex⟩:=zx (a:=a) (i:=i-1) ⋯;have m2:=MH.px (i:=i-1) (by rw[show i-1+1=i by lia];exact m) ex (hx x ex);unfold hi4;refine Aa (jJ ex ?_);by_cases c1:(i-1==0)=true
 ·rw[if_pos c1];exact Ai ⟨e0,.inl ⟨_,O,m2.dna (by simpa using c1)⟩⟩
 rw[if_neg c1];have eD:i-1≠0:=λz=>c1 (by simpa using z);have gl:GH R a b (o.push x) (i-1) j n:=⟨m2,⋯,⋯,h2,fq,⋯⟩
 split
 ·exact Ai ⟨e0,.inr ⟨O,gl⟩⟩
 ·exact Ai ⟨e0,O,gl⟩
def xW {c:KA}(hc:Srt R c.toList){i:Nat}{x u:Keyed}(ex:c[i-1]?=some x)(hu:u∈c.toList.take i):u=x\/R u x=true:=by
 obtain⟨q,q1,q2⟩:=tkm hu
 rcases Ay (show q<=i-1 by lia) with e|e
 ·rw[e,ex]at q2;exact .inl (AH q2).symm
 ·exact .inr (Zf hc e q2 ex)
def hi3_ok (C:Cm prog w A s κ it R)(c:MC it R a b)(hk:kindOf st=κ)(e0:SG t st)(m:MH' R a b o i j)(h1:1<=i)(fQ:i<=a.size)(h2:2<=j)(fq:j<=b.size)(hn:n+i+j<=a.size+b.size)(hy:∀y,b[j-1]?=some y->∀x∈a.toList.take i,R x y=true):wpS (model prog w) A E s (hi3 a b o i j g k l) (FH R a b t n) st:=by
 obtain⟨y,ey⟩:=zx (a:=b) (i:=j-1) ⋯;obtain⟨x,ex⟩:=zx (a:=a) (i:=i-1) ⋯;have m2:=MH.py (j:=j-1) (by rw[show j-1+1=j by lia];exact m) ey (hy y ey);unfold hi3;refine Aa (jJ ey ?_);by_cases c1:(j-1==1)=true
 ·rw[if_pos c1];exact Ai ⟨e0,.inl ⟨_,O,m2.fb C c (by simpa using c1)⟩⟩
 rw[if_neg c1];have eD:j-1≠1:=λz=>c1 (by simpa using z);refine Aa (jJ ex (Aa (wN C (f:=λt=>match b[0+t]? with|some z=>R z x|none=>false) hk (c.ia x (zu ex)) (λt ht=>?_) (λp q pq hq h=>?_) ⋯ λz k1 k2 k3=>?_)))
 ·obtain⟨z,ez⟩:=zx (a:=b) (i:=0+t) ⋯;exact⟨z,ez,c.ib z (zu ez),by simp only[ez];rfl⟩
 ·obtain⟨z,ez⟩:=zx (a:=b) (i:=0+q) ⋯;obtain⟨z',bq⟩:=zx (a:=b) (i:=0+p) ⋯;simp only[ez]at h;simp only[bq]
  rcases Ay pq with e|e
  ·rw[e,ez]at bq;rw[<- AH bq];exact h
  ·exact C.tr z' (c.ib z' (zu bq)) z (c.ib z (zu ez)) x (c.ia x (zu ex)) (Zf c.sb ⋯ bq ez) h
 simp only[Nat.zero_add]at k2 k3;have m3:=m2.pys (z:=z) ⋯ λv hv u hu=>by
  obtain⟨q,q1,q2,q3⟩:=exm hv;have f1:=k3 q q1 q2;simp only[q3]at f1;have f2:=c.no C (zu ex) (zu q3) f1
  rcases xW c.sa ex hu with rfl|h
  ·exact f2
  ·exact C.tr u (c.ia u (Br hu)) x (c.ia x (zu ex)) v (c.ib v (zu q3)) h f2
 have lO:∀x',a[i-1]?=some x'->∀u∈b.toList.take z,R u x'=true:=λx' dj u hu=>by rw[ex]at dj;cases dj;obtain⟨q,q1,q2⟩:=tkm hu;have f1:=k2 q q1;simp only[q2]at f1;exact f1
 dsimp only;by_cases c2:j-1-z > 0
 ·rw[if_pos c2];by_cases c3:(z==1)=true
  ·rw[if_pos c3];exact Ai ⟨e0,.inl ⟨_,O,m3.fb C c (by simpa using c3)⟩⟩
  rw[if_neg c3];have uK:z≠1:=λq=>c3 (by simpa using q);by_cases c4:(z==0)=true
  ·rw[if_pos c4];exact Ai ⟨e0,.inl ⟨_,O,m3.dnb (by simpa using c4)⟩⟩
  rw[if_neg c4];have Nd:z≠0:=λq=>c4 (by simpa using q);exact hi4_ok e0 m3 h1 fQ ⋯ ⋯ ⋯ lO
 ·rw[if_neg c2];obtain rfl:z=j-1:=⋯;exact hi4_ok e0 m2 h1 fQ ⋯ ⋯ ⋯ lO
def hi2_ok (C:Cm prog w A s κ it R)(c:MC it R a b)(hk:kindOf st=κ)(e0:SG t st)(m:MH' R a b o i j)(h1:1<=i)(fQ:i<=a.size)(h2:2<=j)(fq:j<=b.size)(hn:n+i+j<=a.size+b.size):wpS (model prog w) A E s (hi2 a b o i j g k l) (FH R a b t n) st:=by
 obtain⟨y,ey⟩:=zx (a:=b) (i:=j-1) ⋯;unfold hi2;refine Aa (sG_ok λu su=>?_);have e1:=e0.tr su;have d8:kindOf u=κ:=su.1.trans hk;refine Aa (jJ ey (Aa (wN C (f:=λt=>match a[0+t]? with|some z=>!R y z|none=>false) d8 (c.ib y (zu ey)) (λt ht=>?_) (λp q pq hq h=>?_) ⋯ λz k1 k2 k3=>?_)))
 ·obtain⟨z,ez⟩:=zx (a:=a) (i:=0+t) ⋯;exact⟨z,ez,c.ia z (zu ez),by simp only[ez];rfl⟩
 ·obtain⟨z,ez⟩:=zx (a:=a) (i:=0+q) ⋯;obtain⟨z',bq⟩:=zx (a:=a) (i:=0+p) ⋯;simp only[ez]at h;simp only[bq]
  rcases Ay pq with e|e
  ·rw[e,ez]at bq;rw[<- AH bq];exact h
  ·have f1:=c.no C (zu ez) (zu ey) (by simpa using h);have f2:=C.tr z' (c.ia z' (zu bq)) z (c.ia z (zu ez)) y (c.ib y (zu ey)) (Zf c.sa ⋯ bq ez) f1;rw[C.asym z' (c.ia z' (zu bq)) y (c.ib y (zu ey)) f2];rfl
 simp only[Nat.zero_add]at k2 k3;have m3:=m.pxs (z:=z) k1 λv hv u hu=>by
  obtain⟨q,q1,q2,q3⟩:=exm hv;have f1:=k3 q q1 q2;simp only[q3]at f1;have f2:R y v=true:=by simpa using f1
  rcases xW c.sb ey hu with rfl|h
  ·exact f2
  ·exact C.tr u (c.ib u (Br hu)) y (c.ib y (zu ey)) v (c.ia v (zu q3)) h f2
 have lJ:∀y',b[j-1]?=some y'->∀u∈a.toList.take z,R u y'=true:=λy' nQ u hu=>by rw[ey]at nQ;cases nQ;obtain⟨q,q1,q2⟩:=tkm hu;have f1:=k2 q q1;simp only[q2]at f1;exact c.no C (zu q2) (zu ey) (by simpa using f1)
 dsimp only;by_cases c2:i-z > 0
 ·rw[if_pos c2];by_cases c3:(z==0)=true
  ·rw[if_pos c3];exact Ai ⟨e1,.inl ⟨_,O,m3.dna (by simpa using c3)⟩⟩
  rw[if_neg c3];have uK:z≠0:=λq=>c3 (by simpa using q);exact hi3_ok C c d8 e1 m3 ⋯ ⋯ h2 fq ⋯ lJ
 ·rw[if_neg c2];obtain rfl:z=i:=⋯;exact hi3_ok C c d8 e1 m h1 fQ h2 fq hn lJ
def hi1_ok (C:Cm prog w A s κ it R)(c:MC it R a b)(hk:kindOf st=κ)(e0:SG t st){d:HS}(g:GH R a b d.2.2.2.1 d.2.1 d.2.2.1 n):wpS (model prog w) A E s (hi1 a b d) (FH R a b t (n+1)) st:=by
 unfold hi1;obtain⟨m,h1,h2,h3,h4,h5⟩:=g;split
 ·exact hi2_ok C c hk e0 m h1 h2 h3 h4 ⋯
 ·exact hi2_ok C c hk e0 m h1 h2 h3 h4 ⋯
def FJ (R:Keyed->Keyed->Bool)(a b:KA)(t:SortSt)(n:Nat):ForInStep HI->SortSt->Prop
 |.done c,u=>t=u/\((∃r,c.1=some r/\RS R a b r)\/(c.1=none/\GH R a b c.2.2.2.1 c.2.1 c.2.2.1 n))
 |.yield c,u=>t=u/\c.1=none/\GH R a b c.2.2.2.1 c.2.1 c.2.2.1 n
def hiI_ok (C:Cm prog w A s κ it R)(c:MC it R a b)(hk:kindOf st=κ){d:HI}(gl:GH R a b d.2.2.2.1 d.2.1 d.2.2.1 n):wpS (model prog w) A E s (hiI a b g d) (FJ R a b st (n+1)) st:=by
 obtain⟨m,h1,fQ,h2,fq,h3⟩:=gl;obtain⟨y,ey⟩:=zx (a:=b) (i:=d.2.2.1-1) ⋯;obtain⟨x,ex⟩:=zx (a:=a) (i:=d.2.1-1) ⋯;unfold hiI;refine Aa (jJ ey (Aa (jJ ex (Aa (zaD C hk (c.ib y (zu ey)) (c.ia x (zu ex)) ?_)))));dsimp only;cases hr:R y x with
 |true=>
  rw[if_pos rfl];have m2:=MH.px (i:=d.2.1-1) (by rw[show d.2.1-1+1=d.2.1 by lia];exact m) ex λu hu=>by
   rcases xW c.sb ey hu with rfl|h
   ·exact hr
   ·exact C.tr u (c.ib u (Br hu)) y (c.ib y (zu ey)) x (c.ia x (zu ex)) h hr
  refine Aa (jJ ex ?_);by_cases c1:(d.2.1-1==0)=true
  ·rw[if_pos c1];exact Ai ⟨O,.inl ⟨_,O,m2.dna (by simpa using c1)⟩⟩
  rw[if_neg c1];have eD:d.2.1-1≠0:=λz=>c1 (by simpa using z);have gl:GH R a b (d.2.2.2.1.push x) (d.2.1-1) d.2.2.1 (n+1):=⟨m2,⋯,⋯,h2,fq,⋯⟩
  split
  ·exact Ai ⟨O,.inr ⟨O,gl⟩⟩
  ·exact Ai ⟨O,O,gl⟩
 |false=>
  rw[if_neg ∅];have f2:=c.no C (zu ex) (zu ey) hr;have m2:=MH.py (j:=d.2.2.1-1) (by rw[show d.2.2.1-1+1=d.2.2.1 by lia];exact m) ey λu hu=>by
   rcases xW c.sa ex hu with rfl|h
   ·exact f2
   ·exact C.tr u (c.ia u (Br hu)) x (c.ia x (zu ex)) y (c.ib y (zu ey)) h f2
  refine Aa (jJ ey ?_);by_cases c1:(d.2.2.1-1==1)=true
  ·rw[if_pos c1];exact Ai ⟨O,.inl ⟨_,O,m2.fb C c (by simpa using c1)⟩⟩
  rw[if_neg c1];have eD:d.2.2.1-1≠1:=λz=>c1 (by simpa using z);have gl:GH R a b (d.2.2.2.1.push y) d.2.1 (d.2.2.1-1) (n+1):=⟨m2,h1,fQ,⋯,⋯,⋯⟩
  split
  ·exact Ai ⟨O,.inr ⟨O,gl⟩⟩
  ·exact Ai ⟨O,O,gl⟩
def GH.le {n':Nat}(h:GH R a b o i j n)(e:n'<=n):GH R a b o i j n':=⟨h.1,h.2.1,h.2.2.1,h.2.2.2.1,h.2.2.2.2.1,by have:=h.2.2.2.2.2;lia⟩
def FP (R:Keyed->Keyed->Bool)(a b:KA)(t:SortSt)(n:Nat):ForInStep HO'->SortSt->Prop
 |.done c,u=>SG t u/\∃r,c.1=some r/\RS R a b r
 |.yield c,u=>SG t u/\c.1=none/\GH R a b c.2.2.2.1 c.2.1 c.2.2.1 n
def hiO_ok (C:Cm prog w A s κ it R)(c:MC it R a b)(hk:kindOf st=κ)(e0:SG t st){d:HO'}(gl:GH R a b d.2.2.2.1 d.2.1 d.2.2.1 n):wpS (model prog w) A E s (hiO a b d) (FP R a b t (n+1)) st:=by
 unfold hiO;refine Aa (CB (Bk (I:=λx e u=>st=u/\e.1=none/\GH R a b e.2.2.2.1 e.2.1 e.2.2.1 (n+x)) (Q:=λe u=>st=u/\((∃r,e.1=some r/\RS R a b r)\/(e.1=none/\GH R a b e.2.2.2.1 e.2.1 e.2.2.1 (n+1)))) ?_ ?_ ⟨O,O,gl⟩) ?_)
 ·rintro x e u _ _ ⟨rfl,he,ge⟩;refine CB (hiI_ok C c hk ge) λr v h=>?_;cases r with
  |done e'=>
   obtain⟨h1,h2|h2⟩:=h
   ·exact⟨h1,.inl h2⟩
   ·exact⟨h1,.inr ⟨h2.1,h2.2.le ⋯⟩⟩
  |yield e'=>exact h
 ·rintro e u ⟨rfl,he,ge⟩;refine⟨O,.inr ⟨he,ge.le ?_⟩⟩;have:=c.a1;lia
 rintro⟨r,d'⟩ u ⟨rfl,h⟩;cases r with
 |some r=>
  obtain⟨r',e,h⟩:=h.resolve_right λz=>by cases z.1
  cases e;exact Ai ⟨e0,r,O,h⟩
 |none=>
  have ux:=(h.resolve_left λ⟨_,z,_⟩=>by cases z).2;dsimp only;refine Aa (wpS_lift (Bm ⟨O,?_⟩));refine Aa (CB (Bk (I:=λx e u=>SG t u/\e.1=none/\GH R a b e.2.2.2.1 e.2.1 e.2.2.1 (n+1+x)) (Q:=λe u=>SG t u/\((∃r,e.1=some r/\RS R a b r)\/(e.1=none/\GH R a b e.2.2.2.1 e.2.1 e.2.2.1 (n+1)))) ?_ ?_ ⟨e0,O,ux⟩) ?_)
  ·rintro x e u _ _ ⟨hu,he,ge⟩;refine CB (hi1_ok C c (hu.1.trans (e0.1.symm.trans hk)) hu ge) λr v h=>?_;cases r with
   |done e'=>
    obtain⟨h1,h2|h2⟩:=h
    ·exact⟨h1,.inl h2⟩
    ·exact⟨h1,.inr ⟨h2.1,h2.2.le ⋯⟩⟩
   |yield e'=>exact h
  ·rintro e u ⟨hu,he,ge⟩;exact⟨hu,.inr ⟨he,ge.le ⋯⟩⟩
  rintro⟨r,d'⟩ u ⟨hu,h⟩;cases r with
  |some r=>
   obtain⟨r',e,h⟩:=h.resolve_right λz=>by cases z.1
   cases e;exact Ai ⟨hu,r,O,h⟩
  |none=>have uv:=(h.resolve_left λ⟨_,z,_⟩=>by cases z).2;exact Aa (sG_ok λv hv=>Ai ⟨hu.tr hv,O,uv⟩)
def mHi_ok (C:Cm prog w A s κ it R)(c:MC it R a b)(hk:kindOf st=κ){Q:KA->SortSt->Prop}(q:∀r u,SG st u->RS R a b r->Q r u):wpS (model prog w) A E s (mHi' a b) Q st:=by
 have a1:=c.a1;have b1:=c.b1;obtain⟨x,ex⟩:=zx (a:=a) (i:=a.size-1) ⋯;have s0:SG st st:=⟨rfl,rfl,rfl,rfl⟩
 have m0:MH' R a b #[x] (a.size-1) b.size:=by have ta:a.toList.take (a.size-1+1)=a.toList:=BX (by rw[Ad];lia);have tb:b.toList.take b.size=b.toList:=BX (by rw[Ad];exact AI _);have:=MH.px (o:=#[]) (i:=a.size-1) (j:=b.size) (R:=R) (a:=a) (b:=b) ⟨by rw[ta];simpa using c.sa,by rw[tb];simpa using c.sb,by rw[ta,tb];simp⟩ ex λu hu=>c.lst x ex u (Br hu);exact this
 rw[mHi_eq];refine Aa (wpS_lift (Bm ⟨O,?_⟩));refine Aa (jJ ex ?_);by_cases c1:(a.size-1==0)=true
 ·rw[if_pos c1];exact Ai (q _ _ s0 (m0.dna (by simpa using c1)))
 rw[if_neg c1];have eD:a.size-1≠0:=λz=>c1 (by simpa using z);by_cases c2:(b.size==1)=true
 ·rw[if_pos c2];exact Ai (q _ _ s0 (m0.fb C c (by simpa using c2)))
 rw[if_neg c2];have uL:b.size≠1:=λz=>c2 (by simpa using z);refine Aa (wpS_get (Aa (CB (Bk (I:=λx d u=>SG st u/\d.1=none/\GH R a b d.2.2.2.1 d.2.1 d.2.2.1 x) (Q:=λd u=>SG st u/\∃r,d.1=some r/\RS R a b r) ?_ ?_ ⟨s0,O,m0,by show 1<=a.size-1;lia,by show a.size-1<=_;lia,by show 2<=b.size;lia,AI _,by show 0+(a.size-1)+b.size<_;lia⟩) ?_)))
 ·rintro x d u _ _ ⟨hu,hd,gd⟩;refine CB (hiO_ok C c (hu.1.trans hk) hu gd) λr v h=>?_;cases r with
  |done d'=>exact h
  |yield d'=>exact h
 ·rintro d u ⟨hu,hd,gd⟩;have:=gd.2.2.2.2.2;lia
 rintro⟨r,d⟩ u ⟨hu,r',e,hr⟩;cases e;exact Ai (q _ _ hu hr)
end
def mA_eq (i:Nat):mergeAt' i=(do
 let t <- get
 let (some (p,m,pw),some (q,n,_)):=((pendingOf t)[i]?,(pendingOf t)[i+1]?)|unsupported "internal:list.sort.pending"
 set (SortSt.mk' (kindOf t) (arrOf t) (((pendingOf t).setIfInBounds i (p,m+n,pw)).eraseIdxIfInBounds (i+1)) (gallopOf t) (failedOf t))
 let some k <- Xj false (<- elem' (arrOf t) q) (arrOf t) p m 0|return false
 let (p,m):=(p+k,m-k)
 if m==0 then return true
 let some n <- Xj true (<- elem' (arrOf t) (p+m-1)) (arrOf t) q n (n-1)|return false
 if n==0 then return true
 let x:=(arrOf t).extract p q
 let y:=(arrOf t).extract q (q+n)
 let r <- if m<=n then mLo' x y else mHi' x y
 modify λt=>SortSt.mk' (kindOf t) (r.toList.zipIdx.foldl (λa (v,j)=>a.setIfInBounds (p+j) v) (arrOf t)) (pendingOf t) (gallopOf t) (failedOf t)
 return (failedOf (<- get)).isNone):=rfl
def wpS_set' {M:Model}{A:Around}{E:TB}{s:Shared}{st u:SortSt}{Q:PUnit->SortSt->Prop}(h:Q ⟨⟩ u):wpS M A E s (set u:SM PUnit) Q st:=by unfold wpS;exact AF ⟨O,h⟩
theorem yp (f:Nat):∀(r:List Keyed) (n:Nat) (a:KA),((r.zipIdx n).foldl (λa (v,j)=>a.setIfInBounds (f+j) v) a).size=a.size
 | [],_,_=>rfl
 |v::r,n,a=>by rw[List.zipIdx_cons,CV,yp f r];exact Array.size_setIfInBounds
theorem zaI (f:Nat):∀(r:List Keyed) (n:Nat) (a:KA),f+n+r.length<=a.size->∀q,((r.zipIdx n).foldl (λa (v,j)=>a.setIfInBounds (f+j) v) a)[q]?=if f+n<=q/\q<f+n+r.length then r[q-(f+n)]? else a[q]?
 | [],n,a,_,q=>by rw[if_neg (by rintro⟨h1,h2⟩;rw[List.length_nil]at h2;lia)];rfl
 |v::r,n,a,h,q=>by
  rw[Ax]at h;rw[List.zipIdx_cons,CV,zaI f r (n+1) _ (by rw[Array.size_setIfInBounds];lia),Ax,Array.getElem?_setIfInBounds];by_cases h1:q=f+n
  ·rw[if_neg ⋯,if_pos h1.symm,if_pos ⋯,if_pos ⋯,h1,EH];rfl
  ·rw[if_neg (An h1)];by_cases h2:f+n<=q/\q<f+n+(r.length+1)
   ·rw[if_pos ⋯,if_pos h2];obtain⟨d,hd⟩:∃d,q-(f+n)=d+1:=⟨q-(f+n)-1,⋯⟩
    rw[hd,List.getElem?_cons_succ,show q-(f+(n+1))=d by lia]
   ·rw[if_neg ⋯,if_neg h2]
def StA (R:Keyed->Keyed->Bool)(a:KA)(lo n:Nat):Prop:=∀p q x y,lo<=p->p<q->q<lo+n->a[p]?=some x->a[q]?=some y->R x y=true
structure SA (t u:SortSt)(lo n:Nat):Prop where
 kd:kindOf u=kindOf t
 fl:failedOf u=failedOf t
 sz:(arrOf u).size=(arrOf t).size
 pm:(arrOf u).toList.Perm (arrOf t).toList
 off:∀i,i<lo\/lo+n<=i->(arrOf u)[i]?=(arrOf t)[i]?
section
variable {prog:Program}{w:World}{A:Around}{E:TB}{s:Shared}{κ:SortKind}{it:List Keyed}{R:Keyed->Keyed->Bool}{st t:SortSt}{M:Model}
def SA.rfl' {lo n:Nat}:SA t t lo n:=⟨rfl,rfl,rfl,DO _,λ_ _=>rfl⟩
def SA.tr {u v:SortSt}{lo n:Nat}(h:SA t u lo n)(k:SA u v lo n):SA t v lo n:=⟨k.kd.trans h.kd,k.fl.trans h.fl,k.sz.trans h.sz,k.pm.trans h.pm,λi hi=>(k.off i hi).trans (h.off i hi)⟩
def yq {a:KA}{p q t:Nat}(hq:q<=a.size)(h:t<q-p):(a.extract p q)[t]?=a[p+t]?:=by rw[Array.getElem?_extract,if_pos ⋯]
def zaJ {a:KA}{p q:Nat}(hq:q<=a.size):(a.extract p q).size=q-p:=by rw[Array.size_extract];lia
def cut3 {a:KA}{p q:Nat}(h:p<=q):a.toList=a.toList.take p++((a.extract p q).toList++a.toList.drop q):=by conv=>lhs;rw[<- C7 q a.toList,zaH h,A8]
def zaK {a:KA}{lo n p q:Nat}(h:StA R a lo n)(h1:lo<=p)(h2:q<=lo+n)(hq:q<=a.size):Srt R (a.extract p q).toList:=by
 refine BS.mpr λi j hi hj fk=>?_;have e1:(a.extract p q)[i]?=some (a.extract p q).toList[i]:=by rw[<- AY];exact AC hi
 have e2:(a.extract p q)[j]?=some (a.extract p q).toList[j]:=by rw[<- AY];exact AC hj
 rw[Ad,zaJ hq]at hi hj;rw[yq hq hi]at e1;rw[yq hq hj]at e2;exact h _ _ _ _ ⋯ ⋯ ⋯ e1 e2
def tm_mA (C:Cm prog w A s κ it R){i p m pw q n vc:Nat}(hk:kindOf st=κ)(hf:failedOf st=none)(e1:(pendingOf st)[i]?=some (p,m,pw))(e2:(pendingOf st)[i+1]?=some (q,n,vc))(hq:q=p+m)(m1:1<=m)(n1:1<=n)(hz:q+n<=(arrOf st).size)(bH:∀x∈(arrOf st).toList,x∈it)(nd:(arrOf st).toList.Nodup)(sm:StA R (arrOf st) p m)(sn:StA R (arrOf st) q n)
  {Q:Bool->SortSt->Prop}(qq:∀u,SA st u p (m+n)->pendingOf u=((pendingOf st).setIfInBounds i (p,m+n,pw)).eraseIdxIfInBounds (i+1)->StA R (arrOf u) p (m+n)->Q true u):wpS (model prog w) A E s (mergeAt' i) Q st:=by
 obtain⟨y0,ey⟩:=zx (a:=arrOf st) (i:=q) ⋯;have mem:∀{t:Nat} {x:Keyed},(arrOf st)[t]?=some x->x∈it:=λh=>bH _ (zu h);have ne:∀{t u:Nat} {x y:Keyed},t≠u->(arrOf st)[t]?=some x->(arrOf st)[u]?=some y->x≠y:=λ{t u x y} h h1 h2 e=>by rw[<- e]at h2;rw[<- AY]at h1 h2;exact h ((Co (AD.mp h1).1 nd).mp (h1.trans h2.symm))
 rw[mA_eq];refine Aa (wpS_get ?_);rw[e1,e2];dsimp only;refine Aa (wpS_set' ?_);have d8:kindOf (SortSt.mk' (kindOf st) (arrOf st) (((pendingOf st).setIfInBounds i (p,m+n,pw)).eraseIdxIfInBounds (i+1)) (gallopOf st) (failedOf st))=κ:=hk;have Iu:SA st (SortSt.mk' (kindOf st) (arrOf st) (((pendingOf st).setIfInBounds i (p,m+n,pw)).eraseIdxIfInBounds (i+1)) (gallopOf st) (failedOf st)) p (m+n):=⟨rfl,rfl,rfl,DO _,λ_ _=>rfl⟩
 refine Aa (jJ ey (Aa (wN C (f:=λt=>match (arrOf st)[p+t]? with|some z=>!R y0 z|none=>false) d8 (mem ey) (λt ht=>?_) (λc d cd hd h=>?_) ⋯ λk k1 k2 k3=>?_)))
 ·obtain⟨z,ez⟩:=zx (a:=arrOf st) (i:=p+t) ⋯;exact⟨z,ez,mem ez,by simp only[ez];rfl⟩
 ·obtain⟨z,ez⟩:=zx (a:=arrOf st) (i:=p+d) ⋯;obtain⟨z',bq⟩:=zx (a:=arrOf st) (i:=p+c) ⋯;simp only[ez]at h;simp only[bq]
  rcases Ay cd with e|e
  ·rw[e,ez]at bq;rw[<- AH bq];exact h
  ·have f1:=C.tot y0 (mem ey) z (mem ez) (ne ⋯ ey ez) (by simpa using h);have f2:=C.tr z' (mem bq) z (mem ez) y0 (mem ey) (sm _ _ _ _ ⋯ ⋯ ⋯ bq ez) f1;rw[C.asym z' (mem bq) y0 (mem ey) f2];rfl
 have L1:∀{d:Nat} {x:Keyed},p<=d->d<p+k->(arrOf st)[d]?=some x->R x y0=true:=λ{d x} h1 h2 hx=>by have f1:=k2 (d-p) ⋯;rw[show p+(d-p)=d by lia]at f1;simp only[hx]at f1;exact C.tot y0 (mem ey) x (mem hx) (ne ⋯ ey hx) (by simpa using f1)
 have Y1:∀{d:Nat} {x:Keyed},q<=d->d<q+n->(arrOf st)[d]?=some x->x=y0\/R y0 x=true:=λ{d x} h1 h2 hx=>by
  rcases Ay h1 with e|e
  ·rw[<- e,ey]at hx;exact .inl (AH hx).symm
  ·exact .inr (sn _ _ _ _ (AI _) e h2 ey hx)
 have HK:∀{d d':Nat} {x x':Keyed},p<=d->d<p+k->q<=d'->d'<q+n->(arrOf st)[d]?=some x->(arrOf st)[d']?=some x'->R x x'=true:=λ{d d' x x'} h1 h2 h3 h4 hx dM=>by
  rcases Y1 h3 h4 dM with rfl|h
  ·exact L1 h1 h2 hx
  ·exact C.tr x (mem hx) y0 (mem ey) x' (mem dM) (L1 h1 h2 hx) h
 dsimp only;by_cases c1:(m-k==0)=true
 ·rw[if_pos c1];have eD:m-k=0:=by simpa using c1
  refine Ai (qq _ Iu rfl λa b x y h1 h2 h3 hx hy=>?_);by_cases ha:a<q
  ·by_cases hb:b<q
   ·exact sm a b x y h1 h2 ⋯ hx hy
   ·exact HK h1 ⋯ ⋯ ⋯ hx hy
  ·exact sn a b x y ⋯ h2 ⋯ hx hy
 rw[if_neg c1];have eD:m-k≠0:=λz=>c1 (by simpa using z);obtain⟨x9,ex⟩:=zx (a:=arrOf st) (i:=p+k+(m-k)-1) ⋯;have dj:(arrOf st)[q-1]?=some x9:=by rw[show q-1=p+k+(m-k)-1 by lia];exact ex
 refine Aa (jJ ex (Aa (wN C (f:=λt=>match (arrOf st)[q+t]? with|some z=>R z x9|none=>false) d8 (mem ex) (λt ht=>?_) (λc d cd hd h=>?_) ⋯ λl l1 l2 l3=>?_)))
 ·obtain⟨z,ez⟩:=zx (a:=arrOf st) (i:=q+t) ⋯;exact⟨z,ez,mem ez,by simp only[ez];rfl⟩
 ·obtain⟨z,ez⟩:=zx (a:=arrOf st) (i:=q+d) ⋯;obtain⟨z',bq⟩:=zx (a:=arrOf st) (i:=q+c) ⋯;simp only[ez]at h;simp only[bq]
  rcases Ay cd with e|e
  ·rw[e,ez]at bq;rw[<- AH bq];exact h
  ·exact C.tr z' (mem bq) z (mem ez) x9 (mem ex) (sn _ _ _ _ ⋯ ⋯ ⋯ bq ez) h
 obtain⟨x0,ex0⟩:=zx (a:=arrOf st) (i:=p+k) ⋯;have f0:R y0 x0=true:=by have f1:=k3 k (AI _) ⋯;simp only[ex0]at f1;simpa using f1
 have f9:R y0 x9=true:=by
  rcases Ay (show p+k<=q-1 by lia) with e|e
  ·rw[e,dj]at ex0;rw[AH ex0];exact f0
  ·exact C.tr y0 (mem ey) x0 (mem ex0) x9 (mem dj) f0 (sm _ _ _ _ ⋯ e ⋯ ex0 dj)
 dsimp only;by_cases c2:(l==0)=true
 ·have uL:l=0:=by simpa using c2
  have f1:=l3 0 ⋯ ⋯;rw[Ck]at f1;simp only[ey]at f1;rw[f9]at f1;cases f1
 rw[if_neg c2];have uL:l≠0:=λz=>c2 (by simpa using z);have sx:((arrOf st).extract (p+k) q).size=q-(p+k):=zaJ ⋯;have sy:((arrOf st).extract q (q+l)).size=l:=by rw[zaJ ⋯];lia
 have eq3:(arrOf st).toList=(arrOf st).toList.take (p+k)++((((arrOf st).extract (p+k) q).toList++((arrOf st).extract q (q+l)).toList)++(arrOf st).toList.drop (q+l)):=by
  rw[show ((arrOf st).extract (p+k) q).toList++((arrOf st).extract q (q+l)).toList=((arrOf st).extract (p+k) (q+l)).toList by rw[B8,B8,B8,Bc,Bc,Bc,show q+l-(p+k)=(q-(p+k))+(q+l-q) by lia,List.take_add,List.drop_drop,show p+k+(q-(p+k))=q by lia]]
  exact cut3 ⋯
 have IQ:(((arrOf st).extract (p+k) q).toList++((arrOf st).extract q (q+l)).toList).Nodup:=by rw[eq3]at nd;exact (DE.mp (DE.mp nd).2.1).1
 have mc:MC it R ((arrOf st).extract (p+k) q) ((arrOf st).extract q (q+l)):=by
  refine⟨λx hx=>?_,λx hx=>?_,IQ,zaK sm ⋯ ⋯ ⋯,zaK sn (AI _) ⋯ ⋯,⋯,⋯,λx y hx hy=>?_,λx hx y hy=>?_⟩
  ·obtain⟨d,_,_,h⟩:=exm hx;exact mem h
  ·obtain⟨d,_,_,h⟩:=exm hx;exact mem h
  ·rw[yq ⋯ ⋯,Ck,ex0]at hx;rw[yq ⋯ ⋯,Ck,ey]at hy;rw[<- AH hx,<- AH hy];exact f0
  ·rw[sx,yq ⋯ ⋯,show p+k+(q-(p+k)-1)=q-1 by lia,dj]at hx;rw[<- AH hx];obtain⟨d,d1,d2,h⟩:=exm hy;have f1:=l2 (d-q) ⋯;rw[show q+(d-q)=d by lia]at f1;simp only[h]at f1;exact f1
 have fin:∀(r:KA) (u:SortSt),SG (SortSt.mk' (kindOf st) (arrOf st) (((pendingOf st).setIfInBounds i (p,m+n,pw)).eraseIdxIfInBounds (i+1)) (gallopOf st) (failedOf st)) u->RS R ((arrOf st).extract (p+k) q) ((arrOf st).extract q (q+l)) r ->
   wpS (model prog w) A E s (do
    modify λt=>SortSt.mk' (kindOf t) (r.toList.zipIdx.foldl (λa (v,j)=>a.setIfInBounds (p+k+j) v) (arrOf t)) (pendingOf t) (gallopOf t) (failedOf t)
    let t <- get
    pure (failedOf t).isNone) Q u:=by
  intro r u hu rs;refine Aa (Ey (Aa (wpS_get ?_)));have Le:failedOf u=none:=hu.2.2.2.trans hf;have ph:arrOf u=arrOf st:=hu.2.1;have rl:r.toList.length=q+l-(p+k):=by rw[rs.p.length_eq,AJ,Ad,Ad,sx,sy];lia
  show wpS _ _ _ _ (pure (failedOf u).isNone) _ _;rw[Le];have fa:=zaI (p+k) r.toList 0 (arrOf u) (by rw[ph,rl];lia);have fs:=yp (p+k) r.toList 0 (arrOf u);rw[Ck,rl,ph]at fa;rw[ph]at fs;rw[ph];generalize hg:((r.toList.zipIdx 0).foldl (λa (v,j)=>a.setIfInBounds (p+k+j) v) (arrOf st))=na at *;have er:∀d,p+k<=d->d<q+l->na[d]?=r.toList[d-(p+k)]?:=λd h1 h2=>by rw[fa,if_pos ⋯]
  have eo:∀d,d<p+k\/q+l<=d->na[d]?=(arrOf st)[d]?:=λd h=>by rw[fa,if_neg ⋯]
  have MY:na.toList=(arrOf st).toList.take (p+k)++(r.toList++(arrOf st).toList.drop (q+l)):=by
   have hl:(arrOf st).toList.length=(arrOf st).size:=Ad;refine BJ λd=>?_;rw[AY];by_cases h1:d<p+k
   ·rw[eo d (.inl h1),BK (by rw[Ae];lia),B2 h1,AY]
   ·rw[BI (by rw[Ae];lia),Ae,show min (p+k) (arrOf st).toList.length=p+k by lia];by_cases h2:d<q+l
    ·rw[er d ⋯ h2,BK ⋯]
    ·rw[eo d (.inr ⋯),BI ⋯,Cc,AY,rl,show q+l+(d-(p+k)-(q+l-(p+k)))=d by lia]
  have lg:∀{d:Nat} {v:Keyed},p+k<=d->d<q+l->na[d]?=some v->∃d',p+k<=d'/\d'<q+l/\(arrOf st)[d']?=some v:=λ{d v} h1 h2 hv=>by
   rw[er d h1 h2]at hv;have:=rs.p.mem_iff.mp (AL hv)
   rcases AX.mp this with h|h
   ·obtain⟨d',z1,z2,z3⟩:=exm h;exact⟨d',z1,⋯,z3⟩
   ·obtain⟨d',z1,z2,z3⟩:=exm h;exact⟨d',⋯,z2,z3⟩
  refine Ai (qq _ ⟨hu.1,hf.symm,fs,?_,λd hd=>?_⟩ hu.2.2.1 λc d x y h1 h2 h3 hx hy=>?_)
  ·show na.toList.Perm _;rw[MY]
   conv=>rhs;rw[eq3]
   exact DB _ (Em _ rs.p)
  ·exact eo d ⋯
  have hx:na[c]?=some x:=hx;have hy:na[d]?=some y:=hy;by_cases ca:c<p+k
  ·rw[eo c (.inl ca)]at hx;have yy:∃d',c<d'/\p<=d'/\d'<q+n/\(d'<q\/q<=d')/\(arrOf st)[d']?=some y:=by
    by_cases da:p+k<=d/\d<q+l
    ·obtain⟨d',z1,z2,z3⟩:=lg da.1 da.2 hy;exact⟨d',⋯,⋯,⋯,⋯,z3⟩
    ·rw[eo d ⋯]at hy;exact⟨d,h2,⋯,⋯,⋯,hy⟩
   obtain⟨d',z1,z2,z3,z4,z5⟩:=yy
   rcases z4 with z4|z4
   ·exact sm c d' x y h1 z1 ⋯ hx z5
   ·exact HK h1 ca z4 z3 hx z5
  ·by_cases cb:c<q+l
   ·by_cases db:d<q+l
    ·rw[er c ⋯ cb]at hx;rw[er d ⋯ db]at hy;obtain⟨z1,rfl⟩:=AD.mp hx;obtain⟨z2,rfl⟩:=AD.mp hy;exact (BS.mp rs.s) _ _ z1 z2 ⋯
    ·obtain⟨c',z1,z2,z3⟩:=lg ⋯ cb hx;rw[eo d ⋯]at hy;by_cases c3:c'<q
     ·have f1:=l3 (d-q) ⋯ ⋯;rw[show q+(d-q)=d by lia]at f1;simp only[hy]at f1;have f2:=C.tot y (mem hy) x9 (mem dj) (ne ⋯ hy dj) f1
      rcases Ay (show c'<=q-1 by lia) with e|e
      ·rw[e,dj]at z3;rw[<- AH z3];exact f2
      ·exact C.tr x (mem z3) x9 (mem dj) y (mem hy) (sm _ _ _ _ ⋯ e ⋯ z3 dj) f2
     ·exact sn c' d x y ⋯ ⋯ ⋯ z3 hy
   ·rw[eo c ⋯]at hx;rw[eo d ⋯]at hy;exact sn c d x y ⋯ h2 ⋯ hx hy
 split
 ·exact Aa (mLo_ok C mc d8 λr u hu rs=>fin r u hu rs)
 ·exact Aa (mHi_ok C mc d8 λr u hu rs=>fin r u hu rs)
end
section
variable {prog:Program}{w:World}{A:Around}{E:TB}{s:Shared}{κ:SortKind}{it:List Keyed}{R:Keyed->Keyed->Bool}{st t:SortSt}{M:Model}
def xX (C:Cm prog w A s κ it R){i j:Nat}{x y:Keyed}{Q:Option Bool->SortSt->Prop}(hk:kindOf st=κ)(hx:(arrOf st)[i]?=some x)(hy:(arrOf st)[j]?=some y)(ix:x∈it)(iy:y∈it)(h:Q (some (R x y)) st):wpS (model prog w) A E s (ltAt' i j) Q st:=by rw[ltAt'_eq];exact Aa (wpS_get (Aa (jJ hx (Aa (jJ hy (zaD C hk ix iy h))))))
structure SI (κ:SortKind)(it:List Keyed)(u:SortSt):Prop where
 kd:kindOf u=κ
 fl:failedOf u=none
 mem:∀x∈(arrOf u).toList,x∈it
 nd:(arrOf u).toList.Nodup
def SI.of {u:SortSt}{lo n:Nat}(h:SI κ it st)(k:SA st u lo n):SI κ it u:=⟨k.kd.trans h.kd,k.fl.trans h.fl,λx hx=>h.mem x (k.pm.mem_iff.mp hx),k.pm.nodup_iff.mpr h.nd⟩
def SI.ne (h:SI κ it st){i j:Nat}{x y:Keyed}(ij:i≠j)(h1:(arrOf st)[i]?=some x)(h2:(arrOf st)[j]?=some y):x≠y:=λe=>by rw[<- e]at h2;rw[<- AY]at h1 h2;exact ij ((Co (AD.mp h1).1 h.nd).mp (h1.trans h2.symm))
def StA.snoc (C:Cm prog w A s κ it R)(h:SI κ it st){lo n:Nat}(n1:1<=n)(k:StA R (arrOf st) lo n){x y:Keyed}(hx:(arrOf st)[lo+n]?=some x)(hy:(arrOf st)[lo+n-1]?=some y)(e:R x y=false):StA R (arrOf st) lo (n+1):=by
 have yx:=C.tot x (h.mem _ (zu hx)) y (h.mem _ (zu hy)) (h.ne ⋯ hx hy) e;intro p q u v h1 h2 h3 hu hv;by_cases c:q<lo+n
 ·exact k p q u v h1 h2 c hu hv
 ·obtain rfl:q=lo+n:=⋯;rw[hx]at hv;obtain rfl:=AH hv
  rcases Ay (show p<=lo+n-1 by lia) with z|z
  ·rw[z,hy]at hu;rw[<- AH hu];exact yx
  ·exact C.tr u (h.mem _ (zu hu)) y (h.mem _ (zu hy)) x (h.mem _ (zu hx)) (k p _ u y h1 z ⋯ hu hy) yx
def tm_count (C:Cm prog w A s κ it R){lo nr:Nat}(h:SI κ it st)(n1:1<=nr)(hz:lo+nr<=(arrOf st).size){Q:Option Nat->SortSt->Prop}(q:∀m u,SA st u lo nr->pendingOf u=pendingOf st->1<=m->m<=nr->StA R (arrOf u) lo m->Q (some m) u):wpS (model prog w) A E s (countRun' lo nr) Q st:=by
 rw[countRun'_eq];dsimp only;refine Aa (CB (Bk (I:=λx c u=>st=u/\c=(none,x)/\StA R (arrOf st) lo x) (Q:=λc u=>st=u/\∃m,c=(none,m)/\1<=m/\m<=nr/\StA R (arrOf st) lo m/\(m<nr->∀x y,(arrOf st)[lo+m]?=some x->(arrOf st)[lo+m-1]?=some y->R x y=true)) ?_ ?_ ⟨O,O,λp q x y h1 h2 h3=>⋯⟩) ?_)
 ·rintro x c u x1 x2 ⟨rfl,rfl,hS⟩;obtain⟨a,ea⟩:=zx (a:=arrOf st) (i:=lo+x) ⋯;obtain⟨b,eb⟩:=zx (a:=arrOf st) (i:=lo+x-1) ⋯;refine Aa (xX C h.kd ea eb (h.mem _ (zu ea)) (h.mem _ (zu eb)) ?_);dsimp only;cases e:R a b with
  |true=>refine Ai ⟨O,x,O,x1,⋯,hS,λ_ a' b' ha hb=>?_⟩;rw[ea]at ha;rw[eb]at hb;cases ha;cases hb;exact e
  |false=>exact Ai ⟨O,O,hS.snoc C h x1 ea eb e⟩
 ·rintro c u ⟨rfl,rfl,hS⟩;rw[show max 1 nr=nr by lia]at hS ⊢;exact⟨O,nr,O,n1,AI _,hS,λz=>⋯⟩
 rintro c u ⟨rfl,m,rfl,m1,m2,hS,cS⟩;dsimp only;by_cases c1:(m==nr)=true
 ·rw[if_pos c1];exact Ai (q m st SA.rfl' rfl m1 m2 hS)
 rw[if_neg c1];have eD:m≠nr:=λz=>c1 (by simpa using z);by_cases c2:m > 1
 ·rw[if_pos c2];obtain⟨a,ea⟩:=zx (a:=arrOf st) (i:=lo) ⋯;obtain⟨b,eb⟩:=zx (a:=arrOf st) (i:=lo+m-1) ⋯;refine Aa (xX C h.kd ea eb (h.mem _ (zu ea)) (h.mem _ (zu eb)) ?_);rw[hS lo (lo+m-1) a b (AI _) ⋯ ⋯ ea eb];exact Ai (q m st SA.rfl' rfl m1 m2 hS)
 rw[if_neg c2];obtain rfl:m=1:=⋯;refine Aa (wpS_lift (Bm ⟨O,?_⟩));refine Aa (CB (Bk (I:=λx c u=>st=u/\c=(none,x,0)/\∀p q x' y,lo<=p->p<q->q<lo+x->(arrOf st)[p]?=some x'->(arrOf st)[q]?=some y->R y x'=true) (Q:=λc u=>st=u/\∃m,c=(none,m,0)/\2<=m/\m<=nr/\∀p q x' y,lo<=p->p<q->q<lo+m->(arrOf st)[p]?=some x'->(arrOf st)[q]?=some y->R y x'=true) ?_ ?_ ⟨O,O,λp d x y h1 h2 h3 hx hy=>?_⟩) ?_)
 ·rintro x c u x1 x2 ⟨rfl,rfl,hS⟩;obtain⟨a,ea⟩:=zx (a:=arrOf st) (i:=lo+x) ⋯;obtain⟨b,eb⟩:=zx (a:=arrOf st) (i:=lo+x-1) ⋯;have ia:=h.mem _ (zu ea);have ib:=h.mem _ (zu eb);refine Aa (xX C h.kd ea eb ia ib ?_);dsimp only;cases e:R a b with
  |true=>
   refine Ai ⟨O,O,λp q u v h1 h2 h3 hu hv=>?_⟩;by_cases c:q<lo+x
   ·exact hS p q u v h1 h2 c hu hv
   ·obtain rfl:q=lo+x:=⋯;rw[ea]at hv;obtain rfl:=AH hv
    rcases Ay (show p<=lo+x-1 by lia) with z|z
    ·rw[z,eb]at hu;rw[<- AH hu];exact e
    ·exact C.tr a ia b ib u (h.mem _ (zu hu)) e (hS p _ u b h1 z ⋯ hu eb)
  |false=>rw[if_neg ∅];refine Aa (xX C h.kd eb ea ib ia ?_);rw[C.tot a ia b ib (h.ne ⋯ ea eb) e];exact Ai ⟨O,x,O,⋯,⋯,hS⟩
 ·rintro c u ⟨rfl,rfl,hS⟩;rw[show max (1+1) nr=nr by lia]at hS ⊢;exact⟨O,nr,O,⋯,AI _,hS⟩
 ·obtain rfl:p=lo:=⋯;obtain rfl:d=p+1:=⋯;exact cS ⋯ y x hy (by rw[show p+1-1=p by lia];exact hx)
 rintro c u ⟨rfl,m,rfl,m2,m3,hS⟩;dsimp only;rw[if_neg ⋯,reverseSlice'_eq];refine Aa (Ey ?_);have gm:=λk=>getElem?_mirror_all (xs:=arrOf st) (i:=lo) (j:=lo+m) ⋯ k;have pm:=Array.Perm.toList (mirror_perm (arrOf st) lo (lo+m) ((lo+m-lo)/2));have sz:=mirror_size (arrOf st) lo (lo+m) ((lo+m-lo)/2);generalize mirror (arrOf st) lo (lo+m) ((lo+m - lo) / 2)=b at *;have sa:SA st (setArr st b) lo nr:=⟨rfl,rfl,sz,pm,λi hi=>by show b[i]?=_;rw[gm,if_neg ⋯]⟩
 have hu:=h.of sa;have iW:StA R (arrOf (setArr st b)) lo m:=λp q x y h1 h2 h3 hx hy=>by have hx:b[p]?=some x:=hx;have hy:b[q]?=some y:=hy;rw[gm,if_pos ⋯]at hx hy;exact hS _ _ _ _ ⋯ ⋯ ⋯ hy hx
 have hp:pendingOf (setArr st b)=pendingOf st:=rfl;have bX:lo+nr<=(arrOf (setArr st b)).size:=by rw[sa.sz];exact hz
 generalize setArr st b=u at *;refine Aa (CB (Bk (I:=λx c v=>u=v/\c=(none,x)/\StA R (arrOf u) lo x) (Q:=λc v=>u=v/\∃m,c=(none,m)/\1<=m/\m<=nr/\StA R (arrOf u) lo m) ?_ ?_ ⟨O,O,iW⟩) ?_)
 ·rintro x c v x1 x2 ⟨rfl,rfl,hS⟩;obtain⟨a,ea⟩:=zx (a:=arrOf u) (i:=lo+x) ⋯;obtain⟨b,eb⟩:=zx (a:=arrOf u) (i:=lo+x-1) ⋯;refine Aa (xX C hu.kd ea eb (hu.mem _ (zu ea)) (hu.mem _ (zu eb)) ?_);dsimp only;cases e:R a b with
  |true=>exact Ai ⟨O,x,O,⋯,⋯,hS⟩
  |false=>exact Ai ⟨O,O,hS.snoc C hu ⋯ ea eb e⟩
 ·rintro c v ⟨rfl,rfl,hS⟩;rw[show max m nr=nr by lia]at hS ⊢;exact⟨O,nr,O,n1,AI _,hS⟩
 rintro c v ⟨rfl,m',rfl,a1,a2,a3⟩;exact Ai (q m' u sa hp a1 a2 a3)
def tm_bin (C:Cm prog w A s κ it R){lo n ok:Nat}(h:SI κ it st)(k1:1<=ok)(kn:ok<=n)(hz:lo+n<=(arrOf st).size)(hS:StA R (arrOf st) lo ok){Q:Bool->SortSt->Prop}(q:∀u,SA st u lo n->pendingOf u=pendingOf st->StA R (arrOf u) lo n->Q true u):wpS (model prog w) A E s (binarySort' lo n ok) Q st:=by
 rw[binarySort'_eq];refine Aa (CB (Bk (I:=λk c u=>c=(none,())/\SA st u lo n/\pendingOf u=pendingOf st/\StA R (arrOf u) lo k) (Q:=λc u=>c=(none,())/\SA st u lo n/\pendingOf u=pendingOf st/\StA R (arrOf u) lo n) ?_ ?_ ⟨O,SA.rfl',O,by rw[show max ok 1=ok by lia];exact hS⟩) ?_)
 ·rintro k c u x1 x2 ⟨rfl,sa,hp,hS⟩;have hu:=h.of sa;have bX:lo+n<=(arrOf u).size:=by rw[sa.sz];exact hz
  obtain⟨a,ea⟩:=zx (a:=arrOf u) (i:=lo+k) ⋯;have ia:=hu.mem _ (zu ea);dsimp only;refine Aa (CB (Bk (I:=λx c v=>u=v/\∃l r,c=(none,l,r)/\r-l+x<=k/\l<=r/\r<=k/\(∀i b,i<l->(arrOf u)[lo+i]?=some b->R b a=true)/\∀i b,r<=i->i<k->(arrOf u)[lo+i]?=some b->R a b=true) (Q:=λc v=>u=v/\∃l,c=(none,l,l)/\l<=k/\(∀i b,i<l->(arrOf u)[lo+i]?=some b->R b a=true)/\∀i b,l<=i->i<k->(arrOf u)[lo+i]?=some b->R a b=true) ?_ ?_ ⟨O,0,k,O,⋯,⋯,⋯,λi b hi=>⋯,λi b h1 h2=>⋯⟩) ?_)
  ·rintro x c v _ x3 ⟨rfl,l,r,rfl,a1,a2,a3,a4,a5⟩;dsimp only;by_cases c1:l ≥ r
   ·rw[if_pos c1];obtain rfl:l=r:=⋯;exact Ai ⟨O,l,O,a3,a4,a5⟩
   rw[if_neg c1];obtain⟨b,eb⟩:=zx (a:=arrOf u) (i:=lo+(l+r)/2) ⋯;have ib:=hu.mem _ (zu eb);refine Aa (xX C hu.kd ea eb ia ib ?_);dsimp only;cases e:R a b with
   |true=>
    refine Ai ⟨O,l,(l+r)/2,O,⋯,⋯,⋯,a4,λi b' h1 h2 hb=>?_⟩
    rcases Ay h1 with z|z
    ·rw[<- z,eb]at hb;rw[<- AH hb];exact e
    ·exact C.tr a ia b ib b' (hu.mem _ (zu hb)) e (hS _ _ b b' ⋯ ⋯ ⋯ eb hb)
   |false=>
    have ba:=C.tot a ia b ib (hu.ne ⋯ ea eb) e;refine Ai ⟨O,(l+r)/2+1,r,O,⋯,⋯,a3,λi b' h1 hb=>?_,a5⟩
    rcases Ay (show i<=(l+r)/2 by lia) with z|z
    ·rw[z,eb]at hb;rw[<- AH hb];exact ba
    ·exact C.tr b' (hu.mem _ (zu hb)) b ib a ia (hS _ _ b' b ⋯ ⋯ ⋯ hb eb) ba
  ·rintro c v ⟨rfl,l,r,rfl,a1,a2,a3,a4,a5⟩;obtain rfl:l=r:=⋯;exact⟨O,l,O,a3,a4,a5⟩
  rintro c v ⟨rfl,l,rfl,l1,l2,l3⟩;dsimp only;rw[moveDown'_eq];refine Aa (Ey ?_);rw[show lo+k-(lo+l)=k-l by lia];have gm:=λi=>getElem?_bubble (xs:=arrOf u) (src:=lo+k) ⋯ (k-l) ⋯ i;have pm:=Array.Perm.toList (bubble_perm (arrOf u) (lo+k) (k-l));have sz:=bubble_size (arrOf u) (lo+k) (k-l);rw[show lo+k-(k-l)=lo+l by lia]at gm;generalize bubble (arrOf u) (lo+k) (k - l)=b at *;refine Ai ⟨O,sa.tr ⟨O,O,sz,pm,λi hi=>?_⟩,hp,λp q x y h1 h2 h3 hx hy=>?_⟩
  ·show b[i]?=_;rw[gm,if_neg ⋯,if_neg ⋯]
  have hx:b[p]?=some x:=hx;have hy:b[q]?=some y:=hy;rw[gm]at hx hy;by_cases p1:p=lo+l
  ·rw[if_pos p1,ea]at hx;rw[if_neg ⋯,if_pos ⋯]at hy;rw[<- AH hx];exact l3 (q-1-lo) y ⋯ ⋯ (by rw[show lo+(q-1-lo)=q-1 by lia];exact hy)
  rw[if_neg p1]at hx;by_cases q1:q=lo+l
  ·rw[if_pos q1,ea]at hy;rw[if_neg ⋯]at hx;rw[<- AH hy];exact l2 (p-lo) x ⋯ (by rw[show lo+(p-lo)=p by lia];exact hx)
  rw[if_neg q1]at hy;by_cases p2:lo+l<p/\p<=lo+k
  ·rw[if_pos p2]at hx;rw[if_pos ⋯]at hy;exact hS _ _ x y ⋯ ⋯ ⋯ hx hy
  ·rw[if_neg p2]at hx;by_cases q2:lo+l<q/\q<=lo+k
   ·rw[if_pos q2]at hy;exact hS _ _ x y ⋯ ⋯ ⋯ hx hy
   ·rw[if_neg q2]at hy;exact hS _ _ x y ⋯ ⋯ ⋯ hx hy
 ·rintro c u ⟨rfl,sa,hp,hS⟩;rw[show max (max ok 1) n=n by lia]at hS;exact⟨O,sa,hp,hS⟩
 rintro c u ⟨rfl,sa,hp,hS⟩;exact Ai (q u sa hp hS)
end
abbrev Pd:=Nat×Nat×Nat
def Til (R:Keyed->Keyed->Bool)(a:KA):List Pd->Nat->Nat->Prop
 | [],x,y=>x=y
 |r::l,x,y=>r.1=x/\1<=r.2.1/\StA R a r.1 r.2.1/\Til R a l (r.1+r.2.1) y
section
variable {prog:Program}{w:World}{A:Around}{E:TB}{s:Shared}{κ:SortKind}{it:List Keyed}{R:Keyed->Keyed->Bool}{st t:SortSt}{M:Model}
theorem Til.le {a:KA}:∀{l:List Pd}{x y:Nat},Til R a l x y->x+l.length<=y
 | [],x,y,h=>by have:x=y:=h;simp;lia
 |r::l,x,y,h=>by have:=Til.le h.2.2.2;have h1:=h.1;have h2:=h.2.1;rw[Ax];lia
theorem JD {a:KA}:∀{l1 l2:List Pd}{x y:Nat},Til R a (l1++l2) x y ↔ ∃z,Til R a l1 x z/\Til R a l2 z y
 | [],l2,x,y=>⟨λh=>⟨x,rfl,h⟩,λ⟨z,e,h⟩=>by rw[show x=z from e];exact h⟩
 |r::l1,l2,x,y=>by
  constructor
  ·rintro⟨h1,h2,h3,h4⟩;obtain⟨z,z1,z2⟩:=JD.mp h4;exact⟨z,⟨h1,h2,h3,z1⟩,z2⟩
  ·rintro⟨z,⟨h1,h2,h3,h4⟩,z2⟩;exact⟨h1,h2,h3,JD.mpr ⟨z,h4,z2⟩⟩
def StA.same {a b:KA}{lo n:Nat}(h:StA R a lo n)(e:∀i,lo<=i->i<lo+n->b[i]?=a[i]?):StA R b lo n:=λp q x y h1 h2 h3 hx hy=>h p q x y h1 h2 h3 (by rw[<- e p h1 ⋯];exact hx) (by rw[<- e q ⋯ h3];exact hy)
theorem Til.same {a b:KA}:∀{l:List Pd}{x y:Nat},Til R a l x y->(∀i,x<=i->i<y->b[i]?=a[i]?)->Til R b l x y
 | [],_,_,h,_=>h
 |r::l,x,y,⟨h1,h2,h3,h4⟩,e=>by have:=Til.le h4;exact⟨h1,h2,h3.same λi i1 i2=>e i ⋯ ⋯,h4.same λi i1 i2=>e i ⋯ i2⟩
structure SR (κ:SortKind)(it:List Keyed)(R:Keyed->Keyed->Bool)(n lo:Nat)(u:SortSt):Prop where
 si:SI κ it u
 sz:(arrOf u).size=n
 pm:(arrOf u).toList.Perm it
 ti:Til R (arrOf u) (pendingOf u).toList 0 lo
 le:lo<=n
def zaL (C:Cm prog w A s κ it R){n lo i:Nat}(h:SR κ it R n lo st)(hi:i+1<(pendingOf st).size){Q:Bool->SortSt->Prop}(q:∀u,SR κ it R n lo u->(pendingOf u).size+1=(pendingOf st).size->(∀d,lo<=d->(arrOf u)[d]?=(arrOf st)[d]?)->Q true u):wpS (model prog w) A E s (mergeAt' i) Q st:=by
 have hl:(pendingOf st).toList.length=(pendingOf st).size:=Ad;have e:(pendingOf st).toList=(pendingOf st).toList.take i++((pendingOf st).toList[i]'(⋯)::(pendingOf st).toList[i+1]'(⋯)::(pendingOf st).toList.drop (i+2)):=by rw[<- CC,<- CC,C7]
 have e1:(pendingOf st)[i]?=some ((pendingOf st).toList[i]'(⋯)):=by rw[<- AY];exact AC _
 have e2:(pendingOf st)[i+1]?=some ((pendingOf st).toList[i+1]'(⋯)):=by rw[<- AY];exact AC _
 generalize (pendingOf st).toList[i]'(⋯)=r1 at e e1;generalize (pendingOf st).toList[i+1]'(⋯)=r2 at e e2;obtain⟨p,m,pw⟩:=r1;obtain⟨p',n',vc⟩:=r2;have ti:=h.ti;rw[e]at ti;obtain⟨z,t1,t2⟩:=JD.mp ti;obtain⟨a1,a2,a3,b1,b2,b3,b4⟩:=t2;have bl:=Til.le b4;have hle:=h.le;dsimp only at a1 a2 a3 b1 b2 b3 b4 bl;refine tm_mA C h.si.kd h.si.fl e1 e2 b1 a2 b2 (by rw[h.sz];lia) h.si.mem h.si.nd a3 b3 λu sa hp hS=>?_;have el:(pendingOf u).toList=(pendingOf st).toList.take i++((p,m+n',pw)::(pendingOf st).toList.drop (i+2)):=by
  rw[hp];refine BJ λd=>?_;have il:((pendingOf st).toList.take i).length=i:=by rw[Ae];lia
  rw[Array.toList_eraseIdxIfInBounds,List.getElem?_eraseIdx,Array.toList_setIfInBounds];by_cases d1:d<i
  ·rw[if_pos ⋯,EA ⋯,BK ⋯,B2 d1]
  ·rw[BI ⋯,il];by_cases d2:d=i
   ·rw[if_pos ⋯,d2,Ek ⋯,EH];rfl
   ·obtain⟨k,hk⟩:∃k,d=i+1+k:=⟨d-(i+1),⋯⟩
    rw[if_neg ⋯,EA ⋯,hk,show i+1+k-i=k+1 by lia,List.getElem?_cons_succ,Cc]
    congr 1
    lia
 have hsz:(pendingOf u).size+1=(pendingOf st).size:=by have:=BF List.length el;rw[Ad,AJ,Ax,Ae,Cw,hl]at this;lia
 refine q u ⟨h.si.of sa,sa.sz.trans h.sz,sa.pm.trans h.pm,?_,h.le⟩ hsz λd hd=>sa.off d (.inr ⋯);rw[el];have zl:=Til.le t1;refine JD.mpr ⟨z,t1.same λd d1 d2=>sa.off d ⋯,a1,by show 1<=m+n';lia,hS,?_⟩;show Til R _ _ (p+(m+n')) lo;rw[<- Nat.add_assoc,<- b1];exact b4.same λd d1 d2=>sa.off d ⋯
def srT (sz lo n:Nat):SM (ForInStep (Option Unit×Nat)):=do
 let t <- get
 match (pendingOf t).back? with
 |some (a,b,_)=>
  let c <- forIn [0:sz] ((none,()):Option Unit×Unit) λ_ _=>do
   let t <- get
   match (if (pendingOf t).size > 1 then (pendingOf t)[(pendingOf t).size-2]? else none) with
   |some (_,_,od)=>
    if od<=power' sz (2*a+b) (2*a+b+b+n) sz then pure (ForInStep.done (none,()))
    else do
     let z <- mergeAt' ((pendingOf t).size-2)
     if (!z)=true then pure (ForInStep.done (some (),())) else pure (ForInStep.yield (none,()))
   |_=>pure (ForInStep.done (none,()))
  match c.1 with
  |some r=>pure (ForInStep.done (some r,lo))
  |none=>
   modify λt=>setPending t ((pendingOf t).modify ((pendingOf t).size-1) λx=>(x.1,x.2.1,power' sz (2*a+b) (2*a+b+b+n) sz))
   modify λt=>setPending t ((pendingOf t).push (lo,n,0))
   pure (ForInStep.yield (none,lo+n))
 |_=>do
  modify λt=>setPending t ((pendingOf t).push (lo,n,0))
  pure (ForInStep.yield (none,lo+n))
def SR.push {sz lo n:Nat}{u:SortSt}(h:SR κ it R sz lo u)(n1:1<=n)(hn:lo+n<=sz)(hS:StA R (arrOf u) lo n):SR κ it R sz (lo+n) (setPending u ((pendingOf u).push (lo,n,0))):=by refine⟨⟨h.si.kd,h.si.fl,h.si.mem,h.si.nd⟩,h.sz,h.pm,?_,hn⟩;show Til R (arrOf u) ((pendingOf u).push (lo,n,0)).toList 0 (lo+n);rw[Cp];exact JD.mpr ⟨lo,h.ti,O,n1,hS,O⟩
theorem til_pw {a:KA}(pw:Nat):∀{l:List Pd}{x y:Nat}(i:Nat),Til R a l x y->Til R a (l.modify i λr=>(r.1,r.2.1,pw)) x y
 | [],_,_,i,h=>by cases i <;> exact h
 |r::l,x,y,0,h=>h
 |r::l,x,y,i+1,⟨h1,h2,h3,h4⟩=>⟨h1,h2,h3,til_pw pw i h4⟩
def srT_ok (C:Cm prog w A s κ it R){sz lo n:Nat}(h:SR κ it R sz lo st)(n1:1<=n)(hn:lo+n<=sz)(hS:StA R (arrOf st) lo n){Q:ForInStep (Option Unit×Nat)->SortSt->Prop}(q:∀u,SR κ it R sz (lo+n) u->Q (.yield (none,lo+n)) u):wpS (model prog w) A E s (srT sz lo n) Q st:=by
 unfold srT;refine Aa (wpS_get ?_);cases (pendingOf st).back? with
 |none=>exact Aa (Ey (Ai (q _ (h.push n1 hn hS))))
 |some r=>
  obtain⟨a,b,c⟩:=r;dsimp only;refine Aa (CB (Bk (I:=λx c u=>c=(none,())/\SR κ it R sz lo u/\StA R (arrOf u) lo n) (Q:=λc u=>c=(none,())/\SR κ it R sz lo u/\StA R (arrOf u) lo n) ?_ (λc u h=>h) ⟨O,h,hS⟩) ?_)
  ·rintro x c u _ _ ⟨rfl,hu,kF⟩;refine Aa (wpS_get ?_);by_cases c1:(pendingOf u).size > 1
   ·rw[if_pos c1];cases (pendingOf u)[(pendingOf u).size-2]? with
    |none=>exact Ai ⟨O,hu,kF⟩
    |some r=>
     obtain⟨_,_,od⟩:=r;dsimp only;split
     ·exact Ai ⟨O,hu,kF⟩
     ·exact Aa (zaL C hu ⋯ λv hv _ off=>Ai ⟨O,hv,kF.same λd d1 _=>off d d1⟩)
   ·rw[if_neg c1];exact Ai ⟨O,hu,kF⟩
  rintro c u ⟨rfl,hu,kF⟩;dsimp only;refine Aa (Ey (Aa (Ey (Ai (q _ (SR.push (u:=setPending u _) ⟨⟨hu.si.kd,hu.si.fl,hu.si.mem,hu.si.nd⟩,hu.sz,hu.pm,?_,hu.le⟩ n1 hn kF))))));show Til R (arrOf u) ((pendingOf u).modify _ _).toList 0 lo;rw[Array.toList_modify];exact til_pw _ _ hu.ti
def zaM (C:Cm prog w A s κ it R){sz lo n:Nat}(h:SR κ it R sz lo st)(n1:1<=n)(hn:lo+n<=sz)(hS:StA R (arrOf st) lo n){Q:ForInStep (Option Unit×Nat)->SortSt->Prop}(q:∀u,SR κ it R sz (lo+n) u->Q (.yield (none,lo+n)) u)(X:SM (ForInStep (Option Unit×Nat)))(e:X=srT sz lo n):wpS (model prog w) A E s X Q st:=e ▸ srT_ok C h n1 hn hS q
theorem zaN:∀(f n r:Nat),1<=n->1<=minRun' f n r
 |0,n,r,h=>by show 1<=n+r;lia
 |f+1,n,r,h=>by
  rw[minRun'_succ];split
  ·lia
  ·exact zaN f _ _ ⋯
def tm_sort (C:Cm prog w A s κ it R)(h0:SI κ it st)(hp:(arrOf st).toList.Perm it)(gi:pendingOf st = #[]){Q:Unit->SortSt->Prop}(q:∀u,(arrOf u).toList.Perm it->failedOf u=none->Srt R (arrOf u).toList->Q () u):wpS (model prog w) A E s sortRuns' Q st:=by
 rw[sortRuns'_eq];refine Aa (wpS_get ?_);have Ip:SR κ it R (arrOf st).size 0 st:=⟨h0,rfl,hp,by rw[gi];exact rfl,BC _⟩
 generalize hz:(arrOf st).size=sz at *;have mr:=zaN sz sz 0;dsimp only;refine Aa (CB (Bk (I:=λx c u=>∃lo,c=(none,lo)/\SR κ it R sz lo u/\(lo=sz\/x<=lo)) (Q:=λc u=>c=(none,sz)/\SR κ it R sz sz u) ?_ ?_ ⟨0,O,Ip,.inr (AI _)⟩) ?_)
 ·rintro x c u _ x2 ⟨lo,rfl,hu,hx⟩;have hle:=hu.le;dsimp only;by_cases c1:lo ≥ sz
  ·rw[if_pos c1];obtain rfl:lo=sz:=⋯;exact Ai ⟨O,hu⟩
  rw[if_neg c1];have KC:=hu.sz;refine Aa (tm_count C hu.si ⋯ ⋯ λm v sa KS m1 m2 hS=>?_);have hv:SR κ it R sz lo v:=⟨hu.si.of sa,sa.sz.trans hu.sz,sa.pm.trans hu.pm,by
   rw[KS];exact hu.ti.same λd d1 d2=>sa.off d (.inl d2),hle⟩
  have Kz:=hv.sz;dsimp only;by_cases c2:m<minRun' sz sz 0
  ·rw[if_pos c2];refine Aa (wpS_lift (Bm ⟨O,?_⟩));refine Aa (tm_bin C hv.si m1 ⋯ ⋯ hS λv2 oq kq iW=>?_);have rT:SR κ it R sz lo v2:=⟨hv.si.of oq,oq.sz.trans hv.sz,oq.pm.trans hv.pm,by
    rw[kq];exact hv.ti.same λd d1 d2=>oq.off d (.inl d2),hle⟩
   rw[if_neg ∅];refine zaM C rT (n:=min (sz-lo) (minRun' sz sz 0)) ⋯ ⋯ iW (λu' lX=>⟨_,O,lX,.inr ⋯⟩) _ ?_;unfold srT
   congr 1
   funext t
   cases (pendingOf t).back? with
   |none=>rfl
   |some r=>
    obtain⟨a,b,c⟩:=r;dsimp only
    congr 1
    funext c
    obtain⟨r,_⟩:=c;cases r <;> rfl
  ·rw[if_neg c2];refine zaM C hv (n:=m) m1 ⋯ hS (λu' lX=>⟨_,O,lX,.inr ⋯⟩) _ ?_;unfold srT
   congr 1
   funext t
   cases (pendingOf t).back? with
   |none=>rfl
   |some r=>
    obtain⟨a,b,c⟩:=r;dsimp only
    congr 1
    funext c
    obtain⟨r,_⟩:=c;cases r <;> rfl
 ·rintro c u ⟨lo,rfl,hu,hx⟩;have hle:=hu.le;obtain rfl:lo=sz:=⋯;exact⟨O,hu⟩
 rintro c u ⟨rfl,hu⟩;dsimp only;refine Aa (CB (Bk (I:=λx c v=>c=(none,())/\SR κ it R sz sz v/\(pendingOf v).size+x<=max 1 sz+x/\((pendingOf v).size<=1\/(pendingOf v).size+x<=sz)) (Q:=λc v=>c=(none,())/\SR κ it R sz sz v/\(pendingOf v).size<=1) ?_ ?_ ?_) ?_)
 ·rintro x c v _ x2 ⟨rfl,hv,_,hc⟩;refine Aa (wpS_get ?_);by_cases c1:(pendingOf v).size<=1
  ·rw[if_pos c1];exact Ai ⟨O,hv,c1⟩
  rw[if_neg c1];have ix:∀(b:Bool) (k:Nat),(if b=true then k-1 else k)<=k:=λb k=>by cases b <;> simp
  exact Aa (zaL C hv (Da (Du (ix _ _)) ⋯) λv2 rT e _=>Ai ⟨O,rT,⋯,⋯⟩)
 ·rintro c v ⟨rfl,hv,_,hc⟩;refine⟨O,hv,?_⟩;lia
 ·have:=Til.le hu.ti;rw[Ad]at this;exact⟨O,hu,⋯,.inr ⋯⟩
 rintro c v ⟨rfl,hv,hc⟩;refine Ai (q v hv.pm hv.si.fl ?_);have ti:=hv.ti;have all:StA R (arrOf v) 0 sz:=by
  cases e:(pendingOf v).toList with
  |nil=>rw[e]at ti;have:0=sz:=ti;exact λp q x y _ _ h3=>⋯
  |cons r l=>have hl:(pendingOf v).toList.length=(pendingOf v).size:=Ad;rw[e,Ax]at hl;rw[e]at ti;have:l=[]:=CP.mp ⋯;subst this;obtain⟨a1,a2,a3,a4⟩:=ti;have a4:r.1+r.2.1=sz:=a4;rw[a1]at a3 a4;rw[FN]at a4;rw[a4]at a3;exact a3
 refine BS.mpr λi j hi hj fk=>?_;have e1:(arrOf v)[i]?=some (arrOf v).toList[i]:=by rw[<- AY];exact AC hi
 have e2:(arrOf v)[j]?=some (arrOf v).toList[j]:=by rw[<- AY];exact AC hj
 rw[Ad,hv.sz]at hj;exact all i j _ _ (BC _) fk ⋯ e1 e2
end
def Y6 {α β:Type}(f:α->β){l:List α}(h:(l.map f).Nodup):l.Nodup:=List.Pairwise.of_map f (λa b (bT:f a≠f b) e=>bT (BF f e)) h
def Y7 {α β:Type}{f:α->β}{m l:List β}(h:m.Perm l):∀r:List α,l=r.map f->∃r':List α,r'.Perm r/\m=r'.map f:=by
 induction h with
 |nil=>intro r e;exact⟨r,DO _,e⟩
 |cons x _ ih=>
  intro r e;cases r with
  |nil=>cases e
  |cons y r=>obtain⟨e1,e2⟩:=Cr e;obtain⟨r',p,e3⟩:=ih r e2;exact⟨y::r',p.cons y,by rw[Af,<- e1,e3]⟩
 |swap x y l=>
  intro r e
  match r,e with
  |a::b::r,e=>obtain⟨e1,e2⟩:=Cr e;obtain⟨e3,e4⟩:=Cr e2;exact⟨b::a::r,List.Perm.swap _ _ _,by rw[Af,Af,e1,e3,e4]⟩
 |trans _ _ ih1 ih2=>intro r e;obtain⟨r2,p2,e2⟩:=ih2 r e;obtain⟨r1,p1,e1⟩:=ih1 r2 e2;exact⟨r1,p1.trans p2,e1⟩
def CmL (k l:TC):Prop:=k.length=l.length\/k.head? ≠ l.head?
theorem lex_totG:∀(xs ys:List Nat),CmL xs ys->1<=xs.length->1<=ys.length->xs≠ys->ZB xs ys=false->ZB ys xs=true
 |xs,ys,.inl h,_,_,n,e=>zaA xs ys h n e
 |x::xs,y::ys,.inr h,_,_,_,e=>by have ne:¬x=y:=λz=>h (by rw[z];rfl);unfold ZB at e ⊢;rw[if_neg ne,EX]at e;rw[if_neg (λz=>ne z.symm),Cf];lia
def tl_ltG {prog:Program}{w:World}{A:Around}{E:TB}{s:Shared}{k l:TC}{v u:Value}{Q:Bool->Shared->Prop}(hv:Tl s.heap k v)(hu:Tl s.heap l u)(hl:CmL k l)(k1:1<=k.length)(l1:1<=l.length)(q:Q (ZB k l) s):wpAny (model prog w) A (keyLt' (tuples' true) v u) Q E s:=by
 rcases hl with hl|hl
 ·exact tl_lt hv hu hl q
 obtain⟨b,o,its,n,rfl,e2,e3,e4,e5⟩:=hv;obtain⟨b',o',its',n',rfl,f2,f3,f4,f5⟩:=hu;refine kat_lt e2 e4 f2 f4 ?_;generalize decide (its.size<its'.size)=d;generalize its.toList=xs at e5 ⊢;generalize its'.toList=ys at f5 ⊢
 match k,l,xs,ys,e5,f5 with
 |x::_,y::_,_::_,_::_,.cons r1 _,.cons r2 _=>obtain⟨t,rfl⟩:=r1;obtain⟨t2,rfl⟩:=r2;have ne:¬x=y:=λz=>hl (by rw[z];rfl);show KatLex prog w A true d Q ((_,_)::List.zip _ _) 0 s;refine kat_cons (wpAny_eqBool_int ?_);unfold ZB at q;rw[if_neg ne]at q;rw[show ((x:Int)==(y:Int))=false by simp;lia];refine kat_no (oneLt_int ?_);rw[show decide ((x:Int)<(y:Int))=decide (x<y) by simp];exact q
section
variable {prog:Program}{w:World}{A:Around}{E:TB}{s:Shared}
def Qs {a:Addr}{vs:TF}{n:Nat}{lt:Value->Value->Bool}{P:PySem.Fin->Shared->Prop}(ho:s.heap.get? a=some (seqObj "list" vs.toArray n)) (hl:vs.length<=900) (nd:vs.Nodup) (asym:∀x∈vs,∀y∈vs,lt x y=true->lt y x=false) (tot:∀x∈vs,∀y∈vs,x≠y->lt x y=false->lt y x=true) (tr:∀x∈vs,∀y∈vs,∀z∈vs,lt x y=true->lt y z=true->lt x z=true)
  (hk:2<=vs.length->∀g:Heap,(∀b o,s.heap.get? b=some o->b≠a->g.get? b=some o)->∃κ,(∀Q:SortKind->Shared->Prop,Q κ {s with heap:=g}->wpAny (model prog w) A (keyKind' vs.toArray) Q E {s with heap:=g})/\∀x∈vs,∀y∈vs,∀Q:Bool->Shared->Prop,Q (lt x y) {s with heap:=g}->wpAny (model prog w) A (keyLt' κ x y) Q (λ_ _=>False) {s with heap:=g})
  (h:∀out:TF,out.Perm vs->out.Pairwise (λx y=>lt x y=true)->P (.done (.ret .none)) {s with heap:=sortedHeap s.heap a vs out.toArray}):wpAny (model prog w) A (Builtin.«list.sort» ⟨[.ref a],[]⟩) P E s:=by
 rw[list_sort_plain];have ha:a<s.heap.objs.size:=AR ho;refine AA (listItems_at ho rfl ?_);refine AA (listUpdate_at ho rfl ?_ (by rw[Ao,Bl];lia) (BC _));obtain⟨e1,vW⟩:∃e1,(s.heap.update a (Obj.mapSeq λ_=>#[])).get? a=some (seqObj "list" #[] e1):=⟨_,get?_update_seq ho (λ_=>#[])⟩
 refine AA (seqEpoch_at vW rfl ?_);refine AA (wpAny_newTuple ?_ (by show vs.length<=_;rw[Bl];lia));refine AA (Fe ?_ (BC _));refine BL ?_;have oY:(((s.heap.update a (Obj.mapSeq λ_=>#[])).push (seqObj "tuple" vs.toArray 0)).push (seqObj "list" #[] 0)).get? a=some (seqObj "list" #[] e1):=by rw[Heap.get?_push_ne _ _ _ (by rw[size_push',Heap.size_update];exact AZ (Bi ha)),Heap.get?_push_ne _ _ _ (by rw[Heap.size_update];exact AZ ha)];exact vW
 have kp:∀b o,s.heap.get? b=some o->b≠a->(((s.heap.update a (Obj.mapSeq λ_=>#[])).push (seqObj "tuple" vs.toArray 0)).push (seqObj "list" #[] 0)).get? b=some o:=λb o e nb=>AE _ (AE _ ((BE _ _ (An nb)).trans e));show wpAny (model prog w) A _ P E {s with heap:=((s.heap.update a (Obj.mapSeq λ_=>#[])).push (seqObj "tuple" vs.toArray 0)).push (seqObj "list" #[] 0)};dsimp only;have hsz:vs.toArray.size=vs.length:=by simp
 have e0:((vs.toArray.zip vs.toArray).map (·.2))=vs.toArray:=by apply Fc.mp;rw[Fb,Array.toList_zip];simp[List.map_snd_zip]
 by_cases h2:vs.toArray.size<2
 ·rw[if_pos h2,if_pos h2];refine AA (AF ?_);rw[StateT.run_pure];refine AA (AF ?_);dsimp only;refine AA (seqEpoch_at oY rfl ?_);refine AA (listUpdate_at oY rfl ?_ (hsz2:=by show ((vs.toArray.zip vs.toArray).map (·.2)).size<=_;rw[e0,hsz,Bl];lia));simp only[bne_self_eq_false,Bool.false_eq_true,if_false];have q:=h vs (DO _) (by
   rw[hsz]at h2
   match vs,h2 with
   | [],_=>exact .nil
   | [x],_=>exact Df _ _)
  rw[<- e0]at q;exact AF q
 ·rw[if_neg h2,if_neg h2];rw[hsz]at h2;obtain⟨κ,Kw,aA⟩:=hk ⋯ _ kp;refine AA (Kw _ ?_);have im:∀{x:Keyed},x∈vs.zip vs->x.1=x.2/\x.1∈vs:=λhx=>mem_zip_self hx;have uD:(vs.toArray.zip vs.toArray).toList=vs.zip vs:=by rw[Array.toList_zip]
  have HR:(vs.zip vs).Nodup:=Y6 Prod.snd (by rw[List.map_snd_zip (AI _)];exact nd);refine AA (CD (tm_sort (E:=E) (κ:=κ) (it:=vs.zip vs) (R:=λx y=>lt x.1 y.1) (st:=SortSt.mk' κ (vs.toArray.zip vs.toArray) #[] 7 none) ⟨λx hx y hy Q c=>aA x.1 (im hx).2 y.1 (im hy).2 Q c,λx hx y hy=>asym x.1 (im hx).2 y.1 (im hy).2,λx hx y hy ne=>tot x.1 (im hx).2 y.1 (im hy).2 λz=>ne (Prod.ext z (by rw[<- (im hx).1,<- (im hy).1];exact z)),λx hx y hy z hz=>tr x.1 (im hx).2 y.1 (im hy).2 z.1 (im hz).2⟩
   ⟨rfl,rfl,λx hx=>by rw[<- uD];exact hx,by show (vs.toArray.zip vs.toArray).toList.Nodup;rw[uD];exact HR⟩ (by show (vs.toArray.zip vs.toArray).toList.Perm _;rw[uD]) rfl (Q:=λ_ u=>(arrOf u).toList.Perm (vs.zip vs)/\failedOf u=none/\Srt (λx y=>lt x.1 y.1) (arrOf u).toList) λu a1 a2 a3=>⟨a1,a2,a3⟩) ?_ λ_ _ e=>e)
  rintro⟨⟨⟩,aQ⟩ s' ⟨rfl,hp,hf,hs⟩;dsimp only at hp hf hs ⊢;have hsz2:(arrOf aQ).size=vs.length:=by have:=hp.length_eq;rw[Ad,C4]at this;lia
  refine AA (seqEpoch_at oY rfl ?_);refine AA (listUpdate_at oY rfl ?_ (hsz2:=by rw[Array.size_map,hsz2,Bl];lia));rw[hf];simp only[bne_self_eq_false,Bool.false_eq_true,if_false];have q:=h ((arrOf aQ).toList.map Prod.snd) (by
   have:=hp.map Prod.snd;rw[List.map_snd_zip (AI _)]at this;exact this) (by
   rw[A7];refine CM (λ{x y} hx hy hr=>?_) hs;rw[<- (im (hp.mem_iff.mp hx)).1,<- (im (hp.mem_iff.mp hy)).1];exact hr)
  have eo:((arrOf aQ).toList.map Prod.snd).toArray=(arrOf aQ).map (·.2):=by apply Fc.mp;rw[Fb]
  rw[eo]at q;exact AF q
def yr {g:Heap}{k l:TC}{v:Value}(h1:Tl g k v)(h2:Tl g l v):k=l:=by
 obtain⟨b,o,its,n,rfl,e2,e3,e4,e5⟩:=h1;obtain⟨b',o',its',n',e1,f2,f3,f4,f5⟩:=h2;cases e1;rw[e2]at f2;cases f2;rw[e4]at f4;cases f4
 clear e2 e3 e4 f3
 generalize its.toList=xs at e5 f5
 induction e5 generalizing l with
 |nil=>cases f5;rfl
 |cons r _ ih=>
  cases f5 with
  |cons r' t'=>
   obtain⟨t,rfl⟩:=r;obtain⟨t2,e⟩:=r';injection e with e _
   rw[ih t',E8.mp e]
open Classical in
noncomputable def ltT (g:Heap) (x y:Value):Bool:=decide (∃k l,Tl g k x/\Tl g l y/\ZB k l=true)
def Qt {g:Heap}{k l:TC}{x y:Value}(hx:Tl g k x)(hy:Tl g l y):ltT g x y=ZB k l:=by
 classical
 unfold ltT;cases e:ZB k l with
 |true=>exact Am ⟨k,l,hx,hy,e⟩
 |false=>refine Ag ?_;rintro⟨k',l',h1,h2,h3⟩;rw[yr h1 hx,yr h2 hy,e]at h3;cases h3
def xY {h:Heap}{ks:List TC}{vs:TF}(hp:Paired (Tl h) ks vs)(hL:∀k∈ks,1<=k.length):∃fs,KatTups h vs fs/\fs.length=vs.length/\∀f∈fs,∃i t,f=Value.int i t:=by
 induction hp with
 |nil=>exact⟨[],.nil,O,λf hf=>by cases hf⟩
 | @cons k v ks vs r _ ih=>
  obtain⟨fs,h1,h2,h3⟩:=ih λk hk=>hL k (BD _ hk);obtain⟨b,o,its,n,rfl,e2,e3,e4,e5⟩:=r;have kl:=hL k A5;cases k with
  |nil=>simp at kl
  |cons x k=>
   obtain⟨u,rest,eu⟩:∃u rest,its.toList=u::rest/\∃t,u=.int (x:Int) t:=by
    generalize its.toList=l at e5;cases e5 with
    |cons r5 _=>exact⟨_,_,O,r5⟩
   obtain⟨eu,t,rfl⟩:=eu;refine⟨.int x t::fs,.cons e2 e3 e4 (by rw[<- AY,eu];rfl) h1,by rw[Ax,Ax,h2],λf hf=>?_⟩
   rcases Al.mp hf with rfl|hf
   ·exact⟨_,_,O⟩
   ·exact h3 f hf
def J8 {a:Addr}{vs:TF}{n:Nat}{ks:List TC}{P:PySem.Fin->Shared->Prop}(ho:s.heap.get? a=some (seqObj "list" vs.toArray n)) (hp:Paired (Tl s.heap) ks vs) (hL:∀k∈ks,∀l∈ks,CmL k l) (L1:∀k∈ks,1<=k.length) (nd:ks.Nodup) (hl:vs.length<=900)
  (h:∀ids:TC,ids.Perm (List.range vs.length)->(ids.map λi=>ks.getD i []).Pairwise (λx y=>ZB x y=true)->P (.done (.ret .none)) {s with heap:=sortedHeap s.heap a vs (ids.map λi=>vs.getD i .none).toArray}):wpAny (model prog w) A (Builtin.«list.sort» ⟨[.ref a],[]⟩) P E s:=by
 have kl:=Ac hp;have kg:∀i,i<vs.length->ks[i]?=some (ks.getD i [])/\vs[i]?=some (vs.getD i .none):=λi hi=>by rw[AM,AM,AC hi,AC (show i<ks.length by lia)];exact⟨O,O⟩
 have vg:∀x∈vs,∃k∈ks,Tl s.heap k x:=λx hx=>by obtain⟨i,hi⟩:=As.mp hx;have il:=(AD.mp hi).1;exact⟨_,AL (kg i il).1,TV hp i _ _ (kg i il).1 hi⟩
 have pU:vs.Nodup:=by refine BS.mpr λi j hi hj fk e=>?_;have h1:=TV hp i _ _ (kg i hi).1 (AC hi);have h2:=TV hp j _ _ (kg j hj).1 (AC hj);rw[e]at h1;have e2:=yr h1 h2;have:=(Co (i:=i) (j:=j) ⋯ nd).mp (by rw[(kg i hi).1,(kg j hj).1,e2]);lia
 refine Qs (lt:=ltT s.heap) ho hl pU (λx hx y hy e=>?_) (λx hx y hy ne e=>?_) (λx hx y hy z hz e1 e2=>?_) (λh2 g kp=>?_) λout bU om=>?_
 ·obtain⟨k,_,hk⟩:=vg x hx;obtain⟨l,_,hl⟩:=vg y hy;rw[Qt hk hl]at e;rw[Qt hl hk];exact Q6 _ _ e
 ·obtain⟨k,ik,hk⟩:=vg x hx;obtain⟨l,il,hl⟩:=vg y hy;rw[Qt hk hl]at e;rw[Qt hl hk];refine lex_totG _ _ (hL k ik l il) (L1 k ik) (L1 l il) (λz=>ne ?_) e;subst z;obtain⟨i,hi⟩:=As.mp hx;obtain⟨j,hj⟩:=As.mp hy;have i1:=(AD.mp hi).1;have j1:=(AD.mp hj).1;have t1:=yr (TV hp i _ _ (kg i i1).1 hi) hk;have t2:=yr (TV hp j _ _ (kg j j1).1 hj) hl;have:=(Co (i:=i) (j:=j) ⋯ nd).mp (by rw[(kg i i1).1,(kg j j1).1,t1,t2]);rw[this,hj]at hi;exact (AH hi).symm
 ·obtain⟨k,_,hk⟩:=vg x hx;obtain⟨l,_,hl⟩:=vg y hy;obtain⟨m,_,hm⟩:=vg z hz;rw[Qt hk hl]at e1;rw[Qt hl hm]at e2;rw[Qt hk hm];exact lex_tr _ _ _ e1 e2
 ·have rF:∀{k:TC} {v:Value},Tl s.heap k v->Tl g k v:=λz=>z.keep λb o e c=>kp b o e λba=>by subst ba;rw[ho]at e;cases e;exact absurd (show Value.type "list" = Value.type "tuple" from c) (by intro z;injection z with z;revert z;decide)
  obtain⟨fs,t1,t2,t3⟩:=xY (TN (λ_ _ z=>rF z) hp) L1;refine⟨tuples' true,λQ hq=>kat_kind (T:=.type "int") t1 ⋯ (λf hf=>by obtain⟨i,t,rfl⟩:=t3 f hf;exact .now) ∅ (by rw[show (Value.type "int" != Value.type "tuple")=true by decide];exact hq),λx hx y hy Q hq=>?_⟩
  obtain⟨k,ik,hk⟩:=vg x hx;obtain⟨l,il,hl⟩:=vg y hy;rw[Qt hk hl]at hq;exact tl_ltG (rF hk) (rF hl) (hL k ik l il) (L1 k ik) (L1 l il) hq
 ·have ev:vs=(List.range vs.length).map λi=>vs.getD i .none:=by
   refine BJ λi=>?_;rw[AG];by_cases hi:i<vs.length
   ·rw[A0 hi,(kg i hi).2];rfl
   ·rw[Aw ⋯,Aw (by rw[AU];lia)];rfl
  obtain⟨ids,ip,rfl⟩:=Y7 bU (List.range vs.length) ev;refine h ids ip ?_;rw[A7]at om ⊢;refine CM (λ{i j} hi hj hr=>?_) om;have i1:=AS.mp (ip.mem_iff.mp hi);have j1:=AS.mp (ip.mem_iff.mp hj);rw[Qt (TV hp i _ _ (kg i i1).1 (kg i i1).2) (TV hp j _ _ (kg j j1).1 (kg j j1).2)]at hr;exact hr
def JE {d:Addr}{vs:TF}{ks:List TC}{Q:TB}(bu:∀R:List Value->Shared->Prop,(∀h' tk,(∀b o,s.heap.get? b=some o->h'.get? b=some o)->R vs {s with heap:=h',toks:=tk})->wpAny (model prog w) A.in1 (collect (.ref d)) R E s)
  (hp:Paired (Tl s.heap) ks vs)(hL:∀k∈ks,∀l∈ks,CmL k l)(L1:∀k∈ks,1<=k.length)(nd:ks.Nodup)(hl:vs.length<=900)
  (h:∀(h1 h':Heap) (tk e:Nat) (ids:TC),(∀b o,s.heap.get? b=some o->h1.get? b=some o)->(∀b o,h1.get? b=some o->h'.get? b=some o)->h'.get? h1.objs.size=some (seqObj "list" (ids.map λi=>vs.getD i .none).toArray e)->ids.Perm (List.range vs.length)->(ids.map λi=>ks.getD i []).Pairwise (λx y=>ZB x y=true)->Q (.ref h1.objs.size) {s with heap:=h',toks:=tk}):
  wpAny (model prog w) A (call (.builtin "sorted") [.ref d]) Q E s:=by
 refine En kind_sorted plain_sorted entry_sorted (args_sorted1 _) ?_;unfold Builtin.«sorted»;refine AA (m:=checkCount "sorted" 1 1 _) (AF ?_);refine AA (bu _ λh' tk hk=>?_);refine AA (Fe ?_ (by rw[Bl];lia));have dP:(h'.push (seqObj "list" vs.toArray 0)).get? h'.objs.size=some (seqObj "list" vs.toArray 0):=AQ _ rfl;have sj:Paired (Tl (h'.push (seqObj "list" vs.toArray 0))) ks vs:=TN (λk v z=>z.keep λb o e _=>AE _ (hk b o e)) hp;show wpAny _ _ _ _ _ {s with heap:=h'.push (seqObj "list" vs.toArray 0),toks:=tk};refine AA (BL (A6 slot_list_sort ⟨_,dP,O⟩ entry_list_sort (J8 dP sj hL L1 nd hl λids bU asc=>⟨_,O,?_⟩) (args_list_sort _)));obtain⟨e,he⟩:=sortedHeap_at (vs:=vs) (out:=(ids.map λi=>vs.getD i .none).toArray) dP;exact AF ⟨_,O,h h' _ tk e ids hk (λb o q1=>by have hb:=AR q1;rw[sortedHeap_old (AZ hb) (by rw[DX];exact Bi hb)];exact AE _ q1) he bU asc⟩
def zaO {vs:TF}{ns:List Int}(hI:IntsAre vs ns)(h2:2<=vs.length):keyKind' vs.toArray=pure oneType':=by
 match vs,h2,hI with
 |v1::v2::rest,_,hI=>exact keyKind_ints hI
def xZ {l:Addr}{vs:TF}{ns:List Int}{Q:TB}(il:s.heap.IsList l vs.toArray)(hI:IntsAre vs ns)(nd:ns.Nodup)(hl:vs.length<=900)
  (h:∀(h1 h':Heap) (tk e:Nat) (out:TF) (ms:List Int),(∀b o,s.heap.get? b=some o->h1.get? b=some o)->(∀b o,h1.get? b=some o->h'.get? b=some o)->h'.get? h1.objs.size=some (seqObj "list" out.toArray e)->IntsAre out ms->ms.Perm ns->ms.Pairwise (· <= ·)->Q (.ref h1.objs.size) {s with heap:=h',toks:=tk}):
  wpAny (model prog w) A (call (.builtin "sorted") [.ref l]) Q E s:=by
 refine En kind_sorted plain_sorted entry_sorted (args_sorted1 _) ?_;unfold Builtin.«sorted»;refine AA (m:=checkCount "sorted" 1 1 _) (AF ?_);refine AA (collect_list (l:=l) il ?_ (by rw[Bl];lia));have hk:∀b o,s.heap.get? b=some o->((s.heap.push (seqObj "list" #[] 0)).update s.heap.objs.size (Obj.mapSeq (·++vs.toArray))).get? b=some o:=λb o e=>by have hb:=AR e;rw[BE _ _ (Be hb)];exact AE _ e
 generalize (s.heap.push (seqObj "list" #[] 0)).update s.heap.objs.size (Obj.mapSeq (·++vs.toArray))=h' at *;refine AA (Fe ?_ (by rw[Bl];lia));have dP:(h'.push (seqObj "list" vs.toArray 0)).get? h'.objs.size=some (seqObj "list" vs.toArray 0):=AQ _ rfl;show wpAny _ _ _ _ _ {s with heap:=h'.push (seqObj "list" vs.toArray 0)};have num:∀x∈vs,∃n t,x=Value.int n t:=hI.all;have en:=hI.nums;have pV:∀x∈vs,∀y∈vs,x≠y->numOf x≠numOf y:=λx hx y hy ne e=>by
  obtain⟨i,hi⟩:=As.mp hx;obtain⟨j,hj⟩:=As.mp hy;have h1:ns[i]?=some (numOf x):=by rw[<- en,AG,hi];rfl
  have h2:ns[j]?=some (numOf y):=by rw[<- en,AG,hj];rfl
  have:=(Co (i:=i) (j:=j) (AD.mp h1).1 nd).mp (by rw[h1,h2,e]);rw[this,hj]at hi;exact ne (AH hi).symm
 have pU:vs.Nodup:=Y6 numOf (by rw[en];exact nd);refine AA (BL (A6 slot_list_sort ⟨_,dP,O⟩ entry_list_sort (Qs (lt:=λx y=>decide (numOf x<numOf y)) dP hl pU (λx _ y _ e=>Ag (by have:=A2 e;lia)) (λx hx y hy ne e=>Am (by have:=of_decide_eq_false e;have:=pV x hx y hy ne;lia)) (λx _ y _ z _ e1 e2=>Am (Int.lt_trans (A2 e1) (A2 e2))) (λh2 g kp=>⟨oneType',λQ hq=>?_,λx hx y hy Q hq=>?_⟩) λout bU om=>⟨_,O,?_⟩) (args_list_sort _)))
 ·rw[zaO hI h2];exact AF hq
 ·obtain⟨n,t,rfl⟩:=num x hx;obtain⟨n',t',rfl⟩:=num y hy;rw[keyLt'_oneType];exact oneLt_int hq
 obtain⟨e,he⟩:=sortedHeap_at (vs:=vs) (out:=out.toArray) dP;refine AF ⟨_,O,h h' _ _ e out (out.map numOf) hk (λb o q1=>by have hb:=AR q1;rw[sortedHeap_old (AZ hb) (by rw[DX];exact Bi hb)];exact AE _ q1) he (intsAre_map out λv hv=>num v (bU.mem_iff.mp hv)) ?_ ?_⟩
 ·have:=bU.map numOf;rw[en]at this;exact this
 ·rw[A7];exact om.imp λe=>Int.le_of_lt (A2 e)
end
section
variable {X:Cx}
def J9 (K:Fv) (hK:X.K=K:=by rfl):qU X (.builtin "sorted") (λxs H Q=>∃(p:Addr) (ns:List Int),xs=[.ref p]/\SqL K H p (ns.map V.int)/\ns.length<=900/\ns.Nodup/\∀(l:Addr) (ms:List Int),H l=none->ms.Perm ns->ms.Pairwise (· <= ·)->Q (.ref l) (upd H l (.lst (ms.map V.int)))):=by subst hK;intro pins s σ H xs us Q I r h;obtain⟨p,ns,rfl,hq,nz,nd,q⟩:=h;obtain⟨u,rfl,rx⟩:=vals1 r;cases rx;obtain⟨its,rv,pl,hz⟩:=I.list hq;have hl:=rv.length;rw[AB]at hl;refine xZ pl.isList (Wd rv) nd ⋯ λg1 g2 tk e out ms k1 k2 he a1 a2 a3=>?_;have I1:Inv X pins σ H {s with heap:=g1,toks:=tk}:=I.un (TQ k1) (I.hok.kept k1);refine⟨.ref g1.objs.size,_,I1.laid (t':=tk) (o:=.lst (ms.map V.int)) k2 (AI _) ?_,O,q _ ms (I1.hok.fresh (AI _)) a2 a3⟩;refine⟨by rw[AB,a2.length_eq];exact CZ (zt ⋯),out,e,Jl a1,?_⟩;simpa [seqObj]using he
def JF (K:Fv) (hK:X.K=K:=by rfl):qU X (.builtin "sorted") (λxs H Q=>∃(a:Addr) (vs:List V) (ks:List TC),xs=[.ref a]/\SqL K H a vs/\Paired (xU H) ks vs/\(∀k∈ks,∀l∈ks,CmL k l)/\(∀k∈ks,1<=k.length)/\ks.Nodup/\ks.length<=900 /\
  ∀(l:Addr) (bs:List V) (gW:List TC),H l=none->Paired (xU H) gW bs->gW.Perm ks->gW.Pairwise (λx y=>ZB x y=true)->Q (.ref l) (upd H l (.lst bs))):=by
 subst hK;intro pins s σ H xs us Q I r h;obtain⟨a,vs,ks,rfl,ha,hp,hL,L1,nd,nz,q⟩:=h;obtain⟨u,rfl,rx⟩:=vals1 r;cases rx;obtain⟨us,rv,il,hz⟩:=I.list ha;have pl:=Ac hp;have rl:=rv.length;have km:Paired (Tl s.heap) ks us:=by
  clear hL L1 nd nz q pl rl il ha hz
  induction hp generalizing us with
  |nil=>cases rv;exact .nil
  |cons c _ ih=>
   cases rv with
   |cons r1 rv=>obtain⟨t,rfl,ht⟩:=c;cases r1;exact .cons (col_tl I.hok ht) (ih _ rv)
 refine JE (vs:=us) (ks:=ks) (λR hR=>collect_list (l:=a) il.isList (hR _ _ λb o e=>?_) (by rw[Bl];lia)) km hL L1 nd ⋯ λg1 g2 tk e ids k1 k2 he bU asc=>?_
 ·have hb:=AR e;rw[BE _ _ (Be hb)];exact AE _ e
 have I1:Inv X pins σ H {s with heap:=g1,toks:=tk}:=I.un (TQ k1) (I.hok.kept k1);have Ku:∀i∈ids,i<vs.length:=λi hi=>by have:=AS.mp (bU.mem_iff.mp hi);lia
 have oO:ids.length=us.length:=by rw[bU.length_eq,AU]
 refine⟨.ref g1.objs.size,_,I1.laid (t':=tk) (o:=.lst (ids.map λi=>vs.getD i .non)) k2 (AI _) ?_,O,q _ _ (ids.map λi=>ks.getD i []) (I1.hok.fresh (AI _)) (Zl hp _ _ Ku) (wL _ _ (by rw[pl,rl];exact bU)) asc⟩;refine⟨by rw[AB,oO,Bl];lia,ids.map λi=>us.getD i .none,e,?_,by simpa [seqObj]using he⟩;exact Zl rv _ _ (λi hi=>AS.mp (bU.mem_iff.mp hi))
def JG (hc:X.calm=true):qU X (.builtin "sorted") (λxs H Q=>∃(a:Addr) (kvs:List (List Key×V)) (ks:List TC) (L:Nat),xs=[.ref a]/\H a=some (.dT kvs)/\kvs.map Prod.fst=ks.map Jz/\(∀k∈ks,k.length=L)/\1<=L/\ks.Nodup/\ks.length<=900 /\
  ∀(l:Addr) (bs:List V) (gW:List TC),H l=none->Paired (xU H) gW bs->gW.Perm ks->gW.Pairwise (λx y=>ZB x y=true)->Q (.ref l) (upd H l (.lst bs))):=by
 intro pins s σ H xs us Q I r h;obtain⟨a,kvs,ks,L,rfl,ha,ek,hL,L1,nd,nz,q⟩:=h;obtain⟨u,rfl,rx⟩:=vals1 r;cases rx;obtain⟨z,lo,xs,rp,o,es,ep,h1,h2,h3,h4,h5⟩:=(show qm X.prog X.w H s.heap a (.dT kvs) from I.hok a _ ha)
 have hp:=zaB (P:=X.prog) (w:=X.w) (kvs:=kvs) ek rp;have pl:=Ac hp;have km:Paired (Tl s.heap) ks (xs.map λx=>Value.ref x.2.1):=by
  clear hL nd nz q pl h4 h5 ek rp
  induction xs generalizing ks with
  |nil=>cases hp;exact .nil
  |cons x xs ih=>
   cases hp with
   |cons c hp=>obtain⟨t,e,ht⟩:=c;cases e;exact .cons (col_tl I.hok ht) (ih _ hp)
 have eC:es.size=xs.length:=by rw[<- Ad,h4,AB]
 have xl:xs.length=ks.length:=by rw[pl,AB]
 have el:(xs.map λx=>Value.ref x.2.1).length=xs.length:=by rw[AB]
 refine JE (d:=a) (vs:=xs.map λx=>Value.ref x.2.1) (ks:=ks) (λR hR=>kdu_collect (A:=X.A.in1) (kdl_e (d:=a) (es:=es) (ep:=ep) lo) (I.ok.hd hc) ⟨o,h1,h2,h3⟩ (by rw[eC,Bl];lia) λh' tk acc hk aj=>?_) km (λk hk l hl=>.inl ((hL k hk).trans (hL l hl).symm)) (λk hk=>by rw[hL k hk];exact L1) nd ⋯ λg1 g2 tk e ids k1 k2 he bU asc=>?_
 ·have ev:acc.toList=es.toList.map (·.key):=by
   refine BJ λi=>?_;rw[AG,AY,AY];by_cases hi:i<es.size
   ·have g:acc[i]?=some (acc[i]'(by rw[aj.1];exact hi)):=BU _;obtain⟨e,he,ee⟩:=aj.2 i _ g;rw[g,he,ee];rfl
   ·rw[Bg (by rw[aj.1];lia),Bg ⋯];rfl
  rw[ev,h4,Yk];exact hR h' tk hk
 have I1:Inv X pins σ H {s with heap:=g1,toks:=tk}:=I.un (TQ k1) (I.hok.kept k1);have oO:ids.length=xs.length:=by rw[bU.length_eq,AU,el]
 have vl:(xs.map λx=>V.ref x.2.1).length=xs.length:=by rw[AB]
 refine⟨.ref g1.objs.size,_,I1.laid (t':=tk) (o:=.lst (ids.map λi=>(xs.map λx=>V.ref x.2.1).getD i .non)) k2 (AI _) ?_,O,q _ _ (ids.map λi=>ks.getD i []) (I1.hok.fresh (AI _)) (Zl hp _ _ (λi hi=>by have:=AS.mp (bU.mem_iff.mp hi);lia)) (wL _ _ (by rw[<- xl,<- el];exact bU)) asc⟩;refine⟨by rw[AB,oO,Bl];lia,ids.map λi=>(xs.map λx=>Value.ref x.2.1).getD i .none,e,?_,by simpa [seqObj]using he⟩;refine Zl (as:=xs.map λx=>V.ref x.2.1) (bs:=xs.map λx=>Value.ref x.2.1) ?_ _ _ (λi hi=>AS.mp (bU.mem_iff.mp hi))
 clear km hp pl h4 h5 rp he bU asc oO vl el xl eC
 induction xs with
 |nil=>exact .nil
 |cons x xs ih=>exact .cons rfl ih
end
def comp_tl2 {K:Fv}{a:Addr}{n:Nat}{xs:List V}{ad:Nat->Addr}{v1 v2:Nat->V}{tt:TT}{te:TE}{H1:Hp}{Q:VK}{D:Addr}{more:St}(P:Nat->List V->Hp->Prop)(h0:P 0 [] (upd H1 D (.lst [])))(hn:xs.length=n)(hx:∀i,i<n->xs[i]?=some (.ref (ad i)))
  (hl:∀i ys H,P i ys H->H D=some (.lst ys)->SqL K H a xs)(ht:∀i ys H,i<n->P i ys H->SqT K H (ad i) [v1 i,v2 i])
  (hs:∀i ys H,i<n->P i ys H->H D=some (.lst ys)->tt (some (v1 i)::some (v2 i)::more) H λb H4=>if b=true then te (some (v1 i)::some (v2 i)::more) H4 (Xi (λσ=>∃x y,σ=x::y::more) P n D (some (v1 i)::some (v2 i)::more) i) else cNo (λσ=>∃x y,σ=x::y::more) P n D (some (v1 i)::some (v2 i)::more) i H4)
  (hd:∀ys H,P n ys H->H D=some (.lst ys)->Q (.ref D) H):
  jd (Itl K a) (gTup K 2 (ZD (qN 0) (ZD (qN 1) gNil))) tt te (none::none::more) H1 Q D:=by
 refine jU (xv:=λi=>.ref (ad i)) (st:=λi=>some (v1 i)::some (v2 i)::more) (λσ=>∃x y,σ=x::y::more) P ⟨_,_,O⟩ h0 (λi ys H hi p hD=>⟨⟨xs,_,hl i ys H p hD,hx i hi⟩,λx H2 y=>⟨y.1,?_⟩⟩) (λys H p hD=>⟨xs,hl _ ys H p hD,Eg hn⟩)
  (λi ys af H K' hi r p k=>?_) hs hd
 ·have e:=y.2 xs (hl i ys H p hD);rw[hx i hi]at e;exact (AH e).symm
 ·obtain⟨x,y,rfl⟩:=r;exact⟨ad i,_,O,ht i ys H hi p,O,_,_,O,_,_,O,O,k⟩
end L2
namespace K40
open PySem L2 L4
local macro_rules | `(tactic| walk_at "hp") => `(tactic| first | assumption | exact ze | (rw [zJ (by first | assumption | exact Ne.symm (by assumption) | exact zN (by assumption) (by assumption) | exact Ne.symm (zN (by assumption) (by assumption)))]; walk_at "hp"))
local macro_rules | `(tactic| walk_at "r1") => `(tactic| first | refine ⟨_, rfl, ?_⟩ | refine .inl ⟨_, _, _, _, rfl, rfl, TR (by walk_at "hp"), rfl, ?_⟩ | refine .inr (.inl ⟨_, _, _, _, rfl, rfl, TU (by walk_at "hp"), rfl, ?_⟩) | refine ⟨_, _, rfl, rfl, ?_⟩ | refine ⟨(show CMul _ _ from .inr ⟨by lia, by lia⟩), ?_⟩ | refine ⟨(show CMul _ _ from .inl ⟨by lia, by lia⟩), ?_⟩ | refine ⟨(show CDiv _ _ from ⟨by lia, by lia⟩), ?_⟩ | refine ⟨(show CPow _ _ from ⟨by decide, by decide, by decide⟩), ?_⟩ | refine ⟨(show (0 : Int) < _ by lia), ?_⟩ | refine ⟨_, _, _, _, rfl, rfl, (by walk_at "hp"), rfl, ?_⟩)
local macro_rules | `(tactic| walk_at "rd") => `(tactic| repeat walk_at "r1")
local macro_rules | `(tactic| walk_at "dc") => `(tactic| first | refine iteT ?_ | refine iteF ?_ | refine iteDT (by decide +kernel) ?_ | refine iteDF (by decide +kernel) ?_ | refine ⟨_, rfl, rfl, _, rfl, ?_⟩)
local macro_rules | `(tactic| walk_at "ds") => `(tactic| repeat walk_at "dc")
local macro_rules | `(tactic| walk_at "v") => `(tactic| first | exact Or.inl rfl | exact Or.inr (Or.inl rfl) | exact Or.inr (Or.inr rfl))
local macro_rules | `(tactic| walk_at "f") => `(tactic| first | exact .inl rfl | exact .inr rfl | assumption)
structure Cn where
 nm:Str
 pl:Nat
 cs:TC
structure Tb where
 m:Nat
 ws:TC
 cs:List Cn
def Cns (H:Hp):List Cn->List V->Prop:=Paired λc v=>∃t u,v=.ref t/\H t=some (.tup [.str c.nm,nV c.pl,.ref u])/\H u=some (.tup (c.cs.map nV))
def Cns.same {H H':Hp}(s:zH H H'){cs:List Cn}{vs:List V}(h:Cns H cs vs):Cns H' cs vs:=by
 unfold Cns at h ⊢
 induction h with
 |nil=>exact .nil
 |cons r _ ih=>obtain⟨t,u,e,h1,h2⟩:=r;exact .cons ⟨t,u,e,s _ _ h1,s _ _ h2⟩ ih
def Cns.snoc {H:Hp}{cs:List Cn}{vs:List V}{c:Cn}{t u:Addr}(h:Cns H cs vs)(h1:H t=some (.tup [.str c.nm,nV c.pl,.ref u]))(h2:H u=some (.tup (c.cs.map nV))):Cns H (cs++[c]) (vs++[.ref t]):=by
 unfold Cns at h ⊢
 induction h with
 |nil=>exact .cons ⟨t,u,O,h1,h2⟩ .nil
 |cons r _ ih=>exact .cons r ih
def Tc:=@Cns.snoc
def Cns.len {H:Hp}{cs:List Cn}{vs:List V}(h:Cns H cs vs):cs.length=vs.length:=Ac h
def Cns.get {H:Hp}{cs:List Cn}{vs:List V}(h:Cns H cs vs){i:Nat}{c:Cn}(hc:cs[i]?=some c):∃t u,vs[i]?=some (.ref t)/\H t=some (.tup [.str c.nm,nV c.pl,.ref u])/\H u=some (.tup (c.cs.map nV)):=by
 have hi:i<vs.length:=by rw[<- h.len];exact (AD.mp hc).1
 have e:vs[i]?=some vs[i]:=AC hi;obtain⟨t,u,e1,h1,h2⟩:=TV h i c _ hc e;exact⟨t,u,by rw[e,e1],h1,h2⟩
def Qc (H:Hp)(v:V)(T:Tb):Prop:=∃a w c vs,v=.ref a/\H a=some (.tup [nV T.m,.ref w,.ref c])/\H w=some (.tup (T.ws.map nV))/\H c=some (.tup vs)/\Cns H T.cs vs
def Qc.same {H H':Hp}(s:zH H H'){v:V}{T:Tb}(h:Qc H v T):Qc H' v T:=by obtain⟨a,w,c,vs,e,h1,h2,h3,h4⟩:=h;exact⟨a,w,c,vs,e,s _ _ h1,s _ _ h2,s _ _ h3,h4.same s⟩
structure zZ (T:Tb):Prop where
 m1:1<=T.m
 m9:T.m<=9
 ris:T.ws.Pairwise (·<·)
 wlt:∀x∈T.ws,x<T.m
 cl:T.cs.length<=16
 cn:∀c∈T.cs,c.nm.length<=100/\c.pl<=2/\Tn.Cs T.m c.pl c.cs
def qj (T:Tb)(o:TC):Tb:=⟨T.m,Tn.tw T.m o T.ws,T.cs.map λc=>⟨c.nm,c.pl,Tn.tc T.m o c.pl c.cs⟩⟩
def zZ.turn {T:Tb}{o:TC}(g:zZ T)(h:Tn.Or T.m o):zZ (qj T o):=by refine⟨g.m1,g.m9,Tn.tw_ris _ _ _,λx hx=>(Tn.tw_mem.mp hx).1,by show (T.cs.map _).length<=16;rw[AB];exact g.cl,λc hc=>?_⟩;obtain⟨d,hd,rfl⟩:=AK.mp hc;obtain⟨h1,h2,h3⟩:=g.cn d hd;exact⟨h1,h2,Tn.tc_cs h h3⟩
def JH {m k:Nat}(h9:m<=9)(k2:k<=2):m^k<=81:=by have h1:m^k<=9^k:=DU h9 k;have h2:(9:Nat)^k<=9^2:=DI ∅ k2;exact Ar h1 h2
def Cns.tk {H H':Hp}(s:Tk H H'){cs:List Cn}{vs:List V}(h:Cns H cs vs):Cns H' cs vs:=by
 unfold Cns at h ⊢
 induction h with
 |nil=>exact .nil
 |cons r _ ih=>obtain⟨t,u,e,h1,h2⟩:=r;exact .cons ⟨t,u,e,s _ _ h1,s _ _ h2⟩ ih
def Qc.tk {H H':Hp}(s:Tk H H'){v:V}{T:Tb}(h:Qc H v T):Qc H' v T:=by obtain⟨a,w,c,vs,e,h1,h2,h3,h4⟩:=h;exact⟨a,w,c,vs,e,s _ _ h1,s _ _ h2,s _ _ h3,h4.tk s⟩
def cut_ints (ns:List Int)(lo hi:Option Int):∃ms:List Int,ZF (ns.map V.int) lo hi=ms.map V.int:=by unfold ZF;rw[<- E7,<- E6];exact⟨_,O⟩
def Ym:Str := "qwertyuiopasdfghjklzxcvbnm"
def sign_all:((List.range 52).all λk=>(atI Ym.cps.toList ((k:Int)-26)).isSome)=true:=∅
def Yn {i:Int}(h1:-26<=i)(h2:i<26):∃c,atI Ym.cps.toList i=some c:=by have h:=BB.mp sign_all (i+26).toNat (AS.mpr ⋯);have e:(((i+26).toNat:Nat):Int)-26=i:=⋯;rw[e]at h;exact ET.mp h
def JI {xs:TC}{i:Nat}(hi:i<xs.length):atI (xs.map nV) (i:Int)=some (nV (Tn.at' xs i)):=by refine qF ?_;rw[AG,AC hi];unfold Tn.at';rw[AM,AC hi];rfl
def Wt (a:Nat)(ws:TC):inV (nV a) (ws.map nV)=decide (a∈ws):=by
 induction ws with
 |nil=>rfl
 |cons w ws ih=>
  unfold inV at ih ⊢;rw[Af,Dy,ih];have e:eqV (nV w) (nV a)=decide (a=w):=by
   by_cases h:a=w
   ·rw[h];simp[eqV]
   ·rw[Ag h];simp[eqV];lia
  rw[e,<- Bool.decide_or];exact decide_eq_decide.mpr Al.symm
def qt (ws:TC):(ws.map nV).all qV=true:=by rw[FV,BB];intro i _;rfl
theorem yt (H:Hp):∀ws:List Nat,Paired (Ya H 0) (ws.map nV) (ws.map nV)
 | []=>.nil
 |w::ws=>.cons ⟨rfl,rfl⟩ (yt H ws)
theorem wO {α:Type}:∀(xs:List α) (i:Nat) (x:α),xs[i]?=some x->xs.Perm (x::xs.eraseIdx i)
 | [],i,x,h=>by simp at h
 |y::ys,0,x,h=>by
  have e:y=x:=by simpa using h
  subst e;exact DO _
 |y::ys,i+1,x,h=>((wO ys i x (by simpa using h)).cons y).trans (List.Perm.swap x y _)
theorem yu {α β:Type}(f:α->β):∀(xs:List α) (i:Nat),(xs.map f).eraseIdx i=(xs.eraseIdx i).map f
 | [],_=>rfl
 |_::_,0=>rfl
 |x::xs,i+1=>by show f x::(xs.map f).eraseIdx i=f x::(xs.eraseIdx i).map f;rw[yu f xs i]
def seq_nat {v n:Nat}(h:v<n):seqIndex? (v:Int) n=some v:=by unfold seqIndex?;have h1:¬((v:Int)<0):=⋯;simp only[h1,if_false];rw[if_pos (by simp;lia)];rfl
def zaP (K:Fv):Sp:=λvs H Q _=>∃(a:Addr) (ns:List Int) (pl:Int),vs=[.ref a,.int pl]/\SqL K H a (ns.map V.int)/\ns.length<=63/\∀p H',H p=none->zH H H'->Wel H' p->Q (.ref p) H'
def Yo:Sp:=λvs H Q _=>∃(p:Addr) (k:Nat),vs=[.ref p,.int (k:Int)]/\Wel H p/\k<=3/\∀l xs H',Off p H H'->Wel H' p->H' l=some (.lst xs)->TL 16 xs->xs.Nodup->xs.length<=4->l≠p->Q (.ref l) H'
def Wu:Sp:=λvs H Q _=>∃(p:Addr) (m pl:Nat),vs=[.ref p,nV m,nV pl]/\Wel H p/\1<=m/\m<=9/\pl<=2/\∀t cs H',Off p H H'->Wel H' p->Tn.Cs m pl cs->H' t=some (.tup (cs.map nV))->Q (.ref t) H'
def nmsOf' (T:Tb):TJ:=T.cs.map Cn.nm
def Yp:Sp:=λvs H Q _=>∃(p:Addr) (mo so:Nat),vs=[.ref p,nV mo,nV so]/\Wel H p/\1<=mo/\mo<=9/\so<=3/\∀v T H',Off p H H'->Wel H' p->zZ T->T.m<=mo->T.cs.length<=4->(nmsOf' T).Nodup->Qc H' v T->Q v H'
def Yq:Sp:=λvs H Q _=>∃(p:Addr) (m:Nat),vs=[.ref p,nV m]/\Wel H p/\1<=m/\m<=9/\∀t o H',Off p H H'->Wel H' p->Tn.Or m o->H' t=some (.tup (o.map nV))->Q (.ref t) H'
def spLaw (K:Fv):Sp:=λvs H Q _=>∃(a:Addr) (ns:List Int),vs=[.ref a]/\SqL K H a (ns.map V.int)/\ns.length<=63/\∀H',Q (.bl true) H'
def Sh (T:Tb):List (Str×Nat):=T.cs.map λc=>(c.nm,c.pl)
def nd_cut {xs:List V}(h:xs.Nodup)(lo hi:Option Int):(ZF xs lo hi).Nodup:=by unfold ZF;exact h.sublist ((EO _ _).trans (FU _ _))
def rot8 (f:Nat):(ZF [.str "and",.str "or",.str "not",.str "then",.str "grades",.str "wished",.str "false",.str "true"] (some ((f:Int)%8)) none++ZF [.str "and",.str "or",.str "not",.str "then",.str "grades",.str "wished",.str "false",.str "true"] none (some ((f:Int)%8))).Nodup:=by have all:∀r:Nat,r<8->(ZF [.str "and",.str "or",.str "not",.str "then",.str "grades",.str "wished",.str "false",.str "true"] (some (r:Int)) none++ZF [.str "and",.str "or",.str "not",.str "then",.str "grades",.str "wished",.str "false",.str "true"] none (some (r:Int))).Nodup:=∅;have:=all (f%8) (CG _ ∅);rw[FY]at this;exact this
def Q7 (c n:Nat):(Txt.mul (Str.mk #[c]) (n:Int)).length=n:=by
 unfold Txt.mul;split
 ·rename_i h;show 0=n;lia
 ·split
  ·rename_i h1 h2;have h2:(n:Int)=1:=by
    rcases (Bool.or_eq_true _ _).mp h2 with h|h
    ·exact eq_of_beq h
    ·exact absurd h (by show ¬((1:Nat)==0)=true;decide)
   show 1=n;lia
  ·have aux:∀(k:Nat) (acc:Array Nat),((List.replicate k #[c]).foldl (· ++ ·) acc).size=acc.size+k:=by
    intro k
    induction k with
    |zero=>intro acc;rfl
    |succ k ih=>intro acc;rw[CY,CV,ih,FW];show acc.size+1+k=_;lia
   show ((List.replicate (n:Int).toNat #[c]).foldl (· ++ ·) #[]).size=n;rw[aux];simp
def nd_map {α:Type}(f:α->V)(L:List α)(h:L.Nodup)(inj:∀a∈L,∀b∈L,f a=f b->a=b):(L.map f).Nodup:=by unfold List.Nodup;rw[A7];exact CM (λ{a b} ha hb aO he=>aO (inj a ha b hb he)) h
def nm1 (c:Nat)(j:Nat):V:=.str (Txt.mul (Str.mk #[c]) (0+(j:Int)+2))
def nm1_nd (c n:Nat):((List.range n).map (nm1 c)).Nodup:=by refine nd_map _ _ Dx λa _ b _ h=>?_;have h1:=BF Str.length (V.str.inj h);rw[show 0+(a:Int)+2=((a+2:Nat):Int) by lia,show 0+(b:Int)+2=((b+2:Nat):Int) by lia,Q7,Q7]at h1;lia
def sgAt (i:Int):Nat:=(atI Ym.cps.toList i).getD 0
def sg_inj:∀a:Nat,a<26->∀b:Nat,b<26->sgAt (a:Int)=sgAt (b:Int)->a=b:=∅
def sg_of {i:Int}{c:Nat}(h:atI Ym.cps.toList i=some c):c=sgAt i:=by unfold sgAt;rw[h];rfl
def nm2 (f:Nat)(A B:Str)(j:Nat):V:=.str (A++Str.mk #[sgAt (((f:Int)+(0+(j:Int)))%26)]++B)
def mid_inj {A B:Str}{c d:Nat}(h:A++Str.mk #[c]++B=A++Str.mk #[d]++B):c=d:=by have h1:A.cps ++ #[c]++B.cps=A.cps ++ #[d]++B.cps:=BF Str.cps h;have h2:=BF Array.toList h1;simp only[Array.toList_append]at h2;have h3:=List.append_cancel_right h2;have h4:=List.append_cancel_left h3;simpa using h4
def nm2_nd (f n:Nat)(A B:Str)(hn:n<=8):((List.range n).map (nm2 f A B)).Nodup:=by refine nd_map _ _ Dx λa ha b hb h=>?_;have a8:=AS.mp ha;have b8:=AS.mp hb;have h1:=mid_inj (V.str.inj h);rw[show ((f:Int)+(0+(a:Int)))%26=(((f+a)%26:Nat):Int) by lia,show ((f:Int)+(0+(b:Int)))%26=(((f+b)%26:Nat):Int) by lia]at h1;have h2:=sg_inj _ (CG _ ∅) _ (CG _ ∅) h1;lia
def zaQ {ts:TJ}(h:(ts.map V.str).Nodup):ts.Nodup:=by unfold List.Nodup at h ⊢;rw[A7]at h;exact h.imp λaO e=>aO (by rw[e])
abbrev Ln:Type:=Str ⊕ (Str×TC)
def qH (T:Tb):TJ:=T.cs.map Cn.nm
def findC (T:Tb)(nm:Str):Option Cn:=T.cs.find? λc=>decide (c.nm=nm)
def Qu {T:Tb}(hn:(qH T).Nodup){c:Cn}(hc:c∈T.cs):findC T c.nm=some c:=by
 obtain⟨m,ws,cs⟩:=T;unfold findC qH at *;dsimp only at *
 induction cs with
 |nil=>cases hc
 |cons d cs ih=>
  rw[Af,Bh]at hn;rw[List.find?_cons]
  rcases Al.mp hc with rfl|hc
  ·rw[Am rfl]
  ·have ne:¬d.nm=c.nm:=λe=>hn.1 (e ▸ AK.mpr ⟨c,hc,rfl⟩);rw[Ag ne];exact ih hn.2 hc
def cellOf (T:Tb)(nm:Str)(r:List Nat):Nat:=match findC T nm with
 |some c=>Tn.at' c.cs (Tn.place T.m r)
 |none=>0
def lineR (T:Tb)(γ:Str->Nat)(acc:List Nat):Ln->Nat
 |.inl x=>γ x
 |.inr z=>cellOf T z.1 (z.2.map (Tn.at' acc))
def qa (T:Tb)(γ:Str->Nat)(ls:List Ln):TC:=ls.foldl (λacc l=>acc++[lineR T γ acc l]) []
def JJ (T:Tb)(γ:Str->Nat)(ls:List Ln)(l:Ln):qa T γ (ls++[l])=qa T γ ls++[lineR T γ (qa T γ ls) l]:=by unfold qa;rw[List.foldl_append];rfl
def zaR (T:Tb)(LT:List Str)(i:Nat):Ln->Prop
 |.inl x=>x∈LT
 |.inr z=>(∀n∈z.2,n<i)/\∃c∈T.cs,c.nm=z.1/\c.pl=z.2.length
def j8 (T:Tb)(LT:TJ)(ls:List Ln):Prop:=∀(i:Nat) (l:Ln),ls[i]?=some l->zaR T LT i l
theorem wP (T:Tb)(γ:Str->Nat)(ls:List Ln):∀i,i<=ls.length->(qa T γ (ls.take i)).length=i
 |0,_=>rfl
 |i+1,h=>by have hi:ls[i]?=some ls[i]:=AC ⋯;rw[take_snoc hi,JJ,AJ,wP T γ ls i ⋯];rfl
def at_left {xs ys:TC}{j:Nat}(h:j<xs.length):Tn.at' (xs++ys) j=Tn.at' xs j:=by unfold Tn.at';rw[AM,AM,BK h]
def at_last {xs:TC}{y:Nat}:Tn.at' (xs++[y]) xs.length=y:=by unfold Tn.at';rw[AM,BI (AI _),EH];rfl
theorem qQ (T:Tb)(γ:Str->Nat)(ls:List Ln){i:Nat}{l:Ln}(h:ls[i]?=some l):∀m,i<m->m<=ls.length->Tn.at' (qa T γ (ls.take m)) i=lineR T γ (qa T γ (ls.take i)) l
 |0,h0,_=>absurd h0 (C2 _)
 |m+1,h0,hm=>by
  have hi:ls[m]?=some ls[m]:=AC ⋯;rw[take_snoc hi,JJ];have gl:=wP T γ ls m ⋯;by_cases e:i=m
  ·subst e;rw[h]at hi;rw[<- AH hi]
   conv=>lhs;arg 2;rw[<- gl]
   exact at_last
  ·rw[at_left ⋯];exact qQ T γ ls h m ⋯ ⋯
def zZ.cell_lt {T:Tb}(g:zZ T)(hn:(qH T).Nodup){c:Cn}(hc:c∈T.cs){r:TC}(hr:Tn.Rw T.m c.pl r):cellOf T c.nm r<T.m:=by unfold cellOf;rw[Qu hn hc];exact (g.cn c hc).2.2.at_lt (Tn.place_lt _ _ hr)
def Wv (T:Tb)(γ:Str->Nat){LT:TJ}{ls:List Ln}(hg:j8 T LT ls){i:Nat}{l:Ln}(h:ls[i]?=some l):Tn.at' (qa T γ ls) i=lineR T γ (qa T γ ls) l:=by
 have hi:i<ls.length:=(AD.mp h).1;have e:=qQ T γ ls h ls.length hi (AI _);rw[Ak]at e;rw[e];cases l with
 |inl x=>rfl
 |inr z=>
  have hz:=(hg i _ h).1;show cellOf T z.1 _=cellOf T z.1 _
  congr 1
  refine Ab λn hn=>?_;have mD:=hz n hn;have cO:ls[n]?=some ls[n]:=AC ⋯;have e1:=qQ T γ ls cO i mD ⋯;have e2:=qQ T γ ls cO ls.length ⋯ (AI _);rw[Ak]at e2;rw[e1,e2]
theorem Q8 {T:Tb}(g:zZ T)(hn:(qH T).Nodup){γ:Str->Nat}{LT:List Str}{ls:List Ln}(hg:j8 T LT ls)(dF:∀x∈LT,γ x<T.m):∀(b i:Nat),i<b->i<ls.length->Tn.at' (qa T γ ls) i<T.m
 |0,i,h,_=>absurd h (C2 _)
 |b+1,i,hb,hi=>by
  have h:ls[i]?=some ls[i]:=AC hi;have gl:=hg i _ h;rw[Wv T γ hg h];generalize ls[i]=l at *;cases l with
  |inl x=>exact dF x gl
  |inr z=>obtain⟨hz,c,hc,e1,e2⟩:=gl;show cellOf T z.1 _<_;rw[<- e1];exact g.cell_lt hn hc ⟨by rw[AB];exact e2.symm,λx hx=>by obtain⟨n,kz,rfl⟩:=AK.mp hx;have:=hz n kz;exact Q8 g hn hg dF b n ⋯ ⋯⟩
def Bd (T:Tb)(LT:TJ)(γ:Str->Nat):Prop:=∀x∈LT,γ x<T.m
def rows_get {n k:Nat}(hk:k<=2){r:TC}(hr:Tn.Rw n k r):(Tn.rowsR n k)[Tn.place n r]?=some r:=by
 obtain⟨hl,hx⟩:=hr
 match k,hk,r,hl with
 |0,_,[],_=>rfl
 |1,_,[a],_=>have ha:=hx a (by simp);show ((List.range n).map λx=>[x])[0*n+a]?=some [a];rw[AG,A0 ⋯];simp
 |2,_,[a,b],_=>
  have ha:=hx a (by simp);have hb:=hx b (by simp);have aA:a*n+b<n*n:=by have:(a+1)*n<=n*n:=Bp n ha;rw[Ff]at this;lia
  show ((List.range (n*n)).map λp=>[p/n,p%n])[(0*n+a)*n+b]?=some [a,b];rw[Nat.zero_mul,FN,AG,A0 aA];have e1:(a*n+b)/n=a:=by rw[BP,EE ⋯,Dw hb,Ck]
  have e2:(a*n+b)%n=b:=by rw[BP,ED,Dv hb]
  simp[e1,e2]
def zaS {T U:Tb}(h:Sh T=Sh U){c:Cn}(hc:c∈T.cs):∃d∈U.cs,d.nm=c.nm/\d.pl=c.pl:=by have:(c.nm,c.pl)∈Sh U:=h ▸ AK.mpr ⟨c,hc,rfl⟩;obtain⟨d,hd,e⟩:=AK.mp this;exact⟨d,hd,BF Prod.fst e,BF Prod.snd e⟩
def Qv {T U:Tb}(h:Sh T=Sh U){LT:TJ}{ls:List Ln}(g:j8 T LT ls):j8 U LT ls:=λi l hl=>by
 have:=g i l hl;cases l with
 |inl x=>exact this
 |inr z=>obtain⟨h1,c,hc,e1,e2⟩:=this;obtain⟨d,hd,f1,f2⟩:=zaS h hc;exact⟨h1,d,hd,f1.trans e1,f2.trans e2⟩
def QN {T U:Tb}(h:Sh T=Sh U):qH T=qH U:=by
 have e:∀X:Tb,qH X=(Sh X).map Prod.fst:=λX=>by unfold qH Sh;rw[AW];rfl
 rw[e,e,h]
def len_sh {T U:Tb}(h:Sh T=Sh U):T.cs.length=U.cs.length:=by
 have:=BF List.length h;unfold Sh at this
 rwa [AB,AB]at this
def at0 {x:V}{us:List V}:atI (x::us) 0=some x:=qF (j:=0) rfl
def JK {xs:List V}(h:1<=xs.length):ZF xs (some 1) none=xs.drop 1:=by unfold ZF;rw[show HT.sIx xs.length 0 (some 1)=1 by rw[show (1:Int)=((1:Nat):Int) from rfl,HT.sIx_nat];lia,HT.sIx_none];exact BX (by rw[Cw];lia)
def zaT {K:Fv}{H:Hp}{a:Addr}{xs:List V}{lo hi:Option Int}{Q:VK}(ha:H a=some (.tup xs))(F:∀t H',zH H H'->H' t=some (.tup (ZF xs lo hi))->Q (.ref t) H'):rSlT K (.ref a) lo hi H Q\/rSlTW K (.ref a) lo hi H Q:=by
 by_cases h:HT.sIx xs.length 0 lo=0/\HT.sIx xs.length xs.length hi=xs.length
 ·refine .inr ⟨a,xs,O,TU ha,h,F a H (zH.refl H) ?_⟩;unfold ZF;rw[h.1,h.2,EK,FQ,Ak];exact ha
 ·exact .inl ⟨a,xs,O,TU ha,h,λp hp=>F p _ (zf hp _) ze⟩
def catA_of {K:Fv}{H:Hp}{a b:Addr}{xs ys:List V}{Q:VK}(ha:H a=some (.tup xs))(hb:H b=some (.tup ys))(hz:xs.length+ys.length<=1000)(F:∀t H',zH H H'->H' t=some (.tup (xs++ys))->Q (.ref t) H'):rCatA K (.ref a) (.ref b) H Q:=
 ⟨a,b,xs,ys,rfl,rfl,TU ha,TU hb,zy hz,λz=>F b H (zH.refl H) (by rw[z];exact hb),λ_ z=>F a H (zH.refl H) (by rw[z,Az];exact ha),λ_ _ p hp=>F p _ (zf hp _) ze⟩
def Ls (L:TJ):Prop:=∀x∈L,Ltr x
def Yr:Sp:=λvs H Q _=>∃x:Str,vs=[.str x]/\Small x/\x.length<=8/\∀H',zH H H'->Q (.bl true) H'
def IsLn (H:Hp):Ln->V->Prop
 |.inl x,v=>v=.str x
 |.inr z,v=>∃t,v=.ref t/\H t=some (.tup (.str z.1::z.2.map nV))
def IsLn.tk {H H':Hp}(k:Tk H H'){l:Ln}{v:V}(h:IsLn H l v):IsLn H' l v:=by
 cases l with
 |inl x=>exact h
 |inr z=>obtain⟨t,e,h⟩:=h;exact⟨t,e,k _ _ h⟩
abbrev Lns (H:Hp):List Ln->List V->Prop:=Paired (IsLn H)
def Lns.tk {H H':Hp}(k:Tk H H'){ls:List Ln}{us:List V}(h:Lns H ls us):Lns H' ls us:=TN (λ_ _ z=>z.tk k) h
def Td:=@Lns.tk
def Lns.snoc {H:Hp}{ls:List Ln}{us:List V}{l:Ln}{u:V}(h:Lns H ls us)(k:IsLn H l u):Lns H (ls++[l]) (us++[u]):=by
 induction h with
 |nil=>exact .cons k .nil
 |cons r _ ih=>exact .cons r ih
def Te:=@Lns.snoc
def d0:Cn:=⟨"",0,[]⟩
def knOf (T:Tb)(au:Nat->Addr)(n:Nat):List (Key×V):=(List.range n).map λi=>(Sum.inr (T.cs.getD i d0).nm,.ref (au i))
def kn_keys (T:Tb)(au:Nat->Addr):(knOf T au T.cs.length).map Prod.fst=(qH T).map Sum.inr:=by
 unfold knOf qH;rw[AW,AW];refine BJ λi=>?_;rw[AG,AG];by_cases hi:i<T.cs.length
 ·rw[A0 hi,AC hi];simp[List.getD,hi]
 ·rw[Aw (by rw[AU];lia),Aw ⋯];rfl
def kn_nd {T:Tb}{au:Nat->Addr}(h:(qH T).Nodup):((knOf T au T.cs.length).map Prod.fst).Nodup:=by rw[kn_keys];unfold List.Nodup;rw[A7];exact h.imp λaO e=>aO (Sum.inr.inj e)
abbrev Stp:Type:=Cn×Nat×Option Nat
def Y8 (m:Nat)(c:Cn):List Stp:=(if c.pl=1 then [(c,0,none)] else [])++(if c.pl=2 then (List.range m).map (λo=>(c,0,some o))++(List.range m).map (λo=>(c,1,some o)) else [])
def wc (T:Tb):List Stp:=T.cs.flatMap (Y8 T.m)
def JL (m:Nat)(s:Stp)(x:Nat):Nat:=match s.2.2 with
 |none=>Tn.at' s.1.cs x
 |some o=>if s.2.1=0 then Tn.at' s.1.cs (x*m+o) else Tn.at' s.1.cs (o*m+x)
def fsT (T:Tb):List (Nat->Nat):=(wc T).map (JL T.m)
def mkT (T:Tb):TC:=Tn.mkN T.m T.ws (fsT T)
def Qw (T:Tb):TC:=Tn.reps T.m (mkT T)
def ZN {T:Tb}(g:zZ T):Tn.Fix T.m T.ws (fsT T) (mkT T):=Tn.mkN_fix _ _ g.m1
def JM {T:Tb}(W:Nat->Nat->Prop)(hw:∀a b,W a b->a<T.m/\b<T.m)(hp:∀a b,W a b->(a∈T.ws↔b∈T.ws))(hs:∀a b,W a b->∀s∈wc T,W (JL T.m s a) (JL T.m s b)){a b:Nat}(h:W a b):Tn.at' (mkT T) a=Tn.at' (mkT T) b:=by
 have all:∀k a b,W a b->Tn.at' (Tn.itr T.m (fsT T) (Tn.mk0 T.m T.ws) k) a=Tn.at' (Tn.itr T.m (fsT T) (Tn.mk0 T.m T.ws) k) b:=by
  intro k
  induction k with
  |zero=>intro a b h;obtain⟨ha,hb⟩:=hw a b h;show Tn.at' (Tn.mk0 T.m T.ws) a=Tn.at' (Tn.mk0 T.m T.ws) b;unfold Tn.mk0;rw[Tn.fp_eq (x:=decide (a∈T.ws)) (y:=decide (b∈T.ws)) (by rw[AG,A0 ha];rfl) (by rw[AG,A0 hb];rfl)];simpa using hp a b h
  |succ k ih=>intro a b h;obtain⟨ha,hb⟩:=hw a b h;show Tn.at' (Tn.refn _ _ _) a=Tn.at' (Tn.refn _ _ _) b;rw[Tn.refn_eq ha hb];refine⟨ih a b h,λf hf=>?_⟩;obtain⟨s,b5,rfl⟩:=AK.mp hf;exact ih _ _ (hs a b h s b5)
 exact all T.m a b h
def JN {T:Tb}(g:zZ T){s:Stp}(hs:s∈wc T){x:Nat}(hx:x<T.m):JL T.m s x<T.m:=by
 obtain⟨c,hc,h⟩:=BV.mp hs;obtain⟨_,_,h3⟩:=g.cn c hc;have two:∀a b,a<T.m->b<T.m->c.pl=2->Tn.at' c.cs (a*T.m+b)<T.m:=λa b ha hb e=>by refine h3.at_lt ?_;rw[e];have:(a+1)*T.m<=T.m*T.m:=Bp _ ha;rw[Ff]at this;show _<T.m^2;rw[DQ,D9];lia
 rcases AX.mp h with h|h
 ·split at h
  ·rename_i e;rw[AN.mp h];show Tn.at' c.cs x<T.m;refine h3.at_lt ?_;rw[e,D9];exact hx
  ·cases h
 ·split at h
  ·rename_i e
   rcases AX.mp h with h|h
   ·obtain⟨o,ho,rfl⟩:=AK.mp h;show (if 0=0 then Tn.at' c.cs (x*T.m+o) else Tn.at' c.cs (o*T.m+x))<T.m;rw[if_pos rfl];exact two x o hx (AS.mp ho) e
   ·obtain⟨o,ho,rfl⟩:=AK.mp h;show (if 1=0 then Tn.at' c.cs (x*T.m+o) else Tn.at' c.cs (o*T.m+x))<T.m;rw[if_neg ∅];exact two o x (AS.mp ho) hx e
  ·cases h
def wQ {T:Tb}(g:zZ T){s:Stp}(hs:s∈wc T){a b:Nat}(ha:a<T.m)(hb:b<T.m)(h:Tn.at' (mkT T) a=Tn.at' (mkT T) b):Tn.at' (mkT T) (JL T.m s a)=Tn.at' (mkT T) (JL T.m s b):=
 (ZN g).step a b ha hb h _ (AK.mpr ⟨s,hs,rfl⟩)
def wR {T:Tb}(g:zZ T){a b:Nat}(ha:a<T.m)(hb:b<T.m)(h:Tn.at' (mkT T) a=Tn.at' (mkT T) b):a∈T.ws↔b∈T.ws:=(ZN g).wish a b ha hb h
def zaU {n k:Nat}(h:n≠k):¬nV n=V.int (k:Int):=λe=>by have:((n:Nat):Int)=(k:Int):=V.int.inj e;lia
def nVV_ne {n k:Nat}(h:n≠k):¬nV n=nV k:=zaU h
def zaV (xs ys:TC):Qk (xs.map nV) (ys.map nV)=decide (xs=ys):=by
 unfold Qk;rw[AB,AB]
 induction xs generalizing ys with
 |nil=>cases ys <;> simp
 |cons x xs ih=>
  cases ys with
  |nil=>simp
  |cons y ys=>
   have:=ih ys;rw[Af,Af,Dd,Ca,Ax,Ax];have e1:eqV (nV x) (nV y)=decide (x=y):=by show (((x:Int))==(y:Int))=_;rw[C5,beq_iff_eq,DZ];lia
   have e2:(xs.length+1==ys.length+1)=(xs.length==ys.length):=by rw[C5,beq_iff_eq,beq_iff_eq];lia
   show ((eqV (nV x) (nV y)&&_)&&_)=_;rw[e1,e2,Bool.and_assoc,this,C5];simp
def wT {α:Type}[DecidableEq α] {xs:List α}{x y:α}{m:Nat}(h:m<xs.idxOf x)(hm:xs[m]?=some y):y≠x:=λe=>by subst e;have:=Tn.idx_le hm;lia
def ixo {α:Type}[DecidableEq α] (xs:List α)(x:α):Nat:=xs.idxOf x
def nO:Option Nat->V
 |none=>.non
 |some o=>nV o
def stV (s:Stp):List V:=[.str s.1.nm,nV s.2.1,nO s.2.2]
def IsSt (H:Hp)(s:Stp)(v:V):Prop:=∃t,v=.ref t/\H t=some (.tup (stV s))
abbrev Sts (H:Hp):List Stp->List V->Prop:=Paired (IsSt H)
def IsSt.tk {H H':Hp}(k:Tk H H'){s:Stp}{v:V}(h:IsSt H s v):IsSt H' s v:=by obtain⟨t,e,h⟩:=h;exact⟨t,e,k _ _ h⟩
def Sts.tk {H H':Hp}(k:Tk H H'){ss:List Stp}{vs:List V}(h:Sts H ss vs):Sts H' ss vs:=TN (λ_ _ z=>z.tk k) h
def Tf:=@Sts.tk
def Sts.app {H:Hp}{as bs:List Stp}{xs ys:List V}(h:Sts H as xs)(k:Sts H bs ys):Sts H (as++bs) (xs++ys):=by
 induction h with
 |nil=>exact k
 |cons r _ ih=>exact .cons r ih
def stpC_len {m:Nat}(h:m<=9)(c:Cn):(Y8 m c).length<=18:=by
 unfold Y8;rw[AJ];by_cases e:c.pl=1
 ·rw[if_pos e,if_neg ⋯];show 1+0<=18
  decide
 ·rw[if_neg e];by_cases e2:c.pl=2
  ·rw[if_pos e2,AJ,AB,AB,AU];show 0+(m+m)<=18;lia
  ·rw[if_neg e2];show 0+0<=18
   decide
theorem Ww {m:Nat}(h:m<=9):∀cs:List Cn,(cs.flatMap (Y8 m)).length<=18*cs.length
 | []=>AI _
 |c::cs=>by have h1:=Ww h cs;have h2:=stpC_len h c;rw[DF,AJ,Ax];lia
def zaW {T:Tb}{s:Stp}(h:s∈wc T):∃c∈T.cs,(c.pl=1/\s=(c,0,none))\/(c.pl=2/\∃o,o<T.m/\(s=(c,0,some o)\/s=(c,1,some o))):=by
 obtain⟨c,hc,h⟩:=BV.mp h;refine⟨c,hc,?_⟩
 rcases AX.mp h with h|h
 ·split at h
  ·exact .inl ⟨by assumption,AN.mp h⟩
  ·cases h
 ·split at h
  ·refine .inr ⟨by assumption,?_⟩
   rcases AX.mp h with h|h
   ·obtain⟨o,ho,e⟩:=AK.mp h;exact⟨o,AS.mp ho,.inl e.symm⟩
   ·obtain⟨o,ho,e⟩:=AK.mp h;exact⟨o,AS.mp ho,.inr e.symm⟩
  ·cases h
def WR (c:Cn):List Key:=[Sum.inr c.nm,Sum.inl (c.pl:Int)]
def IsCd (H:Hp)(d:Addr)(T:Tb):Prop:=∃kvs,H d=some (.dT kvs)/\∀c∈T.cs,∃u,jk kvs (WR c)=some (.ref u)/\H u=some (.tup (c.cs.map nV))
def IsCd.same {H H':Hp}{d:Addr}{T:Tb}(h:IsCd H d T)(s:zH H H'):IsCd H' d T:=by obtain⟨kvs,h1,h2⟩:=h;refine⟨kvs,s _ _ h1,λc hc=>?_⟩;obtain⟨u,e1,e2⟩:=h2 c hc;exact⟨u,e1,s _ _ e2⟩
def ctOf (T:Tb)(au:Nat->Addr)(n:Nat):List (List Key×V):=(List.range n).map λi=>(WR (T.cs.getD i d0),.ref (au i))
def ct_snoc (T:Tb)(au:Nat->Addr)(n:Nat):ctOf T au (n+1)=ctOf T au n++[(WR (T.cs.getD n d0),.ref (au n))]:=by unfold ctOf;rw[BH,AO];rfl
def ct_nd {T:Tb}{au:Nat->Addr}(h:(qH T).Nodup):((ctOf T au T.cs.length).map Prod.fst).Nodup:=by have h2:=kn_nd (au:=au) h;unfold ctOf;unfold knOf at h2;rw[AW]at h2 ⊢;unfold List.Nodup at h2 ⊢;rw[A7]at h2 ⊢;exact h2.imp λaO e=>aO (by have e':WR _=WR _:=e;unfold WR at e';exact (Cr e').1)
def Tps (H:Hp):List TC->List V->Prop:=Paired λns v=>∃a,v=.ref a/\H a=some (.tup (ns.map nV))
def Tps.tk {H H':Hp}(k:Tk H H'){ns:List TC}{vs:List V}(h:Tps H ns vs):Tps H' ns vs:=TN (λ_ _ z=>by obtain⟨a,e,h⟩:=z;exact⟨a,e,k _ _ h⟩) h
def Tps.snoc {H:Hp}{ns:List TC}{vs:List V}{n:TC}{a:Addr}(h:Tps H ns vs)(k:H a=some (.tup (n.map nV))):Tps H (ns++[n]) (vs++[.ref a]):=by
 unfold Tps at h ⊢
 induction h with
 |nil=>exact .cons ⟨a,O,k⟩ .nil
 |cons r _ ih=>exact .cons r ih
def Lld (D:Addr)(H:Hp):List TC->List V->Prop:=Paired λns v=>∃a,v=.ref a/\a≠D/\H a=some (.lst (ns.map nV))
def Lld.same {D:Addr}{H H':Hp}(s:zH H H'){ns:List TC}{vs:List V}(h:Lld D H ns vs):Lld D H' ns vs:=TN (λ_ _ z=>by obtain⟨a,e,n,h⟩:=z;exact⟨a,e,n,s _ _ h⟩) h
def Lld.put {D:Addr}{H:Hp}{o:HO}{ns:List TC}{vs:List V}(h:Lld D H ns vs):Lld D (upd H D o) ns vs:=TN (λ_ _ z=>by obtain⟨a,e,n,h⟩:=z;exact⟨a,e,n,by rw[zJ n];exact h⟩) h
def Lld.snoc {D:Addr}{H:Hp}{ns:List TC}{vs:List V}{n:TC}{a:Addr}(h:Lld D H ns vs)(ne:a≠D)(k:H a=some (.lst (n.map nV))):Lld D H (ns++[n]) (vs++[.ref a]):=by
 unfold Lld at h ⊢
 induction h with
 |nil=>exact .cons ⟨a,O,ne,k⟩ .nil
 |cons r _ ih=>exact .cons r ih
def Lld.lls {D:Addr}{H:Hp}{ns:List TC}{vs:List V}(h:Lld D H ns vs):Lls H (ns.map (List.map nV)) vs:=by
 unfold Lld at h;unfold Lls
 induction h with
 |nil=>exact .nil
 |cons r _ ih=>obtain⟨a,e,_,k⟩:=r;exact .cons ⟨a,e,k⟩ ih
def Lld.at {D:Addr}{H:Hp}{ns:List TC}{vs:List V}(h:Lld D H ns vs){i:Nat}{n:TC}(e:ns[i]?=some n):∃a,vs[i]?=some (.ref a)/\H a=some (.lst (n.map nV)):=by obtain⟨v,e1,a,rfl,_,k⟩:=QE h e;exact⟨a,e1,k⟩
def Lld.len {D:Addr}{H:Hp}{ns:List TC}{vs:List V}(h:Lld D H ns vs):vs.length=ns.length:=(Ac h).symm
def zaX:Sp:=λvs H Q _=>∃(v:V) (T:Tb),vs=[v]/\Qc H v T/\zZ T/\(qH T).Nodup/\∀e H',zH H H'->IsCd H' e T->Q (.ref e) H'
def Ys:Sp:=λvs H Q _=>∃(v:V) (T:Tb),vs=[v]/\Qc H v T/\zZ T/\∀l xs H',H l=none->zH H H'->H' l=some (.lst xs)->Sts H' (wc T) xs->Q (.ref l) H'
def JO:Sp:=λvs H Q _=>∃(e t:Addr) (T:Tb) (s:Stp) (x:Nat),vs=[.ref e,nV T.m,.ref t,nV x]/\IsCd H e T/\zZ T/\s∈wc T/\H t=some (.tup (stV s))/\x<T.m/\∀H',zH H H'->Q (nV (JL T.m s x)) H'
def Wx:Sp:=λvs H Q _=>∃(l:Addr) (bs:List Bool),vs=[.ref l]/\H l=some (.lst (bs.map V.bl))/\bs.length<=9/\∀k H',zH H H'->H' k=some (.lst ((Tn.fp bs).map nV))->Q (.ref k) H'
def Wy:Sp:=λvs H Q _=>∃(l D:Addr) (xs:List V) (dy:List TC) (n:Nat),vs=[.ref l]/\H l=some (.lst xs)/\Lld D H dy xs/\(∀ns∈dy,ns.length=n)/\dy.length<=9/\∀k H',zH H H'->H' k=some (.lst ((Tn.fp dy).map nV))->Q (.ref k) H'
def Wz:Sp:=λvs H Q _=>∃(v:V) (l:Addr) (T:Tb) (ms:TC),vs=[v,.ref l]/\Qc H v T/\zZ T/\(qH T).Nodup/\H l=some (.lst (ms.map nV))/\ms.length=T.m/\∀k H',zH H H'->H' k=some (.lst ((Tn.refn T.m (fsT T) ms).map nV))->Q (.ref k) H'
def zaY:Sp:=λvs H Q _=>∃(l:Addr) (ms:TC) (r:Nat),vs=[.ref l,nV r]/\H l=some (.lst (ms.map nV))/\ms.length<=9/\∀t H',zH H H'->H' t=some (.tup ((Tn.partF ms.length ms r).map nV))->Q (.ref t) H'
def ptsT (T:Tb):List TC:=(Qw T).map (Tn.partF T.m (mkT T))
def Yt:Sp:=λvs H Q _=>∃(v:V) (T:Tb),vs=[v]/\Qc H v T/\zZ T/\(qH T).Nodup/\∀t xs H',zH H H'->H' t=some (.tup xs)->Tps H' (ptsT T) xs->Q (.ref t) H'
def zaZ {xs:List V}{lo hi:Option Int}{v:V}(h:v∈ZF xs lo hi):v∈xs:=by unfold ZF at h;exact ((EO _ _).trans (FU _ _)).subset h
def sg_un:∀f:Nat,f<26->¬Txt.mul (Str.mk #[sgAt (f:Int)]) 2=Txt.mul (Str.mk #[sgAt ((f:Int)-1)]) 2:=∅
def nm1_z {f:Nat}(hf:f<26)(j:Nat):¬nm1 (sgAt (f:Int)) j=.str (Txt.mul (Str.mk #[sgAt ((f:Int)-1)]) 2):=λe=>by have e0:=V.str.inj e;have h1:=BF Str.length e0;rw[show 0+(j:Int)+2=((j+2:Nat):Int) by lia,show (2:Int)=((2:Nat):Int) from rfl,Q7,Q7]at h1;have:j=0:=⋯;subst this;exact sg_un f hf e0
def lnL:Ln->Bool
 |.inl _=>true
 |.inr _=>false
def JP:Sp:=λvs H Q _=>∃(v:V) (l:Ln),vs=[v]/\IsLn H l v/\(∀x,l=.inl x->Ltr x)/\∀H',zH H H'->Q (.bl (lnL l)) H'
structure Clos (ls:List Ln)(ns:TC):Prop where
 nd:ns.Nodup
 lt:∀n∈ns,n<ls.length
 last:ls.length-1∈ns
 cl:∀n∈ns,∀z,ls[n]?=some (.inr z)->∀m∈z.2,m∈ns
def nd1 (ns:TC):List (Key×V):=ns.map λ(n:Nat)=>((Sum.inl (n:Int):Key),V.bl true)
theorem Yu:∀(ns:List Nat) (n:Nat),(jk (nd1 ns) (Sum.inl (n:Int))).isSome=decide (n∈ns)
 | [],n=>by simp[nd1,jk]
 |m::ns,n=>by
  unfold nd1;rw[Af];by_cases h:m=n
  ·rw[qz (by rw[h])];simp[h]
  ·rw[qw (λe=>h (by have:=Ew e;lia))];have:=Yu ns n;unfold nd1 at this;rw[this];have hn:¬n=m:=λe=>h e.symm;simp[hn]
def nd1_keys (ns:TC):((nd1 ns).map λp=>kV p.1)=ns.map nV:=by unfold nd1;rw[AW];rfl
def nd1_put {ns:TC}{n:Nat}(h:n ∉ ns):Z8 (nd1 ns) (Sum.inl (n:Int)) (.bl true)=nd1 (ns++[n]):=by
 have hv:jk (nd1 ns) (Sum.inl (n:Int))=none:=by
  have:=Yu ns n;rw[Ag h]at this;cases e:jk (nd1 ns) (Sum.inl (n:Int)) with
  |none=>rfl
  |some x=>rw[e]at this;cases this
 rw[Wh _ hv];unfold nd1;rw[AO];rfl
def LtrLn (l:Ln):Prop:=∀x,l=.inl x->Ltr x
def j8.ltr {T:Tb}{LT:TJ}{ls:List Ln}(h:j8 T LT ls)(hL:Ls LT){i:Nat}{l:Ln}(hi:ls[i]?=some l):LtrLn l:=λx e=>by have:=h i l hi;rw[e]at this;exact hL x this
def SqE (H:Hp)(a:Addr)(us:List V):Prop:=H a=some (.tup us)\/H a=some (.lst us)
def SqE.same {H H':Hp}{a:Addr}{us:List V}(h:SqE H a us)(s:zH H H'):SqE H' a us:=h.imp (s _ _) (s _ _)
def SqE.ix {K:Fv}{H:Hp}{a:Addr}{us:List V}{k:Nat}{u:V}{Q:VK}(h:SqE H a us)(e:us[k]?=some u)(q:Q u H):rIx K (.ref a) (nV k) H Q:=by
 rcases h with h|h
 ·exact .inr (.inl ⟨a,_,_,_,O,O,TU h,qF e,q⟩)
 ·exact .inl ⟨a,_,_,_,O,O,TR h,qF e,q⟩
def SqE.len {K:Fv}{H:Hp}{a:Addr}{us:List V}(h:SqE H a us):LenV K (.ref a) H us.length:=by
 rcases h with h|h
 ·exact .inr ⟨_,TU h,O⟩
 ·exact .inl ⟨_,TR h,O⟩
def nat_nd {ns:TC}(h:ns.Nodup):(ns.map λ(n:Nat)=>(n:Int)).Nodup:=List.Pairwise.map _ (λa b (e:a≠b) z=>e (E8.mp z)) h
def Y9:Sp:=λvs H Q _=>∃(lt:Addr) (us:List V) (ls:List Ln) (T:Tb) (LT:TJ),vs=[.ref lt]/\SqE H lt us/\Lns H ls us/\j8 T LT ls/\(∀c∈T.cs,c.pl<=2)/\Ls LT/\1<=ls.length/\ls.length<=81/\∀l ns H',zH H H'->H' l=some (.lst (ns.map nV))->Clos ls ns->Q (.ref l) H'
def za0:Sp:=λvs H Q _=>∃(e l:Addr) (us:List V) (ss:List Ln) (T:Tb) (LT:TJ),vs=[.ref e,.ref l]/\IsCd H e T/\H l=some (.lst us)/\Lns H ss us/\(∀s∈ss,∃i,zaR T LT i s)/\Ls LT/\∀H',zH H H'->Q .non H'
def za1:Sp:=λvs H Q _=>∃(g l:Addr) (us:List V) (ss:List Ln) (LT:TJ) (kvs:List (Key×V)),vs=[.ref l,.ref g]/\H g=some (.dK kvs)/\H l=some (.lst us)/\Lns H ss us/\(∀s∈ss,∀x,s=.inl x->x∈LT)/\Ls LT/\(∀x∈LT,(jk kvs (Sum.inr x)).isSome=true)/\∀H',zH H H'->Q .non H'
abbrev Q9 (H:Hp):List TC->List V->Prop:=Paired λcol v=>∃t,v=.ref t/\H t=some (.tup (col.map nV))
def Q9.tk {H H':Hp}(k:Tk H H'){cs:List TC}{us:List V}(h:Q9 H cs us):Q9 H' cs us:=TN (λ_ _ ⟨t,e,h⟩=>⟨t,e,k _ _ h⟩) h
def Tg:=@Q9.tk
def Q9.snoc {H:Hp}{cs:List TC}{us:List V}{c:TC}{t:Addr}(h:Q9 H cs us)(k:H t=some (.tup (c.map nV))):Q9 H (cs++[c]) (us++[.ref t]):=by
 induction h with
 |nil=>exact .cons ⟨t,O,k⟩ .nil
 |cons r _ ih=>exact .cons r ih
def qc (m len:Nat)(col:TC):Prop:=col.length=len/\∀x∈col,x<m
def xa {col:TC}{j:Nat}(h:j<col.length):col[j]?=some (Tn.at' col j):=by unfold Tn.at';rw[AM,AC h];rfl
def qc.at {m len:Nat}{col:TC}(h:qc m len col){j:Nat}(hj:j<len):Tn.at' col j<m:=h.2 _ (AL (xa (by rw[h.1];exact hj)))
def za2:Sp:=λvs H Q _=>∃(cu cl:Addr) (m pl:Nat) (cs:TC) (cols:List TC) (aF:List V) (len:Nat),vs=[.ref cu,nV m,.ref cl,nV len]/\H cu=some (.tup (cs.map nV))/\Tn.Cs m pl cs/\H cl=some (.lst aF)/\Q9 H cols aF/\cols.length=pl/\pl<=2/\(∀col∈cols,qc m len col)/\1<=m/\m<=9/\len<=9/\∀t H',zH H H'->H' t=some (.tup (((List.range len).map λk=>Tn.at' cs (Tn.place m (cols.map λcol=>Tn.at' col k))).map nV))->Q (.ref t) H'
def WA:Sp:=λvs H Q _=>∃(v:V) (e al t:Addr) (T:Tb) (z:Str×TC) (cols:List TC) (bG:List V) (len:Nat),vs=[v,.ref e,.ref al,.ref t,nV len]/\Qc H v T/\zZ T/\(qH T).Nodup/\IsCd H e T/\H al=some (.lst bG)/\Q9 H cols bG/\(∀col∈cols,qc T.m len col)/\H t=some (.tup (.str z.1::z.2.map nV))/\(∀n∈z.2,n<cols.length)/\(∃c∈T.cs,c.nm=z.1/\c.pl=z.2.length)/\len<=9/\∀t' H',zH H H'->H' t'=some (.tup (((List.range len).map λk=>cellOf T z.1 (z.2.map λn=>Tn.at' (cols.getD n []) k)).map nV))->Q (.ref t') H'
def reN (ns:List Nat):Ln->Ln
 |.inl x=>.inl x
 |.inr z=>.inr (z.1,z.2.map λm=>ns.idxOf m)
def Qy (ns:TC):List (Key×V):=ns.zipIdx.map λp=>((Sum.inl ((p.1:Nat):Int):Key),nV p.2)
def ZT (ns:TC):(Qy ns).length=ns.length:=by unfold Qy;rw[AB,List.length_zipIdx]
def WB {ns:TC}{i:Nat}{p:Key×V}(h:(Qy ns)[i]?=some p):∃n,ns[i]?=some n/\p=(Sum.inl ((n:Nat):Int),nV i):=by
 unfold Qy at h;rw[AG,List.getElem?_zipIdx]at h;cases e:ns[i]? with
 |none=>rw[e]at h;cases h
 |some n=>rw[e]at h;refine⟨n,O,?_⟩;have h2:=AH h;rw[<- h2];simp
def yv (ns:TC):(Qy ns).map Prod.fst=ns.map λ(n:Nat)=>(Sum.inl (n:Int):Key):=by
 refine BJ λi=>?_;rw[AG,AG];cases e:(Qy ns)[i]? with
 |none=>have:=List.getElem?_eq_none_iff.mp e;rw[ZT]at this;rw[Aw this];rfl
 |some p=>obtain⟨n,h1,rfl⟩:=WB e;rw[h1];rfl
def nums_nd {ns:TC}(h:ns.Nodup):((Qy ns).map Prod.fst).Nodup:=by rw[yv];unfold List.Nodup at h ⊢;rw[A7];exact h.imp λaO e=>aO (by have:=Ew e;lia)
theorem xb:∀{kvs:List (Key×V)}{p:Key×V},(kvs.map Prod.fst).Nodup->p∈kvs->jk kvs p.1=some p.2
 | [],p,_,h=>by cases h
 |q::kvs,p,nd,h=>by
  rw[Af,Bh]at nd
  rcases Al.mp h with rfl|h
  ·exact qz rfl
  ·rw[qw (λe=>nd.1 (e ▸ AK.mpr ⟨p,h,rfl⟩))];exact xb nd.2 h
theorem yw:∀{kvs:List (Key×V)}{k:Key},k ∉ kvs.map Prod.fst->jk kvs k=none
 | [],k,_=>rfl
 |q::kvs,k,h=>by rw[Af,Al,not_or]at h;rw[qw (λe=>h.1 e.symm)];exact yw h.2
def nums_val {ns:TC}(nd:ns.Nodup){n:Nat}(h:n∈ns):jk (Qy ns) (Sum.inl (n:Int))=some (nV (ns.idxOf n)):=by
 have aA:=CA h;have hp:(Qy ns)[ns.idxOf n]?=some (Sum.inl ((n:Nat):Int),nV (ns.idxOf n)):=by have e:(Qy ns)[ns.idxOf n]?=some ((Qy ns)[ns.idxOf n]'(by rw[ZT];exact aA)):=AC _;obtain⟨m,h1,h2⟩:=WB e;rw[e,h2];rw[AC aA,C0]at h1;rw[AH h1]
 exact xb (nums_nd nd) (p:=(Sum.inl ((n:Nat):Int),nV (ns.idxOf n))) (AL hp)
def za3 (ns:TC)(n:Nat):Qy (ns++[n])=Qy ns++[(Sum.inl ((n:Nat):Int),nV ns.length)]:=by unfold Qy;rw[List.zipIdx_append,AO];simp
def nums_put {ns:TC}{i n:Nat}(nd:ns.Nodup)(h:ns[i]?=some n):Z8 (Qy (ns.take i)) (Sum.inl (n:Int)) (.int ((Qy (ns.take i)).length:Nat))=Qy (ns.take (i+1)):=by
 have hi:=(AD.mp h).1;have hn:n ∉ ns.take i:=λhm=>by obtain⟨j,hj,e⟩:=List.mem_take_iff_getElem.mp hm;obtain⟨h1,h2⟩:=AD.mp h;exact (BS.mp nd) j i ⋯ h1 ⋯ (by rw[e,h2])
 have hk:(Sum.inl (n:Int):Key) ∉ (Qy (ns.take i)).map Prod.fst:=by rw[yv];intro hm;obtain⟨m,fH,e⟩:=AK.mp hm;have:=Ew e;exact hn (by rw[show n=m by lia];exact fH)
 rw[Wh _ (yw hk),take_snoc h,za3,ZT]
def za4 {ls:List Ln}{cG:TC}{ms:List Int}(c:Clos ls cG)(pm:ms.Perm (cG.map λ(n:Nat)=>(n:Int)))(pw:ms.Pairwise (· <= ·)):∃ns:TC,ms.map V.int=ns.map nV/\Clos ls ns/\ns.Pairwise (·<·)/\ns.length=cG.length:=by
 have m0:∀i∈ms,∃n∈cG,i=((n:Nat):Int):=λi hi=>by obtain⟨n,hn,e⟩:=AK.mp (pm.mem_iff.mp hi);exact⟨n,hn,e.symm⟩
 have mm:∀x,x∈ms.map Int.toNat↔x∈cG:=λx=>by
  constructor
  ·intro hx;obtain⟨i,hi,rfl⟩:=AK.mp hx;obtain⟨n,hn,rfl⟩:=m0 i hi;rw[Av];exact hn
  ·intro hx;exact AK.mpr ⟨((x:Nat):Int),pm.mem_iff.mpr (AK.mpr ⟨x,hx,O⟩),Av _⟩
 have aD:(cG.map λ(n:Nat)=>(n:Int)).Nodup:=by have:=c.nd;unfold List.Nodup at this ⊢;rw[A7];exact this.imp λaO e=>aO ⋯
 have nd:=pm.nodup_iff.mpr aD;have ris:(ms.map Int.toNat).Pairwise (·<·):=by rw[A7];refine CM (λ{a b} ha hb aO=>?_) (List.pairwise_and_iff.mpr ⟨pw,nd⟩);obtain⟨n,_,rfl⟩:=m0 a ha;obtain⟨k,_,rfl⟩:=m0 b hb;have h1:=aO.1;have h2:=aO.2;lia
 refine⟨ms.map Int.toNat,?_,⟨ris.imp λh=>AZ h,λn hn=>c.lt n ((mm n).mp hn),(mm _).mpr c.last,λn hn z hz m hm=>(mm m).mpr (c.cl n ((mm n).mp hn) z hz m hm)⟩,ris,by rw[AB,pm.length_eq,AB]⟩;rw[AW];refine Ab λi hi=>?_;obtain⟨n,_,rfl⟩:=m0 i hi;show V.int _=V.int _;rw[Av]
def Yv {α:Type}{f:Nat->α}{n j:Nat}{x:α}(h:((List.range n).map f)[j]?=some x):j<n/\x=f j:=by
 rw[AG]at h;by_cases hj:j<n
 ·rw[A0 hj]at h;exact⟨hj,(AH h).symm⟩
 ·rw[Aw (by rw[AU];lia)]at h;cases h
def lnPs:Ln->List Nat
 |.inl _=>[]
 |.inr z=>z.2
def Yw:Sp:=λvs H Q _=>∃(v:V) (nd:Addr) (l:Ln) (ns:TC) (o:Obj),vs=[v,.ref nd]/\IsLn H l v/\LtrLn l/\H nd=some (.frz o (.dK (Qy ns)))/\ns.Nodup/\(∀m∈lnPs l,m∈ns)/\(lnPs l).length<=2/\ns.length<=81/\∀w H',zH H H'->IsLn H' (reN ns l) w->Q w H'
def WC:Sp:=λvs H Q _=>∃(lt:Addr) (us:List V) (ls:List Ln) (T:Tb) (LT:TJ),vs=[.ref lt]/\SqE H lt us/\Lns H ls us/\j8 T LT ls/\(∀c∈T.cs,c.pl<=2)/\Ls LT/\1<=ls.length/\ls.length<=81/\∀t d6 ns H',zH H H'->H' t=some (.tup d6)->Clos ls ns->ns.Pairwise (·<·)->Lns H' (ns.map λn=>reN ns (ls.getD n (.inl ""))) d6->Q (.ref t) H'
def Qf (T:Tb)(γ:Nat->Str->Nat)(ls:List Ln)(len n:Nat):TC:=(List.range len).map λk=>Tn.at' (qa T (γ k) ls) n
def ZU {T:Tb}(γ:Nat->Str->Nat){ls:List Ln}(len:Nat){n:Nat}{x:Str}(hn:ls[n]?=some (.inl x)):Qf T γ ls len n=(List.range len).map λk=>γ k x:=by unfold Qf;refine Ab λk _=>?_;have hi:=(AD.mp hn).1;have e:=qQ T (γ k) ls hn ls.length hi (AI _);rw[Ak]at e;rw[e];rfl
def Ja {T:Tb}{LT:TJ}(γ:Nat->Str->Nat){ls:List Ln}(hG:j8 T LT ls)(len:Nat){n:Nat}{z:Str×TC}(hn:ls[n]?=some (.inr z)):Qf T γ ls len n=(List.range len).map λk=>cellOf T z.1 (z.2.map λm=>Tn.at' (qa T (γ k) ls) m):=by
 unfold Qf;refine Ab λk _=>?_;have hi:=(AD.mp hn).1;have e:=qQ T (γ k) ls hn ls.length hi (AI _);rw[Ak]at e;rw[e];show cellOf T z.1 (z.2.map (Tn.at' (qa T (γ k) (ls.take n))))=_
 congr 1
 refine Ab λm hm=>?_;have K1:=(hG n _ hn).1 m hm;have mI:ls[m]?=some ls[m]:=AC ⋯;have e1:=qQ T (γ k) ls mI n K1 ⋯;have e2:=qQ T (γ k) ls mI ls.length ⋯ (AI _);rw[Ak]at e2;rw[e1,e2]
def xc (T:Tb)(γ:Nat->Str->Nat)(ls:List Ln)(len n:Nat):(Qf T γ ls len n).length=len:=by unfold Qf;rw[AB,AU]
def WD (T:Tb)(γ:Nat->Str->Nat)(ls:List Ln){len k:Nat}(n:Nat)(hk:k<len):Tn.at' (Qf T γ ls len n) k=Tn.at' (qa T (γ k) ls) n:=by have h:=xa (col:=Qf T γ ls len n) (j:=k) (by rw[xc];exact hk);unfold Qf at h;obtain⟨_,e⟩:=Yv h;exact e
def za5 {ns:TC}(ris:ns.Pairwise (·<·)){i n m:Nat}(hn:ns[i]?=some n)(hm:m∈ns)(lt:m<n):ns.idxOf m<i/\ns[ns.idxOf m]?=some m:=by
 have hj:=CA hm;have e:ns[ns.idxOf m]?=some m:=by rw[AC hj,C0]
 refine⟨?_,e⟩;obtain⟨hi,ei⟩:=AD.mp hn
 rcases Ef (ns.idxOf m) i with h|h
 ·exact h
 ·exfalso
  rcases Ay h with h|h
  ·rw[<- h,hn]at e;have:=AH e;lia
  ·have h2:=(BS.mp ris) i (ns.idxOf m) hi hj h;rw[ei,C0]at h2;lia
def za6 {ns:TC}{N:Nat}(ris:ns.Pairwise (·<·))(lt:∀n∈ns,n<N)(h:N-1∈ns):∃ms,ns=ms++[N-1]:=by
 rcases C9 ns with rfl|⟨ms,e,rfl⟩
 ·cases h
 rw[DA]at *;refine⟨ms,?_⟩;have he:=lt e (by simp)
 rcases AX.mp h with hm|hm
 ·have:=(Bq.mp ris).2.2 _ hm e (by simp);lia
 ·rw[AN.mp hm]
def za7 {LT:TJ}{cps:List (Key×V)}(h:cps.length=LT.length)(g:∀(i:Nat) (x:Str),LT[i]?=some x->∃v,cps[i]?=some ((Sum.inr x:Key),v)):cps.map Prod.fst=LT.map Sum.inr:=by
 refine BJ λi=>?_;rw[AG,AG];cases e:LT[i]? with
 |none=>have:=List.getElem?_eq_none_iff.mp e;rw[Aw ⋯];rfl
 |some x=>obtain⟨v,hv⟩:=g i x e;rw[hv];rfl
def za8 {H:Hp}{cs:List TC}{c:TC}{vs:List V}(h:Q9 H (cs++[c]) vs):∃us t,vs=us++[.ref t]/\H t=some (.tup (c.map nV)):=by
 have hl:=Ac h;rw[AJ]at hl
 rcases C9 vs with rfl|⟨us,v,rfl⟩
 ·cases hl
 rw[DA]at *;rw[AJ]at hl;have hl:cs.length+1=us.length+1:=hl;obtain⟨t,e,ht⟩:=TV h cs.length c v (by simp) (by rw[show cs.length=us.length by lia];simp);exact⟨us,t,by rw[e],ht⟩
def yz (H:Hp)(ct:Addr)(LT:TJ)(γ:Nat->Str->Nat)(len:Nat)(cps:List (Key×V))(aF:List V):Prop:=H ct=some (.tup aF)/\Prs H aF cps/\cps.length=LT.length/\(∀(i:Nat) (x:Str),LT[i]?=some x->∃t:Addr,cps[i]?=some ((Sum.inr x:Key),V.ref t)/\H t=some (.tup (((List.range len).map λk=>γ k x).map nV)))/\LT.Nodup/\1<=LT.length/\LT.length<=3
def Yx:Sp:=λvs H Q _=>∃(v:V) (ct lt:Addr) (T:Tb) (LT:TJ) (cps:List (Key×V)) (aF us:List V) (ls:List Ln) (γ:Nat->Str->Nat) (len:Nat),vs=[v,.ref ct,.ref lt]/\Qc H v T/\zZ T/\(qH T).Nodup/\yz H ct LT γ len cps aF/\H lt=some (.tup us)/\Lns H ls us/\j8 T LT ls/\Ls LT/\1<=ls.length/\ls.length<=81/\1<=len/\len<=9/\(∀k,Bd T LT (γ k))/\∀t H',zH H H'->H' t=some (.tup ((Qf T γ ls len (ls.length-1)).map nV))->Q (.ref t) H'
def yz.tk {H H':Hp}{ct:Addr}{LT:TJ}{γ:Nat->Str->Nat}{len:Nat}{cps:List (Key×V)}{aF:List V}(h:yz H ct LT γ len cps aF)(k:Tk H H'):yz H' ct LT γ len cps aF:=by obtain⟨h1,h2,h3,h4,h5⟩:=h;refine⟨k _ _ h1,Prs.tk k h2,h3,λi x hx=>?_,h5⟩;obtain⟨t,e1,e2⟩:=h4 i x hx;exact⟨t,e1,k _ _ e2⟩
def rng_at (cs:TC):((List.range cs.length).map λk=>Tn.at' cs k)=cs:=by
 refine BJ λi=>?_;rw[AG];by_cases hi:i<cs.length
 ·rw[A0 hi,xa hi];rfl
 ·rw[Aw (by rw[AU];lia),Aw ⋯];rfl
def ltr_of {s:Str}{c:Nat}(h:s.cps = #[c])(h1:97<=c)(h2:c<=122):Ltr s:=⟨by show s.cps.size=1;rw[h];rfl,λx hx=>by
 rw[h]at hx;have:x=c:=by simpa using hx
 rw[this];exact⟨h1,h2⟩⟩
def JQ {T:Tb}{LT:TJ}{ls:List Ln}(h:j8 T LT ls)(N:Nat):j8 T LT (ls.take N):=λi l hi=>by have aA:=(AD.mp hi).1;rw[Ae]at aA;rw[B2 ⋯]at hi;exact h i l hi
theorem xf {H:Hp}:∀{ls:List Ln}{us:List V}(N:Nat),Lns H ls us->Lns H (ls.take N) (us.take N)
 |_,_,0,_=>.nil
 |_,_,_+1,.nil=>.nil
 |_,_,N+1,.cons r h=>.cons r (xf N h)
def za9 {xs:List V}{k:Nat}:ZF xs none (some (k:Int))=xs.take k:=by unfold ZF HT.sIx;simp;rw[if_neg ⋯];lia
def zba {T:Tb}(γ:Nat->Str->Nat){ls:List Ln}(len:Nat){N:Nat}(h1:1<=N)(h2:N<=ls.length):Qf T γ (ls.take N) len ((ls.take N).length-1)=(List.range len).map λk=>Tn.at' (qa T (γ k) ls) (N-1):=by
 have e:(ls.take N).length=N:=by rw[Ae];lia
 rw[e];unfold Qf;refine Ab λk _=>?_;have hl:ls[N-1]?=some ls[N-1]:=AC ⋯;have e1:=qQ T (γ k) ls hl N ⋯ h2;have e2:=qQ T (γ k) ls hl ls.length ⋯ (AI _);rw[Ak]at e2;rw[e1,e2]
def jC (T:Tb)(len:Nat)(cols:List TC)(z:Str×TC):TC:=(List.range len).map λk=>cellOf T z.1 (z.2.map λn=>Tn.at' (cols.getD n []) k)
def colV (T:Tb)(len:Nat)(nm:Str)(args:List TC):TC:=(List.range len).map λk=>cellOf T nm (args.map λa=>Tn.at' a k)
inductive Sd (T:Tb)(len:Nat)(B:List TC):List Nat->Prop
 |base {col:TC}:col∈B->Sd T len B col
 |op {c:Cn} {args:List TC}:c∈T.cs->args.length=c.pl->(∀a∈args,Sd T len B a)->Sd T len B (colV T len c.nm args)
def xg (C:Addr):Sp:=λvs H Q E=>∃(fd c:Addr) (col:TC) (kvs:List (List Key×V)) (lv:V),vs=[.ref fd,.ref c,lv]/\H fd=some (.dT kvs)/\H c=some (.tup (col.map nV))/\kvs.length<=81/\((jk kvs (Jz col)).isSome=true->Q .non H)/\(jk kvs (Jz col)=none->kvs.length<81->Q .non (upd H fd (.dT (kvs++[(Jz col,lv)]))))/\(jk kvs (Jz col)=none->kvs.length=81->E (.ref C) none H)
def iteP {b:Bool}{P Q:Prop}(h:b=true)(p:P):if b=true then P else Q:=by rw[if_pos h];exact p
def zbb {b:Bool}{P Q:Prop}(h:b=false)(q:Q):if b=true then P else Q:=by rw[h];exact q
def l0 (cs:List Cn):List (Str×TC):=(cs.filter λc=>decide (c.pl=0)).map λc=>(c.nm,([]:TC))
def l0_yes (cs:List Cn){c:Cn}(h:c.pl=0):l0 (cs++[c])=l0 cs++[(c.nm,[])]:=by unfold l0;rw[CI,AO,B6,if_pos (Am h)];rfl
def l0_no (cs:List Cn){c:Cn}(h:c.pl≠0):l0 (cs++[c])=l0 cs:=by unfold l0;rw[CI,B6,if_neg (λz=>h (A2 z))];simp
def Lns.app {H:Hp}{as bs:List Ln}{xs ys:List V}(h:Lns H as xs)(k:Lns H bs ys):Lns H (as++bs) (xs++ys):=by
 induction h with
 |nil=>exact k
 |cons r _ ih=>exact .cons r ih
def lwC (k:Nat)(c:Cn):List (Str×TC):=(if c.pl=1 then [(c.nm,[k])] else [])++(if c.pl=2 then ((List.range (k+1)).map λo=>(c.nm,[k,o]))++(List.range k).map λo=>(c.nm,[o,k]) else [])
def lw (k:Nat)(cs:List Cn):List (Str×TC):=cs.flatMap (lwC k)
abbrev Lzs (H:Hp) (zs:List (Str×TC)) (us:List V):Prop:=Lns H (zs.map Sum.inr) us
def Lzs.app {H:Hp}{as bs:List (Str×TC)}{xs ys:List V}(h:Lzs H as xs)(k:Lzs H bs ys):Lzs H (as++bs) (xs++ys):=by unfold Lzs;rw[AO];exact Lns.app h k
def lwC_len {k:Nat}(h:k<=81)(c:Cn):(lwC k c).length<=166:=by
 unfold lwC;rw[AJ];split
 ·rw[if_neg ⋯];show 1+0<=166;lia
 ·split
  ·rw[AJ,AB,AB,AU,AU];show 0+_<=166;lia
  ·show 0+0<=166;lia
theorem lw_len {k:Nat}(h:k<=81):∀cs:List Cn,(lw k cs).length<=166*cs.length
 | []=>AI _
 |c::cs=>by unfold lw;rw[DF,AJ,Ax];have h1:=lwC_len h c;have h2:=lw_len h cs;unfold lw at h2;lia
def WE:Sp:=λvs H Q _=>∃(v:V) (T:Tb),vs=[v]/\Qc H v T/\zZ T/\∀l us H',zH H H'->H' l=some (.lst us)->Lzs H' (l0 T.cs) us->Q (.ref l) H'
def WF:Sp:=λvs H Q _=>∃(v:V) (T:Tb) (k:Nat),vs=[v,nV k]/\Qc H v T/\zZ T/\T.cs.length<=4/\k<=81/\∀l us H',zH H H'->H' l=some (.lst us)->Lzs H' (lw k T.cs) us->Q (.ref l) H'
def Xa (m:Nat):Nat->List (List Nat)
 |0=>[[]]
 |k+1=>(Xa m k).flatMap λr=>(List.range m).map λo=>r++[o]
theorem yA (m:Nat):∀k,(Xa m k).length=m^k
 |0=>rfl
 |k+1=>by
  have ih:=yA m k;show ((Xa m k).flatMap λr=>(List.range m).map λo=>r++[o]).length=_;rw[DQ,<- ih];generalize Xa m k=rs
  induction rs with
  |nil=>simp
  |cons r rs ih2=>rw[DF,AJ,ih2,AB,AU,Ax,Cj];lia
theorem JR {m:Nat}:∀{k:Nat}{r:List Nat},r∈Xa m k↔Tn.Rw m k r
 |0,r=>by
  show r∈[[]]↔_;rw[AN];constructor
  ·rintro rfl;exact⟨O,λx hx=>by cases hx⟩
  ·intro h;exact CP.mp h.1
 |k+1,r=>by
  show r∈(Xa m k).flatMap _↔_;rw[BV];constructor
  ·rintro⟨r',cy,h⟩;obtain⟨o,ho,rfl⟩:=AK.mp h;obtain⟨h1,h2⟩:=JR.mp cy;refine⟨by rw[AJ,h1];rfl,λx hx=>?_⟩
   rcases AX.mp hx with h|h
   ·exact h2 x h
   ·rw[AN.mp h];exact AS.mp ho
  ·rintro⟨h1,h2⟩
   rcases C9 r with rfl|⟨r',o,rfl⟩
   ·cases h1
   rw[DA]at *;rw[AJ]at h1;have h1:r'.length+1=k+1:=h1;exact⟨r',JR.mpr ⟨⋯,λx hx=>h2 x (Aq _ hx)⟩,AK.mpr ⟨o,AS.mpr (h2 o (by simp)),O⟩⟩
theorem zbc {α:Type}[DecidableEq α]:∀(l ns:List α),l.Nodup->(∀x∈l,x∈ns)->l.length<=ns.length
 | [],ns,_,_=>BC _
 |x::l,ns,nd,h=>by obtain⟨n1,n2⟩:=Bh.mp nd;have hx:=h x A5;have:=zbc l (ns.erase x) n2 λy hy=>(List.mem_erase_of_ne (λ(e:y=x)=>n1 (e ▸ hy))).mpr (h y (BD _ hy));rw[List.length_erase_of_mem hx]at this;have hp:=Ej hx;rw[Ax];lia
def cols_few {m len:Nat}{cols:List TC}(nd:cols.Nodup)(h:∀c∈cols,qc m len c):cols.length<=m^len:=by rw[<- yA];exact zbc _ _ nd λc hc=>JR.mpr (h c hc)
theorem xh:∀{a b:List Nat},Jz a=Jz b->a=b
 | [],[],_=>rfl
 | [],_::_,h=>by cases h
 |_::_,[],h=>by cases h
 |x::a,y::b,h=>by obtain⟨h1,h2⟩:=Cr (show (Sum.inl ((x:Nat):Int):Key)::Jz a=(Sum.inl ((y:Nat):Int):Key)::Jz b from h);rw[xh h2,E8.mp (Ew h1)]
def Qx {kvs:List (List Key×V)}{cols:List TC}(e:kvs.map Prod.fst=cols.map Jz)(col:TC):(jk kvs (Jz col)).isSome=true↔col∈cols:=by
 induction kvs generalizing cols with
 |nil=>
  cases cols with
  |nil=>exact⟨(λh=>by cases h),(λh=>by cases h)⟩
  |cons c cols=>cases e
 |cons p kvs ih=>
  cases cols with
  |nil=>cases e
  |cons c cols=>
   obtain⟨e1,e2⟩:=Cr e;by_cases h:c=col
   ·subst h;rw[qz e1];exact⟨λ_=>A5,λ_=>rfl⟩
   ·rw[qw (λz=>h (xh (e1.symm.trans z))),ih e2,Al];exact⟨.inr,λz=>z.elim (λz=>absurd z.symm h) id⟩
def FdH (H:Hp)(fd:Addr)(cols:List TC)(ls:List Ln):Prop:=∃kvs,H fd=some (.dT kvs)/\kvs.map Prod.fst=cols.map Jz/\Lns H ls (kvs.map Prod.snd)
def LnV (T:Tb)(LT:List Str)(len:Nat)(B cols:List (List Nat))(col:List Nat):Ln->Prop
 |.inl x=>(x,col)∈LT.zip B
 |.inr z=>jC T len cols z=col
structure FdM (T:Tb)(LT:TJ)(len:Nat)(B cols:List TC)(ls:List Ln):Prop where
 nd:cols.Nodup
 gc:∀c∈cols,qc T.m len c
 sd:∀c∈cols,Sd T len B c
 gl:j8 T LT ls
 ll:ls.length=cols.length
 le:cols.length<=81
 val:∀(i:Nat) (l:Ln),ls[i]?=some l->LnV T LT len B cols (cols.getD i []) l
def FdH.same {H H':Hp}{fd:Addr}{cols:List TC}{ls:List Ln}(h:FdH H fd cols ls)(s:zH H H'):FdH H' fd cols ls:=by obtain⟨kvs,h1,h2,h3⟩:=h;exact⟨kvs,s _ _ h1,h2,Td (Ta s) h3⟩
def ZV (T:Tb)(len:Nat)(cols:List TC)(z:Str×TC):jC T len cols z=colV T len z.1 (z.2.map λn=>cols.getD n []):=by unfold jC colV;refine Ab λk _=>?_;rw[AW];rfl
def Zm (T:Tb)(len:Nat){cols:List TC}(more:List TC){z:Str×TC}(h:∀n∈z.2,n<cols.length):jC T len (cols++more) z=jC T len cols z:=by
 rw[ZV,ZV]
 congr 1
 refine Ab λn hn=>?_;rw[AM,AM,BK (h n hn)]
def zbd {cols:List TC}{more:List TC}{i:Nat}(h:i<cols.length):(cols++more).getD i []=cols.getD i []:=by rw[AM,AM,BK h]
def zbe {cols:List TC}{c:TC}:(cols++[c]).getD cols.length []=c:=by rw[AM,BI (AI _),EH];rfl
def Yy {H:Hp}{fd c:Addr}{col:TC}{lv:V}{l:Ln}{T:Tb}{LT:TJ}{len:Nat}{B cols:List TC}{ls:List Ln}(h:FdH H fd cols ls)(m:FdM T LT len B cols ls)(hc:H c=some (.tup (col.map nV)))(g:qc T.m len col)(sd:Sd T len B col)(gl:zaR T LT cols.length l)(il:IsLn H l lv)(hv:LnV T LT len B cols col l){C:Addr}{Q:VK}{E:XK}(qe:∀cs:List TC,cs.Nodup->(∀c∈cs,Sd T len B c)->cs.length=82->E (.ref C) none H)
  (q:∀H' cg gV,Off fd H H'->Tk H H'->FdH H' fd cg gV->FdM T LT len B cg gV->(∃more,cg=cols++more)->col∈cg->Q .non H'):xg C [.ref fd,.ref c,lv] H Q E:=by
 obtain⟨kvs,h1,h2,h3⟩:=h;have kl:kvs.length=cols.length:=by have:=BF List.length h2;rw[AB,AB]at this;exact this
 have tk:∀o,Tk H (upd H fd o):=λo b' xs hb=>by rw[zJ (ne_of hb h1 (by intro z;cases z))];exact hb
 have fX:col ∉ cols->(cols++[col]).Nodup:=λdU=>by rw[DE];exact⟨m.nd,by simp,λa ha b' hb=>by rw[List.mem_singleton.mp hb];exact λz=>dU (z ▸ ha)⟩
 have uX:∀x∈cols++[col],Sd T len B x:=λx hx=>by
  rcases AX.mp hx with hx|hx
  ·exact m.sd x hx
  ·rw[AN.mp hx];exact sd
 have IM:jk kvs (Jz col)=none->col ∉ cols:=λhn hm=>by have:=(Qx h2 col).mpr hm;rw[hn]at this;cases this
 have mle:=m.le;refine⟨fd,c,col,kvs,lv,O,h1,hc,⋯,λhs=>?_,λhn h8=>?_,λhn h8=>qe _ (fX (IM hn)) uX (by rw[AJ,<- kl,h8];rfl)⟩
 ·exact q H cols ls Off.refl Tk.refl ⟨kvs,h1,h2,h3⟩ m ⟨[],(Az _).symm⟩ ((Qx h2 col).mp hs)
 ·have dU:col ∉ cols:=λhm=>by have:=(Qx h2 col).mpr hm;rw[hn]at this;cases this
  refine q _ (cols++[col]) (ls++[l]) Off.put (tk _) ⟨_,ze,by rw[AO,AO,h2];rfl,?_⟩ ⟨fX dU,?_,uX,?_,?_,by rw[AJ];show cols.length+1<=81;lia,?_⟩ ⟨[col],O⟩ (by simp)
  ·rw[AO];exact Te (Td (tk _) h3) (il.tk (tk _))
  ·intro x hx
   rcases AX.mp hx with hx|hx
   ·exact m.gc x hx
   ·rw[AN.mp hx];exact g
  ·intro i x hx;by_cases hi:i<ls.length
   ·rw[BK hi]at hx;exact m.gl i x hx
   ·have bM:=(AD.mp hx).1;rw[AJ]at bM;have bM:i<ls.length+1:=bM;have ei:i=ls.length:=⋯;rw[ei,BI (AI _),EH]at hx;obtain rfl:l=x:=by simpa using hx
    rw[ei,m.ll];exact gl
  ·rw[AJ,AJ,m.ll];rfl
  ·intro i x hx;by_cases hi:i<ls.length
   ·rw[BK hi]at hx;have gh:=m.val i x hx;have hg:=m.gl i x hx;rw[zbd (by rw[<- m.ll];exact hi)];cases x with
    |inl y=>exact gh
    |inr z=>
     show jC T len (cols++[col]) z=_;rw[Zm T len [col] λn hn=>by have:=hg.1 n hn;have:=m.ll;lia]
     exact gh
   ·have bM:=(AD.mp hx).1;rw[AJ]at bM;have bM:i<ls.length+1:=bM;have ei:i=ls.length:=⋯;rw[ei,BI (AI _),EH]at hx;obtain rfl:l=x:=by simpa using hx
    rw[ei,m.ll,zbe];cases l with
    |inl y=>exact hv
    |inr z=>show jC T len (cols++[col]) z=_;rw[Zm T len [col] gl.1];exact hv
def JS {H:Hp}{a b:Addr}{o:HO}(h:H b=some o)(n:H a=none):a≠b:=λe=>by rw[e,h]at n;cases n
def WG {fd:Addr}{G H H':Hp}(s:zH G H)(n:G fd=none)(o:Off fd H H'):zH G H':=λb ob hb=>o b ob (zN hb n) (s b ob hb)
def lw_mem {k:Nat}{cs:List Cn}{z:Str×TC}(h:z∈lw k cs)(p2:∀c∈cs,c.pl<=2):(∀n∈z.2,n<=k)/\∃c∈cs,c.nm=z.1/\c.pl=z.2.length:=by
 obtain⟨c,hc,h⟩:=BV.mp h;unfold lwC at h
 rcases AX.mp h with h|h
 ·split at h
  ·rw[AN.mp h];exact⟨λn hn=>by rw[AN.mp hn];exact AI _,c,hc,O,by assumption⟩
  ·cases h
 ·split at h
  ·rcases AX.mp h with h|h
   ·obtain⟨o,ho,rfl⟩:=AK.mp h;have:=AS.mp ho;refine⟨λn hn=>?_,c,hc,O,by assumption⟩
    rcases Al.mp hn with e|hn
    ·lia
    ·rw[AN.mp hn];lia
   ·obtain⟨o,ho,rfl⟩:=AK.mp h;have:=AS.mp ho;refine⟨λn hn=>?_,c,hc,O,by assumption⟩
    rcases Al.mp hn with e|hn
    ·lia
    ·rw[AN.mp hn];lia
  ·cases h
def zbf {cs:List Cn}{z:Str×TC}(h:z∈l0 cs):z.2=[]/\∃c∈cs,c.nm=z.1/\c.pl=z.2.length:=by obtain⟨c,hc,rfl⟩:=AK.mp h;obtain⟨h1,h2⟩:=CU.mp hc;exact⟨O,c,h1,O,A2 h2⟩
def zbg {T:Tb}{LT:TJ}{len:Nat}{B cols:List TC}{ls:List Ln}(m:FdM T LT len B cols ls){z:Str×TC}(hz:∀n∈z.2,n<cols.length)(hc:∃c∈T.cs,c.nm=z.1/\c.pl=z.2.length):Sd T len B (jC T len cols z):=by obtain⟨c,hc,e1,e2⟩:=hc;rw[ZV,<- e1];refine .op hc (by rw[AB,e2]) λa ha=>?_;obtain⟨n,hn,rfl⟩:=AK.mp ha;rw[AM,AC (hz n hn)];exact m.sd _ (Cy _)
def yB {T:Tb}(g:zZ T)(nd:(qH T).Nodup){len:Nat}{cols:List TC}(gc:∀c∈cols,qc T.m len c){z:Str×TC}(hz:∀n∈z.2,n<cols.length)(hc:∃c∈T.cs,c.nm=z.1/\c.pl=z.2.length):qc T.m len (jC T len cols z):=by obtain⟨c,hc,e1,e2⟩:=hc;unfold jC;refine⟨by rw[AB,AU],λx hx=>?_⟩;obtain⟨k,hk,rfl⟩:=AK.mp hx;have hk:=AS.mp hk;rw[<- e1];refine g.cell_lt nd hc ⟨by rw[AB,e2],λy hy=>?_⟩;obtain⟨n,hn,rfl⟩:=AK.mp hy;have hn:=hz n hn;rw[AM,AC hn];exact (gc _ (Cy hn)).at hk
def sd_in {T:Tb}(g:zZ T){len:Nat}{B cols:List TC}(hB:∀b∈B,b∈cols)(h0:∀z∈l0 T.cs,jC T len cols z∈cols)(hw:∀k,k<cols.length->∀z∈lw k T.cs,jC T len cols z∈cols){col:TC}(h:Sd T len B col):col∈cols:=by
 induction h with
 |base h=>exact hB _ h
 | @op c args hc hl _ ih=>
  have p2:=(g.cn c hc).2.1;have gd:∀{i:Nat} {a:TC},cols[i]?=some a->cols.getD i []=a:=λ{i a} h=>by rw[AM,h];rfl
  match args,hl,ih with
  | [],hl,_=>have:=h0 (c.nm,[]) (AK.mpr ⟨c,CU.mpr ⟨hc,Am hl.symm⟩,rfl⟩);rw[ZV]at this;exact this
  | [a],hl,ih=>obtain⟨i,hi⟩:=As.mp (ih a A5);have:=hw i (AD.mp hi).1 (c.nm,[i]) (BV.mpr ⟨c,hc,Aq _ (by rw[if_pos (show c.pl=1 from hl.symm)];exact AN.mpr rfl)⟩);rw[ZV,show ([i].map λn=>cols.getD n [])=[a] by rw[De,gd hi]]at this;exact this
  | [a,b],hl,ih=>
   have mT:c.pl=2:=hl.symm;obtain⟨i,hi⟩:=As.mp (ih a A5);obtain⟨j,hj⟩:=As.mp (ih b (by simp));have li:=(AD.mp hi).1;have lj:=(AD.mp hj).1;have key:∃k,k<cols.length/\(c.nm,[i,j])∈lw k T.cs:=by
    by_cases fk:j<=i
    ·refine⟨i,li,BV.mpr ⟨c,hc,Au _ ?_⟩⟩;rw[if_pos mT];exact Aq _ (AK.mpr ⟨j,AS.mpr ⋯,O⟩)
    ·refine⟨j,lj,BV.mpr ⟨c,hc,Au _ ?_⟩⟩;rw[if_pos mT];exact Au _ (AK.mpr ⟨i,AS.mpr ⋯,O⟩)
   obtain⟨k,hk,hz⟩:=key;have:=hw k hk _ hz;rw[ZV,show ([i,j].map λn=>cols.getD n [])=[a,b] by rw[Af,De,gd hi,gd hj]]at this;exact this
  |_::_::_::_,hl,_=>simp at hl;lia
def PCs (H:Hp):List (Str×TC)->List V->Prop:=Paired λp v=>∃t u,v=.ref t/\H t=some (.tup [.str p.1,.ref u])/\H u=some (.tup (p.2.map nV))
def PCs.tk {H H':Hp}(k:Tk H H'){cs:List (Str×TC)}{us:List V}(h:PCs H cs us):PCs H' cs us:=TN (λ_ _ ⟨t,u,e,h1,h2⟩=>⟨t,u,e,k _ _ h1,k _ _ h2⟩) h
def Ti:=@PCs.tk
def PCs.snoc {H:Hp}{cs:List (Str×TC)}{us:List V}{p:Str×TC}{t u:Addr}(h:PCs H cs us)(h1:H t=some (.tup [.str p.1,.ref u]))(h2:H u=some (.tup (p.2.map nV))):PCs H (cs++[p]) (us++[.ref t]):=by
 unfold PCs at h ⊢
 induction h with
 |nil=>exact .cons ⟨t,u,O,h1,h2⟩ .nil
 |cons r _ ih=>exact .cons r ih
def WH (C:Addr):Sp:=λvs H Q E=>∃(v:V) (ct:Addr) (T:Tb) (cps:List (Str×TC)) (aF:List V) (len:Nat),vs=[v,.ref ct,nV len]/\Qc H v T/\zZ T/\(qH T).Nodup/\T.cs.length<=4/\H ct=some (.tup aF)/\PCs H cps aF/\(∀p∈cps,Ltr p.1/\qc T.m len p.2)/\len<=9 /\
 (∀fd cols ls H',zH H H'->H fd=none->FdH H' fd cols ls->FdM T (cps.map Prod.fst) len (cps.map Prod.snd) cols ls->(∀col,Sd T len (cps.map Prod.snd) col->col∈cols)->Q (.ref fd) H') /\
 (∀(cs:List TC) H',zH H H'->cs.Nodup->(∀c∈cs,Sd T len (cps.map Prod.snd) c)->cs.length=82->E (.ref C) none H')
def zip_mem {cps:List (Str×TC)}{p:Str×TC}(h:p∈cps):(p.1,p.2)∈(cps.map Prod.fst).zip (cps.map Prod.snd):=by rw[List.zip_map',AK];exact⟨p,h,O⟩
def Told (T:Tb)(len:Nat)(cps:List (Str×TC))(L:List Ln)(wish:TC):Prop:=∀γ:Nat->Str->Nat,(∀p∈cps,p.2=(List.range len).map λk=>γ k p.1)->Qf T γ L len (L.length-1)=wish
def col_val {T:Tb}{len:Nat}{cps:List (Str×TC)}{cols:List TC}{ls:List Ln}(m:FdM T (cps.map Prod.fst) len (cps.map Prod.snd) cols ls){γ:Nat->Str->Nat}(dF:∀p∈cps,p.2=(List.range len).map λk=>γ k p.1):∀(i:Nat) (l:Ln),ls[i]?=some l->Qf T γ ls len i=cols.getD i []:=by
 intro i
 induction i using Nat.strongRecOn with
 |ind i ih=>
  intro l hl;have hv:=m.val i l hl;have hg:=m.gl i l hl;cases l with
  |inl x=>rw[ZU γ len hl];have hv:(x,cols.getD i [])∈(cps.map Prod.fst).zip (cps.map Prod.snd):=hv;rw[List.zip_map',AK]at hv;obtain⟨p,hp,e⟩:=hv;have e1:p.1=x:=BF Prod.fst e;have e2:p.2=cols.getD i []:=BF Prod.snd e;rw[<- e2,<- e1];exact (dF p hp).symm
  |inr z=>
   rw[Ja γ m.gl len hl];have hv:jC T len cols z=cols.getD i []:=hv;rw[<- hv];unfold jC;refine Ab λk hk=>?_;have hk:=AS.mp hk
   congr 1
   refine Ab λn hn=>?_;have mD:=hg.1 n hn;have bM:=(AD.mp hl).1;have cR:ls[n]?=some ls[n]:=AC ⋯;rw[<- ih n mD _ cR,WD T γ ls n hk]
def zbh {ls:List Ln}{ns:TC}{i n:Nat}(hn:ns[i]?=some n) {l:Ln}(hl:ls[n]?=some l):(ns.map λn=>reN ns (ls.getD n (.inl "")))[i]?=some (reN ns l):=by rw[AG,hn,EC,AM,hl];rfl
def xi {T:Tb}{LT:TJ}{ls:List Ln}{ns:TC}(hG:j8 T LT ls) (c:Clos ls ns) (ris:ns.Pairwise (·<·)):j8 T LT (ns.map λn=>reN ns (ls.getD n (.inl ""))):=by
 intro i l hi;have bM:=(AD.mp hi).1;rw[AB]at bM;have hn:ns[i]?=some ns[i]:=AC bM;generalize ns[i]=n at hn;have dR:=AL hn;have mO:=c.lt n dR;have hl:ls[n]?=some ls[n]:=AC mO;generalize ls[n]=l0 at hl;rw[zbh hn hl]at hi;obtain rfl:=AH hi;have hg:=hG n l0 hl;cases l0 with
 |inl x=>exact hg
 |inr z=>
  refine⟨λm hm=>?_,?_⟩
  ·obtain⟨m0,vY,rfl⟩:=AK.mp hm;exact (za5 ris hn (c.cl n dR z hl m0 vY) (hg.1 m0 vY)).1
  ·obtain⟨cc,hc,e1,e2⟩:=hg.2;exact⟨cc,hc,e1,by rw[e2];exact (AB _).symm⟩
def ren_col {T:Tb}{LT:TJ}{ls:List Ln}{ns:TC}(γ:Nat->Str->Nat) (len:Nat) (hG:j8 T LT ls) (c:Clos ls ns) (ris:ns.Pairwise (·<·)):∀(i n:Nat),ns[i]?=some n->Qf T γ (ns.map λn=>reN ns (ls.getD n (.inl ""))) len i=Qf T γ ls len n:=by
 have LZ:=xi hG c ris;intro i
 induction i using Nat.strongRecOn with
 |ind i ih=>
  intro n hn;have dR:=AL hn;have mO:=c.lt n dR;have hl:ls[n]?=some ls[n]:=AC mO;generalize ls[n]=l0 at hl;have hi:=zbh hn hl;have hg:=hG n l0 hl;cases l0 with
  |inl x=>rw[ZU γ len hi,ZU γ len hl]
  |inr z=>
   rw[Ja γ LZ len hi,Ja γ hG len hl];refine Ab λk hk=>?_;have hk:=AS.mp hk;show cellOf T z.1 ((z.2.map λm=>ns.idxOf m).map _)=_;rw[AW]
   congr 1
   refine Ab λm hm=>?_;obtain⟨j1,j2⟩:=za5 ris hn (c.cl n dR z hl m hm) (hg.1 m hm);have e:=BF (λl=>Tn.at' l k) (ih _ j1 m j2);rw[WD T γ _ _ hk,WD T γ _ _ hk]at e;exact e
def told_of {T:Tb}{len:Nat}{cps:List (Str×TC)}{cols:List TC}{ls:List Ln}(m:FdM T (cps.map Prod.fst) len (cps.map Prod.snd) cols ls) {j:Nat}{wish:TC}(hj:cols[j]?=some wish) {ns:TC}(c:Clos (ls.take (j+1)) ns) (ris:ns.Pairwise (·<·)):Told T len cps (ns.map λn=>reN ns ((ls.take (j+1)).getD n (.inl ""))) wish:=by
 intro γ dF;have jl:=(AD.mp hj).1;have ll:=m.ll;have tl:(ls.take (j+1)).length=j+1:=by rw[Ae];lia
 obtain⟨ms,e⟩:=za6 ris c.lt c.last;have hn:ns[ns.length-1]?=some j:=by
  have e':ns=ms++[j]:=by rw[tl]at e;exact e
  rw[e',AJ,BI (by show ms.length<=ms.length+1-1;lia)];show [j][ms.length+1-1-ms.length]?=_;rw[show ms.length+1-1-ms.length=0 by lia];rfl
 rw[AB,ren_col γ len (JQ m.gl _) c ris _ j hn];have K2:ls[j]?=some ls[j]:=AC ⋯;have h1:=zba (T:=T) (ls:=ls) γ len (N:=j+1) ⋯ ⋯;rw[tl]at h1;rw[show j+1-1=j from rfl]at h1;rw[h1];have h2:=col_val m dF j _ K2;unfold Qf at h2;rw[h2,AM,hj];rfl
def spSay (C:Addr):Sp:=λvs H Q E=>∃(v:V) (ct wt:Addr) (T:Tb) (cps:List (Str×TC)) (aF:List V) (wish:TC),vs=[v,.ref ct,.ref wt]/\Qc H v T/\zZ T/\(qH T).Nodup/\T.cs.length<=4/\H ct=some (.tup aF)/\PCs H cps aF/\(∀p∈cps,Ltr p.1/\qc T.m wish.length p.2)/\H wt=some (.tup (wish.map nV))/\1<=wish.length/\wish.length<=9 /\
 (Sd T wish.length (cps.map Prod.snd) wish->∀(all:List TC),(∀col,col∈all↔Sd T wish.length (cps.map Prod.snd) col)->all.length<=81->∀t lt us L H',zH H H'->H' t=some (.tup [.str "said",.ref lt])->H' lt=some (.tup us)->Lns H' L us->j8 T (cps.map Prod.fst) L->1<=L.length->L.length<=81->Told T wish.length cps L wish->Q (.ref t) H') /\
 (¬Sd T wish.length (cps.map Prod.snd) wish->∀t ut bs ks H',zH H H'->H' t=some (.tup [.str "unsaid",.ref ut])->H' ut=some (.tup bs)->Paired (xU H') ks bs->ks.Pairwise (λx y=>ZB x y=true)->(∀col,col∈ks↔Sd T wish.length (cps.map Prod.snd) col)->ks.length<=81->Q (.ref t) H') /\
 (∀(cs:List TC) H',zH H H'->cs.Nodup->(∀c∈cs,Sd T wish.length (cps.map Prod.snd) c)->cs.length=82->E (.ref C) none H')
def ColVs.tk {H H':Hp}(k:Tk H H'){cs:List TC}{us:List V}(h:Paired (xU H) cs us):Paired (xU H') cs us:=TN (λ_ _ ⟨t,e,h⟩=>⟨t,e,k _ _ h⟩) h
def Tj:=@ColVs.tk
def Xb {a b:List TC}(ha:a.Pairwise (λx y=>ZB x y=true))(hb:b.Pairwise (λx y=>ZB x y=true))(h:∀x,x∈a↔x∈b):a=b:=by
 have Kr:∀x:TC,ZB x x=true->False:=λx e=>by have:=Q6 x x e;rw[e]at this;cases this
 have nd:∀{l:List TC},l.Pairwise (λx y=>ZB x y=true)->l.Nodup:=λ{l} h=>List.Pairwise.imp (λ{x y} (e:ZB x y=true) (z:x=y)=>Kr y (by rw[z]at e;exact e)) h;exact List.Perm.eq_of_pairwise (le:=λx y=>ZB x y=true) (λx y _ _ h1 h2=>by rw[Q6 _ _ h1]at h2;cases h2) ha hb ((DK (nd ha) (nd hb)).mpr h)
def Yz {T:Tb}(g:zZ T)(nT:(qH T).Nodup){len:Nat}{B:List TC}(gB:∀b∈B,qc T.m len b){col:TC}(h:Sd T len B col):qc T.m len col:=by
 induction h with
 |base h=>exact gB _ h
 | @op c args hc hl _ ih=>unfold colV;refine⟨by rw[AB,AU],λx hx=>?_⟩;obtain⟨k,hk,rfl⟩:=AK.mp hx;have hk:=AS.mp hk;refine g.cell_lt nT hc ⟨by rw[AB];exact hl,λy hy=>?_⟩;obtain⟨a,ha,rfl⟩:=AK.mp hy;exact (ih a ha).at hk
def Xc {α β:Type}{F:α->β->Prop}{a b:List α}{c d:List β}(h:Paired F a c)(k:Paired F b d):Paired F (a++b) (c++d):=by
 induction h with
 |nil=>exact k
 |cons r _ ih=>exact .cons r ih
def hide {R:TS}{D:xj}{P:TS->xj->Prop}{G:Prop}(main:P R D->G)(r:P R D):G:=main r
def shV (s:Str×Nat):List V:=[.str s.1,nV s.2]
def sh_flat (s:Str×Nat):(shV s).length=2/\(shV s).all qV=true:=⟨rfl,rfl⟩
def zbi (l:List (Str×Nat)):∀a∈l.map shV,a.length=2/\a.all qV=true:=λa ha=>by obtain⟨s,_,rfl⟩:=AK.mp ha;exact sh_flat s
theorem yC:∀(a b:List (Str×Nat)),xA (a.map shV) (b.map shV)=true->a=b
 | [],[],_=>rfl
 | [],_::_,h=>by simp[xA]at h
 |_::_,[],h=>by simp[xA]at h
 |x::a,y::b,h=>by
  unfold xA at h;simp only[List.map_cons,List.zip_cons_cons,List.all_cons,List.length_cons,Bool.and_eq_true]at h;obtain⟨⟨h1,h2⟩,h3⟩:=h;have h4:xA (a.map shV) (b.map shV)=true:=by unfold xA;rw[Bv];exact⟨h2,by simpa using h3⟩
  have e:=yC a b h4;have h5:x=y:=by
   obtain⟨x1,x2⟩:=x;obtain⟨y1,y2⟩:=y;unfold Qk shV at h1;simp[eqV]at h1;obtain⟨e1,e2⟩:=h1;rw[e1]
   congr 1
   lia
  rw[h5,e]
def zbj (a b:List (Str×Nat)):xA (a.map shV) (b.map shV)=decide (a=b):=by
 by_cases h:a=b
 ·rw[Am h,h];unfold xA;rw[Bv];refine⟨?_,by simp⟩;rw[BB];intro p hp;obtain⟨i,hi⟩:=DN hp;rw[Bb]at hi;have e:p.1=p.2:=AH (hi.1.symm.trans hi.2);rw[<- e];exact yb (zbi b _ (AL hi.1)).2
 ·rw[Ag h];cases e:xA (a.map shV) (b.map shV) with
  |false=>rfl
  |true=>exact absurd (yC a b e) h
def qK (A B:Tb):Tb:=⟨A.m*B.m,Tn.pw (A.m*B.m) B.m A.ws B.ws,(A.cs.zip B.cs).map λz=>⟨z.1.nm,z.1.pl,Tn.pc (A.m*B.m) A.m B.m z.1.pl z.1.cs z.2.cs⟩⟩
def dueT (A B:Tb):Tb:=⟨A.m*B.m,Tn.dw B.m A.ws B.ws,(A.cs.zip B.cs).map λz=>⟨z.1.nm,z.1.pl,Tn.dc (A.m*B.m) A.m B.m z.1.pl z.1.cs z.2.cs⟩⟩
def pair_due {A B:Tb}(gA:zZ A)(gB:zZ B):qK A B=dueT A B:=by
 have e1:Tn.pw (A.m*B.m) B.m A.ws B.ws=Tn.dw B.m A.ws B.ws:=Tn.pw_dw gA.ris gA.wlt gB.ris gB.wlt;have e2:((A.cs.zip B.cs).map λz=>(⟨z.1.nm,z.1.pl,Tn.pc (A.m*B.m) A.m B.m z.1.pl z.1.cs z.2.cs⟩:Cn))=(A.cs.zip B.cs).map λz=>⟨z.1.nm,z.1.pl,Tn.dc (A.m*B.m) A.m B.m z.1.pl z.1.cs z.2.cs⟩:=by refine Ab λz hz=>?_;rw[Tn.pc_dc (gA.cn _ (C3 hz).1).2.1]
 unfold qK dueT;rw[e1,e2]
def sh_zip {A B:Tb}(hS:Sh A=Sh B){i:Nat}{a b:Cn}(ha:A.cs[i]?=some a)(hb:B.cs[i]?=some b):a.nm=b.nm/\a.pl=b.pl:=by
 have h1:(Sh A)[i]?=some (a.nm,a.pl):=by unfold Sh;rw[AG,ha];rfl
 have h2:(Sh B)[i]?=some (b.nm,b.pl):=by unfold Sh;rw[AG,hb];rfl
 rw[hS,h2]at h1;have:=AH h1;exact⟨(BF Prod.fst this).symm,(BF Prod.snd this).symm⟩
def WI:Sp:=λvs H Q _=>∃(v:V) (T:Tb),vs=[v]/\Qc H v T/\zZ T/\∀l xs H',zH H H'->H' l=some (.lst xs)->yS H' ((Sh T).map shV) xs->Q (.ref l) H'
def dc_at {n a b k:Nat}(hk:k<=2){cs ds r:TC}(hr:Tn.Rw n k r):Tn.at' (Tn.dc n a b k cs ds) (Tn.place n r)=Tn.at' cs (Tn.place a (r.map (·/b)))*b+Tn.at' ds (Tn.place b (r.map (·%b))):=by unfold Tn.at' Tn.dc;rw[AM,AG,rows_get hk hr];rfl
def QF {A B:Tb}(h:Sh A=Sh B):Sh A=Sh (qK A B):=by
 unfold Sh qK;dsimp only;rw[AW];refine BJ λi=>?_;rw[AG,AG];by_cases hi:i<A.cs.length
 ·have hj:i<B.cs.length:=by rw[<- len_sh h];exact hi
  rw[AC hi,AC (by rw[C4];lia),List.getElem_zip];rfl
 ·rw[Aw ⋯,Aw (by rw[C4];lia)];rfl
def yD {A B:Tb}(gA:zZ A)(gB:zZ B)(nA:(qH A).Nodup)(h:Sh A=Sh B){c:Cn}(hc:c∈A.cs){r:TC}(hr:Tn.Rw (A.m*B.m) c.pl r):
  cellOf (qK A B) c.nm r=cellOf A c.nm (r.map (·/B.m))*B.m+cellOf B c.nm (r.map (·%B.m)):=by
 obtain⟨i,hi⟩:=As.mp hc;have bM:=(AD.mp hi).1;have dS:i<B.cs.length:=by rw[<- len_sh h];exact bM
 have hj:B.cs[i]?=some B.cs[i]:=AC dS;generalize B.cs[i]=d at hj;have hd:=AL hj;have uE:(c.nm,c.pl)=(d.nm,d.pl):=by
  have h1:(Sh A)[i]?=some (c.nm,c.pl):=by unfold Sh;rw[List.getElem?_map,hi];rfl
  have h2:(Sh B)[i]?=some (d.nm,d.pl):=by unfold Sh;rw[List.getElem?_map,hj];rfl
  rw[h,h2]at h1;exact (AH h1).symm
 have en:d.nm=c.nm:=(BF Prod.fst uE).symm;have hP:(⟨c.nm,c.pl,Tn.pc (A.m*B.m) A.m B.m c.pl c.cs d.cs⟩:Cn)∈(qK A B).cs:=by refine AK.mpr ⟨(c,d),?_,O⟩;refine As.mpr ⟨i,?_⟩;rw[Bb];exact⟨hi,hj⟩
 have nB:(qH B).Nodup:=QN h ▸ nA;have nP:(qH (qK A B)).Nodup:=QN (QF h) ▸ nA;have f1:=Qu nA hc;have f2:=Qu nB hd;have f3:=Qu nP hP;rw[en]at f2;unfold cellOf;rw[f1,f2];have MR:findC (qK A B) c.nm=_:=f3;rw[MR];show Tn.at' (Tn.pc _ _ _ _ _ _) (Tn.place (A.m*B.m) r)=_;have k2:=(gA.cn c hc).2.1;rw[Tn.pc_dc k2,dc_at k2 hr]
def yE {A B:Tb}(gA:zZ A)(gB:zZ B)(h:Sh A=Sh B)(h9:A.m*B.m<=9):zZ (qK A B):=by
 have b0:0<B.m:=gB.m1;rw[pair_due gA gB];refine⟨Nat.mul_pos gA.m1 gB.m1,h9,Tn.dw_ris gB.wlt gB.ris gA.ris,λx hx=>?_,?_,λc hc=>?_⟩
 ·have:=(Tn.dw_mem gB.wlt).mp hx;have h1:=gA.wlt _ this.1;show x<A.m*B.m;exact (Cd b0).mp h1
 ·show ((A.cs.zip B.cs).map _).length<=16;rw[AB,C4];have:=gA.cl;lia
 ·obtain⟨z,hz,rfl⟩:=AK.mp hc;obtain⟨h1,h2⟩:=C3 hz;obtain⟨a1,a2,a3⟩:=gA.cn _ h1;obtain⟨b1,b2,b3⟩:=gB.cn _ h2;obtain⟨i,hi⟩:=As.mp hz;rw[Bb]at hi;have e:z.1.pl=z.2.pl:=by
   have h3:(Sh A)[i]?=some (z.1.nm,z.1.pl):=by unfold Sh;rw[List.getElem?_map,hi.1];rfl
   have h4:(Sh B)[i]?=some (z.2.nm,z.2.pl):=by unfold Sh;rw[List.getElem?_map,hi.2];rfl
   rw[h,h4]at h3;exact (BF Prod.snd (AH h3)).symm
  rw[<- e]at b3;exact⟨a1,a2,Tn.dc_cs a2 b0 a3 b3⟩
def QG {A B:Tb}(gA:zZ A)(gB:zZ B)(nA:(qH A).Nodup)(h:Sh A=Sh B){LT:TJ}{ls:List Ln}(hg:j8 A LT ls){γ:Str->Nat}(dF:∀x∈LT,γ x<A.m*B.m):∀(b i:Nat),i<b->i<ls.length ->
  Tn.at' (qa (qK A B) γ ls) i=Tn.at' (qa A (λx=>γ x/B.m) ls) i*B.m+Tn.at' (qa B (λx=>γ x%B.m) ls) i/\Tn.at' (qa A (λx=>γ x/B.m) ls) i<A.m/\Tn.at' (qa B (λx=>γ x%B.m) ls) i<B.m
 |0,i,hb,_=>absurd hb (C2 _)
 |b+1,i,hb,hi=>by
  have b0:0<B.m:=gB.m1;have nB:(qH B).Nodup:=QN h ▸ nA;have lA:=Q8 gA nA hg (γ:=λx=>γ x/B.m) (λx hx=>by exact (Cd b0).mpr (dF x hx)) (i+1) i (CH _) hi;have lB:=Q8 gB nB (Qv h hg) (γ:=λx=>γ x%B.m) (λx hx=>CG _ b0) (i+1) i (CH _) hi;refine⟨?_,lA,lB⟩;have hl:ls[i]?=some ls[i]:=AC hi;have gl:=hg i _ hl;rw[Wv _ γ (Qv (QF h) hg) hl,Wv A _ hg hl,Wv B _ (Qv h hg) hl];generalize ls[i]=l at *;cases l with
  |inl x=>show γ x=γ x/B.m*B.m+γ x%B.m;rw[BP];exact (DY _ _).symm
  |inr z=>
   obtain⟨hz,c,hc,e1,e2⟩:=gl;have ih:=λn (hn:n∈z.2)=>QG gA gB nA h hg dF b n (by have:=hz n hn;lia) (by have:=hz n hn;lia);show cellOf _ z.1 _=cellOf _ z.1 _*_+cellOf _ z.1 _;rw[<- e1,yD gA gB nA h hc ⟨by rw[AB];exact e2.symm,λx hx=>by obtain⟨n,hn,rfl⟩:=AK.mp hx;obtain⟨i1,i2,i3⟩:=ih n hn;rw[i1];have:(Tn.at' (qa A (λx=>γ x/B.m) ls) n+1)*B.m<=A.m*B.m:=Bp _ i2;rw[Ff]at this;lia⟩]
   congr 2
   ·rw[AW]
    congr 1
    refine Ab λn hn=>?_;obtain⟨i1,i2,i3⟩:=ih n hn;show Tn.at' (qa (qK A B) γ ls) n/B.m=_;rw[i1,BP,EE b0,Dw i3,Ck]
   ·rw[AW];refine Ab λn hn=>?_;obtain⟨i1,i2,i3⟩:=ih n hn;show Tn.at' (qa (qK A B) γ ls) n%B.m=_;rw[i1,BP,ED,Dv i3]
def turn_sh (T:Tb)(o:TC):Sh T=Sh (qj T o):=by unfold Sh qj;dsimp only;rw[AW];rfl
def YA:Sp:=λvs H Q _=>∃(ps gs:Addr) (m:Nat) (P G:TC),vs=[.ref ps,nV m,.ref gs]/\m<=9/\H ps=some (.lst (P.map nV))/\H gs=some (.lst (G.map nV))/\P.length<=9/\G.length<=9/\∀l H',zH H H'->H' l=some (.lst ((P.flatMap λp=>G.map λg=>p*m+g).map nV))->Q (.ref l) H'
def spPl0:Sp:=λvs H Q _=>∃(gs:Addr) (m k:Nat) (G:TC),vs=[nV m,.ref gs,nV k]/\m<=9/\k<=2/\H gs=some (.lst (G.map nV))/\G.length<=9/\∀l H',zH H H'->H' l=some (.lst ((Tn.pls m G k).map nV))->Q (.ref l) H'
def spAt0:Sp:=λvs H Q _=>∃(t u g:Addr) (m:Nat) (c:Cn) (G:TC),vs=[.ref t,nV m,.ref g]/\m<=9/\c.pl<=2/\H t=some (.tup [.str c.nm,nV c.pl,.ref u])/\H u=some (.tup (c.cs.map nV))/\c.cs.length=m^c.pl/\H g=some (.lst (G.map nV))/\G.length<=9/\(∀x∈G,x<m)/\∀l H',zH H H'->H' l=some (.lst (((Tn.pls m G c.pl).map (Tn.at' c.cs)).map nV))->Q (.ref l) H'
def WJ:Sp:=λvs H Q _=>∃(p:Addr) (v:V) (A:Tb) (k:Nat),vs=[.ref p,v,nV k]/\Wel H p/\Qc H v A/\zZ A/\1<=k/\k<=9/\∀u B H',Off p H H'->Wel H' p->zZ B->B.m<=k->Sh A=Sh B->Qc H' u B->Q u H'
def zbk:Sp:=λvs H Q _=>∃(v:V) (ol nw:Addr) (T:Tb) (o:TC),vs=[v,.ref ol,.ref nw]/\Qc H v T/\zZ T/\Tn.Or T.m o/\H ol=some (.lst ((Tn.inv T.m o).map nV))/\H nw=some (.tup (o.map nV))/\∀u H',zH H H'->Qc H' u (qj T o)->Q u H'
def YB:Sp:=λvs H Q _=>∃(v:V) (nw:Addr) (T:Tb) (o:TC),vs=[v,.ref nw]/\Qc H v T/\zZ T/\Tn.Or T.m o/\H nw=some (.tup (o.map nV))/\∀u H',zH H H'->Qc H' u (qj T o)->Q u H'
def YC:Sp:=λvs H Q _=>∃(v u:V) (A B:Tb),vs=[v,u]/\Qc H v A/\Qc H u B/\zZ A/\zZ B/\Sh A=Sh B/\A.m*B.m<=9/\∀f H',zH H H'->Qc H' f (qK A B)->Q f H'
def pq {v:Nat}(h:v<2):∃LT:TJ,ZF [V.str "p",V.str "q"] none (some (1+(v:Int)))=LT.map V.str/\1<=LT.length/\LT.length<=2/\LT.Nodup/\Ls LT:=by
 have lp:Ltr (Str.ofString "p"):=ltr_of (c:=112) ∅ ∅ ∅;have lq:Ltr (Str.ofString "q"):=ltr_of (c:=113) ∅ ∅ ∅
 match v,h with
 |0,_=>exact⟨["p"],O,by decide,by decide,∅,λx hx=>by rw[AN.mp hx];exact lp⟩
 |1,_=>exact⟨["p", "q"],O,by decide,by decide,∅,λx hx=>by
   rcases Al.mp hx with rfl|hx
   ·exact lp
   ·rw[AN.mp hx];exact lq⟩
def tcC (m:Nat)(o:TC)(c:Cn):Cn:=⟨c.nm,c.pl,Tn.tc m o c.pl c.cs⟩
def stO (m:Nat)(o:TC)(s:Stp):Stp:=(tcC m o s.1,s.2.1,s.2.2.map (Tn.at' o))
def rw1 {m x:Nat}(hx:x<m):Tn.Rw m 1 [x]:=⟨rfl,λy hy=>by rw[AN.mp hy];exact hx⟩
def rw2 {m x y:Nat}(hx:x<m)(hy:y<m):Tn.Rw m 2 [x,y]:=⟨rfl,λz hz=>by
 rcases Al.mp hz with h|h
 ·rw[h];exact hx
 ·rw[AN.mp h];exact hy⟩
def pl1 (m x:Nat):Tn.place m [x]=x:=by show 0*m+x=x;lia
def pl2 (m x y:Nat):Tn.place m [x,y]=x*m+y:=by show (0*m+x)*m+y=_;rw[Nat.zero_mul,FN]
def Jb {T:Tb}{o:TC}(ho:Tn.Or T.m o){s:Stp}(hs:s∈wc T){x:Nat}(hx:x<T.m):JL T.m (stO T.m o s) (Tn.at' o x)=Tn.at' o (JL T.m s x):=by
 obtain⟨c,hc,h⟩:=BV.mp hs
 rcases AX.mp h with h|h
 ·split at h
  ·rename_i e;rw[AN.mp h];show Tn.at' (Tn.tc T.m o c.pl c.cs) (Tn.at' o x)=Tn.at' o (Tn.at' c.cs x);have:=Tn.tc_row (cs:=c.cs) ho (rw1 hx);rw[De,pl1,pl1]at this;rw[e];exact this
  ·cases h
 ·split at h
  ·rename_i e
   rcases AX.mp h with h|h
   ·obtain⟨z,hz,rfl⟩:=AK.mp h;have hz:=AS.mp hz;show (if 0=0 then Tn.at' (Tn.tc T.m o c.pl c.cs) (Tn.at' o x*T.m+Tn.at' o z) else Tn.at' (Tn.tc T.m o c.pl c.cs) (Tn.at' o z*T.m+Tn.at' o x))=Tn.at' o (if 0=0 then Tn.at' c.cs (x*T.m+z) else Tn.at' c.cs (z*T.m+x));rw[if_pos rfl,if_pos rfl];have:=Tn.tc_row (cs:=c.cs) ho (rw2 hx hz);rw[Af,De,pl2,pl2]at this;rw[e];exact this
   ·obtain⟨z,hz,rfl⟩:=AK.mp h;have hz:=AS.mp hz;show (if 1=0 then Tn.at' (Tn.tc T.m o c.pl c.cs) (Tn.at' o x*T.m+Tn.at' o z) else Tn.at' (Tn.tc T.m o c.pl c.cs) (Tn.at' o z*T.m+Tn.at' o x))=Tn.at' o (if 1=0 then Tn.at' c.cs (x*T.m+z) else Tn.at' c.cs (z*T.m+x));rw[if_neg ∅,if_neg ∅];have:=Tn.tc_row (cs:=c.cs) ho (rw2 hz hx);rw[Af,De,pl2,pl2]at this;rw[e];exact this
  ·cases h
def zbl {T:Tb}{o:TC}(ho:Tn.Or T.m o)(s:Stp):(s∈wc T->stO T.m o s∈wc (qj T o))/\(s∈wc (qj T o)->∃s'∈wc T,s=stO T.m o s'):=by
 refine⟨λhs=>?_,λhs=>?_⟩
 ·obtain⟨c,hc,h⟩:=BV.mp hs;refine BV.mpr ⟨tcC T.m o c,AK.mpr ⟨c,hc,O⟩,?_⟩
  rcases AX.mp h with h|h
  ·split at h
   ·rename_i e;rw[AN.mp h];exact Aq _ (by rw[if_pos (show (tcC T.m o c).pl=1 from e)];exact AN.mpr rfl)
   ·cases h
  ·split at h
   ·rename_i e;refine Au _ ?_;rw[if_pos (show (tcC T.m o c).pl=2 from e)]
    rcases AX.mp h with h|h
    ·obtain⟨z,hz,rfl⟩:=AK.mp h;exact Aq _ (AK.mpr ⟨Tn.at' o z,AS.mpr (ho.at_lt (AS.mp hz)),O⟩)
    ·obtain⟨z,hz,rfl⟩:=AK.mp h;exact Au _ (AK.mpr ⟨Tn.at' o z,AS.mpr (ho.at_lt (AS.mp hz)),O⟩)
   ·cases h
 ·obtain⟨c',iS,h⟩:=BV.mp hs;obtain⟨c,hc,rfl⟩:=AK.mp iS;have put:∀s'∈Y8 T.m c,s=stO T.m o s'->∃s'∈wc T,s=stO T.m o s':=λs' h1 h2=>⟨s',BV.mpr ⟨c,hc,h1⟩,h2⟩
  rcases AX.mp h with h|h
  ·split at h
   ·rename_i e;rw[AN.mp h]at put ⊢;exact put (c,0,none) (Aq _ (by rw[if_pos (show c.pl=1 from e)];exact AN.mpr rfl)) rfl
   ·cases h
  ·split at h
   ·rename_i e;have vG:∀s',s'∈(List.range T.m).map (λo=>(c,0,some o))++(List.range T.m).map (λo=>(c,1,some o))->s'∈Y8 T.m c:=λs' h=>Au _ (by rw[if_pos (show c.pl=2 from e)];exact h)
    rcases AX.mp h with h|h
    ·obtain⟨z,hz,rfl⟩:=AK.mp h;have hz:z<T.m:=AS.mp hz;exact put (c,0,some (Tn.at' (Tn.inv T.m o) z)) (vG _ (Aq _ (AK.mpr ⟨_,AS.mpr (ho.inv_lt hz),O⟩))) (by show _=(tcC T.m o c,0,some (Tn.at' o (Tn.at' (Tn.inv T.m o) z)));rw[ho.inv_l hz];rfl)
    ·obtain⟨z,hz,rfl⟩:=AK.mp h;have hz:z<T.m:=AS.mp hz;exact put (c,1,some (Tn.at' (Tn.inv T.m o) z)) (vG _ (Au _ (AK.mpr ⟨_,AS.mpr (ho.inv_lt hz),O⟩))) (by show _=(tcC T.m o c,1,some (Tn.at' o (Tn.at' (Tn.inv T.m o) z)));rw[ho.inv_l hz];rfl)
   ·cases h
def WK {T:Tb}{o:TC}(ho:Tn.Or T.m o){x:Nat}(hx:x<T.m):x∈T.ws↔Tn.at' o x∈(qj T o).ws:=by show _↔_∈Tn.tw T.m o T.ws;rw[Tn.tw_mem,ho.inv_r hx];exact⟨λh=>⟨ho.at_lt hx,h⟩,λh=>h.2⟩
def WL {T:Tb}{o:TC}(g:zZ T)(ho:Tn.Or T.m o){x y:Nat}(hx:x<T.m)(hy:y<T.m):Tn.at' (mkT T) x=Tn.at' (mkT T) y↔Tn.at' (mkT (qj T o)) (Tn.at' o x)=Tn.at' (mkT (qj T o)) (Tn.at' o y):=by
 have g':=g.turn ho;constructor
 ·intro h;refine JM (T:=qj T o) (λa b=>∃x y,x<T.m/\y<T.m/\a=Tn.at' o x/\b=Tn.at' o y/\Tn.at' (mkT T) x=Tn.at' (mkT T) y) ?_ ?_ ?_ ⟨x,y,hx,hy,O,O,h⟩
  ·rintro a b ⟨x,y,hx,hy,rfl,rfl,_⟩;exact⟨ho.at_lt hx,ho.at_lt hy⟩
  ·rintro a b ⟨x,y,hx,hy,rfl,rfl,h⟩;rw[<- WK ho hx,<- WK ho hy];exact wR g hx hy h
  ·rintro a b ⟨x,y,hx,hy,rfl,rfl,h⟩ s hs;obtain⟨s',b5,rfl⟩:=(zbl ho s).2 hs;exact⟨_,_,JN g b5 hx,JN g b5 hy,Jb ho b5 hx,Jb ho b5 hy,wQ g b5 hx hy h⟩
 ·intro h;refine JM (T:=T) (λa b=>a<T.m/\b<T.m/\Tn.at' (mkT (qj T o)) (Tn.at' o a)=Tn.at' (mkT (qj T o)) (Tn.at' o b)) (λa b h=>⟨h.1,h.2.1⟩) ?_ ?_ ⟨hx,hy,h⟩
  ·rintro a b ⟨ha,hb,h⟩;rw[WK ho ha,WK ho hb];exact wR g' (ho.at_lt ha) (ho.at_lt hb) h
  ·rintro a b ⟨ha,hb,h⟩ s hs;refine⟨JN g hs ha,JN g hs hb,?_⟩;rw[<- Jb ho hs ha,<- Jb ho hs hb];exact wQ g' ((zbl ho s).1 hs) (ho.at_lt ha) (ho.at_lt hb) h
def zbm {T:Tb}{o:TC}(g:zZ T)(ho:Tn.Or T.m o){r:Nat}(hr:r∈Qw T){ms:TC}(hp:ms.Perm ((Tn.partF T.m (mkT T) r).map (Tn.at' o)))(hs:ms.Pairwise (· <= ·)):ms=Tn.partF T.m (mkT (qj T o)) (Tn.at' (mkT (qj T o)) (Tn.at' o r)):=by
 obtain⟨r1,r2⟩:=Tn.reps_mem.mp hr;have ris:(Tn.partF T.m (mkT T) r).Pairwise (·<·):=B7 _ Bu;have nd:((Tn.partF T.m (mkT T) r).map (Tn.at' o)).Nodup:=by rw[DL,A7];refine ris.imp_of_mem λ{a b} ha hb h e=>?_;have h1:=ho.inv_r (Tn.part_mem.mp ha).1;rw[e,ho.inv_r (Tn.part_mem.mp hb).1]at h1;lia
 refine Tn.ris_eq hs (hp.nodup_iff.mpr nd) (B7 _ Bu) λd=>?_;rw[hp.mem_iff,AK];show _↔d∈Tn.partF T.m _ _;rw[Tn.part_mem];constructor
 ·rintro⟨x,hx,rfl⟩;obtain⟨x1,x2⟩:=Tn.part_mem.mp hx;exact⟨ho.at_lt x1,(WL g ho x1 r1).mp (by rw[x2,r2])⟩
 ·rintro⟨d1,d2⟩;refine⟨Tn.at' (Tn.inv T.m o) d,Tn.part_mem.mpr ⟨ho.inv_lt d1,?_⟩,ho.inv_l d1⟩;rw[(WL g ho (ho.inv_lt d1) r1).mpr (by rw[ho.inv_l d1];exact d2),r2]
def WM {n:Nat}{M:TC}(h:Tn.Mk n M){a b:Nat}(ha:a∈Tn.reps n M)(hb:b∈Tn.reps n M)(lt:a<b):ZB (Tn.partF n M a) (Tn.partF n M b)=true/\(Tn.partF n M a).head? ≠ (Tn.partF n M b).head?:=by
 have h1:=Tn.part_head h ha;have h2:=Tn.part_head h hb;cases e1:Tn.partF n M a with
 |nil=>rw[e1]at h1;cases h1
 |cons x xs=>
  cases e2:Tn.partF n M b with
  |nil=>rw[e2]at h2;cases h2
  |cons y ys=>
   rw[e1]at h1;rw[e2]at h2;cases h1;cases h2;refine⟨?_,λz=>?_⟩
   ·unfold ZB;rw[if_neg ⋯];exact Am lt
   ·have:=AH z;lia
def turn_pts {T:Tb}{o:TC}(g:zZ T)(ho:Tn.Or T.m o){ks:List TC}(hk:ks.Perm ((Qw T).map λr=>Tn.partF T.m (mkT (qj T o)) (Tn.at' (mkT (qj T o)) (Tn.at' o r))))(hs:ks.Pairwise (λx y=>ZB x y=true)):ks=ptsT (qj T o):=by
 have mk':=(ZN (g.turn ho)).mks;refine Xb hs ?_ λx=>?_
 ·show ((Qw (qj T o)).map (Tn.partF T.m (mkT (qj T o)))).Pairwise _;rw[A7];exact (Tn.reps_ris _ _).imp_of_mem λ{a b} ha hb lt=>(WM mk' ha hb lt).1
 ·rw[hk.mem_iff,AK];show _↔x∈(Qw (qj T o)).map (Tn.partF T.m (mkT (qj T o)));rw[AK];constructor
  ·rintro⟨r,hr,rfl⟩;exact⟨_,mk'.mem_reps (ho.at_lt (Tn.reps_mem.mp hr).1),O⟩
  ·rintro⟨r',cy,rfl⟩;obtain⟨l1,l2⟩:=Tn.reps_mem.mp cy;have l1:r'<T.m:=l1;have mk:=(ZN g).mks;have i1:=ho.inv_lt l1;refine⟨_,mk.mem_reps i1,?_⟩;have e:=(WL g ho (mk.lt i1) i1).mp (mk.rep _ i1);rw[ho.inv_l l1,l2]at e;rw[e]
def turn_cm {T:Tb}{o:TC}(g:zZ T)(ho:Tn.Or T.m o):(∀k∈(Qw T).map λr=>Tn.partF T.m (mkT (qj T o)) (Tn.at' (mkT (qj T o)) (Tn.at' o r)),∀l∈(Qw T).map λr=>Tn.partF T.m (mkT (qj T o)) (Tn.at' (mkT (qj T o)) (Tn.at' o r)),CmL k l)/\(∀k∈(Qw T).map λr=>Tn.partF T.m (mkT (qj T o)) (Tn.at' (mkT (qj T o)) (Tn.at' o r)),1<=k.length)/\((Qw T).map λr=>Tn.partF T.m (mkT (qj T o)) (Tn.at' (mkT (qj T o)) (Tn.at' o r))).Nodup:=by
 have mk':=(ZN (g.turn ho)).mks;have mk:=(ZN g).mks;have rr:∀{r},r∈Qw T->Tn.at' (mkT (qj T o)) (Tn.at' o r)∈Tn.reps T.m (mkT (qj T o)):=λ{r} hr=>mk'.mem_reps (ho.at_lt (Tn.reps_mem.mp hr).1);have ne:∀{a b},a∈Qw T->b∈Qw T->a≠b->Tn.at' (mkT (qj T o)) (Tn.at' o a)≠Tn.at' (mkT (qj T o)) (Tn.at' o b):=λ{a b} ha hb h e=>h (by obtain⟨a1,a2⟩:=Tn.reps_mem.mp ha;obtain⟨b1,b2⟩:=Tn.reps_mem.mp hb;have:=(WL g ho a1 b1).mpr e;rw[a2,b2]at this;exact this)
 have hd:∀{a b},a∈Qw T->b∈Qw T->a≠b->(Tn.partF T.m (mkT (qj T o)) (Tn.at' (mkT (qj T o)) (Tn.at' o a))).head? ≠ (Tn.partF T.m (mkT (qj T o)) (Tn.at' (mkT (qj T o)) (Tn.at' o b))).head?:=λ{a b} ha hb h=>by
  rcases Nat.lt_or_gt_of_ne (ne ha hb h) with z|z
  ·exact (WM mk' (rr ha) (rr hb) z).2
  ·exact (WM mk' (rr hb) (rr ha) z).2.symm
 refine⟨λk hk l hl=>?_,λk hk=>?_,?_⟩
 ·obtain⟨a,ha,rfl⟩:=AK.mp hk;obtain⟨b,hb,rfl⟩:=AK.mp hl;by_cases e:a=b
  ·rw[e];exact .inl rfl
  ·exact .inr (hd ha hb e)
 ·obtain⟨a,ha,rfl⟩:=AK.mp hk;have:=Tn.part_head mk' (rr ha);exact (AD.mp this).1
 ·rw[DL,A7];exact (Tn.reps_ris _ _).imp_of_mem λ{a b} ha hb lt e=>hd ha hb (AZ lt) (by rw[e])
abbrev dv (b:Nat) (c:TC):TC:=c.map (·/b)
abbrev md (b:Nat) (c:TC):TC:=c.map (·%b)
def zbn (f:Nat->Nat){c:TC}{k:Nat}(hk:k<c.length):Tn.at' (c.map f) k=f (Tn.at' c k):=by unfold Tn.at';rw[AM,AM,AG,AC hk];rfl
def sd_pair {A B:Tb}(gA:zZ A)(gB:zZ B)(nA:(qH A).Nodup)(h:Sh A=Sh B)(h9:A.m*B.m<=9){len:Nat}{Bs:List TC}(hB:∀b∈Bs,qc (A.m*B.m) len b){col:TC}(hs:Sd (qK A B) len Bs col):Sd A len (Bs.map (dv B.m)) (dv B.m col)/\Sd B len (Bs.map (md B.m)) (md B.m col):=by
 have gP:=yE gA gB h h9;have nP:(qH (qK A B)).Nodup:=QN (QF h) ▸ nA;have nB:(qH B).Nodup:=QN h ▸ nA
 induction hs with
 |base hc=>exact⟨.base (AK.mpr ⟨_,hc,O⟩),.base (AK.mpr ⟨_,hc,O⟩)⟩
 | @op c args hc hl ha ih=>
  obtain⟨a,tT,en,ep⟩:=zaS (QF h).symm hc;obtain⟨b,F7,Hs,Hr⟩:=zaS h tT;have gd:∀x∈args,qc (A.m*B.m) len x:=λx hx=>Yz gP nP hB (ha x hx);have row:∀k,k<len->Tn.Rw (A.m*B.m) a.pl (args.map λx=>Tn.at' x k):=λk hk=>⟨by rw[AB,hl,ep],λy hy=>by obtain⟨x,hx,rfl⟩:=AK.mp hy;exact (gd x hx).at hk⟩
  have b0:0<B.m:=gB.m1;have cell:∀k,k<len->cellOf (qK A B) c.nm (args.map λx=>Tn.at' x k)=cellOf A a.nm ((args.map (dv B.m)).map λx=>Tn.at' x k)*B.m+cellOf B b.nm ((args.map (md B.m)).map λx=>Tn.at' x k)/\cellOf B b.nm ((args.map (md B.m)).map λx=>Tn.at' x k)<B.m:=λk hk=>by
   have e:=yD gA gB nA h tT (row k hk);rw[AW,AW]at e;have e1:(args.map (dv B.m)).map (λx=>Tn.at' x k)=args.map ((λx=>x/B.m) ∘ λx=>Tn.at' x k):=by rw[AW];exact Ab λx hx=>zbn _ (by rw[(gd x hx).1];exact hk)
   have e2:(args.map (md B.m)).map (λx=>Tn.at' x k)=args.map ((λx=>x%B.m) ∘ λx=>Tn.at' x k):=by rw[AW];exact Ab λx hx=>zbn _ (by rw[(gd x hx).1];exact hk)
   rw[e1,e2,Hs,<- en];refine⟨e,?_⟩;have:=gB.cell_lt nB F7 (r:=args.map ((λx=>x%B.m) ∘ λx=>Tn.at' x k)) ⟨by rw[AB,hl,<- ep,Hr],λy hy=>by obtain⟨x,_,rfl⟩:=AK.mp hy;exact CG _ b0⟩
   rw[Hs]at this;exact this
  have c1:dv B.m (colV (qK A B) len c.nm args)=colV A len a.nm (args.map (dv B.m)):=by unfold dv colV;rw[AW];refine Ab λk hk=>?_;obtain⟨e,lt⟩:=cell k (AS.mp hk);show cellOf (qK A B) c.nm _/B.m=_;rw[e,BP,EE b0,Dw lt,Ck]
  have c2:md B.m (colV (qK A B) len c.nm args)=colV B len b.nm (args.map (md B.m)):=by unfold md colV;rw[AW];refine Ab λk hk=>?_;obtain⟨e,lt⟩:=cell k (AS.mp hk);show cellOf (qK A B) c.nm _%B.m=_;rw[e,BP,ED,Dv lt]
  rw[c1,c2];refine⟨.op tT (by rw[AB,hl,ep]) λx hx=>?_,.op F7 (by rw[AB,hl,<- ep,Hr]) λx hx=>?_⟩
  ·obtain⟨y,hy,rfl⟩:=AK.mp hx;exact (ih y hy).1
  ·obtain⟨y,hy,rfl⟩:=AK.mp hx;exact (ih y hy).2
def col_pair {A B:Tb}(gA:zZ A)(gB:zZ B)(nA:(qH A).Nodup)(h:Sh A=Sh B){LT:TJ}{ls:List Ln}(hg:j8 A LT ls){γ:Nat->Str->Nat}(dF:∀k,Bd (qK A B) LT (γ k)){len n:Nat}(hn:n<ls.length):Qf A (λk x=>γ k x/B.m) ls len n=dv B.m (Qf (qK A B) γ ls len n)/\Qf B (λk x=>γ k x%B.m) ls len n=md B.m (Qf (qK A B) γ ls len n):=by
 have b0:0<B.m:=gB.m1;unfold Qf dv md;rw[AW,AW];refine⟨Ab λk _=>?_,Ab λk _=>?_⟩
 ·obtain⟨e,_,lt⟩:=QG gA gB nA h hg (dF k) (n+1) n (CH n) hn;show _=Tn.at' (qa (qK A B) (γ k) ls) n/B.m;rw[e,BP,EE b0,Dw lt,Ck]
 ·obtain⟨e,_,lt⟩:=QG gA gB nA h hg (dF k) (n+1) n (CH n) hn;show _=Tn.at' (qa (qK A B) (γ k) ls) n%B.m;rw[e,BP,ED,Dv lt]
def yF {K:Fv}{fd:Addr}{aF:List V}{cps:List (Str×TC)}{te:TE}{H1:Hp}{Q:VK}{D:Addr}{more:St}(f:Nat->Nat)(cT:H1 fd=some (.lst aF))(hp:PCs H1 cps aF)(hD:H1 D=none)(hn:cps.length<=900)
  (he:∀p∈cps,∀u H' Q',zH H1 H'->H' u=some (.tup (p.2.map nV))->(∀t u' ck,zH H' ck->ck t=some (.tup [.str p.1,.ref u'])->ck u'=some (.tup ((p.2.map f).map nV))->Q' (.ref t) ck)->te (some (.str p.1)::some (.ref u)::more) H' Q')
  (q:∀ws H',zH H1 H'->H' D=some (.lst ws)->PCs H' (cps.map λp=>(p.1,p.2.map f)) ws->Q (.ref D) H'):jd (Itl K fd) (gTup K 2 (ZD (qN 0) (ZD (qN 1) gNil))) tYes te (none::none::more) H1 Q D:=by
 have hl:=Ac hp;have gx:∀i,∃(t u:Addr),∀(p:Str×TC),cps[i]?=some p->aF[i]?=some (V.ref t)/\H1 t=some (.tup [.str p.1,.ref u])/\H1 u=some (.tup (p.2.map nV)):=λi=>by
  by_cases hi:i<cps.length
  ·have h2:aF[i]?=some aF[i]:=AC ⋯;obtain⟨t,u,e,h3,h4⟩:=TV hp i _ _ (AC hi) h2;refine⟨t,u,λp cj=>?_⟩;rw[AC hi]at cj;cases cj;exact⟨by rw[h2,e],h3,h4⟩
  ·exact⟨0,0,λp cj=>absurd (AD.mp cj).1 hi⟩
 obtain⟨ad,gx⟩:=BQ gx;obtain⟨au,gx⟩:=BQ gx;have gp:∀i,i<cps.length->cps[i]?=some (cps.getD i ("",[])):=λi hi=>by rw[AM,AC hi];rfl
 refine comp_tl2 (n:=cps.length) (ad:=ad) (xs:=aF) (v1:=λi=>.str (cps.getD i ("",[])).1) (v2:=λi=>.ref (au i)) (λi ys H'=>zH H1 H'/\PCs H' ((cps.take i).map λp=>(p.1,p.2.map f)) ys) ⟨zf hD _,.nil⟩ hl.symm (λi hi=>(gx i _ (gp i hi)).1) (λi ys H' h _=>TR (h.1 _ _ cT)) (λi ys H' hi h=>TU (h.1 _ _ (gx i _ (gp i hi)).2.1)) ?_ ?_
 ·rintro i ys H' hi ⟨s1,hy⟩ br;have fD:=Ac hy;rw[AB,Ae]at fD;refine yes (he _ (AL (gp i hi)) (au i) H' _ s1 (s1 _ _ (gx i _ (gp i hi)).2.2) λt u' ck s2 h1 h2=>?_);refine Zx hi ⟨_,_,O⟩ (s2 _ _ br) (zt ⋯) ⟨(s1.trans s2).put hD,?_⟩;rw[take_snoc (gp i hi),AO];exact PCs.snoc (p:=((cps.getD i ("",[])).1,(cps.getD i ("",[])).2.map f)) (Ti (TY (s2 _ _ br)) (Ti (Ta s2) hy)) (TY (s2 _ _ br) _ _ h1) (TY (s2 _ _ br) _ _ h2)
 ·rintro ys H' ⟨s1,hy⟩ br;rw[Ak]at hy;exact q ys H' s1 br hy
def al_of {H:Hp}{ks:List TC}{xs ys:List V}(h:Tps H ks xs)(k:Paired (xU H) ks ys):Paired (Ya H 1) xs ys:=by
 unfold Tps at h
 induction h generalizing ys with
 |nil=>cases k;exact .nil
 |cons r _ ih=>
  cases k with
  |cons r2 k=>obtain⟨a,e1,h1⟩:=r;obtain⟨b,e2,h2⟩:=r2;exact .cons (.inr ⟨a,b,_,_,e1,e2,h1,h2,yt _ _⟩) (ih k)
theorem zbo {H:Hp}:∀{cps:List (Str×List Nat)}{aF:List V},PCs H cps aF->∃fZ:List (Key×V),Prs H aF fZ/\Paired (λ(p:Str×List Nat) (kv:Key×V)=>∃u:Addr,kv=((Sum.inr p.1:Key),V.ref u)/\H u=some (.tup (p.2.map nV))) cps fZ
 |_,_,.nil=>⟨[],.nil,.nil⟩
 |_,_,.cons ⟨t,u,e1,e2,e3⟩ r=>by obtain⟨fZ,h1,h2⟩:=zbo r;exact⟨(Sum.inr _,.ref u)::fZ,.cons ⟨t,e1,e2⟩ h1,.cons ⟨u,O,e3⟩ h2⟩
def zbp {H:Hp}{ct:Addr}{cps:List (Str×TC)}{aF:List V}{γ:Nat->Str->Nat}{len:Nat}(h:H ct=some (.tup aF))(hp:PCs H cps aF)(nd:(cps.map Prod.fst).Nodup)(h1:1<=cps.length)(h3:cps.length<=3)(dF:∀p∈cps,p.2=(List.range len).map λk=>γ k p.1):∃fZ,yz H ct (cps.map Prod.fst) γ len fZ aF:=by
 obtain⟨fZ,k1,k2⟩:=zbo hp;have kl:=Ac k2;refine⟨fZ,h,k1,by rw[AB];exact kl.symm,λi x hx=>?_,nd,by rw[AB];exact h1,by rw[AB];exact h3⟩;rw[AG]at hx;obtain⟨p,cj,rfl⟩:=Aj.mp hx;have hi:=(AD.mp cj).1;obtain⟨u,e,hu⟩:=TV k2 i _ _ cj (AC ⋯);refine⟨u,?_,?_⟩
 ·rw[AC ⋯,e]
 ·rw[<- dF p (AL cj)];exact hu
def gaC (cps:List (Str×TC))(k:Nat)(x:Str):Nat:=Tn.at' (((cps.find? λp=>decide (p.1=x)).map Prod.snd).getD []) k
theorem gaC_at:∀{cps:List (Str×List Nat)},(cps.map Prod.fst).Nodup->∀{p:Str×List Nat},p∈cps->∀k,gaC cps k p.1=Tn.at' p.2 k
 |c::cps,nd,p,hp,k=>by
  have vw:=Bh.mp nd;unfold gaC
  rcases Al.mp hp with rfl|h
  ·rw[List.find?_cons_of_pos (p:=λq:Str×TC=>decide (q.1=p.1)) (Am rfl)];rfl
  ·rw[List.find?_cons_of_neg (p:=λq:Str×TC=>decide (q.1=p.1)) (λz=>vw.1 ((A2 z:c.1=p.1) ▸ AK.mpr ⟨p,h,rfl⟩))];exact gaC_at vw.2 h k
def gaC_lt {cps:List (Str×TC)}{m len:Nat}(m1:1<=m)(hg:∀p∈cps,qc m len p.2)(k:Nat)(x:Str):gaC cps k x<m:=by
 unfold gaC;cases e:cps.find? λp=>decide (p.1=x) with
 |none=>exact m1
 |some p=>
  have g:=hg p (List.mem_of_find?_eq_some e);by_cases hk:k<len
  ·exact g.at hk
  ·show Tn.at' p.2 k<m;unfold Tn.at';rw[AM,Aw (by rw[g.1];lia)];exact m1
def zbq {cps:List (Str×TC)}{m len:Nat}(nd:(cps.map Prod.fst).Nodup)(hg:∀p∈cps,qc m len p.2):∀p∈cps,p.2=(List.range len).map λk=>gaC cps k p.1:=λp hp=>by have:=rng_at p.2;rw[(hg p hp).1]at this;refine this.symm.trans ?_;refine Ab λk _=>?_;rw[gaC_at nd hp k]
def zbr {cps:List (Str×TC)}{m len:Nat}(nd:(cps.map Prod.fst).Nodup)(hg:∀p∈cps,qc m len p.2)(f:Nat->Nat):∀p∈cps.map (λp=>(p.1,p.2.map f)),p.2=(List.range len).map λk=>f (gaC cps k p.1):=λp hp=>by obtain⟨q,hq,rfl⟩:=AK.mp hp;show q.2.map f=(List.range len).map λk=>f (gaC cps k q.1);rw[zbq nd hg q hq,AW];rfl
def YD {α β:Type}{R:α->β->Prop}{xs:List α}{ys:List β}(h:Paired R xs ys){y:β}(hy:y∈ys):∃x∈xs,R x y:=by
 induction h with
 |nil=>cases hy
 |cons r _ ih=>
  rcases Al.mp hy with rfl|hy
  ·exact⟨_,A5,r⟩
  ·obtain⟨x,hx,hr⟩:=ih hy;exact⟨x,BD _ hx,hr⟩
def dv_good {a b len:Nat}{c:TC}(h:qc (a*b) len c):qc a len (c.map (·/b)):=⟨by rw[AB];exact h.1,λx hx=>by obtain⟨y,hy,rfl⟩:=AK.mp hx;exact Nat.div_lt_of_lt_mul (by rw[BP];exact h.2 y hy)⟩
def md_good {m b len:Nat}{c:TC}(hb:1<=b)(h:qc m len c):qc b len (c.map (·%b)):=⟨by rw[AB];exact h.1,λx hx=>by obtain⟨y,hy,rfl⟩:=AK.mp hx;exact CG _ hb⟩
def slT_any {K:Fv}{ut:Addr}{bs:List V}{lo hi:Option Int}{H:Hp}{Q:VK}(h:H ut=some (.tup bs))(q:∀st xs H',zH H H'->H' st=some (.tup xs)->(∀v∈xs,v∈bs)->Q (.ref st) H'):rSlT K (.ref ut) lo hi H Q\/rSlTW K (.ref ut) lo hi H Q:=by
 by_cases hw:HT.sIx bs.length 0 lo=0/\HT.sIx bs.length bs.length hi=bs.length
 ·exact .inr ⟨ut,bs,O,TU h,hw,q ut bs H zH.rfl' h λ_ h=>h⟩
 ·exact .inl ⟨ut,bs,O,TU h,hw,λp hp=>q p _ _ (zf hp _) ze λv hv=>zaZ hv⟩
def spAsk:Sp:=λvs H Q _=>∃(v:V) (ct wt:Addr) (T:Tb) (cps:List (Str×TC)) (aF:List V) (wish:TC),vs=[v,.ref ct,.ref wt]/\Qc H v T/\zZ T/\(qH T).Nodup/\T.cs.length<=4/\H ct=some (.tup aF)/\PCs H cps aF/\(∀p∈cps,Ltr p.1/\qc T.m wish.length p.2)/\H wt=some (.tup (wish.map nV))/\1<=wish.length/\wish.length<=9/\T.m^wish.length<=81 /\
 (Sd T wish.length (cps.map Prod.snd) wish->∀t lt us L H',zH H H'->H' t=some (.tup [.str "said",.ref lt])->H' lt=some (.tup us)->Lns H' L us->j8 T (cps.map Prod.fst) L->1<=L.length->L.length<=81->Told T wish.length cps L wish->Q (.ref t) H') /\
 (¬Sd T wish.length (cps.map Prod.snd) wish->∀t ut bs ks H',zH H H'->H' t=some (.tup [.str "unsaid",.ref ut])->H' ut=some (.tup bs)->Paired (xU H') ks bs->(∀col,col∈ks->Sd T wish.length (cps.map Prod.snd) col)->Q (.ref t) H')
def JT:Sp:=λvs H Q _=>∃(p:Addr),vs=[.ref p]/\Wel H p/\∀H',Off p H H'->Q (.bl true) H'
def WN:Sp:=λvs H Q _=>∃(p:Addr) (v u f:V) (A B:Tb),vs=[.ref p,v,u,f]/\Wel H p/\Qc H v A/\Qc H u B/\Qc H f (qK A B)/\zZ A/\zZ B/\Sh A=Sh B/\(qH A).Nodup/\A.cs.length<=4/\A.m*B.m<=9/\∀H',Off p H H'->Q (.bl true) H'
def top (i:Nat):Stmt:=PySem.Challenge.pw_truthgrades_k40_whole_told_of_made_table.main.body.getD i (.Pass ⟨0,0,0,0⟩)
structure Gb (mg:Str->Option Value):Prop where
 «abs» : mg "abs" = none
 «range» : mg "range" = none
 «tuple» : mg "tuple" = none
 «list» : mg "list" = none
 «isinstance» : mg "isinstance" = none
 «int» : mg "int" = none
 «str» : mg "str" = none
 «len» : mg "len" = none
 «min» : mg "min" = none
 «max» : mg "max" = none
 «all» : mg "all" = none
 «any» : mg "any" = none
 «bool» : mg "bool" = none
 «divmod» : mg "divmod" = none
 «dict» : mg "dict" = none
 «sorted» : mg "sorted" = none
 «reversed» : mg "reversed" = none
 «zip» : mg "zip" = none
 «set» : mg "set" = none
 «enumerate» : mg "enumerate" = none
 «MOST_COLUMNS» : ∃u,mg "MOST_COLUMNS" = some u/\RelV (.int 81) u
 «MOST_GRADES» : ∃u,mg "MOST_GRADES" = some u/\RelV (.int 9) u
structure Cl (K:Fv)(mg:Str->Option Value)(c:Nat->Addr):Prop where
 g_GradeError:mg "GradeError" = some (.ref (c 0))
 g_TooMany:mg "TooMany" = some (.ref (c 1))
 x_TooMany:PySem.W.excIn K (c 1) [.type "ValueError",.type "Exception",.type "BaseException",.type "object"] "ValueError.__new__" = true
abbrev zX:Stmt:=top 8
def jR:zD ["text"] ["text"] (zm zX):=⟨rfl,rfl,rfl,∅,rfl,∅,∅⟩
section
variable {P:Program}{w:World}{K:Fv}{mg:Str->Option Value}{base:Heap}{f:Addr}{fd:FuncData}
def Ga:TJ:=["cells", "many", "columns", "length", "places", "column"]
def Gc:TJ:=["T", "number", "lines", "name", "places", "cells"]
def Ge:TJ:=["T", "steps", "name", "places", "cells"]
def Gf:TJ:=["one", "other", "many", "firsts", "seconds", "wished", "connectives", "first", "second", "reached", "beside"]
def Gg:TJ:=["T", "olds", "news", "connectives", "name", "places", "cells", "reached", "wished"]
def Gh:TJ:=["_law_well_here", "_law_many", "_law_signs", "_law_first", "_law_pick", "_law_some", "_law_size", "_law_at"]
def Gi:TJ:=["_law_well_here", "_law_many", "_law_places", "_law_size", "_law_kept", "_law_found"]
def Gj:TJ:=["_law_well_here", "_law_table_here", "_law_most", "_law_many", "_law_wished", "_law_connectives"]
def Gk:TJ:=["_law_well_here", "_law_one", "_law_other_here", "_law_both", "_law_size", "_law_columns", "_law_letter", "_law_wish", "_law_found", "_law_firsts", "_law_seconds", "_law_column", "_law_first", "_law_second"]
def Gm{a b c}(d):=@zp a b c d
def Gn{a b c d}(e):=@zK a b c d e
def Gp{a b c d e f g h i}(j k l m n o p q r):=@zR a b c d e f g h i j k l m n o p q r
def Gq{a b c d e}(f g h):=@zd a b c d e f g h
def Gr{a}(b c){d e f g h i j k l m}(n o p q r s t):=@zF a b c d e f g h i j k l m n o p q r s t
def Gs{a}(b){c d}(e f):=@pw a b c d e f
def Gu{a}(b){c d}(e f g):=@pgl a b c d e f g
def Gv{a}:=@zP a
def Kl{α β γ δ:Type}{f:α->β->γ->δ->Cx}:=λa b c d=>@zP (f a b c d)
def Gw{a b c d}:=@qM a b c d
def Gx{a}:=@zg a
def Gy{a b c d e f g h}(i j k l):=@wV a b c d e f g h i j k l
def Gz{a}:=@ZE a
def GA{a}(b c):=@qx a b c
def GB{a b c d}:=@zo a b c d
def GC{a b}(c d):=@qf a b c d
def GD{a b c d e f g h i j k}(l m n o p q r s):=@zw a b c d e f g h i j k l m n o p q r s
def GE{a b c d e}(f g):=@zh a b c d e f g
def GF{a b}(c){d e f g}(h i j k l m):=@zA a b c d e f g h i j k l m
def GG{a b c d}(e):=@qX a b c d e
def GI{a b c d e f g h}(i j k):=@zQ a b c d e f g h i j k
def GJ{a b c d e f g h}(i j k l):=@zO a b c d e f g h i j k l
def GK{a b c d e f g h}(i j k):=@jn a b c d e f g h i j k
def GM{a b c d}:=@xk a b c d
def GN{a b c}(d e):=@WT a b c d e
def GO{a b c d e f g}(h i j k):=@zE a b c d e f g h i j k
def GP{a}(b c):=@zr a b c
def GQ{a b c d}(e f):=@qo a b c d e f
def GR{a}(b){c d e f g h i j k l m}(n o p q r s t u v w x y):=@qY a b c d e f g h i j k l m n o p q r s t u v w x y
def GT{a b c d e f g h i j}(k l m n):=@q5 a b c d e f g h i j k l m n
def GU{a b c}(d):=@jB a b c d
def GV{a}:=@j4 a
def GW{a}:=@zY a
def GX{a b c d e f g h i}(j k l m n o p q r):=@zv a b c d e f g h i j k l m n o p q r
def GY{a}(b){c d e}(f g):=@qr a b c d e f g
def GZ{a}(b){c d e f}(g h i j k l):=@qW a b c d e f g h i j k l
def G0{a b c d e}(f g h):=@zB a b c d e f g h
def G1{a}:=@qT a
def G2{a b c d e}(f):=@qi a b c d e f
def G3{a b c d e f g h}(i j k l m n):=@qO a b c d e f g h i j k l m n
def G4{a}(b){c d e}(f g):=@zV a b c d e f g
def G5{a b c}(d):=@PW.pt a b c d
def G6{a b c d e f g}(h i):=@Xn a b c d e f g h i
def G7{a}(b c){d}(e){f g h i j k l m n o p q}(r s t u v w x y z a26 a27):=@qp a b c d e f g h i j k l m n o p q r s t u v w x y z a26 a27
def G8{a b c d e f}(g h i j):=@zL a b c d e f g h i j
def G9{a}:=@qC a
def Ka{a}:=@ZY a
def Kb{a}(b c):=@zq a b c
def Kc{a b c d e f}(g h i j):=@Jn a b c d e f g h i j
def Ke{a}:=@qP a
def Kf{a b c}(d):=@wz a b c d
def Kg{a b c d e f g h i j k l}(m n o p q r s t u):=@Wa a b c d e f g h i j k l m n o p q r s t u
def Kh{a b c d e f g h i j k l m n o p}(q):=@pass1 a b c d e f g h i j k l m n o p q
def Ki{a b c}:=@Je a b c
def Kj{a}:=@Zb a
def Kk{a b c d e f g}(h i):=@pw_or a b c d e f g h i
def jT (F:Fun K "has_small_letters_alone" "has_small_letters_alone" zX f fd) (gb:Gb mg) {c:Nat->Addr}(cl:Cl K mg c):jo P w K mg base CX0 1 f fd ["text"] Yr:=by
 refine F.ok jR (λvs H Q E h=>?_) (λaC A outer s H vs Q E hr h=>?_)
 ·obtain⟨x,rfl,_⟩:=h;rfl
 obtain⟨x,rfl,hs,hl,q⟩:=h;have aD:(["sign"]:TJ).Nodup:=∅;refine⟨_,(Gm (Gn (Gp (@W8 _ K O O) O gb.all bt_all (Gq (Gr ["sign"] [none] (by show zC ["text"] (zm zX) _ _ _;ac_nf0) O (@pi_str _ _ _ _ (Gs 0 O O)) (λ_ _ _ _=>(Gu 0 aD O O)) Kl (λ_ _ _ _=>(@pe_chain _ _ _ _ _ _ _ _ _ _ _ _ (@W9 _) (@W9 _) Gw (Gs 0 O O) Gw (by with_unfolding_all rfl))) nofun) Gx O) ∅ ∅ O O))),?_⟩;refine⟨_,O,x,O,λD hD=>?_⟩;refine map_str (h:=λ_=>.bl true) ⋯ hD (λc hc H' Q' s1 q'=>?_) (λH' s1 br=>?_)
 ·obtain⟨c0,c1⟩:=hs c hc;refine⟨_,O,_,_,O,O,_,O,?_⟩;have e1:(!decide ((Str.mk #[c]).cps.toList<(Str.ofString "a").cps.toList))=true:=by have:(Str.ofString "a").cps.toList=[97]:=∅;rw[this];simp[List.cons_lt_cons_iff];lia
  have e2:(!decide ((Str.ofString "z").cps.toList<(Str.mk #[c]).cps.toList))=true:=by have:(Str.ofString "z").cps.toList=[122]:=∅;rw[this];simp[List.cons_lt_cons_iff];lia
  rw[if_pos e1];refine⟨_,_,O,O,?_⟩;rw[e2];exact q' _ zH.rfl'
 ·rw[trues]at br;refine⟨D,_,O,TR br,?_⟩;rw[XQ];exact q _ s1
abbrev Qd:Stmt:=top 7
def yG:zD ["thing"] ["thing"] (zm Qd):=⟨rfl,rfl,rfl,∅,rfl,∅,∅⟩
def yH (F:Fun K "is_letter" "is_letter" Qd f fd) (gb:Gb mg) {c:Nat->Addr}(cl:Cl K mg c) (d_has_small_letters_alone:Def P w K mg base 1 "has_small_letters_alone" ["text"] Yr):jo P w K mg base CX0 2 f fd ["thing"] JP:=by
 refine F.ok yG (λvs H Q E h=>?_) (λaC A outer s H vs Q E hr h=>?_)
 ·obtain⟨v,l,rfl,_⟩:=h;rfl
 obtain⟨v,l,rfl,ih,hl,q⟩:=h;refine⟨_,(Gm (Gn (@pe_and _ _ _ _ _ _ _ (Gp (@xr _ K O) O gb.isinstance wZ (Gq (Gs 0 O O) (Gq (@pe_bltn _ _ (.ty "str") _ _ O gb.str bt_str O ∅ ∅) Gx O) O) ∅ ∅ O O) (@pe_and _ _ _ _ _ _ _ (Gy Gz (Gp (GA K O) O gb.len jI (Gq (Gs 0 O O) Gx O) ∅ ∅ O O) GB (GC ∅ ∅)) (@pe_one _ _ _ _ _ (GD d_has_small_letters_alone hr ⋯ O (Gq (Gs 0 O O) Gx O) ∅ O O)))))),?_⟩;refine⟨_,O,?_⟩;cases l with
 |inl x=>
  obtain rfl:v=.str x:=ih;obtain⟨l1,sm⟩:=hl x rfl;refine⟨_,_,_,true,O,.str _,YU "str",true,O,iteT ?_⟩;refine⟨_,O,_,x.length,O,⟨zy ⋯,O⟩,O,true,?_,iteT ?_⟩
  ·rw[l1];rfl
  ·exact⟨_,O,x,O,sm,⋯,λH' s1=>q H' s1⟩
 |inr z=>obtain⟨t,rfl,ht⟩:=ih;exact⟨_,_,_,false,O,.tup ht,kit_str (K:=K) (.tup []),false,O,iteF (q H (zH.refl H))⟩
abbrev j9:Stmt:=top 10
def jf:zD ["lines", "needed", "waiting", "number"] ["lines"] (zm j9):=⟨rfl,rfl,rfl,∅,rfl,∅,∅⟩
def JU (F:Fun K "needed_lines" "needed_lines" j9 f fd) (gb:Gb mg) {c:Nat->Addr}(cl:Cl K mg c) (ae:Def P w K mg base 2 "is_letter" ["thing"] JP):jo P w K mg base CX0 3 f fd ["lines"] Y9:=by
 refine F.ok jf (λvs H Q E h=>?_) (λaC A outer s H vs Q E hr h=>?_)
 ·obtain⟨lt,us,ls,T,LT,rfl,_⟩:=h;rfl
 obtain⟨lt,us,ls,T,LT,rfl,aA,cQ,hG,g2,hL,l1,l20,q⟩:=h;refine⟨_,(GE (GF 1 jf.nd O (Or.inl O) (@YY _ _) O (by ac_nf)) (GE (GF 2 jf.nd O (Or.inl O) (GG (Gq (GI (@WV _) (Gp (GA K O) O gb.len jI (Gq (Gs 0 O O) Gx O) ∅ ∅ O O) GB) Gx O)) O (by ac_nf)) (GE (@YL _ _ _ _ _ _ BG (GJ (@op_gt _) (Gp (GA K O) O gb.len jI (Gq (Gs 2 O O) Gx O) ∅ ∅ O O) GB (GC ∅ ∅)) (GE (GF 3 jf.nd O (Or.inl O) (@kpe_bm0 _ K _ _ _ _ _ _ _ _ Ap PySem.F.slot_list_pop PySem.F.type_list_pop (@mt_pop _) (Gs 2 O O) O O O) O (by ac_nf)) (Gm (GK (GJ (@yj _ _ hr) (Gs 3 O O) (Gs 1 O O) (by with_unfolding_all rfl)) (GE (@X2 _ _ _ _ _ _ _ _ _ _ hr (Gs 1 O O) (Gs 3 O O) GM O) (Gm (GK (@pt_not _ _ _ _ (GN (GD ae hr ⋯ O (Gq (GO (GP K O) (Gs 0 O O) (Gs 3 O O) (λ_ _=>rfl)) Gx O) ∅ O O) nofun)) (Gm (GQ (GR K Ap CL CK (@Zc _) (Gs 2 O O) (Gq (@xG _ K _ _ _ _ _ _ O gb.list O gb.reversed (Gq (GT (@kslT _ K O) (GO (GP K O) (Gs 0 O O) (Gs 3 O O) (λ_ _=>rfl)) (GU GB) GV) Gx O) O O O O) Gx O) O O O O O O) O)) GW))) GW)))) (Gm (Gn (GX (@xT _ O) O gb.list ZH (Gq (Gs 1 O O) Gx O) ∅ ∅ O O)))))),?_⟩;refine λnd gn=>?_;have n1:=zf gn (.dK []);have oT:=Ac cQ;refine⟨_,O,_,_,O,(aA.same n1).len,_,_,O,O,zy (by show 1<=1000;decide),λwa oR=>?_⟩;dsimp only;have ew:V.int (((us.length:Nat):Int)-1)=nV (ls.length-1):=by
  show V.int _=V.int _
  congr 1
  lia
 rw[ew];have n2:=zf oR (.lst [nV (ls.length-1)]);have nw:nd≠wa:=zN ze oR;refine⟨λm σ H'=>(∃x3,σ=[some (.ref lt),some (.ref nd),some (.ref wa),x3])/\zH H H'/\∃ns ws:TC,H' nd=some (.dK (nd1 ns))/\H' wa=some (.lst (ws.map nV))/\ns.Nodup/\(∀n∈ns,n<ls.length)/\(∀n∈ws,n<ls.length)/\(ls.length-1∈ns\/ls.length-1∈ws)/\(∀n∈ns,∀z,ls[n]?=some (.inr z)->∀k∈z.2,k∈ns\/k∈ws)/\m=3*(ls.length-ns.length)+ws.length/\m<=300,⟨_,⟨_,O⟩,n1.trans n2,[],[ls.length-1],n2 _ _ ze,ze,.nil,(λn hn=>by cases hn),(λn hn=>by rw[AN.mp hn];lia),.inr (AN.mpr rfl),(λn hn=>by cases hn),O,by show 3*(ls.length-0)+1<=300;lia⟩,?_⟩;rintro m σ H1 ⟨⟨x3,rfl⟩,s1,ns,ws,mG,hV,nN,oG,wlt,cS,dW,hm,I0⟩;have vn:=Tn.nodup_len ls.length ns nN oG;refine⟨_,O,_,_,O,.inl ⟨_,TR hV,O⟩,_,_,O,O,_,O,?_⟩;rw[AB]
 rcases C9 ws with rfl|⟨ws,k,rfl⟩
 ·refine iteDF rfl ?_;refine⟨_,O,nd,_,O,mG,by unfold nd1;rw[List.length_map];lia,λl hl=>?_⟩;rw[nd1_keys];refine q l ns _ (s1.trans (zf hl _)) ze ⟨nN,oG,cS.elim id (λh=>by cases h),λn hn z hz j hj=>(dW n hn z hz j hj).elim id (λh=>by cases h)⟩
 rw[DA]at *;refine iteDT (Am (by rw[AJ];show (0:Int)<((ws.length+1:Nat):Int);lia)) ?_;rw[AJ]at hm;have hm:m=3*(ls.length-ns.length)+(ws.length+1):=hm;have klt:=wlt k (by simp);have gL:∀n∈ws,n<ls.length:=λn hn=>wlt n (Aq _ hn);refine⟨λaf H'=>∃m',m'<m/\((∃x3,af=[some (.ref lt),some (.ref nd),some (.ref wa),x3])/\zH H H'/\∃ns ws:TC,H' nd=some (.dK (nd1 ns))/\H' wa=some (.lst (ws.map nV))/\ns.Nodup/\(∀n∈ns,n<ls.length)/\(∀n∈ws,n<ls.length)/\(ls.length-1∈ns\/ls.length-1∈ws)/\(∀n∈ns,∀z,ls[n]?=some (.inr z)->∀k∈z.2,k∈ns\/k∈ws)/\m'=3*(ls.length-ns.length)+ws.length/\m'<=300),λaf H' h=>h,?_⟩;refine⟨_,O,.inl ⟨O,_,TR hV⟩,wa,_,nV k,O,O,hV,by simp,?_⟩;rw[show (List.map nV (ws++[k])).dropLast=ws.map nV by rw[AO];simp];have iF:(upd H1 wa (.lst (ws.map nV))) nd=some (.dK (nd1 ns)):=by rw[zJ nw];exact mG
 have s2:zH H (upd H1 wa (.lst (ws.map nV))):=s1.put (n1.free oR);have lV:(upd H1 wa (.lst (ws.map nV))) wa=some (.lst (ws.map nV)):=ze;generalize upd H1 wa (.lst (ws.map nV))=H2 at *;refine⟨_,O,_,O,nd,_,Sum.inl (k:Int),O,O,iF,?_⟩;rw[Yu];by_cases hk:k∈ns
 ·rw[Am hk];refine⟨_,O,iteF ⟨m-1,⋯,⟨_,O⟩,s2,ns,ws,iF,lV,nN,oG,gL,?_,λn hn z hz j hj=>?_,⋯,⋯⟩⟩
  ·rcases cS with h|h
   ·exact .inl h
   ·rcases AX.mp h with h|h
    ·exact .inr h
    ·rw[AN.mp h];exact .inl hk
  ·rcases dW n hn z hz j hj with h|h
   ·exact .inl h
   ·rcases AX.mp h with h|h
    ·exact .inr h
    ·rw[AN.mp h];exact .inl hk
 rw[Ag hk];refine⟨_,O,iteT ?_⟩;have rC:(ns++[k]).Nodup:=DE.mpr ⟨nN,by simp,λa ha b hb e=>hk (by rw[<- List.mem_singleton.mp hb,<- e];exact ha)⟩;have gQ:∀n∈ns++[k],n<ls.length:=λn hn=>by
  rcases AX.mp hn with h|h
  ·exact oG n h
  ·rw[AN.mp h];exact klt
 have gO:=Tn.nodup_len ls.length (ns++[k]) rC gQ;rw[AJ]at gO;have gO:ns.length+1<=ls.length:=gO;refine⟨_,O,_,O,nd,_,Sum.inl (k:Int),O,O,iF,by unfold nd1;rw[List.length_map];exact zt ⋯,?_⟩;rw[nd1_put hk];have s3:zH H (upd H2 nd (.dK (nd1 (ns++[k])))):=s2.put gn;have mF:(upd H2 nd (.dK (nd1 (ns++[k])))) nd=some (.dK (nd1 (ns++[k]))):=ze;have g6:(upd H2 nd (.dK (nd1 (ns++[k])))) wa=some (.lst (ws.map nV)):=by rw[zJ (An nw)];exact lV
 generalize upd H2 nd (.dK (nd1 (ns++[k])))=H3 at *;have kA:ls[k]?=some ls[k]:=AC klt;generalize ls[k]=l at kA;have oU:us[k]?=some us[k]:=AC ⋯;generalize us[k]=u at oU;have iu:=TV cQ k _ _ kA oU;have fY:ls.length-1∈ns++[k]\/ls.length-1∈ws:=by
  rcases cS with h|h
  ·exact .inl (Aq _ h)
  ·rcases AX.mp h with h|h
   ·exact .inr h
   ·exact .inl (Au _ h)
 have old:∀n∈ns,∀z,ls[n]?=some (.inr z)->∀j∈z.2,j∈ns++[k]\/j∈ws:=λn hn z hz j hj=>by
  rcases dW n hn z hz j hj with h|h
  ·exact .inl (Aq _ h)
  ·rcases AX.mp h with h|h
   ·exact .inr h
   ·exact .inl (Au _ h)
 refine⟨_,O,_,O,(aA.same s3).ix oU ?_⟩;refine⟨u,l,O,iu.tk (Ta s3),hG.ltr hL kA,λH4 s4=>⟨_,O,?_⟩⟩;cases l with
 |inl x=>
  have dec:3*(ls.length-(ns++[k]).length)+ws.length<m:=by rw[AJ];show 3*(ls.length-(ns.length+1))+ws.length<m;lia
  refine iteF ⟨3*(ls.length-(ns++[k]).length)+ws.length,dec,⟨_,O⟩,s3.trans s4,ns++[k],ws,s4 _ _ mF,s4 _ _ g6,rC,gQ,gL,fY,λn hn z hz j hj=>?_,O,⋯⟩
  rcases AX.mp hn with h|h
  ·exact old n h z hz j hj
  ·rw[AN.mp h,kA]at hz;cases hz
 |inr z=>
  refine iteT ?_;obtain⟨t,rfl,ht⟩:=iu;have mf:=(s3.trans s4) _ _ ht;obtain⟨zb,c,hc,cn,cp⟩:=hG k _ kA;have z2:z.2.length<=2:=by have:=g2 c hc;lia
  have dec:3*(ls.length-(ns++[k]).length)+(ws++z.2.reverse).length<m:=by rw[AJ,AJ,DV];show 3*(ls.length-(ns.length+1))+(ws.length+z.2.length)<m;lia
  refine⟨_,O,.inl ⟨O,_,TR (s4 _ _ g6)⟩,_,O,_,O,(aA.same (s3.trans s4)).ix oU ⟨_,O,?_⟩⟩;refine zaT mf λt5 H5 s5 oV=>?_;rw[JK (by simp)]at oV;refine⟨t5,z.2.map nV,O,TU oV,by rw[AB];lia,λl6 K4=>?_⟩;have n6:=zf K4 (.lst (z.2.map nV).reverse);have s6:=s4.trans (s5.trans n6);have Ky:=s6 _ _ g6;refine⟨wa,l6,_,_,O,O,Ky,ze,by rw[AB,DV,AB];exact zy ⋯,⟨3*(ls.length-(ns++[k]).length)+(ws++z.2.reverse).length,dec,⟨_,O⟩,(s3.trans s6).put (n1.free oR),ns++[k],ws++z.2.reverse,?_,?_,rC,gQ,λn hn=>?_,?_,λn hn z' bX j hj=>?_,O,⋯⟩⟩
  ·rw[zJ nw];exact s6 _ _ mF
  ·rw[ze,AO,List.map_reverse]
  ·rcases AX.mp hn with h|h
   ·exact gL n h
   ·have:=zb n (List.mem_reverse.mp h);lia
  ·exact fY.imp id (Aq _)
  ·rcases AX.mp hn with h|h
   ·exact (old n h z' bX j hj).imp id (Aq _)
   ·rw[AN.mp h,kA]at bX;cases bX;exact .inr (Au _ (List.mem_reverse.mpr hj))
abbrev jg:Stmt:=top 12
def QS:zD ["H"] ["H"] (zm jg):=⟨rfl,rfl,rfl,∅,rfl,∅,∅⟩
def QT (F:Fun K "cells_by_name" "cells_by_name" jg f fd) (gb:Gb mg) {c:Nat->Addr}(cl:Cl K mg c):jo P w K mg base CX0 1 f fd ["H"] zaX:=by
 refine F.ok QS (λvs H Q E h=>?_) (λaC A outer s H vs Q E hr h=>?_)
 ·obtain⟨v,T,rfl,_⟩:=h;rfl
 obtain⟨v,T,rfl,ia,gT,nT,q⟩:=h;have aD:(["name", "places", "cells"]:TJ).Nodup:=∅;refine⟨_,(Gm (Gn (@X6 _ _ hr _ _ _ _ O gb.dict (Gq (Gr ["name", "places", "cells"] [none,none,none] (by show zC ["H"] (zm jg) _ _ _;ac_nf0) O (GY K (GO (GP K O) (Gs 0 O O) GB (λ_ _=>rfl)) O) (λ_ _ _ _=>(GZ K 3 O (G0 (Gu 0 aD O O) (G0 (Gu 1 aD O O) (G0 (Gu 2 aD O O) G1 O) O) O) O O O)) Kl (λ_ _ _ _=>(G2 (Gq (G2 (Gq (Gs 0 O O) (Gq (Gs 1 O O) Gx O) O)) (Gq (Gs 2 O O) Gx O) O))) nofun) Gx O) O O))),?_⟩;obtain⟨a,w0,c,vs,rfl,h1,h2,h3,h4⟩:=id ia;have kI:=gT.cl;have gx:∀i,∃t u:Addr,i<T.cs.length->vs[i]?=some (.ref t)/\H t=some (.tup [.str (T.cs.getD i d0).nm,nV (T.cs.getD i d0).pl,.ref u])/\H u=some (.tup ((T.cs.getD i d0).cs.map nV)):=λi=>by
  by_cases hi:i<T.cs.length
  ·have hc:T.cs[i]?=some (T.cs.getD i d0):=by simp[List.getD,hi]
   obtain⟨t,u,h⟩:=h4.get hc;exact⟨t,u,λ_=>h⟩
  ·exact⟨0,0,λh=>absurd h hi⟩
 obtain⟨ad,gx⟩:=BQ gx;obtain⟨au,gx⟩:=BQ gx;have ge:∀i,i<T.cs.length->T.cs[i]?=some (T.cs.getD i d0):=λi hi=>by simp[List.getD,hi]
 refine⟨_,O,.inr (.inl ⟨a,_,2,_,O,O,TU h1,O,c,O,⟨_,TU h3⟩,λD hD=>?_⟩)⟩;refine Jm (n:=T.cs.length) (ad:=ad) (v1:=λi=>.str (T.cs.getD i d0).nm) (v2:=λi=>nV (T.cs.getD i d0).pl) (v3:=λi=>.ref (au i)) (more:=[]) (λi ys H'=>zH H H'/\ys.length=i/\Yf H' ys (ctOf T au i)) ⟨zf hD _,O,.nil⟩ h4.len.symm (λi hi=>(gx i hi).1) (λi ys H' h _=>TU (h.1 _ _ h3)) (λi ys H' hi h=>TU (h.1 _ _ (gx i hi).2.1)) ?_ ?_
 ·rintro i ys H1 hi ⟨s1,yl,hP⟩ aM;refine yes ⟨_,O,_,O,zy (by show 2<=1000;decide),λt1 dh=>?_⟩;have n1:=zf dh (.tup [.str (T.cs.getD i d0).nm,nV (T.cs.getD i d0).pl]);refine⟨_,O,zy (by show 2<=1000;decide),λt2 bS=>?_⟩;have n2:=zf bS (.tup [.ref t1,.ref (au i)]);have aK:=n2 _ _ (n1 _ _ aM);refine Zx hi ⟨_,_,_,O⟩ aK (zt ⋯) ⟨(s1.trans (n1.trans n2)).put hD,by rw[AJ,yl];rfl,?_⟩;rw[ct_snoc];exact Yf.snoc (p:=(WR (T.cs.getD i d0),.ref (au i))) (Yf.tk (TY aK) (Yf.tk (Ta (n1.trans n2)) hP)) (TY aK _ _ ze) (TY aK _ _ (n2 _ _ ze))
 ·rintro ys H1 ⟨s1,yl,hP⟩ aM;refine⟨D,ys,_,O,aM,hP,λe he=>q e _ (s1.trans (zf he _)) ⟨_,ze,λcc cx=>?_⟩⟩;obtain⟨i,hi⟩:=As.mp cx;have bM:=(AD.mp hi).1;have en:T.cs.getD i d0=cc:=by have:=ge i bM;rw[hi]at this;exact (AH this).symm
  refine⟨au i,?_,?_⟩
  ·rw[<- en];exact zas (ctOf T au T.cs.length) [] (WR (T.cs.getD i d0),.ref (au i)) (ct_nd nT) (AK.mpr ⟨i,AS.mpr bM,O⟩)
  ·rw[<- en];exact (s1.trans (zf he _)) _ _ (gx i bM).2.2
abbrev Zn:Stmt:=top 13
def Z3:zD ["shapes", "parts", "part"] ["shapes", "parts"] (zm Zn):=⟨rfl,rfl,rfl,∅,rfl,∅,∅⟩
def we (F:Fun K "check_names" "check_names" Zn f fd) (gb:Gb mg) {c:Nat->Addr}(cl:Cl K mg c) (ae:Def P w K mg base 2 "is_letter" ["thing"] JP):jo P w K mg base CX0 3 f fd ["shapes", "parts"] za0:=by
 refine F.ok Z3 (λvs H Q E h=>?_) (λaC A outer s H vs Q E hr h=>?_)
 ·obtain⟨e',l,us,ss,T,LT,rfl,_⟩:=h;rfl
 obtain⟨e',l,us,ss,T,LT,rfl,bJ,hl,hP,gS,hL,q⟩:=h;refine⟨_,(Gm (G3 BG O (G4 K (Gs 1 O O) O) (Gu 2 Z3.nd O O) (Gm (GK (G5 (G6 (@pt_not _ _ _ _ (GN (GD ae hr ⋯ O (Gq (Gs 2 O O) Gx O) ∅ O O) nofun)) (@yW _ _ _ _ (GJ (@Js _ _ hr) (G2 (Gq (GO (GP K O) (Gs 2 O O) GB (λ_ _=>rfl)) (Gq (GI (@WV _) (Gp (GA K O) O gb.len jI (Gq (Gs 2 O O) Gx O) ∅ ∅ O O) GB) Gx O) O)) (Gs 0 O O) (by with_unfolding_all rfl))))) (Gm (@Q0 _ _)) GW)) nofun)),?_⟩;refine⟨_,O,l,O,⟨_,TR hl⟩,?_⟩;refine jq (xs:=us) (λi σ H'=>(∃x2,σ=[some (.ref e'),some (.ref l),x2])/\zH H H') ⟨⟨_,O⟩,zH.refl _⟩ (λi σ H' _ h=>TR (h.2 _ _ hl)) ?_ (λσ H' h=>q H' h.2);rintro i x σ H1 hx ⟨⟨x2,rfl⟩,s1⟩;have hlen:=Ac hP;have hi:=(AD.mp hx).1;have iw:ss[i]?=some ss[i]:=AC ⋯;generalize ss[i]=z at iw;have iz:=TV hP i _ _ iw hx;obtain⟨ii,gz⟩:=gS z (AL iw);refine⟨_,O,x,z,O,iz.tk (Ta s1),(λy e=>by rw[e]at gz;exact hL y gz),λH2 s2=>⟨_,O,?_⟩⟩;cases z with
 |inl y=>exact⟨⟨_,O⟩,s1.trans s2⟩
 |inr z=>
  obtain⟨t,rfl,ht⟩:=iz;obtain⟨_,c,hc,cn,cp⟩:=gz;have bS:=s2 _ _ (s1 _ _ ht);obtain⟨kvs,hk,hv⟩:=(bJ.same s1).same s2;obtain⟨u,e1,e2⟩:=hv c hc;refine⟨_,O,.inr (.inl ⟨t,_,_,_,O,O,TU bS,at0,_,O,_,_,O,.inr ⟨_,TU bS,O⟩,_,_,O,O,zy (by show 2<=1000;decide),λt3 df=>?_⟩)⟩;have el:V.int (((.str z.1::z.2.map nV:List V).length:Int)-1)=.int ((c.pl:Nat):Int):=by
   rw[Ax,AB,cp];show V.int _=V.int _
   congr 1
   lia
  dsimp only;rw[el];have n3:=zf df (.tup [.str z.1,.int ((c.pl:Nat):Int)]);refine⟨_,O,e',t3,kvs,WR c,O,O,n3 _ _ hk,?_,?_⟩
  ·rw[ze];unfold WR;rw[cn];rfl
  rw[e1];exact⟨_,O,⟨⟨_,O⟩,s1.trans (s2.trans n3)⟩⟩
abbrev jK:Stmt:=top 14
def Zy:zD ["parts", "known", "part"] ["parts", "known"] (zm jK):=⟨rfl,rfl,rfl,∅,rfl,∅,∅⟩
def QU (F:Fun K "check_letters" "check_letters" jK f fd) (gb:Gb mg) {c:Nat->Addr}(cl:Cl K mg c) (ae:Def P w K mg base 2 "is_letter" ["thing"] JP):jo P w K mg base CX0 3 f fd ["parts", "known"] za1:=by
 refine F.ok Zy (λvs H Q E h=>?_) (λaC A outer s H vs Q E hr h=>?_)
 ·obtain⟨g,l,us,ss,LT,kvs,rfl,_⟩:=h;rfl
 obtain⟨g,l,us,ss,LT,kvs,rfl,hg,hl,hP,gS,hL,hv,q⟩:=h;refine⟨_,(Gm (G3 BG O (G4 K (Gs 0 O O) O) (Gu 2 Zy.nd O O) (Gm (GK (G5 (G6 (GN (GD ae hr ⋯ O (Gq (Gs 2 O O) Gx O) ∅ O O) nofun) (@yW _ _ _ _ (GJ (@yj _ _ hr) (Gs 2 O O) (Gs 1 O O) (by with_unfolding_all rfl))))) (Gm (@Q0 _ _)) GW)) nofun)),?_⟩;refine⟨_,O,l,O,⟨_,TR hl⟩,?_⟩;refine jq (xs:=us) (λi σ H'=>(∃x2,σ=[some (.ref l),some (.ref g),x2])/\zH H H') ⟨⟨_,O⟩,zH.refl _⟩ (λi σ H' _ h=>TR (h.2 _ _ hl)) ?_ (λσ H' h=>q H' h.2);rintro i x σ H1 hx ⟨⟨x2,rfl⟩,s1⟩;have hlen:=Ac hP;have hi:=(AD.mp hx).1;have iw:ss[i]?=some ss[i]:=AC ⋯;generalize ss[i]=z at iw;have iz:=TV hP i _ _ iw hx;have gz:=gS z (AL iw);refine⟨_,O,x,z,O,iz.tk (Ta s1),(λy e=>hL y (gz y e)),λH2 s2=>⟨_,O,?_⟩⟩;cases z with
 |inr z=>exact⟨⟨_,O⟩,s1.trans s2⟩
 |inl y=>obtain rfl:x=.str y:=iz;refine⟨_,O,_,O,g,kvs,Sum.inr y,O,O,(s1.trans s2) _ _ hg,?_⟩;rw[hv y (gz y rfl)];exact⟨_,O,⟨⟨_,O⟩,s1.trans s2⟩⟩
abbrev qL:Stmt:=top 15
def js:zD ["cells", "many", "columns", "length", "places", "column"] ["cells", "many", "columns", "length"] (zm qL):=⟨rfl,rfl,rfl,∅,rfl,∅,∅⟩
def wf (F:Fun K "column_from" "column_from" qL f fd) (gb:Gb mg) {c:Nat->Addr}(cl:Cl K mg c):jo P w K mg base CX0 1 f fd ["cells", "many", "columns", "length"] za2:=by
 refine F.ok js (λvs H Q E h=>?_) (λaC A outer s H vs Q E hr h=>?_)
 ·obtain⟨cu,cl,m,pl,cs,cols,aF,len,rfl,_⟩:=h;rfl
 obtain⟨cu,cl,m,pl,cs,cols,aF,len,rfl,Lo,d9,dW,hC,cH,p2,bu,m1,m9,n9,q⟩:=h;have aD:(["row"]:TJ).Nodup:=∅;have nd1:(["place", "one", "many"]:TJ).Nodup:=∅;have eN:(["place", "cells"]:TJ).Nodup:=∅;refine⟨_,(GE (G7 ["row"] [none] 4 (by show zC Ga (zm qL) _ _ _;ac_nf0) O (G8 O gb.range (Gq (Gs 3 O O) Gx O) O) (λ_ _ _ _=>(Gu 0 aD O O)) Kl (λ_ _ _ _=>GB) js.nd O O O nofun) (GE (G3 BG O (G4 K (Gs 2 O O) O) (Gu 5 js.nd O O) (Gm (G7 ["place", "one", "many"] [none,none,some 1] 4 (by show zC Ga (zm qL) _ _ _;ac_nf0) O (@Wb _ false true K _ _ _ _ _ _ _ _ O gb.zip (Gq (Gs 4 O O) (Gq (Gs 5 O O) Gx O) O) O O O) (λ_ _ _ _=>(GZ K 2 O (G0 (Gu 0 nd1 O O) (G0 (Gu 1 nd1 O O) G1 O) O) O O O)) Kl (λ_ _ _ _=>(GI G9 (GI Ka (Gs 0 O O) (Gs 2 O O)) (Gs 1 O O))) js.nd O O O nofun)) nofun) (Gm (Gn (GX (Kb K O) O gb.tuple zG (Gq (Gr ["place", "cells"] [none,some 0] (by show zC Ga (zm qL) _ _ _;ac_nf0) O (G4 K (Gs 4 O O) O) (λ_ _ _ _=>(Gu 0 eN O O)) Kl (λ_ _ _ _=>(GO (GP K O) (Gs 1 O O) (Gs 0 O O) (λ_ _=>rfl))) nofun) Gx O) ∅ ∅ O O))))),?_⟩;refine⟨_,O,(len:Int),O,⋯,⋯,λD0 Hh=>?_⟩;rw[Av];refine zT (λi ys H'=>zH H H'/\ys=List.replicate i (nV 0)) ⟨zf Hh _,O⟩ ?_ ?_
 ·rintro i ys H1 hi ⟨s1,rfl⟩ aM;refine yes (Zx hi qG aM (by rw[Eu];exact zt ⋯) ⟨s1.put Hh,?_⟩);rw[List.replicate_succ'];rfl
 rintro ys H1 ⟨s1,rfl⟩ aM;have e0:(((List.range len).map λk=>Tn.place m ((cols.take 0).map λcol=>Tn.at' col k)).map nV)=List.replicate len (nV 0):=List.eq_replicate_iff.mpr ⟨by rw[AB,AB,AU],λb hb=>by obtain⟨x,hx,rfl⟩:=AK.mp hb;obtain⟨k,_,rfl⟩:=AK.mp hx;rfl⟩
 rw[<- e0]at aM;have mO:=Ac hC;refine⟨_,O,cl,O,⟨_,TR (s1 _ _ dW)⟩,?_⟩;refine jq (xs:=aF) (λi σ H'=>(∃pd x5,σ=[some (.ref cu),some (nV m),some (.ref cl),some (nV len),some (.ref pd),x5]/\H' pd=some (.lst (((List.range len).map λk=>Tn.place m ((cols.take i).map λcol=>Tn.at' col k)).map nV)))/\zH H H') ⟨⟨D0,_,O,aM⟩,s1⟩ (λi σ H' _ h=>TR (h.2 _ _ dW)) ?_ ?_
 ·rintro i x σ H2 hx ⟨⟨pd,x5,rfl,gi⟩,s2⟩;have hi:=(AD.mp hx).1;have ef:cols[i]?=some cols[i]:=AC ⋯;generalize cols[i]=col at ef;obtain⟨t,rfl,ht⟩:=TV hC i _ _ ef hx;have gc:=bu col (AL ef);have gl:=gc.1;refine⟨_,O,_,O,pd,t,_,_,O,TR gi,TU (s2 _ _ ht),λD hD=>?_⟩;refine yc (kd:=false) (ke:=true) (n:=len) (xs:=((List.range len).map λk=>Tn.place m ((cols.take i).map λcol=>Tn.at' col k)).map nV) (ys:=col.map nV) (more:=[some (nV m)]) (λj zs H'=>zH H2 H'/\zs=((List.range j).map λk=>Tn.place m ((cols.take (i+1)).map λcol=>Tn.at' col k)).map nV) (by rw[AB,AB,AB,AU,gl,FT]) ⟨zf hD _,O⟩ (λj zs H' h _=>⟨TR (h.1 _ _ gi),TU (h.1 _ _ (s2 _ _ ht))⟩) ?_ ?_
  ·rintro j zs H3 TT x y lQ lN hj ⟨s3,rfl⟩ aB LK;rw[AW]at lQ;obtain⟨_,rfl⟩:=Yv lQ;rw[AG,xa ⋯]at lN;obtain rfl:=AH lN;have n4:=zf LK (.tup [nV (Tn.place m ((cols.take i).map λcol=>Tn.at' col j)),nV (Tn.at' col j)]);have e:V.int (((Tn.place m ((cols.take i).map λcol=>Tn.at' col j):Nat):Int)*((m:Nat):Int)+((Tn.at' col j:Nat):Int))=nV (Tn.place m ((cols.take (i+1)).map λcol=>Tn.at' col j)):=by rw[take_snoc ef,AO,Af,Ei,Tn.place_snoc];show V.int _=V.int _;rw[Es,Ce]
   refine yes ⟨_,O,_,O,_,_,O,O,.inr ⟨⋯,⋯⟩,_,O,_,_,O,O,?_⟩;refine Zx hj ⟨_,_,O⟩ (n4 _ _ aB) (by rw[AB,AB,AU];exact zt ⋯) ⟨(s3.trans n4).put hD,?_⟩;rw[BH,AO,AO];exact BF (λv=>(((List.range j).map λk=>Tn.place m ((cols.take (i+1)).map λcol=>Tn.at' col k)).map nV)++[v]) e
  ·rintro zs H3 ⟨s3,rfl⟩ aB;exact⟨⟨D,some (.ref t),O,aB⟩,s2.trans s3⟩
 ·rintro σ H2 ⟨⟨pd,x5,rfl,gi⟩,s2⟩;rw[<- mO,Ak]at gi;refine⟨_,O,pd,O,⟨_,TR gi⟩,λD hD=>?_⟩;refine Zd (xs:=((List.range len).map λk=>Tn.place m (cols.map λcol=>Tn.at' col k)).map nV) (λj zs H'=>zH H2 H'/\zs=((List.range j).map λk=>Tn.at' cs (Tn.place m (cols.map λcol=>Tn.at' col k))).map nV) ⟨zf hD _,O⟩ (λj zs H' h _=>TR (h.1 _ _ gi)) ?_ ?_
  ·rintro j zs H3 x lQ ⟨s3,rfl⟩ aB;rw[AW]at lQ;obtain⟨hj,rfl⟩:=Yv lQ;refine yes ⟨_,O,_,O,.inr (.inl ⟨cu,_,_,_,O,O,TU ((s2.trans s3) _ _ Lo),JI ?_,?_⟩)⟩
   ·rw[d9.len,<- cH];exact Tn.place_lt _ _ ⟨by rw[AB],λy hy=>by obtain⟨col,hc,rfl⟩:=AK.mp hy;exact (bu col hc).at hj⟩
   ·refine Zx (by rw[AB,AB,AU];exact hj) qG aB (by rw[AB,AB,AU];exact zt ⋯) ⟨s3.put hD,?_⟩;rw[BH,AO,AO];rfl
  ·rintro zs H3 ⟨s3,rfl⟩ aB;rw[AB,AB,AU]at aB;refine⟨D,_,O,.inl ⟨TR aB,λt ht=>?_⟩⟩;exact q t _ (s2.trans (s3.trans (zf ht _))) ze
abbrev jD:Stmt:=top 21
def Z4:zD ["T", "cells", "ahead", "line", "length", "parts"] ["T", "cells", "ahead", "line", "length"] (zm jD):=⟨rfl,rfl,rfl,∅,rfl,∅,∅⟩
def wg (F:Fun K "line_column" "line_column" jD f fd) (gb:Gb mg) {c:Nat->Addr}(cl:Cl K mg c) (aW:Def P w K mg base 1 "column_from" ["cells", "many", "columns", "length"] za2):jo P w K mg base CX0 2 f fd ["T", "cells", "ahead", "line", "length"] WA:=by
 refine F.ok Z4 (λvs H Q E h=>?_) (λaC A outer s H vs Q E hr h=>?_)
 ·obtain⟨v,e',al,t,T,z,cols,bG,len,rfl,_⟩:=h;rfl
 obtain⟨v,e',al,t,T,z,cols,bG,len,rfl,ia,gT,nT,bJ,fN,hC,bu,ht,hz,hc,n9,q⟩:=h;have aD:(["number", "ahead"]:TJ).Nodup:=∅;refine⟨_,(GE (G7 ["number", "ahead"] [none,some 2] 5 (by show zC ["T", "cells", "ahead", "line", "length", "parts"] (zm jD) _ _ _;ac_nf0) O (GY K (GT (@kslT _ K O) (Gs 3 O O) (GU GB) GV) O) (λ_ _ _ _=>(Gu 0 aD O O)) Kl (λ_ _ _ _=>(GO (GP K O) (Gs 1 O O) (Gs 0 O O) (λ_ _=>rfl))) Z4.nd O O O nofun) (Gm (Gn (GD aW hr ⋯ O (Gq (Kc (@hu1 _ _ hr) (Gs 1 O O) (G2 (Gq (GO (GP K O) (Gs 3 O O) GB (λ_ _=>rfl)) (Gq (GI (@WV _) (Gp (GA K O) O gb.len jI (Gq (Gs 3 O O) Gx O) ∅ ∅ O O) GB) Gx O) O)) (λ_ _=>rfl)) (Gq (GO (GP K O) (Gs 0 O O) GB (λ_ _=>rfl)) (Gq (Gs 5 O O) (Gq (Gs 4 O O) Gx O) O) O) O) ∅ O O)))),?_⟩;obtain⟨c,kE,cn,cp⟩:=hc;obtain⟨a,w0,c0,vs,rfl,h1,h2,h3,h4⟩:=id ia;obtain⟨_,p2,q3⟩:=gT.cn c kE;have iU:=Ac hC;refine⟨_,O,_,O,?_⟩;refine zaT ht λt2 H2 s2 bS=>?_;rw[JK (by simp)]at bS;refine⟨t2,O,⟨_,TU bS⟩,λD hD=>?_⟩;refine Q1 (xs:=z.2.map nV) (λi ys H'=>zH H2 H'/\Q9 H' ((z.2.take i).map λn=>cols.getD n []) ys/\ys.length=i) ⟨zf hD _,.nil,O⟩ (λi ys H' h _=>TU (h.1 _ _ bS)) ?_ ?_
 ·rintro i ys H3 x hx ⟨s3,hY,yl⟩ aB;have hi:=(AD.mp hx).1;rw[AB]at hi;rw[AG]at hx;obtain⟨n,hn,rfl⟩:=Aj.mp hx;have cO:=hz n (AL hn);have ef:cols[n]?=some (cols.getD n []):=by simp[List.getD,cO]
  have tS:bG[n]?=some bG[n]:=AC ⋯;generalize bG[n]=av at tS;obtain⟨tc,rfl,eQ⟩:=TV hC n _ _ ef tS;have S3:=s2.trans s3;refine yes ⟨_,O,_,O,.inl ⟨al,_,_,_,O,O,TR (S3 _ _ fN),qF tS,?_⟩⟩;refine Zx (by rw[AB];exact hi) qG aB (zt ⋯) ⟨s3.put hD,?_,by rw[AJ,yl];rfl⟩;rw[take_snoc hn,AO];exact Tg (TY aB) (Q9.snoc hY (S3 _ _ eQ))
 rintro ys H3 ⟨s3,hY,yl⟩ aB;rw[AB,Ak]at hY;have S3:=s2.trans s3;have df:=S3 _ _ ht;obtain⟨kvs,hk,hv⟩:=bJ.same S3;obtain⟨u,e1,e2⟩:=hv c kE;refine⟨_,O,_,O,.inr (.inl ⟨t,_,_,_,O,O,TU df,at0,_,O,_,_,O,.inr ⟨_,TU df,O⟩,_,_,O,O,zy (by show 2<=1000;decide),λt4 mf=>?_⟩)⟩;have el:V.int (((.str z.1::z.2.map nV:List V).length:Int)-1)=.int ((c.pl:Nat):Int):=by
  rw[Ax,AB,cp];show V.int _=V.int _
  congr 1
  lia
 dsimp only;rw[el];have n4:=zf mf (.tup [.str z.1,.int ((c.pl:Nat):Int)]);have m5:Wi (upd H3 t4 (.tup [.str z.1,.int ((c.pl:Nat):Int)])) e' (.ref t4) (jk kvs (WR c)):=Wi.t (n4 _ _ hk) (by rw[ze];unfold WR;rw[cn];rfl)
 rw[e1]at m5;refine⟨e',_,O,m5,?_⟩;have S4:=S3.trans n4;refine⟨_,O,.inr (.inl ⟨a,_,0,_,O,O,TU (S4 _ _ h1),O,?_⟩)⟩;refine⟨_,O,_,O,u,D,T.m,c.pl,c.cs,z.2.map λn=>cols.getD n [],ys,len,O,n4 _ _ e2,q3,n4 _ _ aB,Tg (Ta n4) hY,by rw[AB,cp],p2,(λcol hc=>?_),gT.m1,gT.m9,n9,λt' H5 s5 cM=>?_⟩
 ·obtain⟨n,hn,rfl⟩:=AK.mp hc;have cO:=hz n hn;exact bu _ (AL (i:=n) (by simp[List.getD,cO]))
 ·refine q t' H5 (S4.trans s5) ?_;rw[cM]
  congr 3
  refine Ab λk _=>?_;unfold cellOf;rw[<- cn,Qu nT kE,AW];rfl
abbrev jX:Stmt:=top 25
def WO:zD ["line", "numbers"] ["line", "numbers"] (zm jX):=⟨rfl,rfl,rfl,∅,rfl,∅,∅⟩
def WP (F:Fun K "renumbered" "renumbered" jX f fd) (gb:Gb mg) {c:Nat->Addr}(cl:Cl K mg c) (ae:Def P w K mg base 2 "is_letter" ["thing"] JP):jo P w K mg base CX0 3 f fd ["line", "numbers"] Yw:=by
 refine F.ok WO (λvs H Q E h=>?_) (λaC A outer s H vs Q E hr h=>?_)
 ·obtain⟨v,nd,l,ns,o,rfl,_⟩:=h;rfl
 obtain⟨v,nd,l,ns,o,rfl,il,hL,gn,nN,hz,h2,n20,q⟩:=h;have aD:(["number", "numbers"]:TJ).Nodup:=∅;refine⟨_,(GE (GK (GN (GD ae hr ⋯ O (Gq (Gs 0 O O) Gx O) ∅ O O) nofun) (Gm (Gn (Gs 0 O O))) GW) (Gm (Gn (GI (@op_catA _ K O) (G2 (Gq (GO (GP K O) (Gs 0 O O) GB (λ_ _=>rfl)) Gx O)) (GX (Kb K O) O gb.tuple zG (Gq (Gr ["number", "numbers"] [none,some 1] (by show zC ["line", "numbers"] (zm jX) _ _ _;ac_nf0) O (GY K (GT (@kslT _ K O) (Gs 0 O O) (GU GB) GV) O) (λ_ _ _ _=>(Gu 0 aD O O)) Kl (λ_ _ _ _=>(Kc (@hu1 _ _ hr) (Gs 1 O O) (Gs 0 O O) (λ_ _=>rfl))) nofun) Gx O) ∅ ∅ O O))))),?_⟩;refine⟨_,O,v,l,O,il,hL,λH1 s1=>⟨_,O,?_⟩⟩;cases l with
 |inl x=>exact iteT ⟨_,O,q v H1 s1 (il.tk (Ta s1))⟩
 |inr z=>
  refine iteF ?_;obtain⟨t,rfl,ht⟩:=il;have dh:=s1 _ _ ht;have h2:z.2.length<=2:=h2;refine⟨_,O,.inr (.inl ⟨t,_,_,_,O,O,TU dh,at0,zy (by show 1<=1000;decide),λt1 KZ=>?_⟩)⟩;have n1:=zf KZ (.tup [.str z.1]);refine⟨_,O,_,O,?_⟩;refine zaT (n1 _ _ dh) λt2 H2 s2 bS=>?_;rw[JK (by simp)]at bS;refine⟨t2,O,⟨_,TU bS⟩,λD hD=>?_⟩;have S2:=s1.trans (n1.trans s2);refine Q1 (xs:=z.2.map nV) (λi ys H'=>zH H2 H'/\ys=((z.2.take i).map λm=>ns.idxOf m).map nV) ⟨zf hD _,O⟩ (λi ys H' h _=>TU (h.1 _ _ bS)) ?_ ?_
  ·rintro i ys H3 x hx ⟨s3,rfl⟩ aB;have hi:=(AD.mp hx).1;rw[AB]at hi;rw[AG]at hx;obtain⟨n,hn,rfl⟩:=Aj.mp hx;have hm:=hz n (AL hn);have m5:Wi H3 nd (nV n) (jk (Qy ns) (Sum.inl (n:Int))):=.inl ⟨Qy ns,Sum.inl (n:Int),.inr ⟨o,(S2.trans s3) _ _ gn⟩,rfl,rfl⟩;rw[nums_val nN hm]at m5;refine yes ⟨_,O,_,O,nd,_,O,m5,?_⟩;refine Zx (by rw[AB];exact hi) qG aB (by rw[AB,AB,Ae];exact zt ⋯) ⟨s3.put hD,?_⟩;rw[take_snoc hn,AO,AO];rfl
  ·rintro ys H3 ⟨s3,rfl⟩ aB;rw[AB,Ak]at aB;refine⟨D,_,O,.inl ⟨TR aB,λt4 mf=>?_⟩⟩;have n4:=zf mf (.tup ((z.2.map λm=>ns.idxOf m).map nV));refine catA_of (n4 _ _ (s3 _ _ (s2 _ _ ze))) ze (by rw[AB,AB];show 1+z.2.length<=1000;lia) λt5 H5 s5 oV=>?_;exact q (.ref t5) H5 (S2.trans (s3.trans (n4.trans s5))) ⟨t5,O,oV⟩
abbrev jt:Stmt:=top 24
def jL:zD ["lines", "numbers", "number"] ["lines"] (zm jt):=⟨rfl,rfl,rfl,∅,rfl,∅,∅⟩
def JV (F:Fun K "needed_alone" "needed_alone" jt f fd) (gb:Gb mg) {c:Nat->Addr}(cl:Cl K mg c) (ak:Def P w K mg base 3 "needed_lines" ["lines"] Y9) (bg:Def P w K mg base 3 "renumbered" ["line", "numbers"] Yw):jo P w K mg base CX0 4 f fd ["lines"] WC:=by
 refine F.ok jL (λvs H Q E h=>?_) (λaC A outer s H vs Q E hr h=>?_)
 ·obtain⟨lt,us,ls,T,LT,rfl,_⟩:=h;rfl
 obtain⟨lt,us,ls,T,LT,rfl,aA,cQ,hG,g2,hL,l1,l20,q⟩:=h;have aD:(["number", "lines", "numbers"]:TJ).Nodup:=∅;refine⟨_,(GE (GF 1 jL.nd O (Or.inr O) (@YY _ _) O (by ac_nf)) (GE (G3 BG O (G4 K (Gp (@J9 _ K O) O gb.sorted ZI (Gq (GD ak hr ⋯ O (Gq (Gs 0 O O) Gx O) ∅ O O) Gx O) ∅ ∅ O O) O) (Gu 2 jL.nd O O) (Gm (@X2 _ _ _ _ _ _ _ _ _ _ hr (Gs 1 O O) (Gs 2 O O) (Gp (@zat _) O gb.len jI (Gq (Gs 1 O O) Gx O) ∅ ∅ O O) O)) nofun) (Gm (Gn (GX (Kb K O) O gb.tuple zG (Gq (Gr ["number", "lines", "numbers"] [none,some 0,some 1] (by show zC ["lines", "numbers", "number"] (zm jt) _ _ _;ac_nf0) O (@pi_keys _ _ _ _ (Gs 1 O O)) (λ_ _ _ _=>(Gu 0 aD O O)) Kl (λ_ _ _ _=>(GD bg hr ⋯ O (Gq (GO (GP K O) (Gs 1 O O) (Gs 0 O O) (λ_ _=>rfl)) (Gq (Gs 2 O O) Gx O) O) ∅ O O)) nofun) Gx O) ∅ ∅ O O))))),?_⟩;refine λnd gn=>?_;have n1:=zf gn (.dK []);refine⟨_,O,lt,us,ls,T,LT,O,aA.same n1,Td (Ta n1) cQ,hG,g2,hL,l1,l20,λnl cG H2 s2 cO bF=>?_⟩;have vn:cG.length<=81:=Ar (Tn.nodup_len ls.length cG bF.nd bF.lt) l20;have iE:H2 nl=some (.lst ((cG.map λ(n:Nat)=>(n:Int)).map V.int)):=by rw[AW];exact cO
 refine⟨nl,_,O,TR iE,by rw[AB];lia,nat_nd bF.nd,λsl ms dN pm pw=>?_⟩;obtain⟨ns,em,d3,ris,rA⟩:=za4 bF pm pw;rw[em];have n3:=zf dN (.lst (ns.map nV));have S3:=n1.trans (s2.trans n3);have oT:=Ac cQ;refine⟨sl,O,⟨_,TR ze⟩,?_⟩;have pZ:sl≠nd:=λe=>by have:=s2 _ _ (@ze H nd (.dK []));rw[<- e,dN]at this;cases this
 refine jq (xs:=ns.map nV) (λi σ H'=>(∃x2,σ=[some (.ref lt),some (.ref nd),x2])/\zH H H'/\H' sl=some (.lst (ns.map nV))/\H' nd=some (.dK (Qy (ns.take i)))) ⟨⟨_,O⟩,S3,ze,n3 _ _ (s2 _ _ ze)⟩ (λi σ H' _ h=>TR h.2.2.1) ?_ ?_
 ·rintro i x σ H4 hx ⟨⟨x2,rfl⟩,s4,mq,eU⟩;rw[AG]at hx;obtain⟨n,hn,rfl⟩:=Aj.mp hx;have hi:=(AD.mp hn).1;refine⟨_,O,nd,_,O,eU,_,O,_,O,nd,_,Sum.inl (n:Int),O,O,eU,by rw[ZT,Ae];exact zt ⋯,?_⟩;refine⟨⟨_,O⟩,s4.put gn,by rw[zJ pZ];exact mq,?_⟩;rw[nums_put d3.nd hn];exact ze
 rintro σ H4 ⟨⟨x2,rfl⟩,s4,mq,eU⟩;rw[AB,Ak]at eU;refine⟨_,O,nd,Qy ns,O,eU,λo D hD=>?_⟩;have s5:zH H (upd H4 nd (.frz o (.dK (Qy ns)))):=s4.put gn;have Fy:(upd H4 nd (.frz o (.dK (Qy ns)))) nd=some (.frz o (.dK (Qy ns))):=ze;generalize upd H4 nd (.frz o (.dK (Qy ns)))=H5 at *;refine zax (kvs:=Qy ns) (ob:=o) (λi ys H'=>zH H5 H'/\Lns H' ((ns.take i).map λn=>reN ns (ls.getD n (.inl ""))) ys/\ys.length=i) ⟨zf hD _,.nil,O⟩ (λi ys H' h _=>h.1 _ _ Fy) ?_ ?_
 ·rintro i ys H6 p hp ⟨s6,hY,yl⟩ cZ;obtain⟨n,hn,rfl⟩:=WB hp;have hi:=(AD.mp hn).1;have dR:=AL hn;have cO:=d3.lt n dR;have mQ:ls[n]?=some (ls.getD n (.inl "")):=by simp[List.getD,cO]
  have iq:us[n]?=some us[n]:=AC ⋯;generalize us[n]=u at iq;have iu:=TV cQ n _ _ mQ iq;have S6:=s5.trans s6;have lp:(∀m∈lnPs (ls.getD n (.inl "")),m∈ns)/\(lnPs (ls.getD n (.inl ""))).length<=2:=by
   have gl:=hG n _ mQ;cases e:ls.getD n (.inl "") with
   |inl x=>exact⟨(λm hm=>by cases hm),BC _⟩
   |inr z=>rw[e]at mQ gl;obtain⟨_,c,hc,_,cp⟩:=gl;exact⟨λm hm=>d3.cl n dR z mQ m hm,by have:=g2 c hc;show z.2.length<=2;lia⟩
  refine yes ⟨_,O,_,O,(aA.same S6).ix iq ?_⟩;refine⟨_,O,u,nd,ls.getD n (.inl ""),ns,o,O,iu.tk (Ta S6),hG.ltr hL mQ,s6 _ _ Fy,d3.nd,lp.1,lp.2,⋯,λw H7 s7 hw=>?_⟩;have cI:=s7 _ _ cZ;refine Zx (by rw[ZT];exact hi) qG cI (zt ⋯) ⟨(s6.trans s7).put hD,?_,by rw[AJ,yl];rfl⟩;rw[take_snoc hn,AO];exact Td (TY cI) (Te (Td (Ta s7) hY) hw)
 ·rintro ys H6 ⟨s6,hY,yl⟩ cZ;rw[ZT,Ak]at hY;refine⟨D,_,O,.inl ⟨TR cZ,λt ht=>?_⟩⟩;have n7:=zf ht (.tup ys);exact q t ys ns _ (s5.trans (s6.trans n7)) ze d3 ris (Td (Ta n7) hY)
abbrev Zo:Stmt:=top 26
def qZ:zD ["T", "columns", "lines", "given", "written", "cells", "ahead", "line"] ["T", "columns", "lines"] (zm Zo):=⟨rfl,rfl,rfl,∅,rfl,∅,∅⟩
def yI (F:Fun K "column_of" "column_of" Zo f fd) (gb:Gb mg) {c:Nat->Addr}(cl:Cl K mg c) (ak:Def P w K mg base 3 "needed_lines" ["lines"] Y9) (d_cells_by_name:Def P w K mg base 1 "cells_by_name" ["H"] zaX) (aX:Def P w K mg base 3 "check_names" ["shapes", "parts"] za0) (d_check_letters:Def P w K mg base 3 "check_letters" ["parts", "known"] za1) (ao:Def P w K mg base 4 "needed_alone" ["lines"] WC) (ae:Def P w K mg base 2 "is_letter" ["thing"] JP) (ai:Def P w K mg base 2 "line_column" ["T", "cells", "ahead", "line", "length"] WA):jo P w K mg base CX0 5 f fd ["T", "columns", "lines"] Yx:=by
 refine F.ok qZ (λvs H Q E h=>?_) (λaC A outer s H vs Q E hr h=>?_)
 ·obtain⟨v,ct,lt,T,LT,cps,aF,us,ls,γ,len,rfl,_⟩:=h;rfl
 obtain⟨v,ct,lt,T,LT,cps,aF,us,ls,γ,len,rfl,ia,gT,nT,bu,aA,cQ,hG,hL,l1,l20,n1,n9,bd,q⟩:=h;have aD:(["number", "lines"]:TJ).Nodup:=∅;refine⟨_,(GE (GF 3 qZ.nd O (Or.inl O) (@zav _ K _ _ _ _ O gb.dict (Gq (Gs 1 O O) Gx O) O O O) O (by ac_nf)) (GE (G7 ["number", "lines"] [none,some 2] 4 (by show zC ["T", "columns", "lines", "given", "written", "cells", "ahead", "line"] (zm Zo) _ _ _;ac_nf0) O (G4 K (GD ak hr ⋯ O (Gq (Gs 2 O O) Gx O) ∅ O O) O) (λ_ _ _ _=>(Gu 0 aD O O)) Kl (λ_ _ _ _=>(GO (GP K O) (Gs 1 O O) (Gs 0 O O) (λ_ _=>rfl))) qZ.nd O O O nofun) (GE (GF 5 qZ.nd O (Or.inl O) (GD d_cells_by_name hr ⋯ O (Gq (Gs 0 O O) Gx O) ∅ O O) O (by ac_nf)) (GE (GQ (GD aX hr ⋯ O (Gq (Gs 5 O O) (Gq (Gs 4 O O) Gx O) O) ∅ O O) O) (GE (GQ (GD d_check_letters hr ⋯ O (Gq (Gs 4 O O) (Gq (Gs 3 O O) Gx O) O) ∅ O O) O) (GE (GF 6 qZ.nd O (Or.inl O) (GG Gx) O (by ac_nf)) (GE (G3 BG O (GY K (GD ao hr ⋯ O (Gq (Gs 2 O O) Gx O) ∅ O O) O) (Gu 7 qZ.nd O O) (Gm (GK (GN (GD ae hr ⋯ O (Gq (Gs 7 O O) Gx O) ∅ O O) nofun) (Gm (GQ (GR K Ap Ba BZ Ke (Gs 6 O O) (Gq (GX (Kb K O) O gb.tuple zG (Gq (GX (@Qi _ K O) O gb.list ZH (Gq (@pe_kget _ _ _ _ _ _ (Gs 3 O O) (Gs 7 O O) (λ_ _=>rfl)) Gx O) ∅ ∅ O O) Gx O) ∅ ∅ O O) Gx O) O O O O O O) O)) (Gm (GQ (GR K Ap Ba BZ Ke (Gs 6 O O) (Gq (GD ai hr ⋯ O (Gq (Gs 0 O O) (Gq (Gs 5 O O) (Gq (Gs 6 O O) (Gq (Gs 7 O O) (Gq (Gp (GA K O) O gb.len jI (Gq (GO (GP K O) (GO (GP K O) (Gs 1 O O) GB (λ_ _=>rfl)) GB (λ_ _=>rfl)) Gx O) ∅ ∅ O O) Gx O) O) O) O) O) ∅ O O) Gx O) O O O O O O) O)))) nofun) (Gm (Gn (GO (GP K O) (Gs 6 O O) (@pe_un _ _ _ _ _ _ (@un_neg _) GB) (λ_ _=>rfl))))))))))),?_⟩;obtain⟨eY,sh,pM,iK,vt,L1,L3⟩:=bu;obtain⟨a,w0,c0,vs,rfl,h1,h2,h3,h4⟩:=id ia;have oT:=Ac cQ;have uy:∀c∈T.cs,c.pl<=2:=λc hc=>(gT.cn c hc).2.1;refine⟨_,O,ct,aF,cps,O,eY,sh,λgv Lc=>?_⟩;have m1:=zf Lc (.dK (putAll [] cps));have nF:∀x∈LT,∃t,jk (putAll [] cps) (Sum.inr x)=some (.ref t)/\H t=some (.tup (((List.range len).map λk=>γ k x).map nV)):=λx hx=>by obtain⟨i,hi⟩:=As.mp hx;obtain⟨t,e1,e2⟩:=iK i x hi;refine⟨t,X3 cps [] ((Sum.inr x:Key),V.ref t) ?_ (AL e1),e2⟩;rw[za7 pM λi x h=>by obtain⟨t,e,_⟩:=iK i x h;exact⟨_,e⟩];unfold List.Nodup at vt ⊢;rw[A7];exact vt.imp λaO e=>aO (Sum.inr.inj e)
 have mZ:(upd H gv (.dK (putAll [] cps))) gv=some (.dK (putAll [] cps)):=ze;generalize putAll [] cps=gkvs at *;generalize upd H gv (.dK gkvs)=H1 at *;refine⟨_,O,lt,us,ls,T,LT,O,.inl (m1 _ _ aA),Td (Ta m1) cQ,hG,uy,hL,l1,l20,λnl cG H2 s2 cO bF=>?_⟩;have vn:cG.length<=81:=Ar (Tn.nodup_len ls.length cG bF.nd bF.lt) l20;refine⟨nl,O,⟨_,TR cO⟩,λD hD=>?_⟩;have S2:=m1.trans s2;have gl:∀n,n<ls.length->ls[n]?=some (ls.getD n (.inl "")):=λn hn=>by simp[List.getD,hn]
 refine Zd (xs:=cG.map nV) (λi ys H'=>zH H2 H'/\Lns H' ((cG.take i).map λn=>ls.getD n (.inl "")) ys/\ys.length=i) ⟨zf hD _,.nil,O⟩ (λi ys H' h _=>TR (h.1 _ _ cO)) ?_ ?_
 ·rintro i ys H3 x hx ⟨s3,hY,yl⟩ aB;have hi:=(AD.mp hx).1;rw[AB]at hi;rw[AG]at hx;obtain⟨n,hn,rfl⟩:=Aj.mp hx;have iE:=bF.lt n (AL hn);have iq:us[n]?=some us[n]:=AC ⋯;generalize us[n]=u at iq;have iu:=TV cQ n _ _ (gl n iE) iq;refine yes ⟨_,O,_,O,.inr (.inl ⟨lt,_,_,_,O,O,TU ((S2.trans s3) _ _ aA),qF iq,?_⟩)⟩;refine Zx (by rw[AB];exact hi) qG aB (zt ⋯) ⟨s3.put hD,?_,by rw[AJ,yl];rfl⟩;rw[take_snoc hn,AO];exact Td (TY aB) (Te hY (iu.tk (Ta (S2.trans s3))))
 rintro uS H3 ⟨s3,hY,yl⟩ aB;rw[AB,Ak]at hY;have S3:=S2.trans s3;refine⟨_,O,.ref a,T,O,ia.same S3,gT,nT,λe' H4 s4 bJ=>?_⟩;have bH:∀s∈cG.map (λn=>ls.getD n (.inl "")),∃i,ls[i]?=some s:=λs hs=>by obtain⟨n,hn,rfl⟩:=AK.mp hs;exact⟨n,gl n (bF.lt n hn)⟩
 refine⟨_,rfl,_,rfl,e',D,uS,cG.map λn=>ls.getD n (.inl ""),T,LT,rfl,bJ,s4 _ _ aB,Td (Ta s4) hY,(λs hs=>by obtain⟨i,hi⟩:=bH s hs;exact⟨i,hG i s hi⟩),hL,λH5 s5=>?_⟩;have S5:=S3.trans (s4.trans s5);refine⟨_,rfl,_,rfl,gv,D,uS,cG.map λn=>ls.getD n (.inl ""),LT,gkvs,rfl,(s2.trans (s3.trans (s4.trans s5))) _ _ mZ,(s4.trans s5) _ _ aB,Td (Ta (s4.trans s5)) hY,(λs hs x e=>by obtain⟨i,hi⟩:=bH s hs;have:=hG i s hi;rw[e]at this;exact this),hL,(λx hx=>by obtain⟨t,e,_⟩:=nF x hx;rw[e];rfl),λH6 s6=>?_⟩;have S6:=S5.trans s6;refine⟨zy (by show 0<=1000;decide),λal fN=>?_⟩;have n7:=zf fN (.lst []);have S7:=S6.trans n7;refine⟨_,O,lt,us,ls,T,LT,O,.inl (S7 _ _ aA),Td (Ta S7) cQ,hG,uy,hL,l1,l20,λt' d6 ns H8 s8 cM d3 ris iY=>⟨t',O,⟨_,TU cM⟩,?_⟩⟩;have S8:=S7.trans s8;have rA:ns.length<=81:=Ar (Tn.nodup_len ls.length ns d3.nd d3.lt) l20;have lW:=Ac iY;rw[AB]at lW;have fM:H8 al=some (.lst []):=s8 _ _ ze;have Nm:H al=none:=S6.free fN;have tP:IsCd H8 e' T:=(bJ.same (s5.trans (s6.trans (n7.trans s8))))
 have mY:H8 gv=some (.dK gkvs):=(s2.trans (s3.trans (s4.trans (s5.trans (s6.trans (n7.trans s8)))))) _ _ mZ;have nE:al≠gv:=λe=>by rw[e,mY]at fM;cases fM
 refine QC (xs:=d6) (λi σ H'=>(∃x7,σ=[some (.ref a),some (.ref ct),some (.ref lt),some (.ref gv),some (.ref D),some (.ref e'),some (.ref al),x7])/\zH H H'/\Off al H8 H'/\Tk H8 H'/\∃bG,H' al=some (.lst bG)/\Q9 H' ((ns.take i).map (Qf T γ ls len)) bG/\bG.length=i) ⟨⟨_,O⟩,S8,Off.refl,(λ_ _ h=>h),[],fM,.nil,O⟩ (λi σ H' _ h=>TU (h.2.2.2.1 _ _ cM)) ?_ ?_
 ·rintro i x σ H9 hx ⟨⟨x7,rfl⟩,s9,o9,k9,bG,e7,kG,HC⟩;have hi:i<d6.length:=(AD.mp hx).1;have hn:ns[i]?=some ns[i]:=AC ⋯;generalize ns[i]=n at hn;have dR:=AL hn;have cO:=d3.lt n dR;have cR:=gl n cO;have il:IsLn H8 (reN ns (ls.getD n (.inl ""))) x:=TV iY i _ _ (by rw[AG,hn];rfl) hx;have tO:IsCd H9 e' T:=by obtain⟨kvs,e1,e2⟩:=tP;refine⟨kvs,o9 _ _ (λe=>by rw[e,fM]at e1;cases e1) e1,λc hc=>?_⟩;obtain⟨u,f1,f2⟩:=e2 c hc;exact⟨u,f1,k9 _ _ f2⟩
  have tm:=o9 gv _ (An nE) mY;have fin:∀(H':Hp) (tn:Addr),zH H9 H'->H' tn=some (.tup ((Qf T γ ls len n).map nV))->((∃x7,[some (.ref a),some (.ref ct),some (.ref lt),some (.ref gv),some (.ref D),some (.ref e'),some (.ref al),some x]=[some (V.ref a),some (.ref ct),some (.ref lt),some (.ref gv),some (.ref D),some (.ref e'),some (.ref al),x7])/\zH H (upd H' al (.lst (bG++[.ref tn])))/\Off al H8 (upd H' al (.lst (bG++[.ref tn])))/\Tk H8 (upd H' al (.lst (bG++[.ref tn])))/\∃i4,(upd H' al (.lst (bG++[.ref tn]))) al=some (.lst i4)/\Q9 (upd H' al (.lst (bG++[.ref tn]))) ((ns.take (i+1)).map (Qf T γ ls len)) i4/\i4.length=i+1):=λH' tn s' KI=>by have iU:=s' _ _ e7;refine⟨⟨_,O⟩,(s9.trans s').put Nm,λb o hb e=>by rw[zJ hb];exact s' _ _ (o9 b o hb e),(λb xs e=>TY iU _ _ (s' _ _ (k9 b xs e))),bG++[.ref tn],ze,?_,by rw[AJ,HC];rfl⟩;rw[take_snoc hn,AO];exact Tg (TY iU) (Q9.snoc (Tg (Ta s') kG) KI)
  refine⟨_,O,x,reN ns (ls.getD n (.inl "")),O,il.tk k9,(λy e=>?_),λHQ eI=>⟨_,O,?_⟩⟩
  ·cases hz:ls.getD n (.inl "") with
   |inl w=>rw[hz]at e cR;cases e;exact hG.ltr hL cR _ rfl
   |inr z=>rw[hz]at e;cases e
  have cY:=eI _ _ e7;cases hz:ls.getD n (.inl "") with
  |inl y=>rw[hz]at cR il;obtain rfl:x=.str y:=il;obtain⟨tc,v1,v2⟩:=nF y (hG n _ cR);have eQ:=(s9.trans eI) _ _ v2;refine iteT ?_;refine⟨_,O,.inl ⟨O,_,TR cY⟩,_,O,_,O,gv,gkvs,Sum.inr y,_,O,eI _ _ tm,O,v1,tc,_,O,.inr (TU eQ),λl hl=>?_⟩;have vD:=zf hl (.lst (((List.range len).map λk=>γ k y).map nV));refine⟨l,_,O,.inl ⟨TR ze,λt2 bS=>?_⟩⟩;have gU:=zf bS (.tup (((List.range len).map λk=>γ k y).map nV));refine⟨al,bG,_,O,O,(vD.trans gU) _ _ cY,zt ⋯,?_⟩;refine fin _ t2 (eI.trans (vD.trans gU)) ?_;rw[ze,ZU γ len cR]
  |inr z=>
   rw[hz]at cR il;obtain⟨t,rfl,ht⟩:=il;have gz:=hG n _ cR;obtain⟨zb,c,hc,cn,cp⟩:=gz;refine iteF ?_;obtain⟨x0,rR⟩:∃x0,LT[0]?=some x0:=⟨LT[0],AC ⋯⟩
   obtain⟨t0,e0,M5⟩:=iK 0 x0 rR;have Lp:=Ac sh;have ni:aF[0]?=some aF[0]:=AC ⋯;generalize aF[0]=cv at ni;obtain⟨b0,rfl,LA⟩:=TV sh 0 _ _ ni e0;have SA:=s9.trans eI;have h2z:z.2.length<=2:=by have:=uy c hc;lia
   have ix:∀m∈z.2,ns.idxOf m<i/\ns[ns.idxOf m]?=some m:=λm hm=>za5 ris hn (d3.cl n dR z cR m hm) (zb m hm);have Im:(ns.take i).length=i:=by rw[Ae];lia
   refine⟨_,O,.inl ⟨O,_,TR cY⟩,_,O,_,O,_,O,_,O,_,O,.inr (.inl ⟨ct,_,0,_,O,O,TU (SA _ _ eY),qF (j:=0) ni,.inr (.inl ⟨b0,_,1,_,O,O,TU (SA _ _ LA),O,_,_,O,.inr ⟨_,TU (SA _ _ M5),O⟩,?_⟩)⟩)⟩;refine⟨.ref a,e',al,t,T,(z.1,z.2.map λm=>ns.idxOf m),(ns.take i).map (Qf T γ ls len),bG,len,by (show [_,_,_,_,V.int _]=_;rw[AB,AB,AU]),ia.same SA,gT,nT,tO.same eI,cY,Tg (Ta eI) kG,(λcol bu=>?_),eI _ _ (k9 _ _ ht),(λq' sf=>?_),⟨c,hc,cn,by rw[cp,AB]⟩,n9,λt2 Nt rf bS=>?_⟩
   ·obtain⟨m,hm,rfl⟩:=AK.mp bu;refine⟨xc T γ ls len m,λy hy=>?_⟩;obtain⟨k,_,rfl⟩:=AK.mp hy;exact Q8 gT nT hG (bd k) (m+1) m (CH _) (d3.lt m (Br hm))
   ·obtain⟨m,hm,rfl⟩:=AK.mp sf;rw[AB,Im];exact (ix m hm).1
   ·have nv:=rf _ _ cY;refine⟨al,bG,_,O,O,nv,zt ⋯,?_⟩;refine fin _ t2 (eI.trans rf) ?_;rw[bS,Ja γ hG len cR]
    congr 3
    refine Ab λk hk=>?_;show cellOf T z.1 ((z.2.map λm=>ns.idxOf m).map λn=>Tn.at' (((ns.take i).map (Qf T γ ls len)).getD n []) k)=_
    congr 1
    rw[AW];refine Ab λm hm=>?_;obtain⟨i1,i2⟩:=ix m hm;have e3:((ns.take i).map (Qf T γ ls len)).getD (ns.idxOf m) []=Qf T γ ls len m:=by rw[AM,AG,B2 i1,i2];rfl
    show Tn.at' (((ns.take i).map (Qf T γ ls len)).getD (ns.idxOf m) []) k=_;rw[e3,WD T γ ls m (AS.mp hk)]
 ·rintro σ H9 ⟨⟨x7,rfl⟩,s9,o9,k9,bG,e7,kG,HC⟩;rw[<- lW,Ak]at kG;obtain⟨ms,MZ⟩:=za6 ris d3.lt d3.last;rw[MZ,AO]at kG;obtain⟨us9,t9,e9,me⟩:=za8 kG;rw[e9]at e7;exact⟨_,O,_,O,.inl ⟨al,_,_,_,O,O,TR e7,atI_last _ _,q t9 H9 s9 me⟩⟩
abbrev zbs:Stmt:=top 20
def sc_keep:zD ["found", "column", "line"] ["found", "column", "line"] (zm zbs):=⟨rfl,rfl,rfl,∅,rfl,∅,∅⟩
def ok_keep (F:Fun K "keep" "keep" zbs f fd) (gb:Gb mg) {c:Nat->Addr}(cl:Cl K mg c):jo P w K mg base (CX1 P w) 1 f fd ["found", "column", "line"] (xg (c 1)):=by
 refine F.ok1 sc_keep (λvs H Q E h=>?_) (λaC A outer s H vs Q E hr h=>?_)
 ·obtain⟨fd,c',col,kvs,lv,rfl,_⟩:=h;rfl
 obtain⟨fd,c',col,kvs,lv,rfl,cT,hc,h81,q1,q0,qe⟩:=h;refine⟨_,(Gm (GK (GJ (@Js _ _ hr) (Gs 1 O O) (Gs 0 O O) (by with_unfolding_all rfl)) (GE (GK (GJ Gz (Gp (@wM _) O gb.len jI (Gq (Gs 0 O O) Gx O) ∅ ∅ O O) (@YW _ _ _ _ O gb.MOST_COLUMNS ∅) (GC ∅ ∅)) (Gm (@ps_raise _ _ _ _ _ _ _ _ _ _ _ _ _ _ _ _ _ _ O cl.g_TooMany cl.x_TooMany Fo O Fo O (@thrown1 _ _ _ _ _ _ _ _ _ _ _ _ _ _ _) (Gq Gw Gx O) ∅ O O)) GW) (Gm (@ps_dput _ _ _ _ _ _ _ _ _ (@hu1 _ _ hr) (Gs 0 O O) (Gs 1 O O) (Gs 2 O O) O))) GW)),?_⟩;refine⟨_,O,_,O,fd,c',kvs,Jz col,O,O,cT,by rw[Y3];exact hc,?_⟩;cases hv:jk kvs (Jz col) with
 |some x=>exact⟨_,O,iteF (q1 (by rw[hv];rfl))⟩
 |none=>
  refine⟨_,O,iteT ?_⟩;by_cases h8:kvs.length=81
  ·refine⟨_,O,fd,kvs,O,cT,O,_,O,iteP (Am (by rw[h8];rfl)) ?_⟩;exact⟨zy (by show 1<=1000;decide),qe hv h8⟩
  refine⟨_,O,fd,kvs,O,cT,O,_,O,zbb (Ag λz=>?_) ?_⟩
  ·have:=V.int.inj z;lia
  ·refine⟨_,O,_,O,_,O,fd,_,O,.t (k:=Jz col) cT (by rw[Y3];exact hc) (zt ⋯),?_⟩;rw[Wh _ hv];exact q0 hv ⋯
abbrev qk:Stmt:=top 22
def Zz:zD ["T"] ["T"] (zm qk):=⟨rfl,rfl,rfl,∅,rfl,∅,∅⟩
def ZA (F:Fun K "lines_without_parts" "lines_without_parts" qk f fd) (gb:Gb mg) {c:Nat->Addr}(cl:Cl K mg c):jo P w K mg base CX0 1 f fd ["T"] WE:=by
 refine F.ok Zz (λvs H Q E h=>?_) (λaC A outer s H vs Q E hr h=>?_)
 ·obtain⟨v,T,rfl,_⟩:=h;rfl
 obtain⟨v,T,rfl,ia,gT,q⟩:=h;have aD:(["name", "places", "cells"]:TJ).Nodup:=∅;refine⟨_,(Gm (Gn (Gr ["name", "places", "cells"] [none,none,none] (by show zC ["T"] (zm qk) _ _ _;ac_nf0) O (GY K (GO (GP K O) (Gs 0 O O) GB (λ_ _=>rfl)) O) (λ_ _ _ _=>(GZ K 3 O (G0 (Gu 0 aD O O) (G0 (Gu 1 aD O O) (G0 (Gu 2 aD O O) G1 O) O) O) O O O)) (λ_ _ _ _=>(Kf (GJ Gz (Gs 1 O O) GB (GC ∅ ∅)))) (λ_ _ _ _=>(G2 (Gq (Gs 0 O O) Gx O))) nofun))),?_⟩;obtain⟨a,w0,c0,vs,rfl,h1,h2,h3,h4⟩:=id ia;have kI:=gT.cl;have gx:∀i,∃t u:Addr,i<T.cs.length->vs[i]?=some (.ref t)/\H t=some (.tup [.str (T.cs.getD i d0).nm,nV (T.cs.getD i d0).pl,.ref u])/\H u=some (.tup ((T.cs.getD i d0).cs.map nV)):=λi=>by
  by_cases hi:i<T.cs.length
  ·have hc:T.cs[i]?=some (T.cs.getD i d0):=by simp[List.getD,hi]
   obtain⟨t,u,h⟩:=h4.get hc;exact⟨t,u,λ_=>h⟩
  ·exact⟨0,0,λh=>absurd h hi⟩
 obtain⟨ad,gx⟩:=BQ gx;obtain⟨au,gx⟩:=BQ gx;have ge:∀i,i<T.cs.length->T.cs[i]?=some (T.cs.getD i d0):=λi hi=>by simp[List.getD,hi]
 refine⟨_,O,.inr (.inl ⟨a,_,2,_,O,O,TU h1,O,c0,O,⟨_,TU h3⟩,λD hD=>?_⟩)⟩;refine Jm (n:=T.cs.length) (ad:=ad) (v1:=λi=>.str (T.cs.getD i d0).nm) (v2:=λi=>nV (T.cs.getD i d0).pl) (v3:=λi=>.ref (au i)) (more:=[]) (λi ys H'=>zH H H'/\ys.length<=i/\Lzs H' (l0 (T.cs.take i)) ys) ⟨zf hD _,AI _,.nil⟩ h4.len.symm (λi hi=>(gx i hi).1) (λi ys H' h _=>TU (h.1 _ _ h3)) (λi ys H' hi h=>TU (h.1 _ _ (gx i hi).2.1)) ?_ ?_
 ·rintro i ys H1 hi ⟨s1,yl,hP⟩ aM;refine⟨_,O,O,_,O,?_⟩;have et:=take_snoc (ge i hi);by_cases e:(T.cs.getD i d0).pl=0
  ·refine iteP (Am (by rw[e];rfl)) ⟨_,O,zy (by show 1<=1000;decide),λt1 dh=>?_⟩;have n1:=zf dh (.tup [.str (T.cs.getD i d0).nm]);have aK:=n1 _ _ aM;refine Zx hi ⟨_,_,_,O⟩ aK (zt ⋯) ⟨(s1.trans n1).put hD,by rw[AJ];show ys.length+1<=i+1;lia,?_⟩;have e2:l0 (T.cs.take (i+1))=l0 (T.cs.take i)++[((T.cs.getD i d0).nm,[])]:=by rw[et,l0_yes _ e]
   rw[e2];unfold Lzs;rw[AO];exact Te (Td (TY aK) (Td (Ta n1) hP)) ⟨t1,O,TY aK _ _ ze⟩
  ·refine zbb (Ag λz=>e ?_) (cno hi ⟨_,_,_,O⟩ aM ⟨s1,⋯,?_⟩)
   ·have:=V.int.inj z;lia
   ·have e2:l0 (T.cs.take (i+1))=l0 (T.cs.take i):=by rw[et,l0_no _ e]
    rw[e2];exact hP
 ·rintro ys H1 ⟨s1,yl,hP⟩ aM;rw[Ak]at hP;exact q D ys H1 s1 aM hP
abbrev jw:Stmt:=top 23
def jh:zD ["T", "number", "lines", "name", "places", "cells"] ["T", "number"] (zm jw):=⟨rfl,rfl,rfl,∅,rfl,∅,∅⟩
def WQ (F:Fun K "lines_with" "lines_with" jw f fd) (gb:Gb mg) {c:Nat->Addr}(cl:Cl K mg c):jo P w K mg base CX0 1 f fd ["T", "number"] WF:=by
 refine F.ok jh (λvs H Q E h=>?_) (λaC A outer s H vs Q E hr h=>?_)
 ·obtain⟨v,T,k,rfl,_⟩:=h;rfl
 obtain⟨v,T,k,rfl,ia,gT,c4,k20,q⟩:=h;have aD:(["other", "name", "number"]:TJ).Nodup:=∅;have nd1:(["other", "name", "number"]:TJ).Nodup:=∅;refine⟨_,(GE (GF 2 jh.nd O (Or.inl O) (GG Gx) O (by ac_nf)) (GE (G3 BG O (GY K (GO (GP K O) (Gs 0 O O) GB (λ_ _=>rfl)) O) (GZ K 3 O (G0 (@Qz _ _ 3 _ jh.nd O (Or.inr O) (by ac_nf)) (G0 (Gu 4 jh.nd O O) (G0 (Gu 5 jh.nd O O) G1 O) O) O) O O O) (GE (GK (GJ Gz (Gs 4 O O) GB (GC ∅ ∅)) (Gm (GQ (GR K Ap Ba BZ Ke (Gs 2 O O) (Gq (G2 (Gq (Gs 3 O O) (Gq (Gs 1 O O) Gx O) O)) Gx O) O O O O O O) O)) GW) (Gm (GK (GJ Gz (Gs 4 O O) GB (GC ∅ ∅)) (GE (GQ (GR K Ap CL CK (@Zc _) (Gs 2 O O) (Gq (Gr ["other", "name", "number"] [none,some 3,some 1] (by show zC Gc (zm jw) _ _ _;ac_nf0) O (G8 O gb.range (Gq (GI G9 (Gs 1 O O) GB) Gx O) O) (λ_ _ _ _=>(Gu 0 aD O O)) Kl (λ_ _ _ _=>(G2 (Gq (Gs 1 O O) (Gq (Gs 2 O O) (Gq (Gs 0 O O) Gx O) O) O))) nofun) Gx O) O O O O O O) O) (Gm (GQ (GR K Ap CL CK (@Zc _) (Gs 2 O O) (Gq (Gr ["other", "name", "number"] [none,some 3,some 1] (by show zC Gc (zm jw) _ _ _;ac_nf0) O (G8 O gb.range (Gq (Gs 1 O O) Gx O) O) (λ_ _ _ _=>(Gu 0 nd1 O O)) Kl (λ_ _ _ _=>(G2 (Gq (Gs 1 O O) (Gq (Gs 0 O O) (Gq (Gs 2 O O) Gx O) O) O))) nofun) Gx O) O O O O O O) O))) GW))) nofun) (Gm (Gn (Gs 2 O O))))),?_⟩;obtain⟨a,w0,c0,vs,rfl,h1,h2,h3,h4⟩:=id ia;have kI:T.cs.length<=4:=c4;refine⟨zy (by show 0<=1000;decide),λsl dN=>?_⟩;have n0:=zf dN (.lst []);refine⟨_,O,.inr (.inl ⟨a,_,2,_,O,O,TU (n0 _ _ h1),O,c0,O,⟨_,TU (n0 _ _ h3)⟩,?_⟩)⟩;refine QC (xs:=vs) (λi σ H'=>(∃x2 x3 x4,σ=[some (.ref a),some (nV k),some (.ref sl),x2,x3,x4])/\zH H H'/\∃xs,H' sl=some (.lst xs)/\Lzs H' (lw k (T.cs.take i)) xs) ⟨⟨_,_,_,O⟩,n0,[],ze,.nil⟩ (λi σ H' _ h=>TU (h.2.1 _ _ h3)) ?_ ?_
 ·rintro i x σ H1 hx ⟨⟨x2,x3,x4,rfl⟩,s1,xs,hs,hS⟩;have hi:i<T.cs.length:=by rw[h4.len];exact (AD.mp hx).1
  have cx:T.cs[i]?=some T.cs[i]:=AC hi;generalize T.cs[i]=cc at cx;obtain⟨nl,p2,gG⟩:=gT.cn cc (AL cx);obtain⟨t,u,e1,k1,k2⟩:=h4.get cx;rw[hx]at e1;cases e1;have xl:xs.length<=166*i:=by have l1:=Ac hS;have l2:=lw_len k20 (T.cs.take i);rw[Ae]at l2;rw[AB]at l1;lia
  have ew:lw k (T.cs.take (i+1))=lw k (T.cs.take i)++lwC k cc:=by rw[take_snoc cx];unfold lw;rw[DW,Dk]
  refine⟨t,_,O,TU (s1 _ _ k1),O,_,_,O,_,_,O,_,_,O,O,?_⟩;refine⟨_,O,O,_,O,?_⟩;by_cases p1:cc.pl=1
  ·refine iteP (Am (by rw[p1];rfl)) ?_;refine⟨_,O,.inl ⟨O,_,TR hs⟩,_,O,_,O,zy (by show 2<=1000;decide),λt1 dh=>?_⟩;have n1:=zf dh (.tup [.str cc.nm,nV k]);have cD:=n1 _ _ hs;refine⟨sl,_,_,O,O,cD,zt ⋯,?_⟩;refine⟨_,O,O,_,O,?_⟩;refine zbb (Ag λz=>?_) ?_
   ·have:=V.int.inj z;lia
   refine⟨⟨_,_,_,O⟩,(s1.trans n1).put dN,_,ze,?_⟩;rw[ew];have e:lwC k cc=[(cc.nm,[k])]:=by unfold lwC;rw[if_pos p1,if_neg ⋯,Az]
   rw[e];exact Lzs.app (Td ((Ta n1).trans (TY cD)) hS) (.cons ⟨t1,O,TY cD _ _ ze⟩ .nil)
  refine zbb (Ag λz=>p1 ?_) ?_
  ·have:=V.int.inj z;lia
  refine⟨_,O,O,_,O,?_⟩;by_cases p2':cc.pl=2
  ·refine iteP (Am (by rw[p2'];rfl)) ?_;have half:∀(f:Nat->List Nat) (tt:TA) (n:Nat) (H2:Hp) (D:Addr) (Q:VK),(∀o H' Q',Q' (.str cc.nm::(f o).map nV) H'->tt [some (nV o),some (.str cc.nm),some (nV k)] H' Q')->(∀o,(f o).length=2)->n<=82->H2 D=none->(∀ys H3,zH H2 H3->H3 D=some (.lst ys)->ys.length=n->Lzs H3 ((List.range n).map λo=>(cc.nm,f o)) ys->Q (.ref D) H3) ->
     jd (Itr 0 n) (qN 0) tYes (tTup tt) [none,some (.str cc.nm),some (nV k)] H2 Q D:=λf tt n H2 D Q ht hf hn hD q2=>by
    refine zT (λj ys H'=>zH H2 H'/\ys.length=j/\Lzs H' ((List.range j).map λo=>(cc.nm,f o)) ys) ⟨zf hD _,O,.nil⟩ ?_ ?_
    ·rintro j ys H3 hj ⟨s3,yl,hY⟩ aB;have ej:V.int (0+(j:Int))=nV j:=by show V.int _=V.int _;rw[Bf]
     rw[ej];refine yes (ht j H3 _ ⟨zy (by rw[Ax,AB,hf];decide),λt1 dh=>?_⟩);have n1:=zf dh (.tup (.str cc.nm::(f j).map nV));have cF:=n1 _ _ aB;refine Zx hj qG cF (zt ⋯) ⟨(s3.trans n1).put hD,by rw[AJ,yl];rfl,?_⟩;rw[BH,AO];exact Lzs.app (Td ((Ta n1).trans (TY cF)) hY) (.cons ⟨t1,O,TY cF _ _ ze⟩ .nil)
    ·rintro ys H3 ⟨s3,yl,hY⟩ aB;exact q2 ys H3 s3 aB yl hY
   refine⟨_,O,.inl ⟨O,_,TR hs⟩,?_⟩;refine⟨_,O,_,_,O,O,(k:Int)+1,O,⋯,⋯,λD hD=>?_⟩;rw[show ((k:Int)+1).toNat=k+1 by lia];refine half (λo=>[k,o]) _ (k+1) H1 D _ (λo H' Q' h=>⟨_,O,_,O,_,O,h⟩) (λo=>rfl) ⋯ hD λys H2 s2 aK yl hY=>?_;have bZ:=s2 _ _ hs;refine⟨sl,D,_,_,O,O,bZ,aK,zy ⋯,?_⟩;have ou:zH H (upd H2 sl (.lst (xs++ys))):=(s1.trans s2).put dN;have eR:(upd H2 sl (.lst (xs++ys))) sl=some (.lst (xs++ys)):=ze;have iW:Lzs (upd H2 sl (.lst (xs++ys))) (lw k (T.cs.take i)++(List.range (k+1)).map λo=>(cc.nm,[k,o])) (xs++ys):=Td (TY bZ) (Lzs.app (Td (Ta s2) hS) hY);generalize upd H2 sl (.lst (xs++ys))=H3 at *;refine⟨_,O,.inl ⟨O,_,TR eR⟩,?_⟩;refine⟨_,O,(k:Int),O,⋯,⋯,λD3 aB=>?_⟩;rw[Av];refine half (λo=>[o,k]) _ k H3 D3 _ (λo H' Q' h=>⟨_,O,_,O,_,O,h⟩) (λo=>rfl) ⋯ aB λzs H4 s4 cF zl hZ=>?_;have mw:=s4 _ _ eR;refine⟨sl,D3,_,_,O,O,mw,cF,zy (by rw[AJ];lia),?_⟩;refine⟨⟨_,_,_,O⟩,(ou.trans s4).put dN,_,ze,?_⟩;have e:lwC k cc=((List.range (k+1)).map λo=>(cc.nm,[k,o]))++(List.range k).map λo=>(cc.nm,[o,k]):=by unfold lwC;rw[if_neg p1,if_pos p2',CT]
   rw[ew,e,<- A8];exact Td (TY mw) (Lzs.app (Td (Ta s4) iW) hZ)
  ·refine zbb (Ag λz=>p2' ?_) ?_
   ·have:=V.int.inj z;lia
   refine⟨⟨_,_,_,O⟩,s1,xs,hs,?_⟩;have e:lwC k cc=[]:=by unfold lwC;rw[if_neg p1,if_neg p2'];rfl
   rw[ew,e,Az];exact hS
 ·rintro σ H1 ⟨⟨x2,x3,x4,rfl⟩,s1,xs,hs,hS⟩;rw[<- h4.len,Ak]at hS;exact⟨_,O,q sl xs H1 s1 hs hS⟩
abbrev Zp:Stmt:=top 19
def zU:zD ["T", "columns", "length", "cells", "found", "letter", "column", "line", "number", "ahead"] ["T", "columns", "length"] (zm Zp):=⟨rfl,rfl,rfl,∅,rfl,∅,∅⟩
def wj (F:Fun K "all_sayable" "all_sayable" Zp f fd) (gb:Gb mg) {c:Nat->Addr}(cl:Cl K mg c) (d_cells_by_name:Def P w K mg base 1 "cells_by_name" ["H"] zaX) (cf:Def1 P w K mg base 1 "keep" ["found", "column", "line"] (xg (c 1))) (ai:Def P w K mg base 2 "line_column" ["T", "cells", "ahead", "line", "length"] WA) (d_lines_without_parts:Def P w K mg base 1 "lines_without_parts" ["T"] WE) (bj:Def P w K mg base 1 "lines_with" ["T", "number"] WF):jo P w K mg base (CX1 P w) 4 f fd ["T", "columns", "length"] (WH (c 1)):=by
 refine F.ok1 zU (λvs H Q E h=>?_) (λaC A outer s H vs Q E hr h=>?_)
 ·obtain⟨v,ct,T,cps,aF,len,rfl,_⟩:=h;rfl
 obtain⟨v,ct,T,cps,aF,len,rfl,ia,gT,nT,c4,eY,dO,iL,n9,q,qe⟩:=h;refine⟨_,(GE (GF 3 zU.nd O (Or.inl O) (GD d_cells_by_name hr ⋯ O (Gq (Gs 0 O O) Gx O) ∅ O O) O (by ac_nf)) (GE (GF 4 zU.nd O (Or.inl O) pe_dnewT O (by ac_nf)) (GE (G3 Er O (GY K (Gs 1 O O) O) (GZ K 2 O (G0 (Gu 5 zU.nd O O) (G0 (Gu 6 zU.nd O O) G1 O) O) O O O) (Gm (GQ (Kg cf hr ⋯ O (Kh (λ_ _ _ z=>z)) (Gq (Gs 4 O O) (Gq (GX (Kb K O) O gb.tuple zG (Gq (GX (@Qi _ K O) O gb.list ZH (Gq (Gs 6 O O) Gx O) ∅ ∅ O O) Gx O) ∅ ∅ O O) (Gq (Gs 5 O O) Gx O) O) O) ∅ O O) O)) nofun) (GE (G3 Er O (G4 K (GD d_lines_without_parts hr ⋯ O (Gq (Gs 0 O O) Gx O) ∅ O O) O) (Gu 7 zU.nd O O) (Gm (GQ (Kg cf hr ⋯ O (Kh (λ_ _ _ z=>z)) (Gq (Gs 4 O O) (Gq (GD ai hr ⋯ O (Gq (Gs 0 O O) (Gq (Gs 3 O O) (Gq (GG Gx) (Gq (Gs 7 O O) (Gq (Gs 2 O O) Gx O) O) O) O) O) ∅ O O) (Gq (Gs 7 O O) Gx O) O) O) ∅ O O) O)) nofun) (GE (GF 8 zU.nd O (Or.inl O) GB O (by ac_nf)) (GE (@YL _ _ _ _ _ _ Er (GJ (@op_lt _) (Gs 8 O O) (Gp (@wM _) O gb.len jI (Gq (Gs 4 O O) Gx O) ∅ ∅ O O) (GC ∅ ∅)) (GE (GF 9 zU.nd O (Or.inl O) (GX (@JA _ O) O gb.list ZH (Gq (Gs 4 O O) Gx O) ∅ ∅ O O) O (by ac_nf)) (GE (G3 Er O (G4 K (GD bj hr ⋯ O (Gq (Gs 0 O O) (Gq (Gs 8 O O) Gx O) O) ∅ O O) O) (Gu 7 zU.nd O O) (Gm (GQ (Kg cf hr ⋯ O (Kh (λ_ _ _ z=>z)) (Gq (Gs 4 O O) (Gq (GD ai hr ⋯ O (Gq (Gs 0 O O) (Gq (Gs 3 O O) (Gq (Gs 9 O O) (Gq (Gs 7 O O) (Gq (Gs 2 O O) Gx O) O) O) O) O) ∅ O O) (Gq (Gs 7 O O) Gx O) O) O) ∅ O O) O)) nofun) (Gm (GF 8 zU.nd O (Or.inl O) (GI G9 (Gs 8 O O) GB) O (by ac_nf)))))) (Gm (Gn (Gs 4 O O))))))))),?_⟩;have p2:∀c∈T.cs,c.pl<=2:=λc hc=>(gT.cn c hc).2.1;have few:∀{cols ls},FdM T (cps.map Prod.fst) len (cps.map Prod.snd) cols ls->cols.length<=81:=λm=>m.le;refine⟨_,O,v,T,O,ia,gT,nT,λe H1 s1 bJ=>?_⟩;refine λfd cT=>?_;have MN:=s1.free cT;have n1:=zf cT (.dT []);have pM:=Ac dO;refine⟨_,O,ct,O,⟨_,TU (n1 _ _ (s1 _ _ eY))⟩,?_⟩;refine QC (xs:=aF) (λi σ H'=>(∃x5 x6 x7 x8 x9,σ=[some v,some (.ref ct),some (nV len),some (.ref e),some (.ref fd),x5,x6,x7,x8,x9])/\zH H1 H'/\∃cols ls,FdH H' fd cols ls/\FdM T (cps.map Prod.fst) len (cps.map Prod.snd) cols ls/\∀p∈cps.take i,p.2∈cols) ⟨⟨_,_,_,_,_,O⟩,n1,[],[],⟨[],ze,O,.nil⟩,⟨.nil,(λc h=>by cases h),(λc h=>by cases h),(λi l h=>by simp at h),O,BC _,λi l h=>by simp at h⟩,λp h=>by simp at h⟩ (λi σ H' _ h=>TU ((s1.trans h.2.1) _ _ eY)) ?_ ?_
 ·rintro i x σ H2 hx ⟨⟨x5,x6,x7,x8,x9,rfl⟩,s2,cols,ls,hF,hM,hB⟩;have hi:i<cps.length:=by rw[pM];exact (AD.mp hx).1
  have hp:cps[i]?=some cps[i]:=AC hi;generalize cps[i]=p at hp;have pm:=AL hp;obtain⟨lp,gp⟩:=iL p pm;obtain⟨t,u,rfl,ht,hu⟩:=TV dO i _ _ hp hx;have S2:=s1.trans s2;refine⟨t,_,O,TU (S2 _ _ ht),O,_,_,O,_,_,O,O,?_⟩;refine⟨_,O,_,O,u,_,O,.inr (TU (S2 _ _ hu)),λl1 fj=>?_⟩;have n3:=zf fj (.lst (p.2.map nV));refine⟨l1,_,O,.inl ⟨TR ze,λc hc=>⟨_,O,?_⟩⟩⟩;have n4:=zf hc (.tup (p.2.map nV));dsimp only[tNil];refine Yy (l:=.inl p.1) (hF.same (n3.trans n4)) hM ze gp (.base (AK.mpr ⟨p,pm,O⟩)) (AK.mpr ⟨p,pm,O⟩) rfl (zip_mem pm) (λcs a1 a2 a3=>qe cs _ (S2.trans (n3.trans n4)) a1 a2 a3) λH5 cg gV o5 k5 L5 LV mH bH=>?_;obtain⟨more,rfl⟩:=mH;refine⟨⟨_,_,_,_,_,O⟩,WG (s2.trans (n3.trans n4)) cT o5,_,_,L5,LV,λp' cj=>?_⟩;rw[take_snoc hp]at cj
  rcases AX.mp cj with h|h
  ·exact Aq _ (hB p' h)
  ·rw[AN.mp h];exact bH
 rintro σ H2 ⟨⟨x5,x6,x7,x8,x9,rfl⟩,s2,cols,ls,hF,hM,Hi⟩;rw[<- pM,Ak]at Hi;have hB:∀b∈cps.map Prod.snd,b∈cols:=λb hb=>by obtain⟨p,hp,rfl⟩:=AK.mp hb;exact Hi p hp
 refine⟨_,O,v,T,O,ia.same (s1.trans s2),gT,λl us H3 s3 hl ig=>⟨l,O,⟨_,TR hl⟩,?_⟩⟩;have rD:l≠fd:=λz=>by obtain⟨kvs,h,_⟩:=hF.same s3;rw[<- z,hl]at h;cases h
 have ul:=Ac ig;rw[AB]at ul;refine jq (xs:=us) (λj σ H'=>(∃x5 x6 x7 x8 x9,σ=[some v,some (.ref ct),some (nV len),some (.ref e),some (.ref fd),x5,x6,x7,x8,x9])/\zH H1 H'/\H' l=some (.lst us)/\Lzs H' (l0 T.cs) us/\∃cols ls,FdH H' fd cols ls/\FdM T (cps.map Prod.fst) len (cps.map Prod.snd) cols ls/\(∀b∈cps.map Prod.snd,b∈cols)/\∀z∈(l0 T.cs).take j,jC T len cols z∈cols) ⟨⟨_,_,_,_,_,O⟩,s2.trans s3,hl,ig,cols,ls,hF.same s3,hM,hB,λz h=>by simp at h⟩ (λj σ H' _ h=>TR h.2.2.1) ?_ ?_
 ·rintro j x σ H4 hx ⟨⟨x5,x6,x7,x8,x9,rfl⟩,s4,fI,ie,cols,ls,hF,hM,hB,hZ⟩;have hj:j<(l0 T.cs).length:=by rw[ul];exact (AD.mp hx).1
  have hz:(l0 T.cs)[j]?=some (l0 T.cs)[j]:=AC hj;generalize (l0 T.cs)[j]=z at hz;obtain⟨z0,zc⟩:=zbf (AL hz);obtain⟨t,rfl,ht⟩:=TV ie j (Sum.inr z) _ (by rw[AG,hz];rfl) hx;have zn:∀n∈z.2,n<([]:List TC).length:=λn hn=>by rw[z0]at hn;cases hn
  have gJ:∀n∈z.2,n<cols.length:=λn hn=>by rw[z0]at hn;cases hn
  refine⟨_,O,_,O,_,O,zy (by show 0<=1000;decide),λnl cO=>?_⟩;have n5:=zf cO (.lst []);have S5:=s1.trans (s4.trans n5);refine⟨_,O,_,O,v,e,nl,t,T,z,[],[],len,O,ia.same S5,gT,nT,bJ.same (s4.trans n5),ze,.nil,(λ_ h=>by cases h),n5 _ _ ht,zn,zc,n9,λt' H6 s6 cM=>⟨_,O,?_⟩⟩;have el:jC T len [] z=jC T len cols z:=by have:=Zm T len cols zn;rw[CT]at this;exact this.symm
  have cM:H6 t'=some (.tup ((jC T len cols z).map nV)):=by rw[<- el];exact cM
  dsimp only[tNil];refine Yy (l:=.inr z) (hF.same (n5.trans s6)) hM cM (yB gT nT hM.gc gJ zc) (zbg hM gJ zc) ⟨gJ,zc⟩ ⟨t,O,(n5.trans s6) _ _ ht⟩ rfl (λcs a1 a2 a3=>qe cs _ (s1.trans (s4.trans (n5.trans s6))) a1 a2 a3) λH7 cg gV o7 k7 ny iX mH bH=>?_;obtain⟨more,rfl⟩:=mH;refine⟨⟨_,_,_,_,_,O⟩,WG (s4.trans (n5.trans s6)) cT o7,o7 _ _ rD ((n5.trans s6) _ _ fI),Td k7 (Td (Ta (n5.trans s6)) ie),_,_,ny,iX,(λb hb=>Aq _ (hB b hb)),λz' bX=>?_⟩;have HZ:z'.2=[]:=(zbf (Br bX)).1;rw[Zm T len more (λn hn=>by rw[HZ]at hn;cases hn)];rw[take_snoc hz]at bX
  rcases AX.mp bX with h|h
  ·exact Aq _ (hZ z' h)
  ·rw[AN.mp h];exact bH
 rintro σ H4 ⟨⟨x5,x6,x7,x8,x9,rfl⟩,s4,fI,ie,cols,ls,hF,hM,hB,hZ⟩;rw[<- ul,Ak]at hZ;refine⟨λm af H'=>(∃k x5 x6 x7 x9,af=[some v,some (.ref ct),some (nV len),some (.ref e),some (.ref fd),x5,x6,x7,some (nV k),x9]/\zH H1 H'/\∃cols ls,FdH H' fd cols ls/\FdM T (cps.map Prod.fst) len (cps.map Prod.snd) cols ls/\(∀b∈cps.map Prod.snd,b∈cols)/\(∀z∈l0 T.cs,jC T len cols z∈cols)/\(∀k',k'<k->∀z∈lw k' T.cs,jC T len cols z∈cols)/\k<=cols.length/\m+k=82),⟨82,0,_,_,_,_,O,s4,cols,ls,hF,hM,hB,hZ,(λk' h=>absurd h ⋯),BC _,O⟩,?_⟩;rintro m σ H5 ⟨k,x5,x6,x7,x9,rfl,s5,cols,ls,hF,hM,hB,hZ,hW,hk,hm⟩;obtain⟨kvs,cE,ek,cR⟩:=id hF;have kl:kvs.length=cols.length:=by have:=BF List.length ek;rw[AB,AB]at this;exact this
 have c16:=few hM;refine⟨_,O,_,O,fd,kvs,O,cE,_,_,O,O,_,O,?_⟩;by_cases aA:k<cols.length
 ·refine iteDT (Am ⋯) ?_;refine⟨λaf H'=>∃m',m'<m/\(∃k x5 x6 x7 x9,af=[some v,some (.ref ct),some (nV len),some (.ref e),some (.ref fd),x5,x6,x7,some (nV k),x9]/\zH H1 H'/\∃cols ls,FdH H' fd cols ls/\FdM T (cps.map Prod.fst) len (cps.map Prod.snd) cols ls/\(∀b∈cps.map Prod.snd,b∈cols)/\(∀z∈l0 T.cs,jC T len cols z∈cols)/\(∀k',k'<k->∀z∈lw k' T.cs,jC T len cols z∈cols)/\k<=cols.length/\m'+k=82),λaf H' h=>h,?_⟩;refine⟨_,O,fd,kvs,cols,O,cE,ek,λal bG fN bu=>?_⟩;have n6:=zf fN (.lst bG);refine⟨_,O,_,O,v,T,k,O,ia.same (s1.trans (s5.trans n6)),gT,c4,⋯,λl us H6 s6 hl ig=>⟨l,O,⟨_,TR hl⟩,?_⟩⟩;have rD:l≠fd:=λz=>by have h:=s6 _ _ (n6 _ _ cE);rw[<- z,hl]at h;cases h
  have Ni:al≠fd:=JS cE fN;have ul:=Ac ig;rw[AB]at ul;have nj:Q9 H6 cols bG:=Tg (Ta (n6.trans s6)) bu;refine jq (xs:=us) (λj σ H'=>(∃x5 x6 x7,σ=[some v,some (.ref ct),some (nV len),some (.ref e),some (.ref fd),x5,x6,x7,some (nV k),some (.ref al)])/\zH H1 H'/\H' l=some (.lst us)/\Lzs H' (lw k T.cs) us/\H' al=some (.lst bG)/\Q9 H' cols bG/\∃more ls,FdH H' fd (cols++more) ls/\FdM T (cps.map Prod.fst) len (cps.map Prod.snd) (cols++more) ls/\∀z∈(lw k T.cs).take j,jC T len cols z∈cols++more) ⟨⟨_,_,_,O⟩,s5.trans (n6.trans s6),hl,ig,s6 _ _ ze,nj,[],ls,by rw[Az];exact hF.same (n6.trans s6),by rw[Az];exact hM,λz h=>by simp at h⟩ (λj σ H' _ h=>TR h.2.2.1) ?_ ?_
  ·rintro j x σ H7 hx ⟨⟨x5,x6,x7,rfl⟩,s7,vZ,ic,iT,eZ,more,gV,ny,iX,pk⟩;have hj:j<(lw k T.cs).length:=by rw[ul];exact (AD.mp hx).1
   have hz:(lw k T.cs)[j]?=some (lw k T.cs)[j]:=AC hj;generalize (lw k T.cs)[j]=z at hz;obtain⟨zk,zc⟩:=lw_mem (AL hz) p2;have zn:∀n∈z.2,n<cols.length:=λn hn=>Da (zk n hn) aA;have gJ:∀n∈z.2,n<(cols++more).length:=λn hn=>by rw[AJ];exact Ah (zn n hn) (Bt _ _)
   obtain⟨t,rfl,ht⟩:=TV ic j (Sum.inr z) _ (by rw[AG,hz];rfl) hx;have S7:=s1.trans s7;refine⟨_,O,_,O,_,O,_,O,_,O,_,O,v,e,al,t,T,z,cols,bG,len,O,ia.same S7,gT,nT,bJ.same s7,iT,eZ,hM.gc,ht,zn,zc,n9,λt' H8 s8 cM=>⟨_,O,?_⟩⟩;have el:=Zm T len more zn;have cM:H8 t'=some (.tup ((jC T len (cols++more) z).map nV)):=by rw[el];exact cM
   dsimp only[tNil];refine Yy (l:=.inr z) (ny.same s8) iX cM (yB gT nT iX.gc gJ zc) (zbg iX gJ zc) ⟨gJ,zc⟩ ⟨t,O,s8 _ _ ht⟩ rfl (λcs a1 a2 a3=>qe cs _ (s1.trans (s7.trans s8)) a1 a2 a3) λH9 cg Km o9 k9 He Ha mH bH=>?_;obtain⟨lF,rfl⟩:=mH;rw[A8]at He Ha bH;refine⟨⟨_,_,_,O⟩,WG (s7.trans s8) cT o9,o9 _ _ rD (s8 _ _ vZ),Td k9 (Td (Ta s8) ic),o9 _ _ Ni (s8 _ _ iT),Tg k9 (Tg (Ta s8) eZ),more++lF,Km,He,Ha,λz' bX=>?_⟩;rw[take_snoc hz]at bX
   rcases AX.mp bX with h|h
   ·rw[<- A8];exact Aq _ (pk z' h)
   ·rw[AN.mp h,<- el];exact bH
  ·rintro σ H7 ⟨⟨x5,x6,x7,rfl⟩,s7,vZ,ic,iT,eZ,more,gV,ny,iX,pk⟩;rw[<- ul,Ak]at pk;refine⟨_,O,_,_,O,O,?_⟩;have l7:(cols++more).length=cols.length+more.length:=AJ;refine⟨m-1,⋯,k+1,_,_,_,_,O,s7,cols++more,gV,ny,iX,(λb hb=>Aq _ (hB b hb)),(λz hz=>?_),(λk' kB z hz=>?_),⋯,⋯⟩
   ·rw[Zm T len more (λn hn=>by rw[(zbf hz).1]at hn;cases hn)];exact Aq _ (hZ z hz)
   ·rw[Zm T len more (λn hn=>by have:=(lw_mem hz p2).1 n hn;lia)];by_cases e:k'=k
    ·rw[e]at hz;exact pk z hz
    ·exact Aq _ (hW k' ⋯ z hz)
 ·refine iteDF (Ag ⋯) ?_;exact⟨_,O,q fd cols ls H5 (s1.trans s5) MN hF hM λcol h=>sd_in gT hB hZ (λk' h'=>hW k' ⋯) h⟩
abbrev JW:Stmt:=top 18
def QH:zD ["T", "columns", "wish", "found", "last"] ["T", "columns", "wish"] (zm JW):=⟨rfl,rfl,rfl,∅,rfl,∅,∅⟩
def Xd (F:Fun K "sayable" "sayable" JW f fd) (gb:Gb mg) {c:Nat->Addr}(cl:Cl K mg c) (aY:Def1 P w K mg base 4 "all_sayable" ["T", "columns", "length"] (WH (c 1))) (ao:Def P w K mg base 4 "needed_alone" ["lines"] WC):jo P w K mg base (CX1 P w) 5 f fd ["T", "columns", "wish"] (spSay (c 1)):=by
 refine F.ok1 QH (λvs H Q E h=>?_) (λaC A outer s H vs Q E hr h=>?_)
 ·obtain⟨v,ct,wt,T,cps,aF,wish,rfl,_⟩:=h;rfl
 obtain⟨v,ct,wt,T,cps,aF,wish,rfl,ia,gT,nT,c4,eY,dO,iL,kh,w1,w9,q1,q0,qe⟩:=h;refine⟨_,(GE (GF 3 QH.nd O (Or.inl O) (Kg aY hr ⋯ O (Kh (λ_ _ _ z=>z)) (Gq (Gs 0 O O) (Gq (Gs 1 O O) (Gq (Gp (GA K O) O gb.len jI (Gq (Gs 2 O O) Gx O) ∅ ∅ O O) Gx O) O) O) ∅ O O) O (by ac_nf)) (GE (GK (GJ (@Js _ _ hr) (Gs 2 O O) (Gs 3 O O) (by with_unfolding_all rfl)) (Gm (Gn (G2 (Gq Gw (Gq (GX (Kb K O) O gb.tuple zG (Gq (Gp (@JG _ O) O gb.sorted ZI (Gq (Gs 3 O O) Gx O) ∅ ∅ O O) Gx O) ∅ ∅ O O) Gx O) O)))) GW) (GE (GF 4 QH.nd O (Or.inl O) (GR K Ap Ea EZ (@zaC _ _ hr) (GX (@JA _ O) O gb.list ZH (Gq (Gs 3 O O) Gx O) ∅ ∅ O O) (Gq (Gs 2 O O) Gx O) O O O O O O) O (by ac_nf)) (Gm (Gn (G2 (Gq Gw (Gq (GD ao hr ⋯ O (Gq (GT (@Z6 _ K O) (GX (@xV _ O) O gb.list ZH (Gq (@pe_dvals _ _ _ _ _ (Gs 3 O O) O O) Gx O) ∅ ∅ O O) GV (GU (GI G9 (Gs 4 O O) GB))) Gx O) ∅ O O) Gx O) O))))))),?_⟩;refine⟨_,O,_,O,_,O,_,_,O,.inr ⟨_,TU kh,O⟩,v,ct,T,cps,aF,wish.length,by rw[AB];rfl,ia,gT,nT,c4,eY,dO,iL,w9,λfd cols ls H1 s1 cT hF hM bH=>?_,λcs H1 s1 a1 a2 a3=>qe cs H1 s1 a1 a2 a3⟩;obtain⟨kvs,cE,ek,cR⟩:=id hF;have few:cols.length<=81:=hM.le;have oo:∀col,col∈cols↔Sd T wish.length (cps.map Prod.snd) col:=λcol=>⟨hM.sd col,bH col⟩
 have lU:=s1 _ _ kh;refine⟨_,O,_,O,fd,wt,kvs,Jz wish,O,O,cE,by rw[Y3];exact lU,_,O,?_⟩;by_cases hw:wish∈cols
 ·rw[(Qx ek wish).mpr hw];refine iteF ?_;refine⟨_,O,fd,kvs,cols,O,cE,ek,λal bG fN bu=>?_⟩;have n2:=zf fN (.lst bG);obtain⟨j,hj⟩:=As.mp hw;have jl:=(AD.mp hj).1;have dQ:∀m,m<j->cols[m]? ≠ some wish:=λm hm e=>by have:=(Co ⋯ hM.nd).mp (e.trans hj.symm);lia
  refine⟨.inl ⟨O,_,TR ze⟩,_,O,al,wt,bG,cols,wish,j,O,O,ze,Tj (Ta n2) bu,(λk hk=>(hM.gc k hk).1),n2 _ _ lU,hj,dQ,?_⟩;have fJ:=n2 _ _ cE;refine⟨_,O,fd,kvs,O,fJ,λr cy=>?_⟩;have n3:=zf cy (ViewO r fd);have IB:r≠fd:=JS fJ cy;refine⟨r,fd,kvs,O,ze,IB,n3 _ _ fJ,λl hl=>?_⟩;have n4:=zf hl (.lst (kvs.map Prod.snd));refine⟨_,O,_,_,O,O,_,O,.inl ⟨l,_,O,TR ze,λy hy=>?_⟩⟩;rw[show some ((j:Int)+1)=some (((j+1:Nat):Nat):Int) from rfl,za9];have n5:=zf hy (.lst ((kvs.map Prod.snd).take (j+1)));have S5:=n2.trans (n3.trans (n4.trans n5));have kl:kvs.length=cols.length:=by have:=BF List.length ek;rw[AB,AB]at this;exact this
  have ll:=hM.ll;refine⟨y,_,ls.take (j+1),T,cps.map Prod.fst,O,.inr ze,xf _ (Td (Ta S5) cR),JQ hM.gl _,(λc hc=>(gT.cn c hc).2.1),(λx hx=>?_),by rw[Ae];lia,by rw[Ae];lia,λt d6 ns H6 s6 ht bF ris mM=>?_⟩
  ·obtain⟨p,hp,rfl⟩:=AK.mp hx;exact (iL p hp).1
  refine⟨zy (by show 2<=1000;decide),λt2 bS=>?_⟩;have n7:=zf bS (.tup [.str "said",.ref t]);have nl:=Ac mM;have IL:ns.length<=81:=Ar (Tn.nodup_len _ _ bF.nd bF.lt) (by rw[Ae];lia);refine q1 ((oo wish).mp hw) cols oo few t2 t d6 _ _ (s1.trans (S5.trans (s6.trans n7))) ze (n7 _ _ ht) (Td (Ta n7) mM) (xi (JQ hM.gl _) bF ris) ?_ (by rw[AB];exact IL) (told_of hM hj bF ris);rw[AB];exact Ej bF.last
 ·have hv:(jk kvs (Jz wish)).isSome=false:=by
   cases h:(jk kvs (Jz wish)).isSome with
   |false=>rfl
   |true=>exact absurd ((Qx ek wish).mp h) hw
  rw[hv];refine iteT ?_;refine⟨_,O,fd,kvs,cols,wish.length,O,cE,ek,(λk hk=>(hM.gc k hk).1),w1,hM.nd,⋯,λl bs ks hl hP bU asc=>?_⟩;have n2:=zf hl (.lst bs);refine⟨l,_,O,.inl ⟨TR ze,λut hX=>?_⟩⟩;have n3:=zf hX (.tup bs);refine⟨zy (by show 2<=1000;decide),λt ht=>?_⟩;have n4:=zf ht (.tup [.str "unsaid",.ref ut]);exact q0 (λh=>hw ((oo wish).mpr h)) t ut bs ks _ (s1.trans (n2.trans (n3.trans n4))) ze (n4 _ _ ze) (Tj (Ta (n2.trans (n3.trans n4))) hP) asc (λcol=>by rw[bU.mem_iff,oo]) (by rw[bU.length_eq];exact few)
abbrev Zg:Stmt:=top 32
def jM:zD ["T", "steps", "name", "places", "cells"] ["T"] (zm Zg):=⟨rfl,rfl,rfl,∅,rfl,∅,∅⟩
def YE (F:Fun K "steps_of" "steps_of" Zg f fd) (gb:Gb mg) {c:Nat->Addr}(cl:Cl K mg c):jo P w K mg base CX0 1 f fd ["T"] Ys:=by
 refine F.ok jM (λvs H Q E h=>?_) (λaC A outer s H vs Q E hr h=>?_)
 ·obtain⟨v,T,rfl,_⟩:=h;rfl
 obtain⟨v,T,rfl,ia,gT,q⟩:=h;have aD:(["other", "name"]:TJ).Nodup:=∅;have nd1:(["other", "name"]:TJ).Nodup:=∅;refine⟨_,(GE (GF 1 jM.nd O (Or.inl O) (GG Gx) O (by ac_nf)) (GE (G3 BG O (GY K (GO (GP K O) (Gs 0 O O) GB (λ_ _=>rfl)) O) (GZ K 3 O (G0 (@Qz _ _ 2 _ jM.nd O (Or.inr O) (by ac_nf)) (G0 (Gu 3 jM.nd O O) (G0 (Gu 4 jM.nd O O) G1 O) O) O) O O O) (GE (GK (GJ Gz (Gs 3 O O) GB (GC ∅ ∅)) (Gm (GQ (GR K Ap Ba BZ Ke (Gs 1 O O) (Gq (G2 (Gq (Gs 2 O O) (Gq GB (Gq Ki Gx O) O) O)) Gx O) O O O O O O) O)) GW) (Gm (GK (GJ Gz (Gs 3 O O) GB (GC ∅ ∅)) (GE (GQ (GR K Ap CL CK (@Zc _) (Gs 1 O O) (Gq (Gr ["other", "name"] [none,some 2] (by show zC Ge (zm Zg) _ _ _;ac_nf0) O (G8 O gb.range (Gq (GO (GP K O) (Gs 0 O O) GB (λ_ _=>rfl)) Gx O) O) (λ_ _ _ _=>(Gu 0 aD O O)) Kl (λ_ _ _ _=>(G2 (Gq (Gs 1 O O) (Gq GB (Gq (Gs 0 O O) Gx O) O) O))) nofun) Gx O) O O O O O O) O) (Gm (GQ (GR K Ap CL CK (@Zc _) (Gs 1 O O) (Gq (Gr ["other", "name"] [none,some 2] (by show zC Ge (zm Zg) _ _ _;ac_nf0) O (G8 O gb.range (Gq (GO (GP K O) (Gs 0 O O) GB (λ_ _=>rfl)) Gx O) O) (λ_ _ _ _=>(Gu 0 nd1 O O)) Kl (λ_ _ _ _=>(G2 (Gq (Gs 1 O O) (Gq GB (Gq (Gs 0 O O) Gx O) O) O))) nofun) Gx O) O O O O O O) O))) GW))) nofun) (Gm (Gn (Gs 1 O O))))),?_⟩;obtain⟨a,w0,c,vs,rfl,h1,h2,h3,h4⟩:=id ia;have m9:=gT.m9;have kI:=gT.cl;refine⟨zy (by show 0<=1000;decide),λsl dN=>?_⟩;have n0:=zf dN (.lst []);refine⟨_,O,.inr (.inl ⟨a,_,2,_,O,O,TU (n0 _ _ h1),O,c,O,⟨_,TU (n0 _ _ h3)⟩,?_⟩)⟩;refine QC (xs:=vs) (λi σ H'=>(∃x2 x3 x4,σ=[some (.ref a),some (.ref sl),x2,x3,x4])/\zH H H'/\∃xs,H' sl=some (.lst xs)/\Sts H' ((T.cs.take i).flatMap (Y8 T.m)) xs) ⟨⟨_,_,_,O⟩,n0,[],ze,.nil⟩ (λi σ H' _ h=>TU (h.2.1 _ _ h3)) ?_ ?_
 ·rintro i x σ H1 hx ⟨⟨x2,x3,x4,rfl⟩,s1,xs,hs,hS⟩;have hi:i<T.cs.length:=by rw[h4.len];exact (AD.mp hx).1
  have cx:T.cs[i]?=some T.cs[i]:=AC hi;generalize T.cs[i]=cc at cx;obtain⟨nl,p2,gG⟩:=gT.cn cc (AL cx);obtain⟨t,u,e1,k1,k2⟩:=h4.get cx;rw[hx]at e1;cases e1;have xl:xs.length<=18*16:=by have l1:=Ac hS;have l2:=Ww m9 (T.cs.take i);rw[Ae]at l2;lia
  refine⟨t,_,O,TU (s1 _ _ k1),O,_,_,O,_,_,O,_,_,O,O,?_⟩;refine⟨_,O,O,_,O,?_⟩;by_cases p1:cc.pl=1
  ·refine ww (λ_=>?_) (λz=>absurd (Am (by rw[p1];rfl)) z);refine⟨_,O,.inl ⟨O,_,TR hs⟩,_,O,zy (by show 3<=1000;decide),λt1 dh=>?_⟩;have n1:=zf dh (.tup [.str cc.nm,.int 0,.non]);have cD:=n1 _ _ hs;refine⟨sl,_,_,O,O,cD,zt ⋯,?_⟩;refine⟨_,O,O,_,O,?_⟩;refine ww (λz=>absurd (A2 z) (zaU (k:=2) ⋯)) (λ_=>?_);refine⟨⟨_,_,_,O⟩,(s1.trans n1).put dN,_,ze,?_⟩;rw[take_snoc cx,DW];have e:[cc].flatMap (Y8 T.m)=[(cc,0,none)]:=by rw[Dk];unfold Y8;rw[if_pos p1,if_neg ⋯,Az]
   rw[e];exact Sts.app (Tf ((Ta n1).trans (TY cD)) hS) (.cons ⟨t1,O,TY cD _ _ ze⟩ .nil)
  refine ww (λz=>absurd (A2 z) (zaU (k:=1) p1)) (λ_=>?_);refine⟨_,O,O,_,O,?_⟩;by_cases p2':cc.pl=2
  ·refine ww (λ_=>?_) (λz=>absurd (Am (by rw[p2'];rfl)) z);have half:∀(k:Nat) (H2:Hp) (D:Addr) (Q:VK),H2 D=none->(∀ys H3,zH H2 H3->H3 D=some (.lst ys)->ys.length=T.m->Sts H3 ((List.range T.m).map λo=>(cc,k,some o)) ys->Q (.ref D) H3) ->
     jd (Itr 0 T.m) (qN 0) tYes (tTup (tCons (tVar 1) (tCons (tC (nV k)) (tCons (tVar 0) tNil)))) [none,some (.str cc.nm)] H2 Q D:=λk H2 D Q hD q2=>by
    refine zT (λj ys H'=>zH H2 H'/\ys.length=j/\Sts H' ((List.range j).map λo=>(cc,k,some o)) ys) ⟨zf hD _,O,.nil⟩ ?_ ?_
    ·rintro j ys H3 hj ⟨s3,yl,hY⟩ aB;refine yes ⟨_,O,_,O,zy (by show 3<=1000;decide),λt1 dh=>?_⟩;have n1:=zf dh (.tup [.str cc.nm,nV k,.int (0+(j:Int))]);have cF:=n1 _ _ aB;refine Zx hj qG cF (zt ⋯) ⟨(s3.trans n1).put hD,by rw[AJ,yl];rfl,?_⟩;rw[BH,AO];refine Sts.app (Tf ((Ta n1).trans (TY cF)) hY) (.cons ⟨t1,O,TY cF _ _ ?_⟩ .nil);rw[ze,Bf];rfl
    ·rintro ys H3 ⟨s3,yl,hY⟩ aB;exact q2 ys H3 s3 aB yl hY
   refine⟨_,O,.inl ⟨O,_,TR hs⟩,?_⟩;refine⟨_,O,.inr (.inl ⟨a,_,0,_,O,O,TU (s1 _ _ h1),O,(T.m:Int),O,⋯,⋯,λD hD=>?_⟩)⟩;rw[Av];refine half 0 H1 D _ hD λys H2 s2 aK yl hY=>?_;have bZ:=s2 _ _ hs;refine⟨sl,D,_,_,O,O,bZ,aK,zy ⋯,?_⟩;have Dsl:D≠sl:=λz=>by rw[z,hs]at hD;cases hD
   have ou:zH H (upd H2 sl (.lst (xs++ys))):=(s1.trans s2).put dN;have eR:(upd H2 sl (.lst (xs++ys))) sl=some (.lst (xs++ys)):=ze;have iW:Sts (upd H2 sl (.lst (xs++ys))) ((T.cs.take i).flatMap (Y8 T.m)++(List.range T.m).map λo=>(cc,0,some o)) (xs++ys):=Tf (TY bZ) (Sts.app (Tf (Ta s2) hS) hY);generalize upd H2 sl (.lst (xs++ys))=H3 at *;refine⟨_,O,.inl ⟨O,_,TR eR⟩,?_⟩;refine⟨_,O,.inr (.inl ⟨a,_,0,_,O,O,TU (ou _ _ h1),O,(T.m:Int),O,⋯,⋯,λD3 aB=>?_⟩)⟩;rw[Av];refine half 1 H3 D3 _ aB λzs H4 s4 cF zl hZ=>?_;have mw:=s4 _ _ eR;refine⟨sl,D3,_,_,O,O,mw,cF,zy (by rw[AJ];lia),?_⟩;refine⟨⟨_,_,_,O⟩,(ou.trans s4).put dN,_,ze,?_⟩;rw[take_snoc cx,DW];have e:[cc].flatMap (Y8 T.m)=(List.range T.m).map (λo=>(cc,0,some o))++(List.range T.m).map (λo=>(cc,1,some o)):=by rw[Dk];unfold Y8;rw[if_pos p2',if_neg p1,CT]
   rw[e,<- A8];exact Tf (TY mw) (Sts.app (Tf (Ta s4) iW) hZ)
  refine ww (λz=>absurd (A2 z) (zaU (k:=2) p2')) (λ_=>?_);refine⟨⟨_,_,_,O⟩,s1,_,hs,?_⟩;rw[take_snoc cx,DW];have e:[cc].flatMap (Y8 T.m)=[]:=by rw[Dk];unfold Y8;rw[if_neg p1,if_neg p2',CT]
  rw[e,Az];exact hS
 ·rintro σ H1 ⟨⟨x2,x3,x4,rfl⟩,s1,xs,hs,hS⟩;rw[show T.cs.take vs.length=T.cs by rw[<- h4.len,Ak]]at hS;exact⟨_,O,q sl xs H1 dN s1 hs hS⟩
abbrev JX:Stmt:=top 33
def Xe:zD ["cells", "many", "step", "x"] ["cells", "many", "step", "x"] (zm JX):=⟨rfl,rfl,rfl,∅,rfl,∅,∅⟩
def Xf (F:Fun K "stepped" "stepped" JX f fd) (gb:Gb mg) {c:Nat->Addr}(cl:Cl K mg c):jo P w K mg base CX0 1 f fd ["cells", "many", "step", "x"] JO:=by
 refine F.ok Xe (λvs H Q E h=>?_) (λaC A outer s H vs Q E hr h=>?_)
 ·obtain⟨e',t,T,s,x,rfl,_⟩:=h;rfl
 obtain⟨e',t,T,s,x,rfl,hc,gT,hs,ht,hx,q⟩:=h;refine⟨_,(GE (GK (GJ (@YN _) (GO (GP K O) (Gs 2 O O) GB (λ_ _=>rfl)) Ki (GC ∅ ∅)) (Gm (Gn (GO (GP K O) (Kc (@hu1 _ _ hr) (Gs 0 O O) (G2 (Gq (GO (GP K O) (Gs 2 O O) GB (λ_ _=>rfl)) (Gq GB Gx O) O)) (λ_ _=>rfl)) (Gs 3 O O) (λ_ _=>rfl)))) GW) (GE (GK (GJ Gz (GO (GP K O) (Gs 2 O O) GB (λ_ _=>rfl)) GB (GC ∅ ∅)) (Gm (Gn (GO (GP K O) (Kc (@hu1 _ _ hr) (Gs 0 O O) (G2 (Gq (GO (GP K O) (Gs 2 O O) GB (λ_ _=>rfl)) (Gq GB Gx O) O)) (λ_ _=>rfl)) (GI G9 (GI Ka (Gs 3 O O) (Gs 1 O O)) (GO (GP K O) (Gs 2 O O) GB (λ_ _=>rfl))) (λ_ _=>rfl)))) GW) (Gm (Gn (GO (GP K O) (Kc (@hu1 _ _ hr) (Gs 0 O O) (G2 (Gq (GO (GP K O) (Gs 2 O O) GB (λ_ _=>rfl)) (Gq GB Gx O) O)) (λ_ _=>rfl)) (GI G9 (GI Ka (GO (GP K O) (Gs 2 O O) GB (λ_ _=>rfl)) (Gs 1 O O)) (Gs 3 O O)) (λ_ _=>rfl)))))),?_⟩;obtain⟨kvs,he,hv⟩:=id hc;obtain⟨c,kE,d9⟩:=zaW hs;obtain⟨u,hu1,rV⟩:=hv c kE;obtain⟨_,_,gG⟩:=gT.cn c kE;have m9:=gT.m9;refine⟨_,O,.inr (.inl ⟨t,_,2,_,O,O,TU ht,O,O,_,O,?_⟩)⟩
 rcases d9 with ⟨p1,rfl⟩|⟨p2,o,ho,bZ⟩
 ·refine ww (λ_=>?_) (λz=>absurd (Am rfl) z);refine⟨_,O,_,O,.inr (.inl ⟨t,_,0,_,O,O,TU ht,O,zy (by show 2<=1000;decide),λkt mU=>?_⟩)⟩;have n1:=zf mU (.tup [.str c.nm,.int 1]);have hg:Wi (upd H kt (.tup [.str c.nm,.int 1])) e' (.ref kt) (jk kvs (WR c)):=Wi.t (n1 _ _ he) (by rw[ze];unfold WR;rw[p1];rfl);rw[hu1]at hg;refine⟨e',_,O,hg,?_⟩;refine⟨_,O,.inr (.inl ⟨u,_,_,_,O,O,TU (n1 _ _ rV),JI (by rw[gG.len,p1,D9];exact hx),q _ n1⟩)⟩
 have two:∀a b,a<T.m->b<T.m->a*T.m+b<c.cs.length:=λa b ha hb=>by rw[gG.len,p2];have:(a+1)*T.m<=T.m*T.m:=Bp _ ha;rw[Ff]at this;show _<T.m^2;rw[DQ,D9];lia
 have ix:∀a b:Nat,a<T.m->b<T.m->atI (c.cs.map nV) ((a:Int)*(T.m:Int)+(b:Int))=some (nV (Tn.at' c.cs (a*T.m+b))):=λa b ha hb=>by rw[<- Ce,<- Es];exact JI (two a b ha hb)
 have go:∀k:Nat,s=(c,k,some o)->nO s.2.2=nV o/\stV s=[.str c.nm,nV k,nV o]:=λk e=>by rw[e];exact⟨rfl,rfl⟩
 rcases bZ with e|e
 ·obtain⟨g1,g2⟩:=go 0 e;rw[g2]at ht;rw[g1];refine ww (λz=>absurd (A2 z) (by intro h;cases h)) (λ_=>?_);refine⟨_,O,.inr (.inl ⟨t,_,1,_,O,O,TU ht,O,O,_,O,?_⟩)⟩;refine ww (λ_=>?_) (λz=>absurd (Am rfl) z);refine⟨_,O,_,O,.inr (.inl ⟨t,_,0,_,O,O,TU ht,O,zy (by show 2<=1000;decide),λkt mU=>?_⟩)⟩;have n1:=zf mU (.tup [.str c.nm,.int 2]);have hg:Wi (upd H kt (.tup [.str c.nm,.int 2])) e' (.ref kt) (jk kvs (WR c)):=Wi.t (n1 _ _ he) (by rw[ze];unfold WR;rw[p2];rfl);rw[hu1]at hg;refine⟨e',_,O,hg,?_⟩;refine⟨_,O,_,O,_,_,O,O,.inr ⟨⋯,⋯⟩,_,O,.inr (.inl ⟨t,_,2,_,O,O,TU (n1 _ _ ht),O,_,_,O,O,?_⟩)⟩;have q1:=q _ n1;rw[e]at q1;exact .inr (.inl ⟨u,_,_,_,O,O,TU (n1 _ _ rV),ix x o hx ho,q1⟩)
 ·obtain⟨g1,g2⟩:=go 1 e;rw[g2]at ht;rw[g1];refine ww (λz=>absurd (A2 z) (by intro h;cases h)) (λ_=>?_);refine⟨_,O,.inr (.inl ⟨t,_,1,_,O,O,TU ht,O,O,_,O,?_⟩)⟩;refine ww (λz=>absurd (A2 z) (zaU (n:=1) (k:=0) ∅)) (λ_=>?_);refine⟨_,O,_,O,.inr (.inl ⟨t,_,0,_,O,O,TU ht,O,zy (by show 2<=1000;decide),λkt mU=>?_⟩)⟩;have n1:=zf mU (.tup [.str c.nm,.int 2]);have hg:Wi (upd H kt (.tup [.str c.nm,.int 2])) e' (.ref kt) (jk kvs (WR c)):=Wi.t (n1 _ _ he) (by rw[ze];unfold WR;rw[p2];rfl);rw[hu1]at hg;refine⟨e',_,O,hg,?_⟩;refine⟨_,O,.inr (.inl ⟨t,_,2,_,O,O,TU (n1 _ _ ht),O,_,O,_,_,O,O,.inr ⟨⋯,⋯⟩,_,O,_,_,O,O,?_⟩)⟩;have q1:=q _ n1;rw[e]at q1;exact .inr (.inl ⟨u,_,_,_,O,O,TU (n1 _ _ rV),ix o x ho hx,q1⟩)
abbrev ju:Stmt:=top 29
def JY:zD ["things"] ["things"] (zm ju):=⟨rfl,rfl,rfl,∅,rfl,∅,∅⟩
def JZ (F:Fun K "first_places" "first_places" ju f fd) (gb:Gb mg) {c:Nat->Addr}(cl:Cl K mg c):jo P w K mg base CX0 1 f fd ["things"] Wx:=by
 refine F.ok JY (λvs H Q E h=>?_) (λaC A outer s H vs Q E hr h=>?_)
 ·obtain⟨l,bs,rfl,_⟩:=h;rfl
 obtain⟨l,bs,rfl,hl,h9,q⟩:=h;have aD:(["thing", "things"]:TJ).Nodup:=∅;refine⟨_,(Gm (Gn (Gr ["thing", "things"] [none,some 0] (by show zC ["things"] (zm ju) _ _ _;ac_nf0) O (G4 K (Gs 0 O O) O) (λ_ _ _ _=>(Gu 0 aD O O)) Kl (λ_ _ _ _=>(GR K Ap Ea EZ (@zar _) (Gs 1 O O) (Gq (Gs 0 O O) Gx O) O O O O O O)) nofun))),?_⟩;refine⟨_,O,l,O,⟨_,TR hl⟩,λD hD=>?_⟩;refine ZR bs V.bl (λb=>nV (bs.idxOf b)) hl ⋯ hD (λb hb H' Q' s q'=>?_) (λH1 s1 aM=>q D H1 s1 (by rw[aM];unfold Tn.fp;rw[List.map_map];rfl));refine⟨_,O,.inl ⟨O,_,TR (s _ _ hl)⟩,_,O,l,_,_,bs.idxOf b,O,O,s _ _ hl,O,?_,⟨_,by rw[AG,Tn.idx_get hb];rfl,?_⟩,λm v hm hv=>?_,q' H' zH.rfl'⟩
 ·rw[BB];intro x hx;obtain⟨y,_,rfl⟩:=AK.mp hx;rfl
 ·show (b==b)=true;simp
 ·rw[AG]at hv;obtain⟨y,hy,rfl⟩:=Aj.mp hv;have:=wT hm hy;show (y==b)=false;simpa using this
abbrev ji:Stmt:=top 29
def QV:zD ["things"] ["things"] (zm ji):=⟨rfl,rfl,rfl,∅,rfl,∅,∅⟩
def QW (F:Fun K "first_places" "first_places" ji f fd) (gb:Gb mg) {c:Nat->Addr}(cl:Cl K mg c):jo P w K mg base CX0 1 f fd ["things"] Wy:=by
 refine F.ok QV (λvs H Q E h=>?_) (λaC A outer s H vs Q E hr h=>?_)
 ·obtain⟨l,D,xs,dy,n,rfl,_⟩:=h;rfl
 obtain⟨l,D,xs,dy,n,rfl,hl,hL,cR,h9,q⟩:=h;have aD:(["thing", "things"]:TJ).Nodup:=∅;refine⟨_,(Gm (Gn (Gr ["thing", "things"] [none,some 0] (by show zC ["things"] (zm ji) _ _ _;ac_nf0) O (G4 K (Gs 0 O O) O) (λ_ _ _ _=>(Gu 0 aD O O)) Kl (λ_ _ _ _=>(GR K Ap Ea EZ (@xR _ _ hr) (Gs 1 O O) (Gq (Gs 0 O O) Gx O) O O O O O O)) nofun))),?_⟩;have lP:=hL.len;refine⟨_,O,l,O,⟨_,TR hl⟩,λD2 aK=>?_⟩;refine Zd (xs:=xs) (λi ys H'=>zH H H'/\ys=((dy.take i).map λns=>nV (ixo dy ns))) ⟨zf aK _,O⟩ (λi ys H' h _=>TR (h.1 _ _ hl)) ?_ ?_
 ·rintro i ys H1 x hx ⟨s1,rfl⟩ aM;have hi:i<xs.length:=(AD.mp hx).1;have hn:dy[i]?=some dy[i]:=AC ⋯;generalize dy[i]=ns at hn;obtain⟨b,e1,hb⟩:=hL.at hn;rw[hx]at e1;cases e1;have hm:=AL hn;have K8:dy[ixo dy ns]?=some ns:=Tn.idx_get hm;refine yes ⟨_,O,.inl ⟨O,_,TR (s1 _ _ hl)⟩,_,O,l,b,xs,dy.map (List.map nV),ns.map nV,ixo dy ns,O,O,s1 _ _ hl,(hL.same s1).lls,λzs hz=>?_,s1 _ _ hb,qt _,⟨_,by rw[AG,K8];rfl,by rw[zaV];exact Am rfl⟩,λm zs eV hz=>?_,?_⟩
  ·obtain⟨z,bX,rfl⟩:=AK.mp hz;exact⟨qt _,by rw[AB,AB,cR z bX,cR ns hm]⟩
  ·rw[AG]at hz;obtain⟨z,bX,rfl⟩:=Aj.mp hz;rw[zaV];exact Ag (wT eV bX)
  refine Zx hi qG aM (by rw[AB,Ae];exact zt ⋯) ⟨s1.put aK,?_⟩;rw[take_snoc hn,AO];rfl
 ·rintro ys H1 ⟨s1,rfl⟩ aM;rw[lP,Ak]at aM;exact q D2 H1 s1 (by rw[aM];unfold Tn.fp;rw[List.map_map];rfl)
abbrev qS:Stmt:=top 30
def qu:zD ["T", "marks", "cells", "steps", "signs", "one"] ["T", "marks"] (zm qS):=⟨rfl,rfl,rfl,∅,rfl,∅,∅⟩
def QI (F:Fun K "parted_further" "parted_further" qS f fd) (gb:Gb mg) {c:Nat->Addr}(cl:Cl K mg c) (d_cells_by_name:Def P w K mg base 1 "cells_by_name" ["H"] zaX) (bD:Def P w K mg base 1 "steps_of" ["T"] Ys) (bP:Def P w K mg base 1 "stepped" ["cells", "many", "step", "x"] JO) (d_first_placesL:Def P w K mg base 1 "first_places" ["things"] Wy):jo P w K mg base CX0 3 f fd ["T", "marks"] Wz:=by
 refine F.ok qu (λvs H Q E h=>?_) (λaC A outer s H vs Q E hr h=>?_)
 ·obtain⟨v,l,T,ms,rfl,_⟩:=h;rfl
 obtain⟨v,l,T,ms,rfl,ia,gT,nT,hl,mI,q⟩:=h;have aD:(["step", "marks", "cells", "T", "one"]:TJ).Nodup:=∅;refine⟨_,(GE (GF 2 qu.nd O (Or.inr O) (GD d_cells_by_name hr ⋯ O (Gq (Gs 0 O O) Gx O) ∅ O O) O (by ac_nf)) (GE (GF 3 qu.nd O (Or.inl O) (GD bD hr ⋯ O (Gq (Gs 0 O O) Gx O) ∅ O O) O (by ac_nf)) (GE (GF 4 qu.nd O (Or.inl O) (GG Gx) O (by ac_nf)) (GE (G3 BG O (G8 O gb.range (Gq (GO (GP K O) (Gs 0 O O) GB (λ_ _=>rfl)) Gx O) O) (@Qz _ _ 5 _ qu.nd O (Or.inr O) (by ac_nf)) (Gm (GQ (GR K Ap Ba BZ Ke (Gs 4 O O) (Gq (GI (@XG _) (GG (Gq (GO (GP K O) (Gs 1 O O) (Gs 5 O O) (λ_ _=>rfl)) Gx O)) (Gr ["step", "marks", "cells", "T", "one"] [none,some 1,some 2,some 0,some 5] (by show zC ["T", "marks", "cells", "steps", "signs", "one"] (zm qS) _ _ _;ac_nf0) O (G4 K (Gs 3 O O) O) (λ_ _ _ _=>(Gu 0 aD O O)) Kl (λ_ _ _ _=>(GO (GP K O) (Gs 1 O O) (GD bP hr ⋯ O (Gq (Gs 2 O O) (Gq (GO (GP K O) (Gs 3 O O) GB (λ_ _=>rfl)) (Gq (Gs 0 O O) (Gq (Gs 4 O O) Gx O) O) O) O) ∅ O O) (λ_ _=>rfl))) nofun)) Gx O) O O O O O O) O)) nofun) (Gm (Gn (GD d_first_placesL hr ⋯ O (Gq (Gs 4 O O) Gx O) ∅ O O))))))),?_⟩;obtain⟨a,w0,c,vs,rfl,h1,h2,h3,h4⟩:=id ia;have m9:=gT.m9;have kI:=gT.cl;refine⟨_,O,_,T,O,ia,gT,nT,λe H1 s1 bJ=>?_⟩;refine⟨_,O,_,T,O,ia.same s1,gT,λst ss H2 _ s2 dz hS=>?_⟩;have S2:=s1.trans s2;refine⟨zy (by show 0<=1000;decide),λsg vR=>?_⟩;have n3:=zf vR (.lst []);have ssl:ss.length<=18*16:=by have l1:=Ac hS;have l2:=Ww m9 T.cs;have l3:(wc T).length<=18*T.cs.length:=l2;lia
 refine⟨_,O,.inr (.inl ⟨a,_,0,_,O,O,TU ((S2.trans n3) _ _ h1),O,(T.m:Int),O,⋯,⋯,?_⟩)⟩;rw[Av];refine Qg (λi σ H'=>(∃x5,σ=[some (.ref a),some (.ref l),some (.ref e),some (.ref st),some (.ref sg),x5])/\zH H2 H'/\∃xs,H' sg=some (.lst xs)/\Lld sg H' ((List.range i).map (Tn.sgn (fsT T) ms)) xs) ⟨⟨_,O⟩,n3,[],ze,.nil⟩ ?_ ?_
 ·rintro i σ H3 hi ⟨⟨x5,rfl⟩,s3,xs,hx,hL⟩;have S3:=S2.trans s3;have lP:=hL.len;rw[AB,AU]at lP;have gu:=S3 _ _ hl;refine⟨_,O,.inl ⟨O,_,TR hx⟩,?_⟩;refine⟨_,O,_,O,.inl ⟨l,_,_,_,O,O,TR gu,by rw[Bf];exact JI ⋯,zy (by show 1<=1000;decide),λg1 Ld=>?_⟩⟩;have n4:=zf Ld (.lst [nV (Tn.at' ms i)]);have mj:=n4 _ _ (s3 _ _ dz);refine⟨_,O,st,O,⟨_,TR mj⟩,λD hD=>?_⟩;have S4:=S3.trans n4;have LP:Sts (upd H3 g1 (.lst [nV (Tn.at' ms i)])) (wc T) ss:=Tf (Ta (s3.trans n4)) hS;have oT:=Ac hS;refine Zd (xs:=ss) (λj ys H'=>zH (upd H3 g1 (.lst [nV (Tn.at' ms i)])) H'/\ys=(((wc T).take j).map λs=>nV (Tn.at' ms (JL T.m s i)))) ⟨zf hD _,O⟩ (λj ys H' h _=>TR (h.1 _ _ mj)) ?_ ?_
  ·rintro j ys H5 x vO ⟨s5,rfl⟩ bV;have hj:j<ss.length:=(AD.mp vO).1;have oW:(wc T)[j]?=some (wc T)[j]:=AC ⋯;generalize (wc T)[j]=s at oW;obtain⟨t,rfl,ht⟩:=TV LP j _ _ oW vO;have se:=AL oW;have S5:=S4.trans s5;refine yes ⟨_,O,?_⟩;refine⟨_,O,_,O,.inr (.inl ⟨a,_,0,_,O,O,TU (S5 _ _ h1),O,_,O,_,O,e,t,T,s,i,by (show [V.ref e,nV T.m,V.ref t,V.int (0+(i:Int))]=_;rw[Bf]),((bJ.same s2).same s3).same (n4.trans s5),gT,se,s5 _ _ ht,hi,λH6 s6=>?_⟩)⟩;have aA:=JN gT se hi;refine .inl ⟨l,_,_,_,O,O,TR ((S5.trans s6) _ _ hl),JI ⋯,?_⟩;refine Zx hj qG (s6 _ _ bV) (by rw[AB,Ae];exact zt ⋯) ⟨(s5.trans s6).put hD,?_⟩;rw[take_snoc oW,AO];rfl
  rintro ys H5 ⟨s5,rfl⟩ bV;rw[<- oT,Ak]at bV;refine⟨g1,D,_,_,O,O,s5 _ _ ze,bV,by rw[AB];exact zy (by show 1+(wc T).length<=1000;lia),λg2 pf=>?_⟩;have es:[nV (Tn.at' ms i)]++(wc T).map (λs=>nV (Tn.at' ms (JL T.m s i)))=(Tn.sgn (fsT T) ms i).map nV:=by unfold Tn.sgn fsT;rw[Af,AW,AW];rfl
  rw[es];have n6:=zf pf (.lst ((Tn.sgn (fsT T) ms i).map nV));have uN:=n4.trans (s5.trans n6);have vN:=uN _ _ hx;have Ho:g2≠sg:=λz=>by have:=(n4.trans s5) _ _ hx;rw[<- z,pf]at this;cases this
  refine⟨sg,_,_,O,O,vN,zt ⋯,⟨⟨_,O⟩,(s3.trans uN).put vR,_,ze,?_⟩⟩;rw[BH,AO];exact Lld.snoc (Lld.put (hL.same uN)) Ho (by rw[zJ Ho];exact ze)
 ·rintro σ H3 ⟨⟨x5,rfl⟩,s3,xs,hx,hL⟩;refine⟨_,O,sg,sg,xs,_,(fsT T).length+1,O,hx,hL,λns hn=>?_,by rw[AB,AU];exact m9,λk H4 s4 hk=>q k H4 (S2.trans (s3.trans s4)) hk⟩;obtain⟨i,_,rfl⟩:=AK.mp hn;unfold Tn.sgn;rw[Ax,AB]
abbrev jE:Stmt:=top 31
def wk:zD ["marks", "mark"] ["marks", "mark"] (zm jE):=⟨rfl,rfl,rfl,∅,rfl,∅,∅⟩
def wm (F:Fun K "grades_with" "grades_with" jE f fd) (gb:Gb mg) {c:Nat->Addr}(cl:Cl K mg c):jo P w K mg base CX0 1 f fd ["marks", "mark"] zaY:=by
 refine F.ok wk (λvs H Q E h=>?_) (λaC A outer s H vs Q E hr h=>?_)
 ·obtain⟨l,ms,r,rfl,_⟩:=h;rfl
 obtain⟨l,ms,r,rfl,hl,h9,q⟩:=h;have aD:(["one", "marks", "mark"]:TJ).Nodup:=∅;refine⟨_,(Gm (Gn (GX (Kb K O) O gb.tuple zG (Gq (Gr ["one", "marks", "mark"] [none,some 0,some 1] (by show zC ["marks", "mark"] (zm jE) _ _ _;ac_nf0) O (G8 O gb.range (Gq (Gp (GA K O) O gb.len jI (Gq (Gs 0 O O) Gx O) ∅ ∅ O O) Gx O) O) (λ_ _ _ _=>(Gu 0 aD O O)) (λ_ _ _ _=>(Kf (GJ Gz (GO (GP K O) (Gs 1 O O) (Gs 0 O O) (λ_ _=>rfl)) (Gs 2 O O) (GC ∅ ∅)))) (λ_ _ _ _=>(Gs 0 O O)) nofun) Gx O) ∅ ∅ O O))),?_⟩;refine⟨_,O,_,ms.length,O,.inl ⟨_,TR hl,by rw[AB]⟩,(ms.length:Int),O,⋯,⋯,λD hD=>?_⟩;rw[Av];refine zT (λi ys H'=>zH H H'/\ys=((List.range i).filter λj=>decide (Tn.at' ms j=r)).map nV/\ys.length<=i) ⟨zf hD _,O,AI _⟩ ?_ ?_
 ·rintro i ys H1 hi ⟨s1,rfl,yl⟩ aM;refine⟨_,O,_,O,.inl ⟨l,_,_,_,O,O,TR (s1 _ _ hl),by rw[Bf];exact JI hi,_,O,O,_,O,?_⟩⟩;by_cases hm:Tn.at' ms i=r
  ·refine ww (λ_=>?_) (λz=>absurd (Am (by rw[hm])) z);refine⟨_,O,Zx hi qG aM (zt ⋯) ⟨s1.put hD,?_,by rw[AJ];exact Du yl⟩⟩;rw[BH,CI,AO,Bf];simp[hm]
  ·refine ww (λz=>absurd (A2 z) (nVV_ne hm)) (λ_=>?_);refine cno hi qG aM ⟨s1,?_,EN yl⟩;rw[BH,CI,AO];simp[hm]
 ·rintro ys H1 ⟨s1,rfl,yl⟩ aM;refine⟨D,_,O,.inl ⟨TR aM,λt ht=>?_⟩⟩;exact q t _ (s1.trans (zf ht _)) ze
abbrev J1:Stmt:=top 28
def Jc:zD ["T", "marks", "turn"] ["T"] (zm J1):=⟨rfl,rfl,rfl,∅,rfl,∅,∅⟩
def ok_alike (F:Fun K "alike" "alike" J1 f fd) (gb:Gb mg) {c:Nat->Addr}(cl:Cl K mg c) (aP:Def P w K mg base 1 "first_places" ["things"] Wx) (d_parted_further:Def P w K mg base 3 "parted_further" ["T", "marks"] Wz) (aV:Def P w K mg base 1 "grades_with" ["marks", "mark"] zaY):jo P w K mg base CX0 4 f fd ["T"] Yt:=by
 refine F.ok Jc (λvs H Q E h=>?_) (λaC A outer s H vs Q E hr h=>?_)
 ·obtain⟨v,T,rfl,_⟩:=h;rfl
 obtain⟨v,T,rfl,ia,gT,nT,q⟩:=h;have aD:(["one", "T"]:TJ).Nodup:=∅;have nd1:(["mark", "marks"]:TJ).Nodup:=∅;refine⟨_,(GE (GF 1 Jc.nd O (Or.inr O) (GD aP hr ⋯ O (Gq (Gr ["one", "T"] [none,some 0] (by show zC ["T", "marks", "turn"] (zm J1) _ _ _;ac_nf0) O (G8 O gb.range (Gq (GO (GP K O) (Gs 0 O O) GB (λ_ _=>rfl)) Gx O) O) (λ_ _ _ _=>(Gu 0 aD O O)) Kl (λ_ _ _ _=>(Gy (@ZQ _ K O) (Gs 0 O O) (GO (GP K O) (Gs 1 O O) GB (λ_ _=>rfl)) (by with_unfolding_all rfl))) nofun) Gx O) ∅ O O) O (by ac_nf)) (GE (G3 BG O (G8 O gb.range (Gq (GO (GP K O) (Gs 0 O O) GB (λ_ _=>rfl)) Gx O) O) (Gu 2 Jc.nd O O) (Gm (GF 1 Jc.nd O (Or.inr O) (GD d_parted_further hr ⋯ O (Gq (Gs 0 O O) (Gq (Gs 1 O O) Gx O) O) ∅ O O) O (by ac_nf))) nofun) (Gm (Gn (GX (Kb K O) O gb.tuple zG (Gq (Gr ["mark", "marks"] [none,some 1] (by show zC ["T", "marks", "turn"] (zm J1) _ _ _;ac_nf0) O (G4 K (Gp (@Wr _ O) O gb.sorted ZI (Gq (GX (@xQ _ K O O) O gb.set bt_set (Gq (Gs 1 O O) Gx O) ∅ ∅ O O) Gx O) ∅ ∅ O O) O) (λ_ _ _ _=>(Gu 0 nd1 O O)) Kl (λ_ _ _ _=>(GD aV hr ⋯ O (Gq (Gs 1 O O) (Gq (Gs 0 O O) Gx O) O) ∅ O O)) nofun) Gx O) ∅ ∅ O O))))),?_⟩;obtain⟨a,w0,c,vs,rfl,h1,h2,h3,h4⟩:=id ia;have m9:=gT.m9;have m1:=gT.m1;refine⟨_,O,.inr (.inl ⟨a,_,0,_,O,O,TU h1,O,(T.m:Int),O,⋯,⋯,λD hD=>?_⟩)⟩;rw[Av];refine zT (λi ys H'=>zH H H'/\ys=((List.range i).map λj=>V.bl (decide (j∈T.ws)))) ⟨zf hD _,O⟩ ?_ ?_
 ·rintro i ys H1 hi ⟨s1,rfl⟩ aM;refine yes ⟨_,O,_,O,.inr (.inl ⟨a,_,1,_,O,O,TU (s1 _ _ h1),O,w0,_,O,.inr (TU (s1 _ _ h2)),O,qt _,?_⟩)⟩
  try dsimp only
  rw[if_neg AV,Bf,show V.int (i:Int)=nV i from rfl,Wt];refine Zx hi qG aM (by rw[AB,AU];exact zt ⋯) ⟨s1.put hD,?_⟩;rw[BH,AO];rfl
 rintro ys H1 ⟨s1,rfl⟩ aM;refine⟨D,(List.range T.m).map (λj=>decide (j∈T.ws)),O,by rw[aM,AW];rfl,by rw[AB,AU];exact m9,λl0 H2 s2 sZ=>?_⟩;have S2:=s1.trans s2;refine⟨_,O,.inr (.inl ⟨a,_,0,_,O,O,TU (S2 _ _ h1),O,(T.m:Int),O,⋯,⋯,?_⟩)⟩;rw[Av];refine Qg (λi σ H'=>∃(l:Addr) (x2:Option V),σ=[some (.ref a),some (.ref l),x2]/\zH H H'/\H' l=some (.lst ((Tn.itr T.m (fsT T) (Tn.mk0 T.m T.ws) i).map nV))) ⟨l0,_,O,S2,sZ⟩ ?_ ?_
 ·rintro i σ H3 hi ⟨l,x2,rfl,s3,hl⟩;exact⟨_,O,_,O,_,l,T,_,O,ia.same s3,gT,nT,hl,(Tn.itr_mk (Tn.mk0_mk T.m T.ws) i).len,λk H4 s4 hk=>⟨k,_,O,s3.trans s4,hk⟩⟩
 rintro σ H3 ⟨l,x2,rfl,s3,hl⟩;have fx:=ZN gT;have mT:H3 l=some (.lst ((mkT T).map nV)):=hl;have ml:=fx.mks.len;refine⟨_,O,l,mkT T,O,TR mT,λy hy=>?_,λsa ds KO nd sR=>?_⟩
 ·have:=(Tn.reps_mem.mp ((fx.mks.mem_iff y).mp hy)).1;lia
 have n4:=zf KO (DSet w sa ds);refine⟨sa,ds,O,ze,λl2 rs iH pm so=>?_⟩;have n5:=zf iH (.lst (rs.map nV));have er:rs=Qw T:=Tn.ris_eq so (pm.nodup_iff.mpr nd) (Tn.reps_ris _ _) λd=>by rw[pm.mem_iff,sR d,fx.mks.mem_iff d];exact Iff.rfl
 subst er;have S5:=s3.trans (n4.trans n5);have K5:=(n4.trans n5) _ _ mT;have mS:(upd (upd H3 sa (DSet w sa ds)) l2 (.lst ((Qw T).map nV))) l2=some (.lst ((Qw T).map nV)):=ze;refine⟨l2,O,⟨_,TR mS⟩,λD2 aK=>?_⟩;have rl:(Qw T).length<=9:=Ar (Tn.reps_le _ _) m9;refine Zd (xs:=(Qw T).map nV) (λi zs H'=>zH (upd (upd H3 sa (DSet w sa ds)) l2 (.lst ((Qw T).map nV))) H'/\zs.length=i/\Tps H' (((Qw T).take i).map (Tn.partF T.m (mkT T))) zs) ⟨zf aK _,O,.nil⟩ (λi zs H' h _=>TR (h.1 _ _ mS)) ?_ ?_
 ·rintro i zs H6 x hx ⟨s6,zl,hT⟩ cZ;have hi:i<((Qw T).map nV).length:=(AD.mp hx).1;rw[AG]at hx;obtain⟨r,cy,rfl⟩:=Aj.mp hx;refine yes ⟨_,O,_,O,l,mkT T,r,O,s6 _ _ K5,⋯,λt H7 s7 ht=>?_⟩;have cI:=s7 _ _ cZ;rw[AB]at hi;refine Zx (by rw[AB];exact hi) qG cI (zt ⋯) ⟨(s6.trans s7).put aK,by rw[AJ,zl];rfl,?_⟩;rw[take_snoc cy,AO];rw[ml]at ht;exact Tps.snoc (Tps.tk ((Ta s7).trans (TY cI)) hT) (TY cI _ _ ht)
 rintro zs H6 ⟨s6,zl,hT⟩ cZ;rw[AB,Ak]at hT;refine⟨D2,_,O,.inl ⟨TR cZ,λt ht=>?_⟩⟩;have n7:=zf ht (.tup zs);exact q t zs _ (S5.trans (s6.trans n7)) ze (Tps.tk (Ta n7) hT)
abbrev jF:Stmt:=top 37
def Za:zD ["places", "many", "grades", "reached", "place"] ["places", "many", "grades"] (zm jF):=⟨rfl,rfl,rfl,∅,rfl,∅,∅⟩
def wo (F:Fun K "next_places" "next_places" jF f fd) (gb:Gb mg) {c:Nat->Addr}(cl:Cl K mg c):jo P w K mg base CX0 1 f fd ["places", "many", "grades"] YA:=by
 refine F.ok Za (λvs H Q E h=>?_) (λaC A outer s H vs Q E hr h=>?_)
 ·obtain⟨ps,gs,m,P,G,rfl,_⟩:=h;rfl
 obtain⟨ps,gs,m,P,G,rfl,m9,hp,hg,p9,g9,q⟩:=h;have aD:(["one", "place", "many"]:TJ).Nodup:=∅;refine⟨_,(GE (GF 3 Za.nd O (Or.inl O) (GG Gx) O (by ac_nf)) (GE (G3 BG O (G4 K (Gs 0 O O) O) (@Qz _ _ 4 _ Za.nd O (Or.inr O) (by ac_nf)) (Gm (GQ (GR K Ap CL CK (@Zc _) (Gs 3 O O) (Gq (Gr ["one", "place", "many"] [none,some 4,some 1] (by show zC ["places", "many", "grades", "reached", "place"] (zm jF) _ _ _;ac_nf0) O (G4 K (Gs 2 O O) O) (λ_ _ _ _=>(Gu 0 aD O O)) Kl (λ_ _ _ _=>(GI G9 (GI Ka (Gs 1 O O) (Gs 2 O O)) (Gs 0 O O))) nofun) Gx O) O O O O O O) O)) nofun) (Gm (Gn (Gs 3 O O))))),?_⟩;refine⟨zy (by show 0<=1000;decide),λrd oX=>?_⟩;refine⟨_,O,ps,O,⟨_,TR (zf oX _ _ _ hp)⟩,?_⟩;refine jq (xs:=P.map nV) (λi σ H'=>(∃x,σ=[some (.ref ps),some (nV m),some (.ref gs),some (.ref rd),x])/\zH H H'/\H' rd=some (.lst (((P.take i).flatMap λp=>G.map λg=>p*m+g).map nV))) ⟨⟨_,O⟩,zf oX _,ze⟩ (λi σ H' _ h=>TR (h.2.1 _ _ hp)) ?_ ?_
 ·rintro i x σ H1 hx ⟨⟨x',rfl⟩,s1,h1⟩;rw[AG]at hx;obtain⟨pp,sj,rfl⟩:=Aj.mp hx;refine⟨_,O,.inl ⟨O,_,TR h1⟩,_,O,gs,O,⟨_,TR (s1 _ _ hg)⟩,λD hD=>?_⟩;have hlen:(((P.take i).flatMap λp=>G.map λg=>p*m+g).map nV).length<=81:=by rw[AB,Tn.flat_len _ G.length (λx=>by rw[AB]),Ae];exact Ar (Nat.mul_le_mul (show _<=9 by lia) g9) ∅
  refine ZR G nV (λg=>nV (pp*m+g)) (s1 _ _ hg) ⋯ hD (λz hz H' Q' s2 q'=>?_) (λH2 s2 aK=>?_)
  ·have q2:=q' H' zH.rfl';rw[show nV (pp*m+z)=V.int ((pp:Int)*(m:Int)+(z:Int)) by show V.int _=_;rw[Es,Ce]]at q2;exact⟨_,O,_,O,_,_,O,O,.inr ⟨⋯,⋯⟩,_,O,_,_,O,O,q2⟩
  ·refine⟨rd,D,_,_,O,O,s2 _ _ h1,aK,?_,⟨⟨_,O⟩,(s1.trans s2).put oX,?_⟩⟩
   ·have hG:(G.map λg=>nV (pp*m+g)).length=G.length:=AB ..;rw[hG];exact zy ⋯
   ·rw[ze,take_snoc sj,DW,AO];simp only[List.flatMap_cons,List.flatMap_nil,List.append_nil,List.map_map];rfl
 ·rintro σ H1 ⟨⟨x',rfl⟩,s1,h1⟩;rw[AB,Ak]at h1;exact⟨_,O,q rd _ s1 h1⟩
abbrev Zq:Stmt:=top 36
def jv:zD ["many", "grades", "places", "reached", "step"] ["many", "grades", "places"] (zm Zq):=⟨rfl,rfl,rfl,∅,rfl,∅,∅⟩
def wq (F:Fun K "cell_places" "cell_places" Zq f fd) (gb:Gb mg) {c:Nat->Addr}(cl:Cl K mg c) (aU:Def P w K mg base 1 "next_places" ["places", "many", "grades"] YA):jo P w K mg base CX0 2 f fd ["many", "grades", "places"] spPl0:=by
 refine F.ok jv (λvs H Q E h=>?_) (λaC A outer s H vs Q E hr h=>?_)
 ·obtain⟨gs,m,k,G,rfl,_⟩:=h;rfl
 obtain⟨gs,m,k,G,rfl,m9,k2,hg,g9,q⟩:=h;refine⟨_,(GE (GF 3 jv.nd O (Or.inl O) (GG (Gq GB Gx O)) O (by ac_nf)) (GE (G3 BG O (G8 O gb.range (Gq (Gs 2 O O) Gx O) O) (Gu 4 jv.nd O O) (Gm (GF 3 jv.nd O (Or.inl O) (GD aU hr ⋯ O (Gq (Gs 3 O O) (Gq (Gs 0 O O) (Gq (Gs 1 O O) Gx O) O) O) ∅ O O) O (by ac_nf))) nofun) (Gm (Gn (Gs 3 O O))))),?_⟩;refine⟨zy (by show 1<=1000;decide),λr0 di=>?_⟩;refine⟨_,O,(k:Int),O,⋯,⋯,?_⟩;rw[Av];refine Qg (λi σ H'=>∃(l:Addr) (x:Option V),σ=[some (nV m),some (.ref gs),some (nV k),some (.ref l),x]/\zH H H'/\H' l=some (.lst ((Tn.pls m G i).map nV))) ⟨r0,_,O,zf di _,ze⟩ ?_ ?_
 ·rintro i σ H1 hi ⟨l,x,rfl,s1,h1⟩;have pl:(Tn.pls m G i).length<=9:=by
   rw[Tn.pls_len];have:i=0\/i=1:=⋯
   rcases this with h|h <;> rw[h]
   ·rw[FS];decide
   ·rw[D9];exact g9
  exact⟨_,O,_,O,_,O,l,gs,m,_,G,O,m9,h1,s1 _ _ hg,pl,g9,λl2 H2 s2 h2=>⟨l2,_,O,s1.trans s2,h2⟩⟩
 ·rintro σ H1 ⟨l,x,rfl,s1,h1⟩;exact⟨_,O,q l _ s1 h1⟩
abbrev Zr:Stmt:=top 43
def yJ:zD ["T"] ["T"] (zm Zr):=⟨rfl,rfl,rfl,∅,rfl,∅,∅⟩
def yK (F:Fun K "shapes_of" "shapes_of" Zr f fd) (gb:Gb mg) {c:Nat->Addr}(cl:Cl K mg c):jo P w K mg base CX0 1 f fd ["T"] WI:=by
 refine F.ok yJ (λvs H Q E h=>?_) (λaC A outer s H vs Q E hr h=>?_)
 ·obtain⟨v,T,rfl,_⟩:=h;rfl
 obtain⟨v,T,rfl,ih,g,q⟩:=h;have aD:(["name", "places", "cells"]:TJ).Nodup:=∅;refine⟨_,(Gm (Gn (Gr ["name", "places", "cells"] [none,none,none] (by show zC ["T"] (zm Zr) _ _ _;ac_nf0) O (GY K (GO (GP K O) (Gs 0 O O) GB (λ_ _=>rfl)) O) (λ_ _ _ _=>(GZ K 3 O (G0 (Gu 0 aD O O) (G0 (Gu 1 aD O O) (G0 (Gu 2 aD O O) G1 O) O) O) O O O)) Kl (λ_ _ _ _=>(G2 (Gq (Gs 0 O O) (Gq (Gs 1 O O) Gx O) O))) nofun))),?_⟩;obtain⟨a,w,c,vs,rfl,h1,h2,h3,h4⟩:=id ih;have gx:∀i,∃t u:Addr,i<T.cs.length->vs[i]?=some (.ref t)/\H t=some (.tup [.str (T.cs.getD i ⟨"",0,[]⟩).nm,nV (T.cs.getD i ⟨"",0,[]⟩).pl,.ref u])/\H u=some (.tup ((T.cs.getD i ⟨"",0,[]⟩).cs.map nV)):=λi=>by
  by_cases hi:i<T.cs.length
  ·have hc:T.cs[i]?=some (T.cs.getD i ⟨"",0,[]⟩):=by simp[List.getD,hi]
   obtain⟨t,u,h⟩:=h4.get hc;exact⟨t,u,λ_=>h⟩
  ·exact⟨0,0,λh=>absurd h hi⟩
 obtain⟨ad,gx⟩:=BQ gx;obtain⟨au,gx⟩:=BQ gx;have ge:∀i,i<T.cs.length->T.cs[i]?=some (T.cs.getD i ⟨"",0,[]⟩):=λi hi=>by simp[List.getD,hi]
 have dW:=g.cl;refine⟨_,O,.inr (.inl ⟨a,_,2,_,O,O,TU h1,O,c,O,⟨_,TU h3⟩,λD hD=>?_⟩)⟩;refine comp_tt3 (n:=T.cs.length) (ad:=ad) (v1:=λi=>.str (T.cs.getD i ⟨"",0,[]⟩).nm) (v2:=λi=>nV (T.cs.getD i ⟨"",0,[]⟩).pl) (v3:=λi=>.ref (au i)) (λi ys H'=>zH H H'/\yS H' (((Sh T).take i).map shV) ys/\ys.length=i) ⟨zf hD _,.nil,O⟩ h4.len.symm (λi hi=>(gx i hi).1) (λi ys H' p _=>TU (p.1 _ _ h3)) (λi ys H' hi p=>TU (p.1 _ _ (gx i hi).2.1)) ?_ ?_
 ·rintro i ys H1 hi ⟨s1,t1,yl⟩ aM;refine yes ⟨_,O,_,O,zy (by show 2<=1000;decide),λt ht=>?_⟩;have n2:=zf ht (.tup [.str (T.cs.getD i ⟨"",0,[]⟩).nm,nV (T.cs.getD i ⟨"",0,[]⟩).pl]);have aK:=n2 _ _ aM;have hs:(Sh T)[i]?=some ((T.cs.getD i ⟨"",0,[]⟩).nm,(T.cs.getD i ⟨"",0,[]⟩).pl):=by unfold Sh;rw[AG,ge i hi];rfl
  refine Zx hi rfl aK (zt ⋯) ⟨(s1.trans n2).put hD,?_,by rw[AJ,yl];rfl⟩;rw[take_snoc hs,AO];exact ((t1.same n2).snoc ze).keep (TY aK)
 ·rintro ys H1 ⟨s1,t1,yl⟩ aM;rw[show (Sh T).take T.cs.length=Sh T by rw[show T.cs.length=(Sh T).length by unfold Sh;rw[List.length_map],Ak]]at t1;exact q D ys _ s1 aM t1
abbrev ZW:Stmt:=top 44
def YF:zD ["connective", "many", "grades"] ["connective", "many", "grades"] (zm ZW):=⟨rfl,rfl,rfl,∅,rfl,∅,∅⟩
def YG (F:Fun K "cells_at" "cells_at" ZW f fd) (gb:Gb mg) {c:Nat->Addr}(cl:Cl K mg c) (aq:Def P w K mg base 2 "cell_places" ["many", "grades", "places"] spPl0):jo P w K mg base CX0 3 f fd ["connective", "many", "grades"] spAt0:=by
 refine F.ok YF (λvs H Q E h=>?_) (λaC A outer s H vs Q E hr h=>?_)
 ·obtain⟨t,u,g,m,c,G,rfl,_⟩:=h;rfl
 obtain⟨t,u,g,m,c,G,rfl,m9,p2,ht,hu,cl,hg,g9,gl,q⟩:=h;have aD:(["place", "connective"]:TJ).Nodup:=∅;refine⟨_,(Gm (Gn (Gr ["place", "connective"] [none,some 0] (by show zC ["connective", "many", "grades"] (zm ZW) _ _ _;ac_nf0) O (G4 K (GD aq hr ⋯ O (Gq (Gs 1 O O) (Gq (Gs 2 O O) (Gq (GO (GP K O) (Gs 0 O O) GB (λ_ _=>rfl)) Gx O) O) O) ∅ O O) O) (λ_ _ _ _=>(Gu 0 aD O O)) Kl (λ_ _ _ _=>(GO (GP K O) (GO (GP K O) (Gs 1 O O) GB (λ_ _=>rfl)) (Gs 0 O O) (λ_ _=>rfl))) nofun))),?_⟩;refine⟨_,O,_,O,_,O,.inr (.inl ⟨t,_,1,_,O,O,TU ht,O,g,m,c.pl,G,O,m9,p2,hg,g9,λl H1 s1 h1=>⟨l,O,⟨_,TR h1⟩,λD hD=>?_⟩⟩)⟩;have IE:(Tn.pls m G c.pl).length<=81:=by rw[Tn.pls_len];exact Ar (DU g9 _) (Ar (DI ∅ p2) ∅)
 refine ZR (Tn.pls m G c.pl) nV (λp=>nV (Tn.at' c.cs p)) h1 ⋯ hD (λz hz H' Q' s2 q'=>?_) (λH2 s2 aK=>?_)
 ·have gZ:=Tn.pls_lt' gl c.pl z hz;exact⟨_,O,.inr (.inl ⟨t,_,2,_,O,O,TU (s2 _ _ (s1 _ _ ht)),O,_,O,.inr (.inl ⟨u,_,_,_,O,O,TU (s2 _ _ (s1 _ _ hu)),JI (by rw[cl];exact gZ),q' H' zH.rfl'⟩)⟩)⟩
 ·exact q D _ (s1.trans s2) (by rw[aK,AW];rfl)
abbrev Zs:Stmt:=top 42
def qR:zD ["one", "other", "many", "firsts", "seconds", "wished", "connectives", "first", "second", "reached", "beside"] ["one", "other"] (zm Zs):=⟨rfl,rfl,rfl,∅,rfl,∅,∅⟩
def zbt (F:Fun K "paired" "paired" Zs f fd) (gb:Gb mg) {c:Nat->Addr}(cl:Cl K mg c) (aR:Def P w K mg base 1 "shapes_of" ["T"] WI) (bo:Def P w K mg base 3 "cells_at" ["connective", "many", "grades"] spAt0):jo P w K mg base CX0 4 f fd ["one", "other"] YC:=by
 refine F.ok qR (λvs H Q E h=>?_) (λaC A outer s H vs Q E hr h=>?_)
 ·obtain⟨v,u,A,B,rfl,_⟩:=h;rfl
 obtain⟨v,u,A,B,rfl,ia,ib,gA,gB,hS,n9,q⟩:=h;have aD:(["pair", "other"]:TJ).Nodup:=∅;have nd1:(["pair", "other"]:TJ).Nodup:=∅;have eN:(["pair", "firsts", "one", "seconds", "other"]:TJ).Nodup:=∅;have oH:(["x", "y", "other"]:TJ).Nodup:=∅;refine⟨_,(GE (GK (GJ (@op_neLT _ 2 _ hr) (GD aR hr ⋯ O (Gq (Gs 0 O O) Gx O) ∅ O O) (GD aR hr ⋯ O (Gq (Gs 1 O O) Gx O) ∅ O O) (GC ∅ ∅)) (Gm (@Q0 _ _)) GW) (GE (GF 2 qR.nd O (Or.inl O) (GI Ka (GO (GP K O) (Gs 0 O O) GB (λ_ _=>rfl)) (GO (GP K O) (Gs 1 O O) GB (λ_ _=>rfl))) O (by ac_nf)) (GE (GK (GJ (@op_gt _) (Gs 2 O O) (@YW _ _ _ _ O gb.MOST_GRADES ∅) (GC ∅ ∅)) (Gm (@Q0 _ _)) GW) (GE (GF 3 qR.nd O (Or.inr O) (Gr ["pair", "other"] [none,some 1] (by show zC Gf (zm Zs) _ _ _;ac_nf0) O (G8 O gb.range (Gq (Gs 2 O O) Gx O) O) (λ_ _ _ _=>(Gu 0 aD O O)) Kl (λ_ _ _ _=>(GI (@Z5 _) (Gs 0 O O) (GO (GP K O) (Gs 1 O O) GB (λ_ _=>rfl)))) nofun) O (by ac_nf)) (GE (GF 4 qR.nd O (Or.inr O) (Gr ["pair", "other"] [none,some 1] (by show zC Gf (zm Zs) _ _ _;ac_nf0) O (G8 O gb.range (Gq (Gs 2 O O) Gx O) O) (λ_ _ _ _=>(Gu 0 nd1 O O)) Kl (λ_ _ _ _=>(GI Kj (Gs 0 O O) (GO (GP K O) (Gs 1 O O) GB (λ_ _=>rfl)))) nofun) O (by ac_nf)) (GE (G7 ["pair", "firsts", "one", "seconds", "other"] [none,some 3,some 0,some 4,some 1] 5 (by show zC Gf (zm Zs) _ _ _;ac_nf0) O (G8 O gb.range (Gq (Gs 2 O O) Gx O) O) (λ_ _ _ _=>(Gu 0 eN O O)) (λ_ _ _ _=>(Kf (G5 (G6 (GJ (@ZQ _ K O) (GO (GP K O) (Gs 1 O O) (Gs 0 O O) (λ_ _=>rfl)) (GO (GP K O) (Gs 2 O O) GB (λ_ _=>rfl)) (by with_unfolding_all rfl)) (@yW _ _ _ _ (GJ (@ZQ _ K O) (GO (GP K O) (Gs 3 O O) (Gs 0 O O) (λ_ _=>rfl)) (GO (GP K O) (Gs 4 O O) GB (λ_ _=>rfl)) (by with_unfolding_all rfl))))))) (λ_ _ _ _=>(Gs 0 O O)) qR.nd O O O nofun) (GE (GF 6 qR.nd O (Or.inl O) (GG Gx) O (by ac_nf)) (GE (G3 BG O (@Wb _ true true K _ _ _ _ _ _ _ _ O gb.zip (Gq (GO (GP K O) (Gs 0 O O) GB (λ_ _=>rfl)) (Gq (GO (GP K O) (Gs 1 O O) GB (λ_ _=>rfl)) Gx O) O) O O O) (GZ K 2 O (G0 (Gu 7 qR.nd O O) (G0 (Gu 8 qR.nd O O) G1 O) O) O O O) (GE (GF 9 qR.nd O (Or.inl O) (GD bo hr ⋯ O (Gq (Gs 7 O O) (Gq (GO (GP K O) (Gs 0 O O) GB (λ_ _=>rfl)) (Gq (Gs 3 O O) Gx O) O) O) ∅ O O) O (by ac_nf)) (GE (GF 10 qR.nd O (Or.inl O) (GD bo hr ⋯ O (Gq (Gs 8 O O) (Gq (GO (GP K O) (Gs 1 O O) GB (λ_ _=>rfl)) (Gq (Gs 4 O O) Gx O) O) O) ∅ O O) O (by ac_nf)) (Gm (GQ (GR K Ap Ba BZ Ke (Gs 6 O O) (Gq (G2 (Gq (GO (GP K O) (Gs 7 O O) GB (λ_ _=>rfl)) (Gq (GO (GP K O) (Gs 7 O O) GB (λ_ _=>rfl)) (Gq (GX (Kb K O) O gb.tuple zG (Gq (Gr ["x", "y", "other"] [none,none,some 1] (by show zC Gf (zm Zs) _ _ _;ac_nf0) O (@Wb _ false false K _ _ _ _ _ _ _ _ O gb.zip (Gq (Gs 9 O O) (Gq (Gs 10 O O) Gx O) O) O O O) (λ_ _ _ _=>(GZ K 2 O (G0 (Gu 0 oH O O) (G0 (Gu 1 oH O O) G1 O) O) O O O)) Kl (λ_ _ _ _=>(GI G9 (GI Ka (Gs 0 O O) (GO (GP K O) (Gs 2 O O) GB (λ_ _=>rfl))) (Gs 1 O O))) nofun) Gx O) ∅ ∅ O O) Gx O) O) O)) Gx O) O O O O O O) O)))) nofun) (Gm (Gn (G2 (Gq (Gs 2 O O) (Gq (GX (Kb K O) O gb.tuple zG (Gq (Gs 5 O O) Gx O) ∅ ∅ O O) (Gq (GX (Kb K O) O gb.tuple zG (Gq (Gs 6 O O) Gx O) ∅ ∅ O O) Gx O) O) O)))))))))))),?_⟩;obtain⟨a,wa,ca,kQ,rfl,h1,h2,Hl,pC⟩:=id ia;obtain⟨b,wb,cb,pT,rfl,k1,k2,Hk,Hj⟩:=id ib;have am:=gA.m9;have bm:=gB.m9;have b1:=gB.m1;have MI:=gA.cl;have MG:=gB.cl;have mi:((A.m:Int)*(B.m:Int))=((A.m*B.m:Nat):Int):=by rw[Ce]
 refine⟨_,O,_,A,O,ia,gA,λl1 xs1 H1 s1 fj t1=>?_⟩;refine⟨_,O,_,B,O,ib.same s1,gB,λl2 xs2 H2 s2 iH t2=>?_⟩;refine⟨l1,l2,_,_,_,_,O,O,s2 _ _ fj,iH,t1.same s2,t2,zbi _,zbi _,_,O,?_⟩;rw[zbj];have S:=s1.trans s2;rw[Am hS];refine⟨_,O,.inr (.inl ⟨a,_,0,_,O,O,TU (S _ _ h1),O,_,O,.inr (.inl ⟨b,_,0,_,O,O,TU (S _ _ k1),O,_,_,O,O,.inr ⟨⋯,⋯⟩,?_⟩)⟩)⟩;dsimp only;rw[mi];refine⟨_,O,_,_,O,O,_,O,?_⟩;refine iteDF (Ag (show ¬(9:Int)<((A.m*B.m:Nat):Int) by lia)) ?_;have uI:A.cs.length=B.cs.length:=by have:=BF List.length hS;unfold Sh at this;rw[AB,AB]at this;exact this
 generalize hn:A.m * B.m=n at *;have HP:=H2;refine⟨_,O,(n:Int),O,⋯,⋯,λD1 aM=>?_⟩;rw[Av];refine zT (λi ys H'=>zH H2 H'/\ys=((List.range i).map λp=>p/B.m).map nV) ⟨zf aM _,O⟩ ?_ ?_
 ·rintro i ys H' hi ⟨s1,rfl⟩ br;have ev:V.int ((0+(i:Int))/(B.m:Int))=nV (i/B.m):=by rw[Bf];show _=V.int _;rw[Int.natCast_ediv]
  refine yes ⟨_,O,_,O,.inr (.inl ⟨b,_,0,_,O,O,TU (s1 _ _ (S _ _ k1)),O,_,_,O,O,⟨⋯,⋯⟩,?_⟩)⟩;refine Zx hi qG br (by rw[AB,AB,AU];exact zt ⋯) ⟨s1.put aM,?_⟩;rw[BH,AO,AO];show _++[V.int ((0+(i:Int))/(B.m:Int))]=_;rw[ev];rfl
 rintro ys1 HF ⟨sF,rfl⟩ hF;have SF:=S.trans sF;refine⟨_,O,(n:Int),O,⋯,⋯,λD2 aK=>?_⟩;rw[Av];refine zT (λi ys H'=>zH HF H'/\ys=((List.range i).map λp=>p%B.m).map nV) ⟨zf aK _,O⟩ ?_ ?_
 ·rintro i ys H' hi ⟨s1,rfl⟩ br;have ev:V.int ((0+(i:Int))%(B.m:Int))=nV (i%B.m):=by rw[Bf];show _=V.int _;rw[FY]
  refine yes ⟨_,O,_,O,.inr (.inl ⟨b,_,0,_,O,O,TU (s1 _ _ (SF _ _ k1)),O,_,_,O,O,⋯,?_⟩)⟩;refine Zx hi qG br (by rw[AB,AB,AU];exact zt ⋯) ⟨s1.put aK,?_⟩;rw[BH,AO,AO];show _++[V.int ((0+(i:Int))%(B.m:Int))]=_;rw[ev];rfl
 rintro ys2 HG ⟨sG,rfl⟩ hG;have SG:=SF.trans sG;have Hf:=sG _ _ hF;refine⟨_,O,(n:Int),O,⋯,⋯,λD3 aB=>?_⟩;rw[Av];refine zT (λi ys H'=>zH HG H'/\ys=((List.range i).filter λp=>decide (p/B.m∈A.ws)&&decide (p%B.m∈B.ws)).map nV/\ys.length<=i) ⟨zf aB _,O,AI _⟩ ?_ ?_
 ·rintro i ys H' hi ⟨s5,rfl,yl⟩ br;have e1:atI (((List.range n).map λp=>p/B.m).map nV) (0+(i:Int))=some (nV (i/B.m)):=by rw[Bf];refine qF ?_;rw[AG,AG,A0 hi];rfl
  have e2:atI (((List.range n).map λp=>p%B.m).map nV) (0+(i:Int))=some (nV (i%B.m)):=by rw[Bf];refine qF ?_;rw[AG,AG,A0 hi];rfl
  have no:(decide (i/B.m∈A.ws)&&decide (i%B.m∈B.ws))=false->zH HG H'/\((List.range i).filter λp=>decide (p/B.m∈A.ws)&&decide (p%B.m∈B.ws)).map nV=((List.range (i+1)).filter λp=>decide (p/B.m∈A.ws)&&decide (p%B.m∈B.ws)).map nV/\(((List.range i).filter λp=>decide (p/B.m∈A.ws)&&decide (p%B.m∈B.ws)).map nV).length<=i+1:=λhb=>⟨s5,by rw[BH,CI,AO,B6,hb];simp,⋯⟩
  refine⟨_,O,_,O,.inl ⟨D1,_,_,_,O,O,TR (s5 _ _ Hf),e1,?_⟩⟩;refine⟨_,O,.inr (.inl ⟨a,_,1,_,O,O,TU (s5 _ _ (SG _ _ h1)),O,wa,_,O,.inr (TU (s5 _ _ (SG _ _ h2))),O,qt _,_,O,?_⟩)⟩;dsimp only;rw[if_neg AV,Wt];by_cases m1:i/B.m∈A.ws
  ·rw[if_pos (Am m1)];refine⟨_,O,_,O,.inl ⟨D2,_,_,_,O,O,TR (s5 _ _ hG),e2,?_⟩⟩;refine⟨_,O,.inr (.inl ⟨b,_,1,_,O,O,TU (s5 _ _ (SG _ _ k1)),O,wb,_,O,.inr (TU (s5 _ _ (SG _ _ k2))),O,qt _,_,O,?_⟩)⟩;dsimp only;rw[if_neg AV,Wt];by_cases m2:i%B.m∈B.ws
   ·rw[if_pos (Am m2)];refine⟨_,O,Zx hi qG br (zt ⋯) ⟨s5.put aB,?_,by rw[AJ];show _+1<=_;lia⟩⟩;rw[BH,CI,AO,Bf];simp[m1,m2]
   ·rw[if_neg (by rw[Ag m2];exact AV)];exact cno hi qG br (no (by rw[Ag m2,Bool.and_false]))
  ·rw[if_neg (by rw[Ag m1];exact AV)];exact cno hi qG br (no (by rw[Ag m1,Bool.false_and]))
 rintro ysW HW ⟨sW,rfl,ylW⟩ hW;have SW:=SG.trans sW;refine⟨zy (by show 0<=1000;decide),λcn dU=>?_⟩;have nc:=zf dU (.lst []);have Lr:=dU;refine⟨_,O,.inr (.inl ⟨a,_,2,_,O,O,TU (nc _ _ (SW _ _ h1)),O,_,O,.inr (.inl ⟨b,_,2,_,O,O,TU (nc _ _ (SW _ _ k1)),O,ca,cb,kQ,pT,O,TU (nc _ _ (SW _ _ Hl)),TU (nc _ _ (SW _ _ Hk)),?_⟩)⟩)⟩;have vl:kQ.length=pT.length:=by rw[<- pC.len,<- Hj.len];exact uI
 refine for_zip (xs:=kQ) (ys:=pT) (n:=kQ.length) (λi σ H'=>(∃x5 x7 x8 x9 pS,σ=[some (.ref a),some (.ref b),some (nV n),some (.ref D1),some (.ref D2),x5,some (.ref cn),x7,x8,x9,pS]/\x5=some (.ref D3))/\zH HW H'/\∃ys,H' cn=some (.lst ys)/\Cns H' (((A.cs.zip B.cs).take i).map λz=>⟨z.1.nm,z.1.pl,Tn.pc n A.m B.m z.1.pl z.1.cs z.2.cs⟩) ys) ⋯ ⟨⟨_,_,_,_,_,O,O⟩,nc,[],ze,.nil⟩ (λi σ H' _ h=>⟨TU (h.2.1 _ _ (SW _ _ Hl)),TU (h.2.1 _ _ (SW _ _ Hk))⟩) ?_ ?_
 ·rintro i x y σ H3 U hi hx hy hU ⟨⟨x5,x7,x8,x9,pS,rfl,e5⟩,s3,ys,rL,hC⟩;have Lb:i<A.cs.length:=by rw[pC.len];exact hi
  have La:i<B.cs.length:=⋯;have ga:A.cs[i]?=some A.cs[i]:=AC Lb;have nH:B.cs[i]?=some B.cs[i]:=AC La;generalize A.cs[i]=cA at ga;generalize B.cs[i]=cB at nH;obtain⟨tA,uA,eA,uC,MQ⟩:=pC.get ga;obtain⟨tB,uB,eB,MP,MO⟩:=Hj.get nH;rw[hx]at eA;rw[hy]at eB;cases eA;cases eB;obtain⟨nlA,pA,M8⟩:=gA.cn _ (AL ga);obtain⟨nlB,pB,M7⟩:=gB.cn _ (AL nH);obtain⟨en,ep⟩:=sh_zip hS ga nH;have nU:=zf hU (.tup [.ref tA,.ref tB]);have S3:=SW.trans (s3.trans nU);have L6:=nU _ _ (s3 _ _ (sW _ _ Hf));have LY:=nU _ _ (s3 _ _ (sW _ _ hG));have MM:∀x∈Tn.fsts n B.m,x<A.m:=λx hx=>by obtain⟨y,oQ,rfl⟩:=AK.mp hx;exact Tn.div_lt' (by rw[hn];exact AS.mp oQ)
  have nK:∀x∈Tn.snds n B.m,x<B.m:=λx hx=>by obtain⟨y,oQ,rfl⟩:=AK.mp hx;exact CG _ ⋯
  refine⟨_,O,_,O,.inr (.inl ⟨a,_,0,_,O,O,TU (S3 _ _ h1),O,_,O,tA,uA,D1,A.m,cA,Tn.fsts n B.m,O,am,pA,S3 _ _ uC,S3 _ _ MQ,M8.len,L6,by rw[Tn.fsts_len];exact n9,MM,λl3 H4 s4 gu=>?_⟩)⟩;have S4:=S3.trans s4;refine⟨_,O,_,O,.inr (.inl ⟨b,_,0,_,O,O,TU (S4 _ _ k1),O,_,O,tB,uB,D2,B.m,cB,Tn.snds n B.m,O,bm,pB,S4 _ _ MP,S4 _ _ MO,M7.len,s4 _ _ LY,by rw[Tn.snds_len];exact n9,nK,λl4 H5 s5 fI=>?_⟩)⟩;have S5:=S4.trans s5;have iG:=s5 _ _ gu;have lM:=s5 _ _ (s4 _ _ (nU _ _ rL));refine⟨_,O,.inl ⟨O,_,TR lM⟩,_,O,.inr (.inl ⟨tA,_,0,_,O,O,TU (S5 _ _ uC),O,_,O,.inr (.inl ⟨tA,_,1,_,O,O,TU (S5 _ _ uC),O,_,O,_,O,l3,l4,_,_,O,TR iG,TR fI,λD hD=>?_⟩)⟩)⟩;rw[<- ep]at fI;generalize hR:(Tn.pls A.m (Tn.fsts n B.m) cA.pl).map (Tn.at' cA.cs)=R at iG;generalize hZ:(Tn.pls B.m (Tn.snds n B.m) cA.pl).map (Tn.at' cB.cs)=Z at fI;have rl:R.length<=81:=by rw[<- hR,AB,Tn.pls_len,Tn.fsts_len];exact JH n9 pA
  have zl:Z.length=R.length:=by rw[<- hR,<- hZ,AB,AB,Tn.pls_len,Tn.pls_len,Tn.fsts_len,Tn.snds_len]
  refine yc (kd:=false) (ke:=false) (xs:=R.map nV) (ys:=Z.map nV) (n:=R.length) (more:=[some (.ref b)]) (λj zs H'=>zH H5 H'/\zs=(((R.zip Z).take j).map λz=>z.1*B.m+z.2).map nV) (by rw[AB,AB];lia) ⟨zf hD _,O⟩ (λj zs H' h _=>⟨TR (h.1 _ _ iG),TR (h.1 _ _ fI)⟩) ?_ ?_
  ·rintro j zs H6 W u v hu hv hj ⟨s6,rfl⟩ cZ LJ;rw[AG]at hu hv;obtain⟨ru,KQ,rfl⟩:=Aj.mp hu;obtain⟨rv,KP,rfl⟩:=Aj.mp hv;have nW:=zf LJ (.tup [nV ru,nV rv]);have cI:=nW _ _ cZ;have hz:(R.zip Z)[j]?=some (ru,rv):=Bb.mpr ⟨KQ,KP⟩;have ev:V.int ((ru:Int)*(B.m:Int)+(rv:Int))=nV (ru*B.m+rv):=by show _=V.int _;rw[Es,Ce]
   refine yes ⟨_,O,_,O,.inr (.inl ⟨b,_,0,_,O,O,TU (nW _ _ (s6 _ _ (S5 _ _ k1))),O,_,_,O,O,.inr ⟨⋯,⋯⟩,_,O,_,_,O,O,?_⟩)⟩;refine Zx hj ⟨_,_,O⟩ cI (by rw[AB,AB,Ae];exact zt ⋯) ⟨(s6.trans nW).put hD,?_⟩;rw[take_snoc hz,AO,AO];show _++[V.int ((ru:Int)*(B.m:Int)+(rv:Int))]=_;rw[ev];rfl
  ·rintro zs H6 ⟨s6,rfl⟩ cZ;rw[BX (by rw[C4];lia)]at cZ;have MW:(R.zip Z).map (λz=>z.1*B.m+z.2)=Tn.pc n A.m B.m cA.pl cA.cs cB.cs:=by unfold Tn.pc;rw[<- hR,<- hZ,List.zip_map,AW];rfl
   rw[MW]at cZ;refine⟨D,_,O,.inl ⟨TR cZ,λt2 bS=>?_⟩⟩;have n7:=zf bS (.tup ((Tn.pc n A.m B.m cA.pl cA.cs cB.cs).map nV));refine⟨zy (by show 3<=1000;decide),λt3 df=>?_⟩;have n8:=zf df (.tup [.str cA.nm,nV cA.pl,.ref t2]);have u8:=s6.trans (n7.trans n8);have lK:=u8 _ _ lM;have fD:=hC.len;rw[AB,Ae]at fD;have S8:=s3.trans (nU.trans (s4.trans (s5.trans u8)));refine⟨cn,_,_,O,O,lK,zt ⋯,⟨⟨_,_,_,_,_,O,e5⟩,S8.put Lr,_,ze,?_⟩⟩;have hz:(A.cs.zip B.cs)[i]?=some (cA,cB):=Bb.mpr ⟨ga,nH⟩;rw[take_snoc hz,AO];exact (Tc (c:=⟨cA.nm,cA.pl,Tn.pc n A.m B.m cA.pl cA.cs cB.cs⟩) (hC.same (nU.trans (s4.trans (s5.trans u8)))) ze (n8 _ _ ze)).tk (TY lK)
 ·rintro σ H3 ⟨⟨x5,x7,x8,x9,pS,rfl,rfl⟩,s3,ys,rL,hC⟩;rw[show (A.cs.zip B.cs).take kQ.length=A.cs.zip B.cs by rw[<- pC.len];exact BX (by rw[C4];lia)]at hC;refine⟨_,O,_,O,D3,_,O,.inl ⟨TR (s3 _ _ hW),λtw ir=>?_⟩⟩;have n5:=zf ir (.tup ((Tn.pw n B.m A.ws B.ws).map nV));refine⟨_,O,cn,_,O,.inl ⟨TR (n5 _ _ rL),λtc eQ=>?_⟩⟩;have n6:=zf eQ (.tup ys);refine⟨zy (by show 3<=1000;decide),λt ht=>?_⟩;have n7:=zf ht (.tup [nV n,.ref tw,.ref tc]);have S7:=n5.trans (n6.trans n7);refine q _ _ (SW.trans (s3.trans S7)) ?_;unfold qK;rw[hn];exact⟨t,tw,tc,ys,O,ze,n7 _ _ (n6 _ _ ze),n7 _ _ ze,hC.same S7⟩
abbrev ZX:Stmt:=top 38
def jN:zD ["T", "olds", "news", "connectives", "name", "places", "cells", "reached", "wished"] ["T", "olds", "news"] (zm ZX):=⟨rfl,rfl,rfl,∅,rfl,∅,∅⟩
def zbu (F:Fun K "remade" "remade" ZX f fd) (gb:Gb mg) {c:Nat->Addr}(cl:Cl K mg c) (aq:Def P w K mg base 2 "cell_places" ["many", "grades", "places"] spPl0):jo P w K mg base CX0 3 f fd ["T", "olds", "news"] zbk:=by
 refine F.ok jN (λvs H Q E h=>?_) (λaC A outer s H vs Q E hr h=>?_)
 ·obtain⟨v,ol,nw,T,o,rfl,_⟩:=h;rfl
 obtain⟨v,ol,nw,T,o,rfl,⟨a,w,c,vs,rfl,h1,h2,h3,h4⟩,g,ho,iC,mC,q⟩:=h;have aD:(["place", "cells"]:TJ).Nodup:=∅;have nd1:(["old", "news"]:TJ).Nodup:=∅;have eN:(["one", "old", "T"]:TJ).Nodup:=∅;refine⟨_,(GE (GF 3 jN.nd O (Or.inl O) (GG Gx) O (by ac_nf)) (GE (G3 BG O (GY K (GO (GP K O) (Gs 0 O O) GB (λ_ _=>rfl)) O) (GZ K 3 O (G0 (Gu 4 jN.nd O O) (G0 (Gu 5 jN.nd O O) (G0 (@Qz _ _ 6 _ jN.nd O (Or.inr O) (by ac_nf)) G1 O) O) O) O O O) (GE (G7 ["place", "cells"] [none,some 6] 7 (by show zC Gg (zm ZX) _ _ _;ac_nf0) O (G4 K (GD aq hr ⋯ O (Gq (GO (GP K O) (Gs 0 O O) GB (λ_ _=>rfl)) (Gq (Gs 1 O O) (Gq (Gs 5 O O) Gx O) O) O) ∅ O O) O) (λ_ _ _ _=>(Gu 0 aD O O)) Kl (λ_ _ _ _=>(GO (GP K O) (Gs 1 O O) (Gs 0 O O) (λ_ _=>rfl))) jN.nd O O O nofun) (Gm (GQ (GR K Ap Ba BZ Ke (Gs 3 O O) (Gq (G2 (Gq (Gs 4 O O) (Gq (Gs 5 O O) (Gq (GX (Kb K O) O gb.tuple zG (Gq (Gr ["old", "news"] [none,some 2] (by show zC Gg (zm ZX) _ _ _;ac_nf0) O (G4 K (Gs 7 O O) O) (λ_ _ _ _=>(Gu 0 nd1 O O)) Kl (λ_ _ _ _=>(GO (GP K O) (Gs 1 O O) (Gs 0 O O) (λ_ _=>rfl))) nofun) Gx O) ∅ ∅ O O) Gx O) O) O)) Gx O) O O O O O O) O))) nofun) (GE (G7 ["one", "old", "T"] [none,none,some 0] 8 (by show zC Gg (zm ZX) _ _ _;ac_nf0) O (@kpi_enum _ K _ _ _ _ _ _ _ O gb.enumerate (Gq (Gs 1 O O) Gx O) O O) (λ_ _ _ _=>(GZ K 2 O (G0 (Gu 0 eN O O) (G0 (Gu 1 eN O O) G1 O) O) O O O)) (λ_ _ _ _=>(Kf (GJ (@ZQ _ K O) (Gs 1 O O) (GO (GP K O) (Gs 2 O O) GB (λ_ _=>rfl)) (by with_unfolding_all rfl)))) (λ_ _ _ _=>(Gs 0 O O)) jN.nd O O O nofun) (Gm (Gn (G2 (Gq (Gp (GA K O) O gb.len jI (Gq (Gs 1 O O) Gx O) ∅ ∅ O O) (Gq (GX (Kb K O) O gb.tuple zG (Gq (Gs 8 O O) Gx O) ∅ ∅ O O) (Gq (GX (Kb K O) O gb.tuple zG (Gq (Gs 3 O O) Gx O) ∅ ∅ O O) Gx O) O) O))))))),?_⟩;have il:(Tn.inv T.m o).length=T.m:=Tn.inv_len _ _;have m9:=g.m9;refine⟨zy (by show 0<=1000;decide),λcn dU=>?_⟩;have n0:=zf dU (.lst []);refine⟨_,O,.inr (.inl ⟨a,_,2,_,O,O,TU (n0 _ _ h1),O,c,O,⟨_,TU (n0 _ _ h3)⟩,?_⟩)⟩;refine QC (xs:=vs) (λi σ H'=>(∃x1 x2 x3 x4 x5,σ=[some (.ref a),some (.ref ol),some (.ref nw),some (.ref cn),x1,x2,x3,x4,x5])/\zH H H'/\∃ys,H' cn=some (.lst ys)/\Cns H' ((T.cs.take i).map λc=>⟨c.nm,c.pl,Tn.tc T.m o c.pl c.cs⟩) ys) ⟨⟨_,_,_,_,_,O⟩,n0,[],ze,.nil⟩ (λi σ H' _ h=>TU (h.2.1 _ _ h3)) ?_ ?_
 ·rintro i x σ H1 hx ⟨⟨x1,x2,x3,x4,x5,rfl⟩,s1,ys,hy,hC⟩;have hi:i<T.cs.length:=by rw[h4.len];exact (AD.mp hx).1
  have cx:T.cs[i]?=some T.cs[i]:=AC hi;generalize T.cs[i]=cc at cx;obtain⟨nl,p2,gG⟩:=g.cn cc (AL cx);obtain⟨t,u,e1,k1,k2⟩:=h4.get cx;rw[hx]at e1;cases e1;refine⟨t,_,O,TU (s1 _ _ k1),O,_,_,O,_,_,O,_,_,O,O,?_⟩;refine⟨_,O,.inr (.inl ⟨a,_,0,_,O,O,TU (s1 _ _ h1),O,_,O,_,O,ol,T.m,cc.pl,Tn.inv T.m o,O,m9,p2,s1 _ _ iC,⋯,λl H2 s2 h2=>?_⟩)⟩;refine⟨l,O,⟨_,TR h2⟩,λD hD=>?_⟩;have IE:(Tn.pls T.m (Tn.inv T.m o) cc.pl).length<=81:=by rw[Tn.pls_len,il];exact JH m9 p2
  refine ZR (Tn.pls T.m (Tn.inv T.m o) cc.pl) nV (λp=>nV (Tn.at' cc.cs p)) h2 ⋯ hD (λz hz H' Q' s3 q'=>?_) (λH3 s3 aB=>?_)
  ·have gZ:=Tn.pls_lt il (λx hx=>ho.inv.lt x hx) cc.pl z hz;exact⟨_,O,_,O,.inr (.inl ⟨u,_,_,_,O,O,TU (s3 _ _ (s2 _ _ (s1 _ _ k2))),JI (by rw[gG.len];exact gZ),q' H' zH.rfl'⟩)⟩
  have va:=s1.trans (s2.trans s3);have lN:=s3 _ _ (s2 _ _ hy);refine⟨_,O,.inl ⟨O,_,TR lN⟩,_,O,_,O,_,O,D,O,⟨_,TR aB⟩,λD2 cF=>?_⟩;refine ZR (Tn.pls T.m (Tn.inv T.m o) cc.pl) (λp=>nV (Tn.at' cc.cs p)) (λp=>nV (Tn.at' o (Tn.at' cc.cs p))) aB ⋯ cF (λz hz H' Q' s4 q'=>?_) (λH4 s4 bV=>?_)
  ·have gZ:=Tn.pls_lt il (λx hx=>ho.inv.lt x hx) cc.pl z hz;exact⟨_,O,_,O,.inr (.inl ⟨nw,_,_,_,O,O,TU (s4 _ _ (va _ _ mC)),JI (by rw[ho.len];exact gG.at_lt gZ),q' H' zH.rfl'⟩)⟩
  refine⟨D2,_,O,.inl ⟨TR bV,λt2 bS=>?_⟩⟩;have MT:(Tn.pls T.m (Tn.inv T.m o) cc.pl).map (λp=>nV (Tn.at' o (Tn.at' cc.cs p)))=(Tn.tc T.m o cc.pl cc.cs).map nV:=by unfold Tn.tc;rw[AW];rfl
  rw[MT]at *;have n5:=zf bS (.tup ((Tn.tc T.m o cc.pl cc.cs).map nV));refine⟨zy (by show 3<=1000;decide),λt3 df=>?_⟩;have n6:=zf df (.tup [.str cc.nm,nV cc.pl,.ref t2]);have p8:=s4.trans (n5.trans n6);have vM:=p8 _ _ lN;have fD:=hC.len;rw[AB,Ae]at fD;have kI:=g.cl;refine⟨cn,_,_,O,O,vM,zt ⋯,⟨⟨_,_,_,_,_,O⟩,(va.trans p8).put dU,_,ze,?_⟩⟩;rw[take_snoc cx,AO];exact (Tc (c:=⟨cc.nm,cc.pl,Tn.tc T.m o cc.pl cc.cs⟩) (hC.same (s2.trans (s3.trans p8))) ze (n6 _ _ ze)).tk (TY vM)
 ·rintro σ H1 ⟨⟨x1,x2,x3,x4,x5,rfl⟩,s1,ys,hy,hC⟩;rw[show T.cs.take vs.length=T.cs by rw[<- h4.len,Ak]]at hC;refine⟨_,O,ol,_,O,TR (s1 _ _ iC),λD hD=>?_⟩;refine XT (xs:=(Tn.inv T.m o).map nV) (more:=[some (.ref a)]) (λi zs H'=>zH H1 H'/\zs=((List.range i).filter λj=>decide (Tn.at' (Tn.inv T.m o) j∈T.ws)).map nV) ⟨zf hD _,O⟩ (λi zs H' h _=>TR (h.1 _ _ (s1 _ _ iC))) ?_ ?_
  ·rintro i zs H2 U x hx ⟨s2,rfl⟩ aK hU;have hi:i<((Tn.inv T.m o).map nV).length:=(AD.mp hx).1;have hi2:i<(Tn.inv T.m o).length:=by rw[AB]at hi;exact hi
   have ex:x=nV (Tn.at' (Tn.inv T.m o) i):=by rw[AG,AC hi2]at hx;unfold Tn.at';rw[AM,AC hi2];exact (AH hx).symm
   subst ex;have n3:=zf hU (.tup [nV i,nV (Tn.at' (Tn.inv T.m o) i)]);have s3:=s2.trans n3;have aB:=n3 _ _ aK;have zl:(((List.range i).filter λj=>decide (Tn.at' (Tn.inv T.m o) j∈T.ws)).map nV).length<=9:=by rw[AB];have:=C8 (λj=>decide (Tn.at' (Tn.inv T.m o) j∈T.ws)) (List.range i);rw[AU]at this;lia
   refine⟨_,O,_,O,.inr (.inl ⟨a,_,1,_,O,O,TU (s3 _ _ (s1 _ _ h1)),O,w,_,O,.inr (TU (s3 _ _ (s1 _ _ h2))),O,qt _,_,O,?_⟩)⟩;dsimp only;rw[if_neg AV,Wt];by_cases hm:Tn.at' (Tn.inv T.m o) i∈T.ws
   ·rw[if_pos (Am hm)];refine⟨_,O,Zx hi ⟨_,_,O⟩ aB (zt ⋯) ⟨s3.put hD,?_⟩⟩;rw[BH,CI,AO];simp[hm]
   ·rw[if_neg (by rw[Ag hm];exact AV)];refine cno hi ⟨_,_,O⟩ aB ⟨s3,?_⟩;rw[BH,CI,AO];simp[hm]
  ·rintro zs H2 ⟨s2,rfl⟩ aK;rw[AB,il]at aK;refine⟨_,O,_,_,O,.inl ⟨_,TR (s2 _ _ (s1 _ _ iC)),O⟩,?_⟩;refine⟨_,O,D,_,O,.inl ⟨TR aK,λtw ir=>?_⟩⟩;have n3:=zf ir (.tup ((Tn.tw T.m o T.ws).map nV));refine⟨_,O,cn,_,O,.inl ⟨TR (n3 _ _ (s2 _ _ hy)),λtc eQ=>?_⟩⟩;have n4:=zf eQ (.tup ys);refine⟨zy (by show 3<=1000;decide),λt KG=>?_⟩;have el:(((Tn.inv T.m o).map nV).length:Int)=(T.m:Int):=by rw[AB,il]
   have n5:=zf KG (.tup [nV T.m,.ref tw,.ref tc]);dsimp only;rw[el];refine q _ _ (s1.trans (s2.trans (n3.trans (n4.trans n5)))) ⟨t,tw,tc,ys,O,ze,n5 _ _ (n4 _ _ ze),n5 _ _ ze,hC.same (s2.trans (n3.trans (n4.trans n5)))⟩
abbrev Jd:Stmt:=top 40
def zbv:zD ["T", "order"] ["T", "order"] (zm Jd):=⟨rfl,rfl,rfl,∅,rfl,∅,∅⟩
def zbw (F:Fun K "turned" "turned" Jd f fd) (gb:Gb mg) {c:Nat->Addr}(cl:Cl K mg c) (b7:Def P w K mg base 3 "remade" ["T", "olds", "news"] zbk):jo P w K mg base CX0 4 f fd ["T", "order"] YB:=by
 refine F.ok zbv (λvs H Q E h=>?_) (λaC A outer s H vs Q E hr h=>?_)
 ·obtain⟨v,nw,T,o,rfl,_⟩:=h;rfl
 obtain⟨v,nw,T,o,rfl,ih,g,ho,mC,q⟩:=h;have aD:(["one", "order"]:TJ).Nodup:=∅;refine⟨_,(Gm (Gn (GD b7 hr ⋯ O (Gq (Gs 0 O O) (Gq (Gr ["one", "order"] [none,some 1] (by show zC ["T", "order"] (zm Jd) _ _ _;ac_nf0) O (G8 O gb.range (Gq (GO (GP K O) (Gs 0 O O) GB (λ_ _=>rfl)) Gx O) O) (λ_ _ _ _=>(Gu 0 aD O O)) Kl (λ_ _ _ _=>(GR K PySem.F.plainAttrs_tuple PySem.F.slot_tuple_index PySem.F.type_tuple_index (@XR _) (Gs 1 O O) (Gq (Gs 0 O O) Gx O) O O O O O O)) nofun) (Gq (Gs 1 O O) Gx O) O) O) ∅ O O))),?_⟩;obtain⟨a,w,c,vs,rfl,h1,h2,h3,h4⟩:=id ih;have m9:=g.m9;refine⟨_,O,_,O,.inr (.inl ⟨a,_,0,_,O,O,TU h1,O,(T.m:Int),O,⋯,⋯,λD hD=>?_⟩)⟩;rw[Av];refine zT (λi ys H'=>zH H H'/\ys=((List.range i).map λj=>o.idxOf j).map nV) ⟨zf hD _,O⟩ ?_ ?_
 ·rintro i ys H1 hi ⟨s1,rfl⟩ aM;have hm:=ho.mem hi;have aA:=CA hm;refine yes ⟨_,O,.inr (.inr (.inr (.inr ⟨O,_,s1 _ _ mC⟩))),_,O,nw,_,_,o.idxOf i,O,O,s1 _ _ mC,O,qt _,⟨nV i,?_,?_⟩,λm v gq hv=>?_,?_⟩
  ·rw[AG,AC aA,C0];rfl
  ·rw[Bf];simp[eqV]
  ·rw[AG]at hv;obtain⟨b,hb,rfl⟩:=Aj.mp hv;rw[Bf];have F6:=(AD.mp hb).1;have nb:b≠i:=λz=>by rw[z]at hb;have h5:=ho.nd.idxOf_getElem m F6;rw[AC F6]at hb;rw[AH hb]at h5;lia
   simp[eqV];lia
  ·refine Zx hi qG aM (by rw[AB,AB,AU];exact zt ⋯) ⟨s1.put hD,?_⟩;rw[BH,AO,AO];rfl
 ·rintro ys H1 ⟨s1,rfl⟩ aM;exact⟨_,O,_,D,nw,T,o,O,ih.same s1,g,ho,aM,s1 _ _ mC,λu H2 s2 hu=>q u H2 (s1.trans s2) hu⟩
abbrev QJ:Stmt:=top 46
def Zt:zD ["_law_script", "_law_place", "_law_cell", "_law_one"] ["_law_script", "_law_place"] (zm QJ):=⟨rfl,rfl,rfl,∅,rfl,∅,∅⟩
def YH (F:Fun K "_law_well" "_law_well" QJ f fd) (gb:Gb mg) {c:Nat->Addr}(cl:Cl K mg c):jo P w K mg base CX0 1 f fd ["_law_script", "_law_place"] (zaP K):=by
 refine F.ok Zt (λvs H Q E h=>?_) (λaC A outer s H vs Q E hr h=>?_)
 ·obtain⟨a,ns,pl,rfl,_⟩:=h;rfl
 obtain⟨a,ns,pl,rfl,hS,hn,q⟩:=h;refine⟨_,(GE (GF 2 Zt.nd O (Or.inl O) GB O (by ac_nf)) (GE (G3 BG O (G4 K (GT (@Z6 _ K O) (Gs 0 O O) (GU (Gs 1 O O)) (GU (GI G9 (Gs 1 O O) GB))) O) (Gu 3 Zt.nd O O) (Gm (GF 2 Zt.nd O (Or.inl O) (Gs 3 O O) O (by ac_nf))) nofun) (GE (GK (G5 (Kk (GJ (@op_lt _) (Gs 2 O O) GB (GC ∅ ∅)) (@pw_or1 _ _ _ _ (GJ (@op_ge _) (Gs 2 O O) (GI (@op_pow _) GB GB) (GC ∅ ∅))))) (Gm (Gn (GG (Gq GB (Gq (Gp (@call_abs _) O gb.abs bt_abs (Gq (Gs 2 O O) Gx O) ∅ ∅ O O) Gx O) O)))) GW) (Gm (Gn (GG (Gq GB (Gq (GI G9 (GI Kj (GI G9 (GI Kj (Gs 2 O O) GB) (GI Ka GB (Gs 1 O O))) GB) GB) Gx O) O))))))),?_⟩;refine⟨_,O,_,O,_,O,_,O,_,_,O,O,_,O,.inl ⟨a,_,O,hS,λy hy=>?_⟩⟩;obtain⟨ms,em⟩:=cut_ints ns (some pl) (some (pl+1));rw[em]at *;refine⟨y,O,⟨_,TR ze⟩,?_⟩;refine jq (xs:=ms.map V.int) (λ_ σ H'=>(∃(c:Int) (x:Option V),σ=[some (.ref a),some (.int pl),some (.int c),x])/\zH H H'/\H' y=some (.lst (ms.map V.int))) ⟨⟨_,_,O⟩,zf hy _,ze⟩ (λi σ H' _ h=>TR h.2.2) ?_ ?_
 ·rintro i x σ H1 hx ⟨⟨c,x',rfl⟩,s1,h1⟩;rw[AG]at hx;obtain⟨cv,_,rfl⟩:=Aj.mp hx;exact⟨_,O,⟨_,_,O⟩,s1,h1⟩
 ·rintro σ H1 ⟨⟨c,x',rfl⟩,s1,h1⟩
  walk_at "rd"
  refine ww (λc1=>?_) (λc1=>?_)
  ·walk_at "rd"
   exact⟨zy (by show 2<=1000;decide),λp hp=>q p _ (s1.free hp) (s1.trans (zf hp _)) Wel.put⟩
  ·walk_at "rd"
   refine ww (λc2=>?_) (λc2=>?_)
   ·walk_at "rd"
    exact⟨zy (by show 2<=1000;decide),λp hp=>q p _ (s1.free hp) (s1.trans (zf hp _)) Wel.put⟩
   ·walk_at "rd"
    exact⟨zy (by show 2<=1000;decide),λp hp=>q p _ (s1.free hp) (s1.trans (zf hp _)) Wel.put⟩
abbrev QK:Stmt:=top 47
def jO:zD ["_law_well_here", "_law_many", "_law_found", "_law_turn", "_law_upper", "_law_lower"] ["_law_well_here", "_law_many"] (zm QK):=⟨rfl,rfl,rfl,∅,rfl,∅,∅⟩
def YI (F:Fun K "_law_draw" "_law_draw" QK f fd) (gb:Gb mg) {c:Nat->Addr}(cl:Cl K mg c):jo P w K mg base CX0 1 f fd ["_law_well_here", "_law_many"] ZJ:=by
 refine F.ok jO (λvs H Q E h=>?_) (λaC A outer s H vs Q E hr h=>?_)
 ·obtain⟨p,m,rfl,_⟩:=h;rfl
 obtain⟨p,m,rfl,w,m0,m1,q⟩:=h;refine⟨_,(GE (GK (GJ Gz (GO (GP K O) (Gs 0 O O) GB (λ_ _=>rfl)) GB (GC ∅ ∅)) (GE (GF 2 jO.nd O (Or.inl O) (GI Kj (GO (GP K O) (Gs 0 O O) GB (λ_ _=>rfl)) (Gs 1 O O)) O (by ac_nf)) (GE (@Xo _ _ _ _ _ _ (GI (@Z5 _) (GO (GP K O) (Gs 0 O O) GB (λ_ _=>rfl)) (Gs 1 O O)) (@pg_sub _ _ _ _ _ _ _ (Gs 0 O O) GB (@YR _) nofun) O O O) (Gm (Gn (Gs 2 O O))))) GW) (GE (G3 BG O (G8 O gb.range (Gq GB Gx O) O) (Gu 3 jO.nd O O) (GE (@Xo _ _ _ _ _ _ (Gp (@yX _) O gb.divmod XU (Gq (GO (GP K O) (Gs 0 O O) GB (λ_ _=>rfl)) (Gq GB Gx O) O) ∅ ∅ O O) (GZ K 2 O (G0 (Gu 4 jO.nd O O) (G0 (Gu 5 jO.nd O O) G1 O) O) O O O) O O O) (Gm (@Xo _ _ _ _ _ _ (GI Kj (GI G9 (GI G9 (GI Ka (Gs 5 O O) GB) (GI Ka (Gs 4 O O) GB)) GB) GB) (@pg_sub _ _ _ _ _ _ _ (Gs 0 O O) GB (@YR _) nofun) O O O))) nofun) (Gm (Gn (GI Kj (GI (@Z5 _) (GO (GP K O) (Gs 0 O O) GB (λ_ _=>rfl)) GB) (Gs 1 O O)))))),?_⟩;obtain⟨x,y,hp⟩:=id w;refine⟨_,O,.inl ⟨p,_,0,_,O,O,TR hp,O,O,_,O,ww (λc=>?_) (λc=>?_)⟩⟩
 ·walk_at "rd"
  have e:=Int.emod_nonneg y (show (m:Int)≠0 by lia);have l:=Int.emod_lt_of_pos y (show (0:Int)<m by lia);have q1:=q (y%(m:Int)).toNat _ ⋯ (Off.put (o:=.lst [.int x,.int (y/(m:Int))])) ⟨_,_,ze⟩;rw[show nV (y%(m:Int)).toNat=V.int (y%(m:Int)) by show V.int _=_;rw[Int.toNat_of_nonneg e]]at q1;exact q1
 ·refine⟨2,O,by decide,by decide,?_⟩;refine Qg (λ_ σ H'=>(∃x2 x3 x4 x5,σ=[some (.ref p),some (.int (m:Int)),x2,x3,x4,x5])/\Off p H H'/\Wel H' p) ⟨⟨_,_,_,_,O⟩,Off.refl,w⟩ ?_ ?_
  ·rintro i σ H1 hi ⟨⟨x2,x3,x4,x5,rfl⟩,o1,⟨a,b,h1⟩⟩;refine⟨_,O,.inl ⟨p,_,1,_,O,O,TR h1,O,_,_,O,⟨by decide,by decide⟩,λt ht=>?_⟩⟩;refine⟨t,_,O,TU ze,O,_,_,O,_,_,O,O,?_⟩;have h2:=zf ht (.tup [.int (b/4099),.int (b%4099)]) _ _ h1
   walk_at "rd"
   exact⟨⟨_,_,_,_,O⟩,(o1.trans (TZ (zf ht _))).trans Off.put,Wel.put⟩
  ·rintro σ H1 ⟨⟨x2,x3,x4,x5,rfl⟩,o1,⟨a,b,h1⟩⟩
   walk_at "rd"
   have e:=Int.emod_nonneg (b/5) (show (m:Int)≠0 by lia);have l:=Int.emod_lt_of_pos (b/5) (show (0:Int)<m by lia);have q1:=q (b/5%(m:Int)).toNat _ ⋯ o1 ⟨a,b,h1⟩;rw[show nV (b/5%(m:Int)).toNat=V.int (b/5%(m:Int)) by show V.int _=_;rw[Int.toNat_of_nonneg e]]at q1;exact q1
abbrev jP:Stmt:=top 48
def qI:zD ["_law_well_here", "_law_many", "_law_signs", "_law_first", "_law_pick", "_law_some", "_law_size", "_law_at"] ["_law_well_here", "_law_many"] (zm jP):=⟨rfl,rfl,rfl,∅,rfl,∅,∅⟩
def yL (F:Fun K "_law_names" "_law_names" jP f fd) (gb:Gb mg) {c:Nat->Addr}(cl:Cl K mg c) (aa:Def P w K mg base 1 "_law_draw" ["_law_well_here", "_law_many"] ZJ):jo P w K mg base CX0 2 f fd ["_law_well_here", "_law_many"] Yo:=by
 refine F.ok qI (λvs H Q E h=>?_) (λaC A outer s H vs Q E hr h=>?_)
 ·obtain⟨p,k,rfl,_⟩:=h;rfl
 obtain⟨p,k,rfl,w,k8,q⟩:=h;have aD:(["_law_k", "_law_signs", "_law_first"]:TJ).Nodup:=∅;have nd1:(["_law_k", "_law_at", "_law_signs", "_law_first", "_law_size"]:TJ).Nodup:=∅;refine⟨_,(GE (GF 2 qI.nd O (Or.inr O) Gw O (by ac_nf)) (GE (GF 3 qI.nd O (Or.inr O) (GD aa hr ⋯ O (Gq (Gs 0 O O) (Gq GB Gx O) O) ∅ O O) O (by ac_nf)) (GE (GF 4 qI.nd O (Or.inl O) (GD aa hr ⋯ O (Gq (Gs 0 O O) (Gq GB Gx O) O) ∅ O O) O (by ac_nf)) (GE (GK (GJ Gz (Gs 4 O O) GB (GC ∅ ∅)) (GE (GF 5 qI.nd O (Or.inl O) (GG (Gq Gw (Gq Gw (Gq Gw (Gq Gw (Gq Gw (Gq Gw (Gq Gw (Gq Gw Gx O) O) O) O) O) O) O) O)) O (by ac_nf)) (Gm (Gn (GT (@Z6 _ K O) (GI (@XG _) (GT (@Z6 _ K O) (Gs 5 O O) (GU (GI Kj (Gs 3 O O) GB)) GV) (GT (@Z6 _ K O) (Gs 5 O O) GV (GU (GI Kj (Gs 3 O O) GB)))) GV (GU (Gs 1 O O)))))) GW) (GE (GK (GJ Gz (Gs 4 O O) GB (GC ∅ ∅)) (Gm (Gn (GI (@XG _) (GT (@Z6 _ K O) (Gr ["_law_k", "_law_signs", "_law_first"] [none,some 2,some 3] (by show zC Gh (zm jP) _ _ _;ac_nf0) O (G8 O gb.range (Gq GB Gx O) O) (λ_ _ _ _=>(Gu 0 aD O O)) Kl (λ_ _ _ _=>(GI (@Wc _) (GO (GP K O) (Gs 1 O O) (Gs 2 O O) (λ_ _=>rfl)) (GI G9 (Gs 0 O O) GB))) nofun) GV (GU (Gs 1 O O))) (GI (@op_repL _ K) (GG (Gq (GI (@Wc _) (GO (GP K O) (Gs 2 O O) (GI (@WV _) (Gs 3 O O) GB) (λ_ _=>rfl)) GB) Gx O)) (GX (@Xy _) O gb.int bt_int (Gq (Gy Gz (Gs 1 O O) GB (GC ∅ ∅)) Gx O) ∅ ∅ O O))))) GW) (GE (GF 6 qI.nd O (Or.inr O) (GI G9 GB (GD aa hr ⋯ O (Gq (Gs 0 O O) (Gq GB Gx O) O) ∅ O O)) O (by ac_nf)) (GE (GF 7 qI.nd O (Or.inr O) (GD aa hr ⋯ O (Gq (Gs 0 O O) (Gq (GI G9 (Gs 6 O O) GB) Gx O) O) ∅ O O) O (by ac_nf)) (Gm (Gn (Gr ["_law_k", "_law_at", "_law_signs", "_law_first", "_law_size"] [none,some 7,some 2,some 3,some 6] (by show zC Gh (zm jP) _ _ _;ac_nf0) O (G8 O gb.range (Gq (Gs 1 O O) Gx O) O) (λ_ _ _ _=>(Gu 0 nd1 O O)) Kl (λ_ _ _ _=>(GI (@wv _) (GI (@wv _) (GI (@Wc _) Gw (Gs 1 O O)) (GO (GP K O) (Gs 2 O O) (GI Kj (GI G9 (Gs 3 O O) (Gs 0 O O)) GB) (λ_ _=>rfl))) (GI (@Wc _) Gw (GI (@WV _) (Gs 4 O O) (Gs 1 O O))))) nofun)))))))))),?_⟩;refine⟨_,O,p,26,O,w,by decide,by decide,λf H1 f1 o1 w1=>?_⟩;refine⟨_,O,p,3,O,w1,by decide,by decide,λg H2 g1 o2 w2=>?_⟩;have rq:=o1.trans o2;refine⟨_,O,O,_,O,ww (λc=>?_) (λc=>?_)⟩
 ·refine⟨zy (by show 8<=1000;decide),λL hL=>?_⟩;have hN:=rot8 f;have hT:TL 8 [.str "and",.str "or",.str "not",.str "then",.str "grades",.str "wished",.str "false",.str "true"]:=⟨["and", "or", "not", "then", "grades", "wished", "false", "true"],rfl,by decide,∅⟩
  generalize ([.str "and",.str "or",.str "not",.str "then",.str "grades",.str "wished",.str "false",.str "true"]:List V)=xs at *;have n1:=zf hL (.lst xs);refine⟨_,O,_,O,_,_,O,O,(show (0:Int)<8 by decide),_,O,.inl ⟨L,_,O,TR ze,λy hy=>?_⟩⟩;have n2:=zf hy (.lst (ZF xs (some ((f:Int)%8)) none));refine⟨_,O,_,O,_,_,O,O,(show (0:Int)<8 by decide),_,O,.inl ⟨L,_,O,TR (n2 _ _ ze),λz hz=>?_⟩⟩;have n3:=zf hz (.lst (ZF xs none (some ((f:Int)%8))));have t1:=hT.cut (some ((f:Int)%8)) none;have t2:=hT.cut none (some ((f:Int)%8));have l1:=t1.len;have l2:=t2.len;refine⟨y,z,_,_,O,O,n3 _ _ ze,ze,zy ⋯,λv hv=>?_⟩;have n4:=zf hv (.lst (ZF xs (some ((f:Int)%8)) none++ZF xs none (some ((f:Int)%8))));refine⟨_,O,_,O,.inl ⟨v,_,O,TR ze,λr cy=>?_⟩⟩;have n5:=zf cy (.lst (ZF (ZF xs (some ((f:Int)%8)) none++ZF xs none (some ((f:Int)%8))) none (some (k:Int))));have sN:=n1.trans (n2.trans (n3.trans (n4.trans n5)));exact q r _ _ (rq.trans (TZ sN)) (w2.same sN) ze ((t1.app t2).cut _ _) (nd_cut hN _ _) (by rw[za9,Ae];lia) (An ((w2.same (n1.trans (n2.trans (n3.trans n4)))).ne cy))
 refine⟨_,O,O,_,O,ww (λc=>?_) (λc=>?_)⟩
 ·refine⟨7,O,by decide,by decide,λD hD=>?_⟩;obtain⟨cc,ec⟩:=Yn (i:=(f:Int)) ⋯ ⋯;refine zT (λi ys H'=>zH H2 H'/\TL i ys/\ys=(List.range i).map (nm1 cc)) ⟨zf hD _,⟨[],O,AI _,λy h=>by cases h⟩,O⟩ ?_ ?_
  ·rintro i ys H3 hi ⟨s3,t3,ey⟩ aB;have i7:i<7:=hi;refine yes ⟨_,O,_,O,.inr (.inr ⟨Ym,_,cc,O,O,zy ∅,ec,_,O,_,_,O,O,_,_,O,O,⋯,⋯,(show (Str.mk #[cc]).length<=10 from (show 1<=10 by decide)),?_⟩)⟩;have l3:=t3.len;refine Zx hi qG aB (zt ⋯) ⟨s3.put hD,?_,by rw[ey,BH,AO];rfl⟩;refine t3.app ⟨[_],O,AI _,λy hy=>?_⟩;rw[AN.mp hy];refine Ar (Wg _ _) ?_;show 1*_<=100;lia
  ·rintro ys H3 ⟨s3,t3,ey⟩ aB;have hN:ys.Nodup:=by rw[ey];exact nm1_nd _ _
   refine⟨_,O,_,O,.inl ⟨D,_,O,TR aB,λy hy=>?_⟩⟩;have n1:=zf hy (.lst (ZF ys none (some (k:Int))));obtain⟨cd,ed⟩:=Yn (i:=(f:Int)-1) ⋯ ⋯;refine⟨_,O,_,O,_,_,O,O,.inr (.inr ⟨Ym,_,cd,O,O,zy ∅,ed,_,_,O,O,by decide,by decide,(show (Str.mk #[cd]).length<=10 from (show 1<=10 by decide)),zy (by show 1<=1000;decide),λz hz=>?_⟩)⟩;have n2:=zf hz (.lst [.str (Txt.mul (Str.mk #[cd]) 2)]);have tz:TL 1 [.str (Txt.mul (Str.mk #[cd]) 2)]:=⟨[_],rfl,AI _,λy hy=>by rw[AN.mp hy];exact Ar (Wg _ _) (by show 1*2<=100;decide)⟩
   refine⟨_,O,O,.inr ⟨_,O,z,_,_,O,O,ze,by split <;> decide,by split <;> decide,by (show 1*_<=1000;split <;> decide),λv hv=>?_⟩⟩;dsimp only at hv ⊢;have kR:TL 1 (List.replicate (if decide (V.int (k:Int)=V.int 8)=true then (1:Int) else 0).toNat [V.str (Txt.mul (Str.mk #[cd]) 2)]).flatten:=by
    split
    ·exact tz
    ·exact⟨[],O,by decide,λy h=>by cases h⟩
   have LU:(ZF ys none (some (k:Int))++(List.replicate (if decide (V.int (k:Int)=V.int 8)=true then (1:Int) else 0).toNat [V.str (Txt.mul (Str.mk #[cd]) 2)]).flatten).Nodup:=by
    rw[DE];refine⟨nd_cut hN _ _,?_,λx hx z hz e=>?_⟩
    ·split
     ·show ([V.str (Txt.mul (Str.mk #[cd]) 2)]:List V).Nodup;simp
     ·exact List.nodup_nil
    ·have bX:z=V.str (Txt.mul (Str.mk #[cd]) 2):=by
      revert hz
      split
      ·intro hz;exact AN.mp hz
      ·intro hz;cases hz
     have dM:=zaZ hx;rw[ey]at dM;obtain⟨jj,_,rfl⟩:=AK.mp dM;rw[bX,sg_of ec,sg_of ed]at e;exact nm1_z ⋯ jj e
   generalize (List.replicate (if decide (V.int (k:Int)=V.int 8)=true then (1:Int) else 0).toNat [V.str (Txt.mul (Str.mk #[cd]) 2)]).flatten=zs at *;have n3:=zf hv (.lst zs);have t1:=t3.cut none (some (k:Int));have l1:=t1.len;have l2:=kR.len;refine⟨y,v,_,_,O,O,n3 _ _ (n2 _ _ ze),ze,zy (by show _<=1000;have:(7:Int).toNat=7:=rfl;lia),λr cy=>?_⟩;have n4:=zf cy (.lst (ZF ys none (some (k:Int))++zs));have sN:=s3.trans (n1.trans (n2.trans (n3.trans n4)));exact q r _ _ (rq.trans (TZ sN)) (w2.same sN) ze ((t1.app kR).mono ∅) LU (by rw[AJ,za9,Ae];lia) (An ((w2.same (s3.trans (n1.trans (n2.trans n3)))).ne cy))
 refine⟨_,O,p,7,O,w2,by decide,by decide,λsz H3 z1 o3 w3=>?_⟩;refine⟨_,_,O,O,?_⟩;dsimp only;refine⟨_,O,_,O,_,_,O,O,p,sz+2,by (show [V.ref p,V.int (1+(sz:Int)+1)]=_;rw[show (1+(sz:Int)+1)=((sz+2:Nat):Int) by lia]),w3,⋯,⋯,λat_ H4 a1 o4 w4=>?_⟩;have IK:=rq.trans (o3.trans o4);refine⟨_,O,(k:Int),O,⋯,⋯,λD hD=>?_⟩;rw[Av];refine zT (λi ys H'=>zH H4 H'/\TL i ys/\ys=(List.range i).map (nm2 f (Txt.mul (Str.ofString "a") (at_:Int)) (Txt.mul (Str.ofString "b") (1+(sz:Int)-(at_:Int))))) ⟨zf hD _,⟨[],O,AI _,λy h=>by cases h⟩,O⟩ ?_ ?_
 ·rintro i ys H5 hi ⟨s5,t5,ey⟩ bV;obtain⟨cc,ec⟩:=Yn (i:=((f:Int)+(0+(i:Int)))%26) ⋯ ⋯;have la:=Wg (Str.ofString "a") (at_:Int);have lb:=Wg (Str.ofString "b") (1+(sz:Int)-(at_:Int));rw[show (Str.ofString "a").length=1 by ac_rfl]at la;rw[show (Str.ofString "b").length=1 by ac_rfl]at lb;refine yes ⟨_,O,_,_,O,O,⋯,⋯,∅,?_⟩;refine⟨_,O,_,O,_,O,_,_,O,O,_,_,O,O,(show (0:Int)<26 by decide),.inr (.inr ⟨Ym,_,cc,O,O,zy ∅,ec,_,_,O,O,?_,?_⟩)⟩
  ·show _+1<=_;exact zy ⋯
  refine⟨_,O,_,O,_,_,O,O,_,_,O,O,⋯,⋯,∅,_,_,O,O,?_,?_⟩
  ·rw[Yb];show _+1+_<=_;exact zy ⋯
  have l5:=t5.len;refine Zx hi qG bV (zt ⋯) ⟨s5.put hD,?_,by rw[ey,BH,AO,sg_of ec];rfl⟩;refine t5.app ⟨[_],O,AI _,λy hy=>?_⟩;rw[AN.mp hy,Yb,Yb];show _+1+_<=100;lia
 ·rintro ys H5 ⟨s5,t5,ey⟩ bV;exact q D _ _ (IK.trans (TZ s5)) (w4.same s5) bV (t5.mono ⋯) (by rw[ey];exact nm2_nd _ _ _ _ ⋯) (by have:=t5.len;lia) (An (w4.ne hD))
abbrev jp:Stmt:=top 49
def jz:zD ["_law_well_here", "_law_many", "_law_places", "_law_size", "_law_kept", "_law_found"] ["_law_well_here", "_law_many", "_law_places"] (zm jp):=⟨rfl,rfl,rfl,∅,rfl,∅,∅⟩
def yM (F:Fun K "_law_cells" "_law_cells" jp f fd) (gb:Gb mg) {c:Nat->Addr}(cl:Cl K mg c) (aa:Def P w K mg base 1 "_law_draw" ["_law_well_here", "_law_many"] ZJ):jo P w K mg base CX0 2 f fd ["_law_well_here", "_law_many", "_law_places"] Wu:=by
 refine F.ok jz (λvs H Q E h=>?_) (λaC A outer s H vs Q E hr h=>?_)
 ·obtain⟨p,m,pl,rfl,_⟩:=h;rfl
 obtain⟨p,m,pl,rfl,w,m1,m9,pl2,q⟩:=h;have aD:(["_law_k", "_law_well_here", "_law_many"]:TJ).Nodup:=∅;have nd1:(["_law_k", "_law_well_here", "_law_many"]:TJ).Nodup:=∅;have eN:(["_law_mark", "_law_kept"]:TJ).Nodup:=∅;refine⟨_,(GE (GF 3 jz.nd O (Or.inl O) (GO (GP K O) (GG (Gq GB (Gq (Gs 1 O O) (Gq (GI Ka (Gs 1 O O) (Gs 1 O O)) Gx O) O) O)) (Gs 2 O O) (λ_ _=>rfl)) O (by ac_nf)) (GE (GF 4 jz.nd O (Or.inr O) (Gr ["_law_k", "_law_well_here", "_law_many"] [none,some 0,some 1] (by show zC Gi (zm jp) _ _ _;ac_nf0) O (G8 O gb.range (Gq (GI G9 GB (GD aa hr ⋯ O (Gq (Gs 0 O O) (Gq GB Gx O) O) ∅ O O)) Gx O) O) (λ_ _ _ _=>(Gu 0 aD O O)) Kl (λ_ _ _ _=>(GD aa hr ⋯ O (Gq (Gs 1 O O) (Gq (Gs 2 O O) Gx O) O) ∅ O O)) nofun) O (by ac_nf)) (GE (G7 ["_law_k", "_law_well_here", "_law_many"] [none,some 0,some 1] 5 (by show zC Gi (zm jp) _ _ _;ac_nf0) O (G8 O gb.range (Gq (Gs 3 O O) Gx O) O) (λ_ _ _ _=>(Gu 0 nd1 O O)) Kl (λ_ _ _ _=>(GD aa hr ⋯ O (Gq (Gs 1 O O) (Gq (Gs 2 O O) Gx O) O) ∅ O O)) jz.nd O O O nofun) (GE (GK (GJ Gz (GD aa hr ⋯ O (Gq (Gs 0 O O) (Gq GB Gx O) O) ∅ O O) GB (GC ∅ ∅)) (Gm (G7 ["_law_mark", "_law_kept"] [none,some 4] 5 (by show zC Gi (zm jp) _ _ _;ac_nf0) O (G4 K (Gs 5 O O) O) (λ_ _ _ _=>(Gu 0 eN O O)) Kl (λ_ _ _ _=>(GO (GP K O) (Gs 1 O O) (GI Kj (Gs 0 O O) (Gp (GA K O) O gb.len jI (Gq (Gs 1 O O) Gx O) ∅ ∅ O O)) (λ_ _=>rfl))) jz.nd O O O nofun)) GW) (Gm (Gn (GX (Kb K O) O gb.tuple zG (Gq (Gs 5 O O) Gx O) ∅ ∅ O O))))))),?_⟩;have mp:=JH m9 pl2;refine⟨_,O,_,O,_,O,_,_,O,O,.inr ⟨⋯,⋯⟩,zy (by show 3<=1000;decide),λL hL=>?_⟩;have nL:=zf hL (.lst [.int 1,nV m,.int ((m:Int)*(m:Int))]);refine⟨_,O,.inl ⟨L,_,_,nV (m^pl),O,O,TR ze,?_,?_⟩⟩
 ·have h:pl=0\/pl=1\/pl=2:=⋯
  rcases h with rfl|rfl|rfl
  ·exact qF (by rw[FS];rfl)
  ·exact qF (by rw[D9];rfl)
  ·exact qF (by rw[Nat.pow_two,show nV (m*m)=V.int ((m:Int)*(m:Int)) by show V.int _=_;rw[Ce]];rfl)
 refine⟨_,O,p,3,O,w.same nL,by decide,by decide,λkc H1 kc1 o1 w1=>?_⟩;refine⟨_,_,O,O,_,O,⋯,⋯,λD hD=>?_⟩;rw[show (1+(kc:Int)).toNat=kc+1 by lia];have oA:=(TZ (p:=p) nL).trans o1;refine wB (m:=m) w1 hD ⋯ (λi H' Q' hi w' k'=>⟨_,O,_,O,p,m,O,w',⋯,⋯,k'⟩) (λks H2 kl kv o2 w2 aK=>?_);have pD:=w1.ne hD;refine⟨_,O,_,O,⋯,⋯,λD2 aB=>?_⟩;rw[Av];refine wB (m:=m) w2 aB ⋯ (λi H' Q' hi w' k'=>⟨_,O,_,O,p,m,O,w',⋯,⋯,k'⟩) (λfs H3 fl fv o3 w3 cF=>?_);have IF:=w2.ne aB;refine⟨_,O,p,3,O,w3,by decide,by decide,λdd H4 d1 o4 w4=>⟨O,_,O,?_⟩⟩;have v7:=o4 D _ (An pD) (o3 D _ (An pD) aK);have iO:=o4 D2 _ (An IF) cF;have oB:=oA.trans (o2.trans (o3.trans o4));refine ww (λc=>?_) (λc=>?_)
 ·refine⟨_,O,D2,O,⟨_,TR iO⟩,λD3 bV=>?_⟩;have lG:0<ks.length:=⋯;refine ZR fs nV (λx=>nV (Tn.at' ks (x%ks.length))) iO ⋯ bV (λz hz H' Q' s5 q'=>?_) (λH5 s5 cZ=>?_)
  ·have hlen:((ks.map nV).length:Int)=(ks.length:Int):=by rw[AB]
   have e:atI (ks.map nV) ((z:Int)%((ks.map nV).length:Int))=some (nV (Tn.at' ks (z%ks.length))):=by rw[hlen,<- FY];exact JI (CG _ lG)
   exact⟨_,O,_,O,_,O,_,_,O,.inl ⟨_,TR (s5 _ _ v7),O⟩,_,_,O,O,(by rw[hlen];lia),.inl ⟨D,_,_,_,O,O,TR (s5 _ _ v7),e,q' H' zH.rfl'⟩⟩
  ·refine⟨_,O,D3,_,O,.inl ⟨TR cZ,λt ht=>?_⟩⟩;have n6:=zf ht (.tup (fs.map λx=>nV (Tn.at' ks (x%ks.length))));refine q t (fs.map λx=>Tn.at' ks (x%ks.length)) _ (oB.trans (TZ (s5.trans n6))) (w4.same (s5.trans n6)) ⟨by rw[AB];exact fl,λx hx=>?_⟩ (by rw[AW];exact ze);obtain⟨y,hy,rfl⟩:=AK.mp hx;have hl:=CG y lG;unfold Tn.at';rw[AM,AC hl];exact kv _ (Cy _)
 ·refine⟨_,O,D2,_,O,.inl ⟨TR iO,λt ht=>?_⟩⟩;have n6:=zf ht (.tup (fs.map nV));exact q t fs _ (oB.trans (TZ n6)) (w4.same n6) ⟨fl,fv⟩ ze
abbrev Zu:Stmt:=top 50
def qJ:zD ["_law_well_here", "_law_most", "_law_some", "_law_many", "_law_wished", "_law_names_here", "_law_connectives", "_law_name", "_law_places"] ["_law_well_here", "_law_most", "_law_some"] (zm Zu):=⟨rfl,rfl,rfl,∅,rfl,∅,∅⟩
def yN (F:Fun K "_law_table" "_law_table" Zu f fd) (gb:Gb mg) {c:Nat->Addr}(cl:Cl K mg c) (aa:Def P w K mg base 1 "_law_draw" ["_law_well_here", "_law_many"] ZJ) (bC:Def P w K mg base 2 "_law_names" ["_law_well_here", "_law_many"] Yo) (aE:Def P w K mg base 2 "_law_cells" ["_law_well_here", "_law_many", "_law_places"] Wu):jo P w K mg base CX0 3 f fd ["_law_well_here", "_law_most", "_law_some"] Yp:=by
 refine F.ok qJ (λvs H Q E h=>?_) (λaC A outer s H vs Q E hr h=>?_)
 ·obtain⟨p,mo,so,rfl,_⟩:=h;rfl
 obtain⟨p,mo,so,rfl,w,mo1,mo9,so8,q⟩:=h;have aD:(["_law_mark", "_law_well_here"]:TJ).Nodup:=∅;refine⟨_,(GE (GF 3 qJ.nd O (Or.inl O) (GI G9 GB (GD aa hr ⋯ O (Gq (Gs 0 O O) (Gq (Gs 1 O O) Gx O) O) ∅ O O)) O (by ac_nf)) (GE (GF 4 qJ.nd O (Or.inl O) (GX (Kb K O) O gb.tuple zG (Gq (Gr ["_law_mark", "_law_well_here"] [none,some 0] (by show zC ["_law_well_here", "_law_most", "_law_some", "_law_many", "_law_wished", "_law_names_here", "_law_connectives", "_law_name", "_law_places"] (zm Zu) _ _ _;ac_nf0) O (G8 O gb.range (Gq (Gs 3 O O) Gx O) O) (λ_ _ _ _=>(Gu 0 aD O O)) (λ_ _ _ _=>(Kf (GJ Gz (GD aa hr ⋯ O (Gq (Gs 1 O O) (Gq GB Gx O) O) ∅ O O) GB (GC ∅ ∅)))) (λ_ _ _ _=>(Gs 0 O O)) nofun) Gx O) ∅ ∅ O O) O (by ac_nf)) (GE (GF 5 qJ.nd O (Or.inl O) (GD bC hr ⋯ O (Gq (Gs 0 O O) (Gq (GD aa hr ⋯ O (Gq (Gs 0 O O) (Gq (GI G9 (Gs 2 O O) GB) Gx O) O) ∅ O O) Gx O) O) ∅ O O) O (by ac_nf)) (GE (GF 6 qJ.nd O (Or.inl O) (GG Gx) O (by ac_nf)) (GE (G3 BG O (G4 K (Gs 5 O O) O) (Gu 7 qJ.nd O O) (GE (GF 8 qJ.nd O (Or.inl O) (GO (GP K O) (GG (Gq GB (Gq GB (Gq GB (Gq GB (Gq GB Gx O) O) O) O) O)) (GD aa hr ⋯ O (Gq (Gs 0 O O) (Gq GB Gx O) O) ∅ O O) (λ_ _=>rfl)) O (by ac_nf)) (Gm (GQ (GR K Ap Ba BZ Ke (Gs 6 O O) (Gq (G2 (Gq (Gs 7 O O) (Gq (Gs 8 O O) (Gq (GD aE hr ⋯ O (Gq (Gs 0 O O) (Gq (Gs 3 O O) (Gq (Gs 8 O O) Gx O) O) O) ∅ O O) Gx O) O) O)) Gx O) O O O O O O) O))) nofun) (Gm (Gn (G2 (Gq (Gs 3 O O) (Gq (Gs 4 O O) (Gq (GX (Kb K O) O gb.tuple zG (Gq (Gs 6 O O) Gx O) ∅ ∅ O O) Gx O) O) O))))))))),?_⟩;refine⟨_,O,_,O,p,mo,O,w,⋯,⋯,λmm H1 IZ o1 w1=>?_⟩;refine⟨_,_,O,O,?_⟩;dsimp only;rw[show (1+(mm:Int))=((mm+1:Nat):Int) by lia];refine⟨_,O,((mm+1:Nat):Int),O,⋯,⋯,λD hD=>?_⟩;rw[Av];have pD:=w1.ne hD;refine zT (λi ys H'=>∃ws:TC,ys=ws.map nV/\ws.Pairwise (·<·)/\(∀x∈ws,x<i)/\ws.length<=i/\Off p H1 H'/\Wel H' p) ⟨[],O,.nil,(λx h=>by cases h),AI _,TX hD,w1.off pD⟩ ?_ ?_
 ·rintro i ys H2 hi ⟨ws,rfl,wr,wl,wn,o2,w2⟩ aK;refine⟨_,O,p,2,O,w2,by decide,by decide,λv H3 v1 o3 w3=>⟨O,_,O,?_⟩⟩;have aB:=o3 D _ (An pD) aK;refine ww (λc=>?_) (λc=>?_)
  ·refine⟨_,O,Zx hi qG aB (by rw[AB];exact zt ⋯) ⟨ws++[i],by rw[AO,Bf];rfl,?_,λx hx=>?_,by rw[AJ];exact Du wn,(o2.trans o3).fresh hD,w3.off pD⟩⟩
   ·rw[Bq];exact⟨wr,Df _ _,λa ha b hb=>by rw[AN.mp hb];exact wl a ha⟩
   ·rcases AX.mp hx with h|h
    ·have:=wl x h;lia
    ·rw[AN.mp h];lia
  ·exact cno hi qG aB ⟨ws,O,wr,λx hx=>Bi (wl x hx),EN wn,o2.trans o3,w3⟩
 rintro ys H2 ⟨ws,rfl,wr,wl,wn,o2,w2⟩ aK;refine⟨D,_,O,.inl ⟨TR aK,λtw ir=>?_⟩⟩;have n3:=zf ir (.tup (ws.map nV));refine⟨_,O,_,O,_,O,_,_,O,O,p,so+1,O,w2.same n3,⋯,⋯,λkk H3 kk1 o3 w3=>?_⟩;refine⟨p,kk,O,w3,⋯,λl xs H4 o4 w4 hl hT hN x4 lp=>?_⟩;have oA:=o1.trans (o2.trans ((TZ (p:=p) n3).trans (o3.trans o4)));have rX:H4 tw=some (.tup (ws.map nV)):=(w3.tk o4) _ _ (((w2.same n3).tk o3) _ _ ze);refine⟨zy (by show 0<=1000;decide),λcn dU=>?_⟩;have rh:=w4.ne dU;have n5:=zf dU (.lst []);refine⟨_,O,l,O,⟨_,TR (n5 _ _ hl)⟩,?_⟩;have hTl:=hT.len;refine jq (xs:=xs) (λi σ H'=>(∃x7 x8,σ=[some (.ref p),some (nV mo),some (nV so),some (nV (mm+1)),some (.ref tw),some (.ref l),some (.ref cn),x7,x8])/\Off p H4 H'/\Wel H' p/\∃cs ys,H' cn=some (.lst ys)/\Cns H' cs ys/\cs.length=i/\(∀c∈cs,c.nm.length<=100/\c.pl<=2/\Tn.Cs (mm+1) c.pl c.cs)/\(cs.map λc=>V.str c.nm)=xs.take i) ⟨⟨_,_,O⟩,TZ n5,w4.same n5,[],[],ze,.nil,O,(λc h=>by cases h),O⟩ (λi σ H' _ h=>TR (h.2.1 _ _ lp hl)) ?_ ?_
 ·rintro i x σ H5 hx ⟨⟨x7,x8,rfl⟩,o5,w5,cs,ys,hy,hC,cl,hg,en⟩;obtain⟨ts,rfl,tl,tb⟩:=id hT;have bM:i<(ts.map V.str).length:=(AD.mp hx).1;have rR:=hx;rw[AG]at hx;obtain⟨nm,dR,rfl⟩:=Aj.mp hx;refine⟨zy (by show 5<=1000;decide),λL hL=>?_⟩;have nL:=zf hL (.lst [.int 0,.int 1,.int 1,.int 2,.int 2]);have pL:=w5.ne hL;refine⟨_,O,p,5,O,w5.same nL,by decide,by decide,λv H7 v1 o7 w7=>?_⟩;obtain⟨pl,e,p2⟩:∃pl:Nat,atI [V.int 0,.int 1,.int 1,.int 2,.int 2] (v:Int)=some (nV pl)/\pl<=2:=by
   match v,v1 with
   |0,_=>exact⟨0,qF rfl,by decide⟩
   |1,_=>exact⟨1,qF rfl,by decide⟩
   |2,_=>exact⟨1,qF rfl,by decide⟩
   |3,_=>exact⟨2,qF rfl,by decide⟩
   |4,_=>exact⟨2,qF rfl,by decide⟩
  refine .inl ⟨L,_,_,_,O,O,TR (o7 L _ (An pL) ze),e,?_⟩;have oP:=o7 cn _ (An rh) (nL _ _ hy);refine⟨_,O,.inl ⟨O,_,TR oP⟩,_,O,_,O,_,O,_,O,_,O,p,mm+1,pl,O,w7,⋯,⋯,p2,λt nR H8 o8 w8 d9 ht=>?_⟩;refine⟨zy (by show 3<=1000;decide),λt3 df=>?_⟩;have n9:=zf df (.tup [.str nm,nV pl,.ref t]);have vL:=n9 _ _ (o8 cn _ (An rh) oP);have fD:=hC.len;have oN:=(o5.trans (TZ nL)).trans (o7.trans (o8.trans (TZ n9)));have tN:Tk H5 (upd H8 t3 (.tup [.str nm,nV pl,.ref t])):=((Ta nL).trans ((w5.same nL).tk o7)).trans ((w7.tk o8).trans (Ta n9));refine⟨cn,_,_,O,O,vL,zt ⋯,⟨⟨_,_,O⟩,oN.fresh dU,(w8.same n9).off rh,cs++[⟨nm,pl,nR⟩],_,ze,?_,by rw[AJ,cl];rfl,λc hc=>?_,by rw[AO,en,take_snoc rR];rfl⟩⟩
  ·exact (Tc (c:=⟨nm,pl,nR⟩) (hC.tk tN) ze (n9 _ _ ht)).tk (TY vL)
  ·rcases AX.mp hc with h|h
   ·exact hg c h
   ·rw[AN.mp h];exact⟨tb nm (AL dR),p2,d9⟩
 ·rintro σ H5 ⟨⟨x7,x8,rfl⟩,o5,w5,cs,ys,hy,hC,cl,hg,en⟩;refine⟨_,O,_,O,_,O,cn,_,O,.inl ⟨TR hy,λtc eQ=>?_⟩⟩;have n6:=zf eQ (.tup ys);refine⟨zy (by show 3<=1000;decide),λt ht=>?_⟩;have n7:=zf ht (.tup [nV (mm+1),.ref tw,.ref tc]);have fC:=n6.trans n7;refine q _ ⟨mm+1,ws,cs⟩ _ ((oA.trans o5).trans (TZ fC)) (w5.same fC) ⟨by show 1<=mm+1;lia,by show mm+1<=9;lia,wr,wl,by show cs.length<=16;lia,hg⟩ (by show mm+1<=mo;lia) (by show cs.length<=4;lia) ?_ ⟨t,tw,tc,ys,O,ze,fC _ _ ((w4.tk o5) _ _ rX),n7 _ _ ze,hC.same fC⟩;rw[Ak]at en;rw[<- en]at hN;refine zaQ ?_;unfold nmsOf';rw[AW];exact hN
abbrev jQ:Stmt:=top 51
def jY:zD ["_law_well_here", "_law_table_here", "_law_most", "_law_many", "_law_wished", "_law_connectives"] ["_law_well_here", "_law_table_here", "_law_most"] (zm jQ):=⟨rfl,rfl,rfl,∅,rfl,∅,∅⟩
def yO (F:Fun K "_law_other" "_law_other" jQ f fd) (gb:Gb mg) {c:Nat->Addr}(cl:Cl K mg c) (aa:Def P w K mg base 1 "_law_draw" ["_law_well_here", "_law_many"] ZJ) (aE:Def P w K mg base 2 "_law_cells" ["_law_well_here", "_law_many", "_law_places"] Wu):jo P w K mg base CX0 3 f fd ["_law_well_here", "_law_table_here", "_law_most"] WJ:=by
 refine F.ok jY (λvs H Q E h=>?_) (λaC A outer s H vs Q E hr h=>?_)
 ·obtain⟨p,v,A,k,rfl,_⟩:=h;rfl
 obtain⟨p,v,A,k,rfl,w,ia,gA,k1,k9,q⟩:=h;have aD:(["_law_mark", "_law_well_here"]:TJ).Nodup:=∅;have nd1:(["_law_name", "_law_places", "_law_cells_here", "_law_well_here", "_law_many"]:TJ).Nodup:=∅;refine⟨_,(GE (GF 3 jY.nd O (Or.inr O) (GI G9 GB (GD aa hr ⋯ O (Gq (Gs 0 O O) (Gq (Gs 2 O O) Gx O) O) ∅ O O)) O (by ac_nf)) (GE (GF 4 jY.nd O (Or.inl O) (GX (Kb K O) O gb.tuple zG (Gq (Gr ["_law_mark", "_law_well_here"] [none,some 0] (by show zC Gj (zm jQ) _ _ _;ac_nf0) O (G8 O gb.range (Gq (Gs 3 O O) Gx O) O) (λ_ _ _ _=>(Gu 0 aD O O)) (λ_ _ _ _=>(Kf (GJ Gz (GD aa hr ⋯ O (Gq (Gs 1 O O) (Gq GB Gx O) O) ∅ O O) GB (GC ∅ ∅)))) (λ_ _ _ _=>(Gs 0 O O)) nofun) Gx O) ∅ ∅ O O) O (by ac_nf)) (GE (G7 ["_law_name", "_law_places", "_law_cells_here", "_law_well_here", "_law_many"] [none,none,none,some 0,some 3] 5 (by show zC Gj (zm jQ) _ _ _;ac_nf0) O (GY K (GO (GP K O) (Gs 1 O O) GB (λ_ _=>rfl)) O) (λ_ _ _ _=>(GZ K 3 O (G0 (Gu 0 nd1 O O) (G0 (Gu 1 nd1 O O) (G0 (Gu 2 nd1 O O) G1 O) O) O) O O O)) Kl (λ_ _ _ _=>(G2 (Gq (Gs 0 O O) (Gq (Gs 1 O O) (Gq (GD aE hr ⋯ O (Gq (Gs 3 O O) (Gq (Gs 4 O O) (Gq (Gs 1 O O) Gx O) O) O) ∅ O O) Gx O) O) O))) jY.nd O O O nofun) (Gm (Gn (G2 (Gq (Gs 3 O O) (Gq (Gs 4 O O) (Gq (GX (Kb K O) O gb.tuple zG (Gq (Gs 5 O O) Gx O) ∅ ∅ O O) Gx O) O) O))))))),?_⟩;obtain⟨a,w0,c,vs,rfl,h1,h2,h3,h4⟩:=id ia;have gx:∀i,∃t u:Addr,i<A.cs.length->vs[i]?=some (.ref t)/\H t=some (.tup [.str (A.cs.getD i ⟨"",0,[]⟩).nm,nV (A.cs.getD i ⟨"",0,[]⟩).pl,.ref u])/\H u=some (.tup ((A.cs.getD i ⟨"",0,[]⟩).cs.map nV)):=λi=>by
  by_cases hi:i<A.cs.length
  ·have hc:A.cs[i]?=some (A.cs.getD i ⟨"",0,[]⟩):=by simp[List.getD,hi]
   obtain⟨t,u,h⟩:=h4.get hc;exact⟨t,u,λ_=>h⟩
  ·exact⟨0,0,λh=>absurd h hi⟩
 obtain⟨ad,gx⟩:=BQ gx;obtain⟨au,gx⟩:=BQ gx;have ge:∀i,i<A.cs.length->A.cs[i]?=some (A.cs.getD i ⟨"",0,[]⟩):=λi hi=>by simp[List.getD,hi]
 have kI:=gA.cl;refine⟨_,O,_,O,p,k,O,w,⋯,⋯,λmn H1 IZ o1 w1=>?_⟩;refine⟨_,_,O,O,?_⟩;dsimp only;obtain⟨mm,em,m1,m9,mk⟩:∃mm:Nat,(1+(mn:Int))=(mm:Int)/\1<=mm/\mm<=9/\mm<=k:=⟨mn+1,⋯,⋯,⋯,⋯⟩
 rw[em];refine⟨_,O,(mm:Int),O,⋯,⋯,λD hD=>?_⟩;rw[Av];have pD:=w1.ne hD;refine zT (λi ys H'=>∃ws:TC,ys=ws.map nV/\ws.Pairwise (·<·)/\(∀x∈ws,x<i)/\ws.length<=i/\Off p H1 H'/\Wel H' p) ⟨[],O,.nil,(λx h=>by cases h),AI _,TX hD,w1.off pD⟩ ?_ ?_
 ·rintro i ys H2 hi ⟨ws,rfl,wr,wl,wn,o2,w2⟩ aK;refine⟨_,O,p,2,O,w2,by decide,by decide,λv H3 v1 o3 w3=>⟨O,_,O,?_⟩⟩;have aB:=o3 D _ (An pD) aK;refine ww (λc=>?_) (λc=>?_)
  ·refine⟨_,O,Zx hi qG aB (by rw[AB];exact zt ⋯) ⟨ws++[i],by rw[AO,Bf];rfl,?_,λx hx=>?_,by rw[AJ];exact Du wn,(o2.trans o3).fresh hD,w3.off pD⟩⟩
   ·rw[Bq];exact⟨wr,Df _ _,λa ha b hb=>by rw[AN.mp hb];exact wl a ha⟩
   ·rcases AX.mp hx with h|h
    ·have:=wl x h;lia
    ·rw[AN.mp h];lia
  ·exact cno hi qG aB ⟨ws,O,wr,λx hx=>Bi (wl x hx),EN wn,o2.trans o3,w3⟩
 rintro ys H2 ⟨ws,rfl,wr,wl,wn,o2,w2⟩ aK;refine⟨D,_,O,.inl ⟨TR aK,λtw ir=>?_⟩⟩;have n3:=zf ir (.tup (ws.map nV));have oS:=(o1.trans o2).trans (TZ n3);have wS:=w2.same n3;have kS:Tk H (upd H2 tw (.tup (ws.map nV))):=(w.tk o1).trans ((w1.tk o2).trans (Ta n3));have rW:=ze (H:=H2) (a:=tw) (o:=.tup (ws.map nV));generalize upd H2 tw (.tup (ws.map nV))=HS at *
 clear hD pD
 refine⟨_,O,.inr (.inl ⟨a,_,2,_,O,O,TU (kS _ _ h1),O,c,O,⟨_,TU (kS _ _ h3)⟩,λD hD=>?_⟩)⟩;have pD:=wS.ne hD;have L7:=hD;refine Jm (n:=A.cs.length) (ad:=ad) (v1:=λi=>.str (A.cs.getD i ⟨"",0,[]⟩).nm) (v2:=λi=>nV (A.cs.getD i ⟨"",0,[]⟩).pl) (v3:=λi=>.ref (au i)) (more:=[some (.ref p),some (nV mm)]) (λi ys H'=>Off p HS H'/\Wel H' p/\∃cs,Cns H' cs ys/\cs.length=i/\(∀c∈cs,c.nm.length<=100/\c.pl<=2/\Tn.Cs mm c.pl c.cs)/\(cs.map λc=>(c.nm,c.pl))=(Sh A).take i) ⟨TX hD,wS.off pD,[],.nil,O,(λc h=>by cases h),O⟩ h4.len.symm (λi hi=>(gx i hi).1) (λi ys H' p' _=>TU ((wS.tk p'.1) _ _ (kS _ _ h3))) (λi ys H' hi p'=>TU ((wS.tk p'.1) _ _ (kS _ _ (gx i hi).2.1))) ?_ ?_
 ·rintro i ys H5 hi ⟨o5,w5,cs,hC,Hw,tq,es⟩ bV;obtain⟨nl,p2,gG⟩:=gA.cn _ (AL (ge i hi));refine yes ⟨_,O,_,O,_,O,_,O,_,O,p,mm,_,O,w5,⋯,⋯,p2,λt nR H8 o8 w8 d9 ht=>?_⟩;refine⟨zy (by show 3<=1000;decide),λt3 df=>?_⟩;have n9:=zf df (.tup [.str (A.cs.getD i ⟨"",0,[]⟩).nm,nV (A.cs.getD i ⟨"",0,[]⟩).pl,.ref t]);have Hg:=n9 _ _ (o8 D _ (An pD) bV);have fD:=hC.len;refine Zx hi ⟨_,_,_,O⟩ Hg (zt ⋯) ⟨(o5.trans (o8.trans (TZ n9))).fresh L7,(w8.same n9).off pD,cs++[⟨_,_,nR⟩],(Tc (c:=⟨(A.cs.getD i ⟨"",0,[]⟩).nm,(A.cs.getD i ⟨"",0,[]⟩).pl,nR⟩) (hC.tk ((w5.tk o8).trans (Ta n9))) ze (n9 _ _ ht)).tk (TY Hg),by rw[AJ,Hw];rfl,λc hc=>?_,by rw[AO,es,take_snoc (x:=((A.cs.getD i ⟨"",0,[]⟩).nm,(A.cs.getD i ⟨"",0,[]⟩).pl)) (by unfold Sh;rw[List.getElem?_map,ge i hi];rfl)];rfl⟩
  rcases AX.mp hc with h|h
  ·exact tq c h
  ·rw[AN.mp h];exact⟨nl,p2,d9⟩
 ·rintro ys H5 ⟨o5,w5,cs,hC,Hw,tq,es⟩ bV;refine⟨_,O,_,O,_,O,D,_,O,.inl ⟨TR bV,λtc eQ=>?_⟩⟩;have n6:=zf eQ (.tup ys);refine⟨zy (by show 3<=1000;decide),λt ht=>?_⟩;have n7:=zf ht (.tup [nV mm,.ref tw,.ref tc]);have fC:=n6.trans n7;have uE:Sh A=Sh ⟨mm,ws,cs⟩:=by show Sh A=cs.map _;rw[es];exact (BX (by unfold Sh;rw[List.length_map];exact AI _)).symm
  exact q _ ⟨mm,ws,cs⟩ _ ((oS.trans o5).trans (TZ fC)) (w5.same fC) ⟨m1,m9,wr,wl,by show cs.length<=16;lia,tq⟩ mk uE ⟨t,tw,tc,ys,O,ze,fC _ _ ((wS.tk o5) _ _ rW),n7 _ _ ze,hC.same fC⟩
abbrev Zv:Stmt:=top 52
def QO:zD ["_law_well_here", "_law_many", "_law_left"] ["_law_well_here", "_law_many"] (zm Zv):=⟨rfl,rfl,rfl,∅,rfl,∅,∅⟩
def yP (F:Fun K "_law_order" "_law_order" Zv f fd) (gb:Gb mg) {c:Nat->Addr}(cl:Cl K mg c) (aa:Def P w K mg base 1 "_law_draw" ["_law_well_here", "_law_many"] ZJ):jo P w K mg base CX0 2 f fd ["_law_well_here", "_law_many"] Yq:=by
 refine F.ok QO (λvs H Q E h=>?_) (λaC A outer s H vs Q E hr h=>?_)
 ·obtain⟨p,m,rfl,_⟩:=h;rfl
 obtain⟨p,m,rfl,w,m1,m9,q⟩:=h;have aD:(["_law_k", "_law_left", "_law_well_here"]:TJ).Nodup:=∅;refine⟨_,(GE (GF 2 QO.nd O (Or.inr O) (GX (@xz _ O) O gb.list ZH (Gq (@pe_rng _ _ _ _ _ O gb.range (Gq (Gs 1 O O) Gx O) O) Gx O) ∅ ∅ O O) O (by ac_nf)) (Gm (Gn (GX (Kb K O) O gb.tuple zG (Gq (Gr ["_law_k", "_law_left", "_law_well_here"] [none,some 2,some 0] (by show zC ["_law_well_here", "_law_many", "_law_left"] (zm Zv) _ _ _;ac_nf0) O (G8 O gb.range (Gq (Gs 1 O O) Gx O) O) (λ_ _ _ _=>(Gu 0 aD O O)) Kl (λ_ _ _ _=>(GR K Ap PySem.F.slot_list_pop PySem.F.type_list_pop (@mt_popAt _) (Gs 1 O O) (Gq (GD aa hr ⋯ O (Gq (Gs 2 O O) (Gq (Gp (GA K O) O gb.len jI (Gq (Gs 1 O O) Gx O) ∅ ∅ O O) Gx O) O) ∅ O O) Gx O) O O O O O O)) nofun) Gx O) ∅ ∅ O O)))),?_⟩;refine⟨_,O,_,O,λrg KR=>?_⟩;have n1:=zf KR (.rng 0 (m:Int));refine⟨rg,_,O,ze,⋯,⋯,λl hl=>?_⟩;rw[Av];have n2:=zf hl (.lst ((List.range m).map λ(i:Nat)=>V.int (i:Int)));refine⟨_,O,(m:Int),O,⋯,⋯,λD hD=>?_⟩;rw[Av];have s2:=n1.trans n2;have w2:=w.same s2;have pD:=w2.ne hD;have pl:p≠l:=(w.same n1).ne hl;have lD:l≠D:=λz=>by rw[<- z,ze]at hD;cases hD
 have nl:H l=none:=n1.free hl;have nD:H D=none:=s2.free hD;refine zT (λi ys H'=>∃o rest:TC,ys=o.map nV/\o.length=i/\(o++rest).Perm (List.range m)/\H' l=some (.lst (rest.map nV))/\Off p H H'/\Wel H' p) ⟨[],List.range m,O,O,DO _,by rw[zJ lD];exact ze,(TZ s2).fresh nD,w2.off pD⟩ ?_ ?_
 ·rintro i ys H3 hi ⟨o,rest,rfl,ol,pm,gu,o3,w3⟩ aB;have hlen:o.length+rest.length=m:=by have:=pm.length_eq;rw[AJ,AU]at this;exact this
  have mI:((rest.map nV).length:Int)=(rest.length:Int):=by rw[AB]
  refine yes ⟨_,O,.inl ⟨O,_,TR gu⟩,_,O,_,O,_,_,O,.inl ⟨_,TR gu,O⟩,p,rest.length,by (show [V.ref p,V.int ((rest.map nV).length:Int)]=_;rw[mI]),w3,⋯,⋯,λv H4 v1 o4 w4=>?_⟩;have fI:=o4 l _ (An pl) gu;have cF:=o4 D _ (An pD) aB;have hv:rest[v]?=some rest[v]:=AC v1;generalize rest[v]=x at hv;refine⟨l,_,_,v,nV x,O,O,fI,⋯,⋯,by rw[AB];exact seq_nat v1,by rw[AG,hv];rfl,?_⟩;rw[yu];have bV:(upd H4 l (.lst ((rest.eraseIdx v).map nV))) D=some (.lst (o.map nV)):=by rw[zJ (An lD)];exact cF
  refine Zx hi qG bV (by rw[AB];exact zt ⋯) ⟨o++[x],rest.eraseIdx v,by rw[AO];rfl,by rw[AJ,ol];rfl,?_,by rw[zJ lD];exact ze,((o3.trans o4).fresh nl).fresh nD,(w4.off pl).off pD⟩;rw[A8];exact (DB o (wO rest v x hv).symm).trans pm
 ·rintro ys H3 ⟨o,rest,rfl,ol,pm,gu,o3,w3⟩ aB;have hlen:o.length+rest.length=m:=by have:=pm.length_eq;rw[AJ,AU]at this;exact this
  have di:rest=[]:=CP.mp ⋯;rw[di,Az]at pm;refine⟨D,_,O,.inl ⟨TR aB,λt ht=>?_⟩⟩;have n4:=zf ht (.tup (o.map nV));exact q t o _ (o3.trans (TZ n4)) (w3.same n4) ⟨by rw[pm.length_eq,AU],λx hx=>AS.mp (pm.mem_iff.mp hx),pm.nodup_iff.mpr Dx⟩ ze
abbrev Qe:Stmt:=top 53
def jZ:zD ["_law_table_here", "_law_columns", "_law_wish", "_law_found"] ["_law_table_here", "_law_columns", "_law_wish"] (zm Qe):=⟨rfl,rfl,rfl,∅,rfl,∅,∅⟩
def yQ (F:Fun K "_law_asked" "_law_asked" Qe f fd) (gb:Gb mg) {c:Nat->Addr}(cl:Cl K mg c) (bQ:Def1 P w K mg base 5 "sayable" ["T", "columns", "wish"] (spSay (c 1))):jo P w K mg base CX0 6 f fd ["_law_table_here", "_law_columns", "_law_wish"] spAsk:=by
 refine F.ok jZ (λvs H Q E h=>?_) (λaC A outer s H vs Q E hr h=>?_)
 ·obtain⟨v,ct,wt,T,cps,aF,wish,rfl,_⟩:=h;rfl
 obtain⟨v,ct,wt,T,cps,aF,wish,rfl,ia,gT,nT,c4,eY,dO,iL,kh,w1,w9,p81,q1,q0⟩:=h;refine⟨_,(GE (GF 3 jZ.nd O (Or.inl O) Ki O (by ac_nf)) (GE (@ps_try _ _ _ _ _ _ _ _ _ _ _ O O O cl.g_TooMany (@psx_set _ 3 _ _ _ _ _ jZ.nd O (Or.inl O) (@pex_def _ _ _ _ _ _ _ _ _ _ _ bQ hr ⋯ O (Gq (Gs 0 O O) (Gq (Gs 1 O O) (Gq (Gs 2 O O) Gx O) O) O) ∅ O O) O (by ac_nf)) (λ_=>(Gm (GF 3 jZ.nd O (Or.inl O) Ki O (by ac_nf)))) ∅) (Gm (Gn (Gs 3 O O))))),?_⟩;refine⟨_,O,_,O,_,O,v,ct,wt,T,cps,aF,wish,O,ia,gT,nT,c4,eY,dO,iL,kh,w1,w9,λhs all _ _ t lt us L H' s' ht aA cQ hG l1 l2 lZ=>?_,λhs t ut bs ks H' s' ht hX hP asc gw hk=>?_,λcs HD sD a1 a2 a3=>?_⟩
 ·exact⟨_,O,q1 hs t lt us L H' s' ht aA cQ hG l1 l2 lZ⟩
 ·exact⟨_,O,q0 hs t ut bs ks H' s' ht hX hP λcol h=>(gw col).mp h⟩
 ·exfalso;have h1:=cols_few a1 λc hc=>Yz gT nT (λb hb=>(by obtain⟨p,hp,rfl⟩:=AK.mp hb;exact (iL p hp).2)) (a2 c hc);lia
abbrev zM:Stmt:=top 54
def zI:zD ["_law_well_here", "_law_one", "_law_other_here", "_law_both", "_law_size", "_law_columns", "_law_letter", "_law_wish", "_law_found", "_law_firsts", "_law_seconds", "_law_column", "_law_first", "_law_second"] ["_law_well_here", "_law_one", "_law_other_here", "_law_both"] (zm zM):=⟨rfl,rfl,rfl,∅,rfl,∅,∅⟩
def QL (F:Fun K "_law_pairs_said" "_law_pairs_said" zM f fd) (gb:Gb mg) {c:Nat->Addr}(cl:Cl K mg c) (aa:Def P w K mg base 1 "_law_draw" ["_law_well_here", "_law_many"] ZJ) (aG:Def P w K mg base 6 "_law_asked" ["_law_table_here", "_law_columns", "_law_wish"] spAsk) (aS:Def P w K mg base 5 "column_of" ["T", "columns", "lines"] Yx):jo P w K mg base CX0 7 f fd ["_law_well_here", "_law_one", "_law_other_here", "_law_both"] WN:=by
 refine F.ok zI (λvs H Q E h=>?_) (λaC A outer s H vs Q E hr h=>?_)
 ·obtain⟨p,v,u,f,A,B,rfl,_⟩:=h;rfl
 obtain⟨p,v,u,f,A,B,rfl,w,ia,ib,ip,gA,gB,hS,nA,c4,ab,q⟩:=h;have aD:(["_law_k", "_law_well_here", "_law_both"]:TJ).Nodup:=∅;have nd1:(["_law_k", "_law_well_here", "_law_both"]:TJ).Nodup:=∅;have eN:(["_law_letter", "_law_column", "_law_other_here"]:TJ).Nodup:=∅;have oH:(["_law_mark", "_law_other_here"]:TJ).Nodup:=∅;have vv:(["_law_letter", "_law_column", "_law_other_here"]:TJ).Nodup:=∅;have IW:(["_law_mark", "_law_other_here"]:TJ).Nodup:=∅;have IV:(["_law_mark", "_law_other_here"]:TJ).Nodup:=∅;have IU:(["_law_mark", "_law_other_here"]:TJ).Nodup:=∅;have IT:(["_law_mark", "_law_other_here"]:TJ).Nodup:=∅;have IS:(["_law_mark", "_law_other_here"]:TJ).Nodup:=∅;refine⟨_,(GE (GF 4 zI.nd O (Or.inl O) (GI G9 GB (GD aa hr ⋯ O (Gq (Gs 0 O O) (Gq GB Gx O) O) ∅ O O)) O (by ac_nf)) (GE (GF 5 zI.nd O (Or.inl O) (GG Gx) O (by ac_nf)) (GE (G3 BG O (G4 K (GT (@Z6 _ K O) (GG (Gq Gw (Gq Gw Gx O) O)) GV (GU (GI G9 GB (GD aa hr ⋯ O (Gq (Gs 0 O O) (Gq GB Gx O) O) ∅ O O)))) O) (Gu 6 zI.nd O O) (Gm (GQ (GR K Ap Ba BZ Ke (Gs 5 O O) (Gq (G2 (Gq (Gs 6 O O) (Gq (GX (Kb K O) O gb.tuple zG (Gq (Gr ["_law_k", "_law_well_here", "_law_both"] [none,some 0,some 3] (by show zC Gk (zm zM) _ _ _;ac_nf0) O (G8 O gb.range (Gq (Gs 4 O O) Gx O) O) (λ_ _ _ _=>(Gu 0 aD O O)) Kl (λ_ _ _ _=>(GD aa hr ⋯ O (Gq (Gs 1 O O) (Gq (GO (GP K O) (Gs 2 O O) GB (λ_ _=>rfl)) Gx O) O) ∅ O O)) nofun) Gx O) ∅ ∅ O O) Gx O) O)) Gx O) O O O O O O) O)) nofun) (GE (GF 7 zI.nd O (Or.inl O) (GX (Kb K O) O gb.tuple zG (Gq (Gr ["_law_k", "_law_well_here", "_law_both"] [none,some 0,some 3] (by show zC Gk (zm zM) _ _ _;ac_nf0) O (G8 O gb.range (Gq (Gs 4 O O) Gx O) O) (λ_ _ _ _=>(Gu 0 nd1 O O)) Kl (λ_ _ _ _=>(GD aa hr ⋯ O (Gq (Gs 1 O O) (Gq (GO (GP K O) (Gs 2 O O) GB (λ_ _=>rfl)) Gx O) O) ∅ O O)) nofun) Gx O) ∅ ∅ O O) O (by ac_nf)) (GE (GF 8 zI.nd O (Or.inl O) (GD aG hr ⋯ O (Gq (Gs 3 O O) (Gq (GX (Kb K O) O gb.tuple zG (Gq (Gs 5 O O) Gx O) ∅ ∅ O O) (Gq (Gs 7 O O) Gx O) O) O) ∅ O O) O (by ac_nf)) (GE (GK (GJ (@YN _) (Gs 8 O O) Ki (GC ∅ ∅)) (Gm (Gn GM)) GW) (GE (GF 9 zI.nd O (Or.inl O) (GX (Kb K O) O gb.tuple zG (Gq (Gr ["_law_letter", "_law_column", "_law_other_here"] [none,none,some 2] (by show zC Gk (zm zM) _ _ _;ac_nf0) O (G4 K (Gs 5 O O) O) (λ_ _ _ _=>(GZ K 2 O (G0 (Gu 0 eN O O) (G0 (Gu 1 eN O O) G1 O) O) O O O)) Kl (λ_ _ _ _=>(G2 (Gq (Gs 0 O O) (Gq (GX (Kb K O) O gb.tuple zG (Gq (Gr ["_law_mark", "_law_other_here"] [none,some 2] (by exact (Jy (show Ws ["_law_letter", "_law_column", "_law_other_here"] _ ["_law_mark", "_law_other_here"] [none,some 2] _ from⟨O,∅,∅,∅,∅,O,∅⟩))) O (GY K (Gs 1 O O) O) (λ_ _ _ _=>(Gu 0 oH O O)) Kl (λ_ _ _ _=>(GI (@Z5 _) (Gs 0 O O) (GO (GP K O) (Gs 1 O O) GB (λ_ _=>rfl)))) nofun) Gx O) ∅ ∅ O O) Gx O) O))) nofun) Gx O) ∅ ∅ O O) O (by ac_nf)) (GE (GF 10 zI.nd O (Or.inl O) (GX (Kb K O) O gb.tuple zG (Gq (Gr ["_law_letter", "_law_column", "_law_other_here"] [none,none,some 2] (by show zC Gk (zm zM) _ _ _;ac_nf0) O (G4 K (Gs 5 O O) O) (λ_ _ _ _=>(GZ K 2 O (G0 (Gu 0 vv O O) (G0 (Gu 1 vv O O) G1 O) O) O O O)) Kl (λ_ _ _ _=>(G2 (Gq (Gs 0 O O) (Gq (GX (Kb K O) O gb.tuple zG (Gq (Gr ["_law_mark", "_law_other_here"] [none,some 2] (by exact (Jy (show Ws ["_law_letter", "_law_column", "_law_other_here"] _ ["_law_mark", "_law_other_here"] [none,some 2] _ from⟨O,∅,∅,∅,∅,O,∅⟩))) O (GY K (Gs 1 O O) O) (λ_ _ _ _=>(Gu 0 IW O O)) Kl (λ_ _ _ _=>(GI Kj (Gs 0 O O) (GO (GP K O) (Gs 1 O O) GB (λ_ _=>rfl)))) nofun) Gx O) ∅ ∅ O O) Gx O) O))) nofun) Gx O) ∅ ∅ O O) O (by ac_nf)) (GE (GK (GJ Gz (GO (GP K O) (Gs 8 O O) GB (λ_ _=>rfl)) Gw (GC ∅ ∅)) (GE (GK (GJ (@op_neT _ K _ hr O) (GD aS hr ⋯ O (Gq (Gs 1 O O) (Gq (Gs 9 O O) (Gq (GO (GP K O) (Gs 8 O O) GB (λ_ _=>rfl)) Gx O) O) O) ∅ O O) (GX (Kb K O) O gb.tuple zG (Gq (Gr ["_law_mark", "_law_other_here"] [none,some 2] (by show zC Gk (zm zM) _ _ _;ac_nf0) O (GY K (Gs 7 O O) O) (λ_ _ _ _=>(Gu 0 IV O O)) Kl (λ_ _ _ _=>(GI (@Z5 _) (Gs 0 O O) (GO (GP K O) (Gs 1 O O) GB (λ_ _=>rfl)))) nofun) Gx O) ∅ ∅ O O) (GC ∅ ∅)) (Gm (Gn GM)) GW) (Gm (Gn (Gy (@op_eqT _ K _ hr O) (GD aS hr ⋯ O (Gq (Gs 2 O O) (Gq (Gs 10 O O) (Gq (GO (GP K O) (Gs 8 O O) GB (λ_ _=>rfl)) Gx O) O) O) ∅ O O) (GX (Kb K O) O gb.tuple zG (Gq (Gr ["_law_mark", "_law_other_here"] [none,some 2] (by show zC Gk (zm zM) _ _ _;ac_nf0) O (GY K (Gs 7 O O) O) (λ_ _ _ _=>(Gu 0 IU O O)) Kl (λ_ _ _ _=>(GI Kj (Gs 0 O O) (GO (GP K O) (Gs 1 O O) GB (λ_ _=>rfl)))) nofun) Gx O) ∅ ∅ O O) (GC ∅ ∅))))) GW) (GE (G3 BG O (GY K (GT (@kslT _ K O) (GO (GP K O) (Gs 8 O O) GB (λ_ _=>rfl)) GV (GU GB)) O) (Gu 11 zI.nd O O) (GE (GF 12 zI.nd O (Or.inl O) (GD aG hr ⋯ O (Gq (Gs 1 O O) (Gq (Gs 9 O O) (Gq (GX (Kb K O) O gb.tuple zG (Gq (Gr ["_law_mark", "_law_other_here"] [none,some 2] (by show zC Gk (zm zM) _ _ _;ac_nf0) O (GY K (Gs 11 O O) O) (λ_ _ _ _=>(Gu 0 IT O O)) Kl (λ_ _ _ _=>(GI (@Z5 _) (Gs 0 O O) (GO (GP K O) (Gs 1 O O) GB (λ_ _=>rfl)))) nofun) Gx O) ∅ ∅ O O) Gx O) O) O) ∅ O O) O (by ac_nf)) (GE (GF 13 zI.nd O (Or.inl O) (GD aG hr ⋯ O (Gq (Gs 2 O O) (Gq (Gs 10 O O) (Gq (GX (Kb K O) O gb.tuple zG (Gq (Gr ["_law_mark", "_law_other_here"] [none,some 2] (by show zC Gk (zm zM) _ _ _;ac_nf0) O (GY K (Gs 11 O O) O) (λ_ _ _ _=>(Gu 0 IS O O)) Kl (λ_ _ _ _=>(GI Kj (Gs 0 O O) (GO (GP K O) (Gs 1 O O) GB (λ_ _=>rfl)))) nofun) Gx O) ∅ ∅ O O) Gx O) O) O) ∅ O O) O (by ac_nf)) (Gm (GK (G5 (Kk (GJ (@YN _) (Gs 12 O O) Ki (GC ∅ ∅)) (Kk (GJ (@YN _) (Gs 13 O O) Ki (GC ∅ ∅)) (Kk (GJ (@op_ne _) (GO (GP K O) (Gs 12 O O) GB (λ_ _=>rfl)) Gw (GC ∅ ∅)) (@pw_or1 _ _ _ _ (GJ (@op_ne _) (GO (GP K O) (Gs 13 O O) GB (λ_ _=>rfl)) Gw (GC ∅ ∅))))))) (Gm (Gn GM)) GW)))) nofun) (Gm (Gn GM)))))))))))),?_⟩;obtain⟨fa,fw,fc,fvs,rfl,f1,f2,f3,f4⟩:=id ip;obtain⟨ua,uw,uc,uvs,rfl,u1,u2,u3,u4⟩:=id ib;have A1:=gA.m1;have B1:=gB.m1;have gP:=yE gA gB hS ab;have nP:(qH (qK A B)).Nodup:=QN (QF hS) ▸ nA;have nB:(qH B).Nodup:=QN hS ▸ nA;have cP:(qK A B).cs.length<=4:=by show ((A.cs.zip B.cs).map _).length<=4;rw[AB,C4];lia
 have cB:B.cs.length<=4:=by have:=BF List.length hS;unfold Sh at this;rw[List.length_map,List.length_map]at this;lia
 have mP:(qK A B).m=A.m*B.m:=rfl;have P1:1<=A.m*B.m:=Nat.mul_pos A1 B1;refine⟨_,O,p,2,O,w,by decide,by decide,λv2 H2 v21 o2 w2=>⟨_,_,O,O,?_⟩⟩;refine⟨zy (by show 0<=1000;decide),λfd cT=>?_⟩;have nf:=zf cT (.lst []);have fp:fd≠p:=An (w2.ne cT);refine⟨zy (by show 2<=1000;decide),λL0 Hb=>?_⟩;have n3:=zf Hb (.lst [V.str "p",V.str "q"]);have w3:=(w2.same nf).same n3;have p0:=(w2.same nf).ne Hb;refine⟨_,O,p,2,O,w3,by decide,by decide,λv3 H4 Ii o4 w4=>?_⟩;have LW:=o4 L0 _ (An p0) ze;refine⟨_,_,O,O,_,O,.inl ⟨L0,_,O,TR LW,λla oZ=>?_⟩⟩;obtain⟨LT,eL,l1,l2,nL,hL⟩:=pq Ii;rw[eL];have n5:=zf oZ (.lst (LT.map V.str));have w5:=w4.same n5;have lp:la≠p:=An (w4.ne oZ);have m7:=o4 fd _ fp (n3 _ _ (@ze H2 fd (.lst [])));have lf:la≠fd:=An (zN m7 oZ);have tH:=n5 _ _ m7;have IJ:Off p H2 (upd H4 la (.lst (LT.map V.str))):=(TZ (nf.trans n3)).trans (o4.trans (TZ n5));refine⟨la,O,⟨_,TR ze⟩,?_⟩;have sY:=@ze H4 la (.lst (LT.map V.str));generalize upd H4 la (.lst (LT.map V.str))=H5 at *;refine jq (xs:=LT.map V.str) (λi σ H'=>(∃x6,σ=[some (.ref p),some v,some (.ref ua),some (.ref fa),some (nV (1+v2)),some (.ref fd),x6,none,none,none,none,none,none,none])/\Off p H2 H'/\Wel H' p/\H' la=some (.lst (LT.map V.str))/\∃(cps:List (Str×TC)) (aF:List V),H' fd=some (.lst aF)/\PCs H' cps aF/\cps.map Prod.fst=LT.take i/\∀q∈cps,qc (A.m*B.m) (1+v2) q.2) ⟨⟨_,O⟩,IJ,w5,sY,[],[],tH,.nil,O,(λq h=>by cases h)⟩ (λi σ H' _ h=>TR h.2.2.2.1) ?_ ?_
 ·rintro i x σ H6 hx ⟨⟨x6,rfl⟩,o6,w6,mR,cps,aF,eX,dO,en,hg⟩;rw[AG]at hx;obtain⟨y,hy,rfl⟩:=Aj.mp hx;have dW:=Ac dO;have cl6:cps.length<=2:=by have:=BF List.length en;rw[AB,Ae]at this;lia
  refine⟨_,O,.inl ⟨O,_,TR eX⟩,_,O,_,O,((1+v2:Nat):Int),O,⋯,⋯,λD hD=>?_⟩;rw[Av];have pD:=w6.ne hD;refine zT (λj ys H'=>∃cs:TC,ys=cs.map nV/\cs.length=j/\(∀c∈cs,c<A.m*B.m)/\Off p H6 H'/\Wel H' p) ⟨[],O,O,(λc h=>by cases h),TX hD,w6.off pD⟩ ?_ ?_
  ·rintro j ys H7 hj ⟨cs,rfl,gH,cm,o7,w7⟩ cI;refine yes ⟨_,O,_,O,.inr (.inl ⟨fa,_,0,_,O,O,TU ((w.tk (o2.trans (o6.trans o7))) _ _ f1),O,p,A.m*B.m,O,w7,⋯,⋯,λv8 H8 pW o8 w8=>?_⟩)⟩;have uo:=o8 D _ (An pD) cI;refine Zx hj qG uo (by rw[AB];exact zt ⋯) ⟨cs++[v8],by rw[AO];rfl,by rw[AJ,gH];rfl,λc hc=>?_,(o7.trans o8).fresh hD,w8.off pD⟩
   rcases AX.mp hc with h|h
   ·exact cm c h
   ·rw[AN.mp h];exact pW
  rintro ys H7 ⟨cs,rfl,gH,cm,o7,w7⟩ cI;refine⟨D,_,O,.inl ⟨TR cI,λt ht=>?_⟩⟩;have n8:=zf ht (.tup (cs.map nV));refine⟨zy (by show 2<=1000;decide),λb hb=>?_⟩;have n9:=zf hb (.tup [.str y,.ref t]);have oE:Off p H6 (upd (upd H7 t (.tup (cs.map nV))) b (.tup [.str y,.ref t])):=o7.trans (TZ (n8.trans n9));have rH:=w6.tk oE;have w9:=w7.same (n8.trans n9);have fK:=oE fd _ fp eX;have Lw:=@ze (upd H7 t (.tup (cs.map nV))) b (.tup [.str y,.ref t]);have me:=n9 _ _ (@ze H7 t (.tup (cs.map nV)));refine⟨fd,_,_,O,O,fK,zt ⋯,⟨_,O⟩,(o6.trans oE).fresh cT,w9.off (An fp),by rw[zJ lf];exact oE la _ lp mR,cps++[(y,cs)],aF++[.ref b],ze,?_,by rw[AO,en,take_snoc hy];rfl,λq hq=>?_⟩
  ·exact PCs.snoc (p:=(y,cs)) (Ti (TY fK) (Ti rH dO)) (TY fK _ _ Lw) (TY fK _ _ me)
  ·rcases AX.mp hq with h|h
   ·exact hg q h
   ·rw[AN.mp h];exact⟨gH,cm⟩
 ·rintro σ H6 ⟨⟨x6,rfl⟩,o6,w6,mR,cps,aF,eX,dO,en,hg⟩;rw[AB,Ak]at en;have dW:=Ac dO;have cl:cps.length=LT.length:=by rw[<- en,AB]
  have fX:(cps.map Prod.fst).Nodup:=by rw[en];exact nL
  refine⟨_,O,((1+v2:Nat):Int),O,⋯,⋯,λD hD=>?_⟩;rw[Av];have pD:=w6.ne hD;refine zT (λj ys H'=>∃cs:TC,ys=cs.map nV/\cs.length=j/\(∀c∈cs,c<A.m*B.m)/\Off p H6 H'/\Wel H' p) ⟨[],O,O,(λc h=>by cases h),TX hD,w6.off pD⟩ ?_ ?_
  ·rintro j ys H7 hj ⟨cs,rfl,gH,cm,o7,w7⟩ cI;refine yes ⟨_,O,_,O,.inr (.inl ⟨fa,_,0,_,O,O,TU ((w.tk (o2.trans (o6.trans o7))) _ _ f1),O,p,A.m*B.m,O,w7,⋯,⋯,λv8 H8 pW o8 w8=>?_⟩)⟩;have uo:=o8 D _ (An pD) cI;refine Zx hj qG uo (by rw[AB];exact zt ⋯) ⟨cs++[v8],by rw[AO];rfl,by rw[AJ,gH];rfl,λc hc=>?_,(o7.trans o8).fresh hD,w8.off pD⟩
   rcases AX.mp hc with h|h
   ·exact cm c h
   ·rw[AN.mp h];exact pW
  rintro ys H7 ⟨cs,rfl,gH,cm,o7,w7⟩ cI;refine⟨D,_,O,.inl ⟨TR cI,λwt kh=>?_⟩⟩;have n8:=zf kh (.tup (cs.map nV));have tG:=n8 _ _ (o7 fd _ fp eX);refine hide (R:=?R1) (D:=?D1) (P:=λR D=>∀(H9 HD:Hp) (ct t:Addr) (y:Str) (x:V),zH H7 H9->zH H9 HD->H9 wt=some (.tup (cs.map nV))->HD t=some (.tup [.str y,x])->((y = "said" /\ ∃lt us L,x=.ref lt/\HD lt=some (.tup us)/\Lns HD L us/\j8 (qK A B) (cps.map Prod.fst) L/\1<=L.length/\L.length<=81/\Told (qK A B) cs.length cps L cs)\/(y = "unsaid" /\ ∃ut bs ks,x=.ref ut/\HD ut=some (.tup bs)/\Paired (xU HD) ks bs/\∀col,col∈ks->Sd (qK A B) cs.length (cps.map Prod.snd) col))->R D [some (.ref p),some v,some (.ref ua),some (.ref fa),some (nV (1+v2)),some (.ref fd),x6,some (.ref wt),some (.ref t),none,none,none,none,none] HD) (λrest=>?main) ?r1
  case main=>
   refine⟨_,O,_,O,fd,_,O,.inl ⟨TR tG,λct eY=>?_⟩⟩;have n9:=zf eY (.tup aF);have fA:=n8.trans n9;have rH:=w6.tk (o7.trans (TZ fA));have Kp:=w.tk (o2.trans (o6.trans (o7.trans (TZ fA))));have eP:=n9 _ _ (@ze H7 wt (.tup (cs.map nV)));refine⟨_,O,.ref fa,ct,wt,qK A B,cps,aF,cs,O,ip.tk Kp,gP,nP,cP,ze,Ti rH dO,λr di=>⟨hL _ (en ▸ AK.mpr ⟨r,di,O⟩),by rw[gH];exact hg r di⟩,eP,⋯,⋯,Ar (DU ab _) (Ar (DI ∅ (show cs.length<=2 by lia)) ∅),λ_ t lt us L HD sD ht aA cQ hG Ko Kn lZ=>?_,λ_ t ut bs ks HD sD ht hX hP gw=>?_⟩
   ·exact rest _ HD ct t _ _ fA sD eP ht (.inl ⟨O,lt,us,L,O,aA,cQ,hG,Ko,Kn,lZ⟩)
   ·exact rest _ HD ct t _ _ fA sD eP ht (.inr ⟨O,ut,bs,ks,O,hX,hP,gw⟩)
  case r1=>
   intro H9 HD ct t y x fA sD eP ht gD;have rn:Off p H HD:=o2.trans (o6.trans (o7.trans (TZ (fA.trans sD))));have rG:=w.tk rn;have wD:Wel HD p:=w7.same (fA.trans sD);have i9:=rG _ _ u1;have B9:=gB.m9;have iN:=(fA.trans sD) _ _ (o7 fd _ fp eX);have mz:=Ti ((w6.tk o7).trans (Ta (fA.trans sD))) dO;have lT:=sD _ _ eP;have vJ:=ia.tk rG;have vH:=ib.tk rG;rw[gH]at gD;refine⟨_,O,O,_,O,zbb (Ag (by intro z;cases z)) ?_⟩;refine⟨_,O,fd,O,⟨_,TR iN⟩,λD1 aM=>?_⟩;refine yF (·/B.m) iN mz aM ⋯ (λr di u HA QA sA hu qA=>?_) (λfR Nr Iz uk ud=>?_)
   ·refine⟨_,O,_,O,u,O,⟨_,TU hu⟩,λD3 aB=>?_⟩;have r9:r.2.length<=1000:=by rw[(hg r di).1];lia
    refine Z7 r.2 nV (λz=>nV (z/B.m)) hu r9 aB (λz hz HB QB sB qB=>?_) (λHB sB um=>?_)
    ·exact⟨_,O,_,O,.inr (.inl ⟨ua,_,0,_,O,O,TU ((zH.rfl'.trans (sA.trans sB)) _ _ i9),O,_,_,O,O,⟨⋯,⋯⟩,qB _ zH.rfl'⟩)⟩
    refine⟨D3,_,O,.inl ⟨TR um,λt3 df=>⟨zy (by show 2<=1000;decide),λb3 tR=>?_⟩⟩⟩;have na:=zf df (.tup (r.2.map λz=>nV (z/B.m)));have nb:=zf tR (.tup [.str r.1,.ref t3]);refine qA b3 t3 _ (sB.trans (na.trans nb)) ze ?_;rw[nb _ _ ze,AW];rfl
   refine⟨D1,_,O,.inl ⟨TR uk,λkJ tE=>?_⟩⟩;have vC:=zf tE (.tup fR);have s1:=Iz.trans vC;have m8:=s1 _ _ iN;refine⟨_,O,fd,O,⟨_,TR m8⟩,λD2 aK=>?_⟩;refine yF (·%B.m) m8 (Ti (Ta s1) mz) aK ⋯ (λr di u HA QA sA hu qA=>?_) (λdX uP p6 uh ub=>?_)
   ·refine⟨_,O,_,O,u,O,⟨_,TU hu⟩,λD3 aB=>?_⟩;have r9:r.2.length<=1000:=by rw[(hg r di).1];lia
    refine Z7 r.2 nV (λz=>nV (z%B.m)) hu r9 aB (λz hz HB QB sB qB=>?_) (λHB sB um=>?_)
    ·exact⟨_,O,_,O,.inr (.inl ⟨ua,_,0,_,O,O,TU ((s1.trans (sA.trans sB)) _ _ i9),O,_,_,O,O,⋯,qB _ zH.rfl'⟩)⟩
    refine⟨D3,_,O,.inl ⟨TR um,λt3 df=>⟨zy (by show 2<=1000;decide),λb3 tR=>?_⟩⟩⟩;have na:=zf df (.tup (r.2.map λz=>nV (z%B.m)));have nb:=zf tR (.tup [.str r.1,.ref t3]);refine qA b3 t3 _ (sB.trans (na.trans nb)) ze ?_;rw[nb _ _ ze,AW];rfl
   refine⟨D2,_,O,.inl ⟨TR uh,λgF tD=>?_⟩⟩;have oJ:=zf tD (.tup dX);have s2:=s1.trans (p6.trans oJ);have F0:=(p6.trans oJ) _ _ (@ze Nr kJ (.tup fR));have gk:=Ti (Ta (vC.trans (p6.trans oJ))) ud;have Fz:=@ze uP gF (.tup dX);have kq:=Ti (Ta oJ) ub;show tSeq _ _ _ _ (upd uP gF (.tup dX));generalize upd uP gF (.tup dX)=HE at *;have ma:=s2 _ _ ht;have e1:(cps.map λr=>(r.1,r.2.map (·/B.m))).map Prod.fst=cps.map Prod.fst:=by rw[AW];rfl
   have e2:(cps.map λr=>(r.1,r.2.map (·%B.m))).map Prod.fst=cps.map Prod.fst:=by rw[AW];rfl
   rcases gD with ⟨rfl,lt,us,L,rfl,aA,cQ,hG,L1,L81,lZ⟩|⟨rfl,ut,bs,ks,rfl,hX,hP,gw⟩
   ·refine⟨_,O,.inr (.inl ⟨t,_,0,_,O,O,TU ma,O,O,_,O,iteP (by simp) ?_⟩)⟩;obtain⟨k1,c1⟩:=zbp (γ:=λk x=>gaC cps k x/B.m) (len:=1+v2) F0 gk (by rw[e1];exact fX) (by rw[AB];lia) (by rw[AB];lia) (zbr fX hg _);obtain⟨k2,c2⟩:=zbp (γ:=λk x=>gaC cps k x%B.m) (len:=1+v2) Fz kq (by rw[e2];exact fX) (by rw[AB];lia) (by rw[AB];lia) (zbr fX hg _);rw[e1,en]at c1;rw[e2,en]at c2;rw[en]at hG;have uf:=Qv (QF hS).symm hG;have LX:=Qv hS uf;have MS:=lZ (gaC cps) (zbq fX hg);obtain⟨q1,q2⟩:=col_pair gA gB nA hS uf (γ:=gaC cps) (λk x _=>gaC_lt P1 hg k x) (len:=1+v2) (n:=L.length-1) ⋯;rw[MS]at q1 q2;have mJ:=s2 _ _ aA;have mK:=Td (Ta s2) cQ;refine⟨_,O,_,O,_,O,.inr (.inl ⟨t,_,1,_,O,O,TU ma,O,v,kJ,lt,A,LT,k1,fR,us,L,λk x=>gaC cps k x/B.m,1+v2,O,vJ.same s2,gA,nA,c1,mJ,mK,uf,hL,L1,L81,⋯,⋯,λk x _=>Nat.div_lt_of_lt_mul (by rw[BP];exact gaC_lt P1 hg k x),λrt HF sF vS=>?_⟩)⟩;rw[q1]at vS;have lR:=(s2.trans sF) _ _ lT;refine⟨_,O,wt,O,⟨_,TU lR⟩,λD1 aM=>?_⟩;refine Z7 cs nV (λz=>nV (z/B.m)) lR ⋯ aM (λz hz HB QB sB qB=>?_) (λHP u7 LH=>?_)
    ·exact⟨_,O,_,O,.inr (.inl ⟨ua,_,0,_,O,O,TU (((s2.trans sF).trans sB) _ _ i9),O,_,_,O,O,⟨⋯,⋯⟩,qB _ zH.rfl'⟩)⟩
    have tX:HP D1=some (.lst ((cs.map (·/B.m)).map nV)):=by rw[LH,AW];rfl
    refine⟨D1,_,O,.inl ⟨TR tX,λIg rQ=>?_⟩⟩;have vy:=zf rQ (.tup ((cs.map (·/B.m)).map nV));refine⟨rt,Ig,_,_,O,O,TU ((u7.trans vy) _ _ vS),TU ze,qt _,qt _,O,_,O,?_⟩;rw[Jx (qt _)];refine iteF ?_;have fU:=sF.trans (u7.trans vy);refine⟨_,O,_,O,_,O,.inr (.inl ⟨t,_,1,_,O,O,TU (fU _ _ ma),O,.ref ua,gF,lt,B,LT,k2,dX,us,L,λk x=>gaC cps k x%B.m,1+v2,O,(vH.same s2).same fU,gB,nB,c2.tk (Ta fU),fU _ _ mJ,Td (Ta fU) mK,LX,hL,L1,L81,⋯,⋯,λk x _=>CG _ B1,λIA HF2 p7 my=>?_⟩)⟩;rw[q2]at my;have gg:=(fU.trans p7) _ _ (s2 _ _ lT);refine⟨_,O,wt,O,⟨_,TU gg⟩,λD2 aK=>?_⟩;refine Z7 cs nV (λz=>nV (z%B.m)) gg ⋯ aK (λz hz HB QB sB qB=>?_) (λNq u6 LG=>?_)
    ·exact⟨_,O,_,O,.inr (.inl ⟨ua,_,0,_,O,O,TU (((s2.trans (fU.trans p7)).trans sB) _ _ i9),O,_,_,O,O,⋯,qB _ zH.rfl'⟩)⟩
    have tW:Nq D2=some (.lst ((cs.map (·%B.m)).map nV)):=by rw[LG,AW];rfl
    refine⟨D2,_,O,.inl ⟨TR tW,λIe rP=>?_⟩⟩;have vx:=zf rP (.tup ((cs.map (·%B.m)).map nV));refine⟨IA,Ie,_,_,O,O,TU ((u6.trans vx) _ _ my),TU ze,qt _,qt _,O,?_⟩;rw[Jx (qt _)];exact q _ (rn.trans (TZ (s2.trans (fU.trans (p7.trans (u6.trans vx))))))
   ·refine⟨_,O,.inr (.inl ⟨t,_,0,_,O,O,TU ma,O,O,_,O,zbb (by simp;ac_rfl) ?_⟩)⟩;refine⟨_,O,.inr (.inl ⟨t,_,1,_,O,O,TU ma,O,_,O,slT_any (s2 _ _ hX) λst xs HS sS dz hm=>⟨st,O,⟨_,TU dz⟩,?_⟩⟩)⟩;refine QC (xs:=xs) (λi σ H'=>(∃kO kN kM,σ=[some (.ref p),some v,some (.ref ua),some (.ref fa),some (nV (1+v2)),some (.ref fd),x6,some (.ref wt),some (.ref t),some (.ref kJ),some (.ref gF),kO,kN,kM])/\zH HE H'/\H' st=some (.tup xs)) ⟨⟨_,_,_,O⟩,sS,dz⟩ (λi σ H' _ h=>TU h.2.2) ?_ ?_
    ·rintro i x σ HL hx ⟨⟨kO,kN,kM,rfl⟩,sL,mh⟩;obtain⟨col,bu,cb,rfl,Lq⟩:=YD hP (hm x (AL hx));have Fx:∀b∈cps.map Prod.snd,qc (A.m*B.m) (1+v2) b:=λb hb=>by obtain⟨r,di,rfl⟩:=AK.mp hb;exact hg r di
     have uz:=Yz gP nP Fx (gw col bu);have gl:col.length=1+v2:=uz.1;obtain⟨uZ,uY⟩:=sd_pair gA gB nA hS ab Fx (gw col bu);have kZ:=s2.trans sL;have iR:=kZ _ _ Lq;refine⟨_,O,_,O,?_⟩;refine⟨_,O,cb,O,⟨_,TU iR⟩,λD3 aB=>?_⟩;refine Z7 col nV (λz=>nV (z/B.m)) iR ⋯ aB (λz hz HB QB sB qB=>?_) (λNp Iy LF=>?_)
     ·exact⟨_,O,_,O,.inr (.inl ⟨ua,_,0,_,O,O,TU ((kZ.trans sB) _ _ i9),O,_,_,O,O,⟨⋯,⋯⟩,qB _ zH.rfl'⟩)⟩
     have tV:Np D3=some (.lst ((col.map (·/B.m)).map nV)):=by rw[LF,AW];rfl
     refine⟨D3,_,O,.inl ⟨TR tV,λIc rO=>?_⟩⟩;have IY:=zf rO (.tup ((col.map (·/B.m)).map nV));have sM:=Iy.trans IY;refine⟨v,kJ,Ic,A,_,fR,dv B.m col,O,vJ.same (kZ.trans sM),gA,nA,c4,(sL.trans sM) _ _ F0,Ti (Ta (sL.trans sM)) gk,λr di=>?_,ze,by rw[AB];lia,by rw[AB];lia,Ar (DU (show A.m<=9 from gA.m9) _) (Ar (DI ∅ (show (dv B.m col).length<=2 by rw[AB];lia)) ∅),λ_ t1 vF us1 L1 HM sN dh _ _ _ _ _ _=>?_,λhs=>absurd (by rw[AB,gl,AW];rw[AW]at uZ;exact uZ) hs⟩
     ·obtain⟨r',cy,rfl⟩:=AK.mp di;rw[AB,gl];exact⟨hL _ (en ▸ AK.mpr ⟨r',cy,O⟩),dv_good (hg r' cy)⟩
     have p5:=sM.trans sN;have nk:=p5 _ _ iR;refine⟨_,O,_,O,?_⟩;refine⟨_,O,cb,O,⟨_,TU nk⟩,λD4 cF=>?_⟩;refine Z7 col nV (λz=>nV (z%B.m)) nk ⋯ cF (λz hz HB QB sB qB=>?_) (λNn Iw LD=>?_)
     ·exact⟨_,O,_,O,.inr (.inl ⟨ua,_,0,_,O,O,TU (((kZ.trans p5).trans sB) _ _ i9),O,_,_,O,O,⋯,qB _ zH.rfl'⟩)⟩
     have tU:Nn D4=some (.lst ((col.map (·%B.m)).map nV)):=by rw[LD,AW];rfl
     refine⟨D4,_,O,.inl ⟨TR tU,λIb rN=>?_⟩⟩;have IX:=zf rN (.tup ((col.map (·%B.m)).map nV));have sO:=Iw.trans IX;have kX:=p5.trans sO;refine⟨.ref ua,gF,Ib,B,_,dX,md B.m col,O,vH.same (kZ.trans kX),gB,nB,cB,(sL.trans kX) _ _ Fz,Ti (Ta (sL.trans kX)) kq,λr di=>?_,ze,by rw[AB];lia,by rw[AB];lia,Ar (DU B9 _) (Ar (DI ∅ (show (md B.m col).length<=2 by rw[AB];lia)) ∅),λ_ t2 vE us2 L2 HN sP bS _ _ _ _ _ _=>?_,λhs=>absurd (by rw[AB,gl,AW];rw[AW]at uY;exact uY) hs⟩
     ·obtain⟨r',cy,rfl⟩:=AK.mp di;rw[AB,gl];exact⟨hL _ (en ▸ AK.mpr ⟨r',cy,O⟩),md_good B1 (hg r' cy)⟩
     have rY:=(sO.trans sP) _ _ dh;have fin:(∃kO kN kM,[some (.ref p),some v,some (.ref ua),some (.ref fa),some (nV (1+v2)),some (.ref fd),x6,some (.ref wt),some (.ref t),some (.ref kJ),some (.ref gF),some (.ref cb),some (.ref t1),some (.ref t2)]=[some (.ref p),some v,some (.ref ua),some (.ref fa),some (nV (1+v2)),some (.ref fd),x6,some (.ref wt),some (.ref t),some (.ref kJ),some (.ref gF),kO,kN,kM])/\zH HE HN/\HN st=some (.tup xs):=⟨⟨_,_,_,rfl⟩,sL.trans (kX.trans sP),(kX.trans sP) _ _ mh⟩
     refine⟨_,O,O,_,O,zbb (Ag (by intro z;cases z)) ⟨_,O,O,_,O,zbb (Ag (by intro z;cases z)) ?_⟩⟩;refine⟨_,O,.inr (.inl ⟨t1,_,0,_,O,O,TU rY,O,O,_,O,zbb (by simp) ?_⟩)⟩;refine⟨_,O,.inr (.inl ⟨t2,_,0,_,O,O,TU bS,O,O,_,O,zbb (by simp) ?_⟩)⟩;exact fin
    ·rintro σ HL ⟨⟨kO,kN,kM,rfl⟩,sL,mh⟩;exact q _ (rn.trans (TZ (s2.trans sL)))
abbrev Zw:Stmt:=top 55
def jA:zD ["_law_well_here", "_law_one", "_law_other_here", "_law_order_here", "_law_about"] ["_law_well_here"] (zm Zw):=⟨rfl,rfl,rfl,∅,rfl,∅,∅⟩
def yR (F:Fun K "_law_right" "_law_right" Zw f fd) (gb:Gb mg) {c:Nat->Addr}(cl:Cl K mg c) (bx:Def P w K mg base 3 "_law_table" ["_law_well_here", "_law_most", "_law_some"] Yp) (bA:Def P w K mg base 3 "_law_other" ["_law_well_here", "_law_table_here", "_law_most"] WJ) (bB:Def P w K mg base 2 "_law_order" ["_law_well_here", "_law_many"] Yq) (bW:Def P w K mg base 4 "alike" ["T"] Yt) (b6:Def P w K mg base 4 "turned" ["T", "order"] YB) (d_law_pairs_said:Def P w K mg base 7 "_law_pairs_said" ["_law_well_here", "_law_one", "_law_other_here", "_law_both"] WN) (b9:Def P w K mg base 4 "paired" ["one", "other"] YC):jo P w K mg base CX0 8 f fd ["_law_well_here"] JT:=by
 refine F.ok jA (λvs H Q E h=>?_) (λaC A outer s H vs Q E hr h=>?_)
 ·obtain⟨p,rfl,_⟩:=h;rfl
 obtain⟨p,rfl,w,q⟩:=h;have aD:(["_law_part", "_law_order_here"]:TJ).Nodup:=∅;have nd1:(["_law_mark", "_law_order_here"]:TJ).Nodup:=∅;refine⟨_,(GE (GF 1 jA.nd O (Or.inl O) (GD bx hr ⋯ O (Gq (Gs 0 O O) (Gq GB (Gq GB Gx O) O) O) ∅ O O) O (by ac_nf)) (GE (GF 2 jA.nd O (Or.inl O) (GD bA hr ⋯ O (Gq (Gs 0 O O) (Gq (Gs 1 O O) (Gq (GI (@Z5 _) GB (GO (GP K O) (Gs 1 O O) GB (λ_ _=>rfl))) Gx O) O) O) ∅ O O) O (by ac_nf)) (GE (GF 3 jA.nd O (Or.inr O) (GD bB hr ⋯ O (Gq (Gs 0 O O) (Gq (GO (GP K O) (Gs 1 O O) GB (λ_ _=>rfl)) Gx O) O) ∅ O O) O (by ac_nf)) (GE (G7 ["_law_part", "_law_order_here"] [none,some 3] 4 (by show zC ["_law_well_here", "_law_one", "_law_other_here", "_law_order_here", "_law_about"] (zm Zw) _ _ _;ac_nf0) O (GY K (GD bW hr ⋯ O (Gq (Gs 1 O O) Gx O) ∅ O O) O) (λ_ _ _ _=>(Gu 0 aD O O)) Kl (λ_ _ _ _=>(GX (Kb K O) O gb.tuple zG (Gq (Gp (@Wf _ K O) O gb.sorted ZI (Gq (Gr ["_law_mark", "_law_order_here"] [none,some 1] (by exact (Jy (show Ws ["_law_part", "_law_order_here"] _ ["_law_mark", "_law_order_here"] [none,some 1] _ from⟨O,∅,∅,∅,∅,O,∅⟩))) O (GY K (Gs 0 O O) O) (λ_ _ _ _=>(Gu 0 nd1 O O)) Kl (λ_ _ _ _=>(GO (GP K O) (Gs 1 O O) (Gs 0 O O) (λ_ _=>rfl))) nofun) Gx O) ∅ ∅ O O) Gx O) ∅ ∅ O O)) jA.nd O O O nofun) (GE (GK (GJ (@op_neD _ 1 _ hr ∅) (GD bW hr ⋯ O (Gq (GD b6 hr ⋯ O (Gq (Gs 1 O O) (Gq (Gs 3 O O) Gx O) O) ∅ O O) Gx O) ∅ O O) (GX (Kb K O) O gb.tuple zG (Gq (Gp (@JF _ K O) O gb.sorted ZI (Gq (Gs 4 O O) Gx O) ∅ ∅ O O) Gx O) ∅ ∅ O O) (GC ∅ ∅)) (Gm (Gn GM)) GW) (Gm (Gn (GD d_law_pairs_said hr ⋯ O (Gq (Gs 0 O O) (Gq (Gs 1 O O) (Gq (Gs 2 O O) (Gq (GD b9 hr ⋯ O (Gq (Gs 1 O O) (Gq (Gs 2 O O) Gx O) O) ∅ O O) Gx O) O) O) O) ∅ O O)))))))),?_⟩;refine⟨_,O,p,4,3,O,w,by decide,by decide,by decide,λv A H1 o1 w1 gA m4 c4 nA ia=>?_⟩;obtain⟨a,w0,c0,vs,rfl,h1,h2,h3,h4⟩:=id ia;have A1:=gA.m1;obtain⟨kk,ek,k1,k9⟩:∃kk:Nat,9/A.m=kk/\1<=kk/\kk<=9:=⟨_,rfl,(Nat.one_le_div_iff A1).mpr ⋯,Nat.div_le_self _ _⟩
 refine⟨_,O,_,O,_,O,.inr (.inl ⟨a,_,0,_,O,O,TU h1,O,_,_,O,O,⟨⋯,⋯⟩,p,.ref a,A,kk,(by rw[<- ek];rfl),w1,ia,gA,k1,k9,λu B H2 o2 w2 gB bk hS ib=>?_⟩)⟩;have ab:A.m*B.m<=9:=Ar (Nat.mul_le_mul_left _ (Ar bk (Eg ek.symm))) (Nat.mul_div_le 9 A.m);have k12:=w1.tk o2;refine⟨_,O,_,O,.inr (.inl ⟨a,_,0,_,O,O,TU (k12 _ _ h1),O,p,A.m,O,w2,A1,⋯,λot o H3 o3 w3 ho vU=>?_⟩)⟩;have k13:=k12.trans (w2.tk o3);refine⟨_,O,.ref a,A,O,ia.tk k13,gA,nA,λt xs H4 s4 ht hT=>?_⟩;refine⟨t,O,⟨_,TU ht⟩,λD hD=>?_⟩;have xl:=Ac hT;have mk:=(ZN gA).mks;have rl:(Qw A).length<=9:=by
  have h9:=(B7 (λr=>decide (Tn.at' (mkT A) r=r)) (Bu (n:=A.m)))
  have:(Qw A).length<=(List.range A.m).length:=C8 _ _;rw[AU]at this;lia
 have pl:(ptsT A).length=(Qw A).length:=AB ..;refine Q1 (xs:=xs) (λi ys H'=>zH H4 H'/\Paired (xU H') (((Qw A).take i).map λr=>Tn.partF A.m (mkT (qj A o)) (Tn.at' (mkT (qj A o)) (Tn.at' o r))) ys) ⟨zf hD _,.nil⟩ (λi ys H' h _=>TU (h.1 _ _ ht)) ?_ ?_
 ·rintro i ys H5 x hx ⟨s5,hy⟩ bV;have hi:=(AD.mp hx).1;have hr:(Qw A)[i]?=some (Qw A)[i]:=AC ⋯;generalize (Qw A)[i]=r at hr;have km:(ptsT A)[i]?=some (Tn.partF A.m (mkT A) r):=by unfold ptsT;rw[AG,hr];rfl
  obtain⟨tp,rfl,KH⟩:=TV hT i _ _ km hx;have lY:=s5 _ _ KH;have sC:=s5 _ _ (s4 _ _ vU);have pl9:(Tn.partF A.m (mkT A) r).length<=9:=by have:(Tn.partF A.m (mkT A) r).length<=(List.range A.m).length:=C8 _ _;rw[AU]at this;lia
  refine yes ⟨_,O,tp,O,⟨_,TU lY⟩,λD2 aK=>?_⟩;refine Z7 (Tn.partF A.m (mkT A) r) nV (λz=>nV (Tn.at' o z)) lY ⋯ aK (λz hz H' Q' s6 q'=>?_) (λH6 s6 cZ=>?_)
  ·exact⟨_,O,_,O,.inr (.inl ⟨ot,_,_,_,O,O,TU (s6 _ _ sC),JI (by rw[ho.len];exact (Tn.part_mem.mp hz).1),q' _ zH.rfl'⟩)⟩
  have uq:H6 D2=some (.lst ((((Tn.partF A.m (mkT A) r).map (Tn.at' o)).map λ(n:Nat)=>(n:Int)).map V.int)):=by rw[cZ,AW,AW];rfl
  refine⟨D2,_,O,TR uq,by rw[AB,AB];lia,λl ms hl bU asc=>?_⟩;obtain⟨ns,rB,rfl⟩:=Y7 bU _ rfl;have uM:ns.Pairwise (· <= ·):=by rw[A7]at asc;exact asc.imp λh=>⋯
  have MX:=zbm gA ho (AL hr) rB uM;have n7:=zf hl (.lst ((ns.map λ(n:Nat)=>(n:Int)).map V.int));refine⟨l,_,O,.inl ⟨TR ze,λt2 bS=>?_⟩⟩;have n8:=zf bS (.tup ((ns.map λ(n:Nat)=>(n:Int)).map V.int));have kY:=s6.trans (n7.trans n8);have fD:=Ac hy;rw[AB,Ae]at fD;refine Zx hi qG (kY _ _ bV) (zt ⋯) ⟨(s5.trans kY).put hD,?_⟩;rw[take_snoc hr,AO];refine Xc (Tj (TY (kY _ _ bV)) (Tj (Ta kY) hy)) (.cons ⟨t2,O,TY (kY _ _ bV) _ _ ?_⟩ .nil);rw[ze];show some (HO.tup ((ns.map λ(n:Nat)=>(n:Int)).map V.int))=some (HO.tup ((Tn.partF A.m (mkT (qj A o)) (Tn.at' (mkT (qj A o)) (Tn.at' o r))).map nV));rw[<- MX,AW];rfl
 rintro ys H5 ⟨s5,hy⟩ bV;rw[BX ⋯]at hy;have II:Off p H3 H5:=TZ (s4.trans s5);have k15:=k13.trans (w3.tk II);have Kv:=ia.tk k15;have nT:(qH (qj A o)).Nodup:=QN (turn_sh A o) ▸ nA;refine⟨_,O,_,O,.ref a,ot,A,o,O,Kv,gA,ho,(s4.trans s5) _ _ vU,λtu H6 s6 it=>?_⟩;refine⟨tu,qj A o,O,it,gA.turn ho,nT,λt7 xs7 H7 s7 KL LM=>?_⟩;have cI:=(s6.trans s7) _ _ bV;have oP:=Tj (Ta (s6.trans s7)) hy;obtain⟨Nb,Na,M9⟩:=turn_cm gA ho;refine⟨_,O,D,_,_,O,TR cI,oP,Nb,Na,M9,by rw[AB];lia,λl bs ks hl LR bU asc=>?_⟩;have n8:=zf hl (.lst bs);refine⟨l,_,O,.inl ⟨TR ze,λt9 me=>?_⟩⟩;have n9:=zf me (.tup bs);have M0:=turn_pts gA ho bU asc;have LL:=Tps.tk (Ta (n8.trans n9)) LM;have F9:=Tj (Ta (n8.trans n9)) LR;rw[M0]at F9;refine⟨t7,t9,_,_,O,O,(n8.trans n9) _ _ KL,ze,al_of LL F9,_,O,iteF ?_⟩;have u9:=s4.trans (s5.trans (s6.trans (s7.trans (n8.trans n9))));have vi:Off p H3 _:=TZ u9;have w9:=w3.same u9;have k39:=w3.tk vi;have vK:=ia.tk (k13.trans k39);have vI:=ib.tk ((w2.tk o3).trans k39);refine⟨_,O,_,O,_,O,_,O,_,O,.ref a,u,A,B,O,vK,vI,gA,gB,hS,ab,λf HF sF ip=>?_⟩;exact⟨p,.ref a,u,f,A,B,O,w9.same sF,vK.same sF,vI.same sF,ip,gA,gB,hS,nA,c4,ab,λH' o'=>q H' (o1.trans (o2.trans (o3.trans (vi.trans ((TZ sF).trans o')))))⟩
abbrev wu:Stmt:=top 56
def sc_law:zD ["_law_script"] ["_law_script"] (zm wu):=⟨rfl,rfl,rfl,∅,rfl,∅,∅⟩
def ok_law (F:Fun K "law" "law" wu f fd) (gb:Gb mg) {c:Nat->Addr}(cl:Cl K mg c) (bz:Def P w K mg base 8 "_law_right" ["_law_well_here"] JT) (bE:Def P w K mg base 1 "_law_well" ["_law_script", "_law_place"] (zaP K)):jo P w K mg base CX0 9 f fd ["_law_script"] (spLaw K):=by
 refine F.ok sc_law (λvs H Q E h=>?_) (λaC A outer s H vs Q E hr h=>?_)
 ·obtain⟨a,ns,rfl,_⟩:=h;rfl
 obtain⟨a,ns,rfl,hS,hn,q⟩:=h;have aD:(["_law_k", "_law_script"]:TJ).Nodup:=∅;refine⟨_,(Gm (Gn (Gp (@W8 _ K O O) O gb.all bt_all (Gq (Gr ["_law_k", "_law_script"] [none,some 0] (by show zC ["_law_script"] (zm wu) _ _ _;ac_nf0) O (G8 O gb.range (Gq (Gp (@xt _ K O) O gb.max bt_max (Gq GB (Gq (Gp (@xw _ K O) O gb.min bt_min (Gq (Gp (GA K O) O gb.len jI (Gq (Gs 0 O O) Gx O) ∅ ∅ O O) (Gq GB Gx O) O) ∅ ∅ O O) Gx O) O) ∅ ∅ O O) Gx O) O) (λ_ _ _ _=>(Gu 0 aD O O)) Kl (λ_ _ _ _=>(GD bz hr ⋯ O (Gq (GD bE hr ⋯ O (Gq (Gs 1 O O) (Gq (Gs 0 O O) Gx O) O) ∅ O O) Gx O) ∅ O O)) nofun) Gx O) ∅ ∅ O O))),?_⟩;obtain⟨n,en,n0,n6⟩:∃n:Int,(if (if (2:Int)<((ns.map V.int).length:Int) then 2 else ((ns.map V.int).length:Int)) > 1 then (if (2:Int)<((ns.map V.int).length:Int) then 2 else ((ns.map V.int).length:Int)) else 1)=n/\0<=n/\n<=2:=⟨_,rfl,by split <;> lia,by split <;> (try split) <;> lia⟩
 refine⟨_,O,_,(ns.map V.int).length,O,.inl ⟨_,hS,O⟩,_,_,O,_,_,O,n,by (show [V.int _]=_;rw[en]),⋯,⋯,λD hD=>?_⟩;refine zT (λi ys H'=>zH H H'/\ys=(List.replicate i true).map V.bl) ⟨zf hD _,O⟩ ?_ ?_
 ·rintro i ys H1 hi ⟨s1,rfl⟩ aM;refine yes ⟨_,O,_,O,a,ns,_,O,s1.seq hS,hn,λp H2 np s2 w2=>⟨p,O,w2,λH3 o3=>?_⟩⟩;have s3:zH H1 H3:=λb o e=>o3 b o (zN e np) (s2 b o e);have aB:=s3 _ _ aM;refine Zx hi qG aB (by rw[AB,Eu];exact zt ⋯) ⟨(s1.trans s3).put hD,?_⟩;rw[List.replicate_succ',AO];rfl
 ·rintro ys H1 ⟨s1,rfl⟩ aM;refine⟨D,_,O,TR aM,?_⟩;rw[show (List.replicate n.toNat true).all id=true by simp];exact q _
end
theorem QX {α:Type}:∀{us:List α},us.length=1->∃x0,us=[x0]
 | [x0],_=>⟨x0,rfl⟩
theorem QY {α:Type}:∀{us:List α},us.length=2->∃x0 x1,us=[x0,x1]
 | [x0,x1],_=>⟨x0,x1,rfl⟩
theorem QZ {α:Type}:∀{us:List α},us.length=3->∃x0 x1 x2,us=[x0,x1,x2]
 | [x0,x1,x2],_=>⟨x0,x1,x2,rfl⟩
theorem lenK4 {α:Type}:∀{us:List α},us.length=4->∃x0 x1 x2 x3,us=[x0,x1,x2,x3]
 | [x0,x1,x2,x3],_=>⟨x0,x1,x2,x3,rfl⟩
theorem lenK5 {α:Type}:∀{us:List α},us.length=5->∃x0 x1 x2 x3 x4,us=[x0,x1,x2,x3,x4]
 | [x0,x1,x2,x3,x4],_=>⟨x0,x1,x2,x3,x4,rfl⟩
def FD (K:Fv)(x:Str)(st:Stmt):Prop:=∃(f:Addr) (fd:FuncData),PySem.W.nsIn K mainGlobals x=some (some (.ref f))/\PySem.W.keepIn K (.ref f)=true/\Fun K x x st f fd
def qv {K:Fv}{x:Str}{st:Stmt}{f:Addr}{oc kV dc pm cd ct:Value}{od an:Option Addr}{sl:Array (Option Value)}(a:PySem.W.nsIn K mainGlobals x=some (some (.ref f)))(l:K.lookup f=some ⟨oc,od,.func (PySem.W.fnOf x x (Zh st) (jG st) (zm st) .none kV dc pm an cd ct),sl⟩)(c:PySem.W.codeIn K cd x=true)(k:PySem.W.keepIn K (.ref f)=true):FD K x st:=⟨f,_,a,k,fun_mk l c k⟩
def zW {P:Program}{w:World}{K:Fv}{mg:Str->Option Value}{h base:Heap}{x:Str}{st:Stmt}{k:Nat}{ps:TJ}{sp:Sp}(X:K.In h)(G:h.Ns mainGlobals mg)(d:FD K x st)(ok:∀f fd,Fun K x x st f fd->jo P w K mg base CX0 k f fd ps sp)(hb:∀(kV dc pm:Value) (an:Option Addr) (cd ct:Value) (us:TF),us.length=ps.length->bindArgs (PySem.W.fnOf x x (Zh st) (jG st) (zm st) .none kV dc pm an cd ct) ⟨us,[]⟩=pure (ps.zip us)):Def P w K mg base k x ps sp:=by obtain⟨f,fd,a,k,F⟩:=d;exact⟨f,fd,ok f fd F,C6 X G a,k,F.binds hb⟩
def YJ {P:Program}{w:World}{K:Fv}{mg:Str->Option Value}{h base:Heap}{x:Str}{st:Stmt}{k:Nat}{ps:TJ}{sp:Sp}(X:K.In h)(G:h.Ns mainGlobals mg)(d:FD K x st)(ok:∀f fd,Fun K x x st f fd->jo P w K mg base (CX1 P w) k f fd ps sp)(hb:∀(kV dc pm:Value) (an:Option Addr) (cd ct:Value) (us:TF),us.length=ps.length->bindArgs (PySem.W.fnOf x x (Zh st) (jG st) (zm st) .none kV dc pm an cd ct) ⟨us,[]⟩=pure (ps.zip us)):Def1 P w K mg base k x ps sp:=by obtain⟨f,fd,a,k,F⟩:=d;exact⟨f,fd,ok f fd F,C6 X G a,k,F.binds hb⟩
def all_mk {l:PySem.W.OpenLaw}{w:World}{K:Fv}{h:Heap}{mg:Str->Option Value}{fa fL Hy uJ:Addr}(X:K.In h) (G:h.Ns mainGlobals mg) (Lh:mg "law" = some (.ref fa)) {od an:Option Addr}{sl:Array (Option Value)}{oc kV dc pm cd ct:Value}
  (h0:FD K "has_small_letters_alone" zX)
  (h1:FD K "is_letter" Qd)
  (h2:FD K "needed_lines" j9)
  (h3:FD K "cells_by_name" jg)
  (h4:FD K "check_names" Zn)
  (h5:FD K "check_letters" jK)
  (h6:FD K "column_from" qL)
  (h7:FD K "line_column" jD)
  (h8:FD K "renumbered" jX)
  (h9:FD K "needed_alone" jt)
  (MF:FD K "column_of" Zo)
  (ME:FD K "keep" zbs)
  (MD:FD K "lines_without_parts" qk)
  (MA:FD K "lines_with" jw)
  (Mz:FD K "all_sayable" Zp)
  (My:FD K "sayable" JW)
  (Mx:FD K "steps_of" Zg)
  (Mw:FD K "stepped" JX)
  (Mv:FD K "first_places" ju)
  (Mu:FD K "first_places" ji)
  (Mt:FD K "parted_further" qS)
  (Ms:FD K "grades_with" jE)
  (Mr:FD K "alike" J1)
  (Mq:FD K "next_places" jF)
  (Mp:FD K "cell_places" Zq)
  (Mo:FD K "shapes_of" Zr)
  (Mn:FD K "cells_at" ZW)
  (Mm:FD K "paired" Zs)
  (Ml:FD K "remade" ZX)
  (Mj:FD K "turned" Jd)
  (Mh:FD K "_law_well" QJ)
  (uu:FD K "_law_draw" QK)
  (Mg:FD K "_law_names" jP)
  (Mf:FD K "_law_cells" jp)
  (Me:FD K "_law_table" Zu)
  (Md:FD K "_law_other" jQ)
  (Mc:FD K "_law_order" Zv)
  (Mb:FD K "_law_asked" Qe)
  (Ma:FD K "_law_pairs_said" zM)
  (L9:FD K "_law_right" Zw)
  (aL:PySem.W.nsIn K mainGlobals "law" = some (some (.ref fL))) (lL:K.lookup fL=some ⟨oc,od,.func (PySem.W.fnOf "law" "law" (Zh wu) (jG wu) (zm wu) .none kV dc pm an cd ct),sl⟩) (cL:PySem.W.codeIn K cd "law" = true) (kL:PySem.W.keepIn K (.ref fL)=true)
  (z0:PySem.W.nsIn K mainGlobals "abs" = some none)
  (z1:PySem.W.nsIn K mainGlobals "range" = some none)
  (z2:PySem.W.nsIn K mainGlobals "tuple" = some none)
  (z3:PySem.W.nsIn K mainGlobals "list" = some none)
  (z4:PySem.W.nsIn K mainGlobals "isinstance" = some none)
  (z5:PySem.W.nsIn K mainGlobals "int" = some none)
  (z6:PySem.W.nsIn K mainGlobals "str" = some none)
  (z7:PySem.W.nsIn K mainGlobals "len" = some none)
  (z8:PySem.W.nsIn K mainGlobals "min" = some none)
  (z9:PySem.W.nsIn K mainGlobals "max" = some none)
  (z10:PySem.W.nsIn K mainGlobals "all" = some none)
  (z11:PySem.W.nsIn K mainGlobals "any" = some none)
  (z12:PySem.W.nsIn K mainGlobals "bool" = some none)
  (z13:PySem.W.nsIn K mainGlobals "divmod" = some none)
  (z14:PySem.W.nsIn K mainGlobals "dict" = some none)
  (z15:PySem.W.nsIn K mainGlobals "sorted" = some none)
  (z16:PySem.W.nsIn K mainGlobals "reversed" = some none)
  (z17:PySem.W.nsIn K mainGlobals "zip" = some none)
  (z18:PySem.W.nsIn K mainGlobals "set" = some none)
  (z19:PySem.W.nsIn K mainGlobals "enumerate" = some none)
  {Ia:Tok} (y0:PySem.W.nsIn K mainGlobals "MOST_COLUMNS" = some (some (.int 81 Ia)))
  {H0:Tok} (y1:PySem.W.nsIn K mainGlobals "MOST_GRADES" = some (some (.int 9 H0)))
  (g0:PySem.W.nsIn K mainGlobals "GradeError" = some (some (.ref Hy)))
  (g1:PySem.W.nsIn K mainGlobals "TooMany" = some (some (.ref uJ)))
  (w0:PySem.W.excIn K uJ [.type "ValueError",.type "Exception",.type "BaseException",.type "object"] "ValueError.__new__" = true)
  : ∃fd:FuncData,(∀(s:Shared) (v:Value),BindsTo s fd ⟨[v],[]⟩ [("_law_script",v)])/\∀base:Heap,K.In base->base.Ns mainGlobals mg->jo l.prog w K mg base CX0 9 fa fd ["_law_script"] (spLaw K):=by
 have e:=Lh.symm.trans (C6 X G aL);cases e;have gb:Gb mg:=⟨A4 X G z0,A4 X G z1,A4 X G z2,A4 X G z3,A4 X G z4,A4 X G z5,A4 X G z6,A4 X G z7,A4 X G z8,A4 X G z9,A4 X G z10,A4 X G z11,A4 X G z12,A4 X G z13,A4 X G z14,A4 X G z15,A4 X G z16,A4 X G z17,A4 X G z18,A4 X G z19,⟨_,C6 X G y0,_,rfl⟩,⟨_,C6 X G y1,_,rfl⟩⟩
 obtain⟨c,cl⟩:∃c:Nat->Addr,Cl K mg c:=⟨λi=>[Hy,uJ].getD i 0,⟨C6 X G g0,C6 X G g1,w0⟩⟩
 refine⟨PySem.W.fnOf "law" "law" (Zh wu) (jG wu) (zm wu) .none kV dc pm an cd ct,λs v=>.of_eq rfl,λbase _ _=>?_⟩;have d_has_small_letters_alone:Def l.prog w K mg base 1 "has_small_letters_alone" ["text"] Yr:=zW X G h0 (λ_ _ F=>jT F gb cl) λ_ _ _ _ _ _ us hl=>by obtain⟨aZ,rfl⟩:=QX hl;rfl
 have ae:Def l.prog w K mg base 2 "is_letter" ["thing"] JP:=zW X G h1 (λ_ _ F=>yH F gb cl d_has_small_letters_alone) λ_ _ _ _ _ _ us hl=>by obtain⟨aZ,rfl⟩:=QX hl;rfl
 have ak:Def l.prog w K mg base 3 "needed_lines" ["lines"] Y9:=zW X G h2 (λ_ _ F=>JU F gb cl ae) λ_ _ _ _ _ _ us hl=>by obtain⟨aZ,rfl⟩:=QX hl;rfl
 have d_cells_by_name:Def l.prog w K mg base 1 "cells_by_name" ["H"] zaX:=zW X G h3 (λ_ _ F=>QT F gb cl) λ_ _ _ _ _ _ us hl=>by obtain⟨aZ,rfl⟩:=QX hl;rfl
 have aX:Def l.prog w K mg base 3 "check_names" ["shapes", "parts"] za0:=zW X G h4 (λ_ _ F=>we F gb cl ae) λ_ _ _ _ _ _ us hl=>by obtain⟨aZ,bN,rfl⟩:=QY hl;rfl
 have d_check_letters:Def l.prog w K mg base 3 "check_letters" ["parts", "known"] za1:=zW X G h5 (λ_ _ F=>QU F gb cl ae) λ_ _ _ _ _ _ us hl=>by obtain⟨aZ,bN,rfl⟩:=QY hl;rfl
 have aW:Def l.prog w K mg base 1 "column_from" ["cells", "many", "columns", "length"] za2:=zW X G h6 (λ_ _ F=>wf F gb cl) λ_ _ _ _ _ _ us hl=>by obtain⟨aZ,bN,dm,pR,rfl⟩:=lenK4 hl;rfl
 have ai:Def l.prog w K mg base 2 "line_column" ["T", "cells", "ahead", "line", "length"] WA:=zW X G h7 (λ_ _ F=>wg F gb cl aW) λ_ _ _ _ _ _ us hl=>by obtain⟨aZ,bN,dm,pR,z4_,rfl⟩:=lenK5 hl;rfl
 have bg:Def l.prog w K mg base 3 "renumbered" ["line", "numbers"] Yw:=zW X G h8 (λ_ _ F=>WP F gb cl ae) λ_ _ _ _ _ _ us hl=>by obtain⟨aZ,bN,rfl⟩:=QY hl;rfl
 have ao:Def l.prog w K mg base 4 "needed_alone" ["lines"] WC:=zW X G h9 (λ_ _ F=>JV F gb cl ak bg) λ_ _ _ _ _ _ us hl=>by obtain⟨aZ,rfl⟩:=QX hl;rfl
 have aS:Def l.prog w K mg base 5 "column_of" ["T", "columns", "lines"] Yx:=zW X G MF (λ_ _ F=>yI F gb cl ak d_cells_by_name aX d_check_letters ao ae ai) λ_ _ _ _ _ _ us hl=>by obtain⟨aZ,bN,dm,rfl⟩:=QZ hl;rfl
 have cf:Def1 l.prog w K mg base 1 "keep" ["found", "column", "line"] (xg (c 1)):=YJ X G ME (λ_ _ F=>ok_keep F gb cl) λ_ _ _ _ _ _ us hl=>by obtain⟨aZ,bN,dm,rfl⟩:=QZ hl;rfl
 have d_lines_without_parts:Def l.prog w K mg base 1 "lines_without_parts" ["T"] WE:=zW X G MD (λ_ _ F=>ZA F gb cl) λ_ _ _ _ _ _ us hl=>by obtain⟨aZ,rfl⟩:=QX hl;rfl
 have bj:Def l.prog w K mg base 1 "lines_with" ["T", "number"] WF:=zW X G MA (λ_ _ F=>WQ F gb cl) λ_ _ _ _ _ _ us hl=>by obtain⟨aZ,bN,rfl⟩:=QY hl;rfl
 have aY:Def1 l.prog w K mg base 4 "all_sayable" ["T", "columns", "length"] (WH (c 1)):=YJ X G Mz (λ_ _ F=>wj F gb cl d_cells_by_name cf ai d_lines_without_parts bj) λ_ _ _ _ _ _ us hl=>by obtain⟨aZ,bN,dm,rfl⟩:=QZ hl;rfl
 have bQ:Def1 l.prog w K mg base 5 "sayable" ["T", "columns", "wish"] (spSay (c 1)):=YJ X G My (λ_ _ F=>Xd F gb cl aY ao) λ_ _ _ _ _ _ us hl=>by obtain⟨aZ,bN,dm,rfl⟩:=QZ hl;rfl
 have bD:Def l.prog w K mg base 1 "steps_of" ["T"] Ys:=zW X G Mx (λ_ _ F=>YE F gb cl) λ_ _ _ _ _ _ us hl=>by obtain⟨aZ,rfl⟩:=QX hl;rfl
 have bP:Def l.prog w K mg base 1 "stepped" ["cells", "many", "step", "x"] JO:=zW X G Mw (λ_ _ F=>Xf F gb cl) λ_ _ _ _ _ _ us hl=>by obtain⟨aZ,bN,dm,pR,rfl⟩:=lenK4 hl;rfl
 have aP:Def l.prog w K mg base 1 "first_places" ["things"] Wx:=zW X G Mv (λ_ _ F=>JZ F gb cl) λ_ _ _ _ _ _ us hl=>by obtain⟨aZ,rfl⟩:=QX hl;rfl
 have d_first_placesL:Def l.prog w K mg base 1 "first_places" ["things"] Wy:=zW X G Mu (λ_ _ F=>QW F gb cl) λ_ _ _ _ _ _ us hl=>by obtain⟨aZ,rfl⟩:=QX hl;rfl
 have d_parted_further:Def l.prog w K mg base 3 "parted_further" ["T", "marks"] Wz:=zW X G Mt (λ_ _ F=>QI F gb cl d_cells_by_name bD bP d_first_placesL) λ_ _ _ _ _ _ us hl=>by obtain⟨aZ,bN,rfl⟩:=QY hl;rfl
 have aV:Def l.prog w K mg base 1 "grades_with" ["marks", "mark"] zaY:=zW X G Ms (λ_ _ F=>wm F gb cl) λ_ _ _ _ _ _ us hl=>by obtain⟨aZ,bN,rfl⟩:=QY hl;rfl
 have bW:Def l.prog w K mg base 4 "alike" ["T"] Yt:=zW X G Mr (λ_ _ F=>ok_alike F gb cl aP d_parted_further aV) λ_ _ _ _ _ _ us hl=>by obtain⟨aZ,rfl⟩:=QX hl;rfl
 have aU:Def l.prog w K mg base 1 "next_places" ["places", "many", "grades"] YA:=zW X G Mq (λ_ _ F=>wo F gb cl) λ_ _ _ _ _ _ us hl=>by obtain⟨aZ,bN,dm,rfl⟩:=QZ hl;rfl
 have aq:Def l.prog w K mg base 2 "cell_places" ["many", "grades", "places"] spPl0:=zW X G Mp (λ_ _ F=>wq F gb cl aU) λ_ _ _ _ _ _ us hl=>by obtain⟨aZ,bN,dm,rfl⟩:=QZ hl;rfl
 have aR:Def l.prog w K mg base 1 "shapes_of" ["T"] WI:=zW X G Mo (λ_ _ F=>yK F gb cl) λ_ _ _ _ _ _ us hl=>by obtain⟨aZ,rfl⟩:=QX hl;rfl
 have bo:Def l.prog w K mg base 3 "cells_at" ["connective", "many", "grades"] spAt0:=zW X G Mn (λ_ _ F=>YG F gb cl aq) λ_ _ _ _ _ _ us hl=>by obtain⟨aZ,bN,dm,rfl⟩:=QZ hl;rfl
 have b9:Def l.prog w K mg base 4 "paired" ["one", "other"] YC:=zW X G Mm (λ_ _ F=>zbt F gb cl aR bo) λ_ _ _ _ _ _ us hl=>by obtain⟨aZ,bN,rfl⟩:=QY hl;rfl
 have b7:Def l.prog w K mg base 3 "remade" ["T", "olds", "news"] zbk:=zW X G Ml (λ_ _ F=>zbu F gb cl aq) λ_ _ _ _ _ _ us hl=>by obtain⟨aZ,bN,dm,rfl⟩:=QZ hl;rfl
 have b6:Def l.prog w K mg base 4 "turned" ["T", "order"] YB:=zW X G Mj (λ_ _ F=>zbw F gb cl b7) λ_ _ _ _ _ _ us hl=>by obtain⟨aZ,bN,rfl⟩:=QY hl;rfl
 have bE:Def l.prog w K mg base 1 "_law_well" ["_law_script", "_law_place"] (zaP K):=zW X G Mh (λ_ _ F=>YH F gb cl) λ_ _ _ _ _ _ us hl=>by obtain⟨aZ,bN,rfl⟩:=QY hl;rfl
 have aa:Def l.prog w K mg base 1 "_law_draw" ["_law_well_here", "_law_many"] ZJ:=zW X G uu (λ_ _ F=>YI F gb cl) λ_ _ _ _ _ _ us hl=>by obtain⟨aZ,bN,rfl⟩:=QY hl;rfl
 have bC:Def l.prog w K mg base 2 "_law_names" ["_law_well_here", "_law_many"] Yo:=zW X G Mg (λ_ _ F=>yL F gb cl aa) λ_ _ _ _ _ _ us hl=>by obtain⟨aZ,bN,rfl⟩:=QY hl;rfl
 have aE:Def l.prog w K mg base 2 "_law_cells" ["_law_well_here", "_law_many", "_law_places"] Wu:=zW X G Mf (λ_ _ F=>yM F gb cl aa) λ_ _ _ _ _ _ us hl=>by obtain⟨aZ,bN,dm,rfl⟩:=QZ hl;rfl
 have bx:Def l.prog w K mg base 3 "_law_table" ["_law_well_here", "_law_most", "_law_some"] Yp:=zW X G Me (λ_ _ F=>yN F gb cl aa bC aE) λ_ _ _ _ _ _ us hl=>by obtain⟨aZ,bN,dm,rfl⟩:=QZ hl;rfl
 have bA:Def l.prog w K mg base 3 "_law_other" ["_law_well_here", "_law_table_here", "_law_most"] WJ:=zW X G Md (λ_ _ F=>yO F gb cl aa aE) λ_ _ _ _ _ _ us hl=>by obtain⟨aZ,bN,dm,rfl⟩:=QZ hl;rfl
 have bB:Def l.prog w K mg base 2 "_law_order" ["_law_well_here", "_law_many"] Yq:=zW X G Mc (λ_ _ F=>yP F gb cl aa) λ_ _ _ _ _ _ us hl=>by obtain⟨aZ,bN,rfl⟩:=QY hl;rfl
 have aG:Def l.prog w K mg base 6 "_law_asked" ["_law_table_here", "_law_columns", "_law_wish"] spAsk:=zW X G Mb (λ_ _ F=>yQ F gb cl bQ) λ_ _ _ _ _ _ us hl=>by obtain⟨aZ,bN,dm,rfl⟩:=QZ hl;rfl
 have d_law_pairs_said:Def l.prog w K mg base 7 "_law_pairs_said" ["_law_well_here", "_law_one", "_law_other_here", "_law_both"] WN:=zW X G Ma (λ_ _ F=>QL F gb cl aa aG aS) λ_ _ _ _ _ _ us hl=>by obtain⟨aZ,bN,dm,pR,rfl⟩:=lenK4 hl;rfl
 have bz:Def l.prog w K mg base 8 "_law_right" ["_law_well_here"] JT:=zW X G L9 (λ_ _ F=>yR F gb cl bx bA bB bW b6 d_law_pairs_said b9) λ_ _ _ _ _ _ us hl=>by obtain⟨aZ,rfl⟩:=QX hl;rfl
 exact ok_law (fun_mk (st:=wu) lL cL kL) gb cl bz bE
def walk {l:PySem.W.OpenLaw}{q:Program}{loose:TJ}{XP:(Str->Option Value)->Heap->Prop}{YP:World->Heap->Prop}{d:DefRec}{K:Params->Fv}(hn:l.most=some 63)(ng:d.params.defaults=[])
  (hY:∀(w:World) (h:Heap),YP w h->(K w.params).In h)
  (F:∀(w:World) (mg:Str->Option Value) (fa:Addr) (h:Heap),(K w.params).In h->h.Ns mainGlobals mg->mg d.name=some (.ref fa) ->
   ∃fd:FuncData,(∀(s:Shared) (u:Value),BindsTo s fd ⟨[u],[]⟩ [("_law_script",u)])/\∀base:Heap,(K w.params).In base->base.Ns mainGlobals mg->jo l.prog w (K w.params) mg base CX0 9 fa fd ["_law_script"] (spLaw (K w.params))):
  PySem.W.WalkO q loose XP YP l.row.toRowW d [] (λf vs=>PySem.call f vs):=
 L2.XH (n:=63) (k:=9) (x := "_law_script") (CX:=λ_=>CX0) (sp:=λw=>spLaw (K w.params)) hn ∅ ng ⟨rfl,by decide,by decide⟩ hY F (λ_ _ a ns hl _ hS=>⟨a,ns,rfl,hS,hl,λ_=>rfl⟩) λ_ _ _ _ _ z=>z
end K40
open PySem PySem.W PyProof.Rows
-- These names are taken so that the head lays no faster copies of the text's constants: the facts below are proved
-- without them as fast, and with them the compiled file has over 64 MB. The proof does not use these names.
namespace PySem.W.Fast
def tw8199985337544491559:=0
def tw3456485251658258829:=0
def tw9258113979932362114:=0
def tw14283866042196455851:=0
def tw8341140048867721584:=0
def tw15949928365525774516:=0
def tw4363079431125385672:=0
def tw836654431749132360:=0
def tw11901066656614780940:=0
def tw12015835820862643069:=0
def tw17215910350723281277:=0
def tw8258600118529232164:=0
def tw7173829562845898131:=0
def tw14806265883677146858:=0
def tw14728500852722653339:=0
def tw5354137170140526456:=0
def tw13792315720482350066:=0
def tw7891877163557412324:=0
def tw11859694502554613384:=0
def tw12098411035392727531:=0
def tw17541886175727160266:=0
def tw12097258263627349496:=0
def tw1741314569489001905:=0
def tw6127523187121388944:=0
def tw10664855803773676427:=0
def tw12700673607136015526:=0
def tw12329539621646093404:=0
def tw13192750237859543078:=0
def tw2652345642890144548:=0
def tw16421146353103940699:=0
def tw7326642383442817479:=0
def tw7127207261832237771:=0
def tw4597158049521418978:=0
def tw7853648889537321447:=0
def tw3967416238293516599:=0
def tw12981310887748671757:=0
def tw14467695365155850137:=0
def tw10167828003233054170:=0
def tw11580399405919003586:=0
def tw6320022331231422354:=0
def tw3336494911344864357:=0
def tw9827926807660222428:=0
def tw14136040232897909266:=0
def tw4669384003466165565:=0
def tw16781883452493974661:=0
def tw4191560992192662033:=0
def tw937635154603476817:=0
def tw17528190556730005158:=0
def tw2161358532907887250:=0
def tw3935648169409191898:=0
def tw18209236224247156947:=0
def tw322753967329391132:=0
def tw10451403923996653300:=0
def tw16624842753548906907:=0
def tw12022616970097815061:=0
def tw9328601903316679714:=0
def tw8706112915227543137:=0
def tw16722477929106717161:=0
def tw2730868908514168397:=0
def tw12926394132370105817:=0
def tw4386478224714239217:=0
def tw1909823631390323053:=0
def tw4928102073246645100:=0
def tw12426721204871055410:=0
def tw6796126654728958584:=0
def tw7108424540038829362:=0
def tw17661177804651407270:=0
def tw16664759468962168688:=0
def tw9654948166802547144:=0
def tw5267617710424942855:=0
def tw7076733871347676112:=0
def tw14979801226000964969:=0
def tw6095549873005531022:=0
def tw14951828898705581257:=0
def tw6419681844167396115:=0
end PySem.W.Fast
set_option maxRecDepth 100000 in
set_option maxHeartbeats 0 in
theorem PySem.Challenge.cw_truthgrades_k40_whole_told_of_made_table_holds : PySem.Challenge.rw_truthgrades_k40_whole_told_of_made_table.Holds := by
 w_on;o_law;k_head;(case hw=>w_witness2)
 k_fill
 refine K40.walk (l:=PySem.Challenge.rw_truthgrades_k40_whole_told_of_made_table) rfl rfl (fun w h Y=>PySem.W.kIn_of Y) ?F
 case F=>
  intro w mg fa h KX G hmg
  refine' K40.all_mk KX G hmg (K40.qv ?a0 ?l0 ?c0 ?k0) (K40.qv ?a1 ?l1 ?c1 ?k1) (K40.qv ?a2 ?l2 ?c2 ?k2) (K40.qv ?a3 ?l3 ?c3 ?k3) (K40.qv ?a4 ?l4 ?c4 ?k4) (K40.qv ?a5 ?l5 ?c5 ?k5) (K40.qv ?a6 ?l6 ?c6 ?k6) (K40.qv ?a7 ?l7 ?c7 ?k7) (K40.qv ?a8 ?l8 ?c8 ?k8) (K40.qv ?a9 ?l9 ?c9 ?k9) (K40.qv ?a10 ?l10 ?c10 ?k10) (K40.qv ?a11 ?l11 ?c11 ?k11) (K40.qv ?a12 ?l12 ?c12 ?k12) (K40.qv ?a13 ?l13 ?c13 ?k13) (K40.qv ?a14 ?l14 ?c14 ?k14) (K40.qv ?a15 ?l15 ?c15 ?k15) (K40.qv ?a16 ?l16 ?c16 ?k16) (K40.qv ?a17 ?l17 ?c17 ?k17) (K40.qv ?a18 ?l18 ?c18 ?k18) (K40.qv ?a19 ?l19 ?c19 ?k19) (K40.qv ?a20 ?l20 ?c20 ?k20) (K40.qv ?a21 ?l21 ?c21 ?k21) (K40.qv ?a22 ?l22 ?c22 ?k22) (K40.qv ?a23 ?l23 ?c23 ?k23) (K40.qv ?a24 ?l24 ?c24 ?k24) (K40.qv ?a25 ?l25 ?c25 ?k25) (K40.qv ?a26 ?l26 ?c26 ?k26) (K40.qv ?a27 ?l27 ?c27 ?k27) (K40.qv ?a28 ?l28 ?c28 ?k28) (K40.qv ?a29 ?l29 ?c29 ?k29) (K40.qv ?a30 ?l30 ?c30 ?k30) (K40.qv ?a31 ?l31 ?c31 ?k31) (K40.qv ?a32 ?l32 ?c32 ?k32) (K40.qv ?a33 ?l33 ?c33 ?k33) (K40.qv ?a34 ?l34 ?c34 ?k34) (K40.qv ?a35 ?l35 ?c35 ?k35) (K40.qv ?a36 ?l36 ?c36 ?k36) (K40.qv ?a37 ?l37 ?c37 ?k37) (K40.qv ?a38 ?l38 ?c38 ?k38) (K40.qv ?a39 ?l39 ?c39 ?k39) ?a40 ?l40 ?c40 ?k40 ?z0 ?z1 ?z2 ?z3 ?z4 ?z5 ?z6 ?z7 ?z8 ?z9 ?z10 ?z11 ?z12 ?z13 ?z14 ?z15 ?z16 ?z17 ?z18 ?z19 ?y0 ?y1 ?gg0 ?gg1 ?ww0
  (case a0|l0|c0|k0|a1|l1|c1|k1|a2|l2|c2|k2|a3|l3|c3|k3|a4|l4|c4|k4|a5|l5|c5|k5|a6|l6|c6|k6|a7|l7|c7|k7|a8|l8|c8|k8|a9|l9|c9|k9|a10|l10|c10|k10|a11|l11|c11|k11|a12|l12|c12|k12|a13|l13|c13|k13|a14|l14|c14|k14|a15|l15|c15|k15|a16|l16|c16|k16|a17|l17|c17|k17|a18|l18|c18|k18|a19|l19|c19|k19|a20|l20|c20|k20|a21|l21|c21|k21|a22|l22|c22|k22|a23|l23|c23|k23|a24|l24|c24|k24|a25|l25|c25|k25|a26|l26|c26|k26|a27|l27|c27|k27|a28|l28|c28|k28|a29|l29|c29|k29|a30|l30|c30|k30|a31|l31|c31|k31|a32|l32|c32|k32|a33|l33|c33|k33|a34|l34|c34|k34|a35|l35|c35|k35|a36|l36|c36|k36|a37|l37|c37|k37|a38|l38|c38|k38|a39|l39|c39|k39|a40|l40|c40|k40|z0|z1|z2|z3|z4|z5|z6|z7|z8|z9|z10|z11|z12|z13|z14|z15|z16|z17|z18|z19|y0|y1|gg0|gg1=>k_is)
  (case ww0=>first|k_is|kit_is|kernel_rfl)
