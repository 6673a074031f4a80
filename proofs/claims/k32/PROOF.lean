import PyProof.Rows.All
import Wide.All
import OpenK.AllK
import Wide.FinOn
import Lean
import PyProof.EqAt
import PyProof.EqKinds
import PyProof.TupleCall
import KE.KSortTup
import PySem.Challenge.RW_stowhold_k32_free_places
set_option autoImplicit true
set_option relaxedAutoImplicit true
set_option genSizeOfSpec false
set_option Elab.async false
set_option linter.all false
set_option maxRecDepth 100000
namespace Ob
variable {g:Prop}
theorem E02 {p q:Prop} (h:p∧q) (f:p->q->g):g:=let ⟨h0,h1⟩:=h;f h0 h1
theorem E11 {p:a->Prop} (h:∃x,p x) (f:∀x,p x->g):g:=let ⟨x,h0⟩:=h;f x h0
theorem E03 {p q r:Prop} (h:p∧q∧r) (f:p->q->r->g):g:=let ⟨h0,h1,h2⟩:=h;f h0 h1 h2
theorem E12 {p q:a->Prop} (h:∃x,p x∧q x) (f:∀x,p x->q x->g):g:=let ⟨x,h0,h1⟩:=h;f x h0 h1
theorem E21 {p:a->b->Prop} (h:∃x y,p x y) (f:∀x y,p x y->g):g:=let ⟨x,y,h0⟩:=h;f x y h0
theorem E04 {p q r s:Prop} (h:p∧q∧r∧s) (f:p->q->r->s->g):g:=let ⟨h0,h1,h2,h3⟩:=h;f h0 h1 h2 h3
theorem E13 {p q r:a->Prop} (h:∃x,p x∧q x∧r x) (f:∀x,p x->q x->r x->g):g:=let ⟨x,h0,h1,h2⟩:=h;f x h0 h1 h2
theorem E22 {p q:a->b->Prop} (h:∃x y,p x y∧q x y) (f:∀x y,p x y->q x y->g):g:=let ⟨x,y,h0,h1⟩:=h;f x y h0 h1
theorem E05 {p q r s t:Prop} (h:p∧q∧r∧s∧t) (f:p->q->r->s->t->g):g:=let ⟨h0,h1,h2,h3,h4⟩:=h;f h0 h1 h2 h3 h4
theorem E14 {p q r s:a->Prop} (h:∃x,p x∧q x∧r x∧s x) (f:∀x,p x->q x->r x->s x->g):g:=let ⟨x,h0,h1,h2,h3⟩:=h;f x h0 h1 h2 h3
theorem E23 {p q r:a->b->Prop} (h:∃x y,p x y∧q x y∧r x y) (f:∀x y,p x y->q x y->r x y->g):g:=let ⟨x,y,h0,h1,h2⟩:=h;f x y h0 h1 h2
theorem E32 {p q:a->b->c->Prop} (h:∃x y z,p x y z∧q x y z) (f:∀x y z,p x y z->q x y z->g):g:=let ⟨x,y,z,h0,h1⟩:=h;f x y z h0 h1
theorem E06 {p q r s t k:Prop} (h:p∧q∧r∧s∧t∧k) (f:p->q->r->s->t->k->g):g:=let ⟨h0,h1,h2,h3,h4,h5⟩:=h;f h0 h1 h2 h3 h4 h5
theorem E24 {p q r s:a->b->Prop} (h:∃x y,p x y∧q x y∧r x y∧s x y) (f:∀x y,p x y->q x y->r x y->s x y->g):g:=let ⟨x,y,h0,h1,h2,h3⟩:=h;f x y h0 h1 h2 h3
theorem E33 {p q r:a->b->c->Prop} (h:∃x y z,p x y z∧q x y z∧r x y z) (f:∀x y z,p x y z->q x y z->r x y z->g):g:=let ⟨x,y,z,h0,h1,h2⟩:=h;f x y z h0 h1 h2
theorem E25 {p q r s t:a->b->Prop} (h:∃x y,p x y∧q x y∧r x y∧s x y∧t x y) (f:∀x y,p x y->q x y->r x y->s x y->t x y->g):g:=let ⟨x,y,h0,h1,h2,h3,h4⟩:=h;f x y h0 h1 h2 h3 h4
theorem E34 {p q r s:a->b->c->Prop} (h:∃x y z,p x y z∧q x y z∧r x y z∧s x y z) (f:∀x y z,p x y z->q x y z->r x y z->s x y z->g):g:=let ⟨x,y,z,h0,h1,h2,h3⟩:=h;f x y z h0 h1 h2 h3
theorem E43 {p q r:a->b->c->d->Prop} (h:∃x y z u,p x y z u∧q x y z u∧r x y z u) (f:∀x y z u,p x y z u->q x y z u->r x y z u->g):g:=let ⟨x,y,z,u,h0,h1,h2⟩:=h;f x y z u h0 h1 h2
theorem E35 {p q r s t:a->b->c->Prop} (h:∃x y z,p x y z∧q x y z∧r x y z∧s x y z∧t x y z) (f:∀x y z,p x y z->q x y z->r x y z->s x y z->t x y z->g):g:=let ⟨x,y,z,h0,h1,h2,h3,h4⟩:=h;f x y z h0 h1 h2 h3 h4
theorem E53 {p q r:a->b->c->d->e->Prop} (h:∃x y z u v,p x y z u v∧q x y z u v∧r x y z u v) (f:∀x y z u v,p x y z u v->q x y z u v->r x y z u v->g):g:=let ⟨x,y,z,u,v,h0,h1,h2⟩:=h;f x y z u v h0 h1 h2
end Ob
local macro_rules
|`(tactic|obtain⟨$ps,*⟩:=$h)=>do
 let ps:=ps.getElems
 let n:=ps.size
 if n<2||n>8 then Lean.Macro.throwUnsupported
 let qs<-ps.mapM fun p=>do
  let q<-`(rcasesPat|($p:rcasesPatLo))
  `(rintroPat|$q:rcasesPat)
 let mut t<-`(tactic|fail)
 for j in [0:min n 6] do
  let k:=min n 6-1-j
  let i:=Lean.mkIdent (.mkStr2 "Ob" s!"E{k}{n-k}")
  t<-`(tactic|first|refine $i $h ?_|$t:tactic)
 if h.raw.isIdent then
  let i:Lean.Ident:=⟨h⟩
  t<-`(tactic|($t:tactic;clear $i))
 `(tactic|($t:tactic;rintro $qs:rintroPat*))
def Ob.t:Nat->Lean.Term->Lean.MacroM (Lean.TSyntax `rcasesPat)
|0,_=>Lean.Macro.throwUnsupported
|n+1,s=>match s with
 |`(⟨$xs,*⟩)=>do
  let ps<-xs.getElems.mapM (Ob.t n)
  `(rcasesPat|⟨$[$ps:rcasesPat],*⟩)
 |`(_)=>`(rcasesPat|_)
 |`($x:ident)=>`(rcasesPat|$x:ident)
 |_=>Lean.Macro.throwUnsupported
local macro_rules
|`(tactic|let⟨$xs,*⟩:=$h)=>do
 let ps<-xs.getElems.mapM (Ob.t 9)
 `(tactic|obtain⟨$[$ps:rcasesPat],*⟩:=$h)
noncomputable section
abbrev aaa:=@PySem.wpAny_bind
abbrev aab:=@Option.map_eq_some_iff
abbrev aac:=@List.getElem?_eq_getElem
abbrev aad:=@PySem.Heap.get?_push_of_some
abbrev aae:=@List.getElem?_eq_some_iff
abbrev aaf:=@PySem.wpAny_pure
abbrev aag:=@Nat.le_refl
abbrev aah:=@Bool.and_eq_true
abbrev aai:=@List.prefix_refl
abbrev aaj:=@PySem.Heap.get?_push_size
abbrev aak:=@List.size_toArray
abbrev aal:=@List.getElem?_append_left
abbrev aam:=@PySem.Heap.lt_size
abbrev aan:=@List.getElem?_append_right
abbrev aao:=@Nat.lt_of_lt_of_le
abbrev aap:=@Option.bind_eq_some_iff
abbrev aaq:=@List.mem_cons_of_mem
abbrev aar:=@List.length_cons
abbrev aas:=@List.mem_of_getElem?
abbrev aat:=@List.prefix_append
abbrev aau:=@List.mem_cons
abbrev aav:=@List.map_cons
abbrev aaw:=@Nat.ne_of_lt
abbrev aax:=@List.getD_eq_getElem?_getD
abbrev aay:=@List.length_map
abbrev aaz:=@List.mem_append_right
abbrev aaA:=@decide_eq_false
abbrev aaB:=@List.mem_cons_self
abbrev aaC:=@PySem.wpAny_field
abbrev aaD:=@List.mem_append
abbrev aaE:=@PySem.Heap.get?_update_other
abbrev aaF:=@List.eq_nil_of_length_eq_zero
abbrev aaG:=@Bool.false_ne_true
abbrev aaH:=@PySem.mem_of_lookup
abbrev aaI:=@List.mem_filter
abbrev aaJ:=@Nat.le_trans
abbrev aaK:=@List.lookup_cons
abbrev aaL:=@List.mem_singleton
abbrev aaM:=@PySem.W.kia_one
abbrev aaN:=@Bool.eq_iff_iff
abbrev aaO:=@List.getElem?_map
abbrev aaP:=@List.mem_map
abbrev aaQ:=@PySem.F.slot_dict_get
abbrev aaR:=@List.all_cons
abbrev aaS:=@PySem.wpAny_newObj_type
abbrev aaT:=@List.zip_cons_cons
abbrev aaU:=@PySem.Heap.size_push
abbrev aaV:=@Nat.zero_le
abbrev aaW:=@PySem.wpAny_callSpecial?_slot
abbrev aaX:=@PySem.wpAny_seqItems
abbrev aaY:=@List.length_append
abbrev aaZ:=@PySem.tupleKind_room_in1
abbrev aa0:=@PySem.F.entry_dict_get
abbrev aa1:=@Array.length_toList
abbrev aa2:=@PySem.wpAny_mono
abbrev aa3:=@Nat.lt_irrefl
abbrev aa4:=@Option.isSome_iff_exists
abbrev aa5:=@List.getElem?_take_of_lt
abbrev aa6:=@PySem.Heap.get?_update_self
abbrev aa7:=@List.mem_append_left
abbrev aa8:=@PySem.wpAny_holding
abbrev aa9:=@List.append_assoc
abbrev aba:=@List.length_filter_le
abbrev abb:=@List.length_take
abbrev abc:=@PySem.Obj.data_mapFields
abbrev abd:=@PySem.wpAny_Call_Name_kw
abbrev abe:=@PySem.wpAny_call_entry
abbrev abf:=@PySem.Heap.get?_none_of_le
abbrev abg:=@List.getElem?_set_ne
abbrev abh:=@decide_eq_true
abbrev abi:=@PySem.wpAny_truthy_bool
abbrev abj:=@List.append_nil
abbrev abk:=@List.nodup_cons
abbrev abl:=@List.length_zip
abbrev abm:=@List.getElem?_set_self
abbrev abn:=@PySem.Paired.length
abbrev abo:=@List.all_eq_true
abbrev abp:=@List.filter_cons
abbrev abq:=@if_false
abbrev abr:=@List.mem_range
abbrev abt:=@Bool.false_eq_true
abbrev abu:=@List.mem_iff_getElem?
abbrev abw:=@Int.emod_lt_of_pos
abbrev abx:=@PySem.wpAny_setField_rec
abbrev aby:=@List.mem_of_find?_eq_some
abbrev abz:=@Nat.ne_of_gt
abbrev abA:=@List.find?_cons
abbrev abB:=@Bool.or_eq_true
abbrev abC:=@PySem.wpAny_typeNameOfWhole_keyiter
abbrev abD:=@List.filterMap_cons
abbrev abE:=@PySem.F.plain_min_loop
abbrev abF:=@PySem.F.slot_dict_keyiterator_next
abbrev abG:=@PySem.sizeLine_eq
abbrev abH:=@beq_iff_eq
abbrev abI:=@Nat.le_of_lt
abbrev abJ:=@PySem.Obj.isFreed_of_fields
abbrev abK:=@Int.emod_nonneg
abbrev abL:=@if_true
abbrev abM:=@PySem.F.slot_tuple_iterator_next
abbrev abN:=@List.nodup_append
abbrev abO:=@PySem.wpAny_pyIter_list
abbrev abP:=@PySem.Around.under_plainId
abbrev abQ:=@PySem.wpAny_letGo
abbrev abR:=@PySem.wpAny_setField
abbrev abS:=@List.not_mem_nil
abbrev abT:=@List.map_map
abbrev abU:=@beq_self_eq_true
abbrev abV:=@PySem.call_meetsIn
abbrev abW:=@List.getElem?_replicate
abbrev abX:=@List.length_eq_zero_iff
abbrev abY:=@PySem.F.args_dict_get_2
abbrev abZ:=@PySem.F.args_dict_get_3
abbrev ab0:=@List.getElem?_cons_succ
abbrev ab1:=@of_decide_eq_false
abbrev ab2:=@PySem.Calls.callWith_builtin
abbrev ab3:=@List.find?_cons_of_neg
abbrev ab4:=@List.length_singleton
abbrev ab5:=@Nat.min_self
abbrev ab6:=@PySem.wpAny_tryCatch
abbrev ab7:=@PyProof.Rows.callWith_type1
abbrev ab8:=@Nat.lt_succ_self
abbrev ab9:=@List.any_cons
abbrev aca:=@PySem.plainId_quiet
abbrev acb:=@PySem.Heap.SameBut.update
abbrev acd:=@List.length_pos_iff
abbrev ace:=@List.forIn_cons
abbrev acf:=@List.map_append
abbrev acg:=@PySem.wpAny_passesOwn
abbrev ach:=@PySem.codeAny_builtin
abbrev aci:=@PySem.Calls.spliced_cons
abbrev acj:=@List.map_nil
abbrev ack:=@Nat.lt_of_le_of_lt
abbrev acm:=@Nat.zero_add
abbrev acn:=@List.forIn_nil
abbrev aco:=@List.nodup_nil
abbrev acp:=@PySem.wpAny_rule
abbrev acq:=@PySem.W.kitx_dict
abbrev acr:=@List.reverse_cons
abbrev acs:=@Int.toNat_natCast
abbrev acu:=@Option.isSome_map
abbrev acv:=@of_decide_eq_true
abbrev acw:=@PySem.wpAny_dictEntries
abbrev acx:=@List.range_succ_eq_map
abbrev acy:=@Bool.and_true
abbrev acz:=@PySem.W.mg_of
abbrev acA:=@PySem.wpAny_onRaise
abbrev acB:=@PySem.wpAny_attempt
abbrev acC:=@List.length_drop
abbrev acD:=@Nat.le_add_right
abbrev acE:=@List.any_eq_true
abbrev acF:=@List.cons_append
abbrev acG:=@Array.toList_inj
abbrev acH:=@List.getElem?_eq_none
abbrev acI:=@PySem.wpAny_notOrdered_dict
abbrev acJ:=@PyProof.Rows.slot_tuple_getitem
abbrev acK:=@PySem.Calls.evalArgs_plain
abbrev acL:=@PySem.F.slot_zip_next
abbrev acM:=@PySem.F.args_dict_keyiterator_next_1
abbrev acN:=@Option.map_some
abbrev acO:=@PySem.codeAny_mono
abbrev acP:=@PySem.wpAny_updateSeq_pair
abbrev acR:=@List.map_congr_left
abbrev acS:=@Bool.and_false
abbrev acU:=@List.filterMap_map
abbrev acW:=@List.find?_eq_none
abbrev acX:=@PySem.wpAny_pyIter_tuple
abbrev acY:=@PySem.wpAny_standAt
abbrev ac0:=@PySem.W.kitx_list
abbrev ac1:=@PySem.Calls.spliced_nil
abbrev ac2:=@PySem.Obj.cls_mapFields
abbrev ac3:=@Nat.lt_succ_of_lt
abbrev ac4:=@List.length_range
abbrev ac5:=@PySem.call_meets
abbrev ac6:=@PySem.wpAny_call
abbrev ac7:=@PySem.W.makes_of
abbrev ac8:=@Nat.le_of_eq
abbrev ac9:=@List.zipIdx_cons
abbrev adb:=@or_false
abbrev adf:=@List.of_mem_zip
abbrev adg:=@List.zipIdx_nil
abbrev adh:=@List.length_nil
namespace L2
open PySem PySem.Spec PyProof.Rows
abbrev Key:=Sum Int Str
noncomputable def gh:Key->Value->Bool
 | .inl k,v=>Value.isInt k v
 | .inr x,v=>Value.isStrOf x v
noncomputable def Jy (w:World):Key->Int
 | .inl k=>hashInt k
 | .inr x=>hashStr w x
theorem bH:∀{k:Key} {v:Value},gh k v=true->(∃i t,k=Sum.inl i/\v=Value.int i t)∨(∃x t,k=Sum.inr x/\v=Value.str x t)
 | .inl i,v,h=>by
  let⟨t,e⟩:=Value.isInt_shape (k:=i) (v:=v) h;exact .inl ⟨i,t,rfl,e⟩
 | .inr x,v,h=>by
  let⟨t,e⟩:=Value.isStrOf_shape (x:=x) (v:=v) h;exact .inr ⟨x,t,rfl,e⟩
theorem wz (i:Int) (t:Tok):gh (.inl i) (.int i t)=true:=by simp[gh,Value.isInt]
theorem wg (x:Str) (t:Tok):gh (.inr x) (.str x t)=true:=by simp[gh,Value.isStrOf]
theorem wu (a b:Int):decide ((Sum.inl a:Key)=Sum.inl b)=(a==b):=by
 by_cases e:a=b
 ·subst e;simp
 ·have h:¬(Sum.inl a:Key)=Sum.inl b:=λq=>e (Sum.inl.inj q);rw[aaA h];exact(beq_eq_false_iff_ne.mpr e).symm
theorem xF (a b:Str):decide ((Sum.inr a:Key)=Sum.inr b)=decide (a=b):=by
 by_cases e:a=b
 ·subst e;simp
 ·have h:¬(Sum.inr a:Key)=Sum.inr b:=λq=>e (Sum.inr.inj q);rw[aaA h,aaA e]
theorem EX (a:Int) (b:Str):decide ((Sum.inl a:Key)=Sum.inr b)=false:=aaA (λq=>nomatch q)
theorem Dj (a:Str) (b:Int):decide ((Sum.inr a:Key)=Sum.inl b)=false:=aaA (λq=>nomatch q)
def aF (prog:Program) (w:World):PySem.KeyKind prog w Key where
 is:=gh
 hash:=Jy w
 inj:=λv a b ha hb=>by
  rcases bH ha with⟨i,t,rfl,rfl⟩|⟨x,t,rfl,rfl⟩
  ·rcases bH hb with⟨j,u,rfl,e⟩|⟨y,u,rfl,e⟩
   ·injection e with e1 _;rw[e1]
   ·exact nomatch e
  ·rcases bH hb with⟨j,u,rfl,e⟩|⟨y,u,rfl,e⟩
   ·exact nomatch e
   ·injection e with e1 _;rw[e1]
 byValue:=λk v h=>by
  rcases bH h with⟨i,t,rfl,rfl⟩|⟨x,t,rfl,rfl⟩<;>rfl
 pyHash:=λhv h=>by
  rcases bH hv with⟨i,t,rfl,rfl⟩|⟨x,t,rfl,rfl⟩
  ·exact wpAny_pyHash_int h
  ·exact wpAny_pyHash_str h
 eqBool:=λhu hv h=>by
  rcases bH hu with⟨i,t,rfl,rfl⟩|⟨x,t,rfl,rfl⟩
  ·rcases bH hv with⟨j,u,rfl,rfl⟩|⟨y,u,rfl,rfl⟩
   ·rw[wu] at h;exact wpAny_eqBool_int h
   ·rw[EX] at h;exact SeqAt.EqAt.int_str i t y u _ _ _ _ h
  ·rcases bH hv with⟨j,u,rfl,rfl⟩|⟨y,u,rfl,rfl⟩
   ·rw[Dj] at h;exact SeqAt.EqAt.str_int x t j u _ _ _ _ h
   ·rw[xF] at h;exact wpAny_eqBool_str h
 «strs»:=λk x t v h=>by
  rcases bH h with⟨i,u,rfl,e⟩|⟨y,u,rfl,e⟩
  ·exact nomatch e
  ·injection e with e1 _
   subst e1;cases v<;>rfl
theorem rZ (prog:Program) (w:World) (i:Int) (t:Tok):(aF prog w).is (.inl i) (.int i t)=true:=wz i t
theorem se (prog:Program) (w:World) (x:Str) (t:Tok):(aF prog w).is (.inr x) (.str x t)=true:=wg x t
inductive V where
 |non|bl (b:Bool)|int (i:Int)|str (x:Str)|byt (b:Array UInt8)|flt (b:UInt64)|ref (a:Addr)|ty (n:String)
 deriving DecidableEq
def RelV:V->Value->Prop
 | .non,u=>u=Value.none
 | .bl b,u=>u=Value.bool b
 | .int i,u=>∃t,u=Value.int i t
 | .str x,u=>∃t,u=Value.str x t
 | .byt b,u=>∃t,u=Value.bytes b t
 | .flt b,u=>∃t,u=Value.float b t
 | .ref a,u=>u=Value.ref a
 | .ty n,u=>u=Value.type n
abbrev Vals:List V->List Value->Prop:=Paired RelV
theorem Vals.length {xs:List V} {us:List Value} (r:Vals xs us):xs.length=us.length:=abn r
theorem Vals.get:∀{xs:List V} {us:List Value} {i:Nat} {x:V},Vals xs us->xs[i]?=some x->∃u,us[i]?=some u/\RelV x u
 |_,_,_,_, .nil,e=>by simp at e
 |_,_,0,_, .cons r _,e=>by simp at e;subst e;exact⟨_,rfl,r⟩
 |_,_,i+1,x, .cons _ t,e=>by
  let⟨u,h1,h2⟩:=Vals.get (i:=i) (x:=x) t (by simpa using e);exact⟨u,by simpa using h1,h2⟩
theorem Vals.set {x:V} {u:Value} (r:RelV x u):∀{xs:List V} {us:List Value} (i:Nat),Vals xs us->Vals (xs.set i x) (us.set i u)
 |_,_,_, .nil=> .nil
 |_,_,0, .cons _ t=> .cons r t
 |_,_,i+1, .cons q t=> .cons q (Vals.set r i t)
theorem Vals.append:∀{xs ys:List V} {us ws:List Value},Vals xs us->Vals ys ws->Vals (xs++ys) (us++ws)
 |_,_,_,_, .nil,s=>s
 |_,_,_,_, .cons r t,s=> .cons r (Vals.append t s)
theorem Vals.take:∀{xs:List V} {us:List Value} (n:Nat),Vals xs us->Vals (xs.take n) (us.take n)
 |_,_,0,_=> .nil
 |_,_,_+1, .nil=> .nil
 |_,_,n+1, .cons r t=> .cons r (Vals.take n t)
theorem Vals.drop:∀{xs:List V} {us:List Value} (n:Nat),Vals xs us->Vals (xs.drop n) (us.drop n)
 |_,_,0,r=>r
 |_,_,_+1, .nil=> .nil
 |_,_,n+1, .cons _ t=>Vals.drop n t
def dF:Option V->Option Value->Prop
 |some v,some u=>RelV v u
 |none,none=>True
 |_,_=>False
def KV {κ:Type}:List (κ×V)->List (κ×Value)->Prop:=Paired λ(p:κ×V) (q:κ×Value)=>p.1=q.1/\RelV p.2 q.2
noncomputable def kV:Key->V
 | .inl i=> .int i
 | .inr x=> .str x
inductive HO where
 |lst (xs:List V)
 |tup (xs:List V)
 |dK (kvs:List (Key×V))|dT (kvs:List (List Key×V))
 |set (S:Int->Bool) (n:Nat)
 |ins (C dx:Addr) (fs:List (Str×V))
 |own (x:Addr)
 |xd (fs:List (Str×V))
 |met (f x:Addr)
 |rng (lo hi:Int)
 |aB (o:Obj) (u:HO)
 |tbl (ps:Array Value)
 |ext (φ:Heap->Prop)
abbrev Hp:=Addr->Option HO
noncomputable def upd (H:Hp) (a:Addr) (o:HO):Hp:=λb=>if b=a then some o else H b
theorem ao {H:Hp} {a:Addr} {o:HO}:upd H a o a=some o:=by unfold upd;rw[if_pos rfl]
theorem aq {H:Hp} {a b:Addr} {o:HO} (h:b≠a):upd H a o b=H b:=by unfold upd;rw[if_neg h]
theorem gX {H:Hp} {a:Addr} {o u:HO}:upd (upd H a o) a u=upd H a u:=by
 funext b;unfold upd;split<;>rfl
theorem pN {H:Hp} {a b:Addr} {o u:HO} (h:H a=some o) (h':H b=some u) (d:o≠u):a≠b:=by
 intro e;subst e;rw[h] at h';exact d (Option.some.inj h')
theorem bj {H:Hp} {a b:Addr} {o:HO} (h:H a=some o) (h':H b=none):a≠b:=by
 intro e;subst e;rw[h] at h';cases h'
section
variable (P:Program) (w:World)
def aI (H:Hp) (h:Heap) (a:Addr):HO->Prop
 | .lst xs=>xs.length<=sizeLine/\∃(its:List Value) (n:Nat),Vals xs its/\h.get? a=some {cls:= .type "list",data:= .seq its.toArray n}
 | .tup xs=>xs.length<=sizeLine/\∃its:List Value,Vals xs its/\IsTup h a its.toArray
 | .dK kvs=>kvs.length<=sizeLine/\(a==sysModules)=false/\∃vs,KV kvs vs/\h.DictOf (aF P w) a vs
 | .dT kvs=>kvs.length<=sizeLine/\(a==sysModules)=false/\∃xs:List (List Key×Addr×Value),
   Paired (λ(p:List Key×V) (q:List Key×Addr×Value)=>p.1=q.1/\H q.2.1=some (.tup (p.1.map kV))/\RelV p.2 q.2.2) kvs xs/\
   ∃o es ep,h.get? a=some o/\o.ExactDict/\o.data= .dict es ep/\es.toList=xs.map (entryOfKey (tupleKind (aF P w)))/\(xs.map (·.1)).Nodup
 | .set S n=>h.SetOf (intKind P w) a S n
 | .ins C dx fs=>H dx=some (.own a)/\fs.length<=1000/\dx≠a/\h.get? a=some (PySem.W.instObj C dx)/\
   ∃mA,h.Ns1 dx mA/\(∀f,dF (fs.lookup f) (mA f))/\PySem.Within mA (fs.map (·.1))
 | .own _=>∃o,h.get? a=some o
 | .xd fs=>∃mA,h.Ns1 a mA/\∀f,dF (fs.lookup f) (mA f)
 | .rng lo hi=>∃t u v,h.get? a=some {cls:= .type "range",data:= .fields #[.int lo t, .int hi u, .int 1 v]}
 | .aB o u=>h.get? a=some o/\aI H h a u
 | .tbl ps=>h.get? a=some {cls:= .none,data:= .fields ps}
 | .met f x=>h.get? a=some (PySem.W.methodObj (.ref f) (.ref x))
 | .ext φ=>φ h/\(∃o,h.get? a=some o)/\∀h1 h2:Heap,φ h1->(∀o,h1.get? a=some o->h2.get? a=some o)->φ h2
def bq (H:Hp) (h:Heap):Prop:=∀a o,H a=some o->aI P w H h a o
end
section
variable {P:Program} {w:World} {H H':Hp} {h h':Heap} {a:Addr} {o:HO}
theorem aI.lt (x:aI P w H h a o):a<h.objs.size:=by
 cases o with
 |lst xs=>let⟨_,_,_,_,e⟩:=x;exact aam e
 |tup xs=>let⟨_,_,_,p⟩:=x;exact p.lt
 |dK kvs=>let⟨_,_,_,_,o,_,_,e,_⟩:=x;exact aam e
 |dT kvs=>let⟨_,_,_,_,o,_,_,e,_⟩:=x;exact aam e
 |set S n=>let⟨o,_,_,_,e,_⟩:=x;exact aam e
 |ins C dx fs=>let⟨_,_,_,e,_⟩:=x;exact aam e
 |own y=>let⟨_,e⟩:=x;exact aam e
 |xd fs=>let⟨_,⟨_,_,_,e,_⟩,_⟩:=x;exact aam e
 |rng lo hi=>let⟨_,_,_,e⟩:=x;exact aam e
 |aB ob u=>let⟨e,_⟩:=x;exact aam e
 |tbl ps=>exact aam (show h.get? a=some _ from x)
 |met f y=>exact aam (show h.get? a=some _ from x)
 |ext φ=>let⟨_,⟨_,e⟩,_⟩:=x;exact aam e
theorem Paired.uQ {α β:Type} {F G:α->β->Prop}:∀{l₁:List α} {l₂:List β},Paired F l₁ l₂->(∀a b,F a b->G a b)->Paired G l₁ l₂
 |_,_, .nil,_=> .nil
 |_,_, .cons r t,f=> .cons (f _ _ r) (Paired.uQ t f)
theorem aI.iG (x:aI P w H h a o) (k:∀b u,(b=a∨H b=some (.own a))->h.get? b=some u->h'.get? b=some u)
  (ho:∀b,H b=some (.own a)->H' b=some (.own a)) (ht:∀b xs,H b=some (.tup xs)->H' b=some (.tup xs)):aI P w H' h' a o:=by
 induction o with
 |lst xs=>let⟨z,its,n,r,e⟩:=x;exact⟨z,its,n,r,k _ _ (.inl rfl) e⟩
 |tup xs=>let⟨z,its,r,ob,e,c⟩:=x;exact⟨z,its,r,ob,k _ _ (.inl rfl) e,c⟩
 |dK kvs=>let⟨z,y,vs,r,ob,es,ep,e,c⟩:=x;exact⟨z,y,vs,r,ob,es,ep,k _ _ (.inl rfl) e,c⟩
 |dT kvs=>
  let⟨z,y,xs,r,ob,es,ep,e,c⟩:=x;exact⟨z,y,xs,Paired.uQ r λp q z=>⟨z.1,ht _ _ z.2.1,z.2.2⟩,ob,es,ep,k _ _ (.inl rfl) e,c⟩
 |set S n=>let⟨ob,es,ep,t,e,c⟩:=x;exact⟨ob,es,ep,t,k _ _ (.inl rfl) e,c⟩
 |ins C dx fs=>
  let⟨d,z,ne,e,mA,⟨od,es,ep,e2,c⟩,r⟩:=x;exact⟨ho _ d,z,ne,k _ _ (.inl rfl) e,mA,⟨od,es,ep,k _ _ (.inr d) e2,c⟩,r⟩
 |own y=>let⟨ob,e⟩:=x;exact⟨ob,k _ _ (.inl rfl) e⟩
 |xd fs=>let⟨mA,⟨od,es,ep,e,c⟩,r⟩:=x;exact⟨mA,⟨od,es,ep,k _ _ (.inl rfl) e,c⟩,r⟩
 |rng lo hi=>let⟨t,u,v,e⟩:=x;exact⟨t,u,v,k _ _ (.inl rfl) e⟩
 |aB ob u ih=>let⟨e,q⟩:=x;exact⟨k _ _ (.inl rfl) e,ih q⟩
 |tbl ps=>
  have e:h.get? a=some {cls:= .none,data:= .fields ps}:=x;show h'.get? a=some {cls:= .none,data:= .fields ps};exact k a _ (.inl rfl) e
 |met f y=>
  have e:h.get? a=some (PySem.W.methodObj (.ref f) (.ref y)):=x;show h'.get? a=some (PySem.W.methodObj (.ref f) (.ref y));exact k a _ (.inl rfl) e
 |ext φ=>let⟨p,⟨o,e⟩,st⟩:=x;exact⟨st _ _ p λo q=>k _ _ (.inl rfl) q,⟨o,k _ _ (.inl rfl) e⟩,st⟩
theorem bq.lt (x:bq P w H h) (e:H a=some o):a<h.objs.size:=(x a o e).lt
theorem bq.fresh (x:bq P w H h) (e:h.objs.size<=a):H a=none:=by
 cases q:H a with
 |none=>rfl
 |some u=>exact absurd (aao (x.lt q) e) (aa3 _)
theorem bq.kept (x:bq P w H h) (k:∀b u,h.get? b=some u->h'.get? b=some u):bq P w H h':=λa o e=>
 (x a o e).iG (λb u _ q=>k b u q) (λ_ q=>q) λ_ _ q=>q
theorem bq.laid (x:bq P w H h) (k:∀b u,h.get? b=some u->h'.get? b=some u) (hp:h.objs.size<=a) (new:aI P w (upd H a o) h' a o):bq P w (upd H a o) h':=λb u e=>by
 have hn:=x.fresh hp
 by_cases hb:b=a
 ·subst hb;rw[ao] at e;cases e;exact new
 ·rw[aq hb] at e
  exact(x b u e).iG (λc v _ q=>k c v q) (λc q=>by rw[aq (bj q hn)];exact q) λc xs q=>by rw[aq (bj q hn)];exact q
end
def Rd (H:Hp) (a:Addr) (u:HO):Prop:=H a=some u∨∃o,H a=some (.aB o u)
theorem Rd.ok {P:Program} {w:World} {H:Hp} {a:Addr} {u:HO} (r:Rd H a u) (x:bq P w H h):aI P w H h a u:=by
 rcases r with r|⟨o,r⟩
 ·exact x a u r
 ·let⟨_,q⟩:=x a _ r;exact q
def vY:Option HO->Prop
 |some (.lst _)=>True
 |some (.dK _)=>True
 |some (.dT _)=>True
 |some (.set _ _)=>True
 |some (.ins _ _ _)=>True
 |some (.ext _)=>True
 |_=>False
section
variable {P:Program} {w:World} {H:Hp} {h h':Heap} {x e:Addr} {o':HO}
theorem bq.write (ok:bq P w H h) (mu:vY (H x)) (he:e=x∨H e=some (.own x)) (k:∀b u,b≠e->h.get? b=some u->h'.get? b=some u) (heo:∃u,h'.get? e=some u)
  (new:aI P w (upd H x o') h' x o'):bq P w (upd H x o') h':=λb u q=>by
 have nown:∀c y,H c=some (.own y)->c≠x:=λc y r z=>by subst z;rw[r] at mu;exact mu
 have ntup:∀c xs,H c=some (.tup xs)->c≠x:=λc xs r z=>by subst z;rw[r] at mu;exact mu
 by_cases hb:b=x
 ·subst hb;rw[ao] at q;cases q;exact new
 ·rw[aq hb] at q
  by_cases hbe:b=e
  ·have q':H b=some (.own x):=by
    rcases he with z|z
    ·exact absurd (hbe.trans z) hb
    ·rw[hbe];exact z
   rw[q] at q';cases q';let⟨v,hv⟩:=heo;exact⟨v,by rw[hbe];exact hv⟩
  ·refine(ok b u q).iG (λc v hc r=>k c v ?_ r) (λc r=>by rw[aq (nown c b r)];exact r) λc xs r=>by rw[aq (ntup c xs r)];exact r
   rcases hc with rfl|hc
   ·exact hbe
   ·rintro rfl
    rcases he with z|z
    ·exact nown c b hc z
    ·rw[hc] at z;cases z;exact hb rfl
end
structure Un (fs ex:List Addr) (H H':Hp) (h h':Heap):Prop where
 keep:∀b o,h.get? b=some o->H b=none->b∉fs->b∉ex->h'.get? b=some o
 slot:∀b o,h.get? b=some o->H b=none->b∈fs->b∉ex->∃sl,h'.get? b=some {o with slots:=sl}
 free:∀b o,h.get? b=some o->H b=none->b∉ex->H' b=none
 there:∀b o,h.get? b=some o->b∉ex->∃o',h'.get? b=some o'
 tups:∀b xs,H b=some (.tup xs)->H' b=some (.tup xs)
 aS:∀b o u,H b=some (.aB o u)->H' b=some (.aB o u)
 tbls:∀b ps,H b=some (.tbl ps)->∃more,H' b=some (.tbl (ps++more))
section
variable {fs fs' ex ex':List Addr} {H H1 H2:Hp} {h h1 h2 h':Heap} {a x e:Addr} {o:HO}
theorem Un.any (u:Un fs ex H H1 h h1) {b:Addr} (q:h.get? b=some ob) (n:H b=none) (hx:b∉ex):∃sl,h1.get? b=some {ob with slots:=sl}:=by
 by_cases hb:b∈fs
 ·exact u.slot b ob q n hb hx
 ·exact⟨ob.slots,u.keep b ob q n hb hx⟩
theorem Un.kept (k:∀b u,h.get? b=some u->h'.get? b=some u):Un fs ex H H h h':=
 ⟨λb ob q _ _ _=>k b ob q,λb ob q _ _ _=>⟨ob.slots,k b ob q⟩,λ_ _ _ n _=>n,λb ob q _=>⟨ob,k b ob q⟩,λ_ _ q=>q,λ_ _ _ q=>q,λ_ ps q=>⟨#[],by rw[q];simp⟩⟩
theorem Un.refl:Un fs ex H H h h:=Un.kept λ_ _ q=>q
theorem Un.laid (k:∀b u,h.get? b=some u->h'.get? b=some u) (hp:h.objs.size<=a) (hn:H a=none):Un fs ex H (upd H a o) h h' where
 keep:=λb u q _ _ _=>k b u q
 slot:=λb u q _ _ _=>⟨u.slots,k b u q⟩
 free:=λb u q n _=>by rw[aq (aaw (aao (aam q) hp))];exact n
 there:=λb u q _=>⟨u,k b u q⟩
 tups:=λb xs q=>by rw[aq (bj q hn)];exact q
 aS:=λb u xs q=>by rw[aq (bj q hn)];exact q
 tbls:=λb ps q=>⟨#[],by rw[aq (bj q hn),q];simp⟩
theorem Un.write (mu:vY (H x)) (he:e=x∨H e=some (.own x)) (k:∀b u,b≠e->h.get? b=some u->h'.get? b=some u) (heo:∃u,h'.get? e=some u):Un fs ex H (upd H x o) h h':=by
 have hx:∀b,H b=none->b≠x:=λb n z=>by subst z;rw[n] at mu;exact mu
 have hb:∀b,H b=none->b≠e:=λb n z=>by
  subst z
  rcases he with r|r
  ·exact hx b n r
  ·rw[n] at r;cases r
 have hm:∀b u,H b=some u->¬vY (some u)->b≠x:=λb u q nm z=>by subst z;rw[q] at mu;exact nm mu
 refine⟨λb u q n _ _=>k b u (hb b n) q,λb u q n _ _=>⟨u.slots,k b u (hb b n) q⟩,λb u q n _=>by rw[aq (hx b n)];exact n,λb u q _=> ?_,
  λb xs q=>by rw[aq (hm b _ q λz=>z)];exact q,λb u xs q=>by rw[aq (hm b _ q λz=>z)];exact q,λb ps q=>⟨#[],by rw[aq (hm b _ q λz=>z),q];simp⟩⟩
 by_cases hbe:b=e
 ·subst hbe;exact heo
 ·exact⟨u,k b u hbe q⟩
theorem Un.mono (u:Un fs ex H H1 h h1) (hs:∀b∈fs,b∈fs') (hx:∀b∈ex,b∈ex'):Un fs' ex' H H1 h h1:=
 ⟨λb ob q n hb he=>u.keep b ob q n (λz=>hb (hs b z)) λz=>he (hx b z),λ_ _ q n _ he=>u.any q n λz=>he (hx _ z),λb ob q n he=>u.free b ob q n λz=>he (hx b z),λb ob q he=>u.there b ob q λz=>he (hx b z),u.tups,u.aS,u.tbls⟩
end
noncomputable def AB (h:Heap) (H:Hp):List Addr:=(List.range h.objs.size).filter λa=>(H a).isSome
def iR (h:Heap) (H:Hp):Heap:=PySem.W.hideAll h (AB h H)
theorem vN (h:Heap) (H:Hp):(iR h H).objs.size=h.objs.size:=PySem.W.hideAll_size _ _
theorem ze {h:Heap} {H:Hp} {b:Addr} (e:h.get? b=some o) (n:H b=none):(iR h H).get? b=some o:=
 PySem.W.hideAll_get _ e λhm=>by
  have q:(H b).isSome=true:=(aaI.mp hm).2;rw[n] at q;simp at q
theorem BN {h:Heap} {H:Hp} {b:Addr} (e:(iR h H).get? b=some o):h.get? b=some o/\H b=none:=by
 have e':h.get? b=some o:=PySem.W.of_hideAll (AB h H) e;refine⟨e', ?_⟩
 cases q:H b with
 |none=>rfl
 |some x=>
  have hm:b∈AB h H:=aaI.mpr ⟨abr.mpr (aam e'),by simp[q]⟩;have z:(iR h H).get? b=none:=PySem.W.hideAll_none (AB h H) hm;rw[z] at e;cases e
noncomputable def CG (g h:Heap) (L:Addr):List (Addr×Obj):=(List.range h.objs.size).filterMap λa=>if a=L∨(g.get? a).isSome=true then none else (h.get? a).map λo=>(a,o)
def rest (g h:Heap) (L d:Addr):List (Addr×Obj):=(CG g h L).filter λp=>decide (p.1≠d)
structure Mod (K:PySem.W.Frag) (mg:Str->Option Value) (base:Heap):Prop where
 kin:K.In base
 glob:base.Ns mainGlobals mg
 blt:∃mb,base.Ns builtinsNs mb/\∀x:Str,x≠"__name__"->mb x=bootBuiltins x
 nolimit:base.NoLimit
structure Cx where
 prog:Program
 w:World
 K:PySem.W.Frag
 mg:Str->Option Value
 base:Heap
 A:Around
 N:List Str
 s₀:Shared
 H₀:Hp
 env:Env
 outer:List Env
 stack:List Env
 ex:List Addr
 fn:Str->Bool
 calm:Bool
 pn:List (Addr×Obj)
 xe:Value->Shared->Prop
noncomputable def cB (l:List Env):List Addr:=l.filterMap (·.frame)
abbrev Cx.fs (X:Cx):List Addr:=cB X.outer
def xN (sc:Scope) (x:Str):Prop:=sc.names.lookup x=some .local∨sc.names.lookup x=some .cell∨sc.names.lookup x=some .free
def Loc (sc:Scope) (x:Str):Prop:=sc.names.lookup x=some .local∨sc.names.lookup x=some .cell
def Look (env:Env) (h:Heap) (m:Str->Option Value) (x:Str) (u:Value):Prop:=
 (env.kindOf x=some .local/\m x=some u)∨((env.kindOf x=some .cell∨env.kindOf x=some .free)/\∃c,env.cells.lookup x=some c/\h.IsCell c (some u))
structure Cx.Ok (X:Cx):Prop where
 mod:Mod X.K X.mg X.base
 kind:X.env.scope.kind= .function
 glob:X.env.globals=mainGlobals
 blt:X.env.builtins=builtinsNs
 above:X.s₀.heap.objs.size<=X.env.locals
 inj:∀x y c,X.env.cells.lookup x=some c->X.env.cells.lookup y=some c->x=y
 has:∀x,(X.env.kindOf x=some .cell∨X.env.kindOf x=some .free)->∃c,X.env.cells.lookup x=some c
 cab:∀x c,X.fn x=true->X.env.cells.lookup x=some c->X.s₀.heap.objs.size<=c
 hd:X.calm=true->X.A.handled=none
 frames:X.A.frames=some X.stack
 stk:X.stack=X.outer∨(X.stack=X.env::X.outer/\X.env.frame=some X.env.locals)
 exf:∀b∈X.ex,b≠X.env.locals/\∀x c,X.env.cells.lookup x=some c->c≠b
 bs:∀b o,X.base.get? b=some o->X.s₀.heap.get? b=some o/\X.H₀ b=none
 bsz:X.base.objs.size<=X.s₀.heap.objs.size
 noex:∀b o,X.base.get? b=some o->b∉X.ex
 exfs:∀b∈X.ex,b∉X.fs
 cR:X.s₀.heap.FunFrames X.base X.outer
 frf:∀b∈X.fs,X.H₀ b=none
structure Inv (X:Cx) (pins:List (Addr×Obj)) (σ:List (Option V)) (H:Hp) (s:Shared):Prop where
 ok:X.Ok
 os:s.os=X.s₀.os
 bare:AllBare s.gens
 base:Un X.fs X.ex X.H₀ H X.s₀.heap s.heap
 loc:∃m,s.heap.Ns X.env.locals m/\∀(i:Nat) (x:Str) (v:V),X.N[i]?=some x->σ[i]?=some (some v)->xN X.env.scope x->∃u,RelV v u/\Look X.env s.heap m x u
 cell:∀x c,X.env.cells.lookup x=some c->∃v,s.heap.IsCell c v
 free:H X.env.locals=none
 freeC:∀x c,X.env.cells.lookup x=some c->H c=none
 pin:∀p∈X.pn++pins,s.heap.get? p.1=some p.2/\H p.1=none/\p.1≠X.env.locals/\p.1∉X.fs/\∀v,p.2.data≠ .cell v
 af:bq X.prog X.w H s.heap
 len:σ.length=X.N.length
section
variable {X:Cx} {pins:List (Addr×Obj)} {σ:List (Option V)} {H H':Hp} {s:Shared} {h':Heap}
theorem Cx.Ok.Jd (ok:X.Ok) {b:Addr} (e:X.base.get? b=some o):b∉X.fs:=λhb=>by
 have:=(ok.cR.mem hb).1;rw[e] at this;cases this
theorem Inv.bs (I:Inv X pins σ H s):∀b o,X.base.get? b=some o->s.heap.get? b=some o/\H b=none:=λb o e=>
 ⟨I.base.keep b o (I.ok.bs b o e).1 (I.ok.bs b o e).2 (I.ok.Jd e) (I.ok.noex b o e),I.base.free b o (I.ok.bs b o e).1 (I.ok.bs b o e).2 (I.ok.noex b o e)⟩
theorem Inv.bk (I:Inv X pins σ H s):∀b o,X.base.get? b=some o->s.heap.get? b=some o:=λb o e=>(I.bs b o e).1
theorem Inv.mod (I:Inv X pins σ H s):Mod X.K X.mg X.base:=I.ok.mod
theorem Inv.bX (I:Inv X pins σ H s):X.K.In s.heap:=I.ok.mod.kin.keeps I.bk
theorem Inv.lt (I:Inv X pins σ H s):X.env.locals<s.heap.objs.size:=let ⟨_,hn,_⟩:=I.loc;hn.lt
theorem Inv.sz (I:Inv X pins σ H s):X.s₀.heap.objs.size<=s.heap.objs.size:=aaJ I.ok.above (abI I.lt)
theorem Inv.Ez (I:Inv X pins σ H s) {a:Addr} (h:s.heap.objs.size<=a):a∉X.fs:=λhb=>by
 let⟨_,o,ho,_⟩:=I.ok.cR.mem hb;exact absurd (aao (aam ho) (aaJ I.sz h)) (aa3 _)
theorem Inv.qz (I:Inv X pins σ H s):∀x c,X.env.cells.lookup x=some c->c≠X.env.locals:=λx c e z=>by
 let⟨v,o,ho,hd⟩:=I.cell x c e;let⟨m,⟨o',es,ep,ho',hd',_⟩,_⟩:=I.loc;rw[z,ho'] at ho;cases ho;rw[hd'] at hd;cases hd
theorem Inv.cR (I:Inv X pins σ H s):s.heap.FunFrames X.base X.outer:=by
 have all:∀(l:List Env),(∀b∈cB l,b∈X.fs)->X.s₀.heap.FunFrames X.base l->s.heap.FunFrames X.base l:=by
  intro l
  induction l with
  |nil=>intro _ _;trivial
  |cons env r ih=>
   intro hs hl;let⟨hk,⟨L,o,hf,hn,ho,hd⟩,hr⟩:=hl;have hL:L∈X.fs:=hs L (by unfold cB;rw[abD,hf];exact aaB);let⟨sl,e⟩:=I.base.slot L o ho (I.ok.frf L hL) hL λz=>I.ok.exfs L z hL;exact⟨hk,⟨L,_,hf,hn,e,hd⟩,ih (λb hb=>hs b (by unfold cB;rw[abD,hf];exact aaq _ hb)) hr⟩
 exact all X.outer (λ_ hb=>hb) I.ok.cR
theorem Inv.stack (I:Inv X pins σ H s):s.heap.FunFrames X.base X.stack:=by
 rcases I.ok.stk with e|⟨e,hf⟩
 ·rw[e];exact I.cR
 ·rw[e];let⟨m,hn,_⟩:=I.loc;refine .cons (by rw[I.ok.kind];decide) hf hn ?_ I.cR;exact abf (aaJ I.ok.bsz I.ok.above)
theorem Inv.qG (I:Inv X pins σ H s):∀b∈cB X.stack,b∈X.env.locals::X.fs:=λb hb=>by
 rcases I.ok.stk with e|⟨e,hf⟩
 ·rw[e] at hb;exact aaq _ hb
 ·rw[e] at hb;unfold cB at hb;rw[abD,hf] at hb;exact hb
theorem Inv.jX (I:Inv X pins σ H s):∀b∈cB X.stack,H b=none:=λb hb=>by
 rcases aau.mp (I.qG b hb) with e|hb
 ·rw[e];exact I.free
 ·let⟨_,o,ho,_⟩:=I.ok.cR.mem hb;exact I.base.free b o ho (I.ok.frf b hb) λz=>I.ok.exfs b z hb
theorem Inv.step {t':Nat} {ch:List Addr} (I:Inv X pins σ H s)
  (hch:∀b∈ch,(b∈X.ex∨X.s₀.heap.objs.size<=b)/\b≠X.env.locals/\(∀x c,X.env.cells.lookup x=some c->c≠b)/\∀p∈X.pn++pins,p.1≠b)
  (keep:∀b o,b≠X.env.locals->b∉X.fs->b∉ch->s.heap.get? b=some o->H b=none->h'.get? b=some o)
  (slot:∀b o,b≠X.env.locals->b∈X.fs->b∉ch->s.heap.get? b=some o->H b=none->∃sl,h'.get? b=some {o with slots:=sl}) (free:∀b o,b∉ch->s.heap.get? b=some o->H b=none->H' b=none)
  (there:∀b o,b∉ch->s.heap.get? b=some o->∃o',h'.get? b=some o')
  (tups:∀b xs,H b=some (.tup xs)->H' b=some (.tup xs)) (aS:∀b o u,H b=some (.aB o u)->H' b=some (.aB o u)) (tbls:∀b ps,H b=some (.tbl ps)->∃more,H' b=some (.tbl (ps++more)))
  (ns:∀m,s.heap.Ns X.env.locals m->h'.Ns X.env.locals m) (af:bq X.prog X.w H' h') (hg:AllBare g'):
  Inv X pins σ H' {s with heap:=h',gens:=g',drawn:=d',toks:=t'}:=by
 have neL:∀b o,X.s₀.heap.get? b=some o->b≠X.env.locals:=λb o e=>aaw (aao (aam e) I.ok.above)
 have neC:∀b o,X.s₀.heap.get? b=some o->b∉X.ex->b∉ch:=λb o e hx hb=>by
  rcases (hch b hb).1 with z|z
  ·exact hx z
  ·exact absurd (aao (aam e) z) (aa3 _)
 have cellK:∀x c,X.env.cells.lookup x=some c->∀v,s.heap.IsCell c v->h'.IsCell c v:=λx c e v z904=>by
  let⟨o,ho,hd⟩:=z904;have nch:c∉ch:=λz=>(hch c z).2.2.1 x c e rfl
  by_cases hc:c∈X.fs
  ·let⟨sl,q⟩:=slot c o (I.qz x c e) hc nch ho (I.freeC x c e);exact⟨_,q,hd⟩
  ·exact⟨o,keep c o (I.qz x c e) hc nch ho (I.freeC x c e),hd⟩
 refine⟨I.ok,I.os,hg,⟨λb o e n hb hx=> ?_,λb o e n hb hx=> ?_,λb o e n hx=> ?_,λb o e hx=> ?_,λb xs e=>tups b xs (I.base.tups b xs e),λb o xs e=>aS b o xs (I.base.aS b o xs e),λb ps e=> ?_⟩, ?_,λx c e=> ?_, ?_,λx c e=> ?_,λp hp=> ?_,af,I.len⟩
 ·exact keep b o (neL b o e) hb (neC b o e hx) (I.base.keep b o e n hb hx) (I.base.free b o e n hx)
 ·let⟨sl,e1⟩:=I.base.slot b o e n hb hx;let⟨sl',e2⟩:=slot b _ (neL b o e) hb (neC b o e hx) e1 (I.base.free b o e n hx);exact⟨sl',e2⟩
 ·let⟨o',e1⟩:=I.base.there b o e hx;exact free b o' (neC b o e hx) e1 (I.base.free b o e n hx)
 ·let⟨o',e1⟩:=I.base.there b o e hx;exact there b o' (neC b o e hx) e1
 ·let⟨m1,e1⟩:=I.base.tbls b ps e;let⟨m2,e2⟩:=tbls b _ e1;exact⟨m1++m2,by rw[e2,Array.append_assoc]⟩
 ·let⟨m,hn,hl⟩:=I.loc;refine⟨m,ns m hn,λi x v e1 e2 e3=> ?_⟩;let⟨u,r,l⟩:=hl i x v e1 e2 e3;refine⟨u,r, ?_⟩
  rcases l with l|⟨k,c,e,z⟩
  ·exact .inl l
  ·exact .inr ⟨k,c,e,cellK x c e _ z⟩
 ·let⟨v,z⟩:=I.cell x c e;exact⟨v,cellK x c e v z⟩
 ·let⟨m,⟨o,_,_,ho,_⟩,_⟩:=I.loc;exact free _ o (λz=>(hch _ z).2.1 rfl) ho I.free
 ·let⟨v,o,ho,hd⟩:=I.cell x c e;exact free c o (λz=>(hch c z).2.2.1 x c e rfl) ho (I.freeC x c e)
 ·let⟨e,n,ne,nf,d⟩:=I.pin p hp;have nch:p.1∉ch:=λz=>(hch p.1 z).2.2.2 p hp rfl;exact⟨keep p.1 p.2 ne nf nch e n,free p.1 p.2 nch e n,ne,nf,d⟩
theorem Inv.un {t':Nat} (I:Inv X pins σ H s) (u:Un X.fs [] H H' s.heap h') (af:bq X.prog X.w H' h'):Inv X pins σ H' {s with heap:=h',toks:=t'}:=by
 let⟨m,⟨o,es,ep,ho,r⟩,_⟩:=id I.loc;let⟨sl,hL⟩:=u.any ho I.free (by simp)
 exact I.step (g':=s.gens) (d':=s.drawn) (ch:=[]) (λ_ z=>nomatch z) (λb o _ hb _ e n=>u.keep b o e n hb (by simp)) (λb o _ hb _ e n=>u.slot b o e n hb (by simp)) (λb o _ e n=>u.free b o e n (by simp)) (λb o _ e=>u.there b o e (by simp)) u.tups u.aS u.tbls (λm' hm=>by
  let⟨o',es',ep',ho',r'⟩:=hm;rw[ho] at ho';cases ho'
  exact⟨_,es',ep',hL,r'⟩) af I.bare
theorem Inv.call {t':Nat} {ch:List Addr} (I:Inv X pins σ H s) (u:Un (cB X.stack) ch H H' s.heap h') (af:bq X.prog X.w H' h') (hg:AllBare g')
  (hch:∀b∈ch,(b∈X.ex∨X.s₀.heap.objs.size<=b)/\b≠X.env.locals/\(∀x c,X.env.cells.lookup x=some c->c≠b)/\∀p∈X.pn++pins,p.1≠b):
  Inv X pins σ H' {s with heap:=h',gens:=g',drawn:=d',toks:=t'}:=by
 let⟨m,⟨o,es,ep,ho,r⟩,_⟩:=id I.loc;let⟨sl,hL⟩:=u.any ho I.free λz=>(hch _ z).2.1 rfl
 exact I.step (ch:=ch) hch (λb o hL hb hc e n=>u.keep b o e n (λz=>(aau.mp (I.qG b z)).elim hL hb) hc) (λb o _ _ hc e n=>u.any e n hc) (λb o hc e n=>u.free b o e n hc) (λb o hc e=>u.there b o e hc) u.tups u.aS u.tbls (λm' hm=>by
  let⟨o',es',ep',ho',r'⟩:=hm;rw[ho] at ho';cases ho'
  exact⟨_,es',ep',hL,r'⟩) af hg
theorem Inv.turned {t':Nat} (I:Inv X pins σ H s) (k:∀b o,b≠it->s.heap.get? b=some o->h'.get? b=some o) (hn:H it=none) (hL:it≠X.env.locals)
  (h1:it∈X.ex∨X.s₀.heap.objs.size<=it) (h2:∀x c,X.env.cells.lookup x=some c->c≠it) (h3:∀p∈X.pn++pins,p.1≠it):Inv X pins σ H {s with heap:=h',toks:=t'}:=by
 have nit:∀b u,H b=some u->b≠it:=λb u e z=>by rw[z,hn] at e;cases e
 refine I.step (g':=s.gens) (d':=s.drawn) (ch:=[it]) (λb hb=> ?_) (λb o _ _ hc e _=>k b o (λz=>hc (by simp[z])) e) (λb o _ _ hc e _=>⟨o.slots,k b o (λz=>hc (by simp[z])) e⟩) (λ_ _ _ _ n=>n)
  (λb o hc e=>⟨o,k b o (λz=>hc (by simp[z])) e⟩) (λ_ _ e=>e) (λ_ _ _ e=>e) (λb ps e=>⟨#[],by rw[e];simp⟩) (λm hm=> ?_) (λb u e=> ?_) I.bare
 ·have e:b=it:=by simpa using hb
  subst e;exact⟨h1,hL,h2,h3⟩
 ·let⟨o,es,ep,ho,r⟩:=hm;exact⟨o,es,ep,k _ o (Ne.symm hL) ho,r⟩
 ·refine(I.af b u e).iG (λc v hc q=>k c v ?_ q) (λ_ q=>q) λ_ _ q=>q
  rcases hc with z|z
  ·rw[z];exact nit b u e
  ·exact nit c _ z
theorem Inv.tok (I:Inv X pins σ H s) (t:Nat):Inv X pins σ H {s with toks:=t}:=I.un (h':=s.heap) (t':=t) Un.refl I.af
theorem Inv.kept {t':Nat} (I:Inv X pins σ H s) (k:∀b u,s.heap.get? b=some u->h'.get? b=some u):Inv X pins σ H {s with heap:=h',toks:=t'}:=I.un (Un.kept k) (I.af.kept k)
theorem Inv.laid {a:Addr} {o:HO} {t':Nat} (I:Inv X pins σ H s) (k:∀b u,s.heap.get? b=some u->h'.get? b=some u) (hp:s.heap.objs.size<=a) (new:aI X.prog X.w (upd H a o) h' a o):
  Inv X pins σ (upd H a o) {s with heap:=h',toks:=t'}:=I.un (Un.laid k hp (I.af.fresh hp)) (I.af.laid k hp new)
theorem Inv.write {x e:Addr} {o:HO} {t':Nat} (I:Inv X pins σ H s) (mu:vY (H x)) (he:e=x∨H e=some (.own x)) (k:∀b u,b≠e->s.heap.get? b=some u->h'.get? b=some u) (heo:∃u,h'.get? e=some u)
  (new:aI X.prog X.w (upd H x o) h' x o):Inv X pins σ (upd H x o) {s with heap:=h',toks:=t'}:=I.un (Un.write mu he k heo) (I.af.write mu he k heo new)
theorem Inv.cI (I:Inv X pins σ H s) (h:∀p∈pins',s.heap.get? p.1=some p.2/\H p.1=none/\p.1≠X.env.locals/\p.1∉X.fs/\∀v,p.2.data≠ .cell v):Inv X pins' σ H s:=
 ⟨I.ok,I.os,I.bare,I.base,I.loc,I.cell,I.free,I.freeC,λp hp=>(aaD.mp hp).elim (λz=>I.pin p (aa7 _ z)) (h p),I.af,I.len⟩
theorem rJ {N:List Str} (hN:N.Nodup) {i j:Nat} {x:Str} (a:N[i]?=some x) (b:N[j]?=some x):i=j:=by
 let⟨h1,e1⟩:=aae.mp a;let⟨h2,e2⟩:=aae.mp b;exact(List.getElem_inj hN).mp (e1.trans e2.symm)
theorem oF {M:Model} {A:Around} {E:Value->Shared->Prop} {i:Nat} {x:Str} {v:V} {u:Value} {Q:Unit->Shared->Prop} (I:Inv X pins σ H s) (hN:X.N.Nodup) (hi:X.N[i]?=some x) (hx:Loc X.env.scope x) (r:RelV v u)
  (h:∀s',Inv X pins (σ.set i (some v)) H s'->(∃a,Heap.SameBut a s.heap s'.heap/\(a=X.env.locals∨X.env.cells.lookup x=some a))->Q () s') (hf:X.fn x=true∨X.env.scope.names.lookup x=some .local:=by first|exact .inl rfl|exact .inr rfl|assumption):wpAny M A (storeName X.env x u) Q E s:=by
 let⟨m,hn,hl⟩:=id I.loc
 have hcls:(X.env.scope.kind== .class||(X.env.scope.kind== .module&&X.env.locals !=X.env.globals))=false:=by rw[I.ok.kind];rfl
 have hiσ:i<σ.length:=by rw[I.len];exact(aae.mp hi).1
 have qz:=I.qz
 have tracked:∀{a:Addr} {h':Heap},(∃o,s.heap.get? a=some o/\H a=none)->Heap.SameBut a s.heap h'->bq X.prog X.w H h':=λ{a h'} ha hs b ob e=>by
  let⟨_,_,hfree⟩:=ha;refine(I.af b ob e).iG (λc w' hc q=>(hs.2 c ?_).trans q) (λ_ q=>q) λ_ _ q=>q
  rintro rfl
  rcases hc with rfl|hc
  ·rw[hfree] at e;cases e
  ·rw[hfree] at hc;cases hc
 rcases hx with hk|hk
 ·refine wpAny_storeName_local hk hn (λh' hn' hs=> ?_) hcls;let⟨oL,_,_,hoL,_⟩:=id hn;refine h _ ⟨I.ok,I.os,I.bare,⟨λb o e n hb hx=> ?_,λb o e n hb hx=> ?_,I.base.free,λb o e hx=> ?_,I.base.tups,I.base.aS,I.base.tbls⟩,⟨_,hn',λj y v' e1 e2 e3=> ?_⟩,λy c e=> ?_,I.free,I.freeC,λp hp=> ?_,tracked ⟨oL,hoL,I.free⟩ hs,by simpa using I.len⟩ ⟨_,hs, .inl rfl⟩
  ·exact(hs.2 b (aaw (aao (aam e) I.ok.above))).trans (I.base.keep b o e n hb hx)
  ·let⟨sl,e1⟩:=I.base.slot b o e n hb hx;exact⟨sl,(hs.2 b (aaw (aao (aam e) I.ok.above))).trans e1⟩
  ·let⟨o',e1⟩:=I.base.there b o e hx;exact⟨o',(hs.2 b (aaw (aao (aam e) I.ok.above))).trans e1⟩
  ·by_cases hj:j=i
   ·subst hj;rw[hi] at e1;cases e1;rw[abm hiσ] at e2;cases e2;exact⟨u,r, .inl ⟨hk,by simp⟩⟩
   ·rw[abg (Ne.symm hj)] at e2;let⟨u',r',q⟩:=hl j y v' e1 e2 e3;refine⟨u',r', ?_⟩
    rcases q with⟨k,e⟩|⟨k,c,e,z⟩
    ·refine .inl ⟨k, ?_⟩;have:y≠x:=λe=>hj (rJ hN e1 (e▸hi));simp[this,e]
    ·exact .inr ⟨k,c,e,z.sameBut hs (qz y c e)⟩
  ·let⟨w',z⟩:=I.cell y c e;exact⟨w',z.sameBut hs (qz y c e)⟩
  ·let⟨e,n,ne,nf,d⟩:=I.pin p hp;exact⟨(hs.2 p.1 ne).trans e,n,ne,nf,d⟩
 ·have hfn:X.fn x=true:=by
   rcases hf with z|z
   ·exact z
   ·rw[z] at hk;cases hk
  let⟨c,hc⟩:=I.ok.has x (.inl hk);let⟨w',z⟩:=I.cell x c hc;refine wpAny_storeName_cell I.ok.kind hk hc z (λh' hc' hs=> ?_);let⟨oc,hoc,hocd⟩:=id z;refine h {s with heap:=h'} ⟨I.ok,I.os,I.bare,⟨λb o e n hb hx=> ?_,λb o e n hb hx=> ?_,I.base.free,λb o e hx=> ?_,I.base.tups,I.base.aS,I.base.tbls⟩,⟨m,hn.sameBut hs (Ne.symm (qz x c hc)),λj y v' e1 e2 e3=> ?_⟩,λy c' e=> ?_,I.free,I.freeC,λp hp=> ?_,tracked ⟨oc,hoc,I.freeC x c hc⟩ hs,by simpa using I.len⟩ ⟨c,hs, .inr hc⟩
  ·exact(hs.2 b (aaw (aao (aam e) (I.ok.cab x c hfn hc)))).trans (I.base.keep b o e n hb hx)
  ·let⟨sl,e1⟩:=I.base.slot b o e n hb hx;exact⟨sl,(hs.2 b (aaw (aao (aam e) (I.ok.cab x c hfn hc)))).trans e1⟩
  ·let⟨o',e1⟩:=I.base.there b o e hx;exact⟨o',(hs.2 b (aaw (aao (aam e) (I.ok.cab x c hfn hc)))).trans e1⟩
  ·by_cases hj:j=i
   ·subst hj;rw[hi] at e1;cases e1;rw[abm hiσ] at e2;cases e2;exact⟨u,r, .inr ⟨.inl hk,c,hc,hc'⟩⟩
   ·rw[abg (Ne.symm hj)] at e2;let⟨u',r',q⟩:=hl j y v' e1 e2 e3;refine⟨u',r', ?_⟩
    rcases q with q|⟨k,c',e,z'⟩
    ·exact .inl q
    ·refine .inr ⟨k,c',e,z'.sameBut hs ?_⟩
     rintro rfl
     exact hj (rJ hN e1 (I.ok.inj _ _ _ e hc▸hi))
  ·by_cases hcc:c'=c
   ·subst hcc;exact⟨_,hc'⟩
   ·let⟨w2,z2⟩:=I.cell y c' e;exact⟨w2,z2.sameBut hs hcc⟩
  ·let⟨e,n,ne,nf,d⟩:=I.pin p hp;refine⟨(hs.2 p.1 ?_).trans e,n,ne,nf,d⟩;intro q;rw[q,hoc] at e;have q':oc=p.2:=Option.some.inj e;exact d w' (by rw[←q'];exact hocd)
theorem pX {M:Model} {A:Around} {E:Value->Shared->Prop} {i:Nat} {x:Str} {v:V} {u:Value} {Q:Unit->Shared->Prop} (I:Inv X pins σ H s) (hN:X.N.Nodup) (hi:X.N[i]?=some x) (hx:Loc X.env.scope x) (r:RelV v u)
  (h:∀s',Inv X pins (σ.set i (some v)) H s'->Q () s') (hf:X.fn x=true∨X.env.scope.names.lookup x=some .local:=by first|exact .inl rfl|exact .inr rfl|assumption):wpAny M A (storeName X.env x u) Q E s:=
 oF I hN hi hx r (λs' I' _=>h s' I') hf
theorem Inv.uR {s':Shared} {ch:List Addr} (I:Inv X pins σ H s) (ho:s'.os=s.os) (u:Un (cB X.stack) ch H H' s.heap s'.heap) (af:bq X.prog X.w H' s'.heap) (hg:AllBare s'.gens)
  (hch:∀b∈ch,(b∈X.ex∨X.s₀.heap.objs.size<=b)/\b≠X.env.locals/\(∀x c,X.env.cells.lookup x=some c->c≠b)/\∀p∈X.pn++pins,p.1≠b):Inv X pins σ H' s':=by
 let⟨h',g',d',t',o'⟩:=s';have e:o'=s.os:=ho;subst e;exact I.call (g':=g') (t':=t') (d':=d') u af hg hch
end
abbrev XK:=Value->Option Addr->Hp->Prop
abbrev St:=List (Option V)
abbrev VK:=V->Hp->Prop
abbrev TE:=St->Hp->VK->Prop
abbrev TT:=St->Hp->(Bool->Hp->Prop)->Prop
abbrev TA:=St->Hp->(List V->Hp->Prop)->Prop
structure Ends where
 nx:St->Hp->Prop
 rt:VK
 bk:St->Hp->Prop:=λ_ _=>False
 ct:St->Hp->Prop:=λ_ _=>False
abbrev TS:=Ends->St->Hp->Prop
def EP (X:Cx) (pins:List (Addr×Obj)) (σ:St) (Q:VK) (u:Value) (s':Shared):Prop:=∃v H',Inv X pins σ H' s'/\RelV v u/\Q v H'
def TP (X:Cx) (pins:List (Addr×Obj)) (σ:St) (Q:Bool->Hp->Prop) (b:Bool) (s':Shared):Prop:=∃H',Inv X pins σ H' s'/\Q b H'
def AP (X:Cx) (pins:List (Addr×Obj)) (σ:St) (Q:List V->Hp->Prop) (us:List Value) (s':Shared):Prop:=∃vs H',Inv X pins σ H' s'/\Vals vs us/\Q vs H'
def SP (X:Cx) (pins:List (Addr×Obj)) (D:Ends) (f:Flow) (s':Shared):Prop:=
 match f with
 | .next=>∃σ' H',Inv X pins σ' H' s'/\D.nx σ' H'
 | .brk=>∃σ' H',Inv X pins σ' H' s'/\D.bk σ' H'
 | .cont=>∃σ' H',Inv X pins σ' H' s'/\D.ct σ' H'
 | .ret u=>∃v σ' H',Inv X pins σ' H' s'/\RelV v u/\D.rt v H'
def PE (X:Cx) (e:Expr) (t:TE):Prop:=
 ∀(pins:List (Addr×Obj)) (s:Shared) (σ:St) (H:Hp) (Q:VK),Inv X pins σ H s->t σ H Q->wpAny (model X.prog X.w) X.A (eval e X.env) (EP X pins σ Q) X.xe s
def PT (X:Cx) (e:Expr) (t:TT):Prop:=
 ∀(pins:List (Addr×Obj)) (s:Shared) (σ:St) (H:Hp) (Q:Bool->Hp->Prop),Inv X pins σ H s->t σ H Q->wpAny (model X.prog X.w) X.A (isTrue e X.env (eval e X.env)) (TP X pins σ Q) X.xe s
def PW (X:Cx) (e:Expr) (t:TT):Prop:=
 ∀(whole:Sem Value) (pins:List (Addr×Obj)) (s:Shared) (σ:St) (H:Hp) (Q:Bool->Hp->Prop),Inv X pins σ H s->t σ H Q->wpAny (model X.prog X.w) X.A (isTrue e X.env whole) (TP X pins σ Q) X.xe s
theorem PW.pt {X:Cx} {e:Expr} {t:TT} (h:PW X e t):PT X e t:=h _
def PA (X:Cx) (es:List Expr) (t:TA):Prop:=
 ∀(pos:Pos) (pins:List (Addr×Obj)) (s:Shared) (σ:St) (H:Hp) (Q:List V->Hp->Prop),Inv X pins σ H s->t σ H Q->wpAny (model X.prog X.w) X.A (spliced (backTo pos (starEach es X.env))) (AP X pins σ Q) X.xe s
def PS (X:Cx) (st:Stmt) (t:TS):Prop:=
 ∀(pins:List (Addr×Obj)) (s:Shared) (σ:St) (H:Hp) (D:Ends),Inv X pins σ H s->t D σ H->wpAny (model X.prog X.w) X.A (exec st X.env) (SP X pins D) X.xe s
def dB (X:Cx) (st:List Stmt) (t:TS):Prop:=
 ∀(pins:List (Addr×Obj)) (s:Shared) (σ:St) (H:Hp) (D:Ends),Inv X pins σ H s->t D σ H->wpAny (model X.prog X.w) X.A (execs st X.env) (SP X pins D) X.xe s
theorem ay {α:Type} {t:Sem α} {Q Q':α->Shared->Prop} {M:Model} {A:Around} {E:Value->Shared->Prop} {s:Shared} (h:wpAny M A t Q E s) (hQ:∀a s,Q a s->Q' a s):wpAny M A t Q' E s:=aa2 h hQ λ_ _ x=>x
section
variable {X:Cx}
def Ju (i:Nat):TE:=λσ H Q=>∃v,σ[i]?=some (some v)/\Q v H
def tC (v:V):TE:=λ_ H Q=>Q v H
theorem E4 {i:Nat} {x:Str} (hN:X.N[i]?=some x) (hv:xN X.env.scope x) (hd:(x==("__debug__":Str))=false:=by decide) (hcd:(x==("__classdict__":Str))=false:=by decide):PE X (.Name x pos) (Ju i):=by
 intro pins s σ H Q I h;let⟨v,e,h⟩:=h;let⟨m,hn,hl⟩:=I.loc;let⟨u,r,l⟩:=hl i x v hN e hv;have fin:EP X pins σ Q u s:=⟨v,H,I,r,h⟩
 rcases l with⟨hk,hm⟩|⟨hk,c,hc,hcell⟩
 ·exact wpAny_Name (wpAny_loadName_local I.ok.kind hk hn hm fin) hd
 ·rcases hk with hk|hk
  ·exact wpAny_Name (wpAny_loadName_cell I.ok.kind hk hc hcell fin) hd
  ·exact wpAny_Name (wpAny_loadName_free I.ok.kind hk hc hcell fin hcd) hd
theorem D6 {i j pos}:PE X (.Constant (.int i) j pos) (tC (.int i)):=λ_ _ _ H _ I h=>wpAny_Constant_int ⟨.int i,H,I.tok _,⟨_,rfl⟩,h⟩
theorem GN {b j pos}:PE X (.Constant (.bool b) j pos) (tC (.bl b)):=λ_ _ _ H _ I h=>Constant_bool ⟨.bl b,H,I,rfl,h⟩
theorem wy {j pos}:PE X (.Constant .none j pos) (tC .non):=λ_ _ _ H _ I h=>Constant_none ⟨.non,H,I,rfl,h⟩
theorem Fg {x j pos}:PE X (.Constant (.str x) j pos) (tC (.str x)):=λ_ _ _ H _ I h=>Calls.Constant_str ⟨.str x,H,I.tok _,⟨_,rfl⟩,h⟩
def Gl (X:Cx) (x:Str):Prop:=X.env.kindOf x=some .globalImplicit
theorem g9 {E:Value->Shared->Prop} {s:Shared} {σ:St} {H:Hp} {x:Str} {u:Value} {Q:Value->Shared->Prop} (I:Inv X pins σ H s) (hg:Gl X x) (hm:X.mg x=some u) (h:Q u s)
  (hd:(x==("__debug__":Str))=false:=by decide):wpAny (model X.prog X.w) X.A (eval (.Name x pos) X.env) Q E s:=
 Calls.Name_function_global I.ok.kind hg (Calls.loadGlobal_global (by rw[I.ok.glob];exact I.mod.glob.keeps I.bk) hm h) hd
theorem fZ {E:Value->Shared->Prop} {s:Shared} {σ:St} {H:Hp} {x:Str} {u:Value} {Q:Value->Shared->Prop} (I:Inv X pins σ H s) (hg:Gl X x) (hm:X.mg x=none) (hv:bootBuiltins x=some u) (h:Q u s)
  (hn:x≠"__name__":=by decide) (hd:(x==("__debug__":Str))=false:=by decide):wpAny (model X.prog X.w) X.A (eval (.Name x pos) X.env) Q E s:=by
 let⟨mb,h1,h2⟩:=I.mod.blt;exact Calls.Name_function_global I.ok.kind hg (Calls.loadGlobal_builtin (by rw[I.ok.glob];exact I.mod.glob.keeps I.bk) hm (by rw[I.ok.blt];exact h1.keeps I.bk) ((h2 x hn).trans hv) h) hd
theorem uc {x:Str} {v:V} {u:Value} (hg:Gl X x) (hm:X.mg x=some u) (r:RelV v u) (hd:(x==("__debug__":Str))=false:=by decide):PE X (.Name x pos) (tC v):=
 λ_ _ _ H _ I h=>g9 I hg hm ⟨v,H,I,r,h⟩ hd
theorem Ce {x:Str} {v:V} {u:Value} (hg:Gl X x) (hm:X.mg x=none) (hv:bootBuiltins x=some u) (r:RelV v u) (hn:x≠"__name__":=by decide) (hd:(x==("__debug__":Str))=false:=by decide):PE X (.Name x pos) (tC v):=
 λ_ _ _ H _ I h=>fZ I hg hm hv ⟨v,H,I,r,h⟩ hn hd
variable {a b:Expr} {ta tb:TE} {pos:Pos}
variable {tA tB':TT} {rest:List Expr}
def Kv (t u:TT):TT:=λσ H Q=>t σ H λc H1=>if c=true then u σ H1 Q else Q false H1
def tOr (t u:TT):TT:=λσ H Q=>t σ H λc H1=>if c=true then Q true H1 else u σ H1 Q
def JA (t:TT):TT:=λσ H Q=>t σ H λc H1=>Q (!c) H1
theorem A7 (ha:PT X a tA):PW X (.BoolOp .And [a] pos) tA:=by
 intro wh pins s σ H Q I h;refine isTrue_and (ay (ha pins s σ H Q I h) λc s1 e=> ?_)
 cases c with
 |true=>exact isTrue_and_nil e
 |false=>exact e
theorem EH (ha:PT X a tA):PW X (.BoolOp .Or [a] pos) tA:=by
 intro wh pins s σ H Q I h;refine isTrue_or (ay (ha pins s σ H Q I h) λc s1 e=> ?_)
 cases c with
 |false=>exact isTrue_or_nil e
 |true=>exact e
theorem E5 (ha:PT X a tA) (hb:PW X (.BoolOp .And (b::rest) pos) tB'):PW X (.BoolOp .And (a::b::rest) pos) (Kv tA tB'):=by
 intro wh pins s σ H Q I h;refine isTrue_and (ay (ha pins s σ H _ I h) λc s1 z902=> ?_);let⟨H1,I1,q1⟩:=z902
 cases c with
 |true=>exact hb wh pins s1 σ H1 Q I1 q1
 |false=>exact⟨H1,I1,q1⟩
theorem Gw (ha:PT X a tA) (hb:PW X (.BoolOp .Or (b::rest) pos) tB'):PW X (.BoolOp .Or (a::b::rest) pos) (tOr tA tB'):=by
 intro wh pins s σ H Q I h;refine isTrue_or (ay (ha pins s σ H _ I h) λc s1 z902=> ?_);let⟨H1,I1,q1⟩:=z902
 cases c with
 |true=>exact⟨H1,I1,q1⟩
 |false=>exact hb wh pins s1 σ H1 Q I1 q1
theorem Ee (ha:PT X a tA):PT X (.UnaryOp .Not a pos) (JA tA):=by
 intro pins s σ H Q I h;exact isTrue_not (ha pins s σ H (λc H1=>Q (!c) H1) I h)
def Hb (ta tb:TE):TE:=λσ H Q=>ta σ H λx H1=>∃c,x= .bl c/\if c=true then tb σ H1 Q else Q (.bl false) H1
def IW (ta tb:TE):TE:=λσ H Q=>ta σ H λx H1=>∃c,x= .bl c/\if c=true then Q (.bl true) H1 else tb σ H1 Q
def GB (ta:TE):TE:=λσ H Q=>ta σ H λx H1=>∃c,x= .bl c/\Q (.bl (!c)) H1
theorem Fp {op} {t:TE} (h:PE X a t):PE X (.BoolOp op [a] pos) t:=λpins s σ H Q I hw=>BoolOp_one (h pins s σ H Q I hw)
theorem FH (ha:PE X a ta) (hb:PE X (.BoolOp .And (b::rest) pos) tb):PE X (.BoolOp .And (a::b::rest) pos) (Hb ta tb):=by
 intro pins s σ H Q I h;refine BoolOp_and (ay (ha pins s σ H _ I h) λv s1 z902=> ?_);let⟨x,H1,I1,r1,q1⟩:=z902;let⟨c,rfl,q1⟩:=q1;cases r1;refine abi ?_
 cases c with
 |true=>exact hb pins s1 σ H1 Q I1 q1
 |false=>exact⟨.bl false,H1,I1,rfl,q1⟩
theorem Gy (ha:PE X a ta) (hb:PE X (.BoolOp .Or (b::rest) pos) tb):PE X (.BoolOp .Or (a::b::rest) pos) (IW ta tb):=by
 intro pins s σ H Q I h;refine BoolOp_or (ay (ha pins s σ H _ I h) λv s1 z902=> ?_);let⟨x,H1,I1,r1,q1⟩:=z902;let⟨c,rfl,q1⟩:=q1;cases r1;refine abi ?_
 cases c with
 |false=>exact hb pins s1 σ H1 Q I1 q1
 |true=>exact⟨.bl true,H1,I1,rfl,q1⟩
theorem D3 (ha:PE X a ta):PE X (.UnaryOp .Not a pos) (GB ta):=by
 intro pins s σ H Q I h;refine UnaryOp_ (ay (ha pins s σ H _ I h) λv s1 z902=> ?_);let⟨x,H1,I1,r1,q1⟩:=z902;let⟨c,rfl,q1⟩:=q1;cases r1;exact not_of (abi ⟨.bl (!c),H1,I1,rfl,q1⟩)
end
def bF (K:PySem.W.Frag) (H:Hp) (a:Addr) (xs:List V):Prop:=
 Rd H a (.lst xs)∨
  ∃(o:Obj) (its:Array Value) (n:Nat),K.lookup a=some o/\o.cls= .type "list"/\o.dict=none/\o.data= .seq its n/\its.size<=sizeLine/\Vals xs its.toList
def cF (K:PySem.W.Frag) (H:Hp) (a:Addr) (xs:List V):Prop:=
 Rd H a (.tup xs)∨
  ∃(o:Obj) (its:Array Value) (n:Nat),K.lookup a=some o/\o.cls= .type "tuple"/\o.data= .seq its n/\its.size<=sizeLine/\Vals xs its.toList
noncomputable def Jz:Value->Option V
 | .none=>some .non
 | .bool b=>some (.bl b)
 | .int i _=>some (.int i)
 | .str x _=>some (.str x)
 | .bytes b _=>some (.byt b)
 | .float b _=>some (.flt b)
 | .ref a=>some (.ref a)
 | .type n=>some (.ty n)
 |_=>none
theorem RelV.abs {x:V} {u:Value} (r:RelV x u):Jz u=some x:=by
 cases x with
 |non=>cases r;rfl
 |bl _=>cases r;rfl
 |int _=>let⟨t,rfl⟩:=r;rfl
 |str _=>let⟨t,rfl⟩:=r;rfl
 |byt _=>let⟨t,rfl⟩:=r;rfl
 |flt _=>let⟨t,rfl⟩:=r;rfl
 |ref _=>cases r;rfl
 |ty _=>cases r;rfl
theorem RelV.inj {x y:V} {u:Value} (r:RelV x u) (q:RelV y u):x=y:=Option.some.inj (r.abs.symm.trans q.abs)
theorem Vals.inj:∀{xs ys:List V} {us:List Value},Vals xs us->Vals ys us->xs=ys
 |_,_,_, .nil, .nil=>rfl
 |_,_,_, .cons r t, .cons r' t'=>by rw[r.inj r',Vals.inj t t']
section
variable {X:Cx} {pins:List (Addr×Obj)} {σ:St} {H:Hp} {s:Shared} {a:Addr} {xs ys:List V}
theorem Inv.list (I:Inv X pins σ H s) (h:bF X.K H a xs):∃its:List Value,Vals xs its/\PlainL s.heap a its.toArray/\xs.length<=sizeLine:=by
 rcases h with h|⟨o,its,n,hk,hc,hd,hs,hz,r⟩
 ·let⟨z,its,n,r,e⟩:=h.ok I.af;exact⟨its,r,⟨_,n,e,rfl,rfl,rfl⟩,z⟩
 ·refine⟨its.toList,r,⟨o,n,I.bX a o hk,hc,hd,by simpa using hs⟩, ?_⟩;have e:=r.length;simp only[aa1] at e;lia
theorem Inv.tuple (I:Inv X pins σ H s) (h:cF X.K H a xs):∃its:List Value,Vals xs its/\IsTup s.heap a its.toArray/\xs.length<=sizeLine:=by
 rcases h with h|⟨o,its,n,hk,hc,hs,hz,r⟩
 ·let⟨z,its,r,p⟩:=h.ok I.af;exact⟨its,r,p,z⟩
 ·refine⟨its.toList,r,⟨o,I.bX a o hk,hc,n,by simpa using hs⟩, ?_⟩;have e:=r.length;simp only[aa1] at e;lia
theorem Inv.iP (I:Inv X pins σ H s) (h:bF X.K H a xs) (h':bF X.K H a ys):xs=ys:=by
 let⟨its,r,⟨o,n,e,_,_,d⟩,_⟩:=I.list h;let⟨its',r',⟨o',n',e',_,_,d'⟩,_⟩:=I.list h';rw[e] at e';cases e';rw[d] at d'
 injection d' with d1 _
 have:its=its':=by simpa using congrArg Array.toList d1
 subst this;exact r.inj r'
theorem Inv.gF (I:Inv X pins σ H s) (h:cF X.K H a xs) (h':cF X.K H a ys):xs=ys:=by
 let⟨its,r,⟨o,e,_,n,d⟩,_⟩:=I.tuple h;let⟨its',r',⟨o',e',_,n',d'⟩,_⟩:=I.tuple h';rw[e] at e';cases e';rw[d] at d'
 injection d' with d1 _
 have:its=its':=by simpa using congrArg Array.toList d1
 subst this;exact r.inj r'
end
abbrev Cx.ag (X:Cx) (E:Value->Shared->Prop):Cx:={X with xe:=E}
abbrev Cx.oX (X:Cx):Cx:=X.ag λ_ _=>False
theorem Cx.Ok.ag {X:Cx} (ok:X.Ok) (E:Value->Shared->Prop):(X.ag E).Ok:=
 ⟨ok.mod,ok.kind,ok.glob,ok.blt,ok.above,ok.inj,ok.has,ok.cab,ok.hd,ok.frames,ok.stk,ok.exf,ok.bs,ok.bsz,ok.noex,ok.exfs,ok.cR,ok.frf⟩
theorem Cx.Ok.bu {X:Cx} {E:Value->Shared->Prop} (ok:(X.ag E).Ok):X.Ok:=
 ⟨ok.mod,ok.kind,ok.glob,ok.blt,ok.above,ok.inj,ok.has,ok.cab,ok.hd,ok.frames,ok.stk,ok.exf,ok.bs,ok.bsz,ok.noex,ok.exfs,ok.cR,ok.frf⟩
section
variable {X:Cx} {pins:List (Addr×Obj)} {σ:St} {H:Hp} {s:Shared} {E:Value->Shared->Prop}
theorem Inv.ag (I:Inv X pins σ H s) (E:Value->Shared->Prop):Inv (X.ag E) pins σ H s:=⟨I.ok.ag E,I.os,I.bare,I.base,I.loc,I.cell,I.free,I.freeC,I.pin,I.af,I.len⟩
theorem Inv.bu (I:Inv (X.ag E) pins σ H s):Inv X pins σ H s:=⟨I.ok.bu,I.os,I.bare,I.base,I.loc,I.cell,I.free,I.freeC,I.pin,I.af,I.len⟩
theorem SP.bu {D:Ends} {f:Flow} (h:SP (X.ag E) pins D f s'):SP X pins D f s':=by
 cases f with
 |next=>let⟨σ',H',I,q⟩:=h;exact⟨σ',H',I.bu,q⟩
 |brk=>let⟨σ',H',I,q⟩:=h;exact⟨σ',H',I.bu,q⟩
 |cont=>let⟨σ',H',I,q⟩:=h;exact⟨σ',H',I.bu,q⟩
 |ret u=>let⟨v,σ',H',I,r,q⟩:=h;exact⟨v,σ',H',I.bu,r,q⟩
end
section
variable {X:Cx} {st:Stmt} {rest:List Stmt} {t u:TS} {e:Expr} {te:TE} {pos:Pos}
def GV:TS:=λD σ H=>D.nx σ H
def Kw (t u:TS):TS:=λD σ H=>t {D with nx:=u D} σ H
theorem BM:dB X [] GV:=λ_ _ σ H _ I h=>wpAny_execs_nil ⟨σ,H,I,h⟩
theorem yI (h1:PS X st t) (h2:dB X rest u):dB X (st::rest) (Kw t u):=by
 intro pins s σ H D I h;refine wpAny_execs_cons (ay (h1 pins s σ H {D with nx:=u D} I h) λf s1 q=> ?_)
 cases f with
 |next=>
  let⟨σ',H',I',q⟩:=q;exact h2 pins s1 σ' H' D I' q
 |ret v=>exact q
 |brk=>exact q
 |cont=>exact q
theorem Inv.quiet {σ:St} {H:Hp} {s:Shared} (I:Inv X pins σ H s):interactive X.env=false:=by simp[interactive,I.ok.kind]
def FP (te:TE):TS:=λD σ H=>te σ H λ_ H1=>D.nx σ H1
theorem CK (he:PE X e te) (hs:swapsWith e none pos.line X.env=pure false:=by rfl):PS X (.Expr e pos) (FP te):=by
 intro pins s σ H D I h;exact wpAny_Expr_any (ay (he pins s σ H _ I h) λv s1 z902=>by let⟨x,H1,I1,r1,q1⟩:=z902;exact⟨σ,H1,I1,q1⟩) I.quiet hs
def J1 (te:TE):TS:=λD σ H=>te σ H D.rt
theorem EU (he:PE X e te):PS X (.Return (some e) pos) (J1 te):=by
 intro pins s σ H D I h;exact wpAny_Return_some (ay (he pins s σ H _ I h) λv s1 z902=>by let⟨x,H1,I1,r1,q1⟩:=z902;exact⟨x,σ,H1,I1,r1,q1⟩)
def Hu:TS:=λD _ H=>D.rt .non H
theorem BI:PS X (.Return none pos) Hu:=λ_ _ σ H _ I h=>wpAny_Return_none ⟨.non,σ,H,I,rfl,h⟩
def J5 (c:TT) (t u:TS):TS:=λD σ H=>c σ H λb H1=>if b=true then t D σ H1 else u D σ H1
theorem GX {c:Expr} {a b:List Stmt} {tc:TT} (hc:PT X c tc) (ha:dB X a t) (hb:dB X b u):PS X (.If c a b pos) (J5 tc t u):=by
 intro pins s σ H D I h;refine wpAny_If (ay (hc pins s σ H _ I h) λd s1 z902=> ?_);let⟨H1,I1,q1⟩:=z902
 cases d with
 |true=>exact ha pins s1 σ H1 D I1 q1
 |false=>exact hb pins s1 σ H1 D I1 q1
end
abbrev TG:=V->St->Hp->(St->Hp->Prop)->Prop
abbrev mF:=List V->St->Hp->(St->Hp->Prop)->Prop
def PG (X:Cx) (target:Expr) (t:TG):Prop:=
 ∀(pins:List (Addr×Obj)) (s:Shared) (σ:St) (H:Hp) (v:V) (u:Value) (Q:St->Hp->Prop),Inv X pins σ H s->RelV v u->t v σ H Q->
  wpAny (model X.prog X.w) X.A (assign target X.env u) (λ_ s'=>∃σ' H',Inv X pins σ' H' s'/\Q σ' H') X.xe s
def gw (X:Cx) (ts:List Expr) (t:mF):Prop:=
 ∀(pins:List (Addr×Obj)) (s:Shared) (σ:St) (H:Hp) (vs:List V) (us:List Value) (Q:St->Hp->Prop),Inv X pins σ H s->Vals vs us->t vs σ H Q->
  wpAny (model X.prog X.w) X.A (assignInOrder ((assignEach ts X.env).map (·.2)) us) (λ_ s'=>∃σ' H',Inv X pins σ' H' s'/\Q σ' H') X.xe s
abbrev uS:=V->V->V->Hp->(Hp->Prop)->Prop
def jM (X:Cx) (t:uS):Prop:=
 ∀(pins:List (Addr×Obj)) (s:Shared) (σ:St) (H:Hp) (o i v:V) (ov iv u:Value) (Q:Hp->Prop),Inv X pins σ H s->RelV o ov->RelV i iv->RelV v u->t o i v H Q->
  wpAny (model X.prog X.w) X.A (setItem ov iv u) (λ_ s'=>∃H',Inv X pins σ H' s'/\Q H') X.xe s
section
variable {X:Cx} {pos:Pos}
def AQ (i:Nat):TG:=λv σ H Q=>Q (σ.set i (some v)) H
theorem B0 {i:Nat} {x:Str} (hN:X.N.Nodup) (hi:X.N[i]?=some x) (hx:Loc X.env.scope x) (hf:X.fn x=true∨X.env.scope.names.lookup x=some .local:=by first|exact .inl rfl|exact .inr rfl|assumption):PG X (.Name x pos) (AQ i):=by
 intro pins s σ H v u Q I r h;exact wpAny_assign_Name (pX I hN hi hx r (λs' I'=>⟨_,H,I',h⟩) hf)
def KS:mF:=λvs σ H Q=>vs=[]/\Q σ H
def FT (t:TG) (u:mF):mF:=λvs σ H Q=>∃v r,vs=v::r/\t v σ H λσ' H'=>u r σ' H' Q
theorem Bf:gw X [] KS:=by
 intro pins s σ H vs us Q I r h;let⟨e,h⟩:=h;subst e;cases r;exact assignInOrder_nil ⟨σ,H,I,h⟩
theorem zR {e:Expr} {es:List Expr} {t:TG} {u:mF} (h1:PG X e t) (h2:gw X es u)
  (hs:(assignEach (e::es) X.env).map (·.2)=assign e X.env::(assignEach es X.env).map (·.2):=by rfl):gw X (e::es) (FT t u):=by
 intro pins s σ H vs us Q I r h;let⟨v,vr,e1,h⟩:=h;subst e1
 cases r with
 |cons r rr=>
  rw[hs];refine assignInOrder_cons (ay (h1 pins s σ H _ _ _ I r h) λ_ s1 z902=> ?_);let⟨σ1,H1,I1,q1⟩:=z902;exact h2 pins s1 σ1 H1 _ _ Q I1 rr q1
def Kz (K:PySem.W.Frag) (n:Nat) (t:mF):TG:=λv σ H Q=>∃a xs,v= .ref a/\cF K H a xs/\xs.length=n/\t xs σ H Q
theorem ER {es:List Expr} {k:Nat} {t:mF} {n:Nat} (hc:X.calm=true) (h:gw X es t)
  (hn:(assignEach es X.env).length=n:=by rfl) (hst:(assignEach es X.env).findIdx? (·.1)=none:=by rfl):PG X (.Tuple es k pos) (Kz X.K n t):=by
 intro pins s σ H v u Q I r hw;let⟨a,xs,e1,hq,hl,hw⟩:=hw;subst e1;cases r;let⟨its,rv,ht,hz⟩:=I.tuple hq;refine assign_Tuple_tuple (I.ok.hd hc) ht (by simp[hn,←hl,rv.length]) hst λh' hx=> ?_;have I1:Inv X pins σ H {s with heap:=h'}:=I.kept (t':=s.toks) λb o e=>hx b o (aaw (aam e)) e;exact h pins _ σ H xs _ Q I1 (by simpa using rv) hw
def JT (to ti:TE) (t:uS):TG:=λv σ H Q=>to σ H λo H1=>ti σ H1 λi H2=>t o i v H2 λH3=>Q σ H3
theorem DI {i:Expr} {to ti:TE} {t:uS} (ho:PE X o to) (hi:PE X i ti) (hs:jM X t)
  (ha:∀v,assign (.Subscript o i pos) X.env v=(do
   let ov←holding [v] (eval o X.env)
   let iv←holding [v,ov] (eval i X.env)
   standAt pos
   holding [v,ov,iv] (setItem ov iv v)
   release [v,ov,iv] []):=by intro _;rfl):PG X (.Subscript o i pos) (JT to ti t):=by
 intro pins s σ H v u Q I r h;rw[ha];refine aaa (aa8 (ay (ho pins s σ H _ I h) λov s1 z902=> ?_));let⟨x,H1,I1,r1,q1⟩:=z902;refine aaa (aa8 (ay (hi pins s1 σ H1 _ I1 q1) λiv s2 z902=> ?_));let⟨y,H2,I2,r2,q2⟩:=z902;refine aaa (acY (aaa (aa8 (ay (hs pins s2 σ H2 x y v ov iv u _ I2 r1 r2 r q2) λ_ s3 z902=> ?_))));let⟨H3,I3,q3⟩:=z902;exact wpAny_release ⟨σ,H3,I3,q3⟩
def EY (te:TE) (g:TG):TS:=λD σ H=>te σ H λx H1=>g x σ H1 D.nx
theorem wC {e:Expr} {te:TE} {g:TG} (he:PE X e te) (hg:PG X tg g) (hs:swapsWithSole [tg] e pos.line X.env=pure false:=by rfl) (hw:swappedStores [tg] e X.env=pure none:=by rfl)
  (h1:(assignEach [tg] X.env).map (·.2)=[assign tg X.env]:=by rfl):PS X (.Assign [tg] e pos) (EY te g):=by
 intro pins s σ H D I h;refine wpAny_Assign_stores (ay (he pins s σ H _ I h) λv s1 z902=> ?_) hs hw;let⟨x,H1,I1,r1,q1⟩:=z902;rw[h1];exact ay (hg pins s1 σ H1 x v _ I1 r1 q1) λ_ s2 q=>q
theorem EG {i:Nat} {x:Str} {e:Expr} {te:TE} (hN:X.N.Nodup) (hi:X.N[i]?=some x) (hx:Loc X.env.scope x) (he:PE X e te) (hs:swapsWith e (some (.Name x pos')) pos.line X.env=pure false:=by rfl) (hf:X.fn x=true∨X.env.scope.names.lookup x=some .local:=by first|exact .inl rfl|exact .inr rfl|assumption):
  PS X (.Assign [.Name x pos'] e pos) (EY te (AQ i)):=by
 intro pins s σ H D I h;refine wpAny_Assign_Name (ay (he pins s σ H _ I h) λv s1 z902=> ?_) hs;let⟨y,H1,I1,r1,q1⟩:=z902;exact pX I1 hN hi hx r1 (λs2 I2=>⟨_,H1,I2,q1⟩) hf
end
structure It where
 go:Nat->Hp->Prop
 yld:Nat->Hp->V->Hp->Prop
 stop:Nat->Hp->Prop
def cu (X:Cx) (pins:List (Addr×Obj)) (H:Hp) (b:Addr):Prop:=
 H b=none/\b≠X.env.locals/\b∉X.fs/\(b∈X.ex∨X.s₀.heap.objs.size<=b)/\(∀x c,X.env.cells.lookup x=some c->c≠b)/\∀p∈X.pn++pins,p.1≠b
theorem Inv.kX {X:Cx} {σ:St} {H H':Hp} {s:Shared} {b:Addr} (I:Inv X pins σ H s) (hb:s.heap.objs.size<=b) (hn:H' b=none):cu X pins H' b:=by
 refine⟨hn,abz (aao I.lt hb),I.Ez hb, .inr (aaJ I.sz hb),λx c e z=> ?_,λp hp z=> ?_⟩
 ·let⟨v,q⟩:=I.cell x c e;exact absurd (aao q.lt (by rw[z];exact hb)) (aa3 _)
 ·exact absurd (aao (aam (I.pin p hp).1) (by rw[z];exact hb)) (aa3 _)
structure Turn (P:Program) (w:World) (K:PySem.W.Frag) (tg:Expr) (J:It) (fp:List Addr) (it:Addr) (tn:Nat->Heap->Prop):Prop where
 mem:it∈fp
 obj:∀i h,tn i h->∀b∈fp,∃o,h.get? b=some o/\∀v,o.data≠ .cell v
 keep:∀i h h',tn i h->(∀b∈fp,∀o,h.get? b=some o->h'.get? b=some o)->tn i h'
 item:∀(X:Cx),X.prog=P->X.w=w->X.K=K->X.calm=true->∀(i:Nat) (pins:List (Addr×Obj)) (s:Shared) (σ:St) (H:Hp) (E:Value->Shared->Prop),Inv X pins σ H s->(∀b∈fp,cu X pins H b)->tn i s.heap->J.go i H->
  wpAny (model P w) X.A (pyNext (.ref it)) (λr s1=>∃u,r=some u/\
   wpAny (model P w) X.A (letOwnedTupleGo tg (.ref it) u) (λ_ s2=>∃x H',Inv X pins σ H' s2/\RelV x u/\J.yld i H x H'/\tn (i+1) s2.heap/\∀b∈fp,H' b=none) E s1) E s
 done:∀(X:Cx),X.prog=P->X.w=w->X.K=K->X.calm=true->∀(i:Nat) (pins:List (Addr×Obj)) (s:Shared) (σ:St) (H:Hp) (E:Value->Shared->Prop),Inv X pins σ H s->(∀b∈fp,cu X pins H b)->tn i s.heap->J.stop i H->
  wpAny (model P w) X.A (pyNext (.ref it)) (λr s1=>r=none/\Inv X pins σ H s1) E s
 self:∀(A:Around) (i:Nat) (s:Shared) (Q:Value->Shared->Prop) (E:Value->Shared->Prop),tn i s.heap->Q (.ref it) s->wpAny (model P w) A (pyIter (.ref it)) Q E s
abbrev TI:=St->Hp->(It->Hp->Prop)->Prop
def PIE (X:Cx) (pins:List (Addr×Obj)) (σ:St) (tg:Expr) (R:It->Hp->Prop) (itv:Value) (s2:Shared):Prop:=
 ∃(it:Addr) (fp:List Addr) (tn:Nat->Heap->Prop) (J:It) (H':Hp),itv= .ref it/\Inv X pins σ H' s2/\Turn X.prog X.w X.K tg J fp it tn/\tn 0 s2.heap/\(∀b∈fp,cu X pins H' b)/\R J H'
def PI (X:Cx) (tg iter:Expr) (wi:TI):Prop:=
 ∀(pins:List (Addr×Obj)) (s:Shared) (σ:St) (H:Hp) (R:It->Hp->Prop),Inv X pins σ H s->wi σ H R->
  wpAny (model X.prog X.w) X.A (eval iter X.env) (λv s1=>wpAny (model X.prog X.w) X.A (pyIter v) (PIE X pins σ tg R) X.xe s1) X.xe s
theorem lP {M:Model} {A:Around} {E:Value->Shared->Prop} {s:Shared} {u:Value} {o:Obj} {n:String} {vs:Array Value} {Q:Unit->Shared->Prop} (ho:s.heap.get? it=some o) (hc:o.cls= .type n) (hd:o.data= .fields vs)
  (hn:["enumerate","zip","dict_itemiterator","dict_reverseitemiterator","odict_iterator","itertools.zip_longest","itertools.pairwise"].contains n=false) (hQ:Q () s):wpAny M A (letOwnedTupleGo tg (.ref it) u) Q E s:=by
 unfold letOwnedTupleGo
 cases tg<;>first
  |exact aaf hQ
  |(cases u<;>first
   |exact aaf hQ
   |(refine aaa (wpAny_load ho ?_)
     rw[hc,hd];show wpAny M A (if (["enumerate","zip","dict_itemiterator","dict_reverseitemiterator","odict_iterator","itertools.zip_longest","itertools.pairwise"].contains n&&vs[0]?==some (rawInt _))=true then _ else _) Q E s;rw[if_neg (by intro h;rw[hn,Bool.false_and] at h;cases h)]
     exact aaf hQ))
noncomputable def Fd (K:PySem.W.Frag) (a:Addr):It:=
 ⟨λi H=>∃xs x,bF K H a xs/\xs[i]?=some x,λi H x H'=>H'=H/\∀xs,bF K H a xs->xs[i]?=some x,λi H=>∃xs,bF K H a xs/\xs.length<=i⟩
noncomputable def C1 (K:PySem.W.Frag) (a:Addr):It:=
 ⟨λi H=>∃xs x,cF K H a xs/\xs[i]?=some x,λi H x H'=>H'=H/\∀xs,cF K H a xs->xs[i]?=some x,λi H=>∃xs,cF K H a xs/\xs.length<=i⟩
noncomputable def AW (lo:Int) (n:Nat):It:=⟨λi _=>i<n,λi H x H'=>H'=H/\x= .int (lo+i),λi _=>n<=i⟩
theorem vB {P:Program} {w:World} {K:PySem.W.Frag} (a it:Addr):Turn P w K tg (Fd K a) [it] it (λi h=>h.IsListIter it a i) where
 mem:=by simp
 obj:=λi h st b hb=>by
  have e:b=it:=by simpa using hb
  subst e;let⟨o,e,c,d⟩:=st;exact⟨o,e,λv z=>by rw[d] at z;cases z⟩
 keep:=λi h h' st k=>st.at λo e=>k it (by simp) o e
 item:=by
  intro X hP hw hK hc i pins s σ H E I hf st hg;subst hP hw hK;let⟨xs,x,hq,hx⟩:=hg;let⟨its,rv,p,hz⟩:=I.list hq;let⟨u,hu,ru⟩:=rv.get hx;let⟨f0,f1,f2,f3,f4,f5⟩:=hf it (by simp);refine wpAny_pyNext_list_item st p.isList (x:=u) (by simpa using hu) λh' st' sb=> ?_;have I1:Inv X pins σ H {s with heap:=h'}:=I.turned (t':=s.toks) (λb o hb e=>(sb.2 b hb).trans e) f0 f1 f3 f4 f5;let⟨o,e,c,d⟩:=id st';exact⟨u,rfl,lP (s:={s with heap:=h'}) e c d (by decide) ⟨x,H,I1,ru,⟨rfl,λys hy=>by rw[I.iP hy hq];exact hx⟩,st',λb hb=>(hf b hb).1⟩⟩
 done:=by
  intro X hP hw hK hc i pins s σ H E I hf st hg;subst hP hw hK;let⟨xs,hq,hx⟩:=hg;let⟨its,rv,p,hz⟩:=I.list hq;let⟨f0,f1,f2,f3,f4,f5⟩:=hf it (by simp);have hl:=rv.length;exact wpAny_pyNext_list_end (I.ok.hd hc) st p.isList (by simp;lia) λh' eb=>⟨rfl,I.turned (t':=s.toks) (λb o hb e=>eb b o hb e) f0 f1 f3 f4 f5⟩
 self:=λ_ _ _ _ _ st h=>wpAny_pyIter_listiter st h
theorem uG {P:Program} {w:World} {K:PySem.W.Frag} (a it:Addr):Turn P w K tg (C1 K a) [it] it (λi h=>h.IsTupleIter it a i) where
 mem:=by simp
 obj:=λi h st b hb=>by
  have e:b=it:=by simpa using hb
  subst e;let⟨o,e,c,d⟩:=st;exact⟨o,e,λv z=>by rw[d] at z;cases z⟩
 keep:=λi h h' st k=>st.at λo e=>k it (by simp) o e
 item:=by
  intro X hP hw hK hc i pins s σ H E I hf st hg;subst hP hw hK;let⟨xs,x,hq,hx⟩:=hg;let⟨its,rv,p,hz⟩:=I.tuple hq;let⟨u,hu,ru⟩:=rv.get hx;let⟨f0,f1,f2,f3,f4,f5⟩:=hf it (by simp);refine wpAny_pyNext_tuple_item st (show s.heap.IsTuple a its.toArray from p) (x:=u) (by simpa using hu) λh' st' sb=> ?_;have I1:Inv X pins σ H {s with heap:=h'}:=I.turned (t':=s.toks) (λb o hb e=>(sb.2 b hb).trans e) f0 f1 f3 f4 f5;let⟨o,e,c,d⟩:=id st';exact⟨u,rfl,lP (s:={s with heap:=h'}) e c d (by decide) ⟨x,H,I1,ru,⟨rfl,λys hy=>by rw[I.gF hy hq];exact hx⟩,st',λb hb=>(hf b hb).1⟩⟩
 done:=by
  intro X hP hw hK hc i pins s σ H E I hf st hg;subst hP hw hK;let⟨xs,hq,hx⟩:=hg;let⟨its,rv,p,hz⟩:=I.tuple hq;let⟨f0,f1,f2,f3,f4,f5⟩:=hf it (by simp);have hl:=rv.length;exact wpAny_pyNext_tuple_end (I.ok.hd hc) st (show s.heap.IsTuple a its.toArray from p) (by simp;lia) λh' eb=>⟨rfl,I.turned (t':=s.toks) (λb o hb e=>eb b o hb e) f0 f1 f3 f4 f5⟩
 self:=λ_ _ _ _ _ st h=>wpAny_pyIter_tupleiter st h
theorem vf {P:Program} {w:World} {K:PySem.W.Frag} (it:Addr) (lo:Int) (n:Nat):Turn P w K tg (AW lo n) [it] it (λi h=>IsRangeIter h it (lo+(i:Nat)*1) ((n:Int)-(i:Nat)) 1) where
 mem:=by simp
 obj:=λi h st b hb=>by
  have e:b=it:=by simpa using hb
  subst e
  exact⟨_,st,λv z=>by
   have z':Data.fields _=Data.cell v:=z
   cases z'⟩
 keep:=λi h h' st k=>k it (by simp) _ st
 item:=by
  intro X hP hw hK hc i pins s σ H E I hf st hg;subst hP hw hK;let⟨f0,f1,f2,f3,f4,f5⟩:=hf it (by simp);have W:=Walks.range (prog:=X.prog) (w:=X.w) (I.ok.hd hc) it lo 1 n;refine W.item i s _ _ hg st λv h' tk hv st' kk=> ?_;let⟨t,rfl⟩:=hv;have I1:Inv X pins σ H {s with heap:=h',toks:=tk}:=I.turned (λb o hb e=>kk b o (by simpa using hb) e) f0 f1 f3 f4 f5;refine⟨_,rfl,lP (s:={s with heap:=h',toks:=tk}) (n:="range_iterator") st' rfl rfl (by decide) ⟨.int (lo+i),H,I1,⟨t, ?_⟩,⟨rfl,rfl⟩,st',λb hb=>(hf b hb).1⟩⟩;rw[Int.mul_one]
 done:=by
  intro X hP hw hK hc i pins s σ H E I hf st hg;subst hP hw hK;let⟨f0,f1,f2,f3,f4,f5⟩:=hf it (by simp);exact wpAny_pyNext_range_end (I.ok.hd hc) st (by have:n<=i:=hg;lia) λh' eb=>⟨rfl,I.turned (t':=s.toks) (λb o hb e=>eb b o hb e) f0 f1 f3 f4 f5⟩
 self:=λ_ _ _ _ _ st h=>wpAny_pyIter_rangeiter st h
section
variable {X:Cx} {tg:Expr}
theorem zk {σ:St} {H:Hp} {s:Shared} {R:It->Hp->Prop} {E:Value->Shared->Prop} {lo hi:Int} {t u v:Tok} {tk:Nat} (I:Inv X pins σ H s) (h1: -(2^62)<=lo) (h2:lo<2^62) (h3: -(2^62)<=hi) (h4:hi<2^62)
  (q:R (AW lo (hi-lo).toNat) H):wpAny (model X.prog X.w) X.A (pyIter (.ref s.heap.objs.size)) (PIE X pins σ tg R) E {s with heap:=s.heap.push {cls:= .type "range",data:= .fields #[.int lo t, .int hi u, .int 1 v]},toks:=tk}:=by
 refine wpAny_pyIter_range (IsRange.new ..) (small_one h1 h2 h3 h4) ?_;have I1:Inv X pins σ H {s with heap:=s.heap.push {cls:= .type "range",data:= .fields #[.int lo t, .int hi u, .int 1 v]},toks:=tk}:=I.kept λb o e=>aad _ e
 refine⟨(s.heap.push {cls:= .type "range",data:= .fields #[.int lo t, .int hi u, .int 1 v]}).objs.size,[(s.heap.push {cls:= .type "range",data:= .fields #[.int lo t, .int hi u, .int 1 v]}).objs.size],_,_,H,rfl,
  I1.kept (t':=tk) λb o e=>aad _ e,vf _ lo (hi-lo).toNat, ?_,λb hb=> ?_,q⟩
 ·have e1:lo+((0:Nat):Int)*1=lo:=by simp
  have e2:(((hi-lo).toNat:Nat):Int)-((0:Nat):Int)=Builtin.Range.rangeSize lo hi 1:=by rw[rangeSize_one];split<;>lia
  show IsRangeIter _ _ (lo+((0:Nat):Int)*1) ((((hi-lo).toNat:Nat):Int)-((0:Nat):Int)) 1;rw[e1,e2];exact aaj _ rfl
 ·have e:b=(s.heap.push {cls:= .type "range",data:= .fields #[.int lo t, .int hi u, .int 1 v]}).objs.size:=by simpa using hb
  subst e;exact I1.kX (aag _) (I1.af.fresh (aag _))
def FO (ta:TA):TI:=λσ H R=>ta σ H λvs H1=>∃j:Int,vs=[.int j]/\ -(2^62)<=j/\j<2^62/\R (AW 0 j.toNat) H1
theorem vT {a:Expr} {ta:TA} {p:Pos} (hg:Gl X "range") (hm:X.mg "range"=none) (ha:PA X [a] ta) (hs:starEach [a] X.env=[(false,eval a X.env)]:=by rfl):PI X tg (.Call (.Name "range" p) [a] [] pos) (FO ta):=by
 intro pins s σ H R I h;refine Call_ (fZ I hg hm boot_range (ab7 (ay (ha pos pins s σ H _ I h) λus s1 z902=> ?_) hs rfl));let⟨vs,H1,I1,r1,q1⟩:=z902;let⟨j,e,q1,q2,q⟩:=q1;subst e
 cases r1 with
 |cons r rr=>
  cases rr;let⟨t,rfl⟩:=r;exact call_range_1 (zk I1 (by lia) (by lia) q1 q2 (by simpa using q))
def IU (wi:TI) (g:TG) (tb:TS):TS:=λD σ H=>wi σ H λJ H1=>∃W:Nat->Nat->St->Hp->Prop,(∃m,W 0 m σ H1)/\∀i m σ H,W i m σ H->
 (J.stop i H/\D.nx σ H)∨(J.go i H/\∃N:St->Hp->Prop,(∀σ' H',N σ' H'->∃m',m'<m/\W (i+1) m' σ' H')/\∀x H',J.yld i H x H'->g x σ H' λσ2 H2=>tb {D with nx:=N,ct:=N,bk:=D.nx} σ2 H2)
noncomputable def bE (fp:List Addr) (h:Heap):List (Addr×Obj):=fp.filterMap λb=>(h.get? b).map λo=>(b,o)
theorem dq {h:Heap} {b:Addr} (hb:b∈fp) (e:h.get? b=some o):(b,o)∈bE fp h:=List.mem_filterMap.mpr ⟨b,hb,by rw[e];rfl⟩
theorem nW {h:Heap} {p:Addr×Obj} (hp:p∈bE fp h):p.1∈fp/\h.get? p.1=some p.2:=by
 let⟨b,hb,e⟩:=List.mem_filterMap.mp hp
 cases q:h.get? b with
 |none=>rw[q] at e;cases e
 |some o=>
  rw[q] at e;have e':(b,o)=p:=Option.some.inj e;subst e';exact⟨hb,q⟩
theorem Inv.pinned {σ:St} {H:Hp} {s:Shared} {fp:List Addr} (I:Inv X pins σ H s) (hf:∀b∈fp,cu X pins H b) (ho:∀b∈fp,∃o,s.heap.get? b=some o/\∀v,o.data≠ .cell v):Inv X (pins++bE fp s.heap) σ H s:=
 I.cI λp hp=>(aaD.mp hp).elim (λz=>I.pin p (aaz _ z)) λz=>by
  let⟨hb,e⟩:=nW z;let⟨f0,f1,f2,_⟩:=hf p.1 hb;let⟨o,e',d⟩:=ho p.1 hb;rw[e] at e';cases e';exact⟨e,f0,f1,f2,d⟩
theorem Inv.iF {σ:St} {H:Hp} {s:Shared} (I:Inv X (pins++pl) σ H s):Inv X pins σ H s:=I.cI λp hp=>I.pin p (aaz _ (aa7 _ hp))
theorem E8 {wi:TI} {g:TG} {tb:TS} (hp:PassesOwn (model X.prog X.w) X.A X.env X.xe) (hc:X.calm=true) (hi:PI X tg iter wi) (hg:PG X tg g) (hb:dB X body tb)
  (hs:∀x,foldedSetIterable iter X.env x=pure x:=by intro _;rfl):PS X (.For tg iter body [] pos) (IU wi g tb):=by
 intro pins s σ H D I h;refine wpAny_For (ay (hi pins s σ H _ I h) λv s1 h1=>ay h1 λitv s2 h2=> ?_) hs;let⟨it,fp,tn,J,H2,e,I2,T,st2,f2,W,⟨m0,w0⟩,turn⟩:=h2;subst e;have stat:∀{H':Hp},(∀b∈fp,H' b=none)->∀b∈fp,cu X pins H' b:=λhn b hb=>⟨hn b hb,(f2 b hb).2⟩;refine codeAny_forLoop_any (λn s'=>∃i σ' H',Inv X pins σ' H' s'/\tn i s'.heap/\(∀b∈fp,H' b=none)/\W i n σ' H') ?_ m0 ⟨0,σ,H2,I2,st2,λb hb=>(f2 b hb).1,w0⟩
 rintro n s3 ⟨i,σ3,H3,I3,st3,fr3,w3⟩
 rcases turn i n σ3 H3 w3 with⟨stop,qn⟩|⟨go,N,hN,step⟩
 ·refine acg hp (ay (T.done X rfl rfl rfl hc i pins s3 σ3 H3 X.xe I3 (stat fr3) st3 stop) λr s4 z902=> ?_);let⟨hr,I4⟩:=z902;subst hr;exact wpAny_execs_nil ⟨σ3,H3,I4,qn⟩
 ·refine acg hp (ay (T.item X rfl rfl rfl hc i pins s3 σ3 H3 X.xe I3 (stat fr3) st3 go) λr s4 z902=> ?_);let⟨u,hr,h4⟩:=z902;subst hr;refine acg hp (ay h4 λ_ s5 z902=> ?_);let⟨x,H5,I5,r5,y5,st5,fr5⟩:=z902;have I5':=I5.pinned (stat fr5) (T.obj _ _ st5);refine acg hp (ay (hg _ s5 σ3 H5 x u _ I5' r5 (step x H5 y5)) λ_ s6 z902=> ?_);let⟨σ6,H6,I6,q6⟩:=z902;refine acg hp (ay (hb _ s6 σ6 H6 _ I6 q6) λf s7 q7=> ?_)
  have again:∀{σ7:St} {H7:Hp},Inv X (pins++bE fp s5.heap) σ7 H7 s7->N σ7 H7->∃m,m<n/\∃i σ' H',Inv X pins σ' H' s7/\tn i s7.heap/\(∀b∈fp,H' b=none)/\W i m σ' H':=λ{σ7 H7} I7 n7=>by
   let⟨m',hm,w7⟩:=hN σ7 H7 n7;refine⟨m',hm,i+1,σ7,H7,I7.iF,T.keep _ _ _ st5 λb hb o e=>(I7.pin (b,o) (aaz _ (aaz _ (dq hb e)))).1,λb hb=> ?_,w7⟩;let⟨o,e,d⟩:=T.obj _ _ st5 b hb;exact(I7.pin (b,o) (aaz _ (aaz _ (dq hb e)))).2.1
  cases f with
  |next=>let⟨σ7,H7,I7,n7⟩:=q7;exact again I7 n7
  |cont=>let⟨σ7,H7,I7,n7⟩:=q7;exact again I7 n7
  |brk=>let⟨σ7,H7,I7,q7⟩:=q7;exact⟨σ7,H7,I7.iF,q7⟩
  |ret v=>let⟨x7,σ7,H7,I7,r7,q7⟩:=q7;exact⟨x7,σ7,H7,I7.iF,r7,q7⟩
end
abbrev R2:=V->V->Hp->VK->Prop
def aD (X:Cx) (f:Value->Value->Sem Value) (r:R2):Prop:=
 ∀(pins:List (Addr×Obj)) (s:Shared) (σ:St) (H:Hp) (x y:V) (v u:Value) (Q:VK),Inv X pins σ H s->RelV x v->RelV y u->r x y H Q->
  wpAny (model X.prog X.w) X.A (f v u) (EP X pins σ Q) X.xe s
def au (X:Cx) (f:Value) (r:List V->Hp->VK->Prop):Prop:=
 ∀(pins:List (Addr×Obj)) (s:Shared) (σ:St) (H:Hp) (xs:List V) (us:List Value) (Q:VK),Inv X pins σ H s->Vals xs us->r xs H Q->
  wpAny (model X.prog X.w) X.A (call f us) (EP X pins σ Q) X.xe s
def IG (X:Cx) (r:V->Hp->(Bool->Hp->Prop)->Prop):Prop:=
 ∀(pins:List (Addr×Obj)) (s:Shared) (σ:St) (H:Hp) (x:V) (v:Value) (Q:Bool->Hp->Prop),Inv X pins σ H s->RelV x v->r x H Q->
  wpAny (model X.prog X.w) X.A (truthy v) (TP X pins σ Q) X.xe s
def Al (r:R2) (ta tb:TE):TE:=λσ H Q=>ta σ H λx H1=>tb σ H1 λy H2=>r x y H2 Q
def rI (C:Int->Int->Prop) (g:Int->Int->V):R2:=λx y H Q=>∃i j,x= .int i/\y= .int j/\C i j/\Q (g i j) H
def kB (g:Int->Int->V):R2:=λx y H Q=>∃i j,x= .int i/\y= .int j/\Q (g i j) H
section
variable {X:Cx} {a b c:Expr} {ta tb tc:TE} {pos:Pos}
theorem xY (ha:PE X a ta) (hb:PE X b tb) {s:Shared} {σ:St} {H:Hp} {R:V->V->Hp->Prop} (I:Inv X pins σ H s)
  (h:ta σ H λx H1=>tb σ H1 λy H2=>R x y H2) {Q:Value->Shared->Prop} {f:Value->Value->Sem Value}
  (hf:∀v u s2 x y H2,Inv X pins σ H2 s2->RelV x v->RelV y u->R x y H2->wpAny (model X.prog X.w) X.A (f v u) Q X.xe s2):
  wpAny (model X.prog X.w) X.A (eval a X.env) (λv s₁=>wpAny (model X.prog X.w) X.A (eval b X.env) (λu s₂=>wpAny (model X.prog X.w) X.A (f v u) Q X.xe s₂) X.xe s₁) X.xe s:=by
 refine ay (ha pins s σ H _ I h) λv s1 z902=> ?_;let⟨x,H1,I1,r1,q1⟩:=z902;refine ay (hb pins s1 σ H1 _ I1 q1) λu s2 z902=> ?_;let⟨y,H2,I2,r2,q2⟩:=z902;exact hf v u s2 x y H2 I2 r1 r2 q2
theorem Hi {op:Operator} {r:R2} (ho:aD X (binaryOp op) r) (ha:PE X a ta) (hb:PE X b tb):PE X (.BinOp a op b pos) (Al r ta tb):=by
 intro pins s σ H Q I h;exact wpAny_BinOp (xY ha hb I h λv u s2 x y H2 I2 rx ry q=>ho pins s2 σ H2 x y v u Q I2 rx ry q)
theorem Aq {f:Value->Value->Sem Value} {C:Int->Int->Prop} {g:Int->Int->Int}
  (rule:∀(i j:Int) (t u:Tok) (s:Shared) (Q:Value->Shared->Prop) (E:Value->Shared->Prop),C i j->Q (.int (g i j) s.toks) {s with toks:=s.toks+1}->wpAny (model X.prog X.w) X.A (f (.int i t) (.int j u)) Q E s):
  aD X f (rI C λi j=> .int (g i j)):=by
 intro pins s σ H x y v u Q I rx ry h;let⟨i,j,rfl,rfl,hc,q⟩:=h;let⟨t,rfl⟩:=rx;let⟨t',rfl⟩:=ry;exact rule i j t t' s _ _ hc ⟨.int (g i j),H,I.tok _,⟨_,rfl⟩,q⟩
theorem Ew {f:Value->Value->Sem Value} {g:Int->Int->Int}
  (rule:∀(i j:Int) (t u:Tok) (s:Shared) (Q:Value->Shared->Prop) (E:Value->Shared->Prop),Q (.int (g i j) s.toks) {s with toks:=s.toks+1}->wpAny (model X.prog X.w) X.A (f (.int i t) (.int j u)) Q E s):
  aD X f (kB λi j=> .int (g i j)):=by
 intro pins s σ H x y v u Q I rx ry h;let⟨i,j,rfl,rfl,q⟩:=h;let⟨t,rfl⟩:=rx;let⟨t',rfl⟩:=ry;exact rule i j t t' s _ _ ⟨.int (g i j),H,I.tok _,⟨_,rfl⟩,q⟩
theorem u6 {f:Value->Value->Sem Value} {g:Int->Int->Bool}
  (rule:∀(i j:Int) (t u:Tok) (s:Shared) (Q:Value->Shared->Prop) (E:Value->Shared->Prop),Q (.bool (g i j)) s->wpAny (model X.prog X.w) X.A (f (.int i t) (.int j u)) Q E s):
  aD X f (kB λi j=> .bl (g i j)):=by
 intro pins s σ H x y v u Q I rx ry h;let⟨i,j,rfl,rfl,q⟩:=h;let⟨t,rfl⟩:=rx;let⟨t',rfl⟩:=ry;exact rule i j t t' s _ _ ⟨.bl (g i j),H,I,rfl,q⟩
def Kn (i j:Int):Prop:=0<=j/\j<=1000000/\i.natAbs<2^64
theorem D8:aD X (binaryOp .Add) (kB λi j=> .int (i+j)):=Ew λ_ _ _ _ _ _ _ q=>add_int q
theorem DY:aD X (binaryOp .Sub) (kB λi j=> .int (i-j)):=Ew λ_ _ _ _ _ _ _ q=>sub_int q
theorem B1:aD X (binaryOp .Mod) (rI (λ_ j=>j≠0) λi j=> .int (i.fmod j)):=Aq λ_ _ _ _ _ _ _ hc q=>mod_int' hc q
theorem EJ:aD X (binaryOp .Pow) (rI Kn λi j=> .int (i^j.toNat)):=Aq λ_ _ _ _ _ _ _ hc q=>pow_int_small hc.1 hc.2.1 hc.2.2 q
theorem lI {σ:St} {H:Hp} {s:Shared} {Q:VK} {k k':Bool} (I:Inv X pins σ H s) (q:Q (.bl k) H) (e:k=k'):EP X pins σ Q (.bool k') s:=by
 subst e;exact⟨.bl k,H,I,rfl,q⟩
theorem GY:aD X (compareOp .Lt) (kB λi j=> .bl (decide (i<j))):=u6 λ_ _ _ _ _ _ _ q=>lt_int q
theorem F4:aD X (compareOp .LtE) (kB λi j=> .bl (decide (i<=j))):=u6 λ_ _ _ _ _ _ _ q=>le_int q
theorem HB:aD X (compareOp .Gt) (kB λi j=> .bl (decide (j<i))):=u6 λ_ _ _ _ _ _ _ q=>gt_int q
theorem FY:aD X (compareOp .GtE) (kB λi j=> .bl (decide (j<=i))):=u6 λ_ _ _ _ _ _ _ q=>ge_int q
theorem DF:aD X (compareOp .Is) (λx y H Q=>y= .non/\Q (.bl (decide (x= .non))) H):=by
 intro pins s σ H x y v u Q I rx ry h;let⟨rfl,q⟩:=h;cases ry;refine is_none_gen (lI I q ?_)
 cases x<;>first
  |(cases rx;rfl)
  |(let⟨t,rfl⟩:=rx;rfl)
theorem BK:aD X (compareOp .IsNot) (λx y H Q=>y= .non/\Q (.bl (!decide (x= .non))) H):=by
 intro pins s σ H x y v u Q I rx ry h;let⟨rfl,q⟩:=h;cases ry;refine isnot_none_gen (lI I q ?_)
 cases x<;>first
  |(cases rx;rfl)
  |(let⟨t,rfl⟩:=rx;rfl)
theorem aD.or {f:Value->Value->Sem Value} {r r':R2} (h:aD X f r) (h':aD X f r'):aD X f (λx y H Q=>r x y H Q∨r' x y H Q):=by
 intro pins s σ H x y v u Q I rx ry q
 rcases q with q|q
 ·exact h pins s σ H x y v u Q I rx ry q
 ·exact h' pins s σ H x y v u Q I rx ry q
theorem Cj {op:CmpOp} {r:R2} (ho:aD X (compareOp op) r) (ha:PE X a ta) (hb:PE X b tb) (hm:behindInMarks op b=false):PE X (.Compare a [op] [b] pos) (Al r ta tb):=by
 intro pins s σ H Q I h;exact wpAny_Compare1 (xY ha hb I h λv u s2 x y H2 I2 rx ry q=>ho pins s2 σ H2 x y v u Q I2 rx ry q) hm
def Gd (t:TE):TT:=λσ H Q=>t σ H λx H'=>∃k,x= .bl k/\Q k H'
theorem Bz {op:CmpOp} {r:R2} (ho:aD X (compareOp op) r) (ha:PE X a ta) (hb:PE X b tb) (hm:behindInMarks op b=false):PT X (.Compare a [op] [b] pos) (Gd (Al r ta tb)):=by
 intro pins s σ H Q I h;refine wpAny_isTrue_Compare1 (ay (ha pins s σ H _ I h) λv s1 zq0=> ?_) hm;let⟨x,H1,I1,r1,q1⟩:=zq0;refine ay (hb pins s1 σ H1 _ I1 q1) λu s2 zq1=> ?_;let⟨y,H2,I2,r2,q2⟩:=zq1;refine ay (ho pins s2 σ H2 x y v u _ I2 r1 r2 q2) λc s3 zq2=> ?_;let⟨z,H3,I3,r3,k,e,q3⟩:=zq2;subst e;cases r3;exact abi ⟨H3,I3,q3⟩
def zF (K:PySem.W.Frag) (x:V) (H:Hp) (k:Bool):Prop:=
 match x with
 | .non=>k=false
 | .bl b=>k=b
 | .int i=>k=(i !=0)
 | .str y=>y.length<=sizeLine/\k=((y.length:Int) !=0)
 | .byt y=>y.size<=sizeLine/\k=((y.size:Int) !=0)
 | .ref p=>(∃xs,bF K H p xs/\k= !xs.isEmpty)∨(∃xs,cF K H p xs/\k= !xs.isEmpty)∨∃kvs,H p=some (.dK kvs)/\k= !kvs.isEmpty
 |_=>False
theorem uP {κ:Type} {kvs:List (κ×V)} {vs:List (κ×Value)} (r:KV kvs vs):(!vs.isEmpty)= !kvs.isEmpty:=by
 cases r<;>rfl
theorem mR {xs:List V} {its:List Value} (r:Vals xs its):(!its.toArray.isEmpty)= !xs.isEmpty:=by
 cases r<;>simp
theorem fR:(sizeLine:Nat)<2^63:=by rw[abG];decide
theorem ED:IG X (λx H Q=>∃k,zF X.K x H k/\Q k H):=by
 intro pins s σ H x v Q I rx h;let⟨k,e,q⟩:=h;have hl:=fR;have hs:sizeLine=16777216:=abG
 cases x with
 |non=>
  cases rx;have e':k=false:=e;subst e';exact truthy_none ⟨H,I,q⟩
 |bl b=>
  cases rx;have e':k=b:=e;subst e';exact abi ⟨H,I,q⟩
 |int i=>
  let⟨t,rfl⟩:=rx;have e':k=(i !=0):=e;subst e';exact PySem.P.truthy_int ⟨H,I,q⟩
 |str y=>
  let⟨t,rfl⟩:=rx;obtain⟨hy,e'⟩:y.length<=sizeLine/\k=((y.length:Int) !=0):=e;subst e';exact PySem.P.truthy_str (by lia) ⟨H,I.tok _,q⟩
 |byt y=>
  let⟨t,rfl⟩:=rx;obtain⟨hy,e'⟩:y.size<=sizeLine/\k=((y.size:Int) !=0):=e;subst e';exact PySem.W.truthy_bytes (by lia) ⟨H,I.tok _,q⟩
 |ref p=>
  cases rx;have e':(∃xs,bF X.K H p xs/\k= !xs.isEmpty)∨(∃xs,cF X.K H p xs/\k= !xs.isEmpty)∨∃kvs,H p=some (.dK kvs)/\k= !kvs.isEmpty:=e
  rcases e' with⟨xs,hx,e'⟩|⟨xs,hx,e'⟩|⟨kvs,hx,e'⟩
  ·subst e';let⟨its,r,pl,hz⟩:=I.list hx;have hlen:=r.length;exact wpAny_truthy_list pl.isList (by simp only[aak];lia) ⟨H,I.tok _,by rw[mR r];exact q⟩
  ·subst e';let⟨its,r,pl,hz⟩:=I.tuple hx;have hlen:=r.length;exact truthy_tuple pl (by simp only[aak];lia) ⟨H,I.tok _,by rw[mR r];exact q⟩
  ·subst e';obtain⟨hz,hS,vs,r,m⟩:kvs.length<=sizeLine/\(p==sysModules)=false/\∃vs,KV kvs vs/\s.heap.DictOf (aF X.prog X.w) p vs:=I.af p _ hx;have hlen:kvs.length=vs.length:=abn r;exact wpAny_truthy_dict hS m (by lia) ⟨H,I.tok _,by rw[uP r];exact q⟩
 |_=>exact(show False from e).elim
theorem yg (ha:PE X a ta) (he:∀whole,isTrue a X.env whole=(do let v←whole;standAt a.pos;holding [v] (truthy v))):
  PT X a (λσ H Q=>ta σ H λx H'=>∃k,zF X.K x H' k/\Q k H'):=by
 intro pins s σ H Q I h;exact isTrue_plain (ay (ha pins s σ H _ I h) λv s1 z902=>by let⟨x,H1,I1,r1,q1⟩:=z902;exact ED pins s1 σ H1 x v Q I1 r1 q1) (he _)
theorem ve:aD X (binaryOp .Add) (λx y H Q=>∃i j,x= .str i/\y= .str j/\i.length+j.length<=sizeLine/\Q (.str (i++j)) H):=by
 intro pins s σ H x y v u Q I rx ry h;let⟨i,j,rfl,rfl,hz,q⟩:=h;let⟨t,rfl⟩:=rx;let⟨t',rfl⟩:=ry;exact add_str (λt' tk=>⟨.str (i++j),H,I.tok _,⟨_,rfl⟩,q⟩) hz
theorem vals1 {x:V} {us:List Value} (r:Vals [x] us):∃u,us=[u]/\RelV x u:=by
 cases r with
 |cons r1 r2=>cases r2;exact⟨_,rfl,r1⟩
theorem vals2 {x y:V} {us:List Value} (r:Vals [x,y] us):∃u w',us=[u,w']/\RelV x u/\RelV y w':=by
 cases r with
 |cons r1 r2=>
  cases r2 with
  |cons r3 r4=>cases r4;exact⟨_,_,rfl,r1,r3⟩
theorem wx (hc:X.calm=true):au X (.builtin "min") (λxs H Q=>∃i j,xs=[.int i, .int j]/\Q (.int (if j<i then j else i)) H):=by
 intro pins s σ H xs us Q I r h;let⟨i,j,rfl,q⟩:=h;let⟨u,w',rfl,⟨t,rfl⟩,⟨t',rfl⟩⟩:=vals2 r;refine min_two_ints (I.ok.hd hc) λh' tk k=>⟨_,H,I.kept k, ?_,q⟩
 by_cases hj:j<i
 ·rw[if_pos hj,if_pos hj];exact⟨_,rfl⟩
 ·rw[if_neg hj,if_neg hj];exact⟨_,rfl⟩
theorem wH:au X (.type "int") (λxs H Q=>(∃i,xs=[.int i]/\Q (.int i) H)∨∃k,xs=[.bl k]/\Q (.int (if k then 1 else 0)) H):=by
 intro pins s σ H xs us Q I r h
 rcases h with⟨i,rfl,q⟩|⟨k,rfl,q⟩
 ·let⟨u,rfl,t,rfl⟩:=vals1 r;exact call_int_int ⟨.int i,H,I,⟨_,rfl⟩,q⟩
 ·let⟨u,rfl,r1⟩:=vals1 r;cases r1;exact call_int_bool ⟨.int (if k then 1 else 0),H,I.tok _,⟨_,rfl⟩,q⟩
end
structure ObjM (h:Heap) (x dx C:Addr) (mA:Str->Option Value):Prop where
 obj:h.get? x=some (PySem.W.instObj C dx)
 ns:h.Ns1 dx mA
 ne:dx≠x
theorem xO {h:Heap} {mA:Str->Option Value} (n:h.Ns1 dx mA):∃od,h.get? dx=some od/\∀name,PySem.W.lookIn name od=some (mA name):=by
 let⟨o,es,ep,ho,hd,hk,_,hm⟩:=n;refine⟨o,ho,λname=> ?_⟩;have e:=hm name;unfold nsFind findBy at e;rw[←Array.find?_toList] at e;unfold PySem.W.lookIn;rw[hd];dsimp only;split
 ·rename_i y q;rw[q] at e;exact congrArg some e
 ·rename_i q;rw[q] at e
  have a:es.toList.any (·.refKey)=false:=by
   rw[List.any_eq_false];intro y hy;let⟨z,t,hkey⟩:=hk y (Array.mem_toList_iff.mp hy);simp[DictEntry.refKey,hkey]
  have a':¬es.toList.any (·.refKey)=true:=by rw[a];exact aaG
  rw[if_neg a'];exact congrArg some e
theorem ObjM.look {x C:Addr} {mA:Str->Option Value} (I:ObjM h x dx C mA):∃od,PySem.W.InstAt h x (PySem.W.instObj C dx) C (some od)/\∀name,PySem.W.lookIn name od=some (mA name):=
 let ⟨od,ho,hl⟩:=xO I.ns
 ⟨od,⟨I.obj,rfl,rfl,ho⟩,hl⟩
section
variable {prog:Program} {w:World} {A:Around} {E:Value->Shared->Prop} {s:Shared} {K:PySem.W.Frag} {x dx C f:Addr} {mA:Str->Option Value} {name:Str} {v:Value}
theorem get_map {expr:Bool} {Q:Value->Shared->Prop} (X:K.In s.heap) (I:ObjM s.heap x dx C mA) (hg:PySem.W.plainGet K C name=true) (hh:PySem.W.hasDictIn K C=true)
  (ha:PySem.W.findIn K (.ref C) name=some none) (hv:mA name=some v) (hv':PySem.W.handedIn v=true) (h:Q v {s with toks:=s.toks+1}):
  wpAny (model prog w) A (getAttr (.ref x) name expr) Q E s:=by
 let⟨od,J,hl⟩:=I.look;exact PySem.W.get_value X J (PySem.W.plainGet_of hg).1 (PySem.W.findObj_own hh ha rfl (by rw[hl,hv])) hv' h
theorem BX {ns:List Str} {Q:Unit->Shared->Prop} (X:K.In s.heap) (I:ObjM s.heap x dx C mA)
  (hs:PySem.W.findIn K (.ref C) "__setattr__"=some (some (.builtin "object.__setattr__"))) (hp:PySem.W.plainOver K C=true) (ht:PySem.W.takerIn K C name=some none) (hh:PySem.W.hasDictIn K C=true)
  (hw:PySem.Within mA ns) (hsz:ns.length<=sizeLine)
  (h:∀h',ObjM h' x dx C (λy=>if y=name then some v else mA y)->Heap.SameBut dx s.heap h'->Q () {s with heap:=h',toks:=s.toks+2}):
  wpAny (model prog w) A (setAttr (.ref x) name v) Q E s:=by
 let⟨od,J,hl⟩:=I.look;refine PySem.W.set_plain X J hs (PySem.W.osa_open (s:={s with toks:=s.toks+1}) (r:=none) X J hp ht λb=> ?_);let⟨cd,hc,hd'⟩:=PySem.W.any_some hh;have hx:s.heap.get? x=some ⟨.ref C,some dx, .plain,#[]⟩:=I.obj;refine aaa (aaf (aaa (aaa (wpAny_loadPart hx (aaa (PySem.W.Looks.here (s:={s with toks:=s.toks+1}) (PySem.W.looks_clsIn X hc) ?_))))));rw[hd'];refine aaf (a:=some dx) (aaa (aaf (aaa ?_)));refine wpAny_nsSet1 (s:={s with toks:=s.toks+1}) I.ns λh' hn2 hs2=> ?_;let⟨oD,esD,epD,hoD,hdD,hcD⟩:=hn2.count (PySem.Within.cons name v hw);refine aaa (wpAny_lookBehind hoD (by rw[hdD];exact pastItsLine_dict (aaJ hcD (by rw[aar];lia))) ?_);exact aaf (h _ ⟨(hs2.2 _ (Ne.symm I.ne)).trans I.obj,hn2,I.ne⟩ hs2)
theorem yp {R:Result->Shared->Prop} {vs:List Value} {kw:List (Str×Value)} (X:K.In s.heap) (hm:PySem.W.makesIn K C=true)
  (hi:PySem.W.findIn K (.ref C) "__init__"=some (some (.ref f))) (hf:PySem.W.typeIn K (.ref f)=some (.type "function"))
  (h:codeAny (model prog w) (A.under (.builtin "type.__call__" ⟨.ref C::vs,kw⟩)) (.call (.ref f) ⟨.ref (s.heap.objs.size+1)::vs,kw⟩) (PySem.W.InitBack (s.heap.objs.size+1) R)
   {s with heap:=(s.heap.push PySem.W.emptyDict).push (PySem.W.instObj C s.heap.objs.size)}):
  codeAny (model prog w) A (.call (.ref C) ⟨vs,kw⟩) R s:=by
 let⟨hh,g,d,t,os⟩:=s;exact PySem.W.make_core (ac7 X hm) (PySem.W.looks_findIn X hi) (λself=>PySem.W.bind_fn X self hf) (.inl rfl) h
theorem v5 {R:Result->Shared->Prop} (X:K.In s.heap) (hm:PySem.W.makesIn K C=true)
  (hi:PySem.W.findIn K (.ref C) "__init__"=some (some (.builtin "object.__init__")))
  (hb:∀self,PySem.W.Looks (model prog w) s.heap (bindSpecial (.builtin "object.__init__") self) (.builtin "object.__init__",[self]))
  (h:codeAny (model prog w) (A.under (.builtin "type.__call__" ⟨[.ref C],[]⟩)) (.call (.builtin "object.__init__") ⟨[.ref (s.heap.objs.size+1)],[]⟩) (PySem.W.InitBack (s.heap.objs.size+1) R)
   {s with heap:=(s.heap.push PySem.W.emptyDict).push (PySem.W.instObj C s.heap.objs.size)}):
  codeAny (model prog w) A (.call (.ref C) ⟨[],[]⟩) R s:=by
 let⟨hh,g,d,t,os⟩:=s;exact PySem.W.make_core (ac7 X hm) (PySem.W.looks_findIn X hi) hb (.inr ⟨rfl,rfl⟩) h
end
noncomputable def aQ (f:Str) (v:V):List (Str×V)->List (Str×V)
 |[]=>[(f,v)]
 |(g,x)::r=>if g=f then (g,v)::r else (g,x)::aQ f v r
theorem ko (f g:Str) (v:V):∀fs:List (Str×V),(aQ f v fs).lookup g=if g=f then some v else fs.lookup g
 |[]=>by
  show List.lookup g [(f,v)]=_
  by_cases h:g=f
  ·have hb:(g==f)=true:=beq_iff_eq.mpr h;simp only[List.lookup,hb,if_pos h]
  ·have hb:(g==f)=false:=beq_eq_false_iff_ne.mpr h;simp only[List.lookup,hb,if_neg h]
 |(k,x)::r=>by
  have ih:=ko f g v r;rw[show aQ f v ((k,x)::r)=(if k=f then (k,v)::r else (k,x)::aQ f v r) from rfl]
  by_cases hk:k=f
  ·rw[if_pos hk]
   by_cases h:g=k
   ·have hb:(g==k)=true:=beq_iff_eq.mpr h;simp only[List.lookup,hb,if_pos (h.trans hk)]
   ·have hb:(g==k)=false:=beq_eq_false_iff_ne.mpr h;simp only[List.lookup,hb,if_neg (λe:g=f=>h (e.trans hk.symm))]
  ·rw[if_neg hk]
   by_cases h:g=k
   ·have hb:(g==k)=true:=beq_iff_eq.mpr h;simp only[List.lookup,hb,if_neg (λe:g=f=>hk (h.symm.trans e))]
   ·have hb:(g==k)=false:=beq_eq_false_iff_ne.mpr h;simp only[List.lookup,hb];exact ih
theorem jF (f:Str) (v:V):∀fs:List (Str×V),f∈(aQ f v fs).map (·.1)/\∀g,g∈fs.map (·.1)->g∈(aQ f v fs).map (·.1)
 |[]=>⟨by simp[aQ],λg h=>by simp at h⟩
 |(k,x)::r=>by
  let⟨i1,i2⟩:=jF f v r;rw[show aQ f v ((k,x)::r)=(if k=f then (k,v)::r else (k,x)::aQ f v r) from rfl]
  by_cases hk:k=f
  ·rw[if_pos hk];subst hk;exact⟨by simp,λg h=>by simpa using h⟩
  ·rw[if_neg hk];refine⟨?_,λg h=> ?_⟩
   ·rw[aav];exact aaq _ i1
   ·rw[aav] at h⊢
    rcases aau.mp h with e|e
    ·exact aau.mpr (.inl e)
    ·exact aaq _ (i2 g e)
theorem kK (f:Str) (v:V):∀fs:List (Str×V),(aQ f v fs).length<=fs.length+1
 |[]=>by simp[aQ]
 |(k,x)::r=>by
  have ih:=kK f v r;rw[show aQ f v ((k,x)::r)=(if k=f then (k,v)::r else (k,x)::aQ f v r) from rfl]
  by_cases hk:k=f
  ·rw[if_pos hk,aar,aar];lia
  ·rw[if_neg hk,aar,aar];lia
theorem dF.some_of {v:V} {o:Option Value} (r:dF (some v) o):∃u,o=some u/\RelV v u:=by
 cases o with
 |none=>exact(show False from r).elim
 |some u=>exact⟨u,rfl,r⟩
theorem vC {v:V} {u:Value} (r:RelV v u):PySem.W.handedIn u=true:=by
 cases v with
 |non=>cases (show u=Value.none from r);rfl
 |bl b=>cases (show u=Value.bool b from r);rfl
 |int i=>let⟨t,e⟩:=(show∃t,u=Value.int i t from r);cases e;rfl
 |str x=>let⟨t,e⟩:=(show∃t,u=Value.str x t from r);cases e;rfl
 |byt b=>let⟨t,e⟩:=(show∃t,u=Value.bytes b t from r);cases e;rfl
 |flt b=>let⟨t,e⟩:=(show∃t,u=Value.float b t from r);cases e;rfl
 |ref a=>cases (show u=Value.ref a from r);rfl
 |ty n=>cases (show u=Value.type n from r);rfl
section
variable {P:Program} {w:World} {H H':Hp} {h h':Heap} {a C dx:Addr} {fs fs':List (Str×V)}
theorem nv (af:bq P w H h) (e:H a=some (.ins C dx fs)):∃mA,ObjM h a dx C mA/\(∀f,dF (fs.lookup f) (mA f))/\PySem.Within mA (fs.map (·.1))/\fs.length<=1000/\H dx=some (.own a):=by
 let⟨d,z,ne,ob,mA,n,r,q⟩:=(show aI P w H h a (.ins C dx fs) from af a _ e);exact⟨mA,⟨ob,n,ne⟩,r,q,z,d⟩
end
structure Cls (K:PySem.W.Frag) (C:Addr):Prop where
 pg:PySem.W.plainGet K C Str.empty=true
 hd:PySem.W.hasDictIn K C=true
 po:PySem.W.plainOver K C=true
 sa:PySem.W.findIn K (.ref C) "__setattr__"=some (some (.builtin "object.__setattr__"))
theorem Cls.get {K:PySem.W.Frag} {C:Addr} (c:Cls K C) (f:Str):PySem.W.plainGet K C f=true:=c.pg
def dW (K:PySem.W.Frag) (C:Addr) (f:Str):Prop:=PySem.W.findIn K (.ref C) f=some none
theorem dW.G6 {K:PySem.W.Frag} {C:Addr} {f:Str} (n:dW K C f):PySem.W.takerIn K C f=some none:=by
 unfold PySem.W.takerIn;rw[show PySem.W.findIn K (.ref C) f=some none from n];rfl
structure Con (K:PySem.W.Frag) (C:Addr) (f:Str) (v:V) (u:Value):Prop where
 at_:PySem.W.findIn K (.ref C) f=some (some u)
 rel:RelV v u
 get:PySem.W.specialIn K u "__get__"=some none
 cp:PySem.W.copiedNames.contains f=false
structure Meth (K:PySem.W.Frag) (C:Addr) (m:Str) (f:Addr):Prop where
 at_:PySem.W.findIn K (.ref C) m=some (some (.ref f))
 fn:PySem.W.isFn K (.ref f)=true
 kp:PySem.W.keepIn K (.ref f)=true
section
variable {X:Cx} {pins:List (Addr×Obj)} {σ:St} {H:Hp} {s:Shared} {a C dx:Addr} {fs:List (Str×V)} {f:Str} {v:V} {A:Around} {E:Value->Shared->Prop}
theorem uO {b:Bool} {Q:Value->Shared->Prop} (I:Inv X pins σ H s) (e:H a=some (.ins C dx fs)) (c:Cls X.K C) (n:dW X.K C f) (l:fs.lookup f=some v)
  (h:∀u s',Inv X pins σ H s'->RelV v u->Q u s'):wpAny (model X.prog X.w) A (getAttr (.ref a) f b) Q E s:=by
 let⟨mA,O,r,_,_,_⟩:=nv I.af e;let⟨u,hu,ru⟩:=dF.some_of (v:=v) (o:=mA f) (by rw[←l];exact r f);exact get_map I.bX O (c.get f) c.hd n hu (vC ru) (h u _ (I.tok _) ru)
theorem uM {y:V} {u:Value} {Q:Unit->Shared->Prop} (I:Inv X pins σ H s) (e:H a=some (.ins C dx fs)) (c:Cls X.K C) (n:dW X.K C f) (hl:fs.length<1000) (ry:RelV y u)
  (h:∀s',Inv X pins σ (upd H a (.ins C dx (aQ f y fs))) s'->Q () s'):wpAny (model X.prog X.w) A (setAttr (.ref a) f u) Q E s:=by
 let⟨mA,O,r,wi,_,ho⟩:=nv I.af e
 have hz:(fs.map (·.1)).length<=sizeLine:=by rw[aay,abG];lia
 refine BX I.bX O c.sa c.po n.G6 c.hd wi hz λh' O' sb=>h _ ?_
 have hd:∃o,h'.get? dx=some o:=let ⟨o,_,_,e',_⟩:=O'.ns;⟨o,e'⟩
 refine I.write (x:=a) (e:=dx) (by rw[e];exact True.intro) (.inr ho) (λb q hb z=>(sb.2 b hb).trans z) hd ?_;refine⟨by rw[aq O.ne];exact ho, ?_,O.ne,O'.obj,_,O'.ns,λg=> ?_,λg hg=> ?_⟩
 ·have:=kK f y fs;lia
 ·show dF ((aQ f y fs).lookup g) (if g=f then some u else mA g);rw[ko]
  by_cases q:g=f
  ·rw[if_pos q,if_pos q];exact ry
  ·rw[if_neg q,if_neg q];exact r g
 ·by_cases q:g=f
  ·rw[q];exact(jF f y fs).1
  ·refine(jF f y fs).2 g (wi g λz=>hg ?_);show (if g=f then some u else mA g)=none;rw[if_neg q];exact z
theorem Inv.made (I:Inv X pins σ H s):Inv X pins σ (upd (upd H s.heap.objs.size (.own (s.heap.objs.size+1))) (s.heap.objs.size+1) (.ins C s.heap.objs.size []))
  {s with heap:=(s.heap.push PySem.W.emptyDict).push (PySem.W.instObj C s.heap.objs.size)}:=by
 have e1:(s.heap.push PySem.W.emptyDict).get? s.heap.objs.size=some PySem.W.emptyDict:=aaj s.heap rfl
 have e2:((s.heap.push PySem.W.emptyDict).push (PySem.W.instObj C s.heap.objs.size)).get? (s.heap.objs.size+1)=some (PySem.W.instObj C s.heap.objs.size):=by
  have:=aaj (s.heap.push PySem.W.emptyDict) (o:=PySem.W.instObj C s.heap.objs.size) rfl;rwa[aaU] at this
 have e3:(s.heap.push PySem.W.emptyDict).Ns s.heap.objs.size (λ_=>none):=⟨PySem.W.emptyDict,#[],_,e1,rfl,(λe he=>absurd he (by simp)),λ_=>rfl⟩;have I1:=I.laid (a:=s.heap.objs.size) (o:= .own (s.heap.objs.size+1)) (h':=s.heap.push PySem.W.emptyDict) (t':=s.toks) (λb u q=>aad _ q) (aag _) ⟨_,e1⟩;refine I1.laid (a:=s.heap.objs.size+1) (o:= .ins C s.heap.objs.size []) (t':=s.toks) (λb u q=>aad _ q) (ac8 (aaU _ _)) ?_;have ne:s.heap.objs.size≠s.heap.objs.size+1:=aaw (ab8 _);refine⟨by rw[aq ne,ao],aaV _,ne,e2,λ_=>none,(Heap.Ns1.of_empty e3).at λo q=>aad _ q,λ_=>True.intro,λy hy=>absurd rfl hy⟩
theorem BO {w:World} {env:Env} {e:Expr} {f:Str} {s:Shared} {Q:Value->Shared->Prop} (hb:attributeBase e f env (eval e env)=eval e env)
  (h:wpAny (model prog w) A (eval e env) (λo s₁=>wpAny (model prog w) A (getAttr o f true) Q E s₁) E s):wpAny (model prog w) A (eval (.Attribute e f pos) env) Q E s:=
 Attribute_any_ h (by rw[arm_eval_Attribute,hb])
end
def Kf (K:PySem.W.Frag) (ta:TE) (f:Str):TE:=λσ H Q=>ta σ H λx H1=>∃a C dx fs v,x= .ref a/\H1 a=some (.ins C dx fs)/\Cls K C/\dW K C f/\fs.lookup f=some v/\Q v H1
def JZ (K:PySem.W.Frag) (ta tv:TE) (f:Str):TS:=λD σ H=>tv σ H λy H1=>ta σ H1 λx H2=>∃a C dx fs,x= .ref a/\H2 a=some (.ins C dx fs)/\Cls K C/\dW K C f/\fs.length<1000/\
 D.nx σ (upd H2 a (.ins C dx (aQ f y fs)))
section
variable {X:Cx} {o e value:Expr} {f:Str} {pos pos' tpos:Pos} {ta tv:TE}
theorem FL (he:PE X e ta) (hb:attributeBase e f X.env (eval e X.env)=eval e X.env):PE X (.Attribute e f pos) (Kf X.K ta f):=by
 intro pins s σ H Q I h;refine BO hb (ay (he pins s σ H _ I h) λu s1 z902=> ?_);let⟨x,H1,I1,rx,a,C,dx,fs,v,ex,ea,c,n,l,q⟩:=z902;subst ex;obtain rfl:u=Value.ref a:=rx;exact uO I1 ea c n l λu' s2 I2 ru=>⟨v,H1,I2,ru,q⟩
theorem Fh (ha:PE X o ta) (hv:PE X value tv) (hs:swapsWith value (some (.Attribute o f pos')) pos.line X.env=pure false):PS X (.Assign [.Attribute o f pos'] value pos) (JZ X.K ta tv f):=by
 intro pins s σ H D I h;refine plainObj_wpAny_Assign_Attribute (ay (hv pins s σ H _ I h) λu s1 zq3=> ?_) hs;let⟨y,H1,I1,ry,q⟩:=zq3;refine ay (ha pins s1 σ H1 _ I1 q) λov s2 zq4=> ?_;let⟨x,H2,I2,rx,a,C,dx,fs,ex,ea,c,n,l,q2⟩:=zq4;subst ex;obtain rfl:ov=Value.ref a:=rx;exact uM I2 ea c n l ry λs3 I3=>⟨σ,_,I3,q2⟩
end
section
variable {X:Cx} {pins:List (Addr×Obj)} {σ:St} {H:Hp} {s:Shared} {A:Around} {E:Value->Shared->Prop} {Q:Value->Shared->Prop} {c:Value} {b:Bool}
inductive eI (K:PySem.W.Frag) (H:Hp):V->Value->Prop where
 |non:eI K H .non (.type "NoneType")
 |bl (x:Bool):eI K H (.bl x) (.type "bool")
 |int (i:Int):eI K H (.int i) (.type "int")
 |str (x:Str):eI K H (.str x) (.type "str")
 |flt (x:UInt64):eI K H (.flt x) (.type "float")
 |lst {a:Addr} {xs:List V} (e:H a=some (.lst xs)):eI K H (.ref a) (.type "list")
 |aB {a:Addr} {o:Obj} {xs:List V} (e:H a=some (.aB o (.lst xs))):eI K H (.ref a) (.type "list")
 |tup {a:Addr} {xs:List V} (e:H a=some (.tup xs)):eI K H (.ref a) (.type "tuple")
 |dK {a:Addr} {kvs:List (Key×V)} (e:H a=some (.dK kvs)):eI K H (.ref a) (.type "dict")
 |dT {a:Addr} {kvs:List (List Key×V)} (e:H a=some (.dT kvs)):eI K H (.ref a) (.type "dict")
 |ins {a C dx:Addr} {fs:List (Str×V)} (e:H a=some (.ins C dx fs)) (cl:Cls K C) (ha:PySem.W.findIn K (.ref C) "__class__"=some (some (.builtin "object.__class__")))
  (hn:PySem.W.specialIn K (.builtin "object.__class__") "__get__"=some (some (.builtin "getset_descriptor.__get__"))) (htk:PySem.W.takesIn K (.builtin "object.__class__")=some true)
  (hm:PySem.W.mroIn K C (.type "object")=some true):eI K H (.ref a) (.ref C)
theorem xC {x:V} {u t:Value} (I:Inv X pins σ H s) (rx:RelV x u) (ty:eI X.K H x t) (e:PySem.W.kitOne X.K t c=some b) (h:∀tk,Q (.bool b) {s with toks:=tk}):
  wpAny (model X.prog X.w) A (call (.builtin "isinstance") [u,c]) Q E s:=by
 cases ty with
 |non=>cases (show u=Value.none from rx);exact aaM PySem.W.kitx_none I.bX True.intro e (λz=>nomatch z) h
 |bl y=>cases (show u=Value.bool y from rx);exact aaM PySem.W.kitx_bool I.bX True.intro e (λz=>nomatch z) h
 |int i=>let⟨t,q⟩:=(show∃t,u=Value.int i t from rx);cases q;exact aaM PySem.W.kitx_int I.bX True.intro e (λz=>nomatch z) h
 |str y=>let⟨t,q⟩:=(show∃t,u=Value.str y t from rx);cases q;exact aaM PySem.W.kitx_str I.bX True.intro e (λz=>nomatch z) h
 |flt y=>let⟨t,q⟩:=(show∃t,u=Value.float y t from rx);cases q;exact aaM PySem.W.kitx_float I.bX True.intro e (λz=>nomatch z) h
 | @lst a xs ea=>
  cases (show u=Value.ref a from rx);let⟨_,_,n,_,h1⟩:=(show aI X.prog X.w H s.heap a (.lst xs) from I.af a _ ea);exact aaM ac0 I.bX ⟨_,h1,rfl⟩ e (λz=>nomatch z) h
 | @aB a ob xs ea=>
  cases (show u=Value.ref a from rx);let⟨_,_,_,n,_,h1⟩:=(show aI X.prog X.w H s.heap a (.aB ob (.lst xs)) from I.af a _ ea);exact aaM ac0 I.bX ⟨_,h1,rfl⟩ e (λz=>nomatch z) h
 | @tup a xs ea=>
  cases (show u=Value.ref a from rx);let⟨_,_,_,p⟩:=(show aI X.prog X.w H s.heap a (.tup xs) from I.af a _ ea);let⟨o,h1,h2,_⟩:=p;exact aaM PySem.W.kitx_tuple I.bX ⟨o,h1,h2⟩ e (λz=>nomatch z) h
 | @dK a kvs ea=>
  cases (show u=Value.ref a from rx);let⟨_,_,vs,_,p⟩:=(show aI X.prog X.w H s.heap a (.dK kvs) from I.af a _ ea);let⟨o,es,ep,h1,h2,_⟩:=p;exact aaM acq I.bX ⟨o,h1,h2.1⟩ e (λz=>nomatch z) h
 | @dT a kvs ea=>
  cases (show u=Value.ref a from rx);let⟨_,_,xs,_,o,es,ep,h1,h2,_⟩:=(show aI X.prog X.w H s.heap a (.dT kvs) from I.af a _ ea);exact aaM acq I.bX ⟨o,h1,h2.1⟩ e (λz=>nomatch z) h
 | @ins a C dx fs ea cl ha hn htk hm=>
  cases (show u=Value.ref a from rx);let⟨mA,O,_⟩:=nv I.af ea;let⟨od,J,_⟩:=O.look;exact aaM (PySem.W.kitx_own (cl.get _) cl.hd ha hn htk hm) I.bX J e (λz=>nomatch z) h
end
structure Room (k:Nat) (A:Around):Prop where
 hd:A.handled=none
 dp:A.depth+3*k+5<recursionLimit
 un:A.units+16*k+200<cLine
theorem Room.mono {j k:Nat} {A:Around} (r:Room k A) (h:j<=k):Room j A:=⟨r.hd,by have:=r.dp;lia,by have:=r.un;lia⟩
theorem Room.deeper {k:Nat} {A:Around} (r:Room (k+1) A) (env:Env):Room k (A.deeper env):=
 ⟨r.hd,by have:=r.dp;show A.depth+1+3*k+5<_;lia,by have:=r.un;show A.units+3+16*k+200<_;lia⟩
theorem Room.in1 {k:Nat} {A:Around} (r:Room (k+1) A):Room k A.in1:=
 ⟨r.hd,by have:=r.dp;show A.depth+3*k+5<_;lia,by have:=r.un;show A.units+1+16*k+200<_;lia⟩
theorem uA {A:Around} {C:Addr} {us:List Value} {kw:List (Str×Value)}:(A.under (.builtin "type.__call__" ⟨.ref C::us,kw⟩)).depth=A.depth+1:=by
 first|rfl|simp[Around.under,Code.weight,Code.isCreation,Code.isGuard,Code.isCaller,Code.frames,Code.isFrame,guardIds]
theorem uE {A:Around} {C:Addr} {us:List Value} {kw:List (Str×Value)}:(A.under (.builtin "type.__call__" ⟨.ref C::us,kw⟩)).units=A.units+1:=by
 first|rfl|simp[Around.under,Code.cUnits,Code.frames,Code.isFrame]
theorem Room.make {k:Nat} {A:Around} (r:Room (k+1) A) (C:Addr) (us:List Value) (kw:List (Str×Value)):Room k (A.under (.builtin "type.__call__" ⟨.ref C::us,kw⟩)):=
 ⟨r.hd,by have:=r.dp;rw[uA];lia,by have:=r.un;rw[uE];lia⟩
theorem Room.depth {k:Nat} {A:Around} (r:Room k A):A.depth<recursionLimit:=by have:=r.dp;lia
def uL:TA:=λ_ H Q=>Q [] H
def pI (ta:TE) (tr:TA):TA:=λσ H Q=>ta σ H λx H1=>tr σ H1 λxs H2=>Q (x::xs) H2
section
variable {X:Cx} {e:Expr} {es:List Expr} {te:TE} {t:TA} {pos:Pos}
theorem jw:PA X [] uL:=λ_ _ _ _ H Q I h=>ac1 ⟨[],H,I, .nil,h⟩
theorem fE (ha:PE X e te) (hr:PA X es t) (hs:starEach (e::es) X.env=(false,eval e X.env)::starEach es X.env:=by rfl):PA X (e::es) (pI te t):=by
 intro pos pins s σ H Q I h;rw[hs];show wpAny _ _ (spliced ((false,eval e X.env)::backTo pos (starEach es X.env))) _ _ s;refine aci (ay (ha pins s σ H _ I h) λu s1 z902=> ?_);let⟨x,H1,I1,r1,q1⟩:=z902
 exact ay (hr pos pins s1 σ H1 _ I1 q1) λus s2 z902=>by let⟨xs,H2,I2,r2,q2⟩:=z902;exact⟨x::xs,H2,I2, .cons r1 r2,q2⟩
def J6 (t:TA):TE:=λσ H Q=>t σ H λxs H1=>xs.length<=sizeLine/\∀p,H1 p=none->Q (.ref p) (upd H1 p (.tup xs))
def Jl (t:TA):TE:=λσ H Q=>t σ H λxs H1=>xs.length<=sizeLine/\∀p,H1 p=none->Q (.ref p) (upd H1 p (.lst xs))
theorem Eo {x1} (h:PA X es t):PE X (.Tuple es x1 pos) (J6 t):=by
 intro pins s σ H Q I hq;refine wpAny_Tuple_spliced (ay (h pos pins s σ H _ I hq) λus s1 zq5=> ?_);let⟨xs,H1,I1,r,z,q⟩:=zq5;refine⟨by rw[←r.length];exact z, ?_⟩;have hf:H1 s1.heap.objs.size=none:=I1.af.fresh (aag _);refine⟨.ref s1.heap.objs.size,upd H1 s1.heap.objs.size (.tup xs),I1.laid (t':=s1.toks) (λb u e=>aad _ e) (aag _) ?_,rfl,q _ hf⟩;exact⟨z,us,r,⟨_,aaj _ rfl,rfl,_,rfl⟩⟩
theorem CW (h:PA X es t):PE X (.List es pos) (Jl t):=by
 intro pins s σ H Q I hq;refine wpAny_List_spliced (ay (h pos pins s σ H _ I hq) λus s1 zq6=> ?_);let⟨xs,H1,I1,r,z,q⟩:=zq6;refine⟨by rw[←r.length];exact z, ?_⟩;have hf:H1 s1.heap.objs.size=none:=I1.af.fresh (aag _);refine⟨.ref s1.heap.objs.size,upd H1 s1.heap.objs.size (.lst xs),I1.laid (t':=s1.toks) (λb u e=>aad _ e) (aag _) ?_,rfl,q _ hf⟩;exact⟨z,us,0,r,aaj _ rfl⟩
end
abbrev Sp:=List V->Hp->VK->XK->Prop
abbrev kF:=List Env->Hp->Shared->XK->Value->Shared->Prop
structure Env0 (P:Program) (w:World) (K:PySem.W.Frag) (mg:Str->Option Value) (base:Heap) (A:Around) (outer:List Env) (s:Shared) (H:Hp):Prop where
 frames:A.frames=some outer
 mod:Mod K mg base
 bs:∀b o,base.get? b=some o->s.heap.get? b=some o/\H b=none
 bsz:base.objs.size<=s.heap.objs.size
 cR:s.heap.FunFrames base outer
 frf:∀b∈cB outer,H b=none
 af:bq P w H s.heap
 bare:AllBare s.gens
def CE (outer:List Env) (P:Program) (w:World) (H:Hp) (s:Shared) (Q:VK) (u:Value) (s':Shared):Prop:=
 ∃v H',s'.os=s.os/\AllBare s'.gens/\Un (cB outer) [] H H' s.heap s'.heap/\bq P w H' s'.heap/\RelV v u/\Q v H'
def CR (CX:kF) (outer:List Env) (P:Program) (w:World) (H:Hp) (s:Shared) (Q:VK) (E:XK) (r:Result) (s':Shared):Prop:=
 match r with
 | .ok (.ret u)=>CE outer P w H s Q u s'
 | .ok _=>False
 | .error e=>CX outer H s E e s'
structure FnOk (P:Program) (w:World) (K:PySem.W.Frag) (mg:Str->Option Value) (base:Heap) (CX:kF) (k:Nat) (f:Addr) (fd:FuncData) (ps:List Str) (sp:Sp):Prop where
 len:∀vs H Q E,sp vs H Q E->vs.length=ps.length
 run:∀(A:Around) (outer:List Env) (s:Shared) (H:Hp) (args:Args) (us:List Value) (vs:List V) (Q:VK) (E:XK),Room k A->Env0 P w K mg base A outer s H->BindsTo s fd args (ps.zip us)->Vals vs us->sp vs H Q E->
  codeAny (model P w) A (.call (.ref f) args) (CR CX outer P w H s Q E) s
theorem Env0.make {P:Program} {w:World} {K:PySem.W.Frag} {mg:Str->Option Value} {A:Around} {outer:List Env} {s:Shared} {H:Hp} (e:Env0 P w K mg base A outer s H) (C:Addr) (us:List Value) (kw:List (Str×Value)):
  Env0 P w K mg base (A.under (.builtin "type.__call__" ⟨.ref C::us,kw⟩)) outer s H:=⟨by first|exact e.frames|(simpa[Around.under,Code.envs,Code.isFrame,pushEnvs] using e.frames),e.mod,e.bs,e.bsz,e.cR,e.frf,e.af,e.bare⟩
theorem Env0.in1 {P:Program} {w:World} {K:PySem.W.Frag} {mg:Str->Option Value} {A:Around} {outer:List Env} {s:Shared} {H:Hp} (e:Env0 P w K mg base A outer s H):
  Env0 P w K mg base A.in1 outer s H:=⟨e.frames,e.mod,e.bs,e.bsz,e.cR,e.frf,e.af,e.bare⟩
section
variable {X:Cx} {pins:List (Addr×Obj)} {σ:St} {H:Hp} {s s':Shared}
theorem Inv.zw (I:Inv X pins σ H s):Env0 X.prog X.w X.K X.mg X.base X.A X.stack s H:=
 ⟨I.ok.frames,I.ok.mod,I.bs,aaJ I.ok.bsz I.sz,I.stack,I.jX,I.af,I.bare⟩
theorem Inv.after {Q:VK} {u:Value} (I:Inv X pins σ H s) (h:CE X.stack X.prog X.w H s Q u s'):EP X pins σ Q u s':=by
 let⟨v,H',os,bare,un,af,r,q⟩:=h;let⟨hh,g,d,t,os'⟩:=s';obtain rfl:os'=s.os:=os;exact⟨v,H',I.call (h':=hh) (g':=g) (d':=d) (t':=t) (ch:=[]) un af bare (λb z=>absurd z (by simp)),r,q⟩
end
def Binds (K:PySem.W.Frag) (fd:FuncData) (ps:List Str) (ds:List Value):Prop:=
 ∀(s:Shared) (us:List Value),K.In s.heap->(us++ds).length=ps.length->BindsTo s fd ⟨us,[]⟩ (ps.zip (us++ds))
theorem Binds.all {K:PySem.W.Frag} {ps:List Str} (h:∀us:List Value,us.length=ps.length->bindArgs fd ⟨us,[]⟩=pure (ps.zip us)):Binds K fd ps []:=λs us _ hl=>by
 rw[abj] at hl⊢;exact .of_eq (h us hl)
section
variable {X:Cx} {CX:kF} {k:Nat} {f C:Addr} {fd:FuncData} {ps:List Str} {sp:Sp} {dvs:List V} {ds:List Value} {E:XK} {x m:Str} {p pos apos:Pos} {e o:Expr} {es:List Expr} {ta:TE} {t:TA}
structure Mk (K:PySem.W.Frag) (C f:Addr):Prop where
 makes:PySem.W.makesIn K C=true
 init:PySem.W.findIn K (.ref C) "__init__"=some (some (.ref f))
 fn:PySem.W.isFn K (.ref f)=true
 kp:PySem.W.keepIn K (.ref C)=true
end
def PK (X:Cx) (kws:List Keyword) (t:TA):Prop:=
 ∀(pos:Pos) (pins:List (Addr×Obj)) (s:Shared) (σ:St) (H:Hp) (Q:List V->Hp->Prop),Inv X pins σ H s->t σ H Q->wpAny (model X.prog X.w) X.A (evalAll ((backToKw pos (keywordEach kws X.env)).map (·.2))) (AP X pins σ Q) X.xe s
section
variable {X:Cx} {CX:kF} {k:Nat} {f C:Addr} {fd:FuncData} {ps ks:List Str} {sp:Sp} {E:XK} {x m:Str} {p pos apos kpos:Pos} {e o:Expr} {es:List Expr} {kws:List Keyword} {te ta:TE} {t tk:TA} {nm:Option Str}
theorem xI:PK X [] uL:=λ_ _ _ _ H Q I h=>wpAny_evalAll_nil ⟨[],H,I, .nil,h⟩
theorem tM (ha:PE X e te) (hr:PK X kws t):PK X (⟨nm,e,kpos⟩::kws) (pI te t):=by
 intro pos pins s σ H Q I h
 show wpAny _ _ (evalAll ((do let v←eval e X.env;standAt pos;pure v)::(backToKw pos (keywordEach kws X.env)).map (·.2))) _ _ s
 refine wpAny_evalAll_cons (aaa (ay (ha pins s σ H _ I h) λu s1 zq7=> ?_));let⟨x,H1,I1,r1,q1⟩:=zq7;refine aaa (acY (aaf ?_))
 exact ay (hr pos pins s1 σ H1 _ I1 q1) λus s2 z902=>by let⟨xs,H2,I2,r2,q2⟩:=z902;exact⟨x::xs,H2,I2, .cons r1 r2,q2⟩
structure KBinds (K:PySem.W.Frag) (fd:FuncData) (ps ks:List Str) (g:List Value->List Value->List Value) (gV:List V->List V->List V):Prop where
 to:∀(s:Shared) (us ws:List Value),K.In s.heap->(g us ws).length=ps.length->BindsTo s fd ⟨us,ks.zip ws⟩ (ps.zip (g us ws))
 rel:∀{vs:List V} {us:List Value} {zs:List V} {ws:List Value},Vals vs us->Vals zs ws->Vals (gV vs zs) (g us ws)
variable {g:List Value->List Value->List Value} {gV:List V->List V->List V}
end
structure FnScope (N P:List Str) (sc:Scope):Prop where
 kind:sc.kind= .function
 co:sc.isCoroutine=false
 gen:sc.isGenerator=false
 nd:N.Nodup
 pre:N.take P.length=P
 par:∀x∈P,sc.names.lookup x=some .local∨sc.names.lookup x=some .cell
 nofree:∀y∈sc.names,y.2≠ .free
theorem ot {kindOf:Str->Option NameKind} {x:Str}:∀{binds:List (Str×Value)} {m:Str->Option Value},(∀v,(x,v)∉binds)->bindL kindOf binds m x=m x
 |[],_,_=>rfl
 |(n,v)::r,m,h=>by
  unfold bindL;rw[ot λw hw=>h w (aaq _ hw)];split
  ·have:x≠n:=by rintro rfl;exact h v aaB
   simp[this]
  ·rfl
theorem oh {kindOf:Str->Option NameKind} {x:Str}:∀{binds:List (Str×Value)} {m:Str->Option Value},(∀v,(x,v)∉binds)->bindC kindOf binds m x=m x
 |[],_,_=>rfl
 |(n,v)::r,m,h=>by
  unfold bindC;rw[oh λw hw=>h w (aaq _ hw)];split
  ·rfl
  ·have:x≠n:=by rintro rfl;exact h v aaB
   simp[this]
theorem oP {kindOf:Str->Option NameKind} {x:Str} {v:Value}:∀{P:List Str} {vs:List Value} {i:Nat} {m:Str->Option Value},P.Nodup->P[i]?=some x->vs[i]?=some v->kindOf x=some .local->
  bindL kindOf (P.zip vs) m x=some v
 |[],_,_,_,_,h,_,_=>by simp at h
 |_::_,[],_,_,_,_,h,_=>by simp at h
 |p::P,w::vs,0,m,nd,h1,h2,hk=>by
  simp at h1 h2;subst h1;subst h2;show bindL kindOf ((p,w)::P.zip vs) m p=_;unfold bindL;rw[ot λv hv=>(abk.mp nd).1 (adf hv).1,if_pos hk];simp
 |p::P,w::vs,i+1,m,nd,h1,h2,hk=>by
  show bindL kindOf ((p,w)::P.zip vs) m x=_;unfold bindL;exact oP (i:=i) (abk.mp nd).2 (by simpa using h1) (by simpa using h2) hk
theorem nN {kindOf:Str->Option NameKind} {x:Str} {v:Value}:∀{P:List Str} {vs:List Value} {i:Nat} {m:Str->Option Value},P.Nodup->P[i]?=some x->vs[i]?=some v->kindOf x≠some .local->
  bindC kindOf (P.zip vs) m x=some v
 |[],_,_,_,_,h,_,_=>by simp at h
 |_::_,[],_,_,_,_,h,_=>by simp at h
 |p::P,w::vs,0,m,nd,h1,h2,hk=>by
  simp at h1 h2;subst h1;subst h2;show bindC kindOf ((p,w)::P.zip vs) m p=_;unfold bindC;rw[oh λv hv=>(abk.mp nd).1 (adf hv).1,if_neg hk];simp
 |p::P,w::vs,i+1,m,nd,h1,h2,hk=>by
  show bindC kindOf ((p,w)::P.zip vs) m x=_;unfold bindC;exact nN (i:=i) (abk.mp nd).2 (by simpa using h1) (by simpa using h2) hk
noncomputable def start (N:List Str) (vs:List V):St:=vs.map some++List.replicate (N.length-vs.length) none
noncomputable def nM (CX:kF) (P:Program) (w:World) (K:PySem.W.Frag) (mg:Str->Option Value) (base:Heap) (N:List Str) (qual:Str) (scope:Scope) (f:Addr) (cd:Value) (A:Around) (outer:List Env) (s:Shared) (H:Hp) (E:XK):Cx where
 prog:=P
 w:=w
 K:=K
 mg:=mg
 base:=base
 A:=A.deeper (envOfC qual scope s.heap.objs.size f cd)
 N:=N
 s₀:=s
 H₀:=H
 env:=envOfC qual scope s.heap.objs.size f cd
 outer:=outer
 stack:=envOfC qual scope s.heap.objs.size f cd::outer
 ex:=[]
 calm:=true
 fn:=λ_=>true
 pn:=[]
 xe:=λe s'=>wpAny (model P w) (A.deeper (envOfC qual scope s.heap.objs.size f cd)) (leaving (envOfC qual scope s.heap.objs.size f cd) e) (λ_ s''=>CX outer H s E e s'') (λe' s''=>CX outer H s E e' s'') s'
theorem qT {sc:Scope} {n:Nat} {x:Str} (h:sc.names.lookup x=some .cell):∃c,(cellsFrom n sc.names []).lookup x=some c:=by
 have q:=PySem.W.cellsFrom_some sc.names n [] (.inl h);exact aa4.mp q
theorem xw {CX:kF} {P:Program} {w:World} {K:PySem.W.Frag} {mg:Str->Option Value} {N ps:List Str} {qual:Str} {scope:Scope} {f:Addr} {cd:Value} {A:Around} {outer:List Env} {s:Shared} {H:Hp} {E:XK} {us:List Value} {vs:List V}
  (S:FnScope N ps scope) (hd:A.handled=none) (e0:Env0 P w K mg base A outer s H) (hl:vs.length=ps.length) (r:Vals vs us)
  (x:InCallC s s.heap.objs.size (bindL (envOfC qual scope s.heap.objs.size f cd).kindOf (ps.zip us) λ_=>none) (cellsFrom (s.heap.objs.size+1) scope.names []) (bindC (envOfC qual scope s.heap.objs.size f cd).kindOf (ps.zip us) λ_=>none) s1):
  Inv (nM CX P w K mg base N qual scope f cd A outer s H E) [] (start N vs) H s1:=by
 have hpl:ps.length<=N.length:=by have:=congrArg List.length S.pre;rw[abb] at this;lia
 let⟨h1,tk,rfl,hk⟩:=x.done;have noA:∀b:Addr,b∉(nM CX P w K mg base N qual scope f cd A outer s H E).ex:=λb z=>absurd (show b∈([]:List Addr) from z) (by simp)
 refine⟨⟨e0.mod,S.kind,rfl,rfl,aag _,λy z c h1 h2=> ?_,λy hy=> ?_,λy c _ h=> ?_,λ_=>hd,Around.frames_deeper e0.frames, .inr ⟨rfl,rfl⟩,λb z=>absurd z (noA b),e0.bs,e0.bsz,λb _ _=>noA b,λb z=>absurd z (noA b),e0.cR,e0.frf⟩,
  rfl,e0.bare,Un.kept hk,⟨_,x.toInCall.ns,λi y v h1 h2 h3=> ?_⟩,λy c h=>⟨_,x.cell y c h⟩,e0.af.fresh (aag _),λy c h=> ?_,λp hp=>absurd (show p∈([]:List (Addr×Obj)) from hp) (by simp),e0.af.kept hk, ?_⟩
 ·exact name_of_addr x.apart (aaH h1) (aaH h2)
 ·have hy:scope.names.lookup y=some .cell∨scope.names.lookup y=some .free:=hy
  rcases hy with hy|hy
  ·exact qT hy
  ·exact absurd rfl (S.nofree _ (aaH hy))
 ·exact abI (x.above y c (aaH h))
 ·have hi:i<vs.length:=by
   unfold start at h2
   by_cases hi:i<vs.length
   ·exact hi
   ·rw[aan (by simpa using hi)] at h2;rw[abW] at h2;split at h2<;>cases h2
  have ha:vs[i]?=some v:=by
   unfold start at h2;rw[aal (by simpa using hi),aaO] at h2
   cases e:vs[i]? with
   |none=>rw[e] at h2;cases h2
   |some a=>rw[e] at h2;cases h2;rfl
  let⟨u,hu,rv⟩:=r.get ha
  have hp:ps[i]?=some y:=by
   rw[←S.pre,aa5 (by lia)];exact h1
  have ndP:ps.Nodup:=by rw[←S.pre];exact S.nd.sublist (List.take_sublist _ _)
  refine⟨u,rv, ?_⟩
  rcases S.par y (aas hp) with k|k
  ·exact .inl ⟨k,oP ndP hp hu k⟩
  ·let⟨c,e⟩:=qT (n:=s.heap.objs.size+1) k;refine .inr ⟨.inl k,c,e, ?_⟩;have q:=x.cell y c e;rw[nN ndP hp hu (by show scope.names.lookup y≠_;rw[k];decide)] at q;exact q
 ·exact e0.af.fresh (abI (x.above y c (aaH h)))
 ·unfold start;show _=N.length;rw[aaY,aay,List.length_replicate];lia
theorem GD {CX:kF} {P:Program} {w:World} {K:PySem.W.Frag} {mg:Str->Option Value} {k:Nat} {f:Addr} {name qual:Str} {params:Arguments} {dV kV doc pm cdv ct oc:Value} {an od:Option Addr}
  {osl:Array (Option Value)} {N ps:List Str} {sp:Sp} (lk:K.lookup f=some ⟨oc,od, .func (PySem.W.fnOf name qual params body scope dV kV doc pm an cdv ct),osl⟩) (hcd:PySem.W.codeIn K cdv qual=true) (S:FnScope N ps scope)
  (len:∀vs H Q E,sp vs H Q E->vs.length=ps.length)
  (hbody:∀(A:Around) (outer:List Env) (s:Shared) (H:Hp) (vs:List V) (Q:VK) (E:XK),Room k (A.deeper (envOfC qual scope s.heap.objs.size f cdv))->sp vs H Q E->
   ∃t,dB (nM CX P w K mg base N qual scope f cdv A outer s H E) body t/\t {nx:=λ_ H'=>Q .non H',rt:=Q} (start N vs) H):
  FnOk P w K mg base CX (k+1) f (PySem.W.fnOf name qual params body scope dV kV doc pm an cdv ct) ps sp:=by
 refine⟨len,λA outer s H args us vs Q E hr e0 hb r hsp=> ?_⟩;have hl:=len _ _ _ _ hsp;have KX:K.In s.heap:=e0.mod.kin.keeps λb o e=>(e0.bs b o e).1;have lim:s.heap.NoLimit:=e0.mod.nolimit.keeps λb o e=>(e0.bs b o e).1
 have hkind:∀y∈ps.zip us,scope.names.lookup y.1=some .local∨(scope.names.lookup y.1=some .cell/\((cellsFrom (s.heap.objs.size+1) scope.names []).lookup y.1).isSome=true):=λz900 hy=>by
  let⟨n,v⟩:=z900
  rcases S.par n (adf hy).1 with q|q
  ·exact .inl q
  ·exact .inr ⟨q,PySem.W.cellsFrom_some _ _ _ (.inl q)⟩
 refine codeAny_call_function hr.depth (KX _ _ lk) rfl S.co S.gen rfl (PySem.W.codeRec_of KX hcd) (hb _ _ _ _ ?_);refine wpAny_newFunctionEnv_cells S.kind hkind λenv he s1 x=> ?_;subst he;refine⟨lim.keeps x.toInCall.keep,codeAny_func ?_⟩;let⟨t,ht,hq⟩:=hbody A outer s H vs Q E (hr.deeper _) hsp;have I:Inv (nM CX P w K mg base N qual scope f cdv A outer s H E) [] (start N vs) H s1:=xw S hr.hd e0 hl r x;refine aa2 (ht [] s1 (start N vs) H _ I hq) (λfl s' hs=> ?_) λe s' hs=>hs
 have fin:∀{σ':St} {H':Hp} {v:V} {u:Value},Inv (nM CX P w K mg base N qual scope f cdv A outer s H E) [] σ' H' s'->RelV v u->Q v H'->CE outer P w H s Q u s':=
  λ{σ' H' v u} J rv q=>⟨v,H',J.os,J.bare,J.base,J.af,rv,q⟩
 cases fl with
 |ret u=>
  let⟨v,σ',H',J,rv,q⟩:=hs;exact fin J rv q
 |next=>
  let⟨σ',H',J,q⟩:=hs;exact fin (v:=V.non) (u:=Value.none) J rfl q
 |brk=>
  let⟨_,_,_,q⟩:=hs;exact False.elim q
 |cont=>
  let⟨_,_,_,q⟩:=hs;exact False.elim q
section
variable {X:Cx} {x:Str} {p pos:Pos} {e:Expr} {es:List Expr} {t:TA} {id T:String} {r:List V->Hp->VK->Prop}
def tCB (r:List V->Hp->VK->Prop) (t:TA):TE:=λσ H Q=>t σ H λvs H1=>r vs H1 Q
theorem qh (hc:au X (.builtin id) r) (hg:Gl X x) (hm:X.mg x=none) (hv:bootBuiltins x=some (.builtin id)) (ha:PA X (e::es) t) (hn:x≠"__name__":=by decide) (hdb:(x==("__debug__":Str))=false:=by decide)
  (he:starEach (e::es) X.env=(false,eval e X.env)::starEach es X.env:=by rfl) (hpl:(backTo pos (starEach es X.env)).any (·.1)=false:=by rfl):PE X (.Call (.Name x p) (e::es) [] pos) (tCB r t):=by
 intro pins s σ H Q I h;refine abd (fZ I hg hm hv ?_ hn hdb);exact PyProof.Rows.callWith_builtin1 (ay (ha pos pins s σ H _ I h) λus s1 z902=>by let⟨vs,H1,I1,r1,q1⟩:=z902;exact hc pins s1 σ H1 vs us Q I1 r1 q1) he hpl
theorem nP (hc:au X (.type T) r) (hg:Gl X x) (hm:X.mg x=none) (hv:bootBuiltins x=some (.type T)) (ha:PA X (e::es) t) (hn:x≠"__name__":=by decide) (hdb:(x==("__debug__":Str))=false:=by decide)
  (he:starEach (e::es) X.env=(false,eval e X.env)::starEach es X.env:=by rfl) (hpl:(backTo pos (starEach es X.env)).any (·.1)=false:=by rfl):PE X (.Call (.Name x p) (e::es) [] pos) (tCB r t):=by
 intro pins s σ H Q I h;refine abd (fZ I hg hm hv ?_ hn hdb);exact ab7 (ay (ha pos pins s σ H _ I h) λus s1 z902=>by let⟨vs,H1,I1,r1,q1⟩:=z902;exact hc pins s1 σ H1 vs us Q I1 r1 q1) he hpl
end
end L2
namespace HT
open PySem PyProof.Rows
noncomputable def lexLt:List Int->List Int->Bool
 |[],[]=>false
 |[],_::_=>true
 |_::_,[]=>false
 |x::xs,y::ys=>if x=y then lexLt xs ys else decide (x<y)
theorem eD (x y:Int) (xs ys:List Int):lexLt (x::xs) (y::ys)=if x=y then lexLt xs ys else decide (x<y):=rfl
section
open PySem.SeqAt
open PySem.AutoSeq1 (wpAny_loadPart')
open PySem.MeetsSeq PySem.MeetsSeq2 PySem.MeetsSeq3
end
section
variable {prog:Program} {w:World} {A:Around} {E:Value->Shared->Prop} {s:Shared}
theorem Br {t b:Addr} {vs ws:List Value} {Q:Value->Shared->Prop} (ht:IsTup s.heap t vs.toArray) (hb:IsTup s.heap b ws.toArray) (hv:vs≠[])
  (h1:ws=[]->Q (.ref t) s) (h2:ws≠[]->Q (.ref s.heap.objs.size) {s with heap:=s.heap.push {cls:= .type "tuple",data:= .seq (vs++ws).toArray}})
  (hsz:vs.length+ws.length<=sizeLine):wpAny (model prog w) A (binaryOp .Add (.ref t) (.ref b)) Q E s:=by
 let⟨⟨cls,dd,data,sl⟩,ho,hc,n,hd⟩:=id ht;let⟨⟨cls2,dd2,data2,sl2⟩,ho2,hc2,n2,hd2⟩:=id hb;simp only at hc hd hc2 hd2;subst hc hd hc2 hd2
 have e:vs.toArray++ws.toArray=(vs++ws).toArray:=by simp
 by_cases hw:ws=[]
 ·exact concat_meets ⟨_,ho,rfl⟩ ⟨_,ho2,rfl⟩ noFill_tuple_add seq_tuple_add PySem.F.slot_tuple_add PySem.F.entry_tuple_add (PySem.F.args_tuple_add_2 _ _)
   (tuple_addW1 t b vs.toArray ws.toArray n n2 dd dd2 sl sl2 (by simpa using hv) (by simp[hw])) ⟨ho,ho2,h1 hw⟩
 ·refine concat_meets ⟨_,ho,rfl⟩ ⟨_,ho2,rfl⟩ noFill_tuple_add seq_tuple_add PySem.F.slot_tuple_add PySem.F.entry_tuple_add (PySem.F.args_tuple_add_2 _ _)
   (tuple_addW2 t b vs.toArray ws.toArray n n2 dd dd2 sl sl2 (by simpa using hv) (by simpa using hw) (by rw[aak,aak];exact hsz)) ⟨ho,ho2, ?_⟩
  rw[e];exact h2 hw
noncomputable def aR (n d:Nat):Option Int->Nat
 |none=>d
 |some v=>if v<0 then (v+(n:Int)).toNat else min v.toNat n
theorem Dq (n d:Nat) (hd:d<=n) (o:Option Int):aR n d o<=n:=by
 cases o with
 |none=>exact hd
 |some v=>
  show (if v<0 then (v+(n:Int)).toNat else min v.toNat n)<=n
  by_cases hv:v<0
  ·rw[if_pos hv];lia
  ·rw[if_neg hv];exact Nat.min_le_right _ _
theorem sC (v:Int) (n d:Nat):(if v<0 then max (v+(n:Int)) 0 else min v (n:Int))=((aR n d (some v):Nat):Int):=by
 show (if v<0 then max (v+(n:Int)) 0 else min v (n:Int))=(((if v<0 then (v+(n:Int)).toNat else min v.toNat n):Nat):Int)
 by_cases hv:v<0
 ·simp only[if_pos hv];lia
 ·simp only[if_neg hv];lia
theorem uz (lo hi:Option Int) (n:Nat):Builtin.Slice.sliceAdjust lo hi 1 (n:Int)=(((aR n 0 lo:Nat):Int),((aR n n hi:Nat):Int)):=by
 have h1:¬((1:Int)<0):=by lia
 unfold Builtin.Slice.sliceAdjust;simp only[h1,abq];refine Prod.ext ?_ ?_
 ·cases lo with
  |none=>rfl
  |some v=>exact sC v n 0
 ·cases hi with
  |none=>rfl
  |some v=>exact sC v n n
theorem uo (i j:Nat):Builtin.Slice.slicePlaces (i:Int) (j:Int) 1=j-i:=by
 unfold Builtin.Slice.slicePlaces
 have h1:(1:Int)>0:=by lia
 simp only[h1,abL,Int.ediv_one];split<;>lia
theorem mr {v:Value} {o:Option Int} {Q:Option Int->Shared->Prop} (p:IsPart v o) (h:Q o s):wpAny (model prog w) A (Builtin.Slice.slicePartIndex v) Q E s:=by
 cases p with
 |none=>exact slicePart_none h
 |int i t=>exact slicePart_int h
theorem lq {vl vu:Value} {lo hi:Option Int} {n:Nat} {Q:Int×Int×Nat->Shared->Prop} (hs:s.heap.IsSliceOf sl vl vu .none) (pl:IsPart vl lo) (pu:IsPart vu hi)
  (h:Q (((aR n 0 lo:Nat):Int),1,aR n n hi-aR n 0 lo) s):wpAny (model prog w) A (Builtin.Slice.sliceApplied (.ref sl) (pure (n:Int))) Q E s:=by
 let⟨os,hos,hcs,hds⟩:=id hs;unfold Builtin.Slice.sliceApplied Builtin.Slice.sliceFields;refine aaa (aaa (aaC hos hds (x:=vl) rfl (aaa (aaC hos hds (x:=vu) rfl (aaa (aaC hos hds (x:= .none) rfl (aaf ?_)))))));refine aaa (slicePart_none ?_);show wpAny _ _ (if ((1:Int)==0)=true then _ else _) _ _ s;rw[if_neg (by decide)];refine aaa (mr pl (aaa (mr pu (aaa (aaf ?_)))))
 show wpAny _ _ (match Builtin.Slice.sliceAdjust lo hi 1 (n:Int) with|(lo,hi)=>pure (lo,(1:Int),Builtin.Slice.slicePlaces lo hi 1)) _ _ s
 rw[uz lo hi n];show wpAny _ _ (pure (((aR n 0 lo:Nat):Int),(1:Int),Builtin.Slice.slicePlaces ((aR n 0 lo:Nat):Int) ((aR n n hi:Nat):Int) 1)) _ _ s;rw[uo];exact aaf h
theorem zy (xs:Array Value) (i k:Nat):((List.range k).filterMap λ(m:Nat)=>xs[((i:Int)+(m:Int)*1).toNat]?).toArray=((xs.toList.drop i).take k).toArray:=by
 have e:(λ(m:Nat)=>xs[((i:Int)+(m:Int)*1).toNat]?)=λm=>xs[i+m]?:=by
  funext m
  have:((i:Int)+(m:Int)*1).toNat=i+m:=by lia
  rw[this]
 rw[e];have:=pick_run xs i k;rw[acU] at this;have e2:((λx=>xs[x]?)∘λx=>i+x)=λm=>xs[i+m]?:=rfl;rw[e2] at this;rw[this]
theorem kj {t:Addr} {items:Array Value} {vl vu:Value} {lo hi:Option Int} {Q:Value->Shared->Prop} (ht:IsTup s.heap t items) (hs:s.heap.IsSliceOf sl vl vu .none) (pl:IsPart vl lo) (pu:IsPart vu hi)
  (hw:¬(aR items.size 0 lo=0/\aR items.size items.size hi=items.size))
  (h:Q (.ref s.heap.objs.size) {s with heap:=s.heap.push {cls:= .type "tuple",data:= .seq ((items.toList.drop (aR items.size 0 lo)).take (aR items.size items.size hi-aR items.size 0 lo)).toArray}})
  (hsz:items.size<=sizeLine):wpAny (model prog w) A (getItem (.ref t) (.ref sl)) Q E s:=by
 have htake:sizeOk (.seq ((items.toList.drop (aR items.size 0 lo)).take (aR items.size items.size hi-aR items.size 0 lo)).toArray):=by
  show ((items.toList.drop (aR items.size 0 lo)).take (aR items.size items.size hi-aR items.size 0 lo)).toArray.size<=sizeLine;rw[aak,abb,acC,aa1];lia
 have hj:aR items.size items.size hi<=items.size:=Dq _ _ (aag _) hi;let⟨os,hos,hcs,hds⟩:=id hs;have hTs:s.TypeIs (.ref sl) "slice":=⟨os,hos,hcs⟩;unfold getItem
 try with_reducible refine aa8 ?_
 first|refine aaa (aaf ?_)|skip
 refine aaa (wpAny_sequenceKey ht.typeIs (by decide) ?_)
 refine aaa (aaW (name:=Str.ofString "__getitem__") ht.typeIs acJ
  (abe acJ ht.typeIs entry_tuple_getitem ?_ (args_tuple_getitem _ _)))
 show wpAny _ _ (Builtin.Tuple.tupleItemsOf (.ref t)>>=_) _ _ s;refine aaa (tupleItemsOf_ ht ?_);refine aaa (wpAny_typeOf hTs ?_);rw[if_pos (by decide)];refine aaa (lq hs pl pu ?_)
 have hno:¬((((aR items.size 0 lo:Nat):Int)==0&&(1:Int)==1&&(aR items.size items.size hi-aR items.size 0 lo)==items.size)=true):=by
  intro q;rw[aah,aah] at q;have q1:((aR items.size 0 lo:Nat):Int)=0:=eq_of_beq q.1.1;have q2:aR items.size items.size hi-aR items.size 0 lo=items.size:=eq_of_beq q.2;exact hw ⟨by lia,by lia⟩
 show wpAny _ _ (if (((aR items.size 0 lo:Nat):Int)==0&&(1:Int)==1&&(aR items.size items.size hi-aR items.size 0 lo)==items.size)=true then _ else _) _ _ s;rw[if_neg hno,zy]
 first
  |exact aaa (m:=Builtin.Tuple.tupleExact _) (aaS (aaf ⟨_,rfl,aaf h⟩) htake)
  |exact aaa (m:=Builtin.Tuple.tupleExact _) (aaS (aaa (aaf (aaf ⟨_,rfl,aaf h⟩))) htake)
  |exact aaa (aaa (m:=Builtin.Tuple.tupleExact _) (aaS (aaf (aaf ⟨_,rfl,aaf h⟩)) htake))
  |exact aaa (aaa (m:=Builtin.Tuple.tupleExact _) (aaS (aaf ⟨_,rfl,aaf h⟩) htake))
end
end HT
namespace L2
open PySem PySem.Spec PyProof.Rows
abbrev TO:=St->Hp->(Option Int->Hp->Prop)->Prop
def PO (X:Cx) (e:Option Expr) (t:TO):Prop:=
 ∀(pins:List (Addr×Obj)) (s:Shared) (σ:St) (H:Hp) (Q:Option Int->Hp->Prop),Inv X pins σ H s->t σ H Q->
  wpAny (model X.prog X.w) X.A (evalPart e X.env) (λu s'=>∃o H',Inv X pins σ H' s'/\IsPart u o/\Q o H') X.xe s
def BH:TO:=λ_ H Q=>Q none H
def F8 (t:TE):TO:=λσ H Q=>t σ H λx H1=>∃i,x= .int i/\Q (some i) H1
theorem intsAre_of {ns:List Int}:∀{us:List Value},Vals (ns.map V.int) us->IntsAre us ns:=by
 induction ns with
 |nil=>intro us r;rw[acj] at r;cases r;exact .nil
 |cons n ns ih=>
  intro us r;rw[aav] at r
  cases r with
  |cons r1 r2=>
   let⟨t,e⟩:=r1;subst e;exact .cons n t (ih r2)
section
variable {X:Cx} {e:Expr} {te:TE} {lo hi:Option Expr} {tl th:TO} {pos p2:Pos}
theorem BL:PO X none BH:=by
 intro pins s σ H Q I h;rw[evalPart_none];exact aaf ⟨none,H,I, .none,h⟩
theorem Bk (h:PE X e te):PO X (some e) (F8 te):=by
 intro pins s σ H Q I hw;rw[evalPart_some];refine ay (h pins s σ H _ I hw) λu s1 z902=> ?_;let⟨x,H1,I1,r1,q1⟩:=z902;let⟨i,rfl,q⟩:=q1;let⟨t,rfl⟩:=r1;exact⟨some i,H1,I1, .int i t,q⟩
def nX (X:Cx) (r:V->Option Int->Option Int->Hp->VK->Prop):Prop:=
 ∀(pins:List (Addr×Obj)) (s:Shared) (σ:St) (H:Hp) (x:V) (v vl vu:Value) (lo hi:Option Int) (sl:Addr) (Q:VK),Inv X pins σ H s->RelV x v->s.heap.IsSliceOf sl vl vu .none->IsPart vl lo->IsPart vu hi->r x lo hi H Q->
  ∃T id,typeLookup (.type T) "__getitem__"=pure (some (.builtin id))/\s.TypeIs v T/\wpAny (model X.prog X.w) X.A (getItem v (.ref sl)) (EP X pins σ Q) X.xe s
theorem nX.or {r r':V->Option Int->Option Int->Hp->VK->Prop} (h:nX X r) (h':nX X r'):nX X (λx lo hi H Q=>r x lo hi H Q∨r' x lo hi H Q):=by
 intro pins s σ H x v vl vu lo hi sl Q I rx hs pl pu q
 rcases q with q|q
 ·exact h pins s σ H x v vl vu lo hi sl Q I rx hs pl pu q
 ·exact h' pins s σ H x v vl vu lo hi sl Q I rx hs pl pu q
def tSl (r:V->Option Int->Option Int->Hp->VK->Prop) (te:TE) (tl th:TO):TE:=λσ H Q=>te σ H λx H1=>tl σ H1 λl H2=>th σ H2 λu H3=>r x l u H3 Q
theorem xU {r:V->Option Int->Option Int->Hp->VK->Prop} (hr:nX X r) (he:PE X e te) (hl:PO X lo tl) (hu:PO X hi th):PE X (.Subscript e (.Slice lo hi none p2) pos) (tSl r te tl th):=by
 intro pins s σ H Q I h;refine Subscript_ (ay (he pins s σ H _ I h) λv s1 z902=> ?_);let⟨x,H1,I1,r1,q1⟩:=z902;refine wpAny_Slice (ay (hl pins s1 σ H1 _ I1 q1) λvl s2 zq8=> ?_);let⟨l,H2,I2,pl,q2⟩:=zq8;refine ay (hu pins s2 σ H2 _ I2 q2) λvu s3 zq9=> ?_;let⟨u,H3,I3,pu,q3⟩:=zq9;rw[evalPart_none];refine aaf ?_;have I4:Inv X pins σ H3 {s3 with heap:=s3.heap.push {cls:= .type "slice",data:= .fields #[vl,vu, .none]}}:=I3.kept (t':=s3.toks) λb ob q=>aad _ q;let⟨T,id,hT,ht,hg⟩:=hr pins {s3 with heap:=s3.heap.push {cls:= .type "slice",data:= .fields #[vl,vu, .none]}} σ H3 x v vl vu l u s3.heap.objs.size Q I4 r1 (Heap.IsSliceOf.new ..) pl pu q3;show wpAny (model X.prog X.w) X.A (subscriptTail e (.Slice lo hi none p2) v (.ref s3.heap.objs.size)) (EP X pins σ Q) X.xe {s3 with heap:=s3.heap.push {cls:= .type "slice",data:= .fields #[vl,vu, .none]}};exact tail_any (ops:=[.ref s3.heap.objs.size,v]) ht hT hg (by with_unfolding_all rfl)
def jE (xs:List V) (lo hi:Option Int):List V:=(xs.drop (HT.aR xs.length 0 lo)).take (HT.aR xs.length xs.length hi-HT.aR xs.length 0 lo)
theorem ky (xs:List V) (lo hi:Option Int):(jE xs lo hi).length<=xs.length:=by
 unfold jE;rw[abb,acC];lia
def ID (K:PySem.W.Frag):V->Option Int->Option Int->Hp->VK->Prop:=λx lo hi H Q=>∃a xs,x= .ref a/\cF K H a xs/\
 ¬(HT.aR xs.length 0 lo=0/\HT.aR xs.length xs.length hi=xs.length)/\∀p,H p=none->Q (.ref p) (upd H p (.tup (jE xs lo hi)))
theorem DC:nX X (ID X.K):=by
 intro pins s σ H x v vl vu lo hi sl Q I rx hs pl pu h;let⟨a,xs,rfl,hx,hw,q⟩:=h;cases rx;let⟨its,r,ht,hz⟩:=I.tuple hx
 have hlen:its.toArray.size=xs.length:=by rw[aak];exact r.length.symm
 refine⟨"tuple",_,acJ.lookup,ht.typeIs, ?_⟩;refine HT.kj ht hs pl pu (by rw[hlen];exact hw) ?_ (by rw[hlen];exact hz);rw[hlen];refine⟨.ref s.heap.objs.size,_,I.laid (t':=s.toks) (o:= .tup (jE xs lo hi)) (λb ob q=>aad _ q) (aag _) ?_,rfl,q _ (I.af.fresh (aag _))⟩;exact⟨aaJ (ky xs lo hi) hz,_,(r.drop (HT.aR xs.length 0 lo)).take (HT.aR xs.length xs.length hi-HT.aR xs.length 0 lo),IsTup.new _ _⟩
def GG (K:PySem.W.Frag):R2:=λx y H Q=>∃a b xs ys,x= .ref a/\y= .ref b/\cF K H a xs/\cF K H b ys/\xs≠[]/\xs.length+ys.length<=sizeLine/\
 (ys=[]->Q (.ref a) H)/\(ys≠[]->∀p,H p=none->Q (.ref p) (upd H p (.tup (xs++ys))))
theorem Vals.mY {xs:List V} {us:List Value} (r:Vals xs us):us=[]↔xs=[]:=by
 cases r with
 |nil=>simp
 |cons _ _=>simp
theorem BE:aD X (binaryOp .Add) (GG X.K):=by
 intro pins s σ H x y v u Q I rx ry h;let⟨a,b,xs,ys,rfl,rfl,ha,hb,hx,hz,q1,q2⟩:=h;cases rx;cases ry;let⟨its,r1,p1,_⟩:=I.tuple ha;let⟨its2,r2,p2,_⟩:=I.tuple hb;refine HT.Br p1 p2 (λz=>hx (r1.mY.mp z)) (λz=>⟨.ref a,H,I,rfl,q1 (r2.mY.mp z)⟩) (λz=> ?_) (by rw[←r1.length,←r2.length];exact hz);refine⟨.ref s.heap.objs.size,_,I.laid (t':=s.toks) (o:= .tup (xs++ys)) (λb ob q=>aad _ q) (aag _) ?_,rfl,q2 (λw=>z (r2.mY.mpr w)) _ (I.af.fresh (aag _))⟩;exact⟨by rw[aaY];exact hz,_,r1.append r2,IsTup.new _ _⟩
end
noncomputable def sM (n:Nat) (i:Int):Option Nat:=if 0<=i then (if i<n then some i.toNat else none) else if-(n:Int)<=i then some (i+n).toNat else none
def o7 {α:Type} (xs:List α) (i:Int):Option α:=(sM xs.length i).bind λj=>xs[j]?
theorem ui {n:Nat} {i:Int} {j:Nat} (h:sM n i=some j):seqIndex? i n=some j/\j<n/\ -(n:Int)<=i/\i<n:=by
 unfold sM at h
 by_cases h0:0<=i
 ·rw[if_pos h0] at h
  by_cases h1:i<n
  ·rw[if_pos h1] at h;have e:i.toNat=j:=Option.some.inj h;exact⟨by rw[seqIndex_of h0 h1,e],by lia,by lia,h1⟩
  ·rw[if_neg h1] at h;cases h
 ·rw[if_neg h0] at h
  by_cases h1: -(n:Int)<=i
  ·rw[if_pos h1] at h;have e:(i+n).toNat=j:=Option.some.inj h;exact⟨by rw[seqIndex_neg (by lia) h1,e],by lia,h1,by lia⟩
  ·rw[if_neg h1] at h;cases h
theorem nh {α:Type} {xs:List α} {i:Int} {v:α} (h:o7 xs i=some v):∃j,seqIndex? i xs.length=some j/\xs[j]?=some v/\j<xs.length/\ -(xs.length:Int)<=i/\i<xs.length:=by
 unfold o7 at h
 cases e:sM xs.length i with
 |none=>rw[e] at h;cases h
 |some j=>
  rw[e] at h;let⟨h1,h2,h3,h4⟩:=ui e;exact⟨j,h1,h,h2,h3,h4⟩
def nr (b:Expr):Prop:=∀o i,subscripted b false o i=operate [o,i] (getItem o i)
def km (X:Cx) (r:R2):Prop:=
 ∀(value slice:Expr) (pins:List (Addr×Obj)) (s:Shared) (σ:St) (H:Hp) (x y:V) (v u:Value) (Q:VK),Inv X pins σ H s->RelV x v->RelV y u->r x y H Q->
  subscripted slice false v u=operate [v,u] (getItem v u)->wpAny (model X.prog X.w) X.A (subscriptTail value slice v u) (EP X pins σ Q) X.xe s
def o8 (X:Cx) (id:String) (r:V->List V->Hp->VK->Prop):Prop:=
 ∀(pins:List (Addr×Obj)) (s:Shared) (σ:St) (H:Hp) (x:V) (xs:List V) (v:Value) (us:List Value) (Q:VK),Inv X pins σ H s->RelV x v->Vals xs us->r x xs H Q->
  wpAny (model X.prog X.w) X.A (call (.builtin id) (v::us)) (EP X pins σ Q) X.xe s
section
variable {X:Cx} {a b:Expr} {ta tb:TE} {pos:Pos}
theorem km.or {r r':R2} (h:km X r) (h':km X r'):km X (λx y H Q=>r x y H Q∨r' x y H Q):=by
 intro value slice pins s σ H x y v u Q I rx ry q hs
 rcases q with q|q
 ·exact h value slice pins s σ H x y v u Q I rx ry q hs
 ·exact h' value slice pins s σ H x y v u Q I rx ry q hs
theorem GF {r:R2} (hr:km X r) (ha:PE X a ta) (hb:PE X b tb) (hs:nr b):PE X (.Subscript a b pos) (Al r ta tb):=by
 intro pins s σ H Q I h;exact Subscript_ (xY ha hb I h λv u s2 x y H2 I2 rx ry q=>hr a b pins s2 σ H2 x y v u Q I2 rx ry q (hs _ _))
def DL (K:PySem.W.Frag):R2:=λx y H Q=>∃p xs i v,x= .ref p/\y= .int i/\bF K H p xs/\o7 xs i=some v/\Q v H
def Ek (K:PySem.W.Frag):R2:=λx y H Q=>∃p xs i v,x= .ref p/\y= .int i/\cF K H p xs/\o7 xs i=some v/\Q v H
def Du:R2:=λx y H Q=>∃z i c,x= .str z/\y= .int i/\z.length<=sizeLine/\o7 z.cps.toList i=some c/\Q (.str ⟨#[c]⟩) H
theorem CB:km X (DL X.K):=by
 intro value slice pins s σ H x y v u Q I rx ry h hs;let⟨p,xs,i,z,rfl,rfl,hq,he,q⟩:=h;cases rx;let⟨t,rfl⟩:=ry;let⟨its,r,pl,hz⟩:=I.list hq;let⟨j,h1,h2,h3,h4,h5⟩:=nh he;let⟨w,ew,rw'⟩:=r.get h2;have hl:=r.length;have hn:=fR;have fin:EP X pins σ Q w s:=⟨z,H,I,rw',q⟩
 by_cases h0:0<=i
 ·have hj:i.toNat=j:=by
   rw[seqIndex_of h0 h5] at h1;exact Option.some.inj h1
  exact item_listR pl.isList h0 (by lia) (by rw[hj];simpa using ew) fin hs
 ·have hj:(i+(its.toArray.size:Int)).toNat=j:=by
   rw[seqIndex_neg (by lia) h4] at h1;rw[aak,←hl];exact Option.some.inj h1
  exact subscriptTail_builtinR (x:=w) pl.isList.typeIs slot_list_getitem.lookup
   (wpAny_getItem_list_neg (Q:=λr s'=>r=w/\EP X pins σ Q r s') pl.isList (by lia) (by rw[aak]<;>lia) (by lia) (by rw[hj];simpa using ew) ⟨rfl,fin⟩) hs
theorem DR:km X (Ek X.K):=by
 intro value slice pins s σ H x y v u Q I rx ry h hs;let⟨p,xs,i,z,rfl,rfl,hq,he,q⟩:=h;cases rx;let⟨t,rfl⟩:=ry;let⟨its,r,pl,hz⟩:=I.tuple hq;let⟨j,h1,h2,h3,h4,h5⟩:=nh he;let⟨w,ew,rw'⟩:=r.get h2;have hl:=r.length;have hn:=fR;have fin:EP X pins σ Q w s:=⟨z,H,I,rw',q⟩
 exact subscriptTail_builtinR (x:=w) pl.typeIs slot_tuple_getitem.lookup
  (getItem_tuple (j:=j) (Q:=λr s'=>r=w/\EP X pins σ Q r s') pl (by lia) (by lia) (by rw[aak,←hl];exact h1) (by simpa using ew) ⟨rfl,fin⟩) hs
theorem Dc:km X Du:=by
 intro value slice pins s σ H x y v u Q I rx ry h hs;let⟨z,i,c,rfl,rfl,hz,he,q⟩:=h;let⟨t,rfl⟩:=rx;let⟨t',rfl⟩:=ry;let⟨j,h1,h2,h3,h4,h5⟩:=nh he
 have hl:z.cps.toList.length=z.length:=by simp[Str.length]
 rw[hl] at h1 h4 h5;have hn:=fR
 exact tail_any (typeIs_str s z t) slot_str_getitem.lookup (getItem_str (c:=c) (by
  have e1:decide (i< -(2^63:Int))=false:=aaA (by lia);have e2:decide (i≥2^63)=false:=aaA (by lia)
  rw[e1,e2,Bool.or_false]) (by rw[h1];simpa using h2) ⟨.str ⟨#[c]⟩,H,I.tok _,⟨_,rfl⟩,q⟩) hs
def rIx (K:PySem.W.Frag):R2:=λx y H Q=>DL K x y H Q∨Ek K x y H Q∨Du x y H Q
theorem FC:km X (rIx X.K):=CB.or (DR.or Dc)
theorem uY (its:List Value) (n j:Nat) (u:Value):Obj.mapSeq (·.setIfInBounds j u) {cls:= .type "list",data:= .seq its.toArray n}={cls:= .type "list",data:= .seq (its.set j u).toArray n}:=by
 simp[Obj.mapSeq]
theorem Inv.lst {pins:List (Addr×Obj)} {σ:St} {H:Hp} {s:Shared} {p:Addr} {xs:List V} (I:Inv X pins σ H s) (h:H p=some (.lst xs)):
  ∃(its:List Value) (n:Nat),Vals xs its/\s.heap.get? p=some {cls:= .type "list",data:= .seq its.toArray n}/\xs.length<=sizeLine:=by
 let⟨z,its,n,r,e⟩:=I.af p _ h;exact⟨its,n,r,e,z⟩
theorem Inv.DV {σ:St} {H:Hp} {s:Shared} {p:Addr} {xs ys:List V} {its its':List Value} {n n':Nat} {f:Obj->Obj} (I:Inv X pins σ H s) (h:H p=some (.lst xs))
  (ho:s.heap.get? p=some {cls:= .type "list",data:= .seq its.toArray n}) (hf:f {cls:= .type "list",data:= .seq its.toArray n}={cls:= .type "list",data:= .seq its'.toArray n'}) (r:Vals ys its') (hz:ys.length<=sizeLine) (t:Nat):
  Inv X pins σ (upd H p (.lst ys)) {s with heap:=s.heap.update p f,toks:=t}:=by
 have e:(s.heap.update p f).get? p=some {cls:= .type "list",data:= .seq its'.toArray n'}:=by
  rw[aa6 f ho (by rw[hf]<;>rfl),hf]
 refine I.write (x:=p) (e:=p) (by rw[h];trivial) (.inl rfl) (λb u hb q=>(aaE _ _ (Ne.symm hb)).trans q) ⟨_,e⟩ ?_;exact⟨hz,its',n',r,e⟩
def HA:V->V->V->Hp->(Hp->Prop)->Prop:=λo i v H Q=>∃p xs k j,o= .ref p/\i= .int k/\H p=some (.lst xs)/\sM xs.length k=some j/\Q (upd H p (.lst (xs.set j v)))
theorem set_list:jM X HA:=by
 intro pins s σ H o i v ov iv u Q I ro ri rv h;let⟨p,xs,k,j,rfl,rfl,hp,hj,q⟩:=h;cases ro;let⟨t,rfl⟩:=ri;let⟨its,n,r,ho,hz⟩:=I.lst hp;let⟨h1,h2,h3,h4⟩:=ui hj;have hl:=r.length;have hn:=fR
 have I':Inv X pins σ (upd H p (.lst (xs.set j v))) {s with heap:=s.heap.update p (Obj.mapSeq (·.setIfInBounds j u))}:=
  I.DV hp ho (uY its n j u) (r.set rv j) (by rw[List.length_set];exact hz) s.toks
 by_cases h0:0<=k
 ·have hk:k.toNat=j:=by
   rw[seqIndex_of h0 h4] at h1;exact Option.some.inj h1
  exact PySem.W.ki_setAt ho h0 (by lia) (by rw[aak,←hl];exact h4) (by rw[hk];exact⟨_,I',q⟩)
 ·have hk:(k+(its.toArray.size:Int)).toNat=j:=by
   rw[seqIndex_neg (by lia) h3] at h1;rw[aak,←hl];exact Option.some.inj h1
  exact PySem.W.ki_setBack ho (by lia) (by rw[aak,←hl];exact h3) (by lia) (by rw[hk];exact⟨_,I',q⟩)
theorem qJ (lo hi:Option Int) (n:Nat):(sliceBounds lo hi none n).1=((HT.aR n 0 lo:Nat):Int)/\(sliceBounds lo hi none n).2.1=((HT.aR n n hi:Nat):Int)/\(sliceBounds lo hi none n).2.2=1:=by
 refine⟨?_, ?_,rfl⟩
 ·cases lo with
  |none=>simp[sliceBounds,HT.aR]
  |some i=>
   simp only[sliceBounds,HT.aR,Option.getD_none,show (1:Int)>0 by decide,abL]
   by_cases h:i<0
   ·simp only[h,abL]<;>lia
   ·simp only[h,abq]<;>lia
 ·cases hi with
  |none=>simp[sliceBounds,HT.aR]
  |some i=>
   simp only[sliceBounds,HT.aR,Option.getD_none,show (1:Int)>0 by decide,abL]
   by_cases h:i<0
   ·simp only[h,abL]<;>lia
   ·simp only[h,abq]<;>lia
theorem pj (its:List Value) (lo hi:Option Int):slicePick its.toArray lo hi none=((its.drop (HT.aR its.length 0 lo)).take (HT.aR its.length its.length hi-HT.aR its.length 0 lo)).toArray:=by
 let⟨h1,h2,h3⟩:=qJ lo hi its.toArray.size;unfold slicePick;rw[h1,h2,h3];simp only[sliceRange_one,pick_run,aak]<;>rfl
def IJ (K:PySem.W.Frag):V->Option Int->Option Int->Hp->VK->Prop:=λx lo hi H Q=>∃a xs,x= .ref a/\bF K H a xs/\∀p,H p=none->Q (.ref p) (upd H p (.lst (jE xs lo hi)))
theorem BD:nX X (IJ X.K):=by
 intro pins s σ H x v vl vu lo hi sl Q I rx hs pl pu h;let⟨a,xs,rfl,hx,q⟩:=h;cases rx;let⟨its,r,ht,hz⟩:=I.list hx;have hlen:=r.length;refine⟨"list",_,slot_list_getitem.lookup,ht.isList.typeIs, ?_⟩;refine wpAny_getItem_list_slice ht.isList hs pl pu .none (by simp) ?_ (by rw[aak]<;>lia);rw[pj,←hlen];refine⟨.ref s.heap.objs.size,_,I.laid (t':=s.toks) (o:= .lst (jE xs lo hi)) (λb ob q=>aad _ q) (aag _) ?_,rfl,q _ (I.af.fresh (aag _))⟩;exact⟨aaJ (ky xs lo hi) hz,_,0,(r.drop (HT.aR xs.length 0 lo)).take (HT.aR xs.length xs.length hi-HT.aR xs.length 0 lo),aaj _ rfl⟩
noncomputable def A3:V->Bool
 | .non=>true
 | .bl _=>true
 | .int _=>true
 | .str _=>true
 |_=>false
noncomputable def EV:V->V->Bool
 | .non, .non=>true
 | .bl a, .bl b=>a==b
 | .bl a, .int b=>(if a then 1 else 0)==b
 | .int a, .bl b=>a==(if b then 1 else 0)
 | .int a, .int b=>a==b
 | .str a, .str b=>a==b
 |_,_=>false
theorem jC {A:Around} {s:Shared} {y x:V} {u v:Value} (ry:RelV y u) (rx:RelV x v) (fy:A3 y=true) (fx:A3 x=true):SeqAt.EqAt A s u v (EV y x):=by
 cases y with
 |non=>
  cases ry
  cases x with
  |non=>cases rx;exact SeqAt.EqAt.same _
  |bl b=>cases rx;exact SeqAt.EqAt.none_bool b
  |int b=>let⟨t,rfl⟩:=rx;exact SeqAt.EqAt.none_int b t
  |str b=>let⟨t,rfl⟩:=rx;exact SeqAt.EqAt.none_str b t
  |_=>exact absurd (show false=true from fx) aaG
 |bl a=>
  cases ry
  cases x with
  |non=>cases rx;exact SeqAt.EqAt.bool_none a
  |bl b=>cases rx;exact SeqAt.EqAt.bool_bool a b
  |int b=>let⟨t,rfl⟩:=rx;exact SeqAt.EqAt.bool_int a b t
  |str b=>let⟨t,rfl⟩:=rx;exact SeqAt.EqAt.bool_str a b t
  |_=>exact absurd (show false=true from fx) aaG
 |int a=>
  let⟨t',rfl⟩:=ry
  cases x with
  |non=>cases rx;exact SeqAt.EqAt.int_none a t'
  |bl b=>cases rx;exact SeqAt.EqAt.int_bool a t' b
  |int b=>let⟨t,rfl⟩:=rx;exact SeqAt.EqAt.int_int a t' b t
  |str b=>let⟨t,rfl⟩:=rx;exact SeqAt.EqAt.int_str a t' b t
  |_=>exact absurd (show false=true from fx) aaG
 |str a=>
  let⟨t',rfl⟩:=ry
  cases x with
  |non=>cases rx;exact SeqAt.EqAt.str_none a t'
  |bl b=>cases rx;exact SeqAt.EqAt.str_bool a t' b
  |int b=>let⟨t,rfl⟩:=rx;exact SeqAt.EqAt.str_int a t' b t
  |str b=>let⟨t,rfl⟩:=rx;exact SeqAt.EqAt.str_str a t' b t
  |_=>exact absurd (show false=true from fx) aaG
 |_=>exact absurd (show false=true from fy) aaG
def ow (x:V) (xs:List V):Bool:=xs.any λy=>EV y x
theorem rS:au X (.builtin "len") (λxs H Q=>∃p ys,xs=[.ref p]/\(bF X.K H p ys∨cF X.K H p ys)/\Q (.int ys.length) H):=by
 intro pins s σ H xs us Q I r h;let⟨p,ys,rfl,hq,q⟩:=h;let⟨u,rfl,rx⟩:=vals1 r;cases rx;have hn:=fR
 rcases hq with hq|hq
 ·let⟨its,r',pl,hz⟩:=I.list hq;have hlen:=r'.length;exact Calls.call_len_list pl.isList (by simp only[aak]<;>lia) ⟨.int ys.length,H,I.tok _,⟨s.toks+1,by rw[aak,hlen]⟩,q⟩
 ·let⟨its,r',pl,hz⟩:=I.tuple hq;have hlen:=r'.length;exact len_tuple pl (by simp only[aak]<;>lia) ⟨.int ys.length,H,I.tok _,⟨s.toks+1,by rw[aak,hlen]⟩,q⟩
theorem qO:au X (.builtin "len") (λxs H Q=>∃z,xs=[.str z]/\z.length<=sizeLine/\Q (.int z.length) H):=by
 intro pins s σ H xs us Q I r h;let⟨z,rfl,hz,q⟩:=h;let⟨u,rfl,t,rfl⟩:=vals1 r;have hn:=fR;exact len_str (by lia) ⟨.int z.length,H,I.tok _,⟨_,rfl⟩,q⟩
theorem au.or {f:Value} {r r':List V->Hp->VK->Prop} (h:au X f r) (h':au X f r'):au X f (λxs H Q=>r xs H Q∨r' xs H Q):=by
 intro pins s σ H xs us Q I rs q
 rcases q with q|q
 ·exact h pins s σ H xs us Q I rs q
 ·exact h' pins s σ H xs us Q I rs q
theorem pZ:au X (.type "list") (λxs H Q=>∃p ys,xs=[.ref p]/\(bF X.K H p ys∨cF X.K H p ys)/\∀l,H l=none->Q (.ref l) (upd H l (.lst ys))):=by
 intro pins s σ H xs us Q I r h;let⟨p,ys,rfl,hq,q⟩:=h;let⟨u,rfl,rx⟩:=vals1 r;cases rx
 have fin:∀(its:List Value),Vals ys its->ys.length<=sizeLine->∀(h':Heap) (c':Nat),(∀b o',s.heap.get? b=some o'->h'.get? b=some o')->
   h'.get? s.heap.objs.size=some {cls:= .type "list",dict:=none,data:= .seq its.toArray c',slots:=#[]}->EP X pins σ Q (.ref s.heap.objs.size) {s with heap:=h'}:=λits r' hz h' c' kp e=>
  ⟨.ref s.heap.objs.size,_,I.laid (t':=s.toks) kp (aag _) (show aI X.prog X.w _ h' _ (.lst ys) from ⟨hz,its,c',r',e⟩),rfl,q _ (I.af.fresh (aag _))⟩
 rcases hq with hq|hq
 ·let⟨its,r',pl,hz⟩:=I.list hq;have hlen:=r'.length;let⟨o,ho,hc,n,hd⟩:=pl.isList;exact call_list_seq p (.inl rfl) ho hc hd (λh' c' kp e=>fin its r' hz h' c' kp e) (by simp only[aak]<;>lia)
 ·let⟨its,r',pl,hz⟩:=I.tuple hq;have hlen:=r'.length;let⟨o,ho,hc,n,hd⟩:=pl;exact call_list_seq p (.inr rfl) ho hc hd (λh' c' kp e=>fin its r' hz h' c' kp e) (by simp only[aak]<;>lia)
theorem pA:au X (.type "tuple") (λxs H Q=>∃p ys,xs=[.ref p]/\((bF X.K H p ys/\∀l,H l=none->Q (.ref l) (upd H l (.tup ys)))∨(cF X.K H p ys/\Q (.ref p) H))):=by
 intro pins s σ H xs us Q I r h;let⟨p,ys,rfl,h⟩:=h;let⟨u,rfl,rx⟩:=vals1 r;cases rx
 rcases h with⟨hq,q⟩|⟨hq,q⟩
 ·let⟨its,r',pl,hz⟩:=I.list hq;have hlen:=r'.length;refine call_tuple_list pl.isList (λh' kp=> ?_) (by simp only[aak]<;>lia);have I1:Inv X pins σ H {s with heap:=h'}:=I.kept (t':=s.toks) kp
  have I2:Inv X pins σ (upd H h'.objs.size (.tup ys)) {s with heap:=h'.push {cls:= .type "tuple",data:= .seq its.toArray}}:=
   I1.laid (t':=s.toks) (λb o e=>aad _ e) (aag _) (show aI X.prog X.w _ _ _ (.tup ys) from ⟨hz,its,r',IsTup.new _ _⟩)
  exact⟨.ref h'.objs.size,_,I2,rfl,q _ (I1.af.fresh (aag _))⟩
 ·let⟨its,r',pl,hz⟩:=I.tuple hq;exact call_tuple_same pl ⟨.ref p,H,I,rfl,q⟩
def EA (K:PySem.W.Frag) (T:String) (x:V) (H:Hp):Prop:=match x with
 | .str _=>T="str"
 | .int _=>T="int"
 | .ref p=>(T="list"/\∃xs,bF K H p xs)∨(T="tuple"/\∃o,K.lookup p=some o/\o.cls= .type "tuple"/\o.dict=none)∨
   (T="dict"/\((∃kvs,H p=some (.dK kvs))∨∃kvs,H p=some (.dT kvs)))∨(T="set"/\∃S n,H p=some (.set S n))
 |_=>False
theorem wW {σ:St} {H:Hp} {s:Shared} {T:String} {x:V} {v:Value} (I:Inv X pins σ H s) (r:RelV x v) (ty:EA X.K T x H):
  s.TypeIs v T/\∀a,v= .ref a->∃ob,s.heap.get? a=some ob/\ob.dict=none:=by
 cases x with
 |str z=>
  let⟨t,rfl⟩:=r;cases (show T="str" from ty);exact⟨typeIs_str s z t,λ_ e=>nomatch e⟩
 |int i=>
  let⟨t,rfl⟩:=r;cases (show T="int" from ty);exact⟨typeIs_int s i t,λ_ e=>nomatch e⟩
 |ref p=>
  cases r
  rcases ty with⟨rfl,xs,hq⟩|⟨rfl,o,hk,hc,hd⟩|⟨rfl,hk⟩|⟨rfl,S,n,hk⟩
  ·let⟨its,_,pl,_⟩:=I.list hq;refine⟨pl.isList.typeIs,λa e=> ?_⟩;cases e;let⟨o,n,e,c,hd,_⟩:=pl;exact⟨o,e,hd⟩
  ·refine⟨⟨o,I.bX p o hk,hc⟩,λa e=> ?_⟩;cases e;exact⟨o,I.bX _ o hk,hd⟩
  ·have z:∃o,s.heap.get? p=some o/\o.ExactDict:=by
    rcases hk with⟨kvs,hk⟩|⟨kvs,hk⟩
    ·let⟨_,_,_,_,o,_,_,e,ex,_⟩:=I.af p _ hk;exact⟨o,e,ex⟩
    ·let⟨_,_,_,_,o,_,_,e,ex,_⟩:=I.af p _ hk;exact⟨o,e,ex⟩
   let⟨o,e,ex⟩:=z;refine⟨⟨o,e,ex.1⟩,λa e2=> ?_⟩;cases e2;exact⟨o,e,ex.2.1⟩
  ·let⟨o,_,_,_,e,ex,_⟩:=I.af p _ hk;refine⟨⟨o,e,ex.1⟩,λa e2=> ?_⟩;cases e2;exact⟨o,e,ex.2.1⟩
 |_=>exact False.elim ty
def Jp (K:PySem.W.Frag) (T:String) (r:V->List V->Hp->VK->Prop) (to:TE):TE:=λσ H Q=>to σ H λx H1=>EA K T x H1/\r x [] H1 Q
def tBM (K:PySem.W.Frag) (T:String) (r:V->List V->Hp->VK->Prop) (to:TE) (t:TA):TE:=λσ H Q=>to σ H λx H1=>EA K T x H1/\t σ H1 λxs H2=>r x xs H2 Q
variable {o e:Expr} {es:List Expr} {to:TE} {t:TA} {name:Str} {apos cpos:Pos} {T id:String} {r:V->List V->Hp->VK->Prop}
theorem Ef (pa:PlainAttrs T) (slot:Slot T name id) (hty:typeOf (.builtin id)=pure (.type "method_descriptor")) (hm:o8 X id r) (ho:PE X o to)
  (hbase:attributeBase o name X.env (eval o X.env)=eval o X.env:=by rfl) (hline:(apos.endLine==cpos.line)=true:=by rfl):PE X (.Call (.Attribute o name apos) [] [] cpos) (Jp X.K T r to):=by
 intro pins s σ H Q I h;refine wpAny_Call_method0_late hbase hline (ay (ho pins s σ H _ I h) λv s1 z902=> ?_);let⟨x,H1,I1,r1,ty,q1⟩:=z902;let⟨h1,h2⟩:=wW I1 r1 ty;exact⟨T,id,pa,slot,hty,h1,h2,ab2 rfl (PySem.evalArgs_none (hm pins s1 σ H1 x [] v [] Q I1 r1 .nil q1))⟩
theorem Hg (pa:PlainAttrs T) (slot:Slot T name id) (hty:typeOf (.builtin id)=pure (.type "method_descriptor")) (hm:o8 X id r) (ho:PE X o to) (ha:PA X (e::es) t)
  (hbase:attributeBase o name X.env (eval o X.env)=eval o X.env:=by rfl)
  (hfew:((backTo cpos (starEach (e::es) X.env)).all (λx=> !x.1)&&(backToKw cpos (keywordEach [] X.env)).all (λx=>x.1.isSome)
   &&decide ((e::es).length+([]:List Keyword).length+(if ([]:List Keyword).isEmpty then 0 else 1)<30))=true:=by rfl)
  (hline:(apos.endLine==cpos.line)=true:=by rfl) (hs:starEach (e::es) X.env=(false,eval e X.env)::starEach es X.env:=by rfl) (hplain:(backTo cpos (starEach es X.env)).any (·.1)=false:=by rfl):
  PE X (.Call (.Attribute o name apos) (e::es) [] cpos) (tBM X.K T r to t):=by
 intro pins s σ H Q I h;refine wpAny_Call_method_late hbase hfew hline rfl (ay (ho pins s σ H _ I h) λv s1 z902=> ?_);let⟨x,H1,I1,r1,ty,q1⟩:=z902;let⟨h1,h2⟩:=wW I1 r1 ty;refine⟨T,id,pa,slot,hty,h1,h2, ?_⟩;have hA:=ha cpos pins s1 σ H1 _ I1 q1;rw[hs] at hA⊢;refine ab2 (by show (false||(backTo cpos (starEach es X.env)).any (·.1))=false;rw[hplain]<;>rfl) (acK ?_)
 exact ay hA λus s2 z902=>by let⟨vs,H2,I2,r2,q2⟩:=z902;exact hm pins s2 σ H2 x vs v us Q I2 r1 r2 q2
end
def C3 (X:Cx) (id:String) (r:V->List V->Hp->VK->Prop):Prop:=
 ∀(pins:List (Addr×Obj)) (s:Shared) (σ:St) (H:Hp) (x:V) (xs:List V) (v:Value) (us:List Value) (Q:VK),Inv X pins σ H s->RelV x v->Vals xs us->r x xs H Q->
  wpAny (model X.prog X.w) X.A (call (.builtin id) (v::us)) (EP X pins σ Q) X.xe s
theorem Vals.one:∀{x:V} {us:List Value},Vals [x] us->∃u,us=[u]/\RelV x u:=λh=>by
 cases h with|cons r t=>cases t;exact⟨_,rfl,r⟩
theorem Vals.two:∀{x y:V} {us:List Value},Vals [x,y] us->∃u v,us=[u,v]/\RelV x u/\RelV y v:=λh=>by
 cases h with|cons r t=>cases t with|cons q t=>cases t;exact⟨_,_,rfl,r,q⟩
theorem Vals.zero:∀{us:List Value},Vals [] us->us=[]
 |_, .nil=>rfl
theorem Vals.reverse {xs:List V} {us:List Value} (h:Vals xs us):Vals xs.reverse us.reverse:=by
 induction h with
 |nil=>exact .nil
 |cons r t ih=>rw[acr,acr];exact Vals.append ih (.cons r .nil)
section
variable {X:Cx} {pins:List (Addr×Obj)} {σ:St} {H:Hp} {s:Shared} {l b:Addr} {xs ys zs:List V}
theorem Inv.rD {its its':List Value} {n:Nat} {f:Array Value->Array Value} {t':Nat} (I:Inv X pins σ H s) (hH:H l=some (.lst xs))
  (e:s.heap.get? l=some {cls:= .type "list",data:= .seq its.toArray n}) (hf:f its.toArray=its'.toArray) (hv:Vals ys its') (hz:ys.length<=sizeLine):
  Inv X pins σ (upd H l (.lst ys)) {s with heap:=s.heap.update l (Obj.mapSeq f),toks:=t'}:=by
 have q:=PySem.IsL.update e f;rw[hf] at q;refine I.write (x:=l) (e:=l) (by rw[hH];exact trivial) (.inl rfl) (λb' u hb hu=>(aaE s.heap (Obj.mapSeq f) (Ne.symm hb)).trans hu) ⟨_,q⟩ ?_;exact⟨hz,its',_,hv,q⟩
theorem Inv.Iy {its:List Value} {t':Nat} (I:Inv X pins σ H s) (hv:Vals ys its) (hz:ys.length<=sizeLine):
  Inv X pins σ (upd H s.heap.objs.size (.lst ys)) {s with heap:=s.heap.push {cls:= .type "list",data:= .seq its.toArray},toks:=t'}:=
 I.laid (λ_ _ q=>aad _ q) (aag _) ⟨hz,its,0,hv,aaj _ rfl⟩
theorem Inv.fresh (I:Inv X pins σ H s):H s.heap.objs.size=none:=I.af.fresh (aag _)
theorem Inv.jm (I:Inv X pins σ H s) (hH:H l=some (.lst xs)):xs.length<=sizeLine/\∃(its:List Value) (n:Nat),Vals xs its/\xs.length=its.length/\s.heap.get? l=some {cls:= .type "list",data:= .seq its.toArray n}:=by
 let⟨z,its,n,r,e⟩:=I.af l _ hH;exact⟨z,its,n,r,r.length,e⟩
theorem xZ {n:Nat} (h:n<=sizeLine):Builtin.List.listTooLong n=false:=by
 unfold Builtin.List.listTooLong;exact aaA (by lia)
end
section
variable {X:Cx}
def BC:V->List V->Hp->VK->Prop:=λx vs H Q=>∃l xs y,x= .ref l/\vs=[y]/\H l=some (.lst xs)/\xs.length<sizeLine/\Q .non (upd H l (.lst (xs++[y])))
theorem oU:C3 X "list.append" BC:=by
 intro pins s σ H x vs v us Q I rx rv h;let⟨l,xs,y,rfl,rfl,hH,hz,q⟩:=h;cases rx;let⟨u,rfl,ru⟩:=rv.one;let⟨z,its,n,r,hl,e⟩:=I.jm hH;refine ac5 F.slot_list_append ⟨_,e,rfl⟩ F.entry_list_append (F.args_list_append_2 _ _) (PySem.list_append l its.toArray n u (by rw[aak];lia)) ⟨e, ?_⟩;refine⟨.non,_,I.rD (its':=its++[u]) hH e (by simp) (r.append (.cons ru .nil)) ?_,rfl,q⟩;rw[aaY,ab4];lia
def B9:V->List V->Hp->VK->Prop:=λx vs H Q=>∃l b xs zs,x= .ref l/\vs=[.ref b]/\H l=some (.lst xs)/\H b=some (.lst zs)/\xs.length+zs.length<=sizeLine/\Q .non (upd H l (.lst (xs++zs)))
theorem wm:C3 X "list.extend" B9:=by
 intro pins s σ H x vs v us Q I rx rv h;let⟨l,b,xs,zs,rfl,rfl,hH,hB,hz,q⟩:=h;cases rx;let⟨u,rfl,ru⟩:=rv.one;cases ru;let⟨z,its,n,r,hl,e⟩:=I.jm hH;let⟨z2,its2,n2,r2,hl2,e2⟩:=I.jm hB
 have hsz:its.toArray.size+its2.toArray.size<=sizeLine:=by rw[aak,aak];lia
 have hlong:¬(!its.toArray.isEmpty&&Builtin.List.listTooLong (its.toArray.size+its2.toArray.size))=true:=by
  rw[xZ hsz,acS];exact aaG
 refine ac5 F.slot_list_extend ⟨_,e,rfl⟩ F.entry_list_extend (F.args_list_extend_2 _ _)
  (AutoSeq1.list_extend_list_list_0 l its.toArray n b its2.toArray n2 hlong (by rw[aak];lia) (by lia)) ⟨e,e2, ?_⟩
 refine⟨.non,_,I.rD (its':=its++its2) hH e (by simp) (r.append r2) ?_,rfl,q⟩;rw[aaY];lia
def xS:V->List V->Hp->VK->Prop:=λx vs H Q=>∃l xs,x= .ref l/\vs=[]/\H l=some (.lst xs)/\Q .non (upd H l (.lst xs.reverse))
theorem vd:C3 X "list.reverse" xS:=by
 intro pins s σ H x vs v us Q I rx rv h;let⟨l,xs,rfl,rfl,hH,q⟩:=h;cases rx;have hus:=rv.zero;subst hus;let⟨z,its,n,r,hl,e⟩:=I.jm hH;refine ac5 F.slot_list_reverse ⟨_,e,rfl⟩ F.entry_list_reverse (F.args_list_reverse_1 _) (AutoSeq1.list_reverse_list_0 l its.toArray n (by rw[aak];lia)) ⟨e, ?_⟩;refine⟨.non,_,I.rD (its':=its.reverse) hH e (by simp) r.reverse ?_,rfl,q⟩;rw[List.length_reverse];lia
end
section
variable {prog:Program} {w:World} {A:Around} {E:Value->Shared->Prop} {s:Shared}
end
section
variable {X:Cx}
end
end L2
namespace Att
open PySem PySem.W PySem.Calls PyProof.Rows
theorem mB {P:Params}:∀(ns:List Int) (vs:List Value),WellAll P h vs (ns.map WData.int)->IntsAre vs ns:=by
 intro ns
 induction ns with
 |nil=>
  intro vs w;rw[acj] at w;cases w;exact .nil
 |cons n ns ih=>
  intro vs w;rw[aav] at w
  cases w with
  |cons a b=>
   cases a;exact .cons _ _ (ih _ b)
theorem vZ {l:OpenLaw} {n:Nat} (hn:l.most=some n) {P:Params} {h:Heap} {args:List WData} {vals:List Value}
  (hpre:l.row.toRowW.claim.pre args=true) (hwl:WellAll P h vals args):
  ∃a vs ns,vals=[Value.ref a]/\args=[WData.list (ns.map WData.int)]/\h.get? a=some {cls:= .type "list",data:= .seq vs.toArray}/\IntsAre vs ns/\ns.length<=n:=by
 have hsh:WShape.hasAll [] args [.list .int]=true:=(pre_splitW hpre).1;have hc:l.pre.holds [] {args:=args}=true:=(pre_splitW hpre).2;let⟨d,r,rfl,h1,h2⟩:=hasAllW_cons hsh;obtain rfl:=hasAllW_nil h2;let⟨xs,rfl,h3⟩:=hasW_list h1;let⟨ns,rfl⟩:=items_int h3
 have hlen:ns.length<=n:=by
  unfold OpenLaw.pre at hc
  have h4:(WTm.not (.lt (.lit (.int (n:Int))) (.len (.arg 0)))).holds [] {args:=[.list (ns.map .int)]}=true:=by
   have h4:=(holds_andW hc).1;rw[hn] at h4;exact h4
  have h5:=condW_of h4 (w_not (w_lt w_lit (w_len_list (w_arg rfl))));rw[aay] at h5;refine Nat.le_of_not_lt λq=> ?_
  have q':(n:Int)<((ns.length:Nat):Int):=by lia
  first
   |(rw[abh q'] at h5;exact absurd h5 (by decide))
   |(simp at h5;lia)
 cases hwl with
 |cons w1 w2=>
  cases w2
  cases w1 with
  |list ho hall=>exact⟨_,_,ns,rfl,rfl,ho,mB ns _ hall,hlen⟩
theorem xr (l:OpenLaw) (args:List WData):l.row.toRowW.claim.post args (.bool true) args=true:=
 postW_of (r:=l.row.toRowW) (X:=(true==true))
  (show WShape.has [] (.bool true) .bool=true by first|rfl|decide|simp[WShape.has,WShape.arms,WShape.armsAll])
  (show (WTm.eq .res (.lit (.bool true))).value [] {args:=args,res:=some (.bool true),after:=args}=some (.bool (true==true)) from w_eq_bool (w_res rfl) w_lit) rfl
theorem sf {l:OpenLaw} {n:Nat} {q:Program} {loose:List Str} {XP:(Str->Option Value)->Heap->Prop} {YP:World->Heap->Prop} {d:DefRec}
  (hn:l.most=some n) (hdf:d.params.defaults=[])
  (call:∀(w:World) (s₀ s₁:Shared) (mg mb:Str->Option Value) (fa:Addr) (o:Obj) (pm cd doc:Value) (a:Addr) (vs:List Value) (ns:List Int),
   Ground q loose [] XP w s₀ mg mb s₁.heap->YP w s₁.heap->
   s₁.heap.get? fa=some o->o.data= .func (docDef d.name d.params d.body d.scope pm cd doc)->s₁.heap.CodeRec cd d.name->mg d.name=some (.ref fa)->
   s₁.heap.get? a=some {cls:= .type "list",data:= .seq vs.toArray}->IntsAre vs ns->ns.length<=n->s₁.gens=#[]->
   codeAny (model l.prog w) callerA (.call (.ref fa) ⟨[.ref a],[]⟩) (λr s'=>r= .ok (.ret (.bool true))/\OldK s₁.heap s'.heap/\s'.os=s₁.os/\AllBare s'.gens) s₁):
  WalkO q loose XP YP l.row.toRowW d [] (λf vs=>PySem.call f vs):=by
 intro w s₀ s₁ mg mb G Y fa o pm cd doc dV kV ho hd hcd hD hmg hg args vals as hpre hlay hrd hwl hlo;obtain rfl:dV= .none:=Dflts.none hD hdf;obtain rfl:kV= .none:=Dflts.noKw hD;let⟨a,vs,ns,rfl,rfl,hobj,hints,hlen⟩:=vZ hn hpre hwl;refine enter_call (acO (call w s₀ s₁ mg mb fa o pm cd doc a vs ns G Y ho (fd_plain hd) hcd hmg hobj hints hlen hg) λr s' hq=> ?_);let⟨rfl,h2,h3,h4⟩:=hq;exact⟨.inl ⟨.bool true, .bool true,[],rfl,λ_=>rfl, .bool true,xr l _,λ_=>⟨List.Pairwise.nil,λ_ hm=>(nomatch hm)⟩⟩,h2,h3,h4⟩
section
variable {prog:Program} {w:World} {A:Around} {E:Value->Shared->Prop} {s:Shared} {K:Frag}
end
end Att
namespace L2
open PySem PySem.Spec PyProof.Rows
theorem oO:∀{vs:List Value} {ns:List Int},IntsAre vs ns->Vals (ns.map V.int) vs
 |_,_, .nil=> .nil
 |_,_, .cons n t h=> .cons ⟨t,rfl⟩ (oO h)
def yy (H:Hp):Prop:=∀b,H b=none∨∃o xs,H b=some (.aB o (.lst xs))
theorem yr {P:Program} {w:World} {K:PySem.W.Frag} {mg mb:Str->Option Value} {CX:kF} {k:Nat} {a:Addr} {x:Str} {sp:Sp} {s₁:Shared} {vs:List Value} {ns:List Int}
  (KX:K.In s₁.heap) (hns:s₁.heap.Ns mainGlobals mg) (hb:s₁.heap.Ns builtinsNs mb) (hbb:∀x:Str,x≠"__name__"->mb x=bootBuiltins x) (hlim:s₁.heap.NoLimit) (hg:s₁.gens=#[])
  (ha:s₁.heap.get? a=some {cls:= .type "list",data:= .seq vs.toArray}) (hi:IntsAre vs ns) (hl:ns.length<=sizeLine) (hr:Room k callerA)
  (F:∀base:Heap,K.In base->base.Ns mainGlobals mg->FnOk P w K mg base CX k fa fd [x] sp) (hbind:∀(s:Shared) (u:Value),BindsTo s fd ⟨[u],[]⟩ [(x,u)])
  (hsp:∀H:Hp,yy H->bF K H a (ns.map V.int)->sp [.ref a] H (λv _=>v= .bl true) λ_ _ _=>False)
  (hCX:∀H e s',CX [] H s₁ (λ_ _ _=>False) e s'->False):
  codeAny (model P w) callerA (.call (.ref fa) ⟨[.ref a],[]⟩) (λr s'=>r= .ok (.ret (.bool true))/\OldK s₁.heap s'.heap/\s'.os=s₁.os/\AllBare s'.gens) s₁:=by
 have rv:=oO hi;have gP:=hi.length
 have core:∀H:Hp,yy H->bF K H a (ns.map V.int)->bq P w H s₁.heap->(∀b,H b≠none->b=a)->(H a≠none->K.lookup a=none)->
   codeAny (model P w) callerA (.call (.ref fa) ⟨[.ref a],[]⟩) (λr s'=>r= .ok (.ret (.bool true))/\OldK s₁.heap s'.heap/\s'.os=s₁.os/\AllBare s'.gens) s₁:=by
  intro H hO hS af hA hK;have base_of:∀{b:Addr} {o:Obj},s₁.heap.get? b=some o->H b=none->(iR s₁.heap H).get? b=some o:=λe n=>ze e n
  have noA:∀{b:Addr} {o:Obj} {es:Array DictEntry} {ep:Nat},s₁.heap.get? b=some o->o.data= .dict es ep->H b=none:=λ{b o es ep} e d=>by
   cases q:H b with
   |none=>rfl
   |some u=>
    have e':b=a:=hA b (by rw[q];simp);subst e';rw[ha] at e;cases e;have d':Data.seq vs.toArray _=Data.dict es ep:=d;cases d'
  have nsK:∀{b:Addr} {m:Str->Option Value},s₁.heap.Ns b m->(iR s₁.heap H).Ns b m:=λ{b m} z901=>by let⟨o,es,ep,e,d,r⟩:=z901;exact⟨o,es,ep,base_of e (noA e d),d,r⟩
  have hKb:K.In (iR s₁.heap H):=λb o e=>base_of (KX b o e) (by
   cases q:H b with
   |none=>rfl
   |some u=>
    have e':b=a:=hA b (by rw[q];simp);subst e'
    rw[hK (by rw[q];simp)] at e;cases e)
  have hM:Mod K mg (iR s₁.heap H):=⟨hKb,nsK hns,⟨mb,nsK hb,hbb⟩,let ⟨mc,h1,h2⟩:=hlim;⟨mc,nsK h1,h2⟩⟩
  have e0:Env0 P w K mg (iR s₁.heap H) callerA [] s₁ H:=⟨rfl,hM,λb o e=>BN e,ac8 (vN _ _),trivial,λb hb=>absurd (show b∈([]:List Addr) from hb) (by simp),af, .of_eq hg⟩;refine acO ((F _ hKb (nsK hns)).run callerA [] s₁ H ⟨[.ref a],[]⟩ [.ref a] [.ref a] _ _ hr e0 (hbind s₁ (.ref a)) (.cons rfl .nil) (hsp H hO hS)) λr s' h=> ?_
  cases r with
  |error e=>exact(hCX H e s' h).elim
  |ok fl=>
   cases fl with
   |next=>exact False.elim h
   |brk=>exact False.elim h
   |cont=>exact False.elim h
   |ret u=>
    let⟨v,H',os,bare,un,hok',r',q⟩:=h;have q':v= .bl true:=q;subst q';obtain rfl:u=Value.bool true:=r';refine⟨rfl,OldK.of_keep λb o e=> ?_,os,bare⟩
    cases q:H b with
    |none=>exact un.keep b o e q (by intro z;exact absurd (show b∈([]:List Addr) from z) (by simp)) (by simp)
    |some u=>
     rcases hO b with z|⟨ob,xs,z⟩
     ·rw[q] at z;cases z
     ·have z2:=un.aS b ob _ z;let⟨e1,_⟩:=af b _ z;let⟨e2,_⟩:=hok' b _ z2;rw[e] at e1;cases e1;exact e2
 cases hk:K.lookup a with
 |some o=>
  have e:=KX a o hk;rw[ha] at e;cases e;refine core (λ_=>none) (λ_=> .inl rfl) (.inr ⟨_,vs.toArray,_,hk,rfl,rfl,rfl,by rw[aak,gP];exact hl,by simpa using rv⟩) (λb u z=>by have z':(none:Option HO)=some u:=z;cases z') (λb z=>absurd rfl z) λz=>absurd rfl z
 |none=>
  refine core (λb=>if b=a then some (.aB {cls:= .type "list",data:= .seq vs.toArray} (.lst (ns.map V.int))) else none) (λb=> ?_) (.inl (.inr ⟨{cls:= .type "list",data:= .seq vs.toArray},if_pos rfl⟩)) (λb u z=> ?_) (λb z=> ?_) λ_=>hk
  ·by_cases hb:b=a
   ·exact .inr ⟨_,_,if_pos hb⟩
   ·exact .inl (if_neg hb)
  ·by_cases hb:b=a
   ·have z':=(if_pos hb).symm.trans z;cases z';subst hb;exact⟨ha,by rw[aay];exact hl,vs,_,rv,ha⟩
   ·have z':=(if_neg hb).symm.trans z;cases z'
  ·by_cases hb:b=a
   ·exact hb
   ·exact absurd (if_neg hb) z
theorem CA {l:PySem.W.OpenLaw} {n k:Nat} {q:Program} {loose:List Str} {XP:(Str->Option Value)->Heap->Prop} {YP:World->Heap->Prop} {d:DefRec} {K:Params->PySem.W.Frag} {CX:World->kF} {sp:World->Sp} {x:Str}
  (hn:l.most=some n) (hn2:n<=sizeLine) (hdf:d.params.defaults=[]) (hr:Room k callerA)
  (hY:∀(w:World) (h:Heap),YP w h->(K w.params).In h)
  (F:∀(w:World) (mg:Str->Option Value) (fa:Addr) (h:Heap),(K w.params).In h->h.Ns mainGlobals mg->mg d.name=some (.ref fa)->
   ∃fd:FuncData,(∀(s:Shared) (u:Value),BindsTo s fd ⟨[u],[]⟩ [(x,u)])/\
    ∀base:Heap,(K w.params).In base->base.Ns mainGlobals mg->FnOk l.prog w (K w.params) mg base (CX w) k fa fd [x] (sp w))
  (hsp:∀(w:World) (H:Hp) (a:Addr) (ns:List Int),ns.length<=n->yy H->bF (K w.params) H a (ns.map V.int)->sp w [.ref a] H (λv _=>v= .bl true) λ_ _ _=>False)
  (hCX:∀(w:World) (H:Hp) (s:Shared) (e:Value) (s':Shared),CX w [] H s (λ_ _ _=>False) e s'->False):
  PySem.W.WalkO q loose XP YP l.row.toRowW d [] (λf vs=>PySem.call f vs):=by
 refine Att.sf hn hdf λw s₀ s₁ mg mb fa o pm cd doc a vs ns G Y ho hd hcd hmg hobj hints hlen hg=> ?_;have KX:=hY w _ Y;let⟨fd,hb,hF⟩:=F w mg fa _ KX G.T.g hmg;exact yr KX G.T.g G.T.b G.T.builtins G.T.nolimit hg hobj hints (aaJ hlen hn2) hr hF hb (λH hO hS=>hsp w H a ns hlen hO hS) λH e s'=>hCX w H s₁ e s'
noncomputable def inClass (s:Stmt) (j:Nat):Stmt:=match s with
 | .ClassDef _ _ _ body _ _ _ _ _ _ _=>body.getD j (.Pass ⟨0,0,0,0⟩)
 |_=> .Pass ⟨0,0,0,0⟩
noncomputable def dj (s:Stmt):Arguments:=match s with
 | .FunctionDef _ a _ _ _ _ _ _ _ _=>a
 |_=>{posonlyargs:=[],args:=[],vararg:=none,kwonlyargs:=[],kw_defaults:=[],kwarg:=none,defaults:=[]}
noncomputable def bf (s:Stmt):List Stmt:=match s with
 | .FunctionDef _ _ b _ _ _ _ _ _ _=>b
 |_=>[]
noncomputable def av (s:Stmt):Scope:=match s with
 | .FunctionDef _ _ _ _ _ _ sc _ _ _=>sc
 |_=>{kind:= .function,names:=[],isGenerator:=false,isCoroutine:=false}
structure Fun (K:PySem.W.Frag) (x qual:Str) (st:Stmt) (f:Addr) (fd:FuncData):Prop where
 ex:∃(oc:Value) (od:Option Addr) (kV doc pm:Value) (an:Option Addr) (cdv ct:Value) (osl:Array (Option Value)),
  fd=PySem.W.fnOf x qual (dj st) (bf st) (av st) .none kV doc pm an cdv ct/\K.lookup f=some ⟨oc,od, .func fd,osl⟩/\PySem.W.codeIn K cdv qual=true
 kp:PySem.W.keepIn K (.ref f)=true
section
variable {P:Program} {w:World} {K:PySem.W.Frag} {mg:Str->Option Value} {base:Heap}
theorem Fun.binds {x qual:Str} {st:Stmt} {f:Addr} {ps:List Str} (F:Fun K x qual st f fd)
  (h:∀(kV doc pm:Value) (an:Option Addr) (cdv ct:Value) (us:List Value),us.length=ps.length->bindArgs (PySem.W.fnOf x qual (dj st) (bf st) (av st) .none kV doc pm an cdv ct) ⟨us,[]⟩=pure (ps.zip us)):Binds K fd ps []:=by
 let⟨oc,od,kV,doc,pm,an,cdv,ct,osl,rfl,lk,hcd⟩:=F.ex;exact .all (h kV doc pm an cdv ct)
theorem Dp {x qual:Str} {st:Stmt} {f:Addr} {oc:Value} {od an:Option Addr} {osl:Array (Option Value)} {kV doc pm cdv ct:Value} (l:K.lookup f=some ⟨oc,od, .func (PySem.W.fnOf x qual (dj st) (bf st) (av st) .none kV doc pm an cdv ct),osl⟩)
  (c:PySem.W.codeIn K cdv qual=true) (k:PySem.W.keepIn K (.ref f)=true):Fun K x qual st f (PySem.W.fnOf x qual (dj st) (bf st) (av st) .none kV doc pm an cdv ct):=⟨⟨oc,od,kV,doc,pm,an,cdv,ct,osl,rfl,l,c⟩,k⟩
end
theorem gq {n:Nat} (h:n<=1000):n<sizeLine:=ack h (by decide)
section
variable {X:Cx}
end
theorem nk {A B:Prop} (h:B):if false=true then A else B:=by
 rw[if_neg aaG];exact h
theorem nB {A B:Prop} (h:A):if true=true then A else B:=by
 rw[if_pos rfl];exact h
end L2
namespace L2.L3
open PySem PySem.Spec PyProof.Rows
section
variable {P:Program} {w:World} {H:Hp} {h:Heap} {a:Addr} {o:HO}
theorem wQ (x:aI P w H h a o):∃ob,h.get? a=some ob:=by
 cases o with
 |lst xs=>exact let ⟨_,_,_,_,e⟩:=x;⟨_,e⟩
 |tup xs=>exact let ⟨_,_,_,ob,e,_⟩:=x;⟨ob,e⟩
 |dK kvs=>exact let ⟨_,_,_,_,ob,_,_,e,_⟩:=x;⟨ob,e⟩
 |dT kvs=>exact let ⟨_,_,_,_,ob,_,_,e,_⟩:=x;⟨ob,e⟩
 |set S n=>exact let ⟨ob,_,_,_,e,_⟩:=x;⟨ob,e⟩
 |ins C dx fs=>exact let ⟨_,_,_,e,_⟩:=x;⟨_,e⟩
 |own y=>exact x
 |xd fs=>exact let ⟨_,⟨ob,_,_,e,_⟩,_⟩:=x;⟨ob,e⟩
 |rng lo hi=>exact let ⟨_,_,_,e⟩:=x;⟨_,e⟩
 |aB ob u=>exact⟨ob,x.1⟩
 |tbl ps=>exact⟨_,(show h.get? a=some _ from x)⟩
 |met f y=>exact⟨_,(show h.get? a=some _ from x)⟩
 |ext φ=>exact x.2.1
theorem yB (x:bq P w H h) (e:h.get? a=none):H a=none:=by
 cases q:H a with
 |none=>rfl
 |some u=>
  let⟨ob,z⟩:=wQ (x a u q);rw[e] at z;cases z
end
def wide (X:Cx) (ch:List Addr):Cx:={X with ex:=ch++X.ex}
section
variable {X:Cx} {pins:List (Addr×Obj)} {σ:St} {H H':Hp} {s s':Shared} {ch:List Addr}
theorem widen (I:Inv X pins σ H s) (hc:∀b∈ch,X.s₀.heap.get? b=none/\b≠X.env.locals/\(∀x c,X.env.cells.lookup x=some c->c≠b)/\b∉X.fs):Inv (wide X ch) pins σ H s:=by
 have ok:(wide X ch).Ok:=by
  refine⟨I.ok.mod,I.ok.kind,I.ok.glob,I.ok.blt,I.ok.above,I.ok.inj,I.ok.has,I.ok.cab,I.ok.hd,I.ok.frames,I.ok.stk, ?_,I.ok.bs,I.ok.bsz, ?_, ?_,I.ok.cR,I.ok.frf⟩
  ·intro b hb
   rcases aaD.mp hb with z|z
   ·exact⟨(hc b z).2.1,(hc b z).2.2.1⟩
   ·exact I.ok.exf b z
  ·intro b o e hb
   rcases aaD.mp hb with z|z
   ·have q:=(I.ok.bs b o e).1;rw[(hc b z).1] at q;cases q
   ·exact I.ok.noex b o e z
  ·intro b hb
   rcases aaD.mp hb with z|z
   ·exact(hc b z).2.2.2
   ·exact I.ok.exfs b z
 have un:Un X.fs (ch++X.ex) X.H₀ H X.s₀.heap s.heap:=I.base.mono (λ_ z=>z) λ_ z=>aaz _ z;exact⟨ok,I.os,I.bare,un,I.loc,I.cell,I.free,I.freeC,I.pin,I.af,I.len⟩
theorem narrow (I:Inv (wide X ch) pins σ H s) (ok:X.Ok) (hc:∀b∈ch,X.s₀.heap.get? b=none):Inv X pins σ H s:=by
 have nc:∀b o,X.s₀.heap.get? b=some o->b∉X.ex->b∉ch++X.ex:=λb o e nx z=>by
  rcases aaD.mp z with z|z
  ·rw[hc b z] at e;cases e
  ·exact nx z
 have B:Un X.fs (ch++X.ex) X.H₀ H X.s₀.heap s.heap:=I.base
 have un:Un X.fs X.ex X.H₀ H X.s₀.heap s.heap:=
  ⟨λb o e n f x=>B.keep b o e n f (nc b o e x),λb o e n f x=>B.slot b o e n f (nc b o e x),λb o e n x=>B.free b o e n (nc b o e x),λb o e x=>B.there b o e (nc b o e x),B.tups,B.aS,B.tbls⟩
 exact⟨ok,I.os,I.bare,un,I.loc,I.cell,I.free,I.freeC,I.pin,I.af,I.len⟩
theorem Ak (I:Inv X pins σ H s) (ho:s'.os=s.os) (u:Un (cB X.stack) ch H H' s.heap s'.heap) (af:bq X.prog X.w H' s'.heap) (hg:AllBare s'.gens)
  (hc:∀b∈ch,X.s₀.heap.get? b=none/\b≠X.env.locals/\(∀x c,X.env.cells.lookup x=some c->c≠b)/\b∉X.fs/\∀p∈X.pn++pins,p.1≠b):Inv X pins σ H' s':=by
 have J:Inv (wide X ch) pins σ H s:=widen I λb hb=>⟨(hc b hb).1,(hc b hb).2.1,(hc b hb).2.2.1,(hc b hb).2.2.2.1⟩;have J':Inv (wide X ch) pins σ H' s':=J.uR (ch:=ch) ho u af hg λb hb=>⟨.inl (aa7 _ hb),(hc b hb).2.1,(hc b hb).2.2.1,(hc b hb).2.2.2.2⟩;exact narrow J' I.ok λb hb=>(hc b hb).1
theorem mM {a:Addr} {o:HO} (I:Inv X pins σ H s) (hn:H a=none) (hy:X.s₀.heap.get? a=none) (h1:a≠X.env.locals) (h2:∀x c,X.env.cells.lookup x=some c->c≠a) (h3:∀p∈X.pn++pins,p.1≠a)
  (new:aI X.prog X.w (upd H a o) s.heap a o):Inv X pins σ (upd H a o) s:=by
 have ne:∀b u,X.s₀.heap.get? b=some u->b≠a:=λb u e z=>by
  rw[z,hy] at e;cases e
 have up:∀b u,H b=some u->upd H a o b=some u:=λb u q=>by
  rw[aq (bj q hn)];exact q
 have un:Un X.fs X.ex X.H₀ (upd H a o) X.s₀.heap s.heap:=by
  refine⟨I.base.keep,I.base.slot,λb u e n x=> ?_,I.base.there,λb xs q=>up _ _ (I.base.tups b xs q),λb u v q=>up _ _ (I.base.aS b u v q),λb ps q=> ?_⟩
  ·rw[aq (ne b u e)];exact I.base.free b u e n x
  ·let⟨more,z⟩:=I.base.tbls b ps q;exact⟨more,up _ _ z⟩
 refine⟨I.ok,I.os,I.bare,un,I.loc,I.cell, ?_,λx c e=> ?_,λp hp=> ?_,λb u e=> ?_,I.len⟩
 ·rw[aq h1.symm];exact I.free
 ·rw[aq (h2 x c e)];exact I.freeC x c e
 ·let⟨p1,p2,p3⟩:=I.pin p hp;exact⟨p1,by rw[aq (h3 p hp)];exact p2,p3⟩
 ·by_cases hb:b=a
  ·subst hb;rw[ao] at e;cases e;exact new
  ·rw[aq hb] at e;exact(I.af b u e).iG (λ_ _ _ q=>q) (λc q=>up _ _ q) λc xs q=>up _ _ q
theorem rK {b:Addr} {o:Obj} {vs:Array Value} (I:Inv X pins σ H s) (e:s.heap.get? b=some o) (d:o.data= .fields vs):
  b≠X.env.locals/\(∀x c,X.env.cells.lookup x=some c->c≠b)/\b∉X.fs/\b∉cB X.stack:=by
 refine⟨λz=> ?_,λx c q z=> ?_,λz=> ?_,λz=> ?_⟩
 ·let⟨m,⟨o',es,ep,ho,hd,_⟩,_⟩:=I.loc;rw[z,ho] at e;cases e;rw[hd] at d;cases d
 ·let⟨v,o',ho,hd⟩:=I.cell x c q;rw[z,e] at ho;cases ho;rw[d] at hd;cases hd
 ·let⟨_,o',ho,hd⟩:=I.cR.mem z;rw[e] at ho;cases ho;exact hd vs d
 ·let⟨_,o',ho,hd⟩:=I.stack.mem z;rw[e] at ho;cases ho;exact hd vs d
end
def ExcAt (h:Heap) (e:Addr) (cls:Value) (dx:Option Addr) (tb:Option (Addr×Value)):Prop:=
 ∃oe vs,h.get? e=some oe/\oe.cls=cls/\oe.dict=dx/\oe.data= .fields vs/\1<vs.size/\
  match tb with
  |none=>vs[1]?=some .none
  |some p=>vs[1]?=some (.ref p.1)/\p.1≠e/\∃oT ts,h.get? p.1=some oT/\oT.data= .fields ts/\ts[3]?=some p.2
theorem nH (o:Obj) (f:Array Value->Array Value):(o.mapFields f).dict=o.dict:=by
 let⟨c,d,dt,sl⟩:=o;cases dt<;>rfl
theorem pf {e:Value} {a b:Env} (q:a.frame=b.frame):noteFrame e a=noteFrame e b:=by
 unfold noteFrame PySem.frameOf;rw[q]
structure Moved (fs ch:List Addr) (h h':Heap):Prop where
 keep:∀b o,b∉fs->b∉ch->h.get? b=some o->h'.get? b=some o
 slot:∀b o,b∉ch->h.get? b=some o->∃sl,h'.get? b=some {o with slots:=sl}
theorem Moved.refl {fs:List Addr} (h:Heap):Moved fs ch h h:=⟨λ_ _ _ _ e=>e,λ_ o _ e=>⟨o.slots,e⟩⟩
theorem Moved.trans {fs:List Addr} (x:Moved fs ch h h1) (y:Moved fs ch h1 h2):Moved fs ch h h2:=
 ⟨λb o f c e=>y.keep b o f c (x.keep b o f c e),λb o c e=>let ⟨_,e1⟩:=x.slot b o c e;let ⟨sl,e2⟩:=y.slot b _ c e1;⟨sl,e2⟩⟩
theorem Moved.mono {fs ch:List Addr} (x:Moved fs ch h h') (k:∀b∈ch,b∈ch'):Moved fs ch' h h':=
 ⟨λb o f c e=>x.keep b o f (λz=>c (k b z)) e,λb o c e=>x.slot b o (λz=>c (k b z)) e⟩
theorem Moved.un {fs:List Addr} {H:Hp} (x:Moved fs ch h h'):Un fs ch H H h h':=
 ⟨λb o e _ f c=>x.keep b o f c e,λb o e _ _ c=>x.slot b o c e,λ_ _ _ n _=>n,λb o e c=>let ⟨sl,z⟩:=x.slot b o c e;⟨_,z⟩,λ_ _ q=>q,λ_ _ _ q=>q,λ_ ps q=>⟨#[],by rw[q];simp⟩⟩
theorem Moved.af {fs ch:List Addr} {P:Program} {w:World} {H:Hp} (x:Moved fs ch h h') (k:bq P w H h) (hf:∀b∈fs,H b=none) (hc:∀b∈ch,H b=none):bq P w H h':=λa o e=>by
 have nn:∀b u,H b=some u->b∉fs/\b∉ch:=λb u q=>⟨λz=>(by rw[hf b z] at q;cases q),λz=>(by rw[hc b z] at q;cases q)⟩;refine(k a o e).iG (λb u hb q=> ?_) (λ_ q=>q) λ_ _ q=>q
 rcases hb with rfl|hb
 ·exact x.keep b u (nn b _ e).1 (nn b _ e).2 q
 ·exact x.keep b u (nn b _ hb).1 (nn b _ hb).2 q
section
variable {M:Model} {A:Around} {E:Value->Shared->Prop} {s:Shared} {F env:Env} {rest:List Env} {L e:Addr} {bs:Heap} {oe:Obj} {vs:Array Value} {head:Value} {Q:Unit->Shared->Prop}
theorem zH {had:Bool} (hA:A.frames=some (F::rest)) (hF:F.frame=some L) (hl:s.heap.FunFrames bs (F::rest)) (he:s.heap.get? e=some oe) (hd:oe.data= .fields vs) (hz:1<vs.size)
  (h:∀h' T,Moved (cB (F::rest)) [e] s.heap h'->s.heap.get? T=none->h'.get? e=some (oe.mapFields (·.setIfInBounds 1 (.ref T)))->
   (∃oT ts,h'.get? T=some oT/\oT.data= .fields ts/\ts[3]?=some (rawInt L))->Q () {s with heap:=h'}):
  wpAny M A (do let a←PySem.frameOf F;let pl←entryPlaceOf L had;let b←EntryCells.newEntry head a .none (rawInt L) .none pl;setField (.ref e) 1 b) Q E s:=by
 have ne:e∉cB (F::rest):=λz=>by
  let⟨_,o',q,nf⟩:=hl.mem z;rw[he] at q;cases q;exact nf vs hd
 refine aaa (wpAny_frameOf_fun hA hl hF λg1 so=> ?_);have e1:g1.get? e=some oe:=(so.2.1 e ne).trans he;refine aaa (wpAny_entryPlaceOf λpl ip=> ?_);unfold EntryCells.newEntry newFields;refine aaa (aaS ?_ (ip.sizeOk5 _ _ _ _ _));generalize hob:({cls:= .type "traceback",dict:=none,data:= .fields ([head, .ref L, .none,rawInt L, .none]++(if pl.isEmpty then List.replicate 6 Value.none else pl)).toArray}:Obj)=ob
 have obd:∃ts,ob.data= .fields ts/\ts[3]?=some (rawInt L):=by
  rw[←hob];exact⟨_,rfl,by simp⟩
 let⟨ts,od,o3⟩:=obd;have e2:=aad (h:=g1) ob e1;refine abR e2 hd hz ?_;have nT:g1.objs.size≠e:=abz (aam e1);have dd:=abc hd (·.setIfInBounds 1 (Value.ref g1.objs.size))
 have oth:∀b o,b≠e->g1.get? b=some o->((g1.push ob).update e (Obj.mapFields (·.setIfInBounds 1 (Value.ref g1.objs.size)))).get? b=some o:=λb o nb q=>by
  rw[aaE _ _ (Ne.symm nb)];exact aad _ q
 refine h _ g1.objs.size ⟨λb o f c q=> ?_,λb o c q=> ?_⟩ (abf (by rw[so.1];exact aag _)) (aa6 _ e2 (abJ dd)) ⟨ob,ts, ?_,od,o3⟩
 ·exact oth b o (by simpa using c) ((so.2.1 b f).trans q)
 ·let⟨sl,z⟩:=so.2.2 b o q;exact⟨sl,oth b _ (by simpa using c) z⟩
 ·rw[aaE _ _ (Ne.symm nT)];refine aaj g1 ?_;rw[←hob];rfl
theorem Bw {cls:Value} {dx:Option Addr} {tb:Option (Addr×Value)} (hA:A.frames=some (F::rest)) (hF:F.frame=some L) (hv:env.frame=some L) (hl:s.heap.FunFrames bs (F::rest)) (x:ExcAt s.heap e cls dx tb)
  (h:∀h' T,Moved (cB (F::rest)) (e::(tb.map (·.1)).toList) s.heap h'->(s.heap.get? T=none∨tb.map (·.1)=some T)->ExcAt h' e cls dx (some (T,rawInt L))->Q () {s with heap:=h'}):
  wpAny M A (noteFrame (.ref e) env) Q E s:=by
 rw[pf (hv.trans hF.symm)];let⟨oe,vs,he,hc,hx,hd,hz,x⟩:=x
 have tail:∀(s1:Shared) (head:Value) (had:Bool),s1={s with heap:=s1.heap}->Moved (cB (F::rest)) (e::(tb.map (·.1)).toList) s.heap s1.heap->(∀b,s1.heap.get? b=none->s.heap.get? b=none)->s1.heap.FunFrames bs (F::rest)->s1.heap.get? e=some oe->
   wpAny M A (do let a←PySem.frameOf F;let pl←entryPlaceOf L had;let b←EntryCells.newEntry head a .none (rawInt L) .none pl;setField (.ref e) 1 b) Q E s1:=by
  intro s1 head had es mv new hl1 he1;refine zH hA hF hl1 he1 hd hz λh' T m1 nT e1 z905=> ?_;let⟨oT,ts,q1,q2,q3⟩:=z905;have dd:=abc hd (·.setIfInBounds 1 (Value.ref T))
  have r:Q () {s with heap:=h'}:=by
   refine h h' T (mv.trans (m1.mono λb hb=>by simp only[aaL] at hb;simp[hb])) (.inl (new T nT)) ⟨_,_,e1,(ac2 _ _).trans hc,(nH _ _).trans hx,dd,by simpa using hz,by simp[hz], ?_,oT,ts,q1,q2,q3⟩
   rintro rfl
   rw[he1] at nT;cases nT
  rw[es];exact r
 unfold noteFrame;simp only[hF]
 cases tb with
 |none=>
  refine aaa (aaC he hd x ?_);rw[if_neg (by decide)];exact tail s .none _ rfl (Moved.refl _) (λ_ q=>q) hl he
 |some p=>
  let⟨T,fl⟩:=p;let⟨x1,x2,oT,ts,x3,x4,x5⟩:=x;refine aaa (aaC he hd x1 ?_);rw[if_pos (show (Value.ref T !=Value.none)=true from by simp)];refine aaa (aaC x3 x4 x5 ?_)
  by_cases z:(fl==rawInt L)=true
  rotate_left
  ·rw[if_neg z];refine aaa (abR x3 x4 (Array.getElem?_eq_some_iff.mp x5).1 ?_);have oth:∀b,b≠T->(s.heap.update T (Obj.mapFields (·.setIfInBounds 3 Value.none))).get? b=s.heap.get? b:=λb hb=>aaE _ _ (Ne.symm hb);have tT:=aa6 (Obj.mapFields (·.setIfInBounds 3 Value.none)) x3 (abJ (abc x4 _));refine tail {s with heap:=s.heap.update T (Obj.mapFields (·.setIfInBounds 3 Value.none))} (.ref T) _ rfl ⟨λb o f c q=> ?_,λb o c q=> ?_⟩ (λb q=> ?_) ?_ ((oth e (Ne.symm x2)).trans he)
   ·exact(oth b (λz=>c (by simp[z]))).trans q
   ·exact⟨o.slots,(oth b (λz=>c (by simp[z]))).trans q⟩
   ·by_cases hb:b=T
    ·subst hb;have q':(s.heap.update b (Obj.mapFields (·.setIfInBounds 3 Value.none))).get? b=none:=q;rw[tT] at q';cases q'
    ·exact(oth b hb).symm.trans q
   ·refine hl.of_keeps λb o q nf=>⟨o,(oth b λz=> ?_).trans q,rfl⟩;rw[z,x3] at q;cases q;exact nf ts x4
  ·obtain rfl:fl=rawInt L:=beq_iff_eq.mp z;rw[if_pos (show (rawInt L==rawInt L)=true from abU _)];exact aaf (h s.heap T (Moved.refl _) (.inr rfl) ⟨oe,vs,he,hc,hx,hd,hz,x1,x2,oT,ts,x3,x4,x5⟩)
theorem vJ {cls:Value} {dx:Option Addr} {T:Addr} {fl:Value} {fr:Option Addr} (x:ExcAt s.heap e cls dx (some (T,fl)))
  (h:∀h',Moved [] [T] s.heap h'->ExcAt h' e cls dx (some (T,fr.elim .none λf=>rawInt f))->Q () {s with heap:=h'}):wpAny M A (setFlight (.ref e) fr) Q E s:=by
 let⟨oe,vs,he,hc,hx,hd,hz,x1,x2,oT,ts,x3,x4,x5⟩:=x;have z3:=(Array.getElem?_eq_some_iff.mp x5).1;unfold setFlight;refine aaa (aaC he hd x1 ?_);rw[if_pos (show (Value.ref T !=Value.none)=true from by simp)];refine abR x3 x4 z3 ?_;have oth:∀b,b≠T->(s.heap.update T (Obj.mapFields (·.setIfInBounds 3 (fr.elim Value.none λf=>rawInt f)))).get? b=s.heap.get? b:=λb hb=>aaE _ _ (Ne.symm hb);have dd:=abc x4 (·.setIfInBounds 3 (fr.elim Value.none λf=>rawInt f));refine h _ ⟨λb o _ c q=>(oth b (by simpa using c)).trans q,λb o c q=>⟨o.slots,(oth b (by simpa using c)).trans q⟩⟩ ⟨oe,vs,(oth e (Ne.symm x2)).trans he,hc,hx,hd,hz,x1,x2,_,_,aa6 _ x3 (abJ dd),dd,by simp[z3]⟩
end
structure Young (X:Cx) (H:Hp) (b:Addr):Prop where
 new:X.s₀.heap.get? b=none
 npn:∀p∈X.pn,p.1≠b
 free:H b=none
def cM (X:Cx):Prop:=∀b∈X.ex,∃o,(b,o)∈X.pn
def Framed (X:Cx):Prop:=∃(F:Env) (rest:List Env) (L:Addr),X.stack=F::rest/\F.frame=some L/\X.env.frame=some L
def lR (X:Cx) (E:XK) (mk:Option (Addr×Value)->Prop):Value->Shared->Prop:=λe s=>
 ∃(σ:St) (H:Hp) (ea:Addr) (cls:Value) (dx:Option Addr) (tb:Option (Addr×Value)),e= .ref ea/\Inv X.oX [] σ H s/\ExcAt s.heap ea cls dx tb/\Young X H ea/\
  (∀p,tb=some p->Young X H p.1)/\mk tb/\E cls dx H
abbrev XE (X:Cx) (E:XK):Value->Shared->Prop:=lR X E λ_=>True
abbrev XT (X:Cx) (E:XK):Value->Shared->Prop:=lR X E λtb=>∃p,tb=some p
abbrev XL (X:Cx) (E:XK):Value->Shared->Prop:=lR X E λtb=>∃T,tb=some (T, .none)
section
variable {X:Cx} {pins:List (Addr×Obj)} {σ:St} {H:Hp} {s s':Shared} {E:XK} {e:Value}
theorem oM {ch:List Addr} (I:Inv X pins σ H s) (m:Moved (cB X.stack) ch s.heap h')
  (hc:∀b∈ch,X.s₀.heap.get? b=none/\(∀p∈X.pn++pins,p.1≠b)/\H b=none/\∃o vs,s.heap.get? b=some o/\o.data= .fields vs):Inv X pins σ H {s with heap:=h'}:=by
 refine Ak (s':={s with heap:=h'}) I rfl m.un (m.af I.af I.jX λb hb=>(hc b hb).2.2.1) I.bare λb hb=> ?_;let⟨h1,h2,h3,o,vs,h4,h5⟩:=hc b hb;let⟨r1,r2,r3,_⟩:=rK I h4 h5;exact⟨h1,r1,r2,r3,h2⟩
theorem mi (hx:cM X) (I:Inv X pins σ H s) {T:Addr} (n:s.heap.get? T=none):X.s₀.heap.get? T=none/\(∀p∈X.pn,p.1≠T)/\H T=none:=by
 have pn:∀p∈X.pn,p.1≠T:=λp hp z=>by
  have q:=(I.pin p (aa7 _ hp)).1;rw[z,n] at q;cases q
 refine⟨?_,pn,yB I.af n⟩
 cases q:X.s₀.heap.get? T with
 |none=>rfl
 |some o=>
  exfalso
  by_cases hb:T∈X.ex
  ·let⟨o',m⟩:=hx T hb;exact pn _ m rfl
  ·let⟨o',z⟩:=I.base.there T o q hb;rw[n] at z;cases z
theorem iw {h:Heap} {cls:Value} {dx:Option Addr} {tb:Option (Addr×Value)} (x:ExcAt h ea cls dx tb):(∃o vs,h.get? ea=some o/\o.data= .fields vs)/\∀p,tb=some p->∃o vs,h.get? p.1=some o/\o.data= .fields vs:=by
 let⟨oe,vs,he,_,_,hd,_,x⟩:=x;refine⟨⟨oe,vs,he,hd⟩,λp hp=> ?_⟩;subst hp;let⟨_,_,oT,ts,q1,q2,_⟩:=x;exact⟨oT,ts,q1,q2⟩
end
def cU (P:Program) (w:World):kF:=λouter H s E e s'=>
 ∃(ea:Addr) (cls:Value) (dx:Option Addr) (T:Addr) (H':Hp),e= .ref ea/\s'.os=s.os/\AllBare s'.gens/\Un (cB outer) [] H H' s.heap s'.heap/\bq P w H' s'.heap/\ExcAt s'.heap ea cls dx (some (T, .none))/\
  s.heap.get? ea=none/\s.heap.get? T=none/\H' ea=none/\H' T=none/\E cls dx H'
noncomputable def aX (env:Env):List (Str×NameKind)->List (Str×Addr)->List (Str×Addr)
 |[],cs=>cs
 |(n,k)::r,cs=>aX env r (if k== .free then (n,(env.cells.lookup n).getD 0)::cs else cs)
theorem je {scope:Scope} {env:Env} (h:∀x∈scope.names,x.2= .free->∃c,env.cells.lookup x.1=some c):closureFor scope env=pure (aX env scope.names []):=by
 simp only[closureFor];generalize scope.names=l at h⊢;generalize ([]:List (Str×Addr))=cs
 induction l generalizing cs with
 |nil=>rfl
 |cons x r ih=>
  let⟨n,k⟩:=x;rw[ace];have hr:=λy hy=>h y (aaq _ hy)
  by_cases hk:k= .free
  ·subst hk;let⟨c,hc⟩:=h (n, .free) aaB rfl;have hc':List.lookup n env.cells=some c:=hc
   have e:cellOf env n=pure c:=by
    unfold cellOf;rw[hc']
   have q:=ih hr ((n,c)::cs);show (((cellOf env n>>=λd=>pure (ForInStep.yield ((n,d)::cs)))>>=_)>>=_)=pure (aX env r ((n,(List.lookup n env.cells).getD 0)::cs));rw[e,hc'];exact q
  ·have hb:(k==NameKind.free)=false:=by simpa using hk
   have q:=ih hr cs;show ((((if (k==NameKind.free)=true then _ else _):Sem _)>>=_)>>=_)=pure (aX env r (if (k==NameKind.free)=true then _ else cs));rw[hb];exact q
theorem mh {env:Env} {x:Str} {c:Addr}:∀(l:List (Str×NameKind)) (cs:List (Str×Addr)),(∀y∈l,y.2= .free->∃d,env.cells.lookup y.1=some d)->(∀y d,cs.lookup y=some d->env.cells.lookup y=some d)->(aX env l cs).lookup x=some c->env.cells.lookup x=some c
 |[],cs,_,k,e=>k x c e
 |(n,q)::r,cs,h,k,e=>by
  refine mh r _ (λy hy=>h y (aaq _ hy)) (λy d hd=> ?_) e;split at hd
  ·rename_i hq;rw[aaK] at hd;split at hd
   ·rename_i hy;let⟨d',hd'⟩:=h (n,q) aaB (by simpa using hq);have hd'':List.lookup n env.cells=some d':=hd';rw[hd''] at hd;cases hd;rw[beq_iff_eq.mp hy];exact hd''
   ·exact k y d hd
  ·exact k y d hd
theorem jt {env:Env} {x:Str}:∀(l:List (Str×NameKind)) (cs:List (Str×Addr)),((x,NameKind.free)∈l∨(cs.lookup x).isSome=true)->((aX env l cs).lookup x).isSome=true
 |[],cs,h=>h.elim (λz=>by cases z) λz=>z
 |(n,q)::r,cs,h=>by
  refine jt r _ ?_
  rcases h with h|h
  ·rcases aau.mp h with e|h
   ·cases e;right;simp
   ·exact .inl h
  ·right;split
   ·rw[aaK];split
    ·rfl
    ·exact h
   ·exact h
theorem fV {env:Env} {x:Str}:∀(l:List (Str×NameKind)),(l.map λ(n,k)=>if (k==NameKind.free&&env.scope.kind== .function&&env.kindOf n==some .cell) then (n,NameKind.cell) else (n,k)).lookup x=
  (l.lookup x).map λk=>if (k==NameKind.free&&env.scope.kind== .function&&env.kindOf x==some .cell) then NameKind.cell else k
 |[]=>rfl
 |(n,k)::r=>by
  have ih:=fV (env:=env) (x:=x) r;show List.lookup x ((if (k==NameKind.free&&env.scope.kind== .function&&env.kindOf n==some .cell)=true then (n,NameKind.cell) else (n,k))::_)=_
  cases hx:x==n with
  |true=>
   have e:x=n:=beq_iff_eq.mp hx;subst e
   by_cases hc:(k==NameKind.free&&env.scope.kind== .function&&env.kindOf x==some .cell)=true
   ·rw[if_pos hc,aaK,aaK];simp only[hx];show some NameKind.cell=some (if (k==NameKind.free&&env.scope.kind== .function&&env.kindOf x==some .cell)=true then NameKind.cell else k);rw[if_pos hc]
   ·rw[if_neg hc,aaK,aaK];simp only[hx];show some k=some (if (k==NameKind.free&&env.scope.kind== .function&&env.kindOf x==some .cell)=true then NameKind.cell else k);rw[if_neg hc]
  |false=>
   by_cases hc:(k==NameKind.free&&env.scope.kind== .function&&env.kindOf n==some .cell)=true
   ·rw[if_pos hc];simp only[aaK,hx];exact ih
   ·rw[if_neg hc];simp only[aaK,hx];exact ih
structure BlockOk (S sc:Scope):Prop where
 kind:sc.kind= .function
 cell:∀y∈sc.names,y.2≠ .cell
 names:∀y∈sc.names,y.2= .local->sc.names.lookup y.1=some .local
 free:∀y∈sc.names,y.2= .free->S.names.lookup y.1=some .cell∨S.names.lookup y.1=some .free
def AM (X:Cx) (ws:List Str) (caps:List Nat) (sc:Scope) (C:Addr) (fp:List Addr) (pn:List (Addr×Obj)) (s:Shared) (H:Hp):Cx:=
 {X with
  N:=ws++caps.map λi=>X.N.getD i Str.empty
  s₀:=s
  H₀:=H
  env:=compEnvC sc (aX X.env sc.names []) C X.env
  outer:=X.stack
  ex:=fp
  fn:=λ_=>false
  pn:=pn
  xe:=λ_ _=>False}
noncomputable def stC (ws:List Str) (caps:List Nat) (σ:St):St:=ws.map (λ_=>none)++caps.map λi=>(σ[i]?).getD none
section
variable {X:Cx} {pins:List (Addr×Obj)} {σ:St} {H:Hp} {s:Shared} {ws:List Str} {caps:List Nat} {sc:Scope} {C:Addr} {fp:List Addr} {pn:List (Addr×Obj)}
theorem qW (I:Inv X pins σ H s) {b:Addr} (f:cu X pins H b):b∉cB X.stack:=λz=>by
 let⟨_,f1,f2,_⟩:=f
 rcases aau.mp (I.qG b z) with q|q
 ·exact f1 q
 ·exact f2 q
end
def kI (X:Cx) (ifs:List Expr) (t:TT):Prop:=
 ∀(pins:List (Addr×Obj)) (s:Shared) (σ:St) (H:Hp) (Q:Bool->Hp->Prop),Inv X pins σ H s->t σ H Q->
  wpAny (model X.prog X.w) X.A (forIn ifs true λc r=>if r=true then do let ok←isTrue c X.env (eval c X.env);pure (ForInStep.yield ok) else pure (ForInStep.yield r)) (TP X pins σ Q) X.xe s
def Jj:TT:=λ_ H Q=>Q true H
theorem BS {X:Cx}:kI X [] Jj:=λpins s σ H Q I h=>aaf (show TP X pins σ Q true s from ⟨H,I,h⟩)
theorem B3 {X:Cx} {c:Expr} {t:TT} (hc:PT X c t):kI X [c] t:=λpins s σ H Q I h=>wpAny_tests_one (hc pins s σ H Q I h)
section
variable {prog:Program} {w:World} {A:Around} {R:Result->Shared->Prop} {s:Shared}
theorem wZ {it acc:Value} {env:Env} (J:Nat->Shared->Prop)
  (turn:∀n s,J n s->wpAny (model prog w) A (pyNext it) (λr s1=>match r with
   |none=>R (.ok .next) s1
   |some v=>wpAny (model prog w) A (letOwnedTupleGo tg it v) (λ_ s2=>wpAny (model prog w) A (assign tg env v) (λ_ s3=>
    wpAny (model prog w) A (forIn ifs true λc r=>if r=true then do let ok←isTrue c env (eval c env);pure (ForInStep.yield ok) else pure (ForInStep.yield r)) (λok s4=>
     if ok=true then wpAny (model prog w) A (eval elt env) (λx s5=>
      wpAny (model prog w) A (call (.builtin "list.append") [acc,x]) (λ_ s6=>∃m,m<n/\J m s6) (notedBy (model prog w) A env λe s'=>R (.error e) s') s5) (notedBy (model prog w) A env λe s'=>R (.error e) s') s4
     else∃m,m<n/\J m s4) (notedBy (model prog w) A env λe s'=>R (.error e) s') s3) (notedBy (model prog w) A env λe s'=>R (.error e) s') s2) (notedBy (model prog w) A env λe s'=>R (.error e) s') s1)
   (notedBy (model prog w) A env λe s'=>R (.error e) s') s)
  (n:Nat) (h:J n s):codeAny (model prog w) A (.compLoop (.ListComp elt [⟨tg,iter,ifs,0⟩] sc pos) 0 it acc env) R s:=by
 refine codeAny_loop rfl J (λn s hJ=> ?_) n h
 show wpAny _ A ((compTurn (.ListComp elt [⟨tg,iter,ifs,0⟩] sc pos) 0 it acc env).onRaise (λx=>do noteFrame x env;theTreesLotGoes x)) _ _ s
 refine wpAny_noted ?_;rw[compTurn_list];refine aaa (acY (aaa (ay (turn n s hJ) λr s1 q1=> ?_)))
 cases r with
 |none=>exact aaf q1
 |some v=>
  refine aaa (ay q1 λ_ s2 q2=>aaa (ay q2 λ_ s3 q3=>aaa (ay q3 λok s4 q4=> ?_)))
  cases ok with
  |false=>exact aaf ⟨rfl,q4⟩
  |true=>exact aaa (aaa (ay q4 λx s5 q5=>aaa (ay q5 λ_ s6 q6=>aaf (aaf ⟨rfl,q6⟩))))
end
def Fl (X:Cx) (pn:List (Addr×Obj)):Cx:={X with pn:=pn}
section
variable {X:Cx} {pins:List (Addr×Obj)} {σ:St} {H:Hp} {s:Shared}
theorem B4 (ok:X.Ok) (pn:List (Addr×Obj)):(Fl X pn).Ok:=
 ⟨ok.mod,ok.kind,ok.glob,ok.blt,ok.above,ok.inj,ok.has,ok.cab,ok.hd,ok.frames,ok.stk,ok.exf,ok.bs,ok.bsz,ok.noex,ok.exfs,ok.cR,ok.frf⟩
theorem rV {qn q:List (Addr×Obj)} (I:Inv X pins σ H s) (k:∀p∈qn++q,p∈X.pn++pins):Inv (Fl X qn) q σ H s:=
 ⟨B4 I.ok qn,I.os,I.bare,I.base,I.loc,I.cell,I.free,I.freeC,λp hp=>I.pin p (k p hp),I.af,I.len⟩
theorem BB {a:Addr} {xs:List V} (I:Inv X pins σ (upd H a (.lst xs)) s) (hn:H a=none):Inv X pins σ H s:=by
 have dn:∀b u,upd H a (.lst xs) b=some u->(∀ys,u≠ .lst ys)->H b=some u:=λb u q nl=>by
  by_cases hb:b=a
  ·subst hb;rw[ao] at q;cases q;exact absurd rfl (nl xs)
  ·rw[aq hb] at q;exact q
 have fn:∀b,upd H a (.lst xs) b=none->H b=none:=λb q=>by
  by_cases hb:b=a
  ·rw[hb];exact hn
  ·rw[aq hb] at q;exact q
 refine⟨I.ok,I.os,I.bare,⟨I.base.keep,I.base.slot,λb o e n x=>fn b (I.base.free b o e n x),I.base.there,λb ys q=>dn b _ (I.base.tups b ys q) λ_ z=>(by cases z),λb o u q=>dn b _ (I.base.aS b o u q) λ_ z=>(by cases z),λb ps q=> ?_⟩,
  I.loc,I.cell,fn _ I.free,λx c e=>fn c (I.freeC x c e),λp hp=> ?_,λb u e=> ?_,I.len⟩
 ·let⟨more,z⟩:=I.base.tbls b ps q;exact⟨more,dn b _ z λ_ z=>by cases z⟩
 ·let⟨p1,p2,p3⟩:=I.pin p hp;exact⟨p1,fn _ p2,p3⟩
 ·have hb:b≠a:=λz=>by
   rw[z,hn] at e;cases e
  have e':upd H a (.lst xs) b=some u:=by
   rw[aq hb];exact e
  exact(I.af b u e').iG (λ_ _ _ q=>q) (λc q=>dn c _ q λ_ z=>(by cases z)) λc ys q=>dn c _ q λ_ z=>(by cases z)
end
def runC (g:TG) (tt:TT) (te:TE) (J:It) (σ:St) (H:Hp) (Z:List V->Hp->Prop):Prop:=
 ∃W:Nat->Nat->List V->St->Hp->Prop,(∃m,W 0 m [] σ H)/\∀i m ys σ H,W i m ys σ H->
  (J.stop i H/\Z ys H)∨(J.go i H/\∃N:List V->St->Hp->Prop,(∀ys' σ' H',N ys' σ' H'->∃m',m'<m/\W (i+1) m' ys' σ' H')/\∀x H2,J.yld i H x H2->g x σ H2 λσ3 H3=>tt σ3 H3 λok H4=>
   if ok=true then te σ3 H4 λv H5=>ys.length<sizeLine/\N (ys++[v]) σ3 H5 else N ys σ3 H4)
noncomputable def lobj (its:List Value) (n:Nat):Obj:={cls:= .type "list",data:= .seq its.toArray n}
section
variable {X:Cx} {E:XK} {pins:List (Addr×Obj)} {σ:St} {H:Hp} {s:Shared} {ws:List Str} {caps:List Nat} {sc:Scope} {tg iter elt:Expr} {ifs:List Expr} {pos:Pos} {g:TG} {tt:TT} {te:TE} {it:Addr} {fp:List Addr} {tn:Nat->Heap->Prop} {J:It} {Z:List V->Hp->Prop}
 {RR:Value->Addr->Result->Shared->Prop} {E':Value->Shared->Prop}
end
section
variable {K:PySem.W.Frag} {a:Addr} {xs:List V} {g:TG} {tt:TT} {te:TE} {σ:St} {H:Hp} {Z:List V->Hp->Prop}
end
def AO (ws:List Str) (caps:List Nat) (wi:TI) (g:TG) (tt:TT) (te:TE):TE:=λσ H Q=>wi σ H λJ H1=>runC g tt te J (stC ws caps σ) H1 λys H'=>∀D,H' D=none->Q (.ref D) (upd H' D (.lst ys))
def A0 (i:Nat) (ws:List Str) (caps:List Nat) (wi:TI) (g:TG) (tt:TT) (te:TE):TS:=λD σ H=>wi σ H λJ H1=>runC g tt te J (stC ws caps σ) H1 λys H'=>∀a,H' a=none->D.nx (σ.set i (some (.ref a))) (upd H' a (.lst ys))
section
variable {X:Cx} {E:XK} {ws:List Str} {caps:List Nat} {sc:Scope} {tg iter elt:Expr} {ifs:List Expr} {pos py spos:Pos} {wi:TI} {g:TG} {tt:TT} {te:TE}
end
abbrev sG (P:Program) (w:World) (K:PySem.W.Frag) (mg:Str->Option Value) (base:Heap) (N:List Str) (qual:Str) (sc:Scope) (f:Addr) (cd:Value) (A:Around) (outer:List Env) (s:Shared) (H:Hp) (E:XK):Cx:=nM (cU P w) P w K mg base N qual sc f cd A outer s H E
section
variable {P:Program} {w:World} {K:PySem.W.Frag} {mg:Str->Option Value} {base:Heap} {N:List Str} {qual:Str} {sc:Scope} {f:Addr} {cd:Value} {A:Around} {outer:List Env} {s:Shared} {H:Hp} {E:XK}
theorem fmD:Framed (sG P w K mg base N qual sc f cd A outer s H E):=⟨_,_,_,rfl,rfl,rfl⟩
theorem hxD:cM (sG P w K mg base N qual sc f cd A outer s H E):=λb hb=>by cases hb
end
abbrev AE:List Value:=[.type "ValueError", .type "Exception", .type "BaseException", .type "object"]
section
variable {X:Cx} {E:XK} {C:Addr} {x:Str} {np cpos pos:Pos} {e:Expr} {es:List Expr} {t:TA}
end
def AJ (ea C:Addr) (dx:Option Addr):Heap->Prop:=λh=>∃o vs,h.get? ea=some o/\o.cls= .ref C/\o.dict=dx/\o.data= .fields vs
section
variable {X:Cx} {pins:List (Addr×Obj)} {σ:St} {H:Hp} {s:Shared} {ea:Addr}
end
section
variable {X:Cx} {E:XK} {B:Addr} {cn x:Str} {i:Nat} {np pos hpos:Pos} {body:List Stmt} {st:Stmt} {suite:List Stmt} {tb:XK->TS} {th:TS}
end
structure Mv (N:Addr->Prop) (H H':Hp):Prop where
 tup:∀b xs,H b=some (.tup xs)->H' b=some (.tup xs)
 lst:∀b xs,N b->H b=some (.lst xs)->H' b=some (.lst xs)
section
variable {N M:Addr->Prop} {H H' H2:Hp} {a:Addr} {xs:List V}
end
def IL (K:PySem.W.Frag):List V->Hp->VK->Prop:=λxs H Q=>∃p ys,xs=[.ref p]/\((bF K H p ys/\∀l,H l=none->Q (.ref l) (upd H l (.tup ys)))∨(cF K H p ys/\Q (.ref p) H))
theorem ye {X:Cx}:au X (.type "tuple") (IL X.K):=pA
def JY (K:PySem.W.Frag):List V->Hp->VK->Prop:=λxs H Q=>∃p ys,xs=[.ref p]/\(bF K H p ys∨cF K H p ys)/\∀l,H l=none->Q (.ref l) (upd H l (.lst ys))
theorem yi {X:Cx}:au X (.type "list") (JY X.K):=pZ
section
variable {N:Addr->Prop} {K:PySem.W.Frag} {a:Addr} {xs:List V} {σ:St} {H:Hp}
end
section
variable {prog:Program} {w:World} {A:Around} {E:Value->Shared->Prop} {s:Shared}
theorem zJ {l:Addr} {k:Nat} {xs:Array Value} {x:Value} {Q:Value->Shared->Prop} (gi:s.heap.IsTupleIter it l k) (gl:s.heap.IsTuple l xs) (gx:xs[k]?=some x)
  (q:∀h1,h1.IsTupleIter it l (k+1)->Heap.SameBut it s.heap h1->Q x {s with heap:=h1}):wpAny (model prog w) A (Builtin.SmallTypes.nextOf (.ref it)) Q E s:=by
 let⟨oi,goi,gci,gdi⟩:=id gi;let⟨ol,gol,_,nl,gdl⟩:=gl;unfold Builtin.SmallTypes.nextOf;refine aaa (aaW (name:=Str.ofString "__next__") gi.typeIs abM (abe abM gi.typeIs F.entry_tuple_iterator_next ?_ (F.args_tuple_iterator_next_1 _)));show wpAny _ _ (field (.ref it) 0>>=_) _ _ s;refine aaa (aaC goi gdi (x:= .ref l) rfl ?_);show wpAny _ _ (if (Value.ref l==Value.none)=true then _ else _) _ _ s;rw[if_neg (show¬((Value.ref l==Value.none)=true) from aaG)];show wpAny _ _ (field (.ref it) 1>>=_) _ _ s;refine aaa (aaC goi gdi (x:= .int k 0) rfl ?_);show wpAny _ _ (seqItems? (.ref l)>>=_) _ _ s;refine aaa (aaX gol gdl ?_);simp only[acs,gx];refine aaa (abR goi gdi (by simp) (aaf ⟨x,rfl,aaf (q _ ?_ (acb ..))⟩));refine⟨_,aa6 _ goi (abJ (abc gdi _)),(ac2 ..).trans gci, ?_⟩;rw[abc gdi];simp[rawInt]
theorem Cc {l:Addr} {k:Nat} {xs:Array Value} {Q:Value->Shared->Prop} (hh:A.handled=none) (gi:s.heap.IsTupleIter it l k) (gl:s.heap.IsTuple l xs) (gx:xs[k]?=none)
  (q:∀h1 e,Heap.ExtBut it s.heap h1->(∃o,h1.get? e=some o/\o.cls= .type "StopIteration")->E (.ref e) {s with heap:=h1}):wpAny (model prog w) A (Builtin.SmallTypes.nextOf (.ref it)) Q E s:=by
 let⟨oi,goi,gci,gdi⟩:=id gi;let⟨ol,gol,_,nl,gdl⟩:=gl;unfold Builtin.SmallTypes.nextOf;refine aaa (aaW (name:=Str.ofString "__next__") gi.typeIs abM (abe abM gi.typeIs F.entry_tuple_iterator_next ?_ (F.args_tuple_iterator_next_1 _)));show wpAny _ _ (field (.ref it) 0>>=_) _ _ s;refine aaa (aaC goi gdi (x:= .ref l) rfl ?_);show wpAny _ _ (if (Value.ref l==Value.none)=true then _ else _) _ _ s;rw[if_neg (show¬((Value.ref l==Value.none)=true) from aaG)];show wpAny _ _ (field (.ref it) 1>>=_) _ _ s;refine aaa (aaC goi gdi (x:= .int k 0) rfl ?_);show wpAny _ _ (seqItems? (.ref l)>>=_) _ _ s;refine aaa (aaX gol gdl ?_);simp only[acs,gx];refine aaa (acp (aaa (abR goi gdi (by simp) ?_)));show wpAny _ _ (newExc (.type "StopIteration") []>>=_) _ _ _;refine aaa ?_;simp only[newExc,newTuple];refine aaa (aaS ?_ (by size_fits));refine aaa (m:=firstArgMember _ _) (wpAny_of_eq (a:=Value.none) (by first|rfl|(simp only[firstArgMember];rfl)) ?_);refine aaS ?_ (by size_fits);simp only[raiseNew]
 refine aaa (wpAny_handled ?_);first|rw[show A.in1.handled=none from hh]|rw[hh]
 refine aaa (aaf (wpAny_throw ?_));exact q _ _ (((acb ..).extBut.push _).push _) ⟨_,aaj _ rfl,rfl⟩
end
def dP (b:Bool) (h:Heap) (it a:Addr) (i:Nat):Prop:=cond b (h.IsListIter it a i) (h.IsTupleIter it a i)
def cG (b:Bool) (h:Heap) (a:Addr) (xs:Array Value):Prop:=cond b (h.IsList a xs) (h.IsTuple a xs)
def fb (b:Bool) (K:PySem.W.Frag) (H:Hp) (a:Addr) (xs:List V):Prop:=cond b (bF K H a xs) (cF K H a xs)
theorem dP.at {b:Bool} {h h1:Heap} {a:Addr} {i:Nat} (x:dP b h it a i) (k:∀o,h.get? it=some o->h1.get? it=some o):dP b h1 it a i:=by
 cases b
 ·let⟨o,h0,r⟩:=(show h.IsTupleIter it a i from x);exact⟨o,k o h0,r⟩
 ·let⟨o,h0,r⟩:=(show h.IsListIter it a i from x);exact⟨o,k o h0,r⟩
theorem dP.live {b:Bool} {h:Heap} {a:Addr} {i:Nat} (x:dP b h it a i):∃o,h.get? it=some o/\∀v,o.data≠ .cell v:=by
 cases b
 ·let⟨o,h0,_,d⟩:=(show h.IsTupleIter it a i from x);exact⟨o,h0,λv z=>by rw[d] at z;cases z⟩
 ·let⟨o,h0,_,d⟩:=(show h.IsListIter it a i from x);exact⟨o,h0,λv z=>by rw[d] at z;cases z⟩
theorem cG.at {b:Bool} {h h1:Heap} {a:Addr} {xs:Array Value} (x:cG b h a xs) (k:∀o,h.get? a=some o->h1.get? a=some o):cG b h1 a xs:=by
 cases b
 ·let⟨o,h0,r⟩:=(show h.IsTuple a xs from x);exact⟨o,k o h0,r⟩
 ·let⟨o,h0,r⟩:=(show h.IsList a xs from x);exact⟨o,k o h0,r⟩
theorem i8 {b:Bool} {a:Addr} {i:Nat} {xs:Array Value} (hi:dP b h it a i) (p:cG b h a xs):a≠it:=λz=>by
 cases b
 ·let⟨o,e1,e2,_⟩:=(show h.IsTuple a xs from p);let⟨o',e3,e4,_⟩:=(show h.IsTupleIter it a i from hi);rw[z,e3] at e1;cases e1;rw[e2] at e4;exact absurd e4 (by decide)
 ·let⟨o,e1,e2,_⟩:=(show h.IsList a xs from p);let⟨o',e3,e4,_⟩:=(show h.IsListIter it a i from hi);rw[z,e3] at e1;cases e1;rw[e2] at e4;exact absurd e4 (by decide)
theorem gJ {w:World} {A:Around} (b:Bool) (hh:A.handled=none) (it l:Addr) (ne:l≠it) (xs:Array Value):
  Draws prog w A it [it,l] xs.size (λi v=>xs[i]?=some v) (λi h=>dP b h it l i/\cG b h l xs):=by
 cases b
 ·exact⟨λ_ _ st=>let ⟨o,h0,_⟩:=st.1.live;⟨o,h0⟩,λ_ _ _ st hk=>⟨st.1.at λo e=>hk it (by simp) o e,st.2.at λo e=>hk l (by simp) o e⟩,
   λi s Q E hi st hQ=>zJ st.1 st.2 (x:=xs[i]) (by simp[hi]) λh1 a1 a2=>hQ _ h1 s.toks (by simp[hi]) ⟨a1,st.2.at λo e=>a2.extBut _ _ ne e⟩ a2,λs Q E st hE=>Cc hh st.1 st.2 (by simp) hE⟩
 ·exact Draws.list hh it l ne xs
theorem zt {w:World} {A:Around} {E:Value->Shared->Prop} {s:Shared} {b:Bool} {l:Addr} {xs:Array Value} {Q:Value->Shared->Prop} (hl:cG b s.heap l xs)
  (q:∀h1,dP b h1 s.heap.objs.size l 0->(∀c o,s.heap.get? c=some o->h1.get? c=some o)->h1.objs.size=s.heap.objs.size+1->Q (.ref s.heap.objs.size) {s with heap:=h1}):wpAny (model prog w) A (pyIter (.ref l)) Q E s:=by
 cases b
 ·exact acX hl (q _ ⟨_,aaj _ rfl,rfl,rfl⟩ (λc o e=>aad _ e) (aaU ..))
 ·exact abO hl (q _ ⟨_,aaj _ rfl,rfl,rfl⟩ (λc o e=>aad _ e) (aaU ..))
section
variable {X:Cx} {pins:List (Addr×Obj)} {σ:St} {H:Hp} {s:Shared} {a:Addr} {xs ys:List V} {b:Bool}
theorem aL (I:Inv X pins σ H s) (h:fb b X.K H a xs):∃its:List Value,Vals xs its/\cG b s.heap a its.toArray/\xs.length<=sizeLine:=by
 cases b
 ·exact I.tuple h
 ·let⟨its,r,p,z⟩:=I.list h;exact⟨its,r,p.isList,z⟩
theorem tR (I:Inv X pins σ H s) (h:fb b X.K H a xs) (h':fb b X.K H a ys):xs=ys:=by
 cases b
 ·exact I.gF h h'
 ·exact I.iP h h'
theorem j5 {h':Heap} {t':Nat} {ch:List Addr} (I:Inv X pins σ H s) (hf:∀b∈ch,cu X pins H b) (k:∀b o,b∉ch->s.heap.get? b=some o->h'.get? b=some o):Inv X pins σ H {s with heap:=h',toks:=t'}:=by
 have nit:∀b u,H b=some u->b∉ch:=λb u e z=>by
  rw[(hf b z).1] at e;cases e
 refine I.step (g':=s.gens) (d':=s.drawn) (ch:=ch) (λb hb=>⟨(hf b hb).2.2.2.1,(hf b hb).2.1,(hf b hb).2.2.2.2.1,(hf b hb).2.2.2.2.2⟩) (λb o _ _ hc e _=>k b o hc e) (λb o _ _ hc e _=>⟨o.slots,k b o hc e⟩) (λ_ _ _ _ n=>n)
  (λb o hc e=>⟨o,k b o hc e⟩) (λ_ _ e=>e) (λ_ _ _ e=>e) (λb ps e=>⟨#[],by rw[e];simp⟩) (λm hm=> ?_) (λb u e=> ?_) I.bare
 ·let⟨o,es,ep,ho,r⟩:=hm;exact⟨o,es,ep,k _ o (λz=>(hf _ z).2.1 rfl) ho,r⟩
 ·refine(I.af b u e).iG (λc v hc q=>k c v ?_ q) (λ_ q=>q) λ_ _ q=>q
  rcases hc with z|z
  ·rw[z];exact nit b u e
  ·exact nit c _ z
theorem w4 {h':Heap} {t':Nat} {T:Addr} {ch:List Addr} {x y:V} {u v:Value} (I:Inv X pins σ H s) (hf:∀b∈ch,cu X pins H b) (k:∀b o,b∉ch->s.heap.get? b=some o->h'.get? b=some o) (hT:s.heap.objs.size<=T)
  (hp:h'.get? T=some {cls:= .type "tuple",data:= .seq #[u,v]}) (rx:RelV x u) (ry:RelV y v):Inv X pins σ (upd H T (.tup [x,y])) {s with heap:=h',toks:=t'}:=by
 have f:=I.kX hT (I.af.fresh hT);exact mM (j5 (t':=t') I hf k) f.1 (abf (aaJ I.sz hT)) f.2.1 f.2.2.2.2.1 f.2.2.2.2.2 ⟨by show 2<=sizeLine;decide,[u,v], .cons rx (.cons ry .nil),⟨_,hp,rfl,_,rfl⟩⟩
end
structure ZApart (z TI TO i1 i2:Addr) (f1 f2:List Addr):Prop where
 TIz:TI≠z
 TOz:TO≠z
 i1z:i1≠z
 i2z:i2≠z
 TIO:TI≠TO
 TI1:TI≠i1
 TI2:TI≠i2
 TO1:TO≠i1
 TO2:TO≠i2
 i12:i1≠i2
 z1:z∉f1
 o1:TO∉f1
 j1:i2∉f1
 z2:z∉f2
 o2:TO∉f2
 j2:i1∉f2
section
variable {prog:Program} {w:World} {A:Around} {E:Value->Shared->Prop} {s:Shared} {z TI TO i1 i2:Addr} {f1 f2:List Addr} {n1 n2 k:Nat} {P1 P2:Nat->Value->Prop} {S1 S2:Nat->Heap->Prop} {a b:Value}
theorem a8 {n i:Nat} {P:Nat->Value->Prop} {S:Nat->Heap->Prop} {c:Addr} (D:Draws prog w A it fp n P S) (st:S i h) (hs:Heap.ExtBut c h h1) (hc:c∉fp):S i h1:=
 D.frame _ _ _ st λd hd o e=>hs d o (λq=>hc (q▸hd)) e
theorem wd {Q:Value->Shared->Prop} (D1:Draws prog w A i1 f1 n1 P1 S1) (D2:Draws prog w A i2 f2 n2 P2 S2) (Z:ZApart z TI TO i1 i2 f1 f2) (gz:IsZip s.heap z TI TO .none) (gI:IsPair s.heap TI (.ref i1) (.ref i2)) (gO:IsPair s.heap TO a b)
  (s1:S1 k s.heap) (s2:S2 k s.heap) (k1:k<n1) (k2:k<n2)
  (q:∀x y h1 tk,P1 k x->P2 k y->IsZip h1 z TI TO (rawInt s.heap.objs.size)->IsPair h1 TO x y->S1 (k+1) h1->S2 (k+1) h1->IsPair h1 s.heap.objs.size x y->
   (∀c o,c≠z->c≠TO->c≠i1->c≠i2->s.heap.get? c=some o->h1.get? c=some o)->Q (.ref s.heap.objs.size) {s with heap:=h1,toks:=tk}):
  wpAny (model prog w) A (Builtin.«zip.__next__» ⟨[.ref z],[]⟩) (λfin t=>∃v,fin= .done (.ret v)/\Q v t) E s:=by
 show wpAny _ _ (field (.ref z) 2>>=_) _ _ _;refine aaa (aaC gz rfl (x:= .bool false) rfl ?_);show wpAny _ _ (field (.ref z) 3>>=_) _ _ _;refine aaa (aaC gz rfl (x:= .ref TI) rfl ?_);refine aaa (aaX gI rfl ?_);show wpAny _ _ (Builtin.SmallTypes.ownedTupleIsFree (.ref z)>>=_) _ _ _;refine aaa ?_;unfold Builtin.SmallTypes.ownedTupleIsFree;refine aaa (aaC gz rfl (x:= .none) rfl (aaf ?_));simp only[abL];refine aaa (acp ?_);refine aaa (aaC gz rfl (x:= .ref TO) rfl ?_);refine aaa (abx gz (by simp) λh1 gz1 e1=> ?_);replace gz1:IsZip h1 z TI TO .ellipsis:=gz1;replace e1:Heap.SameBut z s.heap h1:=e1;refine aaa ?_;simp only[ac9,adg,ace,acn];refine aaa (aaa (acA ?_));show wpAny _ _ (Builtin.SmallTypes.nextOf (.ref i1)>>=_) _ _ _;refine aaa (D1.item k _ _ _ k1 (a8 D1 s1 e1.extBut Z.z1) λx h2 t2 px s12 e2=>aaf ?_);replace e2:Heap.SameBut i1 h1 h2:=e2;have gO2:IsPair h2 TO a b:=e2.extBut _ _ Z.TO1 (e1.extBut _ _ Z.TOz gO);refine aaa (aaX (s:={s with heap:=h2,toks:=t2}) gO2 rfl ?_);refine aaa (acP (s:={s with heap:=h2,toks:=t2}) gO2 λh3 gO3 e3=> ?_);replace gO3:IsPair h3 TO x b:=gO3;replace e3:Heap.SameBut TO h2 h3:=e3;refine aaa (abQ (aaf ?_));refine aaa (aaa (acA ?_));show wpAny _ _ (Builtin.SmallTypes.nextOf (.ref i2)>>=_) _ _ _;have s23:S2 k h3:=a8 D2 (a8 D2 (a8 D2 s2 e1.extBut Z.z2) e2.extBut Z.j2) e3.extBut Z.o2;refine aaa (D2.item k _ _ _ k2 s23 λy h4 t4 py s24 e4=>aaf ?_);replace e4:Heap.SameBut i2 h3 h4:=e4;have gO4:IsPair h4 TO x b:=e4.extBut _ _ Z.TO2 gO3;refine aaa (aaX (s:={s with heap:=h4,toks:=t4}) gO4 rfl ?_);refine aaa (acP (s:={s with heap:=h4,toks:=t4}) gO4 λh5 gO5 e5=> ?_);replace gO5:IsPair h5 TO x y:=gO5
 replace e5:Heap.SameBut TO h4 h5:=e5;refine aaa (abQ (aaf (aaf ?_)));refine aaa (aaX (s:={s with heap:=h5,toks:=t4}) gO5 rfl ?_);refine aaa (wpAny_newTuple ?_)
 have sz:h5.objs.size=s.heap.objs.size:=by rw[e5.1,e4.1,e3.1,e2.1,e1.1]
 have gz5:IsZip h5 z TI TO .ellipsis:=e5.extBut _ _ Z.TOz.symm (e4.extBut _ _ Z.i2z.symm (e3.extBut _ _ Z.TOz.symm (e2.extBut _ _ Z.i1z.symm gz1)));have k5:∀c o,c≠z->c≠TO->c≠i1->c≠i2->s.heap.get? c=some o->h5.get? c=some o:=λc o c1 c2 c3 c4 e=>e5.extBut _ _ c2 (e4.extBut _ _ c4 (e3.extBut _ _ c2 (e2.extBut _ _ c3 (e1.extBut _ _ c1 e))));have s15:S1 (k+1) h5:=a8 D1 (a8 D1 (a8 D1 s12 e3.extBut Z.o1) e4.extBut Z.j1) e5.extBut Z.o1;have s25:S2 (k+1) h5:=a8 D2 s24 e5.extBut Z.o2;have zlt:z<h5.objs.size:=aam gz5;show wpAny _ _ (Builtin.SmallTypes.ownedTupleHandOut (.ref z) (.ref h5.objs.size)>>=_) _ _ _;refine aaa ?_;unfold Builtin.SmallTypes.ownedTupleHandOut;have gz6:IsZip (h5.push {cls:= .type "tuple",data:= .seq #[x,y]}) z TI TO .ellipsis:=aad _ gz5;refine aaa (abx gz6 (by simp) λh7 gz7 e7=> ?_);replace gz7:IsZip h7 z TI TO (rawInt h5.objs.size):=gz7;refine abx gz7 (by simp) λh8 gz8 e8=> ?_;replace gz8:IsZip h8 z TI TO (rawInt h5.objs.size):=gz8;have up:∀c o,c≠z->h5.get? c=some o->h8.get? c=some o:=λc o c1 e=>e8.extBut _ _ c1 (e7.extBut _ _ c1 (aad _ e));have gT:IsPair h8 h5.objs.size x y:=e8.extBut _ _ (abz zlt) (e7.extBut _ _ (abz zlt) (aaj _ rfl));rw[sz] at gz8 gT;refine aaf ⟨_,rfl, ?_⟩;show Q (.ref h5.objs.size) _;rw[sz];exact q x y h8 t4 px py gz8 (up _ _ Z.TOz gO5) (D1.frame _ _ _ s15 λd hd o e=>up d o (λq=>Z.z1 (q▸hd)) e) (D2.frame _ _ _ s25 λd hd o e=>up d o (λq=>Z.z2 (q▸hd)) e) gT λc o c1 c2 c3 c4 e=>up c o c1 (k5 c o c1 c2 c3 c4 e)
theorem yR {Q:Fin->Shared->Prop} (D1:Draws prog w A i1 f1 n1 P1 S1) (Z:ZApart z TI TO i1 i2 f1 f2) (gz:IsZip s.heap z TI TO .none) (gI:IsPair s.heap TI (.ref i1) (.ref i2)) (s1:S1 n1 s.heap)
  (q:∀h1 e,(∀c o,c≠z->c≠i1->s.heap.get? c=some o->h1.get? c=some o)->(∃o,h1.get? e=some o/\o.cls= .type "StopIteration")->E (.ref e) {s with heap:=h1}):
  wpAny (model prog w) A (Builtin.«zip.__next__» ⟨[.ref z],[]⟩) Q E s:=by
 show wpAny _ _ (field (.ref z) 2>>=_) _ _ _;refine aaa (aaC gz rfl (x:= .bool false) rfl ?_);show wpAny _ _ (field (.ref z) 3>>=_) _ _ _;refine aaa (aaC gz rfl (x:= .ref TI) rfl ?_);refine aaa (aaX gI rfl ?_);show wpAny _ _ (Builtin.SmallTypes.ownedTupleIsFree (.ref z)>>=_) _ _ _;refine aaa ?_;unfold Builtin.SmallTypes.ownedTupleIsFree;refine aaa (aaC gz rfl (x:= .none) rfl (aaf ?_));simp only[abL];refine aaa (acp ?_);refine aaa (aaC gz rfl (x:= .ref TO) rfl ?_);refine aaa (abx gz (by simp) λh1 gz1 e1=> ?_);replace gz1:IsZip h1 z TI TO .ellipsis:=gz1;replace e1:Heap.SameBut z s.heap h1:=e1;refine aaa ?_;simp only[ac9,adg,ace,acn];refine aaa (aaa (acA ?_));show wpAny _ _ (Builtin.SmallTypes.nextOf (.ref i1)>>=_) _ _ _;refine aaa (D1.done _ _ _ (a8 D1 s1 e1.extBut Z.z1) λh2 e e2 he=> ?_);let⟨oe,hoe,hce⟩:=he;replace e2:Heap.ExtBut i1 h1 h2:=e2;have gz2:IsZip h2 z TI TO .ellipsis:=e2 _ _ Z.i1z.symm gz1
 have ez:e≠z:=λq=>by
  subst q;replace hoe:h2.get? e=some oe:=hoe;rw[gz2] at hoe;cases hoe;exact absurd hce (by show Value.type "zip"≠Value.type "StopIteration";decide)
 refine abx (s:={s with heap:=h2}) gz2 (by simp) λh3 _ e3=>q h3 e (λc o c1 c2 x=>e3.extBut _ _ c1 (e2 _ _ c2 (e1.extBut _ _ c1 x))) ⟨oe,e3.extBut _ _ ez hoe,hce⟩
theorem wM {Q:Fin->Shared->Prop} (D1:Draws prog w A i1 f1 n1 P1 S1) (D2:Draws prog w A i2 f2 n2 P2 S2) (Z:ZApart z TI TO i1 i2 f1 f2) (gz:IsZip s.heap z TI TO .none) (gI:IsPair s.heap TI (.ref i1) (.ref i2)) (gO:IsPair s.heap TO a b) (s1:S1 k s.heap) (k1:k<n1) (s2:S2 n2 s.heap)
  (q:∀h1 tk e,(∀c o,c≠z->c≠TO->c≠i1->c≠i2->s.heap.get? c=some o->h1.get? c=some o)->(∃o,h1.get? e=some o/\o.cls= .type "StopIteration")->E (.ref e) {s with heap:=h1,toks:=tk}):
  wpAny (model prog w) A (Builtin.«zip.__next__» ⟨[.ref z],[]⟩) Q E s:=by
 show wpAny _ _ (field (.ref z) 2>>=_) _ _ _;refine aaa (aaC gz rfl (x:= .bool false) rfl ?_);show wpAny _ _ (field (.ref z) 3>>=_) _ _ _;refine aaa (aaC gz rfl (x:= .ref TI) rfl ?_);refine aaa (aaX gI rfl ?_);show wpAny _ _ (Builtin.SmallTypes.ownedTupleIsFree (.ref z)>>=_) _ _ _;refine aaa ?_;unfold Builtin.SmallTypes.ownedTupleIsFree;refine aaa (aaC gz rfl (x:= .none) rfl (aaf ?_));simp only[abL];refine aaa (acp ?_);refine aaa (aaC gz rfl (x:= .ref TO) rfl ?_);refine aaa (abx gz (by simp) λh1 gz1 e1=> ?_);replace gz1:IsZip h1 z TI TO .ellipsis:=gz1;replace e1:Heap.SameBut z s.heap h1:=e1;refine aaa ?_;simp only[ac9,adg,ace,acn];refine aaa (aaa (acA ?_));show wpAny _ _ (Builtin.SmallTypes.nextOf (.ref i1)>>=_) _ _ _;refine aaa (D1.item k _ _ _ k1 (a8 D1 s1 e1.extBut Z.z1) λx h2 t2 px s12 e2=>aaf ?_);replace e2:Heap.SameBut i1 h1 h2:=e2;have gO2:IsPair h2 TO a b:=e2.extBut _ _ Z.TO1 (e1.extBut _ _ Z.TOz gO);refine aaa (aaX (s:={s with heap:=h2,toks:=t2}) gO2 rfl ?_);refine aaa (acP (s:={s with heap:=h2,toks:=t2}) gO2 λh3 gO3 e3=> ?_);replace e3:Heap.SameBut TO h2 h3:=e3;refine aaa (abQ (aaf ?_));refine aaa (aaa (acA ?_));show wpAny _ _ (Builtin.SmallTypes.nextOf (.ref i2)>>=_) _ _ _;refine aaa (D2.done _ _ _ (a8 D2 (a8 D2 (a8 D2 s2 e1.extBut Z.z2) e2.extBut Z.j2) e3.extBut Z.o2) λh4 e e4 he=> ?_);let⟨oe,hoe,hce⟩:=he;replace e4:Heap.ExtBut i2 h3 h4:=e4;have gz4:IsZip h4 z TI TO .ellipsis:=e4 _ _ Z.i2z.symm (e3.extBut _ _ Z.TOz.symm (e2.extBut _ _ Z.i1z.symm gz1))
 have ez:e≠z:=λq=>by
  subst q;replace hoe:h4.get? e=some oe:=hoe;rw[gz4] at hoe;cases hoe;exact absurd hce (by show Value.type "zip"≠Value.type "StopIteration";decide)
 exact abx (s:={s with heap:=h4,toks:=t2}) gz4 (by simp) λh5 _ e5=>q h5 t2 e (λc o c1 c2 c3 c4 x=>e5.extBut _ _ c1 (e4 _ _ c4 (e3.extBut _ _ c2 (e2.extBut _ _ c3 (e1.extBut _ _ c1 x))))) ⟨oe,e5.extBut _ _ ez hoe,hce⟩
end
noncomputable def itN (b:Bool):String:=cond b "list_iterator" "tuple_iterator"
def iz (b:Bool) (l:Addr):Obj:={cls:= .type (itN b),data:= .fields #[.ref l, .int 0 0]}
theorem dP.of {b:Bool} {h:Heap} {l:Addr} (e:h.get? it=some (iz b l)):dP b h it l 0:=by
 cases b
 ·exact⟨_,e,rfl,rfl⟩
 ·exact⟨_,e,rfl,rfl⟩
theorem cG.push {b:Bool} {h:Heap} {l:Addr} {xs:Array Value} (x:cG b h l xs) (o:Obj):cG b (h.push o) l xs:=x.at λ_ e=>aad _ e
theorem cG.lt {b:Bool} {h:Heap} {l:Addr} {xs:Array Value} (x:cG b h l xs):l<h.objs.size:=by
 cases b
 ·let⟨o,e,_⟩:=(show h.IsTuple l xs from x);exact aam e
 ·let⟨o,e,_⟩:=(show h.IsList l xs from x);exact aam e
section
variable {prog:Program} {w:World} {A:Around} {E:Value->Shared->Prop} {s:Shared}
theorem nU {b:Bool} {l:Addr} {xs:Array Value} {Q:Value->Shared->Prop} (hl:cG b s.heap l xs) (q:Q (.ref s.heap.objs.size) {s with heap:=s.heap.push (iz b l)}):wpAny (model prog w) A (pyIter (.ref l)) Q E s:=by
 cases b
 ·exact acX hl q
 ·exact abO hl q
end
abbrev Ax (b1:Bool) (h:Heap) (l1:Addr):Heap:=h.push (iz b1 l1)
abbrev Ap (b1 b2:Bool) (h:Heap) (l1 l2:Addr):Heap:=(Ax b1 h l1).push (iz b2 l2)
abbrev Ae (b1 b2:Bool) (h:Heap) (l1 l2:Addr):Heap:=(Ap b1 b2 h l1 l2).push {cls:= .type "tuple",data:= .seq #[.ref h.objs.size, .ref (Ax b1 h l1).objs.size]}
abbrev AL (b1 b2:Bool) (h:Heap) (l1 l2:Addr):Heap:=(Ae b1 b2 h l1 l2).push {cls:= .type "tuple",data:= .seq #[.none, .none]}
abbrev sx (b1 b2:Bool) (h:Heap) (l1 l2:Addr):Heap:=(AL b1 b2 h l1 l2).push {cls:= .type "zip",data:= .fields #[.none, .bool false, .bool false, .ref (Ap b1 b2 h l1 l2).objs.size, .ref (Ae b1 b2 h l1 l2).objs.size]}
theorem wA (b1 b2:Bool) (l1 l2:Addr) (xs ys:Array Value):Meets (Builtin.«zip.__new__» ⟨[.type "zip", .ref l1, .ref l2],[]⟩)
  (λ_ R s=>cG b1 s.heap l1 xs/\cG b2 s.heap l2 ys/\R (.ok (.ret (.ref (AL b1 b2 s.heap l1 l2).objs.size))) {s with heap:=sx b1 b2 s.heap l1 l2}):=
 .of_wp λprog w A R s h=>by
  let⟨hp,g,d,tk,os⟩:=s;let⟨g1,g2,h⟩:=h;have hsub:=sub_zip;have k1:cG b1 (Shared.heap ⟨hp,g,d,tk,os⟩) l1 xs:=g1;have k2:cG b2 (Shared.heap ⟨hp.push (iz b1 l1),g,d,tk,os⟩) l2 ys:=cG.push g2 _
  wp_walk using nU k1,nU k2
  exact⟨_,rfl,h⟩
theorem yz {w:World} {A:Around} {E:Value->Shared->Prop} {s:Shared} {b1 b2:Bool} {xs ys:Array Value} {Q:Value->Shared->Prop} (g1:cG b1 s.heap l1 xs) (g2:cG b2 s.heap l2 ys)
  (q:∀h1,IsZip h1 (s.heap.objs.size+4) (s.heap.objs.size+2) (s.heap.objs.size+3) .none->IsPair h1 (s.heap.objs.size+2) (.ref s.heap.objs.size) (.ref (s.heap.objs.size+1))->IsPair h1 (s.heap.objs.size+3) .none .none->
   dP b1 h1 s.heap.objs.size l1 0->dP b2 h1 (s.heap.objs.size+1) l2 0->(∀c o,s.heap.get? c=some o->h1.get? c=some o)->Q (.ref (s.heap.objs.size+4)) {s with heap:=h1}):
  wpAny (model prog w) A (call (.type "zip") [.ref l1, .ref l2]) Q E s:=by
 refine callType_new F.called_zip (by decide) (F.typeCall_zip_2 _ _) (F.newCall_zip_2 _ _) (λobj=>F.args_object_init_3 obj _ _) F.entry_zip_new (wA b1 b2 l1 l2 xs ys) ⟨g1,g2, ?_⟩;have z1:(Ax b1 s.heap l1).objs.size=s.heap.objs.size+1:=aaU ..
 have z2:(Ap b1 b2 s.heap l1 l2).objs.size=s.heap.objs.size+2:=by rw[aaU,z1]
 have z3:(Ae b1 b2 s.heap l1 l2).objs.size=s.heap.objs.size+3:=by rw[aaU,z2]
 have z4:(AL b1 b2 s.heap l1 l2).objs.size=s.heap.objs.size+4:=by rw[aaU,z3]
 have y5:(sx b1 b2 s.heap l1 l2).get? (AL b1 b2 s.heap l1 l2).objs.size=some _:=aaj _ rfl;have y4:(sx b1 b2 s.heap l1 l2).get? (Ae b1 b2 s.heap l1 l2).objs.size=some _:=aad _ (aaj _ rfl);have y3:(sx b1 b2 s.heap l1 l2).get? (Ap b1 b2 s.heap l1 l2).objs.size=some _:=aad _ (aad _ (aaj _ rfl));have y2:(sx b1 b2 s.heap l1 l2).get? (Ax b1 s.heap l1).objs.size=some _:=aad _ (aad _ (aad _ (aaj _ rfl)));have y1:(sx b1 b2 s.heap l1 l2).get? s.heap.objs.size=some _:=aad _ (aad _ (aad _ (aad _ (aaj _ rfl))));show _/\_;rw[z2,z3,z4] at y5;rw[z1,z2] at y3;rw[z3] at y4;rw[z1] at y2;rw[z4];exact⟨⟨_,y5,rfl⟩,q _ y5 y3 y4 (dP.of y1) (dP.of y2) λc o x=>aad _ (aad _ (aad _ (aad _ (aad _ x))))⟩
def Az (K:PySem.W.Frag) (b1:Bool) (l1:Addr) (b2:Bool) (l2:Addr):It:=
 ⟨λi H=>∃xs ys x y,fb b1 K H l1 xs/\fb b2 K H l2 ys/\xs[i]?=some x/\ys[i]?=some y,
 λi H x H'=>∃T u v,x= .ref T/\H T=none/\H'=upd H T (.tup [u,v])/\(∀xs,fb b1 K H l1 xs->xs[i]?=some u)/\∀ys,fb b2 K H l2 ys->ys[i]?=some v,
 λi H=>∃xs,fb b1 K H l1 xs/\(xs.length=i∨i<xs.length/\∃ys,fb b2 K H l2 ys/\ys.length=i)⟩
theorem yG {P:Program} {w:World} {K:PySem.W.Frag} {x1} (b1 b2:Bool) (l1 l2 z TI TO i1 i2:Addr) (Z:ZApart z TI TO i1 i2 [i1,l1] [i2,l2]):
  Turn P w K (.Tuple elts x1 pos) (Az K b1 l1 b2 l2) [z,TI,TO,i1,i2] z (λi h=>IsZip h z TI TO .none/\IsPair h TI (.ref i1) (.ref i2)/\(∃a b,IsPair h TO a b)/\dP b1 h i1 l1 i/\dP b2 h i2 l2 i) where
 mem:=by simp
 obj:=λi h st c hc=>by
  let⟨g1,g2,⟨a,b,g3⟩,g4,g5⟩:=st;simp only[aau,abS,adb] at hc
  rcases hc with rfl|rfl|rfl|rfl|rfl
  ·exact⟨_,g1,λv q=>by cases q⟩
  ·exact⟨_,g2,λv q=>by cases q⟩
  ·exact⟨_,g3,λv q=>by cases q⟩
  ·exact g4.live
  ·exact g5.live
 keep:=λi h h' st k=>by
  let⟨g1,g2,⟨a,b,g3⟩,g4,g5⟩:=st;exact⟨k z (by simp) _ g1,k TI (by simp) _ g2,⟨a,b,k TO (by simp) _ g3⟩,g4.at λo q=>k i1 (by simp) o q,g5.at λo q=>k i2 (by simp) o q⟩
 item:=by
  intro X hP hw hK hc i pins s σ H E I hf st hg;subst hP hw hK;let⟨g1,g2,⟨a,b,g3⟩,g4,g5⟩:=st;let⟨xs,ys,x,y,hx,hy,ex,ey⟩:=hg;let⟨its,rv,p,_⟩:=aL I hx;let⟨jts,rw',p',_⟩:=aL I hy;let⟨u,hu,ru⟩:=rv.get ex;let⟨v,hv,rv'⟩:=rw'.get ey;have D1:=gJ (prog:=X.prog) (w:=X.w) (A:=X.A.in1) b1 (I.ok.hd hc) i1 l1 (i8 g4 p) its.toArray;have D2:=gJ (prog:=X.prog) (w:=X.w) (A:=X.A.in1) b2 (I.ok.hd hc) i2 l2 (i8 g5 p') jts.toArray
  have q1:i<its.toArray.size:=by
   have:=(aae.mp hu).1;simpa using this
  have q2:i<jts.toArray.size:=by
   have:=(aae.mp hv).1;simpa using this
  have hT:s.TypeIs (.ref z) "zip":=⟨_,g1,rfl⟩;unfold pyNext
  refine aaa (acB (aaW (name:=Str.ofString "__next__") hT acL (abe acL hT F.entry_zip_next
   (wd D1 D2 Z g1 g2 g3 ⟨g4,p⟩ ⟨g5,p'⟩ q1 q2 λu' v' h1 tk pu pv z1 z2 z3 z4 z5 hk=>aaf ?_) (F.args_zip_next_1 _))))
  have eu:u'=u:=by
   have h0:its[i]?=some u':=by simpa using pu
   rw[hu] at h0;exact(Option.some.inj h0).symm
  have ev:v'=v:=by
   have h0:jts[i]?=some v':=by simpa using pv
   rw[hv] at h0;exact(Option.some.inj h0).symm
  subst eu ev
  have lt:∀c∈[z,TI,TO,i1,i2],c<s.heap.objs.size:=λc hc=>by
   simp only[aau,abS,adb] at hc
   rcases hc with rfl|rfl|rfl|rfl|rfl
   ·exact aam g1
   ·exact aam g2
   ·exact aam g3
   ·let⟨o,q,_⟩:=g4.live;exact aam q
   ·let⟨o,q,_⟩:=g5.live;exact aam q
  refine⟨_,rfl,wpAny_letOwnedTupleGo_zip (s:={s with heap:=h1,toks:=tk}) z1 λh2 y1 y2=> ?_⟩;replace y2:Heap.SameBut z h1 h2:=y2;have hT2:h2.get? s.heap.objs.size=some {cls:= .type "tuple",data:= .seq #[u',v']}:=(y2.2 _ (abz (lt z (by simp)))).trans z5;refine⟨.ref s.heap.objs.size,upd H s.heap.objs.size (.tup [x,y]),w4 (s:=s) (h':=h2) (t':=tk) I hf (λc o hc q=> ?_) (aag _) hT2 ru rv',rfl,⟨_,x,y,rfl,I.fresh,rfl,λzs hz=> ?_,λzs hz=> ?_⟩,⟨y1, ?_,⟨_,_,(y2.2 _ Z.TOz).trans z2⟩,z3.1.at λo q=>(y2.2 _ Z.i1z).trans q,z4.1.at λo q=>(y2.2 _ Z.i2z).trans q⟩,λc hc=> ?_⟩
  ·have c1:c≠z:=λq=>hc (by simp[q]);exact(y2.2 c c1).trans (hk c o c1 (λq=>hc (by simp[q])) (λq=>hc (by simp[q])) (λq=>hc (by simp[q])) q)
  ·rw[tR I hz hx];exact ex
  ·rw[tR I hz hy];exact ey
  ·exact(y2.2 _ Z.TIz).trans (hk _ _ Z.TIz Z.TIO Z.TI1 Z.TI2 g2)
  ·rw[aq (aaw (lt c hc))];exact(hf c hc).1
 done:=by
  intro X hP hw hK hc i pins s σ H E I hf st hg;subst hP hw hK;let⟨g1,g2,⟨a,b,g3⟩,g4,g5⟩:=st;let⟨xs,hx,ex⟩:=hg;let⟨its,rv,p,_⟩:=aL I hx;have D1:=gJ (prog:=X.prog) (w:=X.w) (A:=X.A.in1) b1 (I.ok.hd hc) i1 l1 (i8 g4 p) its.toArray;have ln:=rv.length;have hT:s.TypeIs (.ref z) "zip":=⟨_,g1,rfl⟩;unfold pyNext;refine aaa (acB (aaW (name:=Str.ofString "__next__") hT acL (abe acL hT F.entry_zip_next ?_ (F.args_zip_next_1 _))))
  rcases ex with ex|⟨ex,ys,hy,ey⟩
  ·have en:i=its.toArray.size:=by
    simp;lia
   refine yR D1 Z g1 g2 (by rw[←en];exact⟨g4,p⟩) λh1 e hk he=> ?_;let⟨oe,h0,h2⟩:=he;refine aaa (wpAny_isInstance (T:="StopIteration") (b:=true) ⟨oe,h0,h2⟩ isSubtype_stop ?_);exact aaf ⟨rfl,j5 (t':=s.toks) I hf λc o hc q=>hk c o (λq=>hc (by simp[q])) (λq=>hc (by simp[q])) q⟩
  ·let⟨jts,rw',p',_⟩:=aL I hy;have D2:=gJ (prog:=X.prog) (w:=X.w) (A:=X.A.in1) b2 (I.ok.hd hc) i2 l2 (i8 g5 p') jts.toArray;have ln2:=rw'.length
   have en:i=jts.toArray.size:=by
    simp;lia
   refine wM D1 D2 Z g1 g2 g3 ⟨g4,p⟩ (by simp;lia) (by rw[←en];exact⟨g5,p'⟩) λh1 tk e hk he=> ?_;let⟨oe,h0,h2⟩:=he;refine aaa (wpAny_isInstance (T:="StopIteration") (b:=true) ⟨oe,h0,h2⟩ isSubtype_stop ?_);exact aaf ⟨rfl,j5 (t':=tk) I hf λc o hc q=>hk c o (λq=>hc (by simp[q])) (λq=>hc (by simp[q])) (λq=>hc (by simp[q])) (λq=>hc (by simp[q])) q⟩
 self:=λ_ _ _ _ _ st h=>wpAny_pyIter_zip st.1 h
theorem zap {n l1 l2:Nat} (h1:l1<n) (h2:l2<n):ZApart (n+4) (n+2) (n+3) n (n+1) [n,l1] [n+1,l2]:=by
 constructor
 all_goals
  intro q
  try simp only[aau,abS,adb] at q
  have q':_:=q
  first|(exact absurd q (by show¬(_:Nat)=_;lia))|(rcases q with q|q<;>exact absurd q (by show¬(_:Nat)=_;lia))
def Jg (K:PySem.W.Frag) (ta:TA):TI:=λσ H R=>ta σ H λvs H1=>∃a c b1 b2,vs=[.ref a, .ref c]/\(∃xs,fb b1 K H1 a xs)/\(∃ys,fb b2 K H1 c ys)/\R (Az K b1 a b2 c) H1
theorem CN {X:Cx} {a c:Expr} {x1} {tp:Pos} {ta:TA} {p:Pos} (hg:Gl X "zip") (hm:X.mg "zip"=none) (ha:PA X [a,c] ta) (hs:starEach [a,c] X.env=[(false,eval a X.env),(false,eval c X.env)]:=by rfl) (hs2:starEach [c] X.env=[(false,eval c X.env)]:=by rfl):
  PI X (.Tuple elts x1 tp) (.Call (.Name "zip" p) [a,c] [] pos) (Jg X.K ta):=by
 intro pins s σ H R I h;refine Call_ (fZ I hg hm PyProof.Rows.Boot.«zip» (ab7 (ay (ha pos pins s σ H _ I h) λus s1 z902=> ?_) (by rw[hs,hs2]) (by rw[hs2];rfl)));let⟨vs,H1,I1,r1,q1⟩:=z902;let⟨l1,l2,b1,b2,e,⟨xs,hx⟩,⟨ys,hy⟩,q⟩:=q1;subst e
 cases r1 with
 |cons r rr=>
  cases rr with
  |cons r' rr=>
   cases rr;cases r;cases r';let⟨its,rv,g1,_⟩:=aL I1 hx;let⟨jts,rw',g2,_⟩:=aL I1 hy;have lt1:=g1.lt;have lt2:=g2.lt;refine yz g1 g2 λh1 z1 z2 z3 z4 z5 hk=>wpAny_pyIter_zip (s:={s1 with heap:=h1}) z1 ?_;refine⟨s1.heap.objs.size+4,[s1.heap.objs.size+4,s1.heap.objs.size+2,s1.heap.objs.size+3,s1.heap.objs.size,s1.heap.objs.size+1],_,_,H1,rfl,I1.kept (t':=s1.toks) hk,yG b1 b2 l1 l2 _ _ _ _ _ (zap lt1 lt2),⟨z1,z2,⟨_,_,z3⟩,z4,z5⟩,λb hb=> ?_,q⟩
   have le:s1.heap.objs.size<=b:=by
    simp only[aau,abS,adb] at hb
    rcases hb with rfl|rfl|rfl|rfl|rfl
    ·exact acD _ _
    ·exact acD _ _
    ·exact acD _ _
    ·exact aag _
    ·exact acD _ _
   exact I1.kX le (I1.af.fresh le)
def Ac (K:PySem.W.Frag):List V->Hp->VK->Prop:=λxs H Q=>∃x t n b,xs=[x, .ty n]/\eI K H x t/\PySem.W.kitOne K t (.type n)=some b/\Q (.bl b) H
theorem xa {X:Cx}:au X (.builtin "isinstance") (Ac X.K):=by
 intro pins s σ H xs us Q I r h;let⟨x,t,n,b,rfl,ty,kb,q⟩:=h;let⟨u,v,rfl,r1,r2⟩:=Vals.two r;cases r2;exact xC I r1 ty kb λtk=>⟨.bl b,H,I.tok tk,rfl,q⟩
def JP (K:PySem.W.Frag):List V->Hp->VK->Prop:=λxs H Q=>∃p,∃ys:List Bool,xs=[.ref p]/\bF K H p (ys.map V.bl)/\Q (.bl (ys.all id)) H
theorem range_all (ys:List Bool):(List.range ys.length).all (λi=>(ys[i]?).getD true)=ys.all id:=by
 rw[aaN,abo,abo];constructor
 ·intro h y hy;let⟨i,hi,e⟩:=List.getElem_of_mem hy;have:=h i (abr.mpr hi);rw[aac hi,e] at this;exact this
 ·intro h i hi;have hi':=abr.mp hi;rw[aac hi'];exact h _ (List.getElem_mem hi')
theorem yN {X:Cx} (hc:X.calm=true):au X (.builtin "all") (JP X.K):=by
 intro pins s σ H xs us Q I r h;let⟨p,ys,rfl,hp,q⟩:=h;let⟨u,rfl,r1⟩:=Vals.one r;cases r1;let⟨its,rv,g,hz⟩:=I.list hp
 have lt:p<s.heap.objs.size:=by
  let⟨o,n,e,_⟩:=g;exact aam e
 have hl:its.length=ys.length:=by rw[←rv.length,aay]
 have hsz:its.toArray.size=ys.length:=by rw[aak,hl]
 refine call_all_walk (abO g.isList ⟨s.heap.objs.size,[s.heap.objs.size,p],[s.heap.objs.size],its.toArray.size,_,_,λi=>(ys[i]?).getD true,rfl,Walks.list (A:=X.A.in1) (I.ok.hd hc) s.heap.objs.size p (aaw lt) its.toArray,
  ⟨⟨_,aaj _ rfl,rfl,rfl⟩,g.isList.push _⟩,λi v s1 Q1 E1 hv hq=> ?_,λh' tk hk=> ?_⟩)
 ·have hv':its[i]?=some v:=by simpa using hv
  have hi:i<ys.length:=by
   have:=(aae.mp hv').1;lia
  let⟨w',hw,rw'⟩:=rv.get (i:=i) (x:=V.bl ys[i]) (by rw[aaO,aac hi];rfl);rw[hv'] at hw;cases hw;cases rw';replace hq:Q1 ((ys[i]?).getD true) s1:=hq;rw[aac hi] at hq;exact abi hq
 ·refine⟨.bl (ys.all id),H,I.kept (t':=tk) λb o e=>hk b o (λz=> ?_) (aad _ e), ?_,q⟩
  ·rw[aaL.mp z] at e;exact absurd (aam e) (aa3 _)
  ·show Value.bool _=_;rw[hsz,range_all]
section
variable {prog:Program} {w:World} {A:Around} {E:Value->Shared->Prop} {s:Shared}
theorem p7 {xs:Array (Int×Tok)} {v:Value} (hn:0<xs.size) (h:(intItems xs)[argBest (λi j=>decide (numAt xs i<numAt xs j)) (xs.size-1)]?=some v):∃m t,v= .int m t/\(xs.toList.map (·.1)).min?=some m:=by
 let⟨t,rfl⟩:=intItems_at h;let⟨h1,h2⟩:=argBest_lt (numAt xs) (xs.size-1);refine⟨_,t,rfl,List.min?_eq_some_iff.mpr ⟨?_,λb hb=> ?_⟩⟩
 ·rw[numAt_eq];exact PySem.getD_mem (by rw[aay,aa1];lia)
 ·let⟨j,hj,rfl⟩:=mem_getD hb;rw[←numAt_eq];exact h2 j (by simp at hj;lia)
noncomputable abbrev oq:List (Str×Value):=[(Str.ofString "default", .none)]
theorem wY (a:Value):argsOk "min" ⟨[a],oq⟩:=by unfold argsOk;kernel_rfl
section
variable {R:Result->Shared->Prop} {I:Addr} {fp wr:List Addr} {n:Nat} {P:Nat->Value->Prop} {St:Nat->Heap->Prop}
theorem xk (W:PySem.Walks prog w A.in1 I fp wr n P St) (bt:Nat->Nat->Bool) (hcmp:CmpOf prog w A.in1 .Lt P bt) (S:Addr) (hSf:S∉fp):∀(k j:Nat) (s:Shared) (vb:Value) (c:Nat),n=j+1+k->St (j+1) s.heap->P (argBest bt j) vb->
  s.heap.get? S=some {cls:= .type "list",dict:=none,data:= .seq #[vb,vb] c,slots:=#[]}->(∀v h' tk,P (argBest bt (n-1)) v->(∀b o,b∉wr->b≠S->s.heap.get? b=some o->h'.get? b=some o)->R (.ok (.ret v)) {s with heap:=h',toks:=tk})->
  codeAny (model prog w) A (.builtin "min.loop" ⟨[.ref I, .none, .ref S],oq⟩) R s:=by
 have hw:S∉wr:=λh=>hSf (W.sub _ h)
 have hn:(toString "min"++toString ".loop":String)="min.loop":=by decide
 intro k
 induction k with
 |zero=>
  intro j s vb c hk hst hP hS hR;refine ach F.entry_min_loop ?_;rw[abP abE _];show wpAny _ A.in1 (seqItems? (.ref S)>>=λx=>_) _ _ s;refine aaa (aaX hS rfl ?_);show wpAny _ A.in1 (tryCatch (pyNext (.ref I)) _>>=λx=>_) _ _ s;refine aaa (ab6 (W.done s _ _ ((show j+1=n by lia)▸hst) λh' tk k1=> ?_));show wpAny _ A.in1 (updateSeq S (λ_=>#[])>>=λx=>_) _ _ _;refine aaa (wpAny_updateSeq (k1 S _ hw hS) rfl (aaa (abQ (aaf ?_))));exact hR vb _ tk (by rw[hk];exact hP) λb o b1 b2 e=>(aaE _ _ (Ne.symm b2)).trans (k1 b o b1 e)
 |succ k ih=>
  intro j s vb c hk hst hP hS hR;refine ach F.entry_min_loop ?_;rw[abP abE _];show wpAny _ A.in1 (seqItems? (.ref S)>>=λx=>_) _ _ s;refine aaa (aaX hS rfl ?_);show wpAny _ A.in1 (tryCatch (pyNext (.ref I)) _>>=λx=>_) _ _ s;refine aaa (ab6 (W.item (j+1) s _ _ (by lia) hst λv h' tk hv st' k1=> ?_));have hS':=k1 S _ hw hS;show wpAny _ A.in1 (tryCatch (holding [v,v] (richCompare .Lt v vb>>=_)) _>>=λx=>_) _ _ _;refine aaa (ab6 (aa8 (aaa (hcmp (j+1) (argBest bt j) v vb _ _ _ hv hP (aaa (aa8 (abi (aaa (abQ (aaf ?_))))))))))
  cases hb:bt (j+1) (argBest bt j) with
  |true=>
   simp only[abL];refine aaa (wpAny_updateSeq hS' rfl (aaa (abQ ?_)));rw[hn]
   exact aaf ⟨aca abE _,ih (j+1) _ v _ (by lia) (W.frame _ _ _ st' λb hbf o e=>(aaE _ _ (λh:S=b=>hSf (by rw[h];exact hbf))).trans e) (by simp only[argBest,hb,abL];exact hv) (aa6 _ hS' rfl)
    λv' h2 t2 hp k2=>hR v' h2 t2 hp λb o b1 b2 e=>k2 b o b1 b2 ((aaE _ _ (Ne.symm b2)).trans (k1 b o b1 e))⟩
  |false=>
   simp only[abt,abq];refine aaa (abQ ?_);rw[hn];exact aaf ⟨aca abE _,ih (j+1) _ vb c (by lia) st' (by simp only[argBest,hb,abt,abq];exact hP) hS' λv' h2 t2 hp k2=>hR v' h2 t2 hp λb o b1 b2 e=>k2 b o b1 b2 (k1 b o b1 e)⟩
theorem uu (W:PySem.Walks prog w A.in1 I fp wr n P St) (bt:Nat->Nat->Bool) (hcmp:CmpOf prog w A.in1 .Lt P bt) (S:Addr) (hSf:S∉fp) {c:Nat} (hst:St 0 s.heap) (hS:s.heap.get? S=some {cls:= .type "list",dict:=none,data:= .seq #[] c,slots:=#[]})
  (hR:∀v h' tk,(if n=0 then v= .none else P (argBest bt (n-1)) v)->(∀b o,b∉wr->b≠S->s.heap.get? b=some o->h'.get? b=some o)->R (.ok (.ret v)) {s with heap:=h',toks:=tk}):
  codeAny (model prog w) A (.builtin "min.loop" ⟨[.ref I, .none, .ref S],oq⟩) R s:=by
 have hw:S∉wr:=λh=>hSf (W.sub _ h)
 have hn:(toString "min"++toString ".loop":String)="min.loop":=by decide
 refine ach F.entry_min_loop ?_;rw[abP abE _];show wpAny _ A.in1 (seqItems? (.ref S)>>=λx=>_) _ _ s;refine aaa (aaX hS rfl ?_);show wpAny _ A.in1 (tryCatch (pyNext (.ref I)) _>>=λx=>_) _ _ s
 by_cases h0:n=0
 ·refine aaa (ab6 (W.done s _ _ (h0▸hst) λh' tk k1=> ?_));show wpAny _ A.in1 (rule _>>=λx=>_) _ _ _;exact aaa (acp (aaf (hR .none h' tk (by rw[if_pos h0]) λb o b1 b2 e=>k1 b o b1 e)))
 ·refine aaa (ab6 (W.item 0 s _ _ (by lia) hst λv h' tk hv st' k1=> ?_));have hS':=k1 S _ hw hS;show wpAny _ A.in1 (updateSeq S (λ_=>#[v,v])>>=λx=>_) _ _ _;refine aaa (wpAny_updateSeq hS' rfl ?_);rw[hn]
  exact aaf ⟨aca abE _,xk W bt hcmp S hSf (n-1) 0 _ v _ (by lia) (W.frame _ _ _ st' λb hbf o e=>(aaE _ _ (λh:S=b=>hSf (by rw[h];exact hbf))).trans e) hv (aa6 _ hS' rfl)
   λv' h2 t2 hp k2=>hR v' h2 t2 (by rw[if_neg h0];exact hp) λb o b1 b2 e=>k2 b o b1 b2 ((aaE _ _ (Ne.symm b2)).trans (k1 b o b1 e))⟩
end
end
noncomputable def p8 (ns:List Int):V:=(ns.min?.map V.int).getD .non
variable {X:Cx} {pins:List (Addr×Obj)} {σ:St} {H:Hp}
theorem vK {a:Addr} {ns:List Int} {Q:VK} (hc:X.calm=true) (I:Inv X pins σ H s) (ha:bF X.K H a (ns.map V.int)) (q:Q (p8 ns) H):wpAny (model X.prog X.w) X.A (call (.builtin "min") [.ref a] oq) (EP X pins σ Q) E s:=by
 have hn:(toString "min"++toString ".loop":String)="min.loop":=by decide
 let⟨its,rv,g,hz⟩:=I.list ha;have hi:=intsAre_of rv;let⟨xs,hx⟩:=hi.allInts.items;have hl:s.heap.IsList a (intItems xs):=hx▸g.isList
 have e1:ns=xs.toList.map (·.1):=by
  rw[←nums_intItems,←hx];exact(show numsOf its.toArray.toList=ns from hi.numsOf).symm
 have lt:a<s.heap.objs.size:=by
  let⟨o,e,_⟩:=hl;exact aam e
 refine ac6 (codeAny_call_builtin F.plain_min F.entry_min ?_);simp only[checkBuiltinCall,F.kind_min]
 have hb:wpAny (model X.prog X.w) X.A.in1 (Builtin.«min» ⟨[.ref a],oq⟩) (λfin s'=>match fin with
   | .done f=>(match (Except.ok f:Result) with| .ok (.ret v)=>EP X pins σ Q v s'| .ok _=>False| .error e=>E e s')
   | .again c'=>c'.quiet=true/\codeAny (model X.prog X.w) X.A c' (λr s'=>match r with| .ok (.ret v)=>EP X pins σ Q v s'| .ok _=>False| .error e=>E e s') s') E s:=by
  show wpAny _ X.A.in1 (Builtin.Builtins.bindParams "min" ["key","default"] 0 ⟨[],oq⟩>>=λx=>_) _ _ s;refine aaa (wpAny_of_eq (show Builtin.Builtins.bindParams "min" ["key","default"] 0 ⟨[],oq⟩=pure [none,some .none] from rfl) ?_);refine aaa (aaf (aaa (abO hl (aaa (aaS ?_)))));rw[hn];have W:=PySem.Walks.list (prog:=X.prog) (w:=X.w) (A:=X.A.in1) (I.ok.hd hc) s.heap.objs.size a (aaw lt) (intItems xs);have z1:(s.heap.push {cls:= .type "list_iterator",data:= .fields #[.ref a, .int 0 0]}).objs.size=s.heap.objs.size+1:=aaU ..;refine aaf ⟨aca abE _,uu W _ (CmpOf.ints_lt (numAt xs) (λ_ _=>intItems_at)) _ ?_ (W.frame _ _ _ ⟨⟨_,aaj _ rfl,rfl,rfl⟩,hl.push _⟩ λd _ o e=>aad _ e) (aaj _ rfl) λx h' tk hP hk=> ?_⟩
  ·show¬_∈[_,_];simp only[aau,abS,adb];show¬((Heap.push _ _).objs.size=_∨(Heap.push _ _).objs.size=_);rw[z1];exact λh=>h.elim (λh=>absurd h (abz (ab8 _))) λh=>absurd h (abz (ac3 lt))
  ·refine⟨p8 ns,H,I.kept (t':=tk) λd o e=> ?_, ?_,q⟩
   ·have ld:d<s.heap.objs.size:=aam e;exact hk d o (λhm=>aaw ld (aaL.mp hm)) (z1▸aaw (ac3 ld)) (aad _ (aad _ e))
   ·have sz:(intItems xs).size=xs.size:=by simp[intItems]
    rw[sz] at hP
    by_cases h0:xs.size=0
    ·rw[if_pos h0] at hP;subst hP;have:xs.toList=[]:=abX.mp (by simpa using h0);rw[e1,this];rfl
    ·rw[if_neg h0] at hP;let⟨m,t,rfl,e2⟩:=p7 (Nat.pos_of_ne_zero h0) hP;rw[e1];unfold p8;rw[e2];exact⟨t,rfl⟩
 cases hsig:Manifest.signature? "min" with
 |none=>exact aaf hb
 |some sig=>
  have ha':Bind.checkArgs "min" sig ⟨[.ref a],oq⟩=pure ():=by simpa only[argsOk,hsig] using wY (.ref a)
  simp only[ha'];exact aaf hb
section
variable {X:Cx}
theorem BP {σ:St} {H:Hp} {s:Shared} {p:Addr} {ns:List Int} (I:Inv X pins σ H s) (hp:bF X.K H p (ns.map V.int)):∃xs,s.heap.IsList p (intItems xs)/\ns=xs.toList.map (·.1):=by
 let⟨its,rv,g,hz⟩:=I.list hp;have hi:=intsAre_of rv;let⟨xs,hx⟩:=hi.allInts.items;refine⟨xs,hx▸g.isList, ?_⟩;rw[←nums_intItems,←hx];exact(show numsOf its.toArray.toList=ns from hi.numsOf).symm
theorem wK (hc:X.calm=true):au X (.builtin "min") (λxs H Q=>∃p,∃ns:List Int,∃m,xs=[.ref p]/\bF X.K H p (ns.map V.int)/\ns.min?=some m/\Q (.int m) H):=by
 intro pins s σ H xs us Q I r h;let⟨p,ns,m,rfl,hp,hm,q⟩:=h;let⟨u,rfl,r1⟩:=Vals.one r;cases r1;let⟨xs,hl,rfl⟩:=BP I hp
 have h0:0<xs.size:=Nat.pos_of_ne_zero λz=>by
  have:xs.toList=[]:=abX.mp (by simpa using z);rw[this] at hm;cases hm
 refine min_intList (I.ok.hd hc) hl h0 λv h' tk hv hk=> ?_;let⟨m',t,rfl,e⟩:=p7 h0 hv;rw[hm] at e;cases e;exact⟨.int m,H,I.kept (t':=tk) hk,⟨t,rfl⟩,q⟩
def Gb (K:PySem.W.Frag) (t:TA):TE:=λσ H Q=>t σ H λvs H1=>∃a,∃ns:List Int,vs=[.ref a]/\bF K H1 a (ns.map V.int)/\Q (p8 ns) H1
theorem Ct {e:Expr} {t:TA} {p:Pos} {kd:Nat} (hc:X.calm=true) (hg:Gl X "min") (hm:X.mg "min"=none) (ha:PA X [e] t) (he:backTo pos (starEach [e] X.env)=(false,eval e X.env)::backTo pos (starEach [] X.env)) (hpl:(backTo pos (starEach [e] X.env)).any (·.1)=false):
  PE X (.Call (.Name "min" p) [e] [⟨some (Str.ofString "default"), .Constant .none kd p2,kpos⟩] pos) (Gb X.K t):=by
 intro pins s σ H Q I h;refine abd (fZ I hg hm PyProof.Rows.Boot.«min» ?_);refine callWith_kw (ay (ha pos pins s σ H _ I h) λus s1 z902=> ?_) he hpl;let⟨vs,H1,I1,r1,q1⟩:=z902;have hk:PK X [⟨some (Str.ofString "default"), .Constant .none kd p2,kpos⟩] (pI (tC .non) uL):=tM wy xI;refine ay (hk pos pins s1 σ H1 (λzs H2=>zs=[.non]/\H2=H1) I1 ⟨rfl,rfl⟩) λws s2 z902=> ?_;let⟨zs,H2,I2,rz,e1,e2⟩:=z902;subst e1 e2;let⟨w',rfl,rw'⟩:=Vals.one rz;cases rw';let⟨a,ns,rfl,ha',q⟩:=q1;let⟨u,rfl,ru⟩:=Vals.one r1;cases ru;exact vK hc I2 ha' q
end
end L2.L3
namespace L2
open PySem PySem.Spec PyProof.Rows
section
variable {κ:Type} [DecidableEq κ]
noncomputable def eX (kvs:List (κ×V)) (k:κ):Option V:=(kvs.find? λkv=>decide (kv.1=k)).map (·.2)
noncomputable def putK (kvs:List (κ×V)) (k:κ) (v:V):List (κ×V):=
 if (kvs.any λkv=>decide (kv.1=k))=true then kvs.map (λkv=>if kv.1=k then (kv.1,v) else kv) else kvs++[(k,v)]
theorem fT {p:κ×V} {r:List (κ×V)} {k:κ} (e:p.1=k):eX (p::r) k=some p.2:=by simp[eX,abA,e]
theorem fX {p:κ×V} {r:List (κ×V)} {k:κ} (e:¬p.1=k):eX (p::r) k=eX r k:=by simp[eX,abA,e]
theorem qu (k:κ):∀kvs:List (κ×V),(kvs.any λkv=>decide (kv.1=k))=(eX kvs k).isSome
 |[]=>rfl
 |p::r=>by
  rw[ab9]
  by_cases e:p.1=k
  ·simp only[fT e,abh e,Bool.true_or,Option.isSome_some]
  ·rw[fX e,aaA e,Bool.false_or];exact qu k r
theorem eQ (kvs:List (κ×V)) (k:κ) (v:V):(putK kvs k v).length<=kvs.length+1:=by
 unfold putK;split
 ·rw[aay];lia
 ·rw[aaY,aar,adh];lia
theorem dF.eT {o:Option V} {u:Option Value} (r:dF o u):o.isSome=u.isSome:=by
 cases o with
 |none=>cases u with
  |none=>rfl
  |some _=>exact(show False from r).elim
 |some _=>cases u with
  |none=>exact(show False from r).elim
  |some _=>rfl
theorem dF.getD {o:Option V} {u:Option Value} {d:V} {d':Value} (r:dF o u) (rd:RelV d d'):RelV (o.getD d) (u.getD d'):=by
 cases o with
 |none=>cases u with
  |none=>exact rd
  |some _=>exact(show False from r).elim
 |some _=>cases u with
  |none=>exact(show False from r).elim
  |some _=>exact r
theorem KV.val {kvs:List (κ×V)} {vs:List (κ×Value)} (r:KV kvs vs) (k:κ):dF (eX kvs k) (valueAt vs k):=by
 unfold KV at r
 induction r with
 |nil=>exact True.intro
 | @cons p q ps qs h t ih=>
  let⟨h1,h2⟩:=h
  by_cases e:p.1=k
  ·have e':q.1=k:=h1.symm.trans e
   have b:valueAt (q::qs) k=some q.2:=by simp[valueAt,abA,e']
   rw[fT e,b];exact h2
  ·have e':¬q.1=k:=λz=>e (h1.trans z)
   have b:valueAt (q::qs) k=valueAt qs k:=by simp[valueAt,abA,e']
   rw[fX e,b];exact ih
theorem KV.any {kvs:List (κ×V)} {vs:List (κ×Value)} (r:KV kvs vs) (k:κ):(kvs.any λkv=>decide (kv.1=k))=vs.any λkv=>decide (kv.1=k):=by
 unfold KV at r
 induction r with
 |nil=>rfl
 |cons h t ih=>rw[ab9,ab9,ih,h.1]
theorem KV.zS {kvs:List (κ×V)} {vs:List (κ×Value)} (r:KV kvs vs) (k:κ) {y:V} {u:Value} (ry:RelV y u):
  KV (kvs.map λkv=>if kv.1=k then (kv.1,y) else kv) (vs.map λkv=>if kv.1=k then (kv.1,u) else kv):=by
 unfold KV at r⊢
 induction r with
 |nil=>exact .nil
 | @cons p q ps qs h t ih=>
  rw[aav,aav];refine .cons ?_ ih;let⟨h1,h2⟩:=h
  by_cases e:p.1=k
  ·rw[if_pos e,if_pos (h1.symm.trans e)];exact⟨h1,ry⟩
  ·rw[if_neg e,if_neg (λz=>e (h1.trans z))];exact⟨h1,h2⟩
theorem KV.put {kvs:List (κ×V)} {vs:List (κ×Value)} (r:KV kvs vs) (k:κ) {y:V} {u:Value} (ry:RelV y u):KV (putK kvs k y) (stored vs k u):=by
 unfold putK stored;rw[r.any k]
 by_cases e:(vs.any λkv=>decide (kv.1=k))=true
 ·rw[if_pos e,if_pos e];exact r.zS k ry
 ·rw[if_neg e,if_neg e];exact Paired.snoc r ⟨rfl,ry⟩
theorem KV.length {kvs:List (κ×V)} {vs:List (κ×Value)} (r:KV kvs vs):kvs.length=vs.length:=abn r
end
theorem dE {P:Program} {w:World} {k:Key} {u:Value} (r:RelV (kV k) u):(aF P w).is k u=true:=by
 cases k with
 |inl i=>let⟨t,e⟩:=(show∃t,u=Value.int i t from r);subst e;exact rZ P w i t
 |inr x=>let⟨t,e⟩:=(show∃t,u=Value.str x t from r);subst e;exact se P w x t
theorem nV {P:Program} {w:World}:∀{ks:List Key} {us:List Value},Vals (ks.map kV) us->ItemsAre (aF P w) ks us
 |[],_,r=>by rw[acj] at r;cases r;exact .nil
 |k::ks,_,r=>by
  rw[aav] at r
  cases r with
  |cons h t=>exact .cons (dE h) (nV t)
abbrev KT (H:Hp):List (List Key×V)->List (List Key×Addr×Value)->Prop:=Paired λp q=>p.1=q.1/\H q.2.1=some (.tup (p.1.map kV))/\RelV p.2 q.2.2
theorem KT.val {H:Hp} {kvs:List (List Key×V)} {xs:List (List Key×Addr×Value)} (r:KT H kvs xs) (k:List Key):dF (eX kvs k) ((atKey xs k).map (·.2)):=by
 induction r with
 |nil=>exact True.intro
 | @cons p q ps qs h t ih=>
  let⟨h1,_,h2⟩:=h
  by_cases e:p.1=k
  ·have e':q.1=k:=h1.symm.trans e
   have b:atKey (q::qs) k=some q.2:=by simp[atKey,abA,e']
   rw[fT e,b];exact h2
  ·have e':¬q.1=k:=λz=>e (h1.trans z)
   have b:atKey (q::qs) k=atKey qs k:=by simp[atKey,abA,e']
   rw[fX e,b];exact ih
theorem KT.zS {H:Hp} {kvs:List (List Key×V)} {xs:List (List Key×Addr×Value)} (r:KT H kvs xs) (k:List Key) {y:V} {u:Value} (ry:RelV y u):
  KT H (kvs.map λkv=>if kv.1=k then (kv.1,y) else kv) (xs.map (putAt k u)):=by
 induction r with
 |nil=>exact .nil
 | @cons p q ps qs h t ih=>
  rw[aav,aav];refine .cons ?_ ih;let⟨h1,h2,h3⟩:=h;unfold putAt
  by_cases e:p.1=k
  ·rw[if_pos e,if_pos (h1.symm.trans e)];exact⟨h1,h2,ry⟩
  ·rw[if_neg e,if_neg (λz=>e (h1.trans z))];exact⟨h1,h2,h3⟩
theorem KT.put {H:Hp} {kvs:List (List Key×V)} {xs:List (List Key×Addr×Value)} (r:KT H kvs xs) (k:List Key) {b:Addr} {y:V} {u:Value} (hb:H b=some (.tup (k.map kV))) (ry:RelV y u):
  KT H (putK kvs k y) (storedH xs k b u):=by
 have e:(kvs.any λkv=>decide (kv.1=k))=(atKey xs k).isSome:=by
  rw[qu,(r.val k).eT,acu]
 unfold putK storedH;rw[e]
 by_cases q:(atKey xs k).isSome=true
 ·rw[if_pos q,if_pos q];exact r.zS k ry
 ·rw[if_neg q,if_neg q];exact Paired.snoc r ⟨rfl,hb,ry⟩
theorem KT.keeps {H H':Hp} {kvs:List (List Key×V)} {xs:List (List Key×Addr×Value)} (r:KT H kvs xs) (ht:∀b ys,H b=some (.tup ys)->H' b=some (.tup ys)):KT H' kvs xs:=
 Paired.uQ r λ_ _ z=>⟨z.1,ht _ _ z.2.1,z.2.2⟩
section
variable {P:Program} {w:World} {H:Hp} {h:Heap} {a:Addr}
theorem AX {u:HO} (ok:bq P w H h) (e:Rd H a u):aI P w H h a u:=e.ok ok
theorem dZ {kvs:List (Key×V)} (ok:bq P w H h) (e:Rd H a (.dK kvs)):kvs.length<=sizeLine/\(a==sysModules)=false/\∃vs,KV kvs vs/\h.DictOf (aF P w) a vs:=
 show aI P w H h a (.dK kvs) from AX ok e
theorem Aj {kvs:List (Key×V)} (ok:bq P w H h) (e:H a=some (.dK kvs)):kvs.length<=sizeLine/\(a==sysModules)=false/\∃vs,KV kvs vs/\h.DictOf (aF P w) a vs:=dZ ok (.inl e)
theorem cD {ks:List Key} (ok:bq P w H h) (e:H a=some (.tup (ks.map kV))):(tupleKind (aF P w)).is h ks a:=by
 let⟨_,its,r,o,h1,h2,n,h3⟩:=(show aI P w H h a (.tup (ks.map kV)) from ok a _ e);exact⟨o,its.toArray,n,h1,h2,h3,by simpa using nV r⟩
theorem eg {kvs:List (List Key×V)} (ok:bq P w H h) (e:Rd H a (.dT kvs)):kvs.length<=sizeLine/\(a==sysModules)=false/\
  ∃xs,KT H kvs xs/\h.DictOfH (tupleKind (aF P w)) a xs:=by
 let⟨z,y,xs,r,o,es,ep,h1,h2,h3,h4,h5⟩:=(show aI P w H h a (.dT kvs) from AX ok e);refine⟨z,y,xs,r,o,es,ep,h1,h2,h3,h4,λx hx=> ?_,h5⟩
 have all:∀{l:List (List Key×V)} {m:List (List Key×Addr×Value)},KT H l m->∀x∈m,(tupleKind (aF P w)).is h x.1 x.2.1:=by
  intro l m q
  induction q with
  |nil=>intro x hx;exact nomatch hx
  | @cons p q ps qs hq t ih=>
   intro x hx
   rcases aau.mp hx with e|hx
   ·subst e;exact cD ok (by rw[←hq.1];exact hq.2.1)
   ·exact ih x hx
 exact all r x hx
theorem Aw {kvs:List (List Key×V)} (ok:bq P w H h) (e:H a=some (.dT kvs)):kvs.length<=sizeLine/\(a==sysModules)=false/\
  ∃xs,KT H kvs xs/\h.DictOfH (tupleKind (aF P w)) a xs:=eg ok (.inl e)
end
def jg (H:Hp) (a:Addr) (y:V) (r:Option V):Prop:=
 (∃kvs k,Rd H a (.dK kvs)/\y=kV k/\r=eX kvs k)∨∃kvs k b,Rd H a (.dT kvs)/\y= .ref b/\H b=some (.tup (k.map kV))/\r=eX kvs k
def eY (H:Hp) (a:Addr) (y v:V) (H':Hp):Prop:=
 (∃kvs k,H a=some (.dK kvs)/\y=kV k/\kvs.length<sizeLine/\H'=upd H a (.dK (putK kvs k v)))∨
 ∃kvs k b,H a=some (.dT kvs)/\y= .ref b/\H b=some (.tup (k.map kV))/\kvs.length<sizeLine/\H'=upd H a (.dT (putK kvs k v))
theorem eY.k {H:Hp} {a:Addr} {kvs:List (Key×V)} {k:Key} {v:V} (e:H a=some (.dK kvs)) (hl:kvs.length<sizeLine):eY H a (kV k) v (upd H a (.dK (putK kvs k v))):= .inl ⟨kvs,k,e,rfl,hl,rfl⟩
theorem eY.t {H:Hp} {a b:Addr} {kvs:List (List Key×V)} {k:List Key} {v:V} (e:H a=some (.dT kvs)) (eb:H b=some (.tup (k.map kV))) (hl:kvs.length<sizeLine):
  eY H a (.ref b) v (upd H a (.dT (putK kvs k v))):= .inr ⟨kvs,k,b,e,rfl,eb,hl,rfl⟩
section
variable {X:Cx} {pins:List (Addr×Obj)} {σ:St} {H:Hp} {s:Shared} {a:Addr} {y v:V} {u r:Value} {o:Option V} {A:Around} {E:Value->Shared->Prop}
theorem Inv.big (I:Inv X pins σ H s):sysModules<s.heap.objs.size:=by
 have h:mainGlobals<s.heap.objs.size:=(I.mod.glob.keeps I.bk).lt;exact Nat.lt_trans (by decide) h
theorem xp {Q:Value->Shared->Prop} (hu:A.units+1<cLine) (I:Inv X pins σ H s) (g:jg H a y (some v)) (ry:RelV y u) (h:∀w' s',Inv X pins σ H s'->RelV v w'->Q w' s'):
  wpAny (model X.prog X.w) A (getItem (.ref a) u) Q E s:=by
 rcases g with⟨kvs,k,e,ey,l⟩|⟨kvs,k,b,e,ey,eb,l⟩
 ·subst ey;let⟨z,hd,vs,rel,dd⟩:=dZ I.af e;let⟨w',hw,rw'⟩:=dF.some_of (v:=v) (o:=valueAt vs k) (by rw[l];exact rel.val k);exact wpAny_getItem_of (dE ry) dd.mapOf hw (h w' _ (I.tok _) rw')
 ·subst ey;cases (show u=Value.ref b from ry);let⟨z,hd,xs,rel,dd⟩:=eg I.af e;let⟨w',hw,rw'⟩:=dF.some_of (v:=v) (o:=(atKey xs k).map (·.2)) (by rw[l];exact rel.val k);let⟨p,hp,hp2⟩:=aab.mp hw;refine wpAny_getItem_heap (aaZ hu) (cD I.af eb) dd hp ?_;rw[hp2];exact h w' _ (I.tok _) rw'
theorem Km {Q:Value->Shared->Prop} (hu:A.units+1<cLine) (I:Inv X pins σ H s) (g:jg H a y o) (ry:RelV y u) (h:∀s',Inv X pins σ H s'->Q (.bool o.isSome) s'):
  wpAny (model X.prog X.w) A (compareOp .In u (.ref a)) Q E s:=by
 rcases g with⟨kvs,k,e,ey,l⟩|⟨kvs,k,b,e,ey,eb,l⟩
 ·subst ey;let⟨z,hd,vs,rel,dd⟩:=dZ I.af e;refine wpAny_in_of (dE ry) hd dd.mapOf ?_;rw[←(rel.val k).eT,←l];exact h _ (I.tok _)
 ·subst ey;cases (show u=Value.ref b from ry);let⟨z,hd,xs,rel,dd⟩:=eg I.af e;refine wpAny_in_heap (aaZ hu) (cD I.af eb) hd dd ?_;have q:=(rel.val k).eT;rw[acu] at q;rw[←q,←l];exact h _ (I.tok _)
theorem CH {Q:Value->Shared->Prop} (hu:A.units+1<cLine) (I:Inv X pins σ H s) (g:jg H a y o) (ry:RelV y u) (h:∀s',Inv X pins σ H s'->Q (.bool (!o.isSome)) s'):
  wpAny (model X.prog X.w) A (compareOp .NotIn u (.ref a)) Q E s:=by
 rcases g with⟨kvs,k,e,ey,l⟩|⟨kvs,k,b,e,ey,eb,l⟩
 ·subst ey;let⟨z,hd,vs,rel,dd⟩:=dZ I.af e;refine wpAny_notIn_of (dE ry) hd dd.mapOf ?_;rw[←(rel.val k).eT,←l];exact h _ (I.tok _)
 ·subst ey;cases (show u=Value.ref b from ry);let⟨z,hd,xs,rel,dd⟩:=eg I.af e;refine wpAny_notIn_heap (aaZ hu) (cD I.af eb) hd dd ?_;have q:=(rel.val k).eT;rw[acu] at q;rw[←q,←l];exact h _ (I.tok _)
theorem jV {h':Heap} {t':Nat} {ob:HO} (I:Inv X pins σ H s) (mu:vY (H a)) (hs:Heap.SameBut a s.heap h') (he:∃q,h'.get? a=some q) (new:aI X.prog X.w (upd H a ob) h' a ob):
  Inv X pins σ (upd H a ob) {s with heap:=h',toks:=t'}:=
 I.write (x:=a) (e:=a) mu (.inl rfl) (λb q hb z=>(hs.2 b hb).trans z) he new
theorem xK {P:Program} {w:World} {H':Hp} {h':Heap} {kvs:List (Key×V)} {vs:List (Key×Value)} (z:kvs.length<=sizeLine) (hd:(a==sysModules)=false) (rel:KV kvs vs) (dd:h'.DictOf (aF P w) a vs):
  aI P w H' h' a (.dK kvs):=⟨z,hd,vs,rel,dd⟩
theorem jI {H':Hp} {Q:Unit->Shared->Prop} (hu:A.units+1<cLine) (I:Inv X pins σ H s) (g:eY H a y v H') (ry:RelV y u) (rv:RelV v r) (h:∀s',Inv X pins σ H' s'->Q () s'):
  wpAny (model X.prog X.w) A (setItem (.ref a) u r) Q E s:=by
 rcases g with⟨kvs,k,e,ey,l,eH⟩|⟨kvs,k,b,e,ey,eb,l,eH⟩
 ·subst ey eH;let⟨z,hd,vs,rel,dd⟩:=Aj I.af e
  have hz:vs.length<=sizeLine:=by rw[←rel.length];exact z
  have hl:(putK kvs k v).length<=sizeLine:=by have:=eQ kvs k v;lia
  refine wpAny_setItem_pairs (hsz:=hz) (dE ry) dd λh' dd' hs=>h _ ?_
  have he:∃q,h'.get? a=some q:=let ⟨q,_,_,hq,_⟩:=dd';⟨q,hq⟩
  exact jV I (by rw[e];exact True.intro) hs he (xK hl hd (rel.put k rv) dd')
 ·subst ey eH;cases (show u=Value.ref b from ry);let⟨z,hd,xs,rel,dd⟩:=Aw I.af e
  have hz:xs.length<=sizeLine:=by rw[←abn rel];exact z
  have hl:(putK kvs k v).length<=sizeLine:=by have:=eQ kvs k v;lia
  refine wpAny_setItem_heap (hsz:=hz) (aaZ hu) (cD I.af eb) dd λh' dd' hs=>h _ ?_;let⟨q,es,ep,hq,h2,h3,h4,_,h5⟩:=dd';refine jV I (by rw[e];exact True.intro) hs ⟨q,hq⟩ ⟨hl,hd,_,(rel.put k eb rv).keeps λc ys ec=> ?_,q,es,ep,hq,h2,h3,h4,h5⟩;rw[aq (pN ec e (λz=>nomatch z))];exact ec
end
section
variable {X:Cx} {pins:List (Addr×Obj)} {σ:St} {H:Hp} {s:Shared} {a:Addr} {kvs:List (Key×V)} {k:Key} {u:Value} {A:Around} {E:Value->Shared->Prop}
theorem F9 {Q:Value->Shared->Prop} (I:Inv X pins σ H s) (e:Rd H a (.dK kvs)) (h:∀t s',Inv X pins σ H s'->Q (.int kvs.length t) s'):wpAny (model X.prog X.w) A (call (.builtin "len") [.ref a]) Q E s:=by
 let⟨z,hd,vs,rel,dd⟩:=dZ I.af e;refine call_len_dict hd dd (by rw[←rel.length];rw[abG] at z;lia) ?_;rw[←rel.length];exact h _ _ (I.tok _)
end
theorem rX {X:Cx} {σ:St} {H:Hp} {s:Shared} {a:Addr} {y:V} {o:Option V} (I:Inv X pins σ H s) (g:jg H a y o):s.TypeIs (.ref a) "dict":=by
 rcases g with⟨kvs,k,e,_,_⟩|⟨kvs,k,b,e,_,_,_⟩
 ·let⟨_,_,vs,_,dd⟩:=dZ I.af e;exact dd.typeIs
 ·let⟨_,_,xs,_,dd⟩:=eg I.af e;exact dd.typeIs
section
variable {X:Cx} {o i e value:Expr} {pos pos' tpos:Pos} {td ty tv:TE}
end
theorem pT {P:Program} {w:World} {H:Hp} (h:Heap) (hb:sysModules<h.objs.size):aI P w H (h.push {cls:= .type "dict",data:= .dict #[]}) h.objs.size (.dK []):=
 ⟨aaV _,beq_eq_false_iff_ne.mpr (Ne.symm (aaw hb)),[], .nil,Heap.DictOf.new h⟩
theorem zf {P:Program} {w:World} {H:Hp} (h:Heap) (hb:sysModules<h.objs.size):aI P w H (h.push {cls:= .type "dict",data:= .dict #[]}) h.objs.size (.dT []):=
 ⟨aaV _,beq_eq_false_iff_ne.mpr (Ne.symm (aaw hb)),[], .nil,_,#[],0,aaj _ rfl,⟨rfl,rfl,rfl⟩,rfl,rfl,aco⟩
def E3:TE:=λ_ H Q=>∀p,H p=none->Q (.ref p) (upd H p (.dK []))
section
variable {X:Cx} {pos:Pos}
theorem yF:PE X (.Dict [] [] pos) E3:=λpins s σ H Q I h=>
 wpAny_Dict_empty ⟨.ref s.heap.objs.size,_,I.laid (a:=s.heap.objs.size) (o:= .dK []) (t':=s.toks) (λ_ _ q=>aad _ q) (aag _) (pT s.heap I.big),rfl,h _ (I.af.fresh (aag _))⟩
end
structure M1 (X:Cx) (o:Expr) (m:Str) (apos:Pos) (e:Expr) (cpos:Pos):Prop where
 base:attributeBase o m X.env (eval o X.env)=eval o X.env
 few:((backTo cpos (starEach [e] X.env)).all (λx=> !x.1)&&(backToKw cpos (keywordEach [] X.env)).all (λx=>x.1.isSome)
  &&decide (([e]:List Expr).length+([]:List Keyword).length+(if ([]:List Keyword).isEmpty then 0 else 1)<30))=true
 line:(apos.endLine==cpos.line)=true
 trees:backTo cpos (starEach [e] X.env)=[(false,eval e X.env)]
structure M2 (X:Cx) (o:Expr) (m:Str) (apos:Pos) (e f:Expr) (cpos:Pos):Prop where
 base:attributeBase o m X.env (eval o X.env)=eval o X.env
 few:((backTo cpos (starEach [e,f] X.env)).all (λx=> !x.1)&&(backToKw cpos (keywordEach [] X.env)).all (λx=>x.1.isSome)
  &&decide (([e,f]:List Expr).length+([]:List Keyword).length+(if ([]:List Keyword).isEmpty then 0 else 1)<30))=true
 line:(apos.endLine==cpos.line)=true
 trees:backTo cpos (starEach [e,f] X.env)=[(false,eval e X.env),(false,eval f X.env)]
def AK (H:Hp) (a:Addr):Prop:=(∃kvs,Rd H a (.dK kvs))∨∃kvs,Rd H a (.dT kvs)
theorem vF {X:Cx} {σ:St} {H:Hp} {s:Shared} {a:Addr} (I:Inv X pins σ H s) (d:AK H a):
  s.TypeIs (.ref a) "dict"/\(∀b,Value.ref a= .ref b->∃ob,s.heap.get? b=some ob/\ob.dict=none)/\(a==sysModules)=false:=by
 rcases d with⟨kvs,e⟩|⟨kvs,e⟩
 ·let⟨_,hd,vs,_,dd⟩:=dZ I.af e;refine⟨dd.typeIs,λb q=> ?_,hd⟩;cases q;let⟨ob,_,_,h1,h2,_⟩:=dd;exact⟨ob,h1,h2.2.1⟩
 ·let⟨_,hd,xs,_,dd⟩:=eg I.af e;refine⟨dd.typeIs,λb q=> ?_,hd⟩;cases q;let⟨ob,_,_,h1,h2,_⟩:=dd;exact⟨ob,h1,h2.2.1⟩
section
variable {X:Cx} {pins:List (Addr×Obj)} {σ:St} {H:Hp} {s:Shared} {a:Addr} {y d:V} {u r:Value} {o:Option V} {A:Around} {E:Value->Shared->Prop}
theorem DW {Q:Value->Shared->Prop} (hu:A.units+1<cLine) (I:Inv X pins σ H s) (g:jg H a y o) (ry:RelV y u) (h:∀w' s',Inv X pins σ H s'->RelV (o.getD .non) w'->Q w' s'):
  wpAny (model X.prog X.w) A (call (.builtin "dict.get") [.ref a,u]) Q E s:=by
 rcases g with⟨kvs,k,e,ey,l⟩|⟨kvs,k,b,e,ey,eb,l⟩
 ·subst ey;let⟨z,hd,vs,rel,dd⟩:=dZ I.af e;refine abV aaQ dd.typeIs aa0 (abY _ _) (meets_dict_get (aF X.prog X.w) a (dE ry) hd) ⟨_,dd.mapOf,h _ _ (I.tok _) ?_⟩;rw[l];exact(rel.val k).getD rfl
 ·subst ey;cases (show u=Value.ref b from ry);let⟨z,hd,xs,rel,dd⟩:=eg I.af e;refine abV aaQ dd.typeIs aa0 (abY _ _) (meetsH_dict_get (tupleKind (aF X.prog X.w)) a b hd) ⟨aaZ hu,k,xs,cD I.af eb,dd,h _ _ (I.tok _) ?_⟩;rw[l];exact(rel.val k).getD rfl
theorem DU {Q:Value->Shared->Prop} (hu:A.units+1<cLine) (I:Inv X pins σ H s) (g:jg H a y o) (ry:RelV y u) (rd:RelV d r) (h:∀w' s',Inv X pins σ H s'->RelV (o.getD d) w'->Q w' s'):
  wpAny (model X.prog X.w) A (call (.builtin "dict.get") [.ref a,u,r]) Q E s:=by
 rcases g with⟨kvs,k,e,ey,l⟩|⟨kvs,k,b,e,ey,eb,l⟩
 ·subst ey;let⟨z,hd,vs,rel,dd⟩:=dZ I.af e;refine abV aaQ dd.typeIs aa0 (abZ _ _ _) (meets_dict_get_default (aF X.prog X.w) a (dE ry) hd r) ⟨_,dd.mapOf,h _ _ (I.tok _) ?_⟩;rw[l];exact(rel.val k).getD rd
 ·subst ey;cases (show u=Value.ref b from ry);let⟨z,hd,xs,rel,dd⟩:=eg I.af e;refine abV aaQ dd.typeIs aa0 (abZ _ _ _) (meetsH_dict_get_default (tupleKind (aF X.prog X.w)) a b hd r) ⟨aaZ hu,k,xs,cD I.af eb,dd,h _ _ (I.tok _) ?_⟩;rw[l];exact(rel.val k).getD rd
end
section
variable {X:Cx} {o e f:Expr} {apos cpos:Pos} {td ty tx:TE}
end
section
variable {X:Cx} {pins:List (Addr×Obj)} {σ:St} {H:Hp} {s:Shared} {a:Addr} {kvs:List (Key×V)} {A:Around} {E:Value->Shared->Prop}
end
section
variable {X:Cx} {pins:List (Addr×Obj)} {σ:St} {H:Hp} {s:Shared} {a:Addr} {y:V} {u:Value} {A:Around} {E:Value->Shared->Prop}
end
end L2
namespace SortT
open PySem PySem.W PyProof.Rows
noncomputable def ai {α:Type} (lt:Nat->Nat->Bool):KasT α->α
 | .ret a=>a
 | .ask i j k=>ai lt (k (lt i j))
theorem dM {α β:Type} (lt:Nat->Nat->Bool) (f:α->KasT β):∀t:KasT α,ai lt (t.bind f)=ai lt (f (ai lt t))
 | .ret _=>rfl
 | .ask i j k=>dM lt f (k (lt i j))
def bB {α:Type} (lt:Nat->Nat->Bool) (n:Nat):KasT α->Prop
 | .ret _=>True
 | .ask i j k=>i<n/\j<n/\bB lt n (k (lt i j))
theorem bB.bind {α β:Type} {lt:Nat->Nat->Bool} {n:Nat} {f:α->KasT β}:∀{t:KasT α},bB lt n t->bB lt n (f (ai lt t))->bB lt n (t.bind f)
 | .ret a,_,hf=>hf
 | .ask i j k,h,hf=>⟨h.1,h.2.1,bB.bind h.2.2 hf⟩
theorem wp_run {α:Type} {n:Nat} {lt:Nat->Nat->Bool} {cmp:Nat->Nat->(Bool->Shared->Prop)->Shared->Prop} {s:Shared} (hc:∀i j C,i<n->j<n->C (lt i j) s->cmp i j C s) {Q:α->Shared->Prop}:∀{t:KasT α},bB lt n t->Q (ai lt t) s->t.kasWp cmp Q s
 | .ret _,_,q=>q
 | .ask i j k,h,q=>hc i j _ h.1 h.2.1 (wp_run hc h.2.2 q)
noncomputable abbrev g (p:Array Nat) (i:Nat):Nat:=p.getD i 0
theorem iH {p:Array Nat} {i:Nat}:g p i=(p[i]?).getD 0:=by
 unfold g;rw[Array.getD_eq_getD_getElem?]
def ju (N:Nat) (p:Array Nat):Prop:=∀i,g p i<N
theorem ju.of {N:Nat} {p:Array Nat} (h0:0<N) (h:∀x∈p,x<N):ju N p:=λi=>by
 rw[iH]
 cases e:p[i]? with
 |none=>exact h0
 |some x=>exact h x (Array.mem_of_getElem? e)
theorem ju.perm {N:Nat} {p q:Array Nat} (h0:0<N) (h:∀x∈p,x<N) (pm:q.Perm p):ju N q:=ju.of h0 λx hx=>h x (pm.mem_iff.mp hx)
theorem eN {p:Array Nat} {i j:Nat} (hj:j<=p.size) (k:Nat):g (kas_rev p i j) k=if i<=k/\k<j then g p (i+j-1-k) else g p k:=by
 rw[iH];unfold kas_rev;rw[getElem?_mirror_all hj];split
 ·rw[iH]
 ·rw[iH]
theorem Hl {p:Array Nat} {s d:Nat} (hs:s<p.size) (hd:d<=s) (k:Nat):g (bubble p s d) k=if k=s-d then g p s else if s-d<k/\k<=s then g p (k-1) else g p k:=by
 have e:(bubble p s d)[k]?=_:=getElem?_bubble hs d hd k;have a1:g (bubble p s d) k=((bubble p s d)[k]?).getD 0:=iH;have a2:g p s=(p[s]?).getD 0:=iH;have a3:g p (k-1)=(p[k-1]?).getD 0:=iH;have a4:g p k=(p[k]?).getD 0:=iH;rw[a1,e,a2,a3,a4]
 by_cases c:k=s-d
 ·rw[if_pos c,if_pos c]
 ·rw[if_neg c,if_neg c]
  by_cases c2:s-d<k/\k<=s
  ·rw[if_pos c2,if_pos c2]
  ·rw[if_neg c2,if_neg c2]
theorem iI {p:Array Nat} {i j:Nat}:(kas_rev p i j).size=p.size:=mirror_size ..
theorem cT {p:Array Nat} {i j:Nat}:(kas_rev p i j).Perm p:=mirror_perm ..
structure Ord (lt:Nat->Nat->Bool):Prop where
 tr:∀a b c,lt b a=false->lt c b=false->lt c a=false
 as:∀a b,lt a b=true->lt b a=false
section
variable {lt:Nat->Nat->Bool} (O:Ord lt)
include O
theorem Ord.rf (a:Nat):lt a a=false:=by
 cases e:lt a a with
 |false=>rfl
 |true=>exact(O.as a a e).symm.trans e|>.symm▸rfl
omit O
def dR (lt:Nat->Nat->Bool) (p:Array Nat) (m:Nat):Prop:=∀i j,i<=j->j<m->lt (g p j) (g p i)=false
def du (lt:Nat->Nat->Bool) (p:Array Nat) (m:Nat):Prop:=∀i j,i<=j->j<m->lt (g p i) (g p j)=false
def vL (lt:Nat->Nat->Bool) (p:Array Nat) (a b:Nat):Prop:=∀i j,a<=i->i<b->a<=j->j<b->lt (g p i) (g p j)=false
include O
theorem dR.one {p:Array Nat}:dR lt p 1:=λi j h1 h2=>by
 have:i=j:=by lia
 rw[this];exact O.rf _
theorem dR.up {p:Array Nat} {m:Nat} (h:dR lt p m) (hm:1<=m) (c:lt (g p m) (g p (m-1))=false):dR lt p (m+1):=λi j h1 h2=>by
 by_cases e:j=m
 ·subst e
  by_cases e2:i=j
  ·rw[e2];exact O.rf _
  ·exact O.tr _ _ _ (h i (j-1) (by lia) (by lia)) c
 ·exact h i j h1 (by lia)
theorem qE {p:Array Nat}:∀(f n:Nat),1<=n->dR lt p n->n<=ai lt (kas_asc p f n)/\ai lt (kas_asc p f n)<=n+f/\dR lt p (ai lt (kas_asc p f n))/\(ai lt (kas_asc p f n)=n+f∨lt (g p (ai lt (kas_asc p f n))) (g p (ai lt (kas_asc p f n)-1))=true)
 |0,n,_,h=>⟨aag _,aag _,h, .inl rfl⟩
 |f+1,n,h1,h=>by
  have e:ai lt (kas_asc p (f+1) n)=ai lt (if lt (g p n) (g p (n-1))=true then .ret n else kas_asc p f (n+1)):=rfl;rw[e]
  by_cases c:lt (g p n) (g p (n-1))=true
  ·rw[if_pos c];exact⟨aag _,by show n<=n+(f+1);lia,h, .inr c⟩
  ·rw[if_neg c];let⟨a1,a2,a3,a4⟩:=qE f (n+1) (by lia) (dR.up O h h1 (by simpa using c));exact⟨by lia,by lia,a3,a4.imp (λz=>by lia) id⟩
omit O in
theorem ng {p:Array Nat} {N:Nat} (b:ju N p):∀(f n:Nat),bB lt N (kas_asc p f n)
 |0,n=>trivial
 |f+1,n=>⟨b _,b _,by
  show bB lt N (if lt (g p n) (g p (n-1))=true then .ret n else kas_asc p f (n+1));split
  ·trivial
  ·exact ng b f (n+1)⟩
theorem du.up {p:Array Nat} {m:Nat} (h:du lt p m) (hm:1<=m) (c:lt (g p (m-1)) (g p m)=false):du lt p (m+1):=λi j h1 h2=>by
 by_cases e:j=m
 ·subst e
  by_cases e2:i=j
  ·rw[e2];exact O.rf _
  ·exact O.tr _ _ _ c (h i (j-1) (by lia) (by lia))
 ·exact h i j h1 (by lia)
theorem du.turn {p:Array Nat} {a m:Nat} (hm:m<=p.size) (h:du lt p m) (q:vL lt p a m):du lt (kas_rev p a m) m:=λi j h1 h2=>by
 rw[eN hm,eN hm]
 by_cases ci:a<=i
 ·rw[if_pos ⟨ci,by lia⟩,if_pos ⟨by lia,h2⟩];exact q _ _ (by lia) (by lia) (by lia) (by lia)
 ·rw[if_neg (by lia)]
  by_cases cj:a<=j
  ·rw[if_pos ⟨cj,h2⟩];exact h _ _ (by lia) (by lia)
  ·rw[if_neg (by lia)];exact h _ _ h1 h2
theorem iy:∀(f:Nat) (p:Array Nat) (n q:Nat),n+f<=p.size->q+1<=n->du lt p n->vL lt p (n-(q+1)) n->
  (ai lt (kas_desc f p n q)).1.Perm p/\n<=(ai lt (kas_desc f p n q)).2.1/\(ai lt (kas_desc f p n q)).2.1<=n+f/\(ai lt (kas_desc f p n q)).2.2+1<=(ai lt (kas_desc f p n q)).2.1/\du lt (ai lt (kas_desc f p n q)).1 (ai lt (kas_desc f p n q)).2.1/\
   vL lt (ai lt (kas_desc f p n q)).1 ((ai lt (kas_desc f p n q)).2.1-((ai lt (kas_desc f p n q)).2.2+1)) (ai lt (kas_desc f p n q)).2.1
 |0,p,n,q,hz,hq,h,he=>⟨.refl _,aag _,aag _,hq,h,he⟩
 |f+1,p,n,q,hz,hq,h,he=>by
  have one:∀(p:Array Nat),vL lt p (n+1-(0+1)) (n+1):=λp i j a1 a2 a3 a4=>by
   have e1:i=n:=by lia
   have e2:j=n:=by lia
   rw[e1,e2];exact O.rf _
  have e:ai lt (kas_desc (f+1) p n q)=ai lt (if lt (g p n) (g p (n-1))=true then (if q>0 then kas_desc f (kas_rev p (n-(q+1)) n) (n+1) 0 else kas_desc f p (n+1) 0)
    else .ask (g p (n-1)) (g p n) λd=>if d=true then .ret (p,n,q) else kas_desc f p (n+1) (q+1)):=rfl
  rw[e]
  by_cases c:lt (g p n) (g p (n-1))=true
  ·rw[if_pos c];have c':=O.as _ _ c
   by_cases c2:q>0
   ·rw[if_pos c2]
    have hn:n<=p.size:=by lia
    have d1:=du.turn O hn h he
    have gn:g (kas_rev p (n-(q+1)) n) n=g p n:=by
     rw[eN hn,if_neg (by lia)]
    have gm:g (kas_rev p (n-(q+1)) n) (n-1)=g p (n-(q+1)):=by
     rw[eN hn,if_pos (by lia)];congr 1;lia
    have d2:du lt (kas_rev p (n-(q+1)) n) (n+1):=du.up O d1 (by lia) (by
     rw[gn,gm]
     exact O.tr _ _ _ c' (he _ _ (by lia) (by lia) (by lia) (by lia)))
    let⟨a1,a2,a3,a4,a5,a6⟩:=iy f (kas_rev p (n-(q+1)) n) (n+1) 0 (by rw[iI];lia) (by lia) d2 (one _);exact⟨a1.trans cT,by lia,by lia,a4,a5,a6⟩
   ·rw[if_neg c2];let⟨a1,a2,a3,a4,a5,a6⟩:=iy f p (n+1) 0 (by lia) (by lia) (du.up O h (by lia) c') (one _);exact⟨a1,by lia,by lia,a4,a5,a6⟩
  ·rw[if_neg c]
   have c0:lt (g p n) (g p (n-1))=false:=by simpa using c
   show (ai lt (if lt (g p (n-1)) (g p n)=true then .ret (p,n,q) else kas_desc f p (n+1) (q+1))).1.Perm p/\_;have e3:ai lt (KasT.ask (g p (n-1)) (g p n) λd=>if d=true then KasT.ret (p,n,q) else kas_desc f p (n+1) (q+1))=ai lt (if lt (g p (n-1)) (g p n)=true then .ret (p,n,q) else kas_desc f p (n+1) (q+1)):=rfl;rw[e3]
   by_cases d:lt (g p (n-1)) (g p n)=true
   ·rw[if_pos d];exact⟨.refl _,aag _,by show n<=n+(f+1);lia,hq,h,he⟩
   ·rw[if_neg d]
    have d0:lt (g p (n-1)) (g p n)=false:=by simpa using d
    let⟨a1,a2,a3,a4,a5,a6⟩:=iy f p (n+1) (q+1) (by lia) (by lia) (du.up O h (by lia) d0) (λi j b1 b2 b3 b4=>by
     by_cases ei:i=n
     ·by_cases ej:j=n
      ·rw[ei,ej];exact O.rf _
      ·rw[ei];exact O.tr _ _ _ (he j (n-1) (by lia) (by lia) (by lia) (by lia)|>λ_=>he (n-1) j (by lia) (by lia) (by lia) (by lia)) c0
     ·by_cases ej:j=n
      ·rw[ej];exact O.tr _ _ _ d0 (he i (n-1) (by lia) (by lia) (by lia) (by lia))
      ·exact he i j (by lia) (by lia) (by lia) (by lia))
    exact⟨a1,by lia,by lia,a4,a5,a6⟩
omit O in
theorem iX {N:Nat} (h0:0<N):∀(f:Nat) (p:Array Nat) (n q:Nat),(∀x∈p,x<N)->bB lt N (kas_desc f p n q)
 |0,p,n,q,_=>trivial
 |f+1,p,n,q,hb=>by
  have b:=ju.of h0 hb;refine⟨b _,b _, ?_⟩
  show bB lt N (if lt (g p n) (g p (n-1))=true then (if q>0 then kas_desc f (kas_rev p (n-(q+1)) n) (n+1) 0 else kas_desc f p (n+1) 0)
    else .ask (g p (n-1)) (g p n) λd=>if d=true then .ret (p,n,q) else kas_desc f p (n+1) (q+1))
  split
  ·split
   ·exact iX h0 f _ _ _ λx hx=>hb x (cT.mem_iff.mp hx)
   ·exact iX h0 f _ _ _ hb
  ·refine⟨b _,b _, ?_⟩;show bB lt N (if lt (g p (n-1)) (g p n)=true then .ret (p,n,q) else kas_desc f p (n+1) (q+1));split
   ·trivial
   ·exact iX h0 f _ _ _ hb
theorem ub {p:Array Nat} {n nrem:Nat} (h1:1<=n) (hn:n<=nrem) (hz:nrem<=p.size) (h:du lt p n):(ai lt (kas_tail3 n nrem p)).2.Perm p/\1<=(ai lt (kas_tail3 n nrem p)).1/\(ai lt (kas_tail3 n nrem p)).1<=nrem/\dR lt (ai lt (kas_tail3 n nrem p)).2 (ai lt (kas_tail3 n nrem p)).1:=by
 unfold kas_tail3;rw[dM]
 have s:dR lt (kas_rev p 0 n) n:=λi j a1 a2=>by
  rw[eN (by lia),eN (by lia),if_pos ⟨by lia,a2⟩,if_pos ⟨by lia,by lia⟩];exact h _ _ (by lia) (by lia)
 let⟨a1,a2,a3,_⟩:=qE O (p:=kas_rev p 0 n) (nrem-n) n h1 s;exact⟨cT,by show 1<=ai lt (kas_asc (kas_rev p 0 n) (nrem-n) n);lia,by show ai lt (kas_asc (kas_rev p 0 n) (nrem-n) n)<=nrem;lia,a3⟩
theorem kq {p:Array Nat} {n nrem:Nat} (h1:1<=n) (hn:n+1<=nrem) (hz:nrem<=p.size) (h:du lt p (n+1)):
  (ai lt (kas_descPart n nrem p)).2.Perm p/\1<=(ai lt (kas_descPart n nrem p)).1/\(ai lt (kas_descPart n nrem p)).1<=nrem/\dR lt (ai lt (kas_descPart n nrem p)).2 (ai lt (kas_descPart n nrem p)).1:=by
 unfold kas_descPart;rw[dM]
 let⟨a1,a2,a3,a4,a5,a6⟩:=iy O (nrem-(n+1)) p (n+1) 0 (by lia) (by lia) h (λi j b1 b2 b3 b4=>by
  have e1:i=n:=by lia
  have e2:j=n:=by lia
  rw[e1,e2]
  exact O.rf _)
 generalize ai lt (kas_desc (nrem-(n+1)) p (n+1) 0)=r at a1 a2 a3 a4 a5 a6⊢;have sz:r.1.size=p.size:=a1.size_eq;split
 ·let⟨c1,c2,c3,c4⟩:=ub O (p:=kas_rev r.1 (r.2.1-(r.2.2+1)) r.2.1) (n:=r.2.1) (nrem:=nrem) (by lia) (by lia) (by rw[iI];lia) (du.turn O (by lia) a5 a6);exact⟨c1.trans (cT.trans a1),c2,c3,c4⟩
 ·let⟨c1,c2,c3,c4⟩:=ub O (p:=r.1) (n:=r.2.1) (nrem:=nrem) (by lia) (by lia) (by lia) a5;exact⟨c1.trans a1,c2,c3,c4⟩
omit O in
theorem rO {p:Array Nat} {n nrem N:Nat} (h0:0<N) (hb:∀x∈p,x<N):bB lt N (kas_tail3 n nrem p):=bB.bind (ng (ju.perm h0 hb cT) _ _) trivial
theorem jG {p:Array Nat} {n nrem N:Nat} (h0:0<N) (hb:∀x∈p,x<N) (h1:1<=n) (hn:n+1<=nrem) (hz:nrem<=p.size) (h:du lt p (n+1)):bB lt N (kas_descPart n nrem p):=by
 unfold kas_descPart;refine bB.bind (iX h0 _ _ _ _ hb) ?_
 let⟨a1,_⟩:=iy O (nrem-(n+1)) p (n+1) 0 (by lia) (by lia) h (λi j b1 b2 b3 b4=>by
  have e1:i=n:=by lia
  have e2:j=n:=by lia
  rw[e1,e2]
  exact O.rf _)
 split
 ·exact rO h0 λx hx=>hb x (a1.mem_iff.mp (cT.mem_iff.mp hx))
 ·exact rO h0 λx hx=>hb x (a1.mem_iff.mp hx)
theorem xQ {p:Array Nat} {nrem N:Nat} (h0:0<N) (hb:∀x∈p,x<N) (h1:1<=nrem) (hz:nrem<=p.size):bB lt N (kas_count nrem p)/\(ai lt (kas_count nrem p)).2.Perm p/\1<=(ai lt (kas_count nrem p)).1/\(ai lt (kas_count nrem p)).1<=nrem/\dR lt (ai lt (kas_count nrem p)).2 (ai lt (kas_count nrem p)).1:=by
 have b:=ju.of h0 hb;let⟨a1,a2,a3,a4⟩:=qE O (p:=p) (nrem-1) 1 (aag _) (dR.one O)
 have key:bB lt N (if (ai lt (kas_asc p (nrem-1) 1)==nrem)=true then KasT.ret (ai lt (kas_asc p (nrem-1) 1),p) else if ai lt (kas_asc p (nrem-1) 1)>1 then KasT.ask (g p 0) (g p (ai lt (kas_asc p (nrem-1) 1)-1)) λc=>if c=true then .ret (ai lt (kas_asc p (nrem-1) 1),p) else kas_descPart (ai lt (kas_asc p (nrem-1) 1)) nrem (kas_rev p 0 (ai lt (kas_asc p (nrem-1) 1)))
   else kas_descPart (ai lt (kas_asc p (nrem-1) 1)) nrem p)/\∀r,r=ai lt (if (ai lt (kas_asc p (nrem-1) 1)==nrem)=true then KasT.ret (ai lt (kas_asc p (nrem-1) 1),p) else if ai lt (kas_asc p (nrem-1) 1)>1 then KasT.ask (g p 0) (g p (ai lt (kas_asc p (nrem-1) 1)-1)) λc=>if c=true then .ret (ai lt (kas_asc p (nrem-1) 1),p) else kas_descPart (ai lt (kas_asc p (nrem-1) 1)) nrem (kas_rev p 0 (ai lt (kas_asc p (nrem-1) 1)))
   else kas_descPart (ai lt (kas_asc p (nrem-1) 1)) nrem p)->r.2.Perm p/\1<=r.1/\r.1<=nrem/\dR lt r.2 r.1:=by
  generalize ai lt (kas_asc p (nrem-1) 1)=m at a1 a2 a3 a4⊢;split
  ·exact⟨trivial,λr hr=>by subst hr;exact⟨.refl _,a1,by show m<=nrem;lia,a3⟩⟩
  ·rename_i hne;have hm:m≠nrem:=λe=>hne (by simpa using e);have hlt:lt (g p m) (g p (m-1))=true:=a4.resolve_left (by lia);split
   ·by_cases c:lt (g p 0) (g p (m-1))=true
    ·refine⟨⟨b _,b _,by show bB lt N (if lt (g p 0) (g p (m-1))=true then _ else _);rw[if_pos c];trivial⟩,λr hr=> ?_⟩;have e:r=ai lt (if lt (g p 0) (g p (m-1))=true then KasT.ret (m,p) else kas_descPart m nrem (kas_rev p 0 m)):=hr;rw[if_pos c] at e;subst e;exact⟨.refl _,a1,by show m<=nrem;lia,a3⟩
    ·have c0:lt (g p 0) (g p (m-1))=false:=by simpa using c
     have hmz:m<=p.size:=by lia
     have eqs:vL lt p 0 m:=λi j _ b2 _ b4=>by
      have x1:lt (g p (m-1)) (g p i)=false:=a3 i (m-1) (by lia) (by lia);have x2:lt (g p j) (g p 0)=false:=a3 0 j (by lia) b4;have y1:lt (g p 0) (g p j)=false:=O.tr _ _ _ (a3 j (m-1) (by lia) (by lia)) c0;have y2:lt (g p i) (g p 0)=false:=a3 0 i (by lia) b2;exact O.tr _ _ _ y1 y2
     have d1:du lt (kas_rev p 0 m) m:=λi j b1 b2=>by
      rw[eN hmz,eN hmz,if_pos ⟨by lia,by lia⟩,if_pos ⟨by lia,b2⟩];exact eqs _ _ (by lia) (by lia) (by lia) (by lia)
     have d2:du lt (kas_rev p 0 m) (m+1):=du.up O d1 (by lia) (by
      rw[eN hmz,eN hmz,if_pos ⟨by lia,by lia⟩,if_neg (by lia)]
      exact O.tr _ _ _ (O.as _ _ hlt) (eqs _ _ (by lia) (by lia) (by lia) (by lia)))
     have hb':∀x∈kas_rev p 0 m,x<N:=λx hx=>hb x (cT.mem_iff.mp hx);refine⟨⟨b _,b _,by show bB lt N (if lt (g p 0) (g p (m-1))=true then _ else _);rw[if_neg c];exact jG O h0 hb' (by lia) (by lia) (by rw[iI];lia) d2⟩,λr hr=> ?_⟩;have e:r=ai lt (if lt (g p 0) (g p (m-1))=true then KasT.ret (m,p) else kas_descPart m nrem (kas_rev p 0 m)):=hr;rw[if_neg c] at e;subst e;let⟨z1,z2,z3,z4⟩:=kq O (p:=kas_rev p 0 m) (n:=m) (nrem:=nrem) (by lia) (by lia) (by rw[iI];lia) d2;exact⟨z1.trans cT,z2,z3,z4⟩
   ·have m1:m=1:=by lia
    have d2:du lt p (m+1):=by
     subst m1
     exact du.up O (λi j b1 b2=>by
      have:i=j:=by lia
      rw[this]
      exact O.rf _) (aag _) (O.as _ _ hlt)
    refine⟨jG O h0 hb (by lia) (by lia) hz d2,λr hr=> ?_⟩;subst hr;exact kq O (by lia) (by lia) hz d2
 have e:ai lt (kas_count nrem p)=_:=dM lt _ (kas_asc p (nrem-1) 1);refine⟨bB.bind (ng b _ _) key.1, ?_⟩;rw[e];exact key.2 _ rfl
theorem k9 {p:Array Nat} {k N:Nat} (b:ju N p) (s:dR lt p k):∀(f l r:Nat),l<=r->r<=k->r-l<=f->(∀i,i<l->lt (g p k) (g p i)=false)->(∀i,r<=i->i<k->lt (g p k) (g p i)=true)->
  bB lt N (kas_place p k f l r)/\ai lt (kas_place p k f l r)<=k/\(∀i,i<ai lt (kas_place p k f l r)->lt (g p k) (g p i)=false)/\∀i,ai lt (kas_place p k f l r)<=i->i<k->lt (g p k) (g p i)=true
 |0,l,r,h1,h2,h3,h4,h5=>by
  have:l=r:=by lia
  subst this;exact⟨trivial,h2,h4,h5⟩
 |f+1,l,r,h1,h2,h3,h4,h5=>by
  unfold kas_place
  by_cases c:l≥r
  ·rw[if_pos c]
   have:l=r:=by lia
   subst this;exact⟨trivial,h2,h4,h5⟩
  ·rw[if_neg c];have e:ai lt (KasT.ask (g p k) (g p ((l+r)/2)) λc=>if c=true then kas_place p k f l ((l+r)/2) else kas_place p k f ((l+r)/2+1) r)=ai lt (if lt (g p k) (g p ((l+r)/2))=true then kas_place p k f l ((l+r)/2) else kas_place p k f ((l+r)/2+1) r):=rfl;have e2:bB lt N (KasT.ask (g p k) (g p ((l+r)/2)) λc=>if c=true then kas_place p k f l ((l+r)/2) else kas_place p k f ((l+r)/2+1) r)=(g p k<N/\g p ((l+r)/2)<N/\bB lt N (if lt (g p k) (g p ((l+r)/2))=true then kas_place p k f l ((l+r)/2) else kas_place p k f ((l+r)/2+1) r)):=rfl;rw[e,e2]
   by_cases d:lt (g p k) (g p ((l+r)/2))=true
   ·rw[if_pos d]
    let⟨z1,z2,z3,z4⟩:=k9 b s f l ((l+r)/2) (by lia) (by lia) (by lia) h4 (λi b1 b2=>by
     cases q:lt (g p k) (g p i) with
     |true=>rfl
     |false=>
      have x:=s ((l+r)/2) i b1 b2;have y:=O.tr _ _ _ x q;rw[d] at y
      cases y)
    exact⟨⟨b _,b _,z1⟩,z2,z3,z4⟩
   ·rw[if_neg d]
    have d0:lt (g p k) (g p ((l+r)/2))=false:=by simpa using d
    let⟨z1,z2,z3,z4⟩:=k9 b s f ((l+r)/2+1) r (by lia) h2 (by lia) (λi b1=>O.tr _ _ _ (s i ((l+r)/2) (by lia) (by lia)) d0) h5;exact⟨⟨b _,b _,z1⟩,z2,z3,z4⟩
theorem vt {N:Nat} (h0:0<N):∀(f:Nat) (p:Array Nat) (k:Nat),(∀x∈p,x<N)->k+f<=p.size->dR lt p k->bB lt N (kas_bin f p k)/\(ai lt (kas_bin f p k)).Perm p/\dR lt (ai lt (kas_bin f p k)) (k+f)
 |0,p,k,_,_,h=>⟨trivial, .refl _,h⟩
 |f+1,p,k,hb,hz,h=>by
  let⟨z1,z2,z3,z4⟩:=k9 O (ju.of h0 hb) h k 0 k (by lia) (aag _) (by lia) (λi hi=>by lia) (λi b1 b2=>by lia);generalize el:ai lt (kas_place p k k 0 k)=l at z2 z3 z4
  have ks:k<p.size:=by lia
  have kl:k-(k-l)=l:=by lia
  have gb:=Hl (p:=p) (s:=k) (d:=k-l) ks (by lia);rw[kl] at gb
  have s2:dR lt (bubble p k (k-l)) (k+1):=λi j b1 b2=>by
   rw[gb,gb]
   by_cases ej:j=l
   ·rw[if_pos ej]
    by_cases ei:i=l
    ·rw[if_pos ei];exact O.rf _
    ·rw[if_neg ei,if_neg (by lia)];exact z3 i (by lia)
   ·rw[if_neg ej]
    by_cases cj:l<j/\j<=k
    ·rw[if_pos cj]
     by_cases ei:i=l
     ·rw[if_pos ei];exact O.as _ _ (z4 (j-1) (by lia) (by lia))
     ·rw[if_neg ei]
      by_cases ci:l<i/\i<=k
      ·rw[if_pos ci];exact h _ _ (by lia) (by lia)
      ·rw[if_neg ci];exact h _ _ (by lia) (by lia)
    ·rw[if_neg cj,if_neg (by lia),if_neg (by lia)];exact h _ _ b1 (by lia)
  have hb':∀x∈bubble p k (k-l),x<N:=λx hx=>hb x ((bubble_perm p k (k-l)).mem_iff.mp hx);let⟨y1,y2,y3⟩:=vt h0 f (bubble p k (k-l)) (k+1) hb' (by rw[bubble_size];lia) s2
  have e:ai lt (kas_bin (f+1) p k)=ai lt (kas_bin f (bubble p k (k-l)) (k+1)):=by
   show ai lt ((kas_place p k k 0 k).bind λl=>kas_bin f (bubble p k (k-l)) (k+1))=_;rw[dM,el]
  refine⟨bB.bind z1 (by rw[el];exact y1), ?_, ?_⟩
  ·rw[e];exact y2.trans (bubble_perm ..)
  ·rw[e,show k+(f+1)=k+1+f by lia];exact y3
theorem nt {n:Nat} (hn:1<=n):bB lt n (kas_sort n)/\(ai lt (kas_sort n)).toList.Perm (List.range n)/\dR lt (ai lt (kas_sort n)) n:=by
 have hb:∀x∈List.toArray (List.range n),x<n:=λx hx=>by simpa using hx
 let⟨a1,a2,a3,a4,a5⟩:=xQ O (p:=List.toArray (List.range n)) (nrem:=n) hn hb hn (by simp)
 have key:bB lt n (if (ai lt (kas_count n (List.toArray (List.range n)))).1<n then kas_bin (n-max (ai lt (kas_count n (List.toArray (List.range n)))).1 1) (ai lt (kas_count n (List.toArray (List.range n)))).2 (max (ai lt (kas_count n (List.toArray (List.range n)))).1 1) else .ret (ai lt (kas_count n (List.toArray (List.range n)))).2)/\
   ∀q,q=ai lt (if (ai lt (kas_count n (List.toArray (List.range n)))).1<n then kas_bin (n-max (ai lt (kas_count n (List.toArray (List.range n)))).1 1) (ai lt (kas_count n (List.toArray (List.range n)))).2 (max (ai lt (kas_count n (List.toArray (List.range n)))).1 1) else .ret (ai lt (kas_count n (List.toArray (List.range n)))).2)->q.toList.Perm (List.range n)/\dR lt q n:=by
  generalize ai lt (kas_count n (List.toArray (List.range n)))=r at a2 a3 a4 a5⊢;have hbr:∀x∈r.2,x<n:=λx hx=>hb x (a2.mem_iff.mp hx)
  have sz:r.2.size=n:=by
   rw[a2.size_eq];simp
  have pm:r.2.toList.Perm (List.range n):=by
   have:=Array.perm_iff_toList_perm.mp a2;simpa using this
  by_cases c:r.1<n
  ·rw[if_pos c]
   have e:max r.1 1=r.1:=by lia
   rw[e];let⟨y1,y2,y3⟩:=vt O hn (n-r.1) r.2 r.1 hbr (by lia) a5;refine⟨y1,λq hq=> ?_⟩;subst hq
   have:r.1+(n-r.1)=n:=by lia
   rw[this] at y3;exact⟨(Array.perm_iff_toList_perm.mp y2).trans pm,y3⟩
  ·rw[if_neg c]
   have e:r.1=n:=by lia
   rw[e] at a5;exact⟨trivial,λq hq=>by subst hq;exact⟨pm,a5⟩⟩
 refine⟨bB.bind a1 key.1, ?_⟩;have e:ai lt (kas_sort n)=_:=dM lt _ (kas_count n (List.toArray (List.range n)));rw[e];exact key.2 _ rfl
end
end SortT
namespace L2.L3
open PySem PySem.Spec PyProof.Rows PySem.W
theorem mP:∀{x y:List Int},HT.lexLt x y=true->HT.lexLt y x=false
 |[],[],h=>rfl
 |[],_::_,h=>rfl
 |_::_,[],h=>by cases h
 |a::r,b::t,h=>by
  rw[HT.eD] at h⊢
  by_cases c:a=b
  ·rw[if_pos c] at h;rw[if_pos c.symm];exact mP h
  ·rw[if_neg c] at h;rw[if_neg (λz=>c z.symm)];have:=acv h;exact aaA (by lia)
theorem qL:∀{x y z:List Int},HT.lexLt y x=false->HT.lexLt z y=false->HT.lexLt z x=false
 |[],[],z,_,h2=>h2
 |[],_::_,[],_,h2=>by cases h2
 |[],_::_,_::_,_,_=>rfl
 |_::_,[],z,h1,_=>by cases h1
 |a::r,b::t,[],_,h2=>by cases h2
 |a::r,b::t,c::u,h1,h2=>by
  rw[HT.eD] at h1 h2⊢
  by_cases e1:b=a
  ·rw[if_pos e1] at h1
   by_cases e2:c=b
   ·rw[if_pos e2] at h2;rw[if_pos (e2.trans e1)];exact qL h1 h2
   ·rw[if_neg e2] at h2;rw[if_neg (λz=>e2 (z.trans e1.symm))];have:=ab1 h2;exact aaA (by lia)
  ·rw[if_neg e1] at h1;have k1:=ab1 h1
   by_cases e2:c=b
   ·rw[if_pos e2] at h2;rw[if_neg (λz=>e1 (e2.symm.trans z))];exact aaA (by lia)
   ·rw[if_neg e2] at h2;have k2:=ab1 h2;rw[if_neg (by lia)];exact aaA (by lia)
section
variable {prog:Program} {w:World} {A:Around} {s:Shared}
theorem qk {b:Bool} {Q:Bool->Shared->Prop}:∀{xs ys:List Value} {ns ms:List Int} (i:Nat) {fin:Bool},Vals (ns.map V.int) xs->Vals (ms.map V.int) ys->ns.length=ms.length->fin=false->
  Q (HT.lexLt ns ms) s->KatLex prog w A b fin Q (xs.zip ys) i s
 |_,_,[],[],i,_, .nil, .nil,_,hf,q=>by
  rw[hf];exact q
 |_,_,[],_::_,i,_, .nil, .cons _ _,hl,_,_=>by simp at hl
 |_,_,_::_,[],i,_, .cons _ _, .nil,hl,_,_=>by simp at hl
 |u::us,v::vs,n::ns,m::ms,i,fin, .cons r1 h1, .cons r2 h2,hl,hf,q=>by
  let⟨t,rfl⟩:=r1;let⟨t',rfl⟩:=r2;refine kat_cons (wpAny_eqBool_int ?_);rw[HT.eD] at q
  by_cases c:n=m
  ·rw[if_pos c] at q
   have e:(n==m)=true:=by simpa using c
   rw[e];exact kat_yes (qk (i+1) h1 h2 (by simpa using hl) hf q)
  ·rw[if_neg c] at q
   have e:(n==m)=false:=by simpa using c
   rw[e];refine kat_no ?_
   cases hb':(b&&i==0) with
   |true=>exact oneLt_int q
   |false=>exact kat_one _ _ (lt_int (show PySem.W.BoolBack Q (.bool (decide (n<m))) s from q))
end
def fk (H:Hp) (v:V) (k:List Int):Prop:=∃p,v= .ref p/\H p=some (.tup (k.map V.int))
section
variable {X:Cx} {pins:List (Addr×Obj)} {σ:St} {H:Hp} {s:Shared} {k:Nat} {f:Addr} {fd:FuncData} {ps:List Str} {sp:Sp}
theorem zI {Q:VK} {v:V} {u:Value} (F:FnOk X.prog X.w X.K X.mg X.base (cU X.prog X.w) k f fd ps sp) (hr:Room k X.A.in1.in1) (hb:Binds X.K fd ps []) (I:Inv X pins σ H s) (r:RelV v u) (h:sp [v] H Q (λ_ _ _=>False)):
  wpAny (model X.prog X.w) X.A.in1.in1 (call (.ref f) [u]) (EP X pins σ Q) (λ_ _=>False) s:=by
 have r2:Vals [v] [u]:= .cons r .nil;have hl:([u]++([]:List Value)).length=ps.length:=F.len _ _ _ _ h;refine ac6 (acO (F.run X.A.in1.in1 X.stack s H ⟨[u],[]⟩ [u] [v] Q _ hr I.zw.in1.in1 (hb s [u] I.bX hl) r2 h) λr s' hq=> ?_)
 cases r with
 |error e=>
  let⟨_,_,_,_,_,_,_,_,_,_,_,_,_,_,_,z⟩:=hq;exact z
 |ok fl=>
  cases fl with
  |ret u=>exact I.after hq
  |next=>exact False.elim hq
  |brk=>exact False.elim hq
  |cont=>exact False.elim hq
end
section
variable {X:Cx} {pins:List (Addr×Obj)} {σ:St} {H H1:Hp} {s:Shared} {D kS:Addr} {e1:Nat} {zs kv:List V} {ws:List Value} {E:Value->Shared->Prop} {A:Around}
structure Place (X:Cx) (pins:List (Addr×Obj)) (D:Addr):Prop where
 fp:∀H:Hp,H D=none->cu X pins H D
 nw:X.s₀.heap.get? D=none
end
theorem range_getD {α:Type} (l:List α) (d:α):(List.range l.length).map (λi=>l.getD i d)=l:=by
 refine List.ext_getElem (by simp) λi h1 h2=> ?_;rw[List.getElem_map,List.getElem_range,aax,aac h2];rfl
theorem vQ {ys:List V} {us:List Value} (h:Vals ys us):∀i,i<ys.length->RelV (ys.getD i .non) (us.getD i .none):=λi hi=>by
 let⟨u,hu,ru⟩:=h.get (aac hi);rw[aax,aac hi,aax,hu];exact ru
theorem nY {ys:List V} {us:List Value} (h:Vals ys us):∀{p:List Nat},(∀i∈p,i<ys.length)->Vals (p.map λi=>ys.getD i .non) (p.map λi=>us.getD i Value.none)
 |[],_=> .nil
 |i::r,hp=> .cons (vQ h i (hp i aaB)) (nY h λj hj=>hp j (aaq _ hj))
section
variable {X:Cx} {pins:List (Addr×Obj)} {σ:St} {H H1:Hp} {s:Shared} {D kS:Addr} {e1 m:Nat} {ys kv:List V} {us its:List Value} {keys:List (List Int)} {E:Value->Shared->Prop} {A:Around}
theorem sj (I:Inv X pins σ H s) {v:V} {u:Value} {k:List Int} (r:RelV v u) (h:fk H v k):∃a o xs n,u= .ref a/\s.heap.get? a=some o/\o.cls= .type "tuple"/\o.data= .seq xs n/\Vals (k.map V.int) xs.toList:=by
 let⟨p,rfl,h⟩:=h;cases r;let⟨_,its,rt,o,g1,g2,n,g3⟩:=I.af p _ h;exact⟨p,o,_,n,rfl,g1,g2,g3,by simpa using rt⟩
theorem qP (I:Inv X pins σ H s) (hm:0<m):∀{kv:List V} {its:List Value} {keys:List (List Int)},Vals kv its->Paired (fk H) kv keys->(∀k∈keys,k.length=m)->∃fs:List Value,fs.length=kv.length/\KatTups s.heap its fs/\∀v∈fs,∃i t,v= .int i t
 |_,_,_, .nil, .nil,_=>⟨[],rfl,KatTups.nil,λv hv=>by cases hv⟩
 |_,_,_, .cons r rr, .cons (b:=k) q qq,hl=>by
  let⟨fs,f1,f2,f3⟩:=qP I hm rr qq λk hk=>hl k (aaq _ hk);let⟨a,o,xs,n,rfl,g1,g2,g3,g4⟩:=sj I r q;have hk:=hl k aaB
  cases k with
  |nil=>
   rw[show ([]:List Int).length=0 from rfl] at hk;lia
  |cons i kr=>
   have g4':Vals (V.int i::kr.map V.int) xs.toList:=g4
   cases ex:xs.toList with
   |nil=>
    rw[ex] at g4';cases g4'
   |cons u0 ur=>
    rw[ex] at g4'
    cases g4' with
    |cons h0 _=>
     let⟨t,rfl⟩:=h0;refine⟨.int i t::fs,by rw[aar,aar,f1],KatTups.cons g1 g2 g3 ?_ f2,λv hv=> ?_⟩
     ·rw[←Array.getElem?_toList,ex];rfl
     ·rcases aau.mp hv with rfl|hv
      ·exact⟨i,t,rfl⟩
      ·exact f3 v hv
theorem t8 (I:Inv X pins σ H s) (hv:Vals kv its) (hk:Paired (fk H) kv keys) {i:Nat} (hi:i<kv.length):∃a o xs n,its.getD i .none= .ref a/\s.heap.get? a=some o/\o.data= .seq xs n/\Vals ((keys.getD i []).map V.int) xs.toList/\keys.getD i []∈keys:=by
 let⟨u,hu,ru⟩:=hv.get (aac hi);have hl:=abn hk
 obtain⟨y,hy,q⟩:∃y,keys[i]?=some y/\fk H kv[i] y:=by
  have:∀{l:List V} {r:List (List Int)} {i:Nat} {x:V},Paired (fk H) l r->l[i]?=some x->∃y,r[i]?=some y/\fk H x y:=λ{l r i x} h=>by
   induction h generalizing i with
   |nil=>intro e;simp at e
   |cons h _ ih=>
    intro e
    cases i with
    |zero=>
     simp at e;subst e;exact⟨_,rfl,h⟩
    |succ i=>
     let⟨y,h1,h2⟩:=ih (i:=i) (by simpa using e);exact⟨y,by simpa using h1,h2⟩
  exact this hk (aac hi)
 let⟨a,o,xs,n,rfl,g1,g2,g3,g4⟩:=sj I ru q;refine⟨a,o,xs,n, ?_,g1,g3, ?_, ?_⟩
 ·rw[aax,hu];rfl
 ·rw[aax,hy];exact g4
 ·rw[aax,hy];exact aas hy
def mz (keys:List (List Int)) (p:List Nat):Prop:=p.Pairwise λi j=>HT.lexLt (keys.getD j []) (keys.getD i [])=false
end
section
variable {X:Cx} {pins:List (Addr×Obj)} {σ:St} {H:Hp} {s:Shared} {k m:Nat} {f a:Addr} {fd:FuncData} {ps:List Str} {sp:Sp} {ys:List V} {keys:List (List Int)} {Q:VK} {E:Value->Shared->Prop}
end
section
variable {X:Cx} {pins:List (Addr×Obj)} {σ:St} {H:Hp} {s:Shared} {a:Addr} {y v:V} {u r:Value} {A:Around} {E:Value->Shared->Prop}
theorem GR {H':Hp} {Q:Unit->Shared->Prop} (hu:A.units<cLine) (I:Inv X pins σ H s) (g:eY H a y v H') (ry:RelV y u) (rv:RelV v r) (h:∀s',Inv X pins σ H' s'->Q () s'):
  wpAny (model X.prog X.w) A (dictSet a u r) Q E s:=by
 rcases g with⟨kvs,k,e,ey,l,eH⟩|⟨kvs,k,b,e,ey,eb,l,eH⟩
 ·subst ey eH;let⟨z,hd,vs,rel,dd⟩:=Aj I.af e
  have hz:vs.length<=sizeLine:=by rw[←rel.length];exact z
  have hl:(putK kvs k v).length<=sizeLine:=by have:=eQ kvs k v;lia
  refine wpAny_dictSet_pairs (hsz:=hz) (dE ry) dd λh' dd' hs=>h _ ?_
  have he:∃q,h'.get? a=some q:=let ⟨q,_,_,hq,_⟩:=dd';⟨q,hq⟩
  exact jV I (by rw[e];exact True.intro) hs he (xK hl hd (rel.put k rv) dd')
 ·subst ey eH;cases (show u=Value.ref b from ry);let⟨z,hd,xs,rel,dd⟩:=Aw I.af e
  have hz:xs.length<=sizeLine:=by rw[←abn rel];exact z
  have hl:(putK kvs k v).length<=sizeLine:=by have:=eQ kvs k v;lia
  refine wpAny_dictSet_heap (hsz:=hz) (show (tupleKind (aF X.prog X.w)).room A from hu) (cD I.af eb) dd λh' dd' hs=>h _ ?_;let⟨q,es,ep,hq,h2,h3,h4,_,h5⟩:=dd';refine jV I (by rw[e];exact True.intro) hs ⟨q,hq⟩ ⟨hl,hd,_,(rel.put k eb rv).keeps λc ys ec=> ?_,q,es,ep,hq,h2,h3,h4,h5⟩;rw[aq (pN ec e (λz=>nomatch z))];exact ec
end
theorem gf:plainId "dict.update.loop"=true:=by decide+kernel
theorem n8:entryFor table "dict.update.loop"=some Builtin.«dict.update.loop»:=entryFor_of_fast (by kernel_rfl)
theorem BF {w:World} {A:Around} {E:Value->Shared->Prop} {s:Shared} {b:Bool} {l:Addr} {k:Nat} {xs:Array Value} {x:Value} {Q:Option Value->Shared->Prop} (gi:dP b s.heap it l k) (gl:cG b s.heap l xs) (gx:xs[k]?=some x)
  (q:∀h1,dP b h1 it l (k+1)->Heap.SameBut it s.heap h1->Q (some x) {s with heap:=h1}):wpAny (model prog w) A (pyNext (.ref it)) Q E s:=by
 cases b
 ·exact wpAny_pyNext_tuple_item gi gl gx λh' a1 a2=>q h' a1 a2
 ·exact wpAny_pyNext_list_item gi gl gx λh' a1 a2=>q h' a1 a2
theorem DZ {w:World} {A:Around} {E:Value->Shared->Prop} {s:Shared} {b:Bool} {l:Addr} {k:Nat} {xs:Array Value} {Q:Option Value->Shared->Prop} (hh:A.handled=none) (gi:dP b s.heap it l k) (gl:cG b s.heap l xs) (gx:xs[k]?=none)
  (q:∀h1,(∀b o,b≠it->s.heap.get? b=some o->h1.get? b=some o)->Q none {s with heap:=h1}):wpAny (model prog w) A (pyNext (.ref it)) Q E s:=by
 cases b
 ·exact wpAny_pyNext_tuple_end hh gi gl gx λh' a1=>q h' λb o hb e=>a1 b o hb e
 ·exact wpAny_pyNext_list_end hh gi gl gx λh' a1=>q h' λb o hb e=>a1 b o hb e
section
variable {X:Cx} {pins:List (Addr×Obj)} {σ:St} {A:Around}
def Puts (d:Addr) (ys:List V) (HH:Nat->Hp):Prop:=∀i,i<ys.length->∃p y v,ys[i]?=some (.ref p)/\HH i p=some (.tup [y,v])/\eY (HH i) d y v (HH (i+1))
theorem xX {R:Result->Shared->Prop} {b:Bool} {d l:Addr} {ys:List V} {HH:Nat->Hp} {res:Value} (hh:A.in1.handled=none) (hu:A.in1.units<cLine) (hq:∀i,i<=ys.length->fb b X.K (HH i) l ys) (hp:Puts d ys HH) (hf:∀i,i<=ys.length->cu X pins (HH i) it)
  (fin:∀s',Inv X pins σ (HH ys.length) s'->R (.ok (.ret res)) s'):
  ∀(k i:Nat) (s:Shared) (n:Int) (tk:Tok),ys.length-i=k->i<=ys.length->Inv X pins σ (HH i) s->dP b s.heap it l i->codeAny (model X.prog X.w) A (.builtin "dict.update.loop" ⟨[.ref d, .ref it, .int n tk,res],[]⟩) R s:=by
 intro k
 induction k with
 |zero=>
  intro i s n tk hk hi I st
  have hin:i=ys.length:=by lia
  subst hin;refine ach n8 ?_;rw[abP gf _];let⟨its,rv,p,hz⟩:=aL I (hq _ hi);let⟨f0,f1,f2,f3,f4,f5⟩:=hf _ hi;have hl:=rv.length;show wpAny _ A.in1 (pyNext (.ref it)>>=_) _ _ s;refine aaa (DZ hh st p (by simp;lia) λh' eb=> ?_);refine aaa (m:=Builtin.Dict.addKeywords d []) (aaf (aaf (fin _ (I.turned (t':=s.toks) (λb o hb e=>eb b o hb e) f0 f1 f3 f4 f5))))
 |succ k ih=>
  intro i s n tk hk hi I st
  have hlt:i<ys.length:=by lia
  refine ach n8 ?_;rw[abP gf _];let⟨its,rv,p,hz⟩:=aL I (hq _ hi);let⟨q,y,v,hy,hqp,dp⟩:=hp i hlt;let⟨u,hu',ru⟩:=rv.get hy;cases (show u=Value.ref q from ru);have fi:=hf i hi;let⟨f0,f1,f2,f3,f4,f5⟩:=hf _ hi;show wpAny _ A.in1 (pyNext (.ref it)>>=_) _ _ s;refine aaa (BF st p (x:= .ref q) (by simpa using hu') λh1 st1 sb=> ?_);have I1:Inv X pins σ (HH i) {s with heap:=h1}:=I.turned (t':=s.toks) (λb o hb e=>(sb.2 b hb).trans e) f0 f1 f3 f4 f5;let⟨_,its2,r2,o,e1,e2,n2,e3⟩:=(show aI X.prog X.w (HH i) h1 q (.tup [y,v]) from I1.af q _ hqp);let⟨uy,uv,rfl,ry,rv2⟩:=Vals.two r2;have tT:Shared.TypeIs {s with heap:=h1} (.ref q) "tuple":=⟨o,e1,e2⟩;refine aaa (aa8 ?_);refine aaa (ab6 ?_);unfold Builtin.Dict.pairItems;refine aaa (wpAny_typeOf tT ?_);rw[if_pos (by decide)];refine aaa (aaX e1 e3 ?_);refine aaf ?_;show wpAny _ A.in1 (holding [uy,uv] (dictSet d uy uv)) _ _ _;refine aa8 ?_
  have fo:∀b∈[it],∃o,h1.get? b=some o/\∀v,o.data≠ .cell v:=λb hb=>by
   rw[aaL.mp hb];exact st1.live
  have f1':∀b∈[it],cu X pins (HH i) b:=λb hb=>by
   rw[aaL.mp hb];exact fi
  have I2:=I1.pinned f1' fo;refine GR hu I2 dp ry rv2 λs' I3=> ?_;refine aaf ⟨aca gf _,ih (i+1) s' _ _ (by lia) hlt I3.iF (st1.at λo e=> ?_)⟩
  have pm:(it,o)∈bE [it] h1:=by
   unfold bE;simp[e]
  exact(I3.pin (it,o) (aaz _ (aaz _ pm))).1
end
theorem qd:typeLookup (.type "list") "keys"=pure none:=by rw[typeLookup_type,builtinLookup_eq_fast];kernel_rfl
theorem ph:typeLookup (.type "tuple") "keys"=pure none:=by rw[typeLookup_type,builtinLookup_eq_fast];kernel_rfl
theorem qX {w:World} {A:Around} {E:Value->Shared->Prop} {s:Shared} {a:Addr} {o:Obj} {xs:Array Value} {k:Nat} {Q:Option Value->Shared->Prop}
  (hx:s.heap.get? a=some o) (hc:o.cls= .type "list") (hdat:o.data= .seq xs k) (hd:o.dict=none) (hA:A.handled=none)
  (h:∀h' tk e,Heap.NewExcOf s.heap h' e "AttributeError"->Q none {s with heap:=h',toks:=tk}):
  wpAny (model prog w) A (getAttr? (.ref a) "keys") Q E s:=by
 let⟨c,dct,dat,sl⟩:=o;simp only at hc hdat hd;subst hc hdat hd;let⟨hp,g,d,tk,os⟩:=s;have hT:∀tk',(⟨hp,g,d,tk',os⟩:Shared).TypeIs (.ref a) "list":=λ_=>⟨_,hx,rfl⟩;have f1:=sub_AttributeError;have f3:=F.slot_list_getattribute.lookup;have f4:=F.slot_list_getattribute.bind (.ref a);have f5:=am_list_getattr_none;unfold getAttr? getAttrBy? getAttrBy
 repeat (any_goals (first|assumption|exact hT _|((with_reducible show wpAny _ _ (call (Value.builtin "list.__getattribute__") _ _) _ _ _);refine ac5 F.slot_list_getattribute (hT _) am_entry_list_getattribute (F.args_list_getattribute_2 _ _) (meets_getattribute_miss_list a xs k sl "keys" _ qd (by decide+kernel)) ⟨hx,hA,λh' tk' e hx'=> ?_⟩)|wp_step))
 let⟨t',u',he⟩:=hx'.there;show wpAny _ _ (getattributeRaised _ _ _ _ _ _ _) _ _ _;unfold getattributeRaised
 repeat (any_goals (first|assumption|wp_step))
 exact h _ _ _ hx'.of
theorem pk {w:World} {A:Around} {E:Value->Shared->Prop} {s:Shared} {a:Addr} {o:Obj} {xs:Array Value} {k:Nat} {Q:Option Value->Shared->Prop}
  (hx:s.heap.get? a=some o) (hc:o.cls= .type "tuple") (hdat:o.data= .seq xs k) (hd:o.dict=none) (hA:A.handled=none)
  (h:∀h' tk e,Heap.NewExcOf s.heap h' e "AttributeError"->Q none {s with heap:=h',toks:=tk}):
  wpAny (model prog w) A (getAttr? (.ref a) "keys") Q E s:=by
 let⟨c,dct,dat,sl⟩:=o;simp only at hc hdat hd;subst hc hdat hd;let⟨hp,g,d,tk,os⟩:=s;have hT:∀tk',(⟨hp,g,d,tk',os⟩:Shared).TypeIs (.ref a) "tuple":=λ_=>⟨_,hx,rfl⟩;have f1:=sub_AttributeError;have f3:=F.slot_tuple_getattribute.lookup;have f4:=F.slot_tuple_getattribute.bind (.ref a);have f5:=am_tuple_getattr_none;unfold getAttr? getAttrBy? getAttrBy
 repeat (any_goals (first|assumption|exact hT _|((with_reducible show wpAny _ _ (call (Value.builtin "tuple.__getattribute__") _ _) _ _ _);refine ac5 F.slot_tuple_getattribute (hT _) am_entry_tuple_getattribute (F.args_tuple_getattribute_2 _ _) (meets_getattribute_miss_tuple a xs k sl "keys" _ ph (by decide+kernel)) ⟨hx,hA,λh' tk' e hx'=> ?_⟩)|wp_step))
 let⟨t',u',he⟩:=hx'.there;show wpAny _ _ (getattributeRaised _ _ _ _ _ _ _) _ _ _;unfold getattributeRaised
 repeat (any_goals (first|assumption|wp_step))
 exact h _ _ _ hx'.of
theorem cG.keys {b:Bool} {w:World} {A:Around} {E:Value->Shared->Prop} {s:Shared} {l:Addr} {xs:Array Value} {Q:Option Value->Shared->Prop} (hl:cG b s.heap l xs) (hd:∀o,s.heap.get? l=some o->o.dict=none) (hA:A.handled=none)
  (h:∀h' tk e,Heap.NewExcOf s.heap h' e "AttributeError"->Q none {s with heap:=h',toks:=tk}):wpAny (model prog w) A (getAttr? (.ref l) "keys") Q E s:=by
 cases b
 ·let⟨o,e1,e2,n,e3⟩:=(show s.heap.IsTuple l xs from hl);exact pk e1 e2 e3 (hd o e1) hA h
 ·let⟨o,e1,e2,n,e3⟩:=(show s.heap.IsList l xs from hl);exact qX e1 e2 e3 (hd o e1) hA h
def Plain (b:Bool) (H:Hp) (a:Addr) (ys:List V):Prop:=cond b (H a=some (.lst ys)) (∃o:Obj,H a=some (.aB o (.tup ys))/\o.dict=none)
theorem Plain.sq {b:Bool} {K:PySem.W.Frag} {H:Hp} {a:Addr} {ys:List V} (h:Plain b H a ys):fb b K H a ys:=by
 cases b
 ·let⟨o,e,_⟩:=h;exact .inl (.inr ⟨o,e⟩)
 ·exact .inl (.inl h)
theorem Plain.is {b:Bool} {H:Hp} {a:Addr} {ys:List V} (h:Plain b H a ys):H a≠none:=by
 cases b
 ·let⟨o,e,_⟩:=h;rw[e]
  exact λz=>nomatch z
 ·rw[show H a=_ from h]
  exact λz=>nomatch z
theorem Plain.keep {b:Bool} {H H':Hp} {a:Addr} {ys:List V} (h:Plain b H a ys) (e:H' a=H a):Plain b H' a ys:=by
 cases b
 ·let⟨o,e1,e2⟩:=h;exact⟨o,e.trans e1,e2⟩
 ·exact e.trans h
theorem Plain.nodict {b:Bool} {X:Cx} {σ:St} {H:Hp} {s:Shared} {a:Addr} {ys:List V} (h:Plain b H a ys) (I:Inv X pins σ H s) (o:Obj) (e:s.heap.get? a=some o):o.dict=none:=by
 cases b
 ·let⟨o',e1,e2⟩:=h;let⟨z,_⟩:=(show aI X.prog X.w H s.heap a (.aB o' (.tup ys)) from I.af a _ e1);rw[e] at z;cases z;exact e2
 ·let⟨_,its,n,_,z⟩:=(show aI X.prog X.w H s.heap a (.lst ys) from I.af a _ h);rw[e] at z;cases z;rfl
def GL (b:Bool) (ob0:HO):List V->Hp->VK->Prop:=λxs H Q=>∃l ys,xs=[.ref l]/\Plain b H l ys/\∀p,H p=none->∃ob:Nat->HO,ob 0=ob0/\Puts p ys (λi=>upd H p (ob i))/\Q (.ref p) (upd H p (ob ys.length))
theorem lY {X:Cx} (hc:X.calm=true) (hu:X.A.units+2<cLine) {b:Bool} {ob0:HO} (h0:ob0= .dK []∨ob0= .dT []):au X (.type "dict") (GL b ob0):=by
 intro pins s σ H xs us Q I r h;let⟨l,ys,rfl,hl,q⟩:=h;let⟨u,rfl,rx⟩:=vals1 r;cases (show u=Value.ref l from rx);have fr:=I.af.fresh (aag s.heap.objs.size);let⟨ob,e0,hp,hq⟩:=q s.heap.objs.size fr;have hA:X.A.handled=none:=I.ok.hd hc;have nl:l≠s.heap.objs.size:=λz=>hl.is (by rw[z];exact fr);refine callType_codes (Q₁:=λobj s₁=>obj= .ref s.heap.objs.size/\s₁={s with heap:=s.heap.push {cls:= .type "dict",data:= .dict #[]}}) F.kt_called_dict (F.kt_typeCall_dict_1 _) F.entry_dict_init (kt_code_dict_new _ ⟨rfl,rfl⟩) ?_
 rintro obj s₁ ⟨rfl,rfl⟩
 have I1:Inv X pins σ (upd H s.heap.objs.size (ob 0)) {s with heap:=s.heap.push {cls:= .type "dict",data:= .dict #[]}}:=by
  rw[e0]
  rcases h0 with rfl|rfl
  ·exact I.laid (a:=s.heap.objs.size) (o:= .dK []) (t':=s.toks) (λ_ _ q=>aad _ q) (aag _) (pT s.heap I.big)
  ·exact I.laid (a:=s.heap.objs.size) (o:= .dT []) (t':=s.toks) (λ_ _ q=>aad _ q) (aag _) (zf s.heap I.big)
 have hnew:Shared.TypeIs {s with heap:=s.heap.push {cls:= .type "dict",data:= .dict #[]}} (.ref s.heap.objs.size) "dict":=⟨_,aaj _ rfl,rfl⟩;have hl1:∀i,Plain b (upd H s.heap.objs.size (ob i)) l ys:=λi=>hl.keep (aq nl);let⟨its,rv,p,hz⟩:=aL (b:=b) I1 (hl1 0).sq
 have hT:Shared.TypeIs {s with heap:=s.heap.push {cls:= .type "dict",data:= .dict #[]}} (.ref l) (cond b "list" "tuple"):=by
  cases b
  ·let⟨o,e1,e2,_⟩:=(show Heap.IsTuple _ l its.toArray from p);exact⟨o,e1,e2⟩
  ·let⟨o,e1,e2,_⟩:=(show Heap.IsList _ l its.toArray from p);exact⟨o,e1,e2⟩
 refine⟨hnew,F.args_dict_init_2 _ _, ?_⟩;unfold Builtin.«dict.__init__»;refine aaa ?_;unfold Builtin.Dict.selfAndRest;refine aaa (acI hnew ?_);show wpAny _ _ (pure (s.heap.objs.size,[Value.ref l])) _ _ _;refine aaf ?_;show wpAny _ _ (Builtin.Dict.updateFrom "dict.__init__" s.heap.objs.size (.ref l) [] .none) _ _ _;unfold Builtin.Dict.updateFrom;refine aaa (wpAny_typeOf hT ?_);rw[if_pos (by cases b<;>decide)];refine aaa (cG.keys p ((hl1 0).nodict I1) hA λh' tk e hx=> ?_);rw[if_pos (show (none:Option Value).isNone=true from rfl)];have I2:Inv X pins σ (upd H s.heap.objs.size (ob 0)) {s with heap:=h',toks:=tk}:=I1.kept (t':=tk) hx.keeps;refine aaa (acp (aaa (zt (b:=b) (s:={s with heap:=h',toks:=tk}) (p.at λo e=>hx.keeps _ _ e) λh1 st kp sz=> ?_)));have I3:Inv X pins σ (upd H s.heap.objs.size (ob 0)) {s with heap:=h1,toks:=tk}:=I2.kept (t':=tk) kp;refine aaf ⟨aca gf _, ?_⟩
 have fp:∀i,i<=ys.length->cu X pins (upd H s.heap.objs.size (ob i)) h'.objs.size:=λi _=>by
  have lt:s.heap.objs.size<h'.objs.size:=aam (hx.keeps _ _ (aaj (h:=s.heap) (o:={cls:= .type "dict",data:= .dict #[]}) rfl));refine I2.kX (aag _) ?_;rw[aq (Ne.symm (aaw lt))];exact I.af.fresh (abI lt)
 refine xX (A:=X.A.in1) (b:=b) (l:=l) (ys:=ys) (HH:=λi=>upd H s.heap.objs.size (ob i)) hA hu (λi _=>(hl1 i).sq) hp fp (λs' I4=> ?_) ys.length 0 _ _ _ (by lia) (aaV _) I3 st;exact⟨rfl, .ref s.heap.objs.size,_,I4,rfl,hq⟩
section
variable {κ:Type} [DecidableEq κ]
def putAll (acc:List (κ×V)) (ps:List (κ×V)):List (κ×V):=ps.foldl (λa p=>putK a p.1 p.2) acc
theorem yL (kvs:List (κ×V)) (k:κ) (v:V):(putK kvs k v).map (·.1)=if k∈kvs.map (·.1) then kvs.map (·.1) else kvs.map (·.1)++[k]:=by
 have q:((kvs.any λkv=>decide (kv.1=k))=true)↔k∈kvs.map (·.1):=by
  simp[acE,aaP]
 unfold putK
 by_cases h:k∈kvs.map (·.1)
 ·rw[if_pos (q.mpr h),if_pos h,abT];apply acR;intro x _
  by_cases e:x.1=k<;>simp[e]
 ·rw[if_neg (λz=>h (q.mp z)),if_neg h,acf];rfl
theorem mV:∀(ps acc:List (κ×V)),(putAll acc ps).length<=acc.length+ps.length
 |[],acc=>by simp[putAll]
 |p::ps,acc=>by
  have h:=mV ps (putK acc p.1 p.2)
  have l:(putK acc p.1 p.2).length<=acc.length+1:=by
   have:=congrArg List.length (yL acc p.1 p.2);rw[aay] at this;rw[this];split<;>simp
  show (putAll (putK acc p.1 p.2) ps).length<=_;rw[aar];lia
theorem kA (ps:List (κ×V)) {i:Nat} {p:κ×V} (h:ps[i]?=some p):putAll [] (ps.take (i+1))=putK (putAll [] (ps.take i)) p.1 p.2:=by
 rw[List.take_succ,h];simp[putAll]
end
def AU (H:Hp) (y:V) (kv:List Key×V):Prop:=∃q c,y= .ref q/\H q=some (.tup [.ref c,kv.2])/\H c=some (.tup (kv.1.map kV))
def AZ (H:Hp) (y:V) (kv:Key×V):Prop:=∃q,y= .ref q/\H q=some (.tup [kV kv.1,kv.2])
def wX (b:Bool):List V->Hp->VK->Prop:=λxs H Q=>∃l ys kvs,xs=[.ref l]/\Plain b H l ys/\Paired (AU H) ys kvs/\kvs.length<=1000/\∀p,H p=none->Q (.ref p) (upd H p (.dT (putAll [] kvs)))
def xE (b:Bool):List V->Hp->VK->Prop:=λxs H Q=>∃l ys kvs,xs=[.ref l]/\Plain b H l ys/\Paired (AZ H) ys kvs/\kvs.length<=1000/\∀p,H p=none->Q (.ref p) (upd H p (.dK (putAll [] kvs)))
theorem jL {α β:Type} {F:α->β->Prop}:∀{l:List α} {r:List β},Paired F l r->∀i,i<l.length->∃x y,l[i]?=some x/\r[i]?=some y/\F x y
 |_,_, .cons h _,0,_=>⟨_,_,rfl,rfl,h⟩
 |_,_, .cons _ t,i+1,hi=>by
  let⟨x,y,a,b,c⟩:=jL t i (by simpa using hi);exact⟨x,y,by simpa using a,by simpa using b,c⟩
theorem oY {κ:Type} [DecidableEq κ] {kvs:List (κ×V)} (h:kvs.length<=1000) (i:Nat):(putAll [] (kvs.take i)).length<sizeLine:=by
 have:=mV (kvs.take i) ([]:List (κ×V));rw[adh,acm,abb] at this;exact gq (by lia)
theorem mQ {X:Cx} (hc:X.calm=true) (hu:X.A.units+2<cLine) {b:Bool}:au X (.type "dict") (wX b):=by
 intro pins s σ H xs us Q I r h;let⟨l,ys,kvs,rfl,hl,hp,hz,q⟩:=h;refine lY hc hu (b:=b) (ob0:= .dT []) (.inr rfl) pins s σ H _ us Q I r ⟨l,ys,rfl,hl,λp np=>⟨λi=> .dT (putAll [] (kvs.take i)),rfl,λi hi=> ?_, ?_⟩⟩
 ·let⟨x,kv,e1,e2,qq,c,rfl,h1,h2⟩:=jL hp i hi;have n1:=bj h1 np;have n2:=bj h2 np;refine⟨qq, .ref c,kv.2,e1,(aq n1).trans h1, ?_⟩;have:=eY.t (H:=upd H p (.dT (putAll [] (kvs.take i)))) (a:=p) (b:=c) (k:=kv.1) (v:=kv.2) ao (by rw[aq n2];exact h2) (oY hz i);rw[gX,←kA kvs e2] at this;exact this
 ·have el:=abn hp;show Q (.ref p) (upd H p (.dT (putAll [] (kvs.take ys.length))));rw[el,List.take_length];exact q p np
theorem mJ {X:Cx} (hc:X.calm=true) (hu:X.A.units+2<cLine) {b:Bool}:au X (.type "dict") (xE b):=by
 intro pins s σ H xs us Q I r h;let⟨l,ys,kvs,rfl,hl,hp,hz,q⟩:=h;refine lY hc hu (b:=b) (ob0:= .dK []) (.inl rfl) pins s σ H _ us Q I r ⟨l,ys,rfl,hl,λp np=>⟨λi=> .dK (putAll [] (kvs.take i)),rfl,λi hi=> ?_, ?_⟩⟩
 ·let⟨x,kv,e1,e2,qq,rfl,h1⟩:=jL hp i hi;have n1:=bj h1 np;refine⟨qq,kV kv.1,kv.2,e1,(aq n1).trans h1, ?_⟩;have:=eY.k (H:=upd H p (.dK (putAll [] (kvs.take i)))) (a:=p) (k:=kv.1) (v:=kv.2) ao (oY hz i);rw[gX,←kA kvs e2] at this;exact this
 ·have el:=abn hp;show Q (.ref p) (upd H p (.dK (putAll [] (kvs.take ys.length))));rw[el,List.take_length];exact q p np
def Gr (K:PySem.W.Frag):List V->Hp->VK->Prop:=λxs H Q=>∃p ys,xs=[.ref p]/\bF K H p ys/\∀l o,H l=none->o.dict=none->Q (.ref l) (upd H l (.aB o (.tup ys)))
theorem xJ {X:Cx}:au X (.type "tuple") (Gr X.K):=by
 intro pins s σ H xs us Q I r h;let⟨p,ys,rfl,hq,q⟩:=h;let⟨u,rfl,rx⟩:=vals1 r;cases (show u=Value.ref p from rx);let⟨its,r',pl,hz⟩:=I.list hq;have hlen:=r'.length;refine call_tuple_list pl.isList (λh' kp=> ?_) (by simp only[aak]<;>lia);have I1:Inv X pins σ H {s with heap:=h'}:=I.kept (t':=s.toks) kp
 have I2:Inv X pins σ (upd H h'.objs.size (.aB {cls:= .type "tuple",data:= .seq its.toArray} (.tup ys))) {s with heap:=h'.push {cls:= .type "tuple",data:= .seq its.toArray}}:=
  I1.laid (t':=s.toks) (λb o e=>aad _ e) (aag _) (show aI X.prog X.w _ _ _ (.aB _ (.tup ys)) from ⟨aaj _ rfl,hz,its,r',IsTup.new _ _⟩)
 exact⟨.ref h'.objs.size,_,I2,rfl,q _ _ (I1.af.fresh (aag _)) rfl⟩
end L2.L3
namespace L2.L3
open PySem PySem.Spec PyProof.Rows PySem.W PySem.Builtin.Str
noncomputable def jo (x:Str) (lo hi:Option Int):Str:=if (strSliceIndices lo hi 1 x.length).length==x.length then x else ⟨((strSliceIndices lo hi 1 x.length).filterMap (x.cps[·]?)).toArray⟩
def JR:V->Option Int->Option Int->Hp->VK->Prop:=λx lo hi H Q=>∃z:Str,x= .str z/\z.length<=1000/\(jo z lo hi).length<=1000/\Q (.str (jo z lo hi)) H
theorem part_of {v:Value} {lo:Option Int} (h:IsPart v lo):∃l:Option (Int×Tok),v=partValue l/\l.map (·.1)=lo:=by
 cases h with
 |none=>exact⟨none,rfl,rfl⟩
 |int i t=>exact⟨some (i,t),rfl,rfl⟩
theorem DP {X:Cx}:nX X JR:=by
 intro pins s σ H x v vl vu lo hi sl Q I rx hs pl pu h;let⟨z,rfl,hz,hz2,q⟩:=h;let⟨t,rfl⟩:=(show∃t,v=Value.str z t from rx);let⟨l,rfl,el⟩:=part_of pl;let⟨u,rfl,eu⟩:=part_of pu;refine⟨"str",_,F.slot_str_getitem.lookup,typeIs_str _ _ _,wpAny_getItem_str_slice (l:=l) (u:=u) (st:=none) hs rfl ?_⟩
 have e:slicePicked z l u none=strSliceIndices lo hi 1 z.length:=by
  unfold slicePicked;rw[el,eu];rfl
 unfold sliceMade;rw[e];unfold jo at q hz2
 by_cases w:((strSliceIndices lo hi 1 z.length).length==z.length)=true
 ·rw[if_pos w] at q;rw[if_pos (by simpa using w)];exact⟨.str z,H,I,⟨t,rfl⟩,q⟩
 ·rw[if_neg w] at q hz2;rw[if_neg (by simpa using w)];exact⟨abI (gq hz2), .str _,H,I.tok _,⟨_,rfl⟩,q⟩
def F0:R2:=λx y H Q=>∃(z:Str) (k:Int),x= .str z/\y= .int k/\0<=k/\k<=1000/\z.length<=1000/\Q (.str (Txt.mul z k)) H
theorem A8 {X:Cx}:aD X (binaryOp .Mult) F0:=by
 intro pins s σ H x y u v Q I rx ry h;let⟨z,k,rfl,rfl,k0,k1,hz,q⟩:=h;let⟨t,rfl⟩:=(show∃t,u=Value.str z t from rx);let⟨t',rfl⟩:=(show∃t,v=Value.int k t from ry);refine SB.mul ⟨?_,λh1 _=> ?_,λ_ _=> ?_⟩ λt2 k2=>⟨.str _,H,I.tok _,⟨_,rfl⟩,q⟩
 ·rw[aaA (by lia),aaA (by lia)];rfl
 ·have hk:(2^63-1)/(1000:Int)<=(2^63-1)/k:=by
   rw[Int.le_ediv_iff_mul_le (by lia)];have:(2^63-1)/(1000:Int)*k<=(2^63-1)/(1000:Int)*1000:=Int.mul_le_mul_of_nonneg_left k1 (by decide)
   have h2:(2^63-1)/(1000:Int)*1000<=2^63-1:=by decide
   lia
  have h3:(1000:Int)<(2^63-1)/(1000:Int):=by decide
  lia
 ·unfold tooLong;have:z.length*k.toNat<=1000*1000:=Nat.mul_le_mul hz (by lia);apply aaA
  have h4:1000*1000<=sizeLine:=by decide
  lia
end L2.L3
namespace L2.L3
open PySem PySem.Spec PyProof.Rows PySem.W
def jO (h:Heap) (d:Addr) (es:Array DictEntry) (ep:Nat):Prop:=∃o,h.get? d=some o/\o.ExactDict/\o.data= .dict es ep
theorem jO.ty {s:Shared} {d:Addr} {es:Array DictEntry} {ep:Nat} (x:jO s.heap d es ep):s.TypeIs (.ref d) "dict":=let ⟨o,e,c,_⟩:=x;⟨o,e,c.1⟩
section
variable {prog:Program} {w:World} {A:Around} {E:Value->Shared->Prop} {s:Shared} {d:Addr} {es:Array DictEntry} {ep:Nat}
theorem BR {Q:Value->Shared->Prop} (hd:(d==sysModules)=false) (x:jO s.heap d es ep) (hf:(es.size:Int)<2^63) (h:∀t k,Q (.int es.size t) {s with toks:=k}):
  wpAny (model prog w) A (call (.builtin "len") [.ref d]) Q E s:=by
 refine Calls.call_function_entry kind_len plain_len entry_len (args_len1 _) ?_;unfold Builtin.«len»;refine aaa (m:=oneArg "len" _) (aaf ?_);refine aaa (m:=callSpecial? (.ref d) (Str.ofString "__len__")) (aaW (name:=Str.ofString "__len__") x.ty F.slot_dict_len (abe F.slot_dict_len x.ty F.entry_dict_len ?_ (F.args_dict_len_1 _)));let⟨o,ho,hc,hdat⟩:=id x;unfold Builtin.«dict.__len__»;refine aaa (aaa (acI x.ty (aaf ?_)));show wpAny _ _ (dictSize d>>=_) _ _ s;unfold dictSize;refine aaa (aaa (acw ho hdat (aaf ?_)));show wpAny _ _ (Builtin.Dict.pendingCount d>>=_) _ _ s;refine aaa (wpAny_pendingCount_other hd ?_);refine aaa (wpAny_mkInt (aaf ⟨_,rfl, ?_⟩));show wpAny _ _ (holding [Value.int ((es.size:Int)+(0:Nat)) s.toks] (asIndex _)>>=_) _ _ _;refine aaa (aa8 (aaf ?_));refine aaa (abQ ?_)
 have e:((es.size:Int)+((0:Nat):Int))=es.size:=by lia
 rw[e];rw[if_neg (by lia)];show wpAny _ _ (if ((es.size:Nat):Int)≥2^63 then _ else _) _ _ _;rw[if_neg (by lia)];refine aaa (wpAny_mkInt (aaf ⟨_,rfl,h _ _⟩))
theorem qw {Q:Value->Shared->Prop} (hd:(d==sysModules)=false) (x:jO s.heap d es ep) (q:∀h1,h1.IsKeyIter s.heap.objs.size d 0 es.size ep->(∀c o,s.heap.get? c=some o->h1.get? c=some o)->Q (.ref s.heap.objs.size) {s with heap:=h1}):
  wpAny (model prog w) A (pyIter (.ref d)) Q E s:=by
 let⟨o,ho,hc,hdat⟩:=id x;refine wpAny_pyIter_slot x.ty F.slot_dict_iter (abe F.slot_dict_iter x.ty F.entry_dict_iter ?_ (F.args_dict_iter_1 _));unfold Builtin.«dict.__iter__»;refine aaa (aaa (acI x.ty (aaf ?_)));show wpAny _ _ (Builtin.Dict.showsAll d>>=_) _ _ s;unfold Builtin.Dict.showsAll;rw[if_neg (by rw[hd];exact aaG)];refine aaa (aaf (aaa (acw ho hdat (aaa (wpAny_dictEpoch ho hdat ?_)))));refine aaa (aaS (aaf ⟨_,rfl,"dict_keyiterator",_,⟨_,aaj _ rfl,rfl⟩,abF.lookup, ?_⟩));exact q _ ⟨_,aaj _ rfl,rfl,rfl⟩ λc o e=>aad _ e
theorem qD {i:Nat} {Q:Option Value->Shared->Prop} (hit:s.heap.IsKeyIter it d i es.size ep) (x:jO s.heap d es ep) (lt:i<es.size)
  (q:∀h',h'.IsKeyIter it d (i+1) es.size ep->Heap.SameBut it s.heap h'->Q (some es[i].key) {s with heap:=h'}):wpAny (model prog w) A (pyNext (.ref it)) Q E s:=by
 let⟨o,ho,hc,hd⟩:=id hit;let⟨od,hod,hcd,hdd⟩:=id x;unfold pyNext;refine aaa (acB (aaW (name:=Str.ofString "__next__") hit.typeIs abF (abe abF hit.typeIs F.entry_dict_keyiterator_next ?_ (acM _))));refine aaa (aaf (aaa (aaa ?_)));refine aaa (abC hit.typeIs (aaf (aaa (wpAny_fieldsOf ho hd ?_))));simp only[show Builtin.Dict_items.ownsTuple "dict_keyiterator"=false by decide,abt,abq];show wpAny _ _ (if (Value.ref d==Value.none)=true then _ else _) _ _ s;rw[if_neg (show¬((Value.ref d==Value.none)=true) from λz=>aaG z)];refine aaa (aaf (aaa (acw hod hdd ?_)));rw[if_neg (by simp)];refine aaa (aaf (aaa (wpAny_dictEpoch hod hdd ?_)));rw[if_neg (by simp)];refine aaf ?_;simp only[show¬((i:Int)<0) from by lia,abq,acs,Array.getElem?_eq_getElem lt];refine aaa (aaa (abC hit.typeIs (aaf ?_)));refine aaa (wpAny_isOneOf_keyiter hit.typeIs ?_);show wpAny _ _ (setField (.ref it) 1 (rawInt ((i:Int)+1))>>=_) _ _ s;refine aaa (abR ho hd (by simp) ?_);have hit':(s.heap.update it (Obj.mapFields (·.setIfInBounds 1 (rawInt ((i:Int)+1))))).IsKeyIter it d (i+1) es.size ep:=⟨_,aa6 _ ho (abJ (abc hd _)),(ac2 ..).trans hc,by rw[abc hd];simp[rawInt]⟩;refine aaa (aa8 (aaa (wpAny_isOneOf_keyiter (s:={s with heap:=s.heap.update it (Obj.mapFields (·.setIfInBounds 1 (rawInt ((i:Int)+1))))}) hit'.typeIs ?_)));show wpAny _ _ (pure es[i].key) _ _ _;exact aaf (aaf ⟨_,rfl,aaf (q _ hit' (acb ..))⟩)
theorem tj {i:Nat} {Q:Option Value->Shared->Prop} (hh:A.handled=none) (hit:s.heap.IsKeyIter it d i es.size ep) (x:jO s.heap d es ep) (ge:es.size<=i)
  (q:∀h',Heap.ExtBut it s.heap h'->Q none {s with heap:=h'}):wpAny (model prog w) A (pyNext (.ref it)) Q E s:=by
 let⟨o,ho,hc,hd⟩:=id hit;let⟨od,hod,hcd,hdd⟩:=id x;unfold pyNext;refine aaa (acB (aaW (name:=Str.ofString "__next__") hit.typeIs abF (abe abF hit.typeIs F.entry_dict_keyiterator_next ?_ (acM _))));refine aaa (aaf (aaa (aaa ?_)));refine aaa (abC hit.typeIs (aaf (aaa (wpAny_fieldsOf ho hd ?_))));simp only[show Builtin.Dict_items.ownsTuple "dict_keyiterator"=false by decide,abt,abq];show wpAny _ _ (if (Value.ref d==Value.none)=true then _ else _) _ _ s;rw[if_neg (show¬((Value.ref d==Value.none)=true) from λz=>aaG z)];refine aaa (aaf (aaa (acw hod hdd ?_)));rw[if_neg (by simp)];refine aaa (aaf (aaa (wpAny_dictEpoch hod hdd ?_)));rw[if_neg (by simp)];refine aaf ?_;simp only[show¬((i:Int)<0) from by lia,abq,acs,Array.getElem?_eq_none ge];refine aaa (aaa (abC hit.typeIs (aaf ?_)));show wpAny _ _ (setField (.ref it) 0 .none>>=_) _ _ s;refine aaa (abR ho hd (by simp) ?_);show wpAny _ _ (newExc (.type "StopIteration") []>>=_) _ _ _;refine aaa ?_;simp only[newExc,newTuple];refine aaa (aaS ?_ (by size_fits));refine aaa (m:=firstArgMember _ _) (wpAny_of_eq (a:=Value.none) (by first|rfl|(simp only[firstArgMember];rfl)) ?_);refine aaS ?_ (by size_fits);simp only[raiseNew];refine aaa (wpAny_handled ?_);rw[show A.in1.handled=none from hh];refine aaa (aaf (wpAny_throw ?_));refine aaa (wpAny_isInstance (T:="StopIteration") (b:=true) ⟨_,aaj _ rfl,rfl⟩ isSubtype_stop (aaf (q _ (((acb ..).extBut.push _).push _))))
end
section
variable {X:Cx} {pins:List (Addr×Obj)} {σ:St} {H:Hp} {s:Shared} {a:Addr}
theorem Inv.BW {kvs:List (List Key×V)} (I:Inv X pins σ H s) (e:H a=some (.dT kvs)):∃o,Inv X pins σ (upd H a (.aB o (.dT kvs))) s:=by
 let⟨z,y,xs,r,o,es,ep,h1,h2,h3,h4,h5⟩:=(show aI X.prog X.w H s.heap a (.dT kvs) from I.af a _ e);refine⟨o,I.write (x:=a) (e:=a) (t':=s.toks) (by rw[e];exact True.intro) (.inl rfl) (λb q hb z=>z) ⟨o,h1⟩ ⟨h1,z,y,xs,Paired.uQ r λ_ _ w=>⟨w.1, ?_,w.2.2⟩,o,es,ep,h1,h2,h3,h4,h5⟩⟩;rw[aq (pN w.2.1 e (λz=>nomatch z))];exact w.2.1
theorem Inv.Bg {kvs:List (Key×V)} (I:Inv X pins σ H s) (e:H a=some (.dK kvs)):∃o,Inv X pins σ (upd H a (.aB o (.dK kvs))) s:=by
 let⟨z,y,vs,r,o,es,ep,h1,h2⟩:=(show aI X.prog X.w H s.heap a (.dK kvs) from I.af a _ e);exact⟨o,I.write (x:=a) (e:=a) (t':=s.toks) (by rw[e];exact True.intro) (.inl rfl) (λb q hb z=>z) ⟨o,h1⟩ ⟨h1,z,y,vs,r,o,es,ep,h1,h2⟩⟩
end
def Gz:List V->Hp->VK->Prop:=λxs H Q=>∃a,xs=[.ref a]/\((∃kvs,Rd H a (.dT kvs)/\Q (.int kvs.length) H)∨∃kvs,Rd H a (.dK kvs)/\Q (.int kvs.length) H)
theorem wb {X:Cx}:au X (.builtin "len") Gz:=by
 intro pins s σ H xs us Q I r h;let⟨a,rfl,h⟩:=h;let⟨u,rfl,rx⟩:=vals1 r;cases (show u=Value.ref a from rx)
 rcases h with⟨kvs,e,q⟩|⟨kvs,e,q⟩
 ·let⟨z,hd,xs,rel,o,es,ep,h1,h2,h3,h4,_⟩:=eg I.af e
  have hz:es.size=kvs.length:=by
   rw[abn rel,←aa1,h4,aay]
  refine BR hd ⟨o,h1,h2,h3⟩ (by rw[hz];rw[abG] at z;lia) λt k=>⟨.int kvs.length,H,I.tok k,⟨t,by rw[hz]⟩,q⟩
 ·exact F9 I e λt s' I'=>⟨.int kvs.length,H,I',⟨t,rfl⟩,q⟩
def AG (o:Obj) (h:Heap) (it d:Addr) (i:Nat):Prop:=∃es ep,o.data= .dict es ep/\h.IsKeyIter it d i es.size ep
def DA (d:Addr) (o:Obj) (kvs:List (List Key×V)):It:=
 ⟨λi H=>H d=some (.aB o (.dT kvs))/\i<kvs.length,λi H x H'=>H'=H/\∃c k v,x= .ref c/\kvs[i]?=some (k,v)/\H c=some (.tup (k.map kV)),λi H=>H d=some (.aB o (.dT kvs))/\kvs.length<=i⟩
theorem qZ {P:Program} {w:World} {H:Hp} {d:Addr} {o:Obj} {kvs:List (List Key×V)} (ok:bq P w H h) (e:H d=some (.aB o (.dT kvs))):∃es ep xs,o.data= .dict es ep/\jO h d es ep/\es.toList=xs.map (entryOfKey (tupleKind (aF P w)))/\KT H kvs xs/\es.size=kvs.length/\(d==sysModules)=false:=by
 let⟨h0,z,y,xs,r,o',es,ep,h1,h2,h3,h4,h5⟩:=(show aI P w H h d (.aB o (.dT kvs)) from ok d _ e);rw[h0] at h1;cases h1;exact⟨es,ep,xs,h3,⟨o,h0,h2,h3⟩,h4,r,by rw[abn r,←aa1,h4,aay],y⟩
theorem xn {P:Program} {w:World} {K:PySem.W.Frag} (d it:Addr) (o:Obj) (kvs:List (List Key×V)):Turn P w K tg (DA d o kvs) [it] it (λi h=>AG o h it d i) where
 mem:=by simp
 obj:=λi h st b hb=>by
  let⟨es,ep,_,u,h1,h2,h3⟩:=st;rw[aaL.mp hb];exact⟨u,h1,λv z=>by rw[h3] at z;cases z⟩
 keep:=λi h h' st k=>by
  let⟨es,ep,hd,x⟩:=st;exact⟨es,ep,hd,x.at λo e=>k it (by simp) o e⟩
 item:=by
  intro X hP hw hK hc i pins s σ H E I hf st hg;subst hP hw hK;let⟨es,ep,hdat,hit⟩:=st;let⟨e,lt⟩:=hg;let⟨es',ep',xs,hdat',raw,hes,rel,hsz,_⟩:=qZ I.af e;rw[hdat] at hdat';cases hdat'
  have lt':i<es.size:=by lia
  let⟨f0,f1,f2,f3,f4,f5⟩:=hf it (by simp);refine qD hit raw lt' λh' st' sb=> ?_;have I1:Inv X pins σ H {s with heap:=h'}:=I.turned (t':=s.toks) (λb o hb e=>(sb.2 b hb).trans e) f0 f1 f3 f4 f5;let⟨kv,x,e1,e2,h1,h2,h3⟩:=jL rel i lt
  have ek:es[i].key= .ref x.2.1:=by
   have q:es.toList[i]?=some es[i]:=by simp[lt']
   rw[hes,aaO,e2] at q;have q':entryOfKey (tupleKind (aF X.prog X.w)) x=es[i]:=Option.some.inj q;rw[←q'];rfl
  let⟨u,v1,v2,v3⟩:=id st';refine⟨es[i].key,rfl,lP (s:={s with heap:=h'}) v1 v2 v3 (by decide) ⟨.ref x.2.1,H,I1,ek,⟨rfl,x.2.1,kv.1,kv.2,rfl,e1,h2⟩,⟨es,ep,hdat,st'⟩,λb hb=>(hf b hb).1⟩⟩
 done:=by
  intro X hP hw hK hc i pins s σ H E I hf st hg;subst hP hw hK;let⟨es,ep,hdat,hit⟩:=st;let⟨e,ge⟩:=hg;let⟨es',ep',xs,hdat',raw,hes,rel,hsz,_⟩:=qZ I.af e;rw[hdat] at hdat';cases hdat';let⟨f0,f1,f2,f3,f4,f5⟩:=hf it (by simp);exact tj (I.ok.hd hc) hit raw (by lia) λh' eb=>⟨rfl,I.turned (t':=s.toks) (λb o hb e=>eb b o hb e) f0 f1 f3 f4 f5⟩
 self:=λ_ _ _ _ _ st h=>by
  let⟨es,ep,_,hit⟩:=st;exact wpAny_pyIter_keyiter hit h
end L2.L3
namespace L2.L3
open PySem PySem.Spec PyProof.Rows
structure BlockOkC (S sc:Scope):Prop where
 kind:sc.kind= .function
 names:∀y∈sc.names,y.2= .local->sc.names.lookup y.1=some .local
 free:∀y∈sc.names,y.2= .free->S.names.lookup y.1=some .cell∨S.names.lookup y.1=some .free
 cells:∀y∈sc.names,y.2= .cell->sc.names.lookup y.1=some .cell
theorem rA {a b c:Nat} (h:b<a) (k:a<=c):c≠b:=λe=>aa3 _ (aao h (e▸k))
def cv (X:Cx) (own:List (Str×Addr)) (ws:List Str) (caps:List Nat) (sc:Scope) (C:Addr) (fp:List Addr) (pn:List (Addr×Obj)) (s:Shared) (H:Hp):Cx:={AM X ws caps sc C fp pn s H with env:=compEnvC sc (own++aX X.env sc.names []) C X.env,fn:=λx=>sc.names.lookup x==some .cell}
abbrev cK (X:Cx) (E:XK) (own:List (Str×Addr)) (ws:List Str) (caps:List Nat) (sc:Scope) (C:Addr) (fp:List Addr) (pn:List (Addr×Obj)) (s:Shared) (H:Hp):Cx:=
 (cv X own ws caps sc C fp pn s H).ag (XE (cv X own ws caps sc C fp pn s H) E)
structure OwnOk (sc:Scope) (own:List (Str×Addr)) (s:Shared) (C:Addr):Prop where
 pl:∀x c,own.lookup x=some c->s.heap.objs.size<=c/\c≠C/\sc.names.lookup x=some .cell
 inj:∀x y c,own.lookup x=some c->own.lookup y=some c->x=y
 has:∀x,sc.names.lookup x=some .cell->(own.lookup x).isSome=true
section
variable {X:Cx} {pins:List (Addr×Obj)} {σ:St} {H:Hp} {s:Shared} {ws:List Str} {caps:List Nat} {sc:Scope} {C:Addr} {fp:List Addr} {pn:List (Addr×Obj)} {own:List (Str×Addr)}
theorem gU (I:Inv X pins σ H s) (B:BlockOkC X.env.scope sc):∀x∈sc.names,x.2= .free->∃c,X.env.cells.lookup x.1=some c:=λx hx hf=>I.ok.has x.1 (B.free x hx hf)
theorem ou (I:Inv X pins σ H s) (B:BlockOkC X.env.scope sc) {x:Str} {c:Addr} (e:(aX X.env sc.names []).lookup x=some c):X.env.cells.lookup x=some c:=
 mh sc.names [] (gU I B) (λ_ _ z=>by cases z) e
theorem iY {l l':List (Str×Addr)} {x:Str}:(l++l').lookup x=(l.lookup x).or (l'.lookup x):=by
 induction l with
 |nil=>rfl
 |cons a t ih=>
  rw[acF,aaK,aaK]
  cases x==a.1 with
  |true=>rfl
  |false=>exact ih
theorem kZ (I:Inv X pins σ H s) (B:BlockOkC X.env.scope sc) {x:Str} {c:Addr} (e:(own++aX X.env sc.names []).lookup x=some c):own.lookup x=some c∨X.env.cells.lookup x=some c:=by
 rw[iY] at e
 cases q:own.lookup x with
 |some d=>
  rw[q] at e;exact .inl e
 |none=>
  rw[q] at e;exact .inr (ou I B e)
theorem AH (O:OwnOk sc own s C) {x:Str} {c:Addr} (fr:sc.names.lookup x=some .free) (e:(aX X.env sc.names []).lookup x=some c):(own++aX X.env sc.names []).lookup x=some c:=by
 rw[iY]
 cases q:own.lookup x with
 |some d=>
  have:=(O.pl x d q).2.2;rw[fr] at this;cases this
 |none=>exact e
theorem Cr (O:OwnOk sc own s C) {x:Str} {c:Addr} (z:(sc.names.lookup x==some NameKind.cell)=true) (e:(own++aX X.env sc.names []).lookup x=some c):s.heap.objs.size<=c:=by
 have z':sc.names.lookup x=some NameKind.cell:=beq_iff_eq.mp z;let⟨d,hd⟩:=aa4.mp (O.has x z');rw[iY,hd] at e;cases e;exact(O.pl x _ hd).1
theorem vv (I:Inv X pins σ H s) (O:OwnOk sc own s C) (B:BlockOkC X.env.scope sc) {x y:Str} {c:Addr} (e1:(own++aX X.env sc.names []).lookup x=some c) (e2:(own++aX X.env sc.names []).lookup y=some c):x=y:=by
 have old:∀z,X.env.cells.lookup z=some c->c<s.heap.objs.size:=λz h=>let ⟨v,q⟩:=I.cell z c h;q.lt
 rcases kZ I B e1 with a|a<;>rcases kZ I B e2 with b|b
 ·exact O.inj x y c a b
 ·exact absurd (old y b) (Nat.not_lt.mpr (O.pl x c a).1)
 ·exact absurd (old x a) (Nat.not_lt.mpr (O.pl y c b).1)
 ·exact I.ok.inj x y c a b
theorem vO (O:OwnOk sc own s C) (B:BlockOkC X.env.scope sc) {x:Str} (h:(compEnvC sc (own++aX X.env sc.names []) C X.env).kindOf x=some .cell∨(compEnvC sc (own++aX X.env sc.names []) C X.env).kindOf x=some .free):
  ∃c,(own++aX X.env sc.names []).lookup x=some c:=by
 have e:(compEnvC sc (own++aX X.env sc.names []) C X.env).kindOf x=(sc.names.lookup x).map λk=>if (k==NameKind.free&&X.env.scope.kind== .function&&X.env.kindOf x==some .cell) then NameKind.cell else k:=fV sc.names
 rw[e] at h
 cases q:sc.names.lookup x with
 |none=>
  rw[q] at h
  rcases h with h|h<;>cases h
 |some k=>
  have mem:=aaH q;rw[q] at h
  by_cases hk:k= .free
  ·subst hk;let⟨c,hc⟩:=aa4.mp (jt (env:=X.env) sc.names [] (.inl mem));exact⟨c,AH O q hc⟩
  ·have hb:(k==NameKind.free)=false:=by simpa using hk
   simp only[acN,hb,Bool.false_and,abt,abq,Option.some.injEq] at h
   rcases h with h|h
   ·subst h;let⟨c,hc⟩:=aa4.mp (O.has x q);refine⟨c, ?_⟩;rw[iY,hc];rfl
   ·exact absurd h hk
theorem C7 (I:Inv X pins σ H s) (O:OwnOk sc own s C) (B:BlockOkC X.env.scope sc) (hf:∀b∈fp,cu X pins H b) (ho:∀b∈fp,∃o,s.heap.get? b=some o) (hC:s.heap.objs.size<=C):(cv X own ws caps sc C fp pn s H).Ok where
 mod:=I.ok.mod
 kind:=B.kind
 glob:=I.ok.glob
 blt:=I.ok.blt
 above:=hC
 inj:=λx y c e1 e2=>vv I O B e1 e2
 has:=λx hx=>vO O B hx
 cab:=λx c z e=>Cr O z e
 hd:=I.ok.hd
 frames:=I.ok.frames
 stk:= .inl rfl
 exf:=λb hb=>by
  let⟨o,e⟩:=ho b hb;let⟨_,_,_,_,f4,_⟩:=hf b hb;exact⟨aaw (aao (aam e) hC),λx c q=>(kZ I B q).elim (λz=>rA (aam e) (O.pl x c z).1) (f4 x c)⟩
 bs:=I.bs
 bsz:=aaJ I.ok.bsz I.sz
 noex:=λb o e hb=>by
  let⟨_,_,_,f3,_⟩:=hf b hb
  rcases f3 with z|z
  ·exact I.ok.noex b o e z
  ·exact absurd (aao (aam e) (aaJ I.ok.bsz z)) (aa3 _)
 exfs:=λb hb=>qW I (hf b hb)
 cR:=I.stack
 frf:=I.jX
theorem rR {h1:Heap} {m:Str->Option Value} {t:Nat} (I:Inv X pins σ H s) (O:OwnOk sc own s C) (B:BlockOkC X.env.scope sc) (hf:∀b∈fp,cu X pins H b) (ho:∀b∈fp,∃o,s.heap.get? b=some o) (hC:s.heap.objs.size<=C)
  (hcap:∀k∈caps,sc.names.lookup (X.N.getD k Str.empty)=some .free) (k:∀b o,s.heap.get? b=some o->h1.get? b=some o) (hn:h1.Ns C m) (hw:∀x c,own.lookup x=some c->∃v,h1.IsCell c v):
  Inv (cv X own ws caps sc C fp [] s H) [] (stC ws caps σ) H {s with heap:=h1,toks:=t}:=by
 refine⟨C7 I O B hf ho hC,rfl,I.bare,Un.kept k,⟨m,hn,λi x v e1 e2 e3=> ?_⟩,λx c e=> ?_,I.af.fresh hC,λx c e=>(kZ I B e).elim (λz=>I.af.fresh (O.pl x c z).1) (I.freeC x c),λp hp=>absurd (show p∈([]:List (Addr×Obj)) from hp) (by simp),I.af.kept k, ?_⟩
 ·have e1':(ws++caps.map λi=>X.N.getD i Str.empty)[i]?=some x:=e1;have e2':(ws.map (λ_=>(none:Option V))++caps.map λi=>(σ[i]?).getD none)[i]?=some (some v):=e2
  by_cases hi:i<ws.length
  ·rw[aal (by simpa using hi),aaO] at e2'
   cases q:ws[i]? with
   |none=>
    rw[q] at e2';cases e2'
   |some y=>
    rw[q] at e2';cases e2'
  ·rw[aan (by lia)] at e1';rw[aan (by simp;lia),aay] at e2';rw[aaO] at e1' e2'
   cases q:caps[i-ws.length]? with
   |none=>
    rw[q] at e1';cases e1'
   |some j=>
    rw[q] at e1' e2';have x1:X.N.getD j Str.empty=x:=Option.some.inj e1';have x2:(σ[j]?).getD none=some v:=Option.some.inj e2'
    have x3:σ[j]?=some (some v):=by
     cases z:σ[j]? with
     |none=>
      rw[z] at x2;cases x2
     |some u=>
      rw[z] at x2;exact congrArg some x2
    have hj:j<X.N.length:=by
     rw[←I.len];exact(aae.mp x3).1
    have x4:X.N[j]?=some x:=by
     rw[←x1,aax,aac hj];rfl
    have fr:sc.names.lookup x=some .free:=by
     rw[←x1];exact hcap j (aas q)
    have out:=B.free _ (aaH fr) rfl;have vis:xN X.env.scope x:= .inr out;let⟨m',hn',hl⟩:=I.loc;let⟨u,r,lk⟩:=hl j x v x4 x3 vis;refine⟨u,r, ?_⟩
    rcases lk with⟨hk,_⟩|⟨_,c,hc,hcell⟩
    ·exfalso;have hk':X.env.scope.names.lookup x=some .local:=hk
     rcases out with z|z
     ·have z':X.env.scope.names.lookup x=some .cell:=z;rw[hk'] at z';cases z'
     ·have z':X.env.scope.names.lookup x=some .free:=z;rw[hk'] at z';cases z'
    ·let⟨c',hc'⟩:=aa4.mp (jt (env:=X.env) sc.names [] (.inl (aaH fr)));have ec:=ou I B hc';rw[hc] at ec;cases ec;refine .inr ⟨?_,c,AH O fr hc', ?_⟩
     ·have e:(compEnvC sc (own++aX X.env sc.names []) C X.env).kindOf x=(sc.names.lookup x).map λk=>if (k==NameKind.free&&X.env.scope.kind== .function&&X.env.kindOf x==some .cell) then NameKind.cell else k:=fV sc.names
      show (compEnvC sc (own++aX X.env sc.names []) C X.env).kindOf x=some .cell∨(compEnvC sc (own++aX X.env sc.names []) C X.env).kindOf x=some .free;rw[e,fr];simp only[acN];split
      ·exact .inl rfl
      ·exact .inr rfl
     ·let⟨o,z1,z2⟩:=hcell;exact⟨o,k _ _ z1,z2⟩
 ·rcases kZ I B e with z|z
  ·exact hw x c z
  ·let⟨v,o,z1,z2⟩:=I.cell x c z;exact⟨v,o,k _ _ z1,z2⟩
 ·show (stC ws caps σ).length=(ws++caps.map λi=>X.N.getD i Str.empty).length;unfold stC;simp
theorem mH {σ':St} {H' H2:Hp} {s':Shared} (I:Inv X pins σ H s) (hf:∀b∈fp,cu X pins H b) (J:Inv (cv X own ws caps sc C fp pn s H) pins' σ' H' s')
  (sb:Heap.SameBut C s'.heap h') (fr:∀b o,s.heap.get? b=some o->H b=none->b∉fp->H2 b=none) (tu:∀b xs,H' b=some (.tup xs)->H2 b=some (.tup xs)) (fz:∀b o u,H' b=some (.aB o u)->H2 b=some (.aB o u)) (tb:∀b ps,H' b=some (.tbl ps)->H2 b=some (.tbl ps))
  (af:bq X.prog X.w H2 h'):Inv X pins σ H2 {s' with heap:=h'}:=by
 have B:Un (cB X.stack) fp H H' s.heap s'.heap:=J.base;have nC:∀b o,s.heap.get? b=some o->b≠C:=λb o e=>aaw (aao (aam e) J.ok.above)
 have un:Un (cB X.stack) fp H H2 s.heap h':=by
  refine⟨λb o e n f c=> ?_,λb o e n f c=> ?_,λb o e n c=>fr b o e n c,λb o e c=> ?_,λb xs q=>tu b xs (B.tups b xs q),λb o u q=>fz b o u (B.aS b o u q),λb ps q=> ?_⟩
  ·exact(sb.2 b (nC b o e)).trans (B.keep b o e n f c)
  ·let⟨sl,z⟩:=B.slot b o e n f c;exact⟨sl,(sb.2 b (nC b o e)).trans z⟩
  ·let⟨o',z⟩:=B.there b o e c;exact⟨o',(sb.2 b (nC b o e)).trans z⟩
  ·let⟨more,z⟩:=B.tbls b ps q;exact⟨more,tb b _ z⟩
 exact I.uR (s':={s' with heap:=h'}) (ch:=fp) J.os un af J.bare λb hb=>by
  let⟨_,f1,_,f3,f4,f5⟩:=hf b hb;exact⟨f3,f1,f4,f5⟩
end
theorem gk:∀(l:List (Str×NameKind)) (n:Nat) (acc:List (Str×Addr)),cellsFrom n l acc=cellsFrom n l []++acc
 |[],_,_=>rfl
 |(x,k)::r,n,acc=>by
  unfold cellsFrom;split
  ·rw[gk r _ ((x,n)::acc),gk r _ [(x,n)],aa9];rfl
  ·exact gk r n acc
theorem jN {x:Str} {c:Addr}:∀(l:List (Str×NameKind)) (n:Nat) (acc:List (Str×Addr)),(x,c)∈cellsFrom n l acc->(x,c)∈acc∨(x,NameKind.cell)∈l
 |[],_,_,h=> .inl h
 |(y,k)::r,n,acc,h=>by
  unfold cellsFrom at h;split at h
  ·rename_i hk
   rcases jN r _ _ h with z|z
   ·rcases aau.mp z with e|z
    ·cases e;rw[show k= .cell by simpa using hk];exact .inr aaB
    ·exact .inl z
   ·exact .inr (aaq _ z)
  ·exact(jN r _ _ h).imp id (aaq _)
theorem jK {x:Str}:∀(l:List (Str×NameKind)) (n:Nat) (acc:List (Str×Addr)),((x,NameKind.cell)∈l∨(acc.lookup x).isSome=true)->((cellsFrom n l acc).lookup x).isSome=true
 |[],_,_,h=>h.elim (λz=>by cases z) id
 |(y,k)::r,n,acc,h=>by
  unfold cellsFrom;split
  ·refine jK r _ _ ?_
   rcases h with h|h
   ·rcases aau.mp h with e|h
    ·cases e;right;simp
    ·exact .inl h
   ·right;rw[aaK];split
    ·rfl
    ·exact h
  ·rename_i hk;refine jK r _ _ ?_
   rcases h with h|h
   ·rcases aau.mp h with e|h
    ·cases e;exact absurd rfl hk
    ·exact .inl h
   ·exact .inr h
theorem Ck {M:Model} {A:Around} {E:Value->Shared->Prop} {s:Shared} {sc:Scope} {closure:List (Str×Addr)} {qual:Str} {outer:Env} {Q:Env->Shared->Prop}
  (hQ:∀h1 own,h1.Ns s.heap.objs.size (λ_=>none)->(∀b o,s.heap.get? b=some o->h1.get? b=some o)->
   ((∀x c,own.lookup x=some c->h1.IsCell c none/\s.heap.objs.size<c)/\(∀x c,own.lookup x=some c->(x,NameKind.cell)∈sc.names)/\(∀x y c,own.lookup x=some c->own.lookup y=some c->x=y)/\∀x,sc.names.lookup x=some .cell->(own.lookup x).isSome=true)->
   Q (newEnv sc s.heap.objs.size globals (own++closure) qual none .none (some outer) builtinsNs) {s with heap:=h1}):
  wpAny M A (newFunctionEnv sc globals closure [] qual none .none (some outer)) Q E s:=by
 simp only[newFunctionEnv,Option.isSome_some,abL];refine aaa (wpAny_alloc ?_);refine aaa (wpAny_layCells _ (λname kind cells=>by cases hkc:kind==NameKind.cell<;>simp[hkc]) _ _ _ _ ?_);have ok:=cellsFrom_ok sc.names (s.heap.push {cls:= .type "dict",data:= .dict #[]}) (s.heap.objs.size+1) [] ⟨λ_ _ hm=>(nomatch hm),List.Pairwise.nil⟩ (by rw[aaU];exact aag _);rw[aaU] at ok;rw[show ({s with heap:=s.heap.push {cls:= .type "dict",data:= .dict #[]}}:Shared).heap.objs.size=s.heap.objs.size+1 from aaU ..];refine aaa ?_;rw[acn];refine aaf (aaf ?_);rw[gk]
 have q:=hQ (pushCells (s.heap.push {cls:= .type "dict",data:= .dict #[]}) sc.names) (cellsFrom (s.heap.objs.size+1) sc.names [])
  ((Heap.Ns.new s.heap (.type "dict")).keeps (pushCells_keeps _ _)) (λb o e=>pushCells_keeps _ _ b o (aad _ e))
  ⟨λx c e=>ok.empty x c (aaH e),λx c e=>(jN _ _ _ (aaH e)).elim (λz=>by cases z) id,λx y c e1 e2=>name_of_addr ok.apart (aaH e1) (aaH e2),λx e=>jK _ _ _ (.inl (aaH e))⟩
 exact q
section
variable {X:Cx} {E:XK} {pins:List (Addr×Obj)} {σ:St} {H:Hp} {s:Shared} {ws:List Str} {caps:List Nat} {sc:Scope} {tg iter elt:Expr} {ifs:List Expr} {pos:Pos} {g:TG} {tt:TT} {te:TE} {it:Addr} {fp:List Addr} {tn:Nat->Heap->Prop} {J:It} {Z:List V->Hp->Prop}
 {RR:Value->Addr->Result->Shared->Prop} {E':Value->Shared->Prop}
end
section
variable {X:Cx} {E:XK} {ws:List Str} {caps:List Nat} {sc:Scope} {tg iter elt:Expr} {ifs:List Expr} {pos py spos:Pos} {wi:TI} {g:TG} {tt:TT} {te:TE}
end
end L2.L3
namespace L2.L4
open PySem PySem.Spec L2.L3
open PyProof.Rows hiding lobj
def lR (X:Cx) (E:St->XK) (mk:Option (Addr×Value)->Prop):Value->Shared->Prop:=λe s=>
 ∃(σ:St) (H:Hp) (ea:Addr) (cls:Value) (dx:Option Addr) (tb:Option (Addr×Value)),e= .ref ea/\Inv X.oX [] σ H s/\ExcAt s.heap ea cls dx tb/\Young X H ea/\
  (∀p,tb=some p->Young X H p.1)/\mk tb/\E σ cls dx H
abbrev XE (X:Cx) (E:St->XK):Value->Shared->Prop:=lR X E λ_=>True
abbrev XT (X:Cx) (E:St->XK):Value->Shared->Prop:=lR X E λtb=>∃p,tb=some p
abbrev XL (X:Cx) (E:St->XK):Value->Shared->Prop:=lR X E λtb=>∃T,tb=some (T, .none)
section
variable {X:Cx} {pins:List (Addr×Obj)} {σ:St} {H:Hp} {s s':Shared} {E:St->XK} {e:Value}
theorem qg {M:Model} {E':Value->Shared->Prop} {mk:Option (Addr×Value)->Prop} (fr:Framed X) (hx:cM X) (h:lR X E mk e s):wpAny M X.A (noteFrame e X.env) (λ_ s'=>XT X E e s') E' s:=by
 let⟨F,rest,L,hst,hF,hv⟩:=fr;let⟨σ,H,ea,cls,dx,tb,rfl,I,x,y,yt,_,q⟩:=h
 have fr':X.A.frames=some (F::rest):=by
  rw[←hst];exact I.ok.frames
 have fl:s.heap.FunFrames X.base (F::rest):=by
  rw[←hst];exact I.stack
 refine Bw (bs:=X.base) fr' hF hv fl x λh' T m n x'=> ?_;rw[←hst] at m
 have yT:Young X H T:=by
  rcases n with n|n
  ·let⟨a,b,c⟩:=mi (X:=X.oX) hx I n;exact⟨a,b,c⟩
  ·cases tb with
   |none=>cases n
   |some p=>
    cases n;exact yt p rfl
 have I':Inv X.oX [] σ H {s with heap:=h'}:=by
  refine oM I m λb hb=> ?_
  rcases aau.mp hb with z|z
  ·subst z;exact⟨y.new,(by rw[abj];exact y.npn),y.free,(iw x).1⟩
  ·cases tb with
   |none=>cases z
   |some p=>
    have z':b=p.1:=by simpa using z
    subst z';exact⟨(yt p rfl).new,(by rw[abj];exact(yt p rfl).npn),(yt p rfl).free,(iw x).2 p rfl⟩
 exact⟨σ,H,ea,cls,dx,some (T,rawInt L),rfl,I',x',y,λp hp=>(by cases hp;exact yT),⟨_,rfl⟩,q⟩
theorem lD {M:Model} {E':Value->Shared->Prop} {fr:Option Addr} (h:XT X E e s):
  wpAny M X.A (setFlight e fr) (λ_ s'=>lR X E (λtb=>∃T,tb=some (T,fr.elim .none λf=>rawInt f)) e s') E' s:=by
 let⟨σ,H,ea,cls,dx,tb,rfl,I,x,y,yt,⟨⟨T,fl⟩,rfl⟩,q⟩:=h;refine vJ x λh' m x'=> ?_;have m':Moved (cB X.oX.stack) [T] s.heap h':=⟨λb o _ c e=>m.keep b o (by simp) c e,m.slot⟩;have yT:=yt _ rfl
 have I':Inv X.oX [] σ H {s with heap:=h'}:=by
  refine oM I m' λb hb=> ?_
  have z:b=T:=by simpa using hb
  subst z;exact⟨yT.new,(by rw[abj];exact yT.npn),yT.free,(iw x).2 _ rfl⟩
 refine⟨σ,H,ea,cls,dx,_,rfl,I',x',y,λp hp=> ?_,⟨_,rfl⟩,q⟩;cases hp;exact yT
theorem Eu {M:Model} (h:XT X E e s):cameBackBy M X.A X.env (XE X E) e s:=by
 have h0:=h;let⟨σ,H,ea,cls,dx,tb,rfl,I,x,y,yt,⟨⟨T,fl⟩,rfl⟩,q⟩:=h;let⟨oe,vs,he,hc,hx,hd,hz,x1,x2⟩:=x;unfold cameBackBy;refine aaa (aaC he hd x1 ?_);rw[if_neg (show¬((Value.ref T==Value.none)=true) from by simp)]
 exact ay (lD h0) λ_ s1 z902=>by let⟨σ1,H1,e1,c1,d1,t1,a1,a2,a3,a4,a5,_,a6⟩:=z902;exact⟨σ1,H1,e1,c1,d1,t1,a1,a2,a3,a4,a5,trivial,a6⟩
theorem Gs {M:Model} (fr:Framed X) (hx:cM X):PassesOwn M X.A X.env (XE X E):=λe s h=>ay (qg fr hx h) λ_ s1 h1=>Eu h1
theorem oQ {α:Type} {M:Model} {what:String} {cenv:Env} {Q:α->Shared->Prop} (h:XT X E e s):wpAny M X.A (PySem.passOn what e cenv:Sem α) Q (XE X E) s:=by
 have h0:=h;let⟨σ,H,ea,cls,dx,tb,rfl,I,x,y,yt,⟨⟨T,fl⟩,rfl⟩,q⟩:=h;let⟨oe,vs,he,hc,hx,hd,hz,x1,x2⟩:=x;unfold PySem.passOn;refine aaa (aaC he hd x1 ?_);rw[if_neg (show¬((Value.ref T==Value.none)=true) from by simp)];exact aaa (ay (lD h0) λ_ s1 z902=>by let⟨σ1,H1,e1,c1,d1,t1,a1,a2,a3,a4,a5,_,a6⟩:=z902;exact wpAny_throw ⟨σ1,H1,e1,c1,d1,t1,a1,a2,a3,a4,a5,trivial,a6⟩)
end
theorem Bt {X:Cx} {E:XK} {e:Value} {s:Shared} {E':Value->Shared->Prop} {M:Model} (fr:Framed X) (hex:X.ex=[]) (h:XE X (λ_=>E) e s):wpAny M X.A (leaving X.env e) (λ_ s'=>cU X.prog X.w X.outer X.H₀ X.s₀ E e s') E' s:=by
 have hx:cM X:=λb hb=>by
  rw[hex] at hb;cases hb
 unfold leaving;refine aaa (ay (qg fr hx h) λ_ s1 h1=>ay (lD (fr:=none) h1) λ_ s2 h2=> ?_);let⟨σ,H,ea,cls,dx,tb,rfl,I,x,y,yt,⟨T,rfl⟩,q⟩:=h2;have B:Un X.fs X.ex X.H₀ H X.s₀.heap s2.heap:=I.base;rw[hex] at B;exact⟨ea,cls,dx,T,H,rfl,I.os,I.bare,B,I.af,x,y.new,(yt _ rfl).new,y.free,(yt _ rfl).free,q⟩
theorem xj {X:Cx} {E:St->XK} (hx:cM X) {σ:St} {H:Hp} {s:Shared} {e:Value} (I:Inv (X.ag (XE X E)) pins σ H s) (h:cU X.prog X.w X.stack H s (E σ) e s'):XE X E e s':=by
 let⟨ea,cls,dx,T,H',rfl,h1,h2,h3,h4,h5,h6,h7,h8,h9,q⟩:=h;have I1:Inv (X.ag (XE X E)) pins σ H' s':=I.uR (ch:=[]) h1 h3 h4 h2 λb z=>absurd z (by simp);have I2:Inv X.oX [] σ H' s':=(I1.bu.ag λ_ _=>False).cI λp hp=>absurd hp (by simp);let⟨a1,a2,_⟩:=mi (X:=X.ag (XE X E)) hx I h6;let⟨b1,b2,_⟩:=mi (X:=X.ag (XE X E)) hx I h7;exact⟨σ,H',ea,cls,dx,_,rfl,I2,h5,⟨a1,a2,h8⟩,λp hp=>(by cases hp;exact⟨b1,b2,h9⟩),trivial,q⟩
abbrev cK (X:Cx) (E:St->XK) (own:List (Str×Addr)) (ws:List Str) (caps:List Nat) (sc:Scope) (C:Addr) (fp:List Addr) (pn:List (Addr×Obj)) (s:Shared) (H:Hp):Cx:=
 (cv X own ws caps sc C fp pn s H).ag (XE (cv X own ws caps sc C fp pn s H) E)
section
variable {X:Cx} {E:St->XK} {pins:List (Addr×Obj)} {σ:St} {H:Hp} {s:Shared} {ws:List Str} {caps:List Nat} {sc:Scope} {tg iter elt:Expr} {ifs:List Expr} {pos:Pos} {g:TG} {tt:TT} {te:TE} {it:Addr} {fp:List Addr} {tn:Nat->Heap->Prop} {J:It} {Z:List V->Hp->Prop}
 {RR:Value->Addr->Result->Shared->Prop} {E':Value->Shared->Prop}
theorem oG (fm:Framed X) (hx:cM X) (B:BlockOkC X.env.scope sc) (hc:X.calm=true) (hcap:∀k∈caps,sc.names.lookup (X.N.getD k Str.empty)=some .free)
  (hg:∀own C pn s H,(∀b∈fp,∃o,(b,o)∈pn)->PG (cK X (λ_=>E σ) own ws caps sc C fp pn s H) tg g) (ht:∀own C pn s H,(∀b∈fp,∃o,(b,o)∈pn)->kI (cK X (λ_=>E σ) own ws caps sc C fp pn s H) ifs tt) (he:∀own C pn s H,(∀b∈fp,∃o,(b,o)∈pn)->PE (cK X (λ_=>E σ) own ws caps sc C fp pn s H) elt te)
  (I:Inv (X.ag (XE X E)) pins σ H s) (T:Turn X.prog X.w X.K tg J fp it tn) (st:tn 0 s.heap) (hf:∀b∈fp,cu (X.ag (XE X E)) pins H b) (h:runC g tt te J (stC ws caps σ) H Z)
  (hdone:∀D C s' H' ys,H' D=none->H' C=none->D≠C->Z ys H'->(∃m,s'.heap.Ns C m)->s.heap.objs.size<=C->(∀h',Heap.SameBut C s'.heap h'->Inv (X.ag (XE X E)) pins σ (upd H' D (.lst ys)) {s' with heap:=h'})->RR (.ref D) C (.ok .next) s')
  (herr:∀D C e s',(∃m,s'.heap.Ns C m)->(∀h',Heap.SameBut C s'.heap h'->XT X E e {s' with heap:=h'})->RR (.ref D) C (.error e) s'):
  wpAny (model X.prog X.w) X.A (newList []) (λacc s3=>wpAny (model X.prog X.w) X.A (newFunctionEnv sc X.env.globals (aX X.env sc.names []) [] X.env.qual none .none (some X.env)) (λcenv s4=>
   codeAny (model X.prog X.w) X.A (.compStart (.ListComp elt [⟨tg,iter,ifs,0⟩] sc pos) 0 (.ref it) acc {cenv with scope:=relabel sc X.env}) (RR acc cenv.locals) s4) E' s3) E' s:=by
 refine aaS (Ck (λh1 own hns hsb hw0=> ?_));dsimp only at hns hsb hw0⊢;generalize hP:s.heap.push {cls:= .type "list",dict:=none,data:= .seq ([]:List Value).toArray}=P2 at hns hsb hw0⊢
 have zC:P2.objs.size=s.heap.objs.size+1:=by rw[←hP,aaU]
 have leC:s.heap.objs.size<=P2.objs.size:=by rw[zC];exact Nat.le_succ _
 have nDC:s.heap.objs.size≠P2.objs.size:=by rw[zC];exact aaw (ab8 _)
 have old:∀b o,s.heap.get? b=some o->h1.get? b=some o:=λb o e=>
  hsb _ _ (hP▸aad _ e)
 have acc0:h1.get? s.heap.objs.size=some (lobj [] 0):=hsb _ _ (hP▸aaj _ rfl);have OO:OwnOk sc own s P2.objs.size:=⟨λx c e=>⟨aaJ leC (abI (hw0.1 x c e).2),abz (hw0.1 x c e).2,B.cells _ (hw0.2.1 x c e) rfl⟩,hw0.2.2.1,hw0.2.2.2⟩;have hw:∀x c,own.lookup x=some c->∃v,h1.IsCell c v:=λx c e=>⟨none,(hw0.1 x c e).1⟩;have abv:∀x c,own.lookup x=some c->s.heap.objs.size<c:=λx c e=>ack leC (hw0.1 x c e).2;clear hw0
 have there:∀b∈fp,∃o,s.heap.get? b=some o:=λb hb=>let ⟨o,e,_⟩:=T.obj 0 s.heap st b hb;⟨o,e⟩
 generalize hD:s.heap.objs.size=D at*;generalize hCC:P2.objs.size=C at*;have I0:Inv X pins σ H s:=I.bu;have hf0:∀b∈fp,cu X pins H b:=hf;have st1:tn 0 h1:=T.keep 0 s.heap h1 st λb _ o e=>old b o e;have J0:Inv (cv X own ws caps sc C fp [] s H) [] (stC ws caps σ) H {s with heap:=h1}:=rR (t:=s.toks) I0 OO B hf0 there (by lia) hcap old hns hw;have D0:H D=none:=I0.af.fresh (by lia);have nD1:D≠C:=nDC
 have nDc:∀x c,(own++aX X.env sc.names []).lookup x=some c->c≠D:=λx c e z=>by
  rcases kZ I0 B e with w|w
  ·exact absurd (abv x c w) (by rw[z];exact aa3 _)
  let⟨v,q⟩:=I0.cell x c w;have lt:=q.lt;rw[z,hD] at lt;exact aa3 _ lt
 have nDs:D∉cB X.stack:=λz=>by
  let⟨_,o,e,_⟩:=I0.stack.mem z;have lt:=aam e;rw[hD] at lt;exact aa3 _ lt
 have nDf:D∉fp:=λz=>by
  let⟨o,e⟩:=there D z;have lt:=aam e;rw[hD] at lt;exact aa3 _ lt
 have sD:s.heap.get? D=none:=abf (by lia)
 have stat:∀{H':Hp} {p:List (Addr×Obj)},(∀b∈fp,H' b=none)->(∀q∈p,q.1∉fp)->∀b∈fp,cu (cv X own ws caps sc C fp [] s H) p H' b:=λ{H' p} hn hp b hb=>by
  let⟨o,e⟩:=there b hb;have lt:=aam e;let⟨_,_,_,_,f4,_⟩:=hf0 b hb;exact⟨hn b hb,(by rw[hD] at lt;exact aaw (aao lt leC)),qW I0 (hf0 b hb), .inl hb,λx c q=>(kZ I0 B q).elim (λz=>rA lt (OO.pl x c z).1) (f4 x c),λq hq z=>hp q hq (by rw[z];exact hb)⟩
 have err:∀{pn:List (Addr×Obj)} {e:Value} {s':Shared},(∀b∈fp,∃o,(b,o)∈pn)->XE (cv X own ws caps sc C fp pn s H) (λ_=>E σ) e s'->
   notedBy (model X.prog X.w) X.A (compEnvC sc (own++aX X.env sc.names []) C X.env) (λe s'=>RR (.ref D) C (.error e) s') e s':=λ{pn e s'} hh x=>by
  have fm':Framed (cv X own ws caps sc C fp pn s H):=fm;refine ay (qg (X:=cv X own ws caps sc C fp pn s H) fm' hh x) λ_ s2 x2=> ?_;let⟨σ2,H2,ea,cls,dx,tb,rfl,K2,y2,y3,y4,⟨p,rfl⟩,q2⟩:=x2;let⟨mC,nC,_⟩:=K2.loc;have K3:Inv (cv X own ws caps sc C fp pn s H) [] σ2 H2 s2:=K2;refine herr D C _ s2 ⟨mC,nC⟩ λh' sb=> ?_;have r1:=(iw y2).1;have r2:=(iw y2).2 p rfl
  have ne1:ea≠C:=by let⟨o,vs,e1,e2⟩:=r1;exact(rK K2 e1 e2).1
  have ne2:p.1≠C:=by let⟨o,vs,e1,e2⟩:=r2;exact(rK K2 e1 e2).1
  have hk:bq X.prog X.w H2 h':=by
   refine(Moved.af (fs:=[]) (ch:=[C]) ⟨λb o _ c e=>(sb.2 b (by simpa using c)).trans e,λb o c e=>⟨o.slots,(sb.2 b (by simpa using c)).trans e⟩⟩ K2.af (λb hb=>absurd hb (by simp)) λb hb=> ?_)
   have z:b=C:=by simpa using hb
   rw[z];exact K2.free
  have I3:Inv X pins σ H2 {s2 with heap:=h'}:=mH I0 hf0 K3 sb (λb o e n c=>K3.base.free b o e n c) (λ_ _ q=>q) (λ_ _ _ q=>q) (λ_ _ q=>q) hk;have I4:Inv X.oX [] σ H2 {s2 with heap:=h'}:=(I3.ag λ_ _=>False).cI λp hp=>absurd hp (by simp)
  have yo:∀b,Young (cv X own ws caps sc C fp pn s H) H2 b->Young X H2 b:=λb y=>by
   let⟨a1,a2,_⟩:=mi hx I0 y.new;exact⟨a1,a2,y.free⟩
  refine⟨σ,H2,ea,cls,dx,some p,rfl,I4, ?_,yo _ y3,λp' hp'=>(by cases hp';exact yo _ (y4 p rfl)),⟨p,rfl⟩,q2⟩;let⟨oe,vs,e1,e2,e3,e4,e5,e6,e7,oT,ts,e8,e9,e10⟩:=y2;exact⟨oe,vs,(sb.2 _ ne1).trans e1,e2,e3,e4,e5,e6,e7,oT,ts,(sb.2 _ ne2).trans e8,e9,e10⟩
 let⟨W,⟨m0,w0⟩,turn⟩:=h
 have loop:codeAny (model X.prog X.w) X.A (.compLoop (.ListComp elt [⟨tg,iter,ifs,0⟩] sc pos) 0 (.ref it) (.ref D) (compEnvC sc (own++aX X.env sc.names []) C X.env)) (RR (.ref D) C) {s with heap:=h1}:=by
  refine wZ (λn s'=>∃i ys its k σ' H',Inv (cv X own ws caps sc C fp [] s H) [(D,lobj its k)] σ' H' s'/\Vals ys its/\ys.length<=sizeLine/\tn i s'.heap/\(∀b∈fp,H' b=none)/\W i n ys σ' H') ?_ m0
   ⟨0,[],[],0,stC ws caps σ,H,J0.cI λp hp=> ?_, .nil,aaV _,st1,λb hb=>(hf0 b hb).1,w0⟩
  rotate_left
  ·have z:p=(D,lobj [] 0):=by simpa using hp
   subst z;exact⟨acc0,D0,nD1,nDs,λv z=>by cases z⟩
  rintro n s1 ⟨i,ys,its,k,σ1,H1,I1,rv,hz,st1',fr1,w1⟩
  have nq:∀q∈[(D,lobj its k)],q.1∉fp:=λq hq=>by
   have z:q=(D,lobj its k):=by simpa using hq
   rw[z];exact nDf
  rcases turn i n ys σ1 H1 w1 with⟨stop,zq⟩|⟨go,N,hN,step⟩
  ·refine aa2 (T.done (cv X own ws caps sc C fp [] s H) rfl rfl rfl hc i [(D,lobj its k)] s1 σ1 H1 (λ_ _=>False) I1 (stat fr1 nq) st1' stop) (λr s2 z902=> ?_) λ_ _ z=>z.elim;let⟨hr,I2⟩:=z902;subst hr;let⟨mC,nC,_⟩:=I2.loc;have p2:=I2.pin (D,lobj its k) (by simp);refine hdone D C s2 H1 ys p2.2.1 I2.free nD1 zq ⟨mC,nC⟩ (by lia) λh' sb=> ?_
   have hk:bq X.prog X.w (upd H1 D (.lst ys)) h':=by
    have t1:Inv (cv X own ws caps sc C fp [] s H) [] σ1 (upd H1 D (.lst ys)) s2:=mM (o:= .lst ys) (I2.cI (pins':=[]) λp hp=>absurd hp (by simp)) p2.2.1 sD nD1 nDc (λp hp=>absurd (show p∈([]:List (Addr×Obj)) from hp) (by simp)) ⟨hz,its,k,rv,p2.1⟩;refine(Moved.af (fs:=[]) (ch:=[C]) ⟨λb o _ c e=>(sb.2 b (by simpa using c)).trans e,λb o c e=>⟨o.slots,(sb.2 b (by simpa using c)).trans e⟩⟩ t1.af (λb hb=>absurd hb (by simp)) λb hb=> ?_)
    have z:b=C:=by simpa using hb
    rw[z];exact t1.free
   have nn:∀b u,H1 b=some u->upd H1 D (.lst ys) b=some u:=λb u q=>by
    rw[aq (bj q p2.2.1)];exact q
   exact(mH I0 hf0 I2 sb (λb o e nb c=>by
    have hb:b≠D:=λz=>by rw[z,sD] at e;cases e
    rw[aq hb]
    exact I2.base.free b o e nb c) (λb xs q=>nn _ _ q) (λb o u q=>nn _ _ q) (λb ps q=>nn _ _ q) hk).ag _
  ·refine aa2 (T.item (cv X own ws caps sc C fp [] s H) rfl rfl rfl hc i [(D,lobj its k)] s1 σ1 H1 (λ_ _=>False) I1 (stat fr1 nq) st1' go) (λr s2 z902=> ?_) λ_ _ z=>z.elim;let⟨u,hr,h2⟩:=z902;subst hr;refine aa2 h2 (λ_ s3 z902=> ?_) λ_ _ z=>z.elim;let⟨x,H3,I3,r3,y3,st3,fr3⟩:=z902;have p3:=I3.pin (D,lobj its k) (by simp)
   have hh:∀b∈fp,∃o,(b,o)∈(D,lobj its k)::bE fp s3.heap:=λb hb=>by
    let⟨o,e,_⟩:=T.obj _ _ st3 b hb;exact⟨o,aaq _ (dq hb e)⟩
   have I3':Inv (cK X (λ_=>E σ) own ws caps sc C fp ((D,lobj its k)::bE fp s3.heap) s H) [] σ1 H3 s3:=by
    have q:Inv (cv X own ws caps sc C fp ((D,lobj its k)::bE fp s3.heap) s H) [] σ1 H3 s3:=by
     have i4:=I3.pinned (stat fr3 nq) (T.obj _ _ st3)
     exact rV (qn:=(D,lobj its k)::bE fp s3.heap) (q:=[]) i4 λp hp=>by simpa[cv,AM] using hp
    exact q.ag _
   refine aa2 (hg own C ((D,lobj its k)::bE fp s3.heap) s H hh [] s3 σ1 H3 x u _ I3' r3 (step x H3 y3)) (λ_ s4 z902=> ?_) λe s' z=>err hh z;let⟨σ4,H4,I4,q4⟩:=z902;refine aa2 (ht own C ((D,lobj its k)::bE fp s3.heap) s H hh [] s4 σ4 H4 _ I4 q4) (λok s5 z902=> ?_) λe s' z=>err hh z;let⟨H5,I5,q5⟩:=z902
   have back:∀{σ9:St} {H9:Hp} {s9:Shared},Inv (cK X (λ_=>E σ) own ws caps sc C fp ((D,lobj its k)::bE fp s3.heap) s H) [] σ9 H9 s9->Inv (cv X own ws caps sc C fp [] s H) [(D,lobj its k)] σ9 H9 s9/\tn (i+1) s9.heap/\∀b∈fp,H9 b=none:=λ{σ9 H9 s9} I9=>by
    have i1:Inv (cv X own ws caps sc C fp ((D,lobj its k)::bE fp s3.heap) s H) [] σ9 H9 s9:=I9.bu;refine⟨rV (qn:=[]) (q:=[(D,lobj its k)]) i1 λp hp=> ?_,T.keep _ _ _ st3 λb hb o e=> ?_,λb hb=> ?_⟩
    ·have z:p=(D,lobj its k):=by simpa using hp
     subst z;simp[cv,AM]
    ·exact(i1.pin (b,o) (aa7 _ (aaq _ (dq hb e)))).1
    ·let⟨o,e,_⟩:=T.obj _ _ st3 b hb;exact(i1.pin (b,o) (aa7 _ (aaq _ (dq hb e)))).2.1
   cases ok with
   |false=>
    rw[if_neg aaG] at q5⊢;let⟨m',hm,w5⟩:=hN _ _ _ q5;let⟨b1,b2,b3⟩:=back I5;exact⟨m',hm,i+1,ys,its,k,σ4,H5,b1,rv,hz,b2,b3,w5⟩
   |true=>
    rw[if_pos rfl] at q5⊢;refine aa2 (he own C ((D,lobj its k)::bE fp s3.heap) s H hh [] s5 σ4 H5 _ I5 q5) (λv s6 z902=> ?_) λe s' z=>err hh z;let⟨xv,H6,I6,r6,hlt,nq⟩:=z902;let⟨m',hm,w6⟩:=hN _ _ _ nq;let⟨b1,b2,b3⟩:=back I6;have p6:=b1.pin (D,lobj its k) (by simp)
    have t1:Inv (cv X own ws caps sc C fp [] s H) (bE fp s6.heap) σ4 (upd H6 D (.lst ys)) s6:=by
     have c1:=(b1.cI (pins':=[]) λp hp=>absurd hp (by simp)).pinned (fp:=fp) (stat b3 λq hq=>absurd hq (by simp)) (T.obj _ _ b2);refine mM (o:= .lst ys) c1 p6.2.1 sD nD1 nDc (λp hp=> ?_) ⟨hz,its,k,rv,p6.1⟩
     have hp':p∈bE fp s6.heap:=by simpa[cv,AM] using hp
     intro z;exact nDf (z▸(nW hp').1)
    refine aa2 (oU (X:=cv X own ws caps sc C fp [] s H) (bE fp s6.heap) s6 σ4 (upd H6 D (.lst ys)) (.ref D) [xv] (.ref D) [v] (λ_ H7=>H7=upd (upd H6 D (.lst ys)) D (.lst (ys++[xv]))) t1 rfl (.cons r6 .nil) ⟨D,ys,xv,rfl,rfl,ao,hlt,rfl⟩) (λ_ s7 z902=> ?_) λ_ _ z=>z.elim;let⟨_,H7,I7,_,q7⟩:=z902;subst q7;rw[gX] at I7;let⟨z7,its7,n7,v7,l7,e7⟩:=I7.jm ao;have I8:=BB I7 p6.2.1;refine⟨m',hm,i+1,ys++[xv],its7,n7,σ4,H6, ?_,v7,z7,T.keep _ _ _ b2 λb hb o e=> ?_,b3,w6⟩
    ·refine I8.cI λp hp=> ?_
     have z:p=(D,lobj its7 n7):=by simpa using hp
     subst z;exact⟨e7,p6.2.1,nD1,nDs,λv z=>by cases z⟩
    ·exact(I8.pin (b,o) (aaz _ (dq hb e))).1
 exact codeAny_compStart_list loop (T.self _ 0 _ _ _ st1 loop)
end
def AO (ws:List Str) (caps:List Nat) (wi:TI) (g:TG) (tt:St->TT) (te:St->TE):TE:=λσ H Q=>wi σ H λJ H1=>runC g (tt σ) (te σ) J (stC ws caps σ) H1 λys H'=>∀D,H' D=none->Q (.ref D) (upd H' D (.lst ys))
def A0 (i:Nat) (ws:List Str) (caps:List Nat) (wi:TI) (g:TG) (tt:St->TT) (te:St->TE):TS:=λD σ H=>wi σ H λJ H1=>runC g (tt σ) (te σ) J (stC ws caps σ) H1 λys H'=>∀a,H' a=none->D.nx (σ.set i (some (.ref a))) (upd H' a (.lst ys))
section
variable {X:Cx} {E:St->XK} {ws:List Str} {caps:List Nat} {sc:Scope} {tg iter elt:Expr} {ifs:List Expr} {pos py spos:Pos} {wi:TI} {g:TG} {tt:St->TT} {te:St->TE}
theorem zl (fm:Framed X) (hx:cM X) (B:BlockOkC X.env.scope sc) (hc:X.calm=true) (hcap:∀k∈caps,sc.names.lookup (X.N.getD k Str.empty)=some .free) (hi:PI (X.ag (XE X E)) tg iter wi)
  (hg:∀σ own C fp pn s H,(∀b∈fp,∃o,(b,o)∈pn)->PG (cK X (λ_=>E σ) own ws caps sc C fp pn s H) tg g) (ht:∀σ own C fp pn s H,(∀b∈fp,∃o,(b,o)∈pn)->kI (cK X (λ_=>E σ) own ws caps sc C fp pn s H) ifs (tt σ))
  (he:∀σ own C fp pn s H,(∀b∈fp,∃o,(b,o)∈pn)->PE (cK X (λ_=>E σ) own ws caps sc C fp pn s H) elt (te σ)) (hs:∀x,foldedSetIterable iter X.env x=pure x:=by intro _;rfl):
  PE (X.ag (XE X E)) (.ListComp elt [⟨tg,iter,ifs,0⟩] sc pos) (AO ws caps wi g tt te):=by
 intro pins s σ H Q I h;have fc:=gU I.bu B;show wpAny (model X.prog X.w) X.A (eval (.ListComp elt [⟨tg,iter,ifs,0⟩] sc pos) X.env) _ (XE X E) s;rw[eval_ListComp];refine wpAny_comprehension_free (use:=none) (cl:=aX X.env sc.names []) rfl hs (je fc) B.kind B.names (ay (hi pins s σ H _ I h) λv s1 h1=>ay h1 λitv s2 h2=> ?_);let⟨it,fp,tn,J,H2,e,I2,T,st,f2,q⟩:=h2;subst e
 refine oG (RR:=λacc C=>compPost (model X.prog X.w) X.A (XE X E) none (EP (X.ag (XE X E)) pins σ Q) acc C) fm hx B hc hcap (λown C pn s H=>hg σ own C fp pn s H) (λown C pn s H=>ht σ own C fp pn s H) (λown C pn s H=>he σ own C fp pn s H) I2 T st f2 q
  (λD C s' H' ys hD _ _ z z909 _ k=>by let⟨m,hn⟩:=z909;exact⟨m,hn,λh' sb=>⟨.ref D,_,k h' sb,rfl,z D hD⟩⟩) λD C e s' z904 k=>by let⟨m,hn⟩:=z904;exact⟨m,hn,λh' sb cenv _=>oQ (k h' sb)⟩
theorem zK {i:Nat} {y:Str} (fm:Framed X) (hx:cM X) (B:BlockOkC X.env.scope sc) (hc:X.calm=true) (hcap:∀k∈caps,sc.names.lookup (X.N.getD k Str.empty)=some .free) (hN:X.N.Nodup) (hy:X.N[i]?=some y) (hl:X.env.scope.names.lookup y=some .local)
  (hi:PI (X.ag (XE X E)) tg iter wi)
  (hg:∀σ own C fp pn s H,(∀b∈fp,∃o,(b,o)∈pn)->PG (cK X (λ_=>E σ) own ws caps sc C fp pn s H) tg g) (ht:∀σ own C fp pn s H,(∀b∈fp,∃o,(b,o)∈pn)->kI (cK X (λ_=>E σ) own ws caps sc C fp pn s H) ifs (tt σ))
  (he:∀σ own C fp pn s H,(∀b∈fp,∃o,(b,o)∈pn)->PE (cK X (λ_=>E σ) own ws caps sc C fp pn s H) elt (te σ))
  (hsw:swapsWith (.ListComp elt [⟨tg,iter,ifs,0⟩] sc pos) (some (.Name y py)) spos.line X.env=pure true:=by rfl) (hs:∀x,foldedSetIterable iter X.env x=pure x:=by intro _;rfl):
  PS (X.ag (XE X E)) (.Assign [.Name y py] (.ListComp elt [⟨tg,iter,ifs,0⟩] sc pos) spos) (A0 i ws caps wi g tt te):=by
 intro pins s σ H D I h;show wpAny (model X.prog X.w) X.A (exec (.Assign [.Name y py] (.ListComp elt [⟨tg,iter,ifs,0⟩] sc pos) spos) X.env) _ _ s;rw[exec_Assign_Name_used _ _ _ _ hsw];refine aaa (acY (aaa ?_))
 show wpAny _ X.A (do let _←comprehension (.ListComp elt [⟨tg,iter,ifs,0⟩] sc pos) sc X.env _ (newList []) false (eval iter X.env) (some (assign (.Name y py) X.env))) _ _ s
 refine aaa (ay (wpAny_comprehension_free (use:=some (assign (.Name y py) X.env)) (cl:=aX X.env sc.names []) (Q:=λ_ s'=>SP (X.ag (XE X E)) pins D .next s') rfl hs (je (gU I.bu B)) B.kind B.names
  (ay (hi pins s σ H _ I h) λv s1 h1=>ay h1 λitv s2 h2=> ?_)) λ_ s' q=>aaf (aaf q))
 let⟨it,fp,tn,J,H2,e,I2,T,st,f2,q⟩:=h2;subst e
 refine oG (RR:=λacc C=>compPost (model X.prog X.w) X.A (XE X E) (some (assign (.Name y py) X.env)) (λ_ s'=>SP (X.ag (XE X E)) pins D .next s') acc C) fm hx B hc hcap (λown C pn s H=>hg σ own C fp pn s H) (λown C pn s H=>ht σ own C fp pn s H) (λown C pn s H=>he σ own C fp pn s H) I2 T st f2 q
  (λa C s' H' ys hD fC naC z ⟨m,hn⟩ hC k=> ?_) λD C e s' z904 k=>by let⟨m,hn⟩:=z904;exact⟨m,hn,λh' sb cenv _=>oQ (k h' sb)⟩
 have k0:=k s'.heap (.refl ..);have I3:Inv X pins σ (upd H' a (.lst ys)) s':=Inv.bu k0;show wpAny (model X.prog X.w) X.A (assign (.Name y py) X.env (.ref a)) _ _ s';have nL:X.env.locals≠C:=aaw (aao I2.bu.lt hC)
 have nC:∀x c,X.env.cells.lookup x=some c->c≠C:=λx c e=>by
  let⟨v,q⟩:=I2.bu.cell x c e;exact aaw (aao q.lt hC)
 refine wpAny_assign_Name (oF (X:=X) I3 hN hy (.inl hl) (show RelV (.ref a) (.ref a) from rfl) (λs3 I4 z902=> ?_) (.inr hl));let⟨b,sb,hb⟩:=z902
 have nb:C≠b:=by
  rcases hb with rfl|hb
  ·exact nL.symm
  ·exact(nC _ _ hb).symm
 refine⟨m,hn.sameBut sb nb,λh' sb'=> ?_⟩;have mv:Moved (cB X.stack) [C] s3.heap h':=⟨λb o _ c e=>(sb'.2 b (by simpa using c)).trans e,λb o c e=>⟨o.slots,(sb'.2 b (by simpa using c)).trans e⟩⟩
 have uC:upd H' a (.lst ys) C=none:=by
  rw[aq naC.symm];exact fC
 have I5:Inv X pins (σ.set i (some (.ref a))) (upd H' a (.lst ys)) {s3 with heap:=h'}:=by
  refine Ak (s':={s3 with heap:=h'}) (ch:=[C]) I4 rfl mv.un (mv.af I4.af I4.jX λb hb=> ?_) I4.bare λb hb=> ?_
  ·have e:b=C:=by simpa using hb
   rw[e];exact uC
  ·have e:b=C:=by simpa using hb
   subst e;refine⟨abf (aaJ I2.bu.sz hC),nL.symm,nC,I2.bu.Ez hC,λp hp=> ?_⟩;exact aaw (aao (aam (I2.bu.pin p hp).1) hC)
 exact⟨_,_,I5.ag _,z a hD⟩
end
end L2.L4
namespace L2.L3
open PySem PySem.Spec PyProof.Rows PySem.W
abbrev SW:=List V->List V->Hp->Prop
def pL (sp:Sp) (kS:Addr) (W:SW):Prop:=∀y rest kv H',W (y::rest) kv H'->sp [y] H' (λv H2=>∃kv2,kv2.length=kv.length/\H2 kS=some (.lst kv2)/\W rest (kv2++[v]) (upd H2 kS (.lst (kv2++[v])))) (λ_ _ _=>False)
section
variable {X:Cx} {pins:List (Addr×Obj)} {σ:St} {H:Hp} {s:Shared} {k:Nat} {f:Addr} {fd:FuncData} {ps:List Str} {sp:Sp}
theorem lZ {W:SW} {E:Value->Shared->Prop} {R:Shared->Prop} (F:FnOk X.prog X.w X.K X.mg X.base (cU X.prog X.w) k f fd ps sp) (hr:Room k X.A.in1.in1) (hb:Binds X.K fd ps []) (hW:pL sp kS W) {body:Value->PUnit->Sem (ForInStep PUnit)}
  (hbody:∀x (s:Shared) (C:Shared->Prop),wpAny (model X.prog X.w) X.A.in1.in1 (call (.ref f) [x]) (λu s'=>wpAny (model X.prog X.w) X.A.in1.in1 (Builtin.List.listUpdate (.ref kS) (·.push u)) (λ_ s''=>C s'') E s') (λ_ _=>False) s->
   wpAny (model X.prog X.w) X.A.in1.in1 (body x ⟨⟩) (λr s''=>r= .yield ⟨⟩/\C s'') E s):
  ∀{ys:List V} {us:List Value},Vals ys us->∀(kv:List V) (H':Hp) (s:Shared),Inv X pins σ H' s->H' kS=some (.lst kv)->W ys kv H'->kv.length+ys.length<64->
   (∀kv' H'' s'',Inv X pins σ H'' s''->H'' kS=some (.lst kv')->W [] kv' H''->kv'.length=kv.length+ys.length->R s'')->wpAny (model X.prog X.w) X.A.in1.in1 (forIn us PUnit.unit body) (λ_ s''=>R s'') E s
 |_,_, .nil,kv,H',s,I,hk,hw,hl,fin=>by
  rw[acn];exact aaf (fin kv H' s I hk hw rfl)
 |y::ys,u::us, .cons r rr,kv,H',s,I,hk,hw,hl,fin=>by
  rw[ace];rw[aar] at hl;refine aaa (aa2 (hbody u s (λs''=>wpAny (model X.prog X.w) X.A.in1.in1 (forIn us PUnit.unit body) (λ_ s''=>R s'') E s'') ?_) (λr' s'' h=> ?_) λ_ _ e=>e)
  ·refine ay (zI F hr hb I r (hW y ys kv H' hw)) λw s1 zq10=> ?_;let⟨v,H2,I2,rv,kv2,l2,hk2,w2⟩:=zq10;let⟨z,its,n,rt,hlen,e⟩:=I2.jm hk2;refine listUpdate_at e rfl ?_ (by rw[aak];lia) (by rw[Array.size_push,aak];lia)
   have hz:(kv2++[v]).length<=sizeLine:=by
    rw[aaY,ab4];exact abI (gq (by lia))
   have I3:=I2.rD (f:=(·.push w)) (its':=its++[w]) (t':=s1.toks) hk2 e (by simp) (rt.append (.cons rv .nil)) hz
   exact lZ F hr hb hW hbody rr (kv2++[v]) _ _ I3 ao w2 (by rw[aaY,ab4];lia) (λkv' H'' s'' a1 a2 a3 a4=>fin kv' H'' s'' a1 a2 a3 (by
    rw[a4,aaY,ab4,aar]
    lia))
  ·let⟨rfl,h⟩:=h;exact h
end
section
variable {X:Cx} {pins:List (Addr×Obj)} {σ:St} {H:Hp} {s:Shared} {D kS:Addr} {e1:Nat} {zs kv:List V} {ws:List Value} {E:Value->Shared->Prop} {A:Around}
def Ab (X:Cx) (pins:List (Addr×Obj)) (σ:St) (H:Hp) (kS D:Addr) (zs:List V) (s':Shared):Prop:=Inv X pins σ (upd (upd H kS (.lst [])) D (.lst zs)) s'/\upd H kS (.lst []) D=none
theorem mK {st:SortSt} (I:Inv X ((D,seqObj "list" #[] e1)::pins) σ H s) (hk:H kS=some (.lst kv)) (pD:Place X pins D) (hv:Vals zs ws) (hz:zs.length<64) (hout:(arrOf st).map (·.2)=ws.toArray) (hf:failedOf st=none):
  wpAny (model X.prog X.w) A (ksk_tail D false e1 (.ref kS) st) (λfin s'=>fin= .done (.ret .none)/\Ab X pins σ H kS D zs s') E s:=by
 let⟨z,its,n,rt,hlen,e⟩:=I.jm hk;have hws:ws.length=zs.length:=hv.length.symm;unfold ksk_tail
 try dsimp only
 rw[hout];refine aaa (listUpdate_at e rfl ?_ (by rw[aak];lia) (aaV _));refine aaa (abQ ?_);have I1:=I.rD (f:=λ_=>#[]) (its':=[]) (ys:=[]) (t':=s.toks) hk e rfl .nil (aaV _);have pD1:=I1.pin (D,seqObj "list" #[] e1) (aaz _ aaB);have gD:(s.heap.update kS (Obj.mapSeq λ_=>(#[]:Array Value))).get? D=some (seqObj "list" #[] e1):=pD1.1;refine aaa (seqEpoch_at gD rfl ?_);refine aaa (listUpdate_at gD rfl ?_ (aaV _) (by show (if false=true then _ else ws.toArray).size<=_;rw[if_neg (by decide),aak,abG];lia));rw[hf];simp only[bne_self_eq_false,abt,abq];refine aaf ⟨rfl, ?_,pD1.2.1⟩;have I2:Inv X pins σ (upd H kS (.lst [])) {s with heap:=s.heap.update kS (Obj.mapSeq λ_=>(#[]:Array Value))}:=I1.cI λp hp=>I1.pin p (aaz _ (aaq _ hp));have fD:=pD.fp (upd H kS (.lst [])) pD1.2.1
 have I3:Inv X pins σ (upd H kS (.lst [])) {s with heap:=(s.heap.update kS (Obj.mapSeq λ_=>(#[]:Array Value))).update D (Obj.mapSeq λ_=>ws.toArray)}:=
  j5 (s:={s with heap:=s.heap.update kS (Obj.mapSeq λ_=>(#[]:Array Value))}) (h':=(s.heap.update kS (Obj.mapSeq λ_=>(#[]:Array Value))).update D (Obj.mapSeq λ_=>ws.toArray)) (ch:=[D]) (t':=s.toks) I2 (λb hb=>by rw[aaL.mp hb];exact fD) λb o hb q=>(aaE _ _ (λz=>hb (by simp[z]))).trans q
 have q:=PySem.IsL.update (items:=#[]) gD (λ_=>ws.toArray);exact mM I3 pD1.2.1 pD.nw fD.2.1 fD.2.2.2.2.1 fD.2.2.2.2.2 ⟨abI (gq (by lia)),ws,_,hv,q⟩
end
section
variable {X:Cx} {pins:List (Addr×Obj)} {σ:St} {H:Hp} {s:Shared} {D kS:Addr} {e1 m:Nat} {ys kv:List V} {us its:List Value} {keys:List (List Int)} {E:Value->Shared->Prop} {A:Around}
theorem xP (I:Inv X ((D,seqObj "list" #[] e1)::pins) σ H s) (hk:H kS=some (.lst kv)) (pD:Place X pins D) (hi:Vals kv its) (hkeys:Paired (fk H) kv keys) (hy:Vals ys us) (hl:kv.length=ys.length) (h64:ys.length<64) (hm:0<m) (hkm:∀k∈keys,k.length=m):
  wpAny (model X.prog X.w) A (ksk_end D false us.toArray e1 (.ref kS) its.toArray) (λfin s'=>fin= .done (.ret .none)/\∃p:List Nat,p.Perm (List.range ys.length)/\mz keys p/\Ab X pins σ H kS D (p.map λi=>ys.getD i .non) s') E s:=by
 have lu:us.length=ys.length:=hy.length.symm
 have li:its.length=us.length:=by rw[←hi.length,hl,lu]
 unfold ksk_end
 try dsimp only
 simp only[abt,abq]
 by_cases h2:us.toArray.size<2
 ·rw[if_pos h2,if_pos h2];refine aaa (aaf ?_)
  have hout:(arrOf (SortSt.mk' general' (its.toArray.zip us.toArray) #[] 7 none)).map (·.2)=us.toArray:=by
   show (its.toArray.zip us.toArray).map (·.2)=us.toArray;apply acG.mp;rw[Array.toList_map,ksk_zip];show (its.zip us).map Prod.snd=us;exact List.map_snd_zip (by lia)
  have T:=mK (E:=E) (A:=A) (st:=SortSt.mk' general' (its.toArray.zip us.toArray) #[] 7 none) I hk pD hy h64 hout rfl;refine aaa (aaf ?_);refine aa2 T (λfin s' zq11=> ?_) λ_ _ e=>e;let⟨a,b⟩:=zq11;refine⟨a,List.range ys.length, .refl _, ?_,by rw[range_getD];exact b⟩
  have hn:ys.length<2:=by
   rw[aak] at h2;lia
  have:ys.length=0∨ys.length=1:=by lia
  rcases this with h|h
  ·rw[h];exact List.Pairwise.nil
  ·rw[h];exact List.Pairwise.cons (λ_ h=>by cases h) List.Pairwise.nil
 ·rw[if_neg h2,if_neg h2]
  have hn:2<=ys.length:=by
   rw[aak] at h2;lia
  let⟨fs,f1,f2,f3⟩:=qP I hm hi hkeys hkm;refine aaa (kat_kind (T:= .type "int") f2 (by lia) (λv hv=> ?_) (by decide) ?_)
  ·let⟨i,t,rfl⟩:=f3 v hv;exact PySem.W.Looks.now
  have O:SortT.Ord (λi j=>HT.lexLt (keys.getD i []) (keys.getD j [])):=⟨λa b c x y=>qL x y,λa b x=>mP x⟩;let⟨o1,o2,o3⟩:=SortT.nt O (n:=us.length) (by lia)
  refine aaa (aa2 (kat_run (E:=E) (Q:=λst' s'=>s'=s/\∃p:Array Nat,arrOf st'=p.map (kas_item (its.toArray.zip us.toArray))/\failedOf st'=none/\p=SortT.ai (λi j=>HT.lexLt (keys.getD i []) (keys.getD j [])) (kas_sort us.length)) (G:=λp s'=>s'=s/\p=SortT.ai (λi j=>HT.lexLt (keys.getD i []) (keys.getD j [])) (kas_sort us.length))
   li (by lia) (by lia) (λp st' s' _ b1 b2 b3=>⟨b3.1,p,b1,b2,b3.2⟩) ?_) ?_ λ_ _ e=>e)
  ·refine SortT.wp_run (n:=us.length) (λi j C hi' hj' hC=> ?_) o1 ⟨rfl,rfl⟩;let⟨a,oa,xs,n,ea,ga,da,va,ma⟩:=t8 I hi hkeys (i:=i) (by lia);let⟨b,ob,xb,nb,eb,gb,db,vb,mb⟩:=t8 I hi hkeys (i:=j) (by lia);unfold kas_ask;rw[ea,eb];refine kat_lt ga da gb db (qk 0 va vb (by rw[hkm _ ma,hkm _ mb]) ?_ hC);have l1:=va.length;have l2:=vb.length;rw[aay,hkm _ ma,aa1] at l1;rw[aay,hkm _ mb,aa1] at l2;exact aaA (by lia)
  ·rintro ⟨⟨⟩,st'⟩ s' ⟨rfl,p,har,hf,rfl⟩
   try dsimp only
   have hp:∀i∈(SortT.ai (λi j=>HT.lexLt (keys.getD i []) (keys.getD j [])) (kas_sort us.length)).toList,i<ys.length:=λi hi=>by
    have:=abr.mp (o2.mem_iff.mp hi);lia
   have T:=mK (E:=E) (A:=A) (st:=st') I hk pD (nY hy hp) (by rw[aay,o2.length_eq,ac4];lia) (kat_snds li har) hf;refine aa2 T (λfin s' zq12=> ?_) λ_ _ e=>e;let⟨a,b⟩:=zq12;refine⟨a,_,by rw[←lu];exact o2, ?_,b⟩;refine List.pairwise_iff_getElem.mpr λi j h1 h2 hij=> ?_
   have sz:(SortT.ai (λi j=>HT.lexLt (keys.getD i []) (keys.getD j [])) (kas_sort us.length)).toList.length=us.length:=by rw[o2.length_eq,ac4]
   have z:=o3 i j (abI hij) (by lia)
   have gi:∀k (hk:k<(SortT.ai (λi j=>HT.lexLt (keys.getD i []) (keys.getD j [])) (kas_sort us.length)).toList.length),SortT.g (SortT.ai (λi j=>HT.lexLt (keys.getD i []) (keys.getD j [])) (kas_sort us.length)) k=(SortT.ai (λi j=>HT.lexLt (keys.getD i []) (keys.getD j [])) (kas_sort us.length)).toList[k]:=λk hk=>by
    rw[SortT.iH,←Array.getElem?_toList,aac hk];rfl
   rw[gi j h2,gi i h1] at z;exact z
end
section
variable {X:Cx} {pins:List (Addr×Obj)} {σ:St} {H:Hp} {s:Shared} {k:Nat} {f a:Addr} {fd:FuncData} {ps:List Str} {sp:Sp} {ys:List V} {Q:VK} {E:Value->Shared->Prop}
def yK (ys:List V) (Q:VK) (kS:Addr) (kv:List V) (H2:Hp):Prop:=∃keys m,Paired (fk H2) kv keys/\0<m/\(∀k∈keys,k.length=m)/\
 ∀D p,upd H2 kS (.lst []) D=none->p.Perm (List.range ys.length)->mz keys p->Q (.ref D) (upd (upd H2 kS (.lst [])) D (.lst (p.map λi=>ys.getD i .non)))
theorem uq (F:FnOk X.prog X.w X.K X.mg X.base (cU X.prog X.w) k f fd ps sp) (hr:Room k X.A.in1.in1) (hb:Binds X.K fd ps []) (I:Inv X pins σ H s) (ha:bF X.K H a ys) (h64:ys.length<64)
  (q:∀kS,H kS=none->∃W:SW,pL sp kS W/\W ys [] (upd H kS (.lst []))/\∀kv H2,H2 kS=some (.lst kv)->kv.length=ys.length->W [] kv H2->yK ys Q kS kv H2):
  wpAny (model X.prog X.w) X.A (call (.builtin "sorted") [.ref a] [(Str.ofString "key", .ref f)]) (EP X pins σ Q) E s:=by
 let⟨us,hv,g,hz⟩:=I.list ha;have lu:us.length=ys.length:=hv.length.symm;refine call_function_entry_kw kind_sorted plain_sorted entry_sorted (ksk_s1 _ _) ?_;unfold Builtin.«sorted»;refine aaa (m:=checkCount "sorted" 1 1 _) (aaf ?_);refine aaa (collect_list g.isList ?_ (by rw[abG];lia));refine aaa (wpAny_newList ?_ (by rw[abG];lia))
 have hsz:((s.heap.push (seqObj "list" #[] 0)).update s.heap.objs.size (Obj.mapSeq (· ++us.toArray))).objs.size=s.heap.objs.size+1:=by
  rw[Heap.size_update,size_push']
 have keep:∀b o,s.heap.get? b=some o->(((s.heap.push (seqObj "list" #[] 0)).update s.heap.objs.size (Obj.mapSeq (· ++us.toArray))).push (seqObj "list" us.toArray 0)).get? b=some o:=λb o q=>by
  have hlt:b<s.heap.objs.size:=aam q;rw[Heap.get?_push_ne _ _ _ (by rw[hsz];exact aaw (ac3 hlt)),Heap.get?_update_ne _ _ _ _ (aaw hlt),Heap.get?_push_ne _ _ _ (aaw hlt)];exact q
 have hoL:(((s.heap.push (seqObj "list" #[] 0)).update s.heap.objs.size (Obj.mapSeq (· ++us.toArray))).push (seqObj "list" us.toArray 0)).get? (s.heap.objs.size+1)=some (seqObj "list" us.toArray 0):=by
  rw[←hsz];exact aaj _ rfl
 have zA:(((s.heap.push (seqObj "list" #[] 0)).update s.heap.objs.size (Obj.mapSeq (· ++us.toArray))).push (seqObj "list" us.toArray 0)).objs.size=s.heap.objs.size+2:=by rw[size_push',hsz]
 show wpAny _ _ _ _ _ {s with heap:=((s.heap.push (seqObj "list" #[] 0)).update s.heap.objs.size (Obj.mapSeq (· ++us.toArray))).push (seqObj "list" us.toArray 0)};rw[hsz];generalize ((s.heap.push (seqObj "list" #[] 0)).update s.heap.objs.size (Obj.mapSeq (· ++us.toArray))).push (seqObj "list" us.toArray 0)=hA at keep hoL zA⊢;generalize hD:s.heap.objs.size+1=D at hoL⊢
 have nD:s.heap.objs.size<=D:=by lia
 refine aaa (aa8 (wpAny_call_entry_kw slot_list_sort ⟨_,hoL,rfl⟩ entry_list_sort ?body (ksk_l1 _ _)))
 case body=>
  show wpAny (model X.prog X.w) X.A.in1.in1 (Builtin.«list.sort» ⟨[.ref D],[(Str.ofString "key", .ref f)]⟩) _ _ _;rw[ksk_t1];unfold ksk_tree;refine aaa (listItems_at hoL rfl ?_);refine aaa (listUpdate_at hoL rfl ?_ (by rw[aak,abG];lia) (aaV _));obtain⟨e1,ho1⟩:∃e1,(hA.update D (Obj.mapSeq λ_=>(#[]:Array Value))).get? D=some (seqObj "list" #[] e1):=⟨_,get?_update_seq hoL λ_=>#[]⟩;refine aaa (seqEpoch_at ho1 rfl ?_);refine aaa (wpAny_newTuple ?_ (by show us.length<=_;rw[abG];lia));refine aaa (wpAny_newList ?_ (aaV _));refine aa8 ?_
  have zB:((hA.update D (Obj.mapSeq λ_=>(#[]:Array Value))).push (seqObj "tuple" us.toArray 0)).objs.size=s.heap.objs.size+3:=by rw[size_push',Heap.size_update,zA]
  have keepB:∀b o,s.heap.get? b=some o->(((hA.update D (Obj.mapSeq λ_=>(#[]:Array Value))).push (seqObj "tuple" us.toArray 0)).push (seqObj "list" #[] 0)).get? b=some o:=λb o q=>by
   have hlt:b<s.heap.objs.size:=aam q;refine aad _ (aad _ ?_);rw[Heap.get?_update_ne _ _ _ _ (aaw (aao hlt nD))];exact keep b o q
  have gD:(((hA.update D (Obj.mapSeq λ_=>(#[]:Array Value))).push (seqObj "tuple" us.toArray 0)).push (seqObj "list" #[] 0)).get? D=some (seqObj "list" #[] e1):=aad _ (aad _ ho1)
  have gK:(((hA.update D (Obj.mapSeq λ_=>(#[]:Array Value))).push (seqObj "tuple" us.toArray 0)).push (seqObj "list" #[] 0)).get? (s.heap.objs.size+3)=some (seqObj "list" #[] 0):=by
   rw[←zB];exact aaj _ rfl
  show wpAny _ _ (ksk_rest D (.ref f) false us.toArray e1 (.ref ((hA.update D (Obj.mapSeq λ_=>(#[]:Array Value))).push (seqObj "tuple" us.toArray 0)).objs.size)) _ _ {s with heap:=((hA.update D (Obj.mapSeq λ_=>(#[]:Array Value))).push (seqObj "tuple" us.toArray 0)).push (seqObj "list" #[] 0)};rw[zB];generalize ((hA.update D (Obj.mapSeq λ_=>(#[]:Array Value))).push (seqObj "tuple" us.toArray 0)).push (seqObj "list" #[] 0)=hB at keepB gD gK⊢;generalize hKS:s.heap.objs.size+3=kS at gK⊢
  have nK:s.heap.objs.size<=kS:=by lia
  have I1:Inv X pins σ H {s with heap:=hB}:=I.kept (t':=s.toks) keepB;have frD:=I.af.fresh nD;have frK:=I.af.fresh nK;have fpD:=I.kX nD frD;have fpK:=I.kX nK frK;have pD:Place X pins D:=⟨λH' hn=>⟨hn,fpD.2⟩,abf (aaJ I.sz nD)⟩
  have I2:Inv X ((D,seqObj "list" #[] e1)::pins) σ H {s with heap:=hB}:=I1.cI λp hp=>by
   rcases aau.mp hp with rfl|hp
   ·exact⟨gD,frD,fpD.2.1,fpD.2.2.1,λv z=>by cases z⟩
   ·exact I1.pin p (aaz _ hp)
  have dk:D≠kS:=by lia
  have I3:Inv X ((D,seqObj "list" #[] e1)::pins) σ (upd H kS (.lst [])) {s with heap:=hB}:=mM I2 frK (abf (aaJ I.sz nK)) fpK.2.1 fpK.2.2.2.2.1 (λp hp=>by
   rcases aaD.mp hp with hp|hp
   ·exact fpK.2.2.2.2.2 p (aa7 _ hp)
   ·rcases aau.mp hp with rfl|hp
    ·exact dk
    ·exact fpK.2.2.2.2.2 p (aaz _ hp)) ⟨aaV _,[],0, .nil,gK⟩
  let⟨W,hW,w0,wEnd⟩:=q kS frK;unfold ksk_rest;refine aaa (acp ?_)
  first
   |rw[List.forIn_toArray]
   |(rw[←Array.forIn_toList];simp only[List.toList_toArray])
  refine aaa (ay (lZ (R:=λs''=>∃kv' H'',Inv X ((D,seqObj "list" #[] e1)::pins) σ H'' s''/\H'' kS=some (.lst kv')/\W [] kv' H''/\kv'.length=0+ys.length) F hr hb hW (λx s' C hx=> ?_) hv [] _ _ I3 ao w0 (by rw[adh];lia) (λkv' H'' s'' b1 b2 b3 b4=>⟨kv',H'',b1,b2,b3,b4⟩)) λ_ s'' hs=> ?_)
  ·refine aaa (acB (aa2 hx (λu s'' hu=> ?_) λ_ _ hF=>hF.elim))
   try dsimp only
   exact aaa (ay hu λ_ s3 h3=>aaf ⟨rfl,h3⟩)
  ·let⟨kv,H2,J,hkv,hw,lk⟩:=hs;rw[acm] at lk;let⟨keys,m,hks,hm,hkm,q⟩:=wEnd kv H2 hkv lk hw;let⟨_,its,n,rt,hlen,e⟩:=J.jm hkv;refine aaa (listItems_at e rfl ?_);refine aa2 (xP J hkv pD rt hks hv lk h64 hm hkm) (λfin s3 h3=> ?_) λ_ _ e=>e;let⟨rfl,p,p1,p2,J3,d3⟩:=h3;exact⟨_,rfl,aaf ⟨_,rfl, .ref D,_,J3,rfl,q D p d3 p1 p2⟩⟩
end
def CZ (K:PySem.W.Frag) (sp:Sp) (t:TA):TE:=λσ H Q=>t σ H λvs H1=>∃a ys,vs=[.ref a]/\bF K H1 a ys/\ys.length<64/\
 ∀kS,H1 kS=none->∃W:SW,pL sp kS W/\W ys [] (upd H1 kS (.lst []))/\∀kv H2,H2 kS=some (.lst kv)->kv.length=ys.length->W [] kv H2->yK ys Q kS kv H2
theorem zo {X:Cx} {k:Nat} {f:Addr} {ps:List Str} {sp:Sp} {fn:Str} {e:Expr} {t:TA} {p:Pos} (F:FnOk X.prog X.w X.K X.mg X.base (cU X.prog X.w) k f fd ps sp) (hr:Room (k+2) X.A) (hb:Binds X.K fd ps []) (hg:Gl X "sorted") (hm:X.mg "sorted"=none)
  (hgf:Gl X fn) (hmf:X.mg fn=some (.ref f)) (ha:PA X [e] t) (hdf:(fn==("__debug__":Str))=false)
  (he:backTo pos (starEach [e] X.env)=(false,eval e X.env)::backTo pos (starEach [] X.env)) (hpl:(backTo pos (starEach [e] X.env)).any (·.1)=false):
  PE X (.Call (.Name "sorted" p) [e] [⟨some (Str.ofString "key"), .Name fn p2,kpos⟩] pos) (CZ X.K sp t):=by
 intro pins s σ H Q I h;refine abd (fZ I hg hm boot_sorted ?_);refine callWith_kw (ay (ha pos pins s σ H _ I h) λus s1 z902=> ?_) he hpl;let⟨vs,H1,I1,r1,q1⟩:=z902;have hk:PK X [⟨some (Str.ofString "key"), .Name fn p2,kpos⟩] (pI (tC (.ref f)) uL):=tM (uc (v:= .ref f) hgf hmf rfl hdf) xI;refine ay (hk pos pins s1 σ H1 (λzs H2=>zs=[.ref f]/\H2=H1) I1 ⟨rfl,rfl⟩) λws s2 z902=> ?_;let⟨zs,H2,I2,rz,e1,e2⟩:=z902;subst e1 e2;let⟨w',rfl,rw'⟩:=Vals.one rz;cases rw';let⟨a,ys,rfl,ha',h64,q⟩:=q1;let⟨u,rfl,ru⟩:=Vals.one r1;cases ru;exact uq F hr.in1.in1 hb I2 ha' h64 q
theorem Dl {k:Key} {v:Value} (h:gh k v=true):RelV (kV k) v:=by
 cases k with
 |inl i=>
  cases v<;>simp[gh,Value.isInt] at h;subst h;exact⟨_,rfl⟩
 |inr x=>
  let⟨t,e⟩:=Value.isStrOf_shape (x:=x) (v:=v) h;exact⟨t,e⟩
def zr (d:Addr) (o:Obj) (kvs:List (Key×V)):It:=
 ⟨λi H=>H d=some (.aB o (.dK kvs))/\i<kvs.length,λi H x H'=>H'=H/\∃k v,x=kV k/\kvs[i]?=some (k,v),λi H=>H d=some (.aB o (.dK kvs))/\kvs.length<=i⟩
theorem o9 {prog:Program} {w:World} {K:Type} [DecidableEq K] {knd:KeyKind prog w K}:∀{es:List DictEntry} {kvs:List (K×Value)} {i:Nat} {e:DictEntry},Pairs knd es kvs->es[i]?=some e->∃kv,kvs[i]?=some kv/\knd.is kv.1 e.key=true
 |_,_,_,_, .nil,h=>by simp at h
 |_,_,0,_, .cons a b r,h=>by
  simp at h;subst h;exact⟨_,rfl,a⟩
 |_,_,i+1,_, .cons a b r,h=>by
  let⟨kv,h1,h2⟩:=o9 r (i:=i) (by simpa using h);exact⟨kv,by simpa using h1,h2⟩
theorem nA {P:Program} {w:World} {H:Hp} {d:Addr} {o:Obj} {kvs:List (Key×V)} (ok:bq P w H h) (e:H d=some (.aB o (.dK kvs))):
  ∃es ep vs,o.data= .dict es ep/\jO h d es ep/\Pairs (aF P w) es.toList vs/\KV kvs vs/\es.size=kvs.length/\(d==sysModules)=false:=by
 let⟨h0,z,y,vs,r,o',es,ep,h1,h2,h3,h4,h5,h6⟩:=(show aI P w H h d (.aB o (.dK kvs)) from ok d _ e);rw[h0] at h1;cases h1;exact⟨es,ep,vs,h3,⟨o,h0,h2,h3⟩,h5,r,by rw[r.length,←aa1,h5.length],y⟩
theorem uw {P:Program} {w:World} {K:PySem.W.Frag} (d it:Addr) (o:Obj) (kvs:List (Key×V)):Turn P w K tg (zr d o kvs) [it] it (λi h=>AG o h it d i) where
 mem:=by simp
 obj:=λi h st b hb=>by
  let⟨es,ep,_,u,h1,h2,h3⟩:=st;rw[aaL.mp hb];exact⟨u,h1,λv z=>by rw[h3] at z;cases z⟩
 keep:=λi h h' st k=>by
  let⟨es,ep,hd,x⟩:=st;exact⟨es,ep,hd,x.at λo e=>k it (by simp) o e⟩
 item:=by
  intro X hP hw hK hc i pins s σ H E I hf st hg;subst hP hw hK;let⟨es,ep,hdat,hit⟩:=st;let⟨e,lt⟩:=hg;let⟨es',ep',vs,hdat',raw,hes,rel,hsz,_⟩:=nA I.af e;rw[hdat] at hdat';cases hdat'
  have lt':i<es.size:=by lia
  let⟨f0,f1,f2,f3,f4,f5⟩:=hf it (by simp);refine qD hit raw lt' λh' st' sb=> ?_;have I1:Inv X pins σ H {s with heap:=h'}:=I.turned (t':=s.toks) (λb o hb e=>(sb.2 b hb).trans e) f0 f1 f3 f4 f5
  have q:es.toList[i]?=some es[i]:=by simp[lt']
  let⟨kv,e1,e2⟩:=o9 hes q;let⟨kv',x,e3,e4,h1,h2⟩:=jL rel i lt;rw[e1] at e4;cases e4;let⟨u,v1,v2,v3⟩:=id st';refine⟨es[i].key,rfl,lP (s:={s with heap:=h'}) v1 v2 v3 (by decide) ⟨kV kv'.1,H,I1, ?_,⟨rfl,kv'.1,kv'.2,rfl,e3⟩,⟨es,ep,hdat,st'⟩,λb hb=>(hf b hb).1⟩⟩;rw[h1];exact Dl e2
 done:=by
  intro X hP hw hK hc i pins s σ H E I hf st hg;subst hP hw hK;let⟨es,ep,hdat,hit⟩:=st;let⟨e,ge⟩:=hg;let⟨es',ep',vs,hdat',raw,hes,rel,hsz,_⟩:=nA I.af e;rw[hdat] at hdat';cases hdat';let⟨f0,f1,f2,f3,f4,f5⟩:=hf it (by simp);exact tj (I.ok.hd hc) hit raw (by lia) λh' eb=>⟨rfl,I.turned (t':=s.toks) (λb o hb e=>eb b o hb e) f0 f1 f3 f4 f5⟩
 self:=λ_ _ _ _ _ st h=>by
  let⟨es,ep,_,hit⟩:=st;exact wpAny_pyIter_keyiter hit h
def J7 (K:PySem.W.Frag) (tl:TE):TI:=λσ H R=>tl σ H λx H1=>∃a,x= .ref a/\(((∃xs,bF K H1 a xs)/\R (Fd K a) H1)∨((∃xs,cF K H1 a xs)/\R (C1 K a) H1)∨
 (∃kvs,Rd H1 a (.dT kvs)/\∀o,(H1 a=some (.dT kvs)∨H1 a=some (.aB o (.dT kvs)))->R (DA a o kvs) (upd H1 a (.aB o (.dT kvs))))∨
 (∃kvs,Rd H1 a (.dK kvs)/\∀o,(H1 a=some (.dK kvs)∨H1 a=some (.aB o (.dK kvs)))->R (zr a o kvs) (upd H1 a (.aB o (.dK kvs)))))
theorem vR {H:Hp} {a:Addr} {o:HO} (e:H a=some o):upd H a o=H:=by
 funext b;unfold upd;split
 ·rename_i z;rw[z,e]
 ·rfl
theorem C0 {X:Cx} {l:Expr} {tl:TE} (hl:PE X l tl):PI X tg l (J7 X.K tl):=by
 intro pins s σ H R I h;refine ay (hl pins s σ H _ I h) λv s1 z902=> ?_;let⟨x,H1,I1,r1,q1⟩:=z902;let⟨a,e,q⟩:=q1;subst e;cases r1
 have fp:∀{H1:Hp},Inv X pins σ H1 s1->∀b∈[s1.heap.objs.size],cu X pins H1 b:=λ{H1} I1 b hb=>by
  have e:b=s1.heap.objs.size:=by simpa using hb
  subst e;exact I1.kX (aag _) (I1.af.fresh (aag _))
 rcases q with⟨⟨xs,hq⟩,q⟩|⟨⟨xs,hq⟩,q⟩|⟨kvs,hq,q⟩|⟨kvs,hq,q⟩
 ·let⟨its,rv,p,hz⟩:=I1.list hq;refine abO p.isList ?_;exact⟨s1.heap.objs.size,[s1.heap.objs.size],_,_,H1,rfl,I1.kept (t':=s1.toks) λb o e=>aad _ e,vB a _,⟨_,aaj _ rfl,rfl,rfl⟩,fp I1,q⟩
 ·let⟨its,rv,p,hz⟩:=I1.tuple hq;refine acX (show s1.heap.IsTuple a its.toArray from p) ?_;exact⟨s1.heap.objs.size,[s1.heap.objs.size],_,_,H1,rfl,I1.kept (t':=s1.toks) λb o e=>aad _ e,uG a _,⟨_,aaj _ rfl,rfl,rfl⟩,fp I1,q⟩
 ·obtain⟨o,I2,qo⟩:∃o,Inv X pins σ (upd H1 a (.aB o (.dT kvs))) s1/\(H1 a=some (.dT kvs)∨H1 a=some (.aB o (.dT kvs))):=by
   rcases hq with e|⟨o,e⟩
   ·let⟨o,I2⟩:=Inv.BW I1 e;exact⟨o,I2, .inl e⟩
   ·exact⟨o,by rw[vR e];exact I1, .inr e⟩
  let⟨es,ep,xs,hdat,raw,_,_,_,hd⟩:=qZ I2.af ao;refine qw hd raw λh1 st kp=> ?_;exact⟨s1.heap.objs.size,[s1.heap.objs.size],_,_,_,rfl,I2.kept (t':=s1.toks) kp,xn a _ o kvs,⟨es,ep,hdat,st⟩,fp I2,q o qo⟩
 ·obtain⟨o,I2,qo⟩:∃o,Inv X pins σ (upd H1 a (.aB o (.dK kvs))) s1/\(H1 a=some (.dK kvs)∨H1 a=some (.aB o (.dK kvs))):=by
   rcases hq with e|⟨o,e⟩
   ·let⟨o,I2⟩:=Inv.Bg I1 e;exact⟨o,I2, .inl e⟩
   ·exact⟨o,by rw[vR e];exact I1, .inr e⟩
  let⟨es,ep,xs,hdat,raw,_,_,_,hd⟩:=nA I2.af ao;refine qw hd raw λh1 st kp=> ?_;exact⟨s1.heap.objs.size,[s1.heap.objs.size],_,_,_,rfl,I2.kept (t':=s1.toks) kp,uw a _ o kvs,⟨es,ep,hdat,st⟩,fp I2,q o qo⟩
end L2.L3
namespace PI
open PySem
noncomputable section
inductive Val where
 |non|bl (b:Bool)|int (i:Int)|str (x:Str)|tup (f:Bool) (xs:List Val)|lst (xs:List Val)|dct (ks vs:List Val)|obj (c:Nat) (ns:List Str) (vs:List Val)|ref (n:Nat)
deriving Inhabited
inductive Ob where
 |lst (xs:List Val)|dct (ks vs:List Val)|ins (c:Nat) (ns:List Str) (vs:List Val)
abbrev aa:=List Ob
abbrev Env:=List (Option Val)
structure Exn where
 c:Nat
 ns:List Str
 vs:List Val
inductive R (α:Type) where
 |ok (a:α) (st:aa)|exc (x:Exn) (st:aa)|stuck
namespace R
noncomputable def bind {α β:Type} (r:R α) (f:α->aa->R β):R β:=match r with
 | .ok a st=>f a st
 | .exc x st=> .exc x st
 | .stuck=> .stuck
@[simp]theorem nJ {α β:Type} (a:α) (st:aa) (f:α->aa->R β):(R.ok a st).bind f=f a st:=rfl
@[simp]theorem IA {α β:Type} (x:Exn) (st:aa) (f:α->aa->R β):(R.exc x st:R α).bind f= .exc x st:=rfl
@[simp]theorem Gq {α β:Type} (f:α->aa->R β):(R.stuck:R α).bind f= .stuck:=rfl
noncomputable def ak {α:Type} (o:Option α) (st:aa):R α:=match o with
 |some a=> .ok a st
 |none=> .stuck
@[simp]theorem JW {α:Type} (a:α) (st:aa):ak (some a) st= .ok a st:=rfl
@[simp]theorem IS {α:Type} (st:aa):(ak none st:R α)= .stuck:=rfl
end R
mutual
noncomputable def Val.bd (n:Nat):Val->Bool
 | .tup _ xs=>cN n xs
 | .lst xs=>cN n xs
 | .dct ks vs=>cN n ks&&cN n vs
 | .obj _ _ vs=>cN n vs
 | .ref k=>decide (k<n)
 |_=>true
noncomputable def cN (n:Nat):List Val->Bool
 |[]=>true
 |v::r=>v.bd n&&cN n r
end
def Ob.bd (n:Nat):Ob->Bool
 | .lst xs=>cN n xs
 | .dct ks vs=>cN n ks&&cN n vs
 | .ins _ _ vs=>cN n vs
mutual
noncomputable def Val.sub (f:Nat->Option Val):Val->Option Val
 | .tup g xs=>(subs f xs).map λxs=> .tup g xs
 | .lst xs=>(subs f xs).map .lst
 | .dct ks vs=>(subs f vs).map λvs=> .dct ks vs
 | .obj c ns vs=>(subs f vs).map λvs=> .obj c ns vs
 | .ref k=>f k
 |v=>some v
noncomputable def subs (f:Nat->Option Val):List Val->Option (List Val)
 |[]=>some []
 |v::r=>(v.sub f).bind λv=>(subs f r).map λr=>v::r
end
noncomputable def jl (st:aa) (n x:Nat):Nat->Nat->Option Val
 |0,k=>if k<n then some (.ref k) else none
 |d+1,k=>if k<n then some (.ref k) else if k=x then none else match st[k]? with
  |some (.lst xs)=>(subs (jl st n x d) xs).map .lst
  |some (.dct ks vs)=>(subs (jl st n x d) vs).map λvs=> .dct ks vs
  |some (.ins c ns vs)=>(subs (jl st n x d) vs).map λvs=> .obj c ns vs
  |none=>none
def Val.aB (st:aa) (n x:Nat) (v:Val):Option Val:=v.sub (jl st n x 6)
def aS (st:aa) (n x:Nat) (vs:List Val):Option (List Val):=subs (jl st n x 6) vs
def Old (st st':aa):Prop:=st.length<=st'.length/\∀(i:Nat) o,i<st.length->st'[i]?=some o->st[i]?=some o∨o.bd st.length=true
set_option genInjectivity false
inductive Bi where
 |len|tuple|list|dict|abs|sum|all|any|min|max|minD|int|str|bool|sorted|bM (n:String)
inductive Bm where
 |append|extend|insert|pop|clear|reverse|remove|get|join|split|isdigit|count|index|keys|values
inductive T where
 |var (i:Nat)|tup (ts:List T)
mutual
inductive E where
 |const (v:Val)|var (i:Nat)
 |bin (op:Operator) (a b:E)|neg (a:E)|cmp (op:CmpOp) (a b:E)|cmp2 (op op':CmpOp) (a b c:E)
 |and (a b:E)|or (a b:E)|not (a:E)|ite (c a b:E)
 |tup (es:List E)|lst (es:List E)|dct (ks vs:List E)
 |fld (o:E) (f:Str)|idx (o i:E)|slc (o:E) (lo hi:Option E)
 |call (f:Nat) (es:List E)|make (c:Nat) (es:List E)|meth (o:E) (m:Str) (es:List E)
 |bi (b:Bi) (es:List E)|bm (m:Bm) (o:E) (es:List E)|isI (e:E) (c:Nat)|isM (e:E) (cs:List Nat)
 |comp (nw:Nat) (caps:List Nat) (t:T) (q:Q) (c:Option E) (e:E)
 |sortK (q:E) (f:Nat)|fz (e:E)|dOf (e:E)
inductive Q where
 |val (e:E)|rng1 (a:E)|rng2 (a b:E)|zip (a b:E)|enm (a:E)|items (a:E)|rev (a:E)
end
abbrev E.ci (n:Int):E:= .const (.int n)
inductive S where
 |set (t:T) (e:E)|dA (o i e:E)|di (o:E) (f:Str) (e:E)
 |aug (i:Nat) (op:Operator) (e:E)|augI (o i:E) (op:Operator) (e:E)|augF (o:E) (f:Str) (op:Operator) (e:E)
 |expr (e:E)|ret (e:E)|retN|pass|brk|cont
 |ife (c:E) (a b:List S)|whl (c:E) (b:List S)|for (t:T) (q:Q) (b:List S)
 |raise (c:Nat) (es:List E)|try_ (b:List S) (c:Nat) (x:Option Nat) (h:List S)
set_option genInjectivity true
structure Fn where
 np:Nat
 ns:Nat
 body:List S
structure Cl where
 flds:List Str
 init:Option Nat
 meths:List (Str×Nat)
 sup:List Nat
 exc:Bool
 chg:Bool
structure Pg where
 fns:List (Nat×Fn)
 cls:List (Nat×Cl)
 w:Nat
def Pg.fn (P:Pg) (i:Nat):Option Fn:=P.fns.lookup i
def Pg.cl (P:Pg) (i:Nat):Option Cl:=P.cls.lookup i
noncomputable def eh (ns:List Str) (vs:List Val) (f:Str):Option Val:=match ns,vs with
 |n::ns,v::vs=>if n=f then some v else eh ns vs f
 |_,_=>none
noncomputable def aQ (ns:List Str) (vs:List Val) (f:Str) (x:Val):List Str×List Val:=match ns,vs with
 |n::ns,v::vs=>if n=f then (n::ns,x::vs) else let r:=aQ ns vs f x;(n::r.1,v::r.2)
 |_,_=>([f],[x])
noncomputable def k8 (k:Nat):Option Ob->Val
 |some (.lst xs)=> .lst xs
 |some (.dct ks vs)=> .dct ks vs
 |some (.ins c ns vs)=> .obj c ns vs
 |none=> .ref k
def res (st:aa):Val->Val
 | .ref k=>k8 k st[k]?
 | .non=> .non
 | .bl b=> .bl b
 | .int i=> .int i
 | .str x=> .str x
 | .tup f xs=> .tup f xs
 | .lst xs=> .lst xs
 | .dct ks vs=> .dct ks vs
 | .obj c ns vs=> .obj c ns vs
noncomputable def new (o:Ob) (st:aa):R Val:= .ok (.ref st.length) (st++[o])
noncomputable def cy (f:Val->Val->Option Bool):List Val->List Val->Option Bool
 |[],[]=>some true
 |[],_::_=>some false
 |_::_,[]=>some false
 |x::xs,y::ys=>(f x y).bind λa=>(cy f xs ys).map λb=>a&&b
noncomputable def eqN:Val->Option Bool
 | .non=>some true
 |_=>none
noncomputable def eqB (a:Bool):Val->Option Bool
 | .bl b=>some (a==b)
 |_=>none
noncomputable def eqI (a:Int):Val->Option Bool
 | .int b=>some (a==b)
 | .str _=>some false
 |_=>none
noncomputable def eqS (a:Str):Val->Option Bool
 | .str b=>some (decide (a=b))
 | .int _=>some false
 |_=>none
noncomputable def eqT (f:List Val->Option Bool):Val->Option Bool
 | .tup _ ys=>f ys
 |_=>none
noncomputable def eqL (f:List Val->Option Bool):Val->Option Bool
 | .lst ys=>f ys
 |_=>none
def C9 (f:List Val->List Val->Option Bool) (v w:Val):Option Bool:=match v with
 | .non=>eqN w
 | .bl a=>eqB a w
 | .int a=>eqI a w
 | .str a=>eqS a w
 | .tup _ xs=>eqT (f xs) w
 | .lst xs=>eqL (f xs) w
 |_=>none
noncomputable def eqv:Nat->Val->Val->Option Bool
 |0=>C9 λ_ _=>none
 |d+1=>C9 (cy (eqv d))
noncomputable def dG (x:Val):List Val->Option Bool
 |[]=>some false
 |y::ys=>(eqv 8 y x).bind λa=>(dG x ys).map λb=>a||b
noncomputable def uW:Val->Bool
 | .int _=>true
 | .str _=>true
 |_=>false
def bA:Val->Bool
 | .int _=>true
 | .str _=>true
 | .tup f xs=> !f&&xs.all uW
 |_=>false
noncomputable def iV:Val->Val
 | .tup _ xs=> .tup false xs
 | .non=> .non
 | .bl b=> .bl b
 | .int i=> .int i
 | .str x=> .str x
 | .lst xs=> .lst xs
 | .dct ks vs=> .dct ks vs
 | .obj c ns vs=> .obj c ns vs
 | .ref k=> .ref k
noncomputable def kT:Val->Bool
 | .tup _ _=>true
 |_=>false
noncomputable def getD (k:Val):List Val->List Val->Option (Option Val)
 |a::ks,v::vs=>if kT a=kT k then (eqv 8 a k).bind λb=>if b=true then some (some v) else getD k ks vs else none
 |_,_=>some none
noncomputable def memD (k:Val):List Val->Option Bool
 |[]=>some false
 |a::ks=>if kT a=kT k then (eqv 8 a k).bind λb=>(memD k ks).map λc=>b||c else none
noncomputable def gN (k x:Val):List Val->List Val->List Val
 |a::ks,v::vs=>(if eqv 8 a k=some true then x else v)::gN k x ks vs
 |_,_=>[]
def putD (k x:Val) (ks vs:List Val):Option (List Val×List Val):=(memD k ks).map λb=>if b=true then (ks,gN k x ks vs) else (ks++[k],vs++[x])
noncomputable def pairD:List Val->List Val->List Val->Option (List Val×List Val)
 |[],ks,vs=>some (ks,vs)
 | .tup false [k,v]::r,ks,vs=>if bA k=true then (putD k v ks vs).bind λp=>pairD r p.1 p.2 else none
 |_,_,_=>none
noncomputable def truth:Val->Option Bool
 | .non=>some false
 | .bl b=>some b
 | .int i=>some (i !=0)
 | .str x=>if x.length<=1000 then some ((x.length:Int) !=0) else none
 | .tup _ xs=>some !xs.isEmpty
 | .lst xs=>some !xs.isEmpty
 |_=>none
noncomputable def gP:Val->Option Int
 | .tup _ xs=>some xs.length
 | .lst xs=>some xs.length
 | .dct ks _=>some ks.length
 | .str x=>if x.length<=1000 then some (x.length:Int) else none
 |_=>none
noncomputable def i9 (n:Nat) (i:Int):Option Nat:=if 0<=i then (if i<n then some i.toNat else none) else if-(n:Int)<=i then some (i+n).toNat else none
def kz (xs:List Val) (i:Int):Option Val:=(i9 xs.length i).bind λj=>xs[j]?
noncomputable def bT (n d:Nat):Option Int->Nat
 |none=>d
 |some v=>if v<0 then (v+(n:Int)).toNat else min v.toNat n
def cut {α:Type} (xs:List α) (lo hi:Option Int):List α:=(xs.drop (bT xs.length 0 lo)).take (bT xs.length xs.length hi-bT xs.length 0 lo)
def big (i:Int):Prop:=i.natAbs<2^1000
def AA (i j:Int):Prop:=i.natAbs<2^64∨j.natAbs<2^64∨(big i/\big j)
noncomputable def iff {α:Type} (c:Prop) (r:R α):R α:= @ite _ c (Classical.propDecidable c) r .stuck
theorem bo {α:Type} {c:Prop} {r:R α} (h:c):iff c r=r:=if_pos h
noncomputable def lE {α:Type} (f:Int->Int->aa->R α) (i:Int):Val->aa->R α
 | .int j,st=>f i j st
 |_,_=> .stuck
def bN {α:Type} (f:Int->Int->aa->R α):Val->Val->aa->R α
 | .int i,y,st=>lE f i y st
 |_,_,_=> .stuck
def yn (i:Str):Val->aa->R Val
 | .str j,st=>iff (i.length+j.length<=100000) (.ok (.str (i++j)) st)
 |_,_=> .stuck
def yD (xs:List Val):Val->aa->R Val
 | .tup _ ys,st=>iff (xs≠[]/\ys≠[]/\xs.length+ys.length<=10000) (.ok (.tup false (xs++ys)) st)
 |_,_=> .stuck
def xR (xs:List Val):Val->aa->R Val
 | .lst ys,st=>iff (xs.length+ys.length<=10000) (new (.lst (xs++ys)) st)
 |_,_=> .stuck
def fI:Val->Val->aa->R Val
 | .int i,y,st=>lE (λi j st=> .ok (.int (i+j)) st) i y st
 | .str i,y,st=>yn i y st
 | .tup _ xs,y,st=>yD xs y st
 | .lst xs,y,st=>xR xs y st
 |_,_,_=> .stuck
def qf (i j:Int) (st:aa):R Val:=iff (AA i j) (.ok (.int (i*j)) st)
def qF (i j:Int) (st:aa):R Val:=iff (j≠0/\big j) (.ok (.int (i.fdiv j)) st)
def pR (i j:Int) (st:aa):R Val:=iff (j≠0) (.ok (.int (i.fmod j)) st)
def yH (i j:Int) (st:aa):R Val:=iff (0<=j/\j<=1000/\i.natAbs<2^64) (.ok (.int (i^j.toNat)) st)
noncomputable def gM (z:Str) (n:Nat):Str:=⟨(List.replicate n z.cps.toList).flatten.toArray⟩
def vc:Val->Val->aa->R Val
 | .str z, .int k,st=>iff (0<=k/\k<=1000/\z.length<=1000) (.ok (.str (gM z k.toNat)) st)
 | .int i,y,st=>lE qf i y st
 |_,_,_=> .stuck
def eJ:Operator->Val->Val->aa->R Val
 | .Add,x,y,st=>fI x y st
 | .Sub,x,y,st=>bN (λi j st=> .ok (.int (i-j)) st) x y st
 | .Mult,x,y,st=>vc x y st
 | .FloorDiv,x,y,st=>bN qF x y st
 | .Mod,x,y,st=>bN pR x y st
 | .Pow,x,y,st=>bN yH x y st
 |_,_,_,_=> .stuck
noncomputable def gg:Val->Bool
 | .non=>true
 | .bl _=>false
 | .int _=>false
 | .str _=>false
 | .tup _ _=>false
 | .lst _=>false
 | .dct _ _=>false
 | .obj _ _ _=>false
 | .ref _=>false
noncomputable def isB (neg b:Bool):Val->aa->R Bool
 | .bl a,st=> .ok (if neg=true then !(a==b) else a==b) st
 |_,_=> .stuck
def Af (neg:Bool) (x:Val):Val->aa->R Bool
 | .non,st=> .ok (if neg=true then !gg x else gg x) st
 | .bl b,st=>isB neg b x st
 |_,_=> .stuck
def ow (neg:Bool) (x:Val):Val->aa->R Bool
 | .tup _ ys,st=>R.ak ((dG x ys).map λb=>if neg=true then !b else b) st
 | .lst ys,st=>R.ak ((dG x ys).map λb=>if neg=true then !b else b) st
 | .dct ks vs,st=>iff (bA x=true) (R.ak ((getD x ks vs).map λo=>if neg=true then o.isNone else o.isSome) st)
 |_,_=> .stuck
def bw:CmpOp->Val->Val->aa->R Bool
 | .Eq,x,y,st=>R.ak (eqv 8 x y) st
 | .NotEq,x,y,st=>R.ak ((eqv 8 x y).map λb=> !b) st
 | .Lt,x,y,st=>bN (λi j st=> .ok (decide (i<j)) st) x y st
 | .LtE,x,y,st=>bN (λi j st=> .ok (decide (i<=j)) st) x y st
 | .Gt,x,y,st=>bN (λi j st=> .ok (decide (j<i)) st) x y st
 | .GtE,x,y,st=>bN (λi j st=> .ok (decide (j<=i)) st) x y st
 | .Is,x,y,st=>Af false x y st
 | .IsNot,x,y,st=>Af true x y st
 | .In,x,y,st=>ow false x y st
 | .NotIn,x,y,st=>ow true x y st
def cP (r:R Bool):R Val:=r.bind λb st=> .ok (.bl b) st
def de:Val->Val->aa->R Val
 | .tup _ xs, .int k,st=>R.ak (kz xs k) st
 | .lst xs, .int k,st=>R.ak (kz xs k) st
 | .str x, .int k,st=>iff (x.length<=1000) (R.ak (((i9 x.length k).bind λj=>x.cps.toList[j]?).map λc=> .str ⟨#[c]⟩) st)
 | .dct ks vs,k,st=>iff (bA k=true) (R.ak ((getD k ks vs).bind id) st)
 |_,_,_=> .stuck
def lp:Val->Option Int->Option Int->aa->R Val
 | .tup _ xs,lo,hi,st=>iff (¬(bT xs.length 0 lo=0/\bT xs.length xs.length hi=xs.length)) (.ok (.tup false (cut xs lo hi)) st)
 | .lst xs,lo,hi,st=>new (.lst (cut xs lo hi)) st
 | .str x,lo,hi,st=>iff (x.length<=1000) (.ok (.str ⟨(cut x.cps.toList lo hi).toArray⟩) st)
 |_,_,_,_=> .stuck
noncomputable def allB:List Val->Option Bool
 |[]=>some true
 | .bl b::r=>(allB r).map λc=>b&&c
 |_=>none
noncomputable def anyB:List Val->Option Bool
 |[]=>some false
 | .bl b::r=>(anyB r).map λc=>b||c
 |_=>none
noncomputable def EO:Int->List Val->Option Int
 |a,[]=>some a
 |a, .int i::r=>EO (a+i) r
 |_,_=>none
noncomputable def bM (n:String):Val->Option Bool
 | .non=>some false
 | .bl _=>some (n=="bool"||n=="int")
 | .int _=>some (n=="int")
 | .str _=>some (n=="str")
 | .tup _ _=>some (n=="tuple")
 | .lst _=>some (n=="list")
 | .dct _ _=>some (n=="dict")
 | .obj _ _ _=>none
 | .ref _=>none
noncomputable def eR:List Val->Option (List Int)
 |[]=>some []
 | .int i::r=>(eR r).map λr=>i::r
 |_=>none
def kJ:Bi->Val->aa->R Val
 | .len,x,st=>R.ak ((gP x).map .int) st
 | .tuple, .tup f xs,st=> .ok (.tup f xs) st
 | .tuple, .lst xs,st=> .ok (.tup true xs) st
 | .list, .tup _ xs,st=>new (.lst xs) st
 | .list, .lst xs,st=>new (.lst xs) st
 | .abs, .int i,st=> .ok (.int i.natAbs) st
 | .all, .lst xs,st=>R.ak ((allB xs).map .bl) st
 | .any, .lst xs,st=>R.ak ((anyB xs).map .bl) st
 | .sum, .lst xs,st=>R.ak ((EO 0 xs).map .int) st
 | .max, .lst xs,st=>R.ak ((eR xs).bind λl=>l.max?.map .int) st
 | .min, .lst xs,st=>R.ak ((eR xs).bind λl=>l.min?.map .int) st
 | .minD, .lst xs,st=>R.ak ((eR xs).map λl=>(l.min?.map .int).getD .non) st
 | .int, .bl b,st=> .ok (.int (if b=true then 1 else 0)) st
 | .int, .int i,st=> .ok (.int i) st
 | .bM n,x,st=>R.ak ((bM n x).map .bl) st
 |_,_,_=> .stuck
noncomputable def vz:Bi->Val->Val->aa->R Val
 | .max, .int i, .int j,st=> .ok (.int (if j>i then j else i)) st
 | .min, .int i, .int j,st=> .ok (.int (if j<i then j else i)) st
 |_,_,_,_=> .stuck
noncomputable def Fs:Bi->Val->Val->Val->aa->R Val
 | .max, .int i, .int j, .int k,st=> .ok (.int (max i (max j k))) st
 |_,_,_,_,_=> .stuck
def qt (b:Bi):List Val->aa->R Val
 |[x],st=>kJ b x st
 |[x,y],st=>vz b x y st
 |[x,y,z],st=>Fs b x y z st
 |_,_=> .stuck
def CV:Bm->Nat->List Val->List Val->aa->R Val
 | .append,k,ys,[x],st=>iff (ys.length<10000) (.ok .non (st.set k (.lst (ys++[x]))))
 | .insert,k,ys,[.int i,x],st=>iff (0<=i/\i<=ys.length/\ys.length<=1000) (.ok .non (st.set k (.lst (ys.take i.toNat++[x]++ys.drop i.toNat))))
 | .clear,k,_,[],st=> .ok .non (st.set k (.lst []))
 | .reverse,k,ys,[],st=> .ok .non (st.set k (.lst ys.reverse))
 | .pop,k,ys,[],st=>(R.ak ys.getLast? st).bind λy st=> .ok y (st.set k (.lst ys.dropLast))
 |_,_,_,_,_=> .stuck
def Au (k:Nat) (ys:List Val) (st:aa):Option Ob->R Val
 |some (.lst zs)=>iff (ys.length+zs.length<=10000) (.ok .non (st.set k (.lst (ys++zs))))
 |_=> .stuck
def ir (m:Bm) (k:Nat) (xs:List Val) (st:aa):Option Ob->R Val
 |some (.lst ys)=>match m,xs with
  | .extend,[.ref j]=>Au k ys st st[j]?
  |m,xs=>CV m k ys xs st
 |_=> .stuck
def lO:Val->List Val->aa->R Val
 | .dct ks vs,[k],st=>iff (bA k=true) (R.ak ((getD k ks vs).map λo=>o.getD .non) st)
 | .dct ks vs,[k,d],st=>iff (bA k=true) (R.ak ((getD k ks vs).map λo=>o.getD d) st)
 |_,_,_=> .stuck
def jJ:Bm->Val->List Val->aa->R Val
 | .get,o,xs,st=>lO (res st o) xs st
 |m, .ref k,xs,st=>ir m k xs st st[k]?
 |_,_,_,_=> .stuck
mutual
noncomputable def T.put (v:Val) (env:Env):T->Option Env
 | .var i=>if i<env.length then some (env.set i (some v)) else none
 | .tup ts=>match v with
  | .tup _ xs=>bG xs env ts
  |_=>none
noncomputable def bG (vs:List Val) (env:Env):List T->Option Env
 |[]=>match vs with
  |[]=>some env
  |_=>none
 |t::ts=>match vs with
  |v::vs=>(t.put v env).bind λenv=>bG vs env ts
  |[]=>none
end
mutual
noncomputable def T.low (n:Nat):T->Bool
 | .var i=>decide (i<n)
 | .tup ts=>lows n ts
noncomputable def lows (n:Nat):List T->Bool
 |[]=>true
 |t::ts=>t.low n&&lows n ts
end
noncomputable def xA:List Int->List Int->Bool
 |[],[]=>false
 |[],_::_=>true
 |_::_,[]=>false
 |a::r,b::t=>if a=b then xA r t else decide (a<b)
noncomputable def cZ {α:Type} (k:List Int) (y:α):List (List Int×α)->List (List Int×α)
 |[]=>[(k,y)]
 |z::r=>if xA k z.1=true then (k,y)::z::r else z::cZ k y r
noncomputable def bD {α:Type}:List (List Int×α)->List (List Int×α)
 |[]=>[]
 |z::r=>cZ z.1 z.2 (bD r)
def FJ:Val->Option (List Int)
 | .tup false xs=>eR xs
 |_=>none
noncomputable def dD:List Val->Option (List (List Int))
 |[]=>some []
 |v::r=>(FJ v).bind λk=>(dD r).map λr=>k::r
def Kept (chk:List (Nat×Ob)) (st:aa):Prop:=∀p∈chk,st[p.1]?=some p.2
end
noncomputable section
def rC (P:Pg) (c:Nat):Bool:=(((P.cl c)).map (·.chg)).getD false
def rM (P:Pg) (n:Nat) (k:Nat) (st':aa):Option Ob->R Val
 |some (.lst xs)=>(R.ak (aS st' n k xs) st').bind λys st'=> .ok (.ref n) (st'.take n++[.lst ys])
 |some (.dct ks vs)=>(R.ak (aS st' n k vs) st').bind λvs st'=> .ok (.ref n) (st'.take n++[.dct ks vs])
 |some (.ins c ns vs)=>if rC P c=true then .ok (.ref k) st' else (R.ak (aS st' n st'.length vs) st').bind λvs st'=> .ok (.obj c ns vs) (st'.take n)
 |none=> .stuck
noncomputable def isRef:Val->Option Nat
 | .ref k=>some k
 | .non=>none
 | .bl _=>none
 | .int _=>none
 | .str _=>none
 | .tup _ _=>none
 | .lst _=>none
 | .dct _ _=>none
 | .obj _ _ _=>none
def zp (P:Pg) (n:Nat) (v:Val) (st':aa):Option Nat->R Val
 |some k=>if k<n then .ok v (st'.take n) else rM P n k st' st'[k]?
 |none=>(R.ak (v.aB st' n st'.length) st').bind λv st'=> .ok v (st'.take n)
open Classical in
def fin (P:Pg) (st:aa) (v:Val) (st':aa):R Val:=if Old st st' then zp P st.length v st' (isRef v) else .ok v st'
open Classical in
def zZ (st:aa) (x:Exn) (st':aa):R Val:=
 if Old st st' then (R.ak (aS st' st.length st'.length x.vs) st').bind λvs st'=> .exc {x with vs:=vs} (st'.take st.length) else .exc x st'
open Classical in
def tY (st:aa) (v:Val) (st':aa):R Val:=
 if Old st st' then (R.ak (v.aB st' st.length st'.length) st').bind λv st'=> .ok v (st'.take st.length) else .ok v st'
inductive F where
 |next (env:Env) (st:aa)|ret (v:Val) (st:aa)|brk (env:Env) (st:aa)|cont (env:Env) (st:aa)|exc (x:Exn) (env:Env) (st:aa)|stuck
noncomputable def F.bind:F->(Env->aa->F)->F
 | .next env st,k=>k env st
 | .ret v st,_=> .ret v st
 | .brk env st,_=> .brk env st
 | .cont env st,_=> .cont env st
 | .exc x env st,_=> .exc x env st
 | .stuck,_=> .stuck
noncomputable def F.of {α:Type} (env:Env):R α->(α->aa->F)->F
 | .ok a st,k=>k a st
 | .exc x st,_=> .exc x env st
 | .stuck,_=> .stuck
noncomputable def F.ak (st:aa):Option Env->F
 |some env=> .next env st
 |none=> .stuck
abbrev ar:=Nat->List Val->aa->R Val
noncomputable def iz (k:Nat):Option Ob->Option (List Val×List (Nat×Ob))
 |some (.lst xs)=>some (xs,[(k, .lst xs)])
 |some (.dct _ _)=>none
 |some (.ins _ _ _)=>none
 |none=>none
def itemsOf (st:aa):Val->Option (List Val×List (Nat×Ob))
 | .tup _ xs=>some (xs,[])
 | .lst xs=>some (xs,[])
 | .dct _ _=>none
 | .ref k=>iz k st[k]?
 | .non=>none
 | .bl _=>none
 | .int _=>none
 | .str _=>none
 | .obj _ _ _=>none
def ck (st:aa):Val->Option (List Val×List (Nat×Ob))
 | .tup _ xs=>some (xs,[])
 | .lst xs=>some (xs,[])
 | .dct ks _=>some (ks.map iV,[])
 | .ref k=>iz k st[k]?
 | .non=>none
 | .bl _=>none
 | .int _=>none
 | .str _=>none
 | .obj _ _ _=>none
def newD (xs:List Val) (st:aa):R Val:=iff (xs.length<=1000) ((R.ak (pairD xs [] []) st).bind λp st=>new (.dct p.1 p.2) st)
def vj (st:aa):Option Ob->R Val
 |some (.lst xs)=>newD xs st
 |_=> .stuck
def qK (st:aa):Val->R Val
 | .tup true xs=>newD xs st
 | .ref k=>vj st st[k]?
 |_=> .stuck
noncomputable def Ai:Val->Bool
 | .lst _=>true
 |_=>false
noncomputable def fU:List Val->List Val->List Val
 |x::xs,y::ys=> .tup false [x,y]::fU xs ys
 |_,_=>[]
noncomputable def De:Int->List Val->List Val
 |i,x::xs=> .tup false [.int i,x]::De (i+1) xs
 |_,[]=>[]
noncomputable def aY (lo:Int):Nat->List Val
 |0=>[]
 |n+1=> .int lo::aY (lo+1) n
def uU:Val->aa->R (List Val×List (Nat×Ob))
 | .int n,st=>iff (-(2^60)<n/\n<2^24) (.ok (aY 0 n.toNat,[]) st)
 |_,_=> .stuck
def FQ (a:Int):Val->aa->R (List Val×List (Nat×Ob))
 | .int b,st=>iff (b-a<2^24/\ -(2^60)<a/\a<2^60/\ -(2^60)<b) (.ok (aY a (b-a).toNat,[]) st)
 |_,_=> .stuck
def Gj:Val->Val->aa->R (List Val×List (Nat×Ob))
 | .int a,y,st=>FQ a y st
 |_,_,_=> .stuck
noncomputable def eO:Option Val->List Val->List Val
 |some x,r=>x::r
 |none,r=>r
open Classical in
noncomputable def aC (f:Val->aa->R (Option Val)) (chk:List (Nat×Ob)):List Val->aa->R (List Val)
 |[],st=>iff (Kept chk st) (.ok [] st)
 |v::vs,st=>iff (Kept chk st) ((f v st).bind λo st=>(aC f chk vs st).bind λr st=> .ok (eO o r) st)
noncomputable def az (nw:Nat) (caps:List Nat) (env:Env):Env:=List.replicate nw none++caps.map λi=>(env[i]?).bind id
noncomputable def gL:Val->aa->R Bool
 | .bl b,st=> .ok b st
 |_,_=> .stuck
noncomputable def bP:Bm->Bool
 | .get=>true
 | .keys=>true
 | .values=>true
 |_=>false
def wa (m:Bm):Val->Bool
 | .lst _=> !bP m
 | .dct _ _=>bP m
 |_=>false
noncomputable def Jw:Val->aa->R Val
 | .int i,st=> .ok (.int (-i)) st
 |_,_=> .stuck
noncomputable def ji:Option Val->aa->R (Option Int)
 |none,st=> .ok none st
 |some (.int i),st=> .ok (some i) st
 |_,_=> .stuck
def dY (P:Pg) (c:Nat) (f:Str):Bool:=(((P.cl c)).map λk=>k.flds.contains f).getD false
def jq (P:Pg) (f:Str):Val->aa->R Val
 | .obj c ns vs,st=>iff (dY P c f=true) (R.ak (eh ns vs f) st)
 |_,_=> .stuck
def Kg (P:Pg) (c:Nat):Val->aa->R Val
 | .obj k _ _,st=>R.ak (((P.cl k)).map λk=> .bl (k.sup.contains c)) st
 | .non,_=> .stuck
 | .bl _,_=> .stuck
 | .int _,_=> .stuck
 | .str _,_=> .stuck
 | .tup _ _,_=> .stuck
 | .lst _,_=> .stuck
 | .dct _ _,_=> .stuck
 | .ref _,_=> .stuck
def JC (P:Pg) (cs:List Nat):Val->aa->R Val
 | .obj k _ _,st=>R.ak (((P.cl k)).bind λk=>if k.exc=true then some (.bl (cs.any λc=>k.sup.contains c)) else none) st
 |_,_=> .stuck
noncomputable def qc {α:Type}:Val->R α->R α
 | .non,r=>r
 |_,_=> .stuck
def gr (P:Pg) (cl:ar) (c:Nat) (xs:List Val) (st:aa):Option (Option Nat)->R Val
 |some (some f)=>(cl f (.ref st.length::xs) (st++[.ins c [] []])).bind λv st'=>qc v (fin P st (.ref st.length) st')
 |some none=>if xs.isEmpty then fin P st (.ref st.length) (st++[.ins c [] []]) else .stuck
 |none=> .stuck
def Ep (P:Pg) (m:Str):Val->Option Nat
 | .obj c ns _=>if ns.contains m=true then none else (P.cl c).bind λk=>k.meths.lookup m
 |_=>none
noncomputable def jd {α:Type}:Bool->R α->R α->R α
 |true,a,_=>a
 |false,_,b=>b
def aO (o:Option Env) (c:Env->aa->R Bool) (e:Env->aa->R Val) (st:aa):R (Option Val):=(R.ak o st).bind λenv st=>
 (c env st).bind λb st=>jd b ((e env st).bind λx st=> .ok (some x) st) (.ok none st)
def ym:Option (List Val×List (Nat×Ob))->Option (List Val×List (Nat×Ob))->aa->R (List Val×List (Nat×Ob))
 |some (xs,c),some (ys,d),st=>iff (ys.length<=xs.length) (.ok (fU xs ys,c++d) st)
 |_,_,_=> .stuck
noncomputable def noX:R Val->R Val
 | .ok a st=> .ok a st
 | .exc _ _=> .stuck
 | .stuck=> .stuck
noncomputable def eS (cl:ar) (f:Nat) (st:aa):List Val->List Val->R (List Val)
 |[],dn=> .ok dn (st++[.lst dn])
 |y::ys,dn=>(noX (cl f [y] (st++[.lst dn]))).bind λv st'=>iff (st'=st++[.lst dn]) (eS cl f st ys (dn++[v]))
def iA (ys:List Val) (ks:List (List Int)) (st:aa):R Val:=iff (ys.length<64/\ks.Nodup/\∃m,0<m/\∀k∈ks,k.length=m) (new (.lst ((bD (ks.zip ys)).map λz=>z.2)) (st++[.lst []]))
def pF (cl:ar) (f:Nat) (st:aa):Val->R Val
 | .lst ys=>iff (ys.length<64) ((eS cl f st ys []).bind λks _=>(R.ak (dD ks) st).bind λks st=>iA ys ks st)
 |_=> .stuck
mutual
noncomputable def E.run (P:Pg) (cl:ar):E->Env->aa->R Val
 | .const v,_,st=> .ok v st
 | .var i,env,st=>R.ak ((env[i]?).bind id) st
 | .bin op a b,env,st=>(a.run P cl env st).bind λx st=>(b.run P cl env st).bind λy st=>eJ op (res st x) (res st y) st
 | .neg a,env,st=>(a.run P cl env st).bind λx st=>Jw x st
 | .cmp op a b,env,st=>(a.run P cl env st).bind λx st=>(b.run P cl env st).bind λy st=>cP (bw op (res st x) (res st y) st)
 | .cmp2 op op' a b c,env,st=>(a.run P cl env st).bind λx st=>(b.run P cl env st).bind λy st=>(bw op (res st x) (res st y) st).bind λz st=>jd z ((c.run P cl env st).bind λw st=>cP (bw op' (res st y) (res st w) st)) (.ok (.bl false) st)
 | .and a b,env,st=>(a.run P cl env st).bind λx st=>(gL x st).bind λt st=>jd t (b.run P cl env st) (.ok (.bl false) st)
 | .or a b,env,st=>(a.run P cl env st).bind λx st=>(gL x st).bind λt st=>jd t (.ok (.bl true) st) (b.run P cl env st)
 | .not a,env,st=>(a.run P cl env st).bind λx st=>(gL x st).bind λt st=> .ok (.bl !t) st
 | .ite c a b,env,st=>(c.run P cl env st).bind λx st=>(R.ak (truth (res st x)) st).bind λt st=>jd t (a.run P cl env st) (b.run P cl env st)
 | .tup es,env,st=>(aN P cl es env st).bind λxs st=>iff (xs.length<=1000) (.ok (.tup false xs) st)
 | .lst es,env,st=>(aN P cl es env st).bind λxs st=>iff (xs.length<=1000) (new (.lst xs) st)
 | .dct [] [],_,st=>new (.dct [] []) st
 | .dct _ _,_,_=> .stuck
 | .fld o f,env,st=>(o.run P cl env st).bind λx st=>jq P f (res st x) st
 | .idx o i,env,st=>(o.run P cl env st).bind λx st=>(i.run P cl env st).bind λy st=>de (res st x) y st
 | .slc o lo hi,env,st=>(o.run P cl env st).bind λx st=>((iD P cl lo env st).bind λa st=>ji a st).bind λa st=>((iD P cl hi env st).bind λb st=>ji b st).bind λb st=>lp (res st x) a b st
 | .call f es,env,st=>(aN P cl es env st).bind λxs st=>cl f xs st
 | .make c es,env,st=>(aN P cl es env st).bind λxs st=>gr P cl c xs st (((P.cl c)).map (·.init))
 | .meth o m es,env,st=>(o.run P cl env st).bind λx st=>(R.ak (Ep P m (res st x)) st).bind λf st=>(aN P cl es env st).bind λxs st=>cl f (x::xs) st
 | .bi b es,env,st=>(aN P cl es env st).bind λxs st=>qt b (xs.map (res st)) st
 | .bm m o es,env,st=>(o.run P cl env st).bind λx st=>iff (wa m (res st x)=true) ((aN P cl es env st).bind λxs st=>jJ m x xs st)
 | .isI e c,env,st=>(e.run P cl env st).bind λx st=>Kg P c (res st x) st
 | .isM e cs,env,st=>(e.run P cl env st).bind λx st=>JC P cs (res st x) st
 | .comp nw caps t q c e,env,st=>(q.run P cl env st).bind λit st=>iff (t.low nw=true/\it.1.length<=10000) ((aC (λv st=>aO (t.put v (az nw caps env)) (runC P cl c) (e.run P cl) st) it.2 it.1 st).bind λxs st=>new (.lst xs) st)
 | .sortK q f,env,st=>(q.run P cl env st).bind λx st=>pF cl f st (res st x)
 | .dOf e,env,st=>(e.run P cl env st).bind λx st=>qK st x
 | .fz e,env,st=>(e.run P cl env st).bind λv st'=>tY st v st'
noncomputable def aN (P:Pg) (cl:ar):List E->Env->aa->R (List Val)
 |[],_,st=> .ok [] st
 |e::es,env,st=>(e.run P cl env st).bind λx st=>(aN P cl es env st).bind λxs st=> .ok (x::xs) st
noncomputable def iD (P:Pg) (cl:ar):Option E->Env->aa->R (Option Val)
 |none,_,st=> .ok none st
 |some e,env,st=>(e.run P cl env st).bind λx st=> .ok (some x) st
noncomputable def runC (P:Pg) (cl:ar):Option E->Env->aa->R Bool
 |none,_,st=> .ok true st
 |some e,env,st=>(e.run P cl env st).bind λx st=>R.ak (truth (res st x)) st
noncomputable def Q.run (P:Pg) (cl:ar):Q->Env->aa->R (List Val×List (Nat×Ob))
 | .val e,env,st=>(e.run P cl env st).bind λx st=>R.ak (ck st x) st
 | .rng1 a,env,st=>(a.run P cl env st).bind λx st=>uU x st
 | .rng2 a b,env,st=>(a.run P cl env st).bind λx st=>(b.run P cl env st).bind λy st=>Gj x y st
 | .zip a b,env,st=>(a.run P cl env st).bind λx st=>(b.run P cl env st).bind λy st=>ym (itemsOf st x) (itemsOf st y) st
 | .enm a,env,st=>(a.run P cl env st).bind λx st=>iff (Ai (res st x)=true) ((R.ak (itemsOf st x) st).bind λp st=> .ok (De 0 p.1,p.2) st)
 | .items _,_,_=> .stuck
 | .rev _,_,_=> .stuck
end
noncomputable def F.turn:F->(Env->aa->F)->F
 | .next env st,k=>k env st
 | .cont env st,k=>k env st
 | .brk env st,_=> .next env st
 | .ret v st,_=> .ret v st
 | .exc x env st,_=> .exc x env st
 | .stuck,_=> .stuck
noncomputable def jh (c:Prop) (r:F):F:= @ite _ c (Classical.propDecidable c) r .stuck
theorem ik {c:Prop} {r:F} (h:c):jh c r=r:=if_pos h
open Classical in
noncomputable def forL (t:T) (body:Env->aa->F) (chk:List (Nat×Ob)):List Val->Env->aa->F
 |[],env,st=>jh (Kept chk st) (.next env st)
 |v::vs,env,st=>jh (Kept chk st) ((F.ak st (t.put v env)).bind λenv st=>(body env st).turn λenv st=>forL t body chk vs env st)
noncomputable def Ad:Bool->F->F->F
 |true,a,_=>a
 |false,_,b=>b
noncomputable def DJ (test:Env->aa->R Bool) (body:Env->aa->F):Nat->Env->aa->F
 |0,_,_=> .stuck
 |n+1,env,st=>F.of env (test env st) λb st=>Ad b ((body env st).turn λenv st=>DJ test body n env st) (.next env st)
def pB (P:Pg) (k:Nat) (f:Str) (x:Val) (st:aa):Option Ob->R Unit
 |some (.ins c ns vs)=>iff (dY P c f=true/\ns.length<100) (.ok () (st.set k (.ins c (aQ ns vs f x).1 (aQ ns vs f x).2)))
 |_=> .stuck
def di (P:Pg) (f:Str) (x:Val):Val->aa->R Unit
 | .ref k,st=>pB P k f x st st[k]?
 |_,_=> .stuck
def mq (k:Nat) (x:Val) (st:aa):Option Ob->Val->R Unit
 |some (.lst xs), .int j=>(R.ak (i9 xs.length j) st).bind λj st=> .ok () (st.set k (.lst (xs.set j x)))
 |some (.dct ks vs),i=>iff (bA i=true/\ks.length<10000) ((R.ak (putD i x ks vs) st).bind λr st=> .ok () (st.set k (.dct r.1 r.2)))
 |_,_=> .stuck
def dA (i x:Val):Val->aa->R Unit
 | .ref k,st=>mq k x st st[k]? i
 |_,_=> .stuck
def Kp (P:Pg) (c k:Nat):Bool:=(((P.cl k)).map λk=>k.sup.contains c).getD false
noncomputable def unset (x:Option Nat) (env:Env):Env:=match x with
 |some i=>env.set i none
 |none=>env
def F.unset (x:Option Nat):F->F
 | .next env st=> .next (PI.unset x env) st
 | .brk env st=> .brk (PI.unset x env) st
 | .cont env st=> .cont (PI.unset x env) st
 | .exc _ _ _=> .stuck
 | .ret v st=> .ret v st
 | .stuck=> .stuck
def Iq (x:Option Nat) (y:Exn) (env:Env):Env:=match x with
 |some i=>env.set i (some (.obj y.c y.ns y.vs))
 |none=>env
def F.F7 (P:Pg) (c:Nat) (x:Option Nat) (h:Env->aa->F):F->F
 | .exc y env st=>Ad (Kp P c y.c) ((h (Iq x y env) st).unset x) .stuck
 | .next env st=> .next env st
 | .brk env st=> .brk env st
 | .cont env st=> .cont env st
 | .ret v st=> .ret v st
 | .stuck=> .stuck
noncomputable def D4 (env:Env) (st:aa):Val->F
 | .obj c ns vs=> .exc ⟨c,ns,vs⟩ env st
 |_=> .stuck
def Fo (P:Pg) (cl:ar) (c:Nat) (xs:List Val) (env:Env) (st:aa):Option (Option Nat)->F
 |some (some f)=>F.of env ((cl f (.ref st.length::xs) (st++[.ins c [] []])).bind λ_ st'=>fin P st (.ref st.length) st') λv st=>D4 env st v
 |some none=> .exc ⟨c,[],[]⟩ env st
 |none=> .stuck
mutual
noncomputable def S.run (P:Pg) (cl:ar):S->Env->aa->F
 | .set t e,env,st=>F.of env (e.run P cl env st) λx st=>F.ak st (t.put x env)
 | .dA o i e,env,st=>F.of env ((e.run P cl env st).bind λx st=>(o.run P cl env st).bind λy st=>(i.run P cl env st).bind λz st=>dA z x y st) λ_ st=> .next env st
 | .di o f e,env,st=>F.of env ((e.run P cl env st).bind λx st=>(o.run P cl env st).bind λy st=>di P f x y st) λ_ st=> .next env st
 | .aug i op e,env,st=>F.of env ((R.ak ((env[i]?).bind id) st).bind λx st=>(e.run P cl env st).bind λy st=>eJ op x (res st y) st) λx st=> .next (env.set i (some x)) st
 | .augI _ _ _ _,_,_=> .stuck
 | .augF _ _ _ _,_,_=> .stuck
 | .expr e,env,st=>F.of env (e.run P cl env st) λ_ st=> .next env st
 | .ret e,env,st=>F.of env (e.run P cl env st) λx st=> .ret x st
 | .retN,_,st=> .ret .non st
 | .pass,env,st=> .next env st
 | .brk,env,st=> .brk env st
 | .cont,env,st=> .cont env st
 | .ife c a b,env,st=>F.of env (runC P cl (some c) env st) λt st=>Ad t (aK P cl a env st) (aK P cl b env st)
 | .whl c b,env,st=>DJ (λenv st=>runC P cl (some c) env st) (λenv st=>aK P cl b env st) P.w env st
 | .for t q b,env,st=>F.of env (q.run P cl env st) λit st=>forL t (λenv st=>aK P cl b env st) it.2 it.1 env st
 | .raise c es,env,st=>F.of env (aN P cl es env st) λxs st=>Fo P cl c xs env st (((P.cl c)).map (·.init))
 | .try_ b c x h,env,st=>(aK P cl b env st).F7 P c x λenv st=>aK P cl h env st
noncomputable def aK (P:Pg) (cl:ar):List S->Env->aa->F
 |[],env,st=> .next env st
 |s::ss,env,st=>(s.run P cl env st).bind λenv st=>aK P cl ss env st
end
def F.fin (P:Pg) (st:aa):F->R Val
 | .next _ st'=>PI.fin P st .non st'
 | .ret v st'=>PI.fin P st v st'
 | .exc x _ st'=>zZ st x st'
 | .brk _ _=> .stuck
 | .cont _ _=> .stuck
 | .stuck=> .stuck
def Ao (P:Pg) (cl:ar) (xs:List Val) (st:aa):Option Fn->R Val
 |some d=>iff (xs.length=d.np) ((aK P cl d.body (xs.map some++List.replicate (d.ns-d.np) none) st).fin P st)
 |none=> .stuck
noncomputable def call (P:Pg):Nat->ar
 |0,_,_,_=> .stuck
 |n+1,f,xs,st=>Ao P (call P n) xs st (P.fn f)
end
theorem za (st:aa):Old st st:=⟨aag _,λ_ _ _ h=> .inl h⟩
theorem iq (st g:aa):Old st (st++g):=⟨by simp,λi o h e=> .inl (by rwa[aal h] at e)⟩
theorem sH (st g:aa) (k:Nat) (o:Ob) (h:o.bd st.length=true):Old st (st.set k o++g):=⟨by simp,λi u hi e=>by
 rw[aal (by simpa using hi),List.getElem?_set] at e;split at e
 ·split at e
  ·exact .inr (by cases e;exact h)
  ·cases e
 ·exact .inl e⟩
end PI
set_option autoImplicit true
set_option relaxedAutoImplicit true
namespace PI
open PySem
@[simp]theorem Mf (k:Nat):k8 k (some (.lst xs))= .lst xs:=rfl
@[simp]theorem Lb (k:Nat):k8 k (some (.dct ks vs))= .dct ks vs:=rfl
@[simp]theorem LX (k:Nat):k8 k (some (.ins c ns vs))= .obj c ns vs:=rfl
@[simp]theorem Lx (k:Nat):k8 k none= .ref k:=rfl
@[simp]theorem Mt (st:aa):res st (.ref k)=k8 k st[k]?:=rfl
@[simp]theorem MZ (st:aa):res st (.tup f xs)= .tup f xs:=rfl
@[simp]theorem MK (st:aa):res st (.lst xs)= .lst xs:=rfl
@[simp]theorem Mr (st:aa):res st (.dct ks vs)= .dct ks vs:=rfl
@[simp]theorem MV (st:aa):res st (.obj c ns vs)= .obj c ns vs:=rfl
@[simp]theorem Lm {α:Type} (f:Int->Int->aa->R α) (i:Int):lE f i (.int j) st=f i j st:=rfl
@[simp]theorem L8 {α:Type} (f:Int->Int->aa->R α):bN f (.int i) y st=lE f i y st:=rfl
@[simp]theorem Mn (i:Str):yn i (.str j) st=iff (i.length+j.length<=100000) (.ok (.str (i++j)) st):=rfl
@[simp]theorem K6 (xs:List Val):yD xs (.tup w1_ ys) st=iff (xs≠[]/\ys≠[]/\xs.length+ys.length<=10000) (.ok (.tup false (xs++ys)) st):=rfl
@[simp]theorem Mj (xs:List Val):xR xs (.lst ys) st=iff (xs.length+ys.length<=10000) (new (.lst (xs++ys)) st):=rfl
@[simp]theorem L9 :fI (.int i) y st=lE (λi j st=> .ok (.int (i+j)) st) i y st:=rfl
@[simp]theorem Lz :fI (.str i) y st=yn i y st:=rfl
@[simp]theorem LP :fI (.tup w1_ xs) y st=yD xs y st:=rfl
@[simp]theorem Lq :fI (.lst xs) y st=xR xs y st:=rfl
@[simp]theorem Ma :vc (.str z) (.int k) st=iff (0<=k/\k<=1000/\z.length<=1000) (.ok (.str (gM z k.toNat)) st):=rfl
@[simp]theorem LB :vc (.int i) y st=lE qf i y st:=rfl
@[simp]theorem Mc :eJ .Add x y st=fI x y st:=rfl
@[simp]theorem LM :eJ .Sub x y st=bN (λi j st=> .ok (.int (i-j)) st) x y st:=rfl
@[simp]theorem Lo :eJ .Mult x y st=vc x y st:=rfl
@[simp]theorem LZ :eJ .FloorDiv x y st=bN qF x y st:=rfl
@[simp]theorem Lw :eJ .Mod x y st=bN pR x y st:=rfl
@[simp]theorem LD :eJ .Pow x y st=bN yH x y st:=rfl
@[simp]theorem MM (neg:Bool) (x:Val):Af neg x .non st= .ok (if neg=true then !gg x else gg x) st:=rfl
@[simp]theorem MP (neg:Bool) (x:Val):ow neg x (.tup w1_ ys) st=R.ak ((dG x ys).map λb=>if neg=true then !b else b) st:=rfl
@[simp]theorem xi (neg:Bool) (x:Val):ow neg x (.dct ks vs) st=iff (bA x=true) (R.ak ((getD x ks vs).map λo=>if neg=true then o.isNone else o.isSome) st):=rfl
@[simp]theorem Lf :bw .Eq x y st=R.ak (eqv 8 x y) st:=rfl
@[simp]theorem Mm :bw .NotEq x y st=R.ak ((eqv 8 x y).map λb=> !b) st:=rfl
@[simp]theorem Lc :bw .Lt x y st=bN (λi j st=> .ok (decide (i<j)) st) x y st:=rfl
@[simp]theorem Ly :bw .LtE x y st=bN (λi j st=> .ok (decide (i<=j)) st) x y st:=rfl
@[simp]theorem LO :bw .Gt x y st=bN (λi j st=> .ok (decide (j<i)) st) x y st:=rfl
@[simp]theorem Lg :bw .GtE x y st=bN (λi j st=> .ok (decide (j<=i)) st) x y st:=rfl
@[simp]theorem Mo :bw .IsNot x y st=Af true x y st:=rfl
@[simp]theorem Lj :bw .In x y st=ow false x y st:=rfl
@[simp]theorem Kc :bw .NotIn x y st=ow true x y st:=rfl
@[simp]theorem IV :gg .non=true:=rfl
@[simp]theorem Jo :gg (.tup w1_ w2_)=false:=rfl
@[simp]theorem Mp :de (.tup w1_ xs) (.int k) st=R.ak (kz xs k) st:=rfl
@[simp]theorem nj :de (.lst xs) (.int k) st=R.ak (kz xs k) st:=rfl
@[simp]theorem ke :de (.str x) (.int k) st=iff (x.length<=1000) (R.ak (((i9 x.length k).bind λj=>x.cps.toList[j]?).map λc=> .str ⟨#[c]⟩) st):=rfl
@[simp]theorem K9 :lp (.tup w1_ xs) lo hi st=iff (¬(bT xs.length 0 lo=0/\bT xs.length xs.length hi=xs.length)) (.ok (.tup false (cut xs lo hi)) st):=rfl
@[simp]theorem KY :lp (.lst xs) lo hi st=new (.lst (cut xs lo hi)) st:=rfl
@[simp]theorem LW :lp (.str x) lo hi st=iff (x.length<=1000) (.ok (.str ⟨(cut x.cps.toList lo hi).toArray⟩) st):=rfl
@[simp]theorem Jk :truth (.bl b)=some b:=rfl
@[simp]theorem KW :gP (.tup w1_ xs)=some xs.length:=rfl
@[simp]theorem Lr :gP (.lst xs)=some xs.length:=rfl
@[simp]theorem K1 :gP (.dct ks w1_)=some ks.length:=rfl
@[simp]theorem MX :kJ .len x st=R.ak ((gP x).map .int) st:=rfl
@[simp]theorem MG :kJ .tuple (.tup f xs) st= .ok (.tup f xs) st:=rfl
@[simp]theorem MC :kJ .tuple (.lst xs) st= .ok (.tup true xs) st:=rfl
@[simp]theorem My :kJ .abs (.int i) st= .ok (.int i.natAbs) st:=rfl
@[simp]theorem Ll :kJ .int (.bl b) st= .ok (.int (if b=true then 1 else 0)) st:=rfl
@[simp]theorem Mi :kJ (.bM n) x st=R.ak ((bM n x).map .bl) st:=rfl
@[simp]theorem MS :vz .min (.int i) (.int j) st= .ok (.int (if j<i then j else i)) st:=rfl
@[simp]theorem MQ (b:Bi):qt b [x] st=kJ b x st:=rfl
@[simp]theorem Mu (b:Bi):qt b [x,y] st=vz b x y st:=rfl
@[simp]theorem ME (k:Nat) (ys:List Val) (st:aa):Au k ys st (some (.lst zs))=iff (ys.length+zs.length<=10000) (.ok .non (st.set k (.lst (ys++zs)))):=rfl
@[simp]theorem MN :lO (.dct ks vs) [k] st=iff (bA k=true) (R.ak ((getD k ks vs).map λo=>o.getD .non) st):=rfl
@[simp]theorem dX :lO (.dct ks vs) [k,d] st=iff (bA k=true) (R.ak ((getD k ks vs).map λo=>o.getD d) st):=rfl
@[simp]theorem JF :isRef (.ref k)=some k:=by simp only[isRef]
@[simp]theorem J2 :isRef .non=none:=by simp only[isRef]
@[simp]theorem IT :isRef (.bl w1_)=none:=by simp only[isRef]
@[simp]theorem Iw :isRef (.tup w1_ w2_)=none:=by simp only[isRef]
@[simp]theorem LQ (P:Pg) (n:Nat) (k:Nat) (st':aa):rM P n k st' (some (.lst xs))=(R.ak (aS st' n k xs) st').bind λys st'=> .ok (.ref n) (st'.take n++[.lst ys]):=rfl
@[simp]theorem LH (P:Pg) (n:Nat) (k:Nat) (st':aa):rM P n k st' (some (.ins c ns vs))=if rC P c=true then .ok (.ref k) st' else (R.ak (aS st' n st'.length vs) st').bind λvs st'=> .ok (.obj c ns vs) (st'.take n):=rfl
@[simp]theorem LS (P:Pg) (n:Nat) (v:Val) (st':aa):zp P n v st' (some k)=if k<n then .ok v (st'.take n) else rM P n k st' st'[k]?:=rfl
@[simp]theorem HR :F.bind (.next env st) k=k env st:=rfl
@[simp]theorem HY :F.bind (.ret v st) w1_= .ret v st:=rfl
@[simp]theorem L7 {α:Type} (env:Env):F.of env (.ok a st) k=k a st:=rfl
@[simp]theorem KR (st:aa):F.ak st (some env)= .next env st:=rfl
@[simp]theorem Mw (k:Nat):iz k (some (.lst xs))=some (xs,[(k, .lst xs)]):=rfl
@[simp]theorem Hc (st:aa):itemsOf st (.tup w1_ xs)=some (xs,[]):=rfl
@[simp]theorem Ha (st:aa):itemsOf st (.ref k)=iz k st[k]?:=rfl
@[simp]theorem HI (st:aa):ck st (.tup w1_ xs)=some (xs,[]):=rfl
@[simp]theorem HM (st:aa):ck st (.lst xs)=some (xs,[]):=rfl
@[simp]theorem HW (st:aa):ck st (.dct ks w1_)=some (ks.map iV,[]):=rfl
@[simp]theorem HP (st:aa):ck st (.ref k)=iz k st[k]?:=rfl
@[simp]theorem HQ (st:aa):ck st .non=none:=rfl
@[simp]theorem Im (st:aa):ck st (.bl w1_)=none:=rfl
@[simp]theorem H8 (st:aa):ck st (.int w1_)=none:=rfl
@[simp]theorem HJ (st:aa):ck st (.str w1_)=none:=rfl
@[simp]theorem HN (st:aa):ck st (.obj w1_ w2_ w3_)=none:=rfl
@[simp]theorem LA (st:aa):vj st (some (.lst xs))=newD xs st:=rfl
@[simp]theorem L6 (st:aa):qK st (.tup true xs)=newD xs st:=rfl
@[simp]theorem K8 (st:aa):qK st (.ref k)=vj st st[k]?:=rfl
@[simp]theorem Iv :eO (some x) r=x::r:=rfl
@[simp]theorem JL :gL (.bl b) st= .ok b st:=rfl
@[simp]theorem Mh :ji none st= .ok none st:=rfl
@[simp]theorem K5 :ji (some (.int i)) st= .ok (some i) st:=rfl
@[simp]theorem L5 (P:Pg) (f:Str):jq P f (.obj c ns vs) st=iff (dY P c f=true) (R.ak (eh ns vs f) st):=rfl
@[simp]theorem LG {α:Type}:qc .non r=r:=rfl
@[simp]theorem J8 (P:Pg) (cl:ar) (c:Nat) (xs:List Val) (st:aa):gr P cl c xs st (some (some f))=(cl f (.ref st.length::xs) (st++[.ins c [] []])).bind λv st'=>qc v (fin P st (.ref st.length) st'):=rfl
@[simp]theorem MY {α:Type}:jd true a w1_=a:=rfl
@[simp]theorem MI {α:Type}:jd false w1_ b=b:=rfl
@[simp]theorem KZ :ym (some (xs,c)) (some (ys,d)) st=iff (ys.length<=xs.length) (.ok (fU xs ys,c++d) st):=rfl
@[simp]theorem Io :F.turn (.next env st) k=k env st:=rfl
@[simp]theorem Kq (P:Pg) (k:Nat) (f:Str) (x:Val) (st:aa):pB P k f x st (some (.ins c ns vs))=iff (dY P c f=true/\ns.length<100) (.ok () (st.set k (.ins c (aQ ns vs f x).1 (aQ ns vs f x).2))):=rfl
@[simp]theorem LC (P:Pg) (f:Str) (x:Val):di P f x (.ref k) st=pB P k f x st st[k]?:=rfl
@[simp]theorem JS (k:Nat) (x:Val) (st:aa):mq k x st (some (.lst xs)) (.int j)=(R.ak (i9 xs.length j) st).bind λj st=> .ok () (st.set k (.lst (xs.set j x))):=rfl
@[simp]theorem II (k:Nat) (x:Val) (st:aa):mq k x st (some (.dct ks vs)) i=iff (bA i=true/\ks.length<10000) ((R.ak (putD i x ks vs) st).bind λr st=> .ok () (st.set k (.dct r.1 r.2))):=rfl
@[simp]theorem Ln (i x:Val):dA i x (.ref k) st=mq k x st st[k]? i:=rfl
@[simp]theorem Kh (P:Pg) (st:aa):F.fin P st (.next w1_ st')=PI.fin P st .non st':=rfl
@[simp]theorem KA (P:Pg) (st:aa):F.fin P st (.ret v st')=PI.fin P st v st':=rfl
@[simp]theorem Lk :allB []=some true:=rfl
@[simp]theorem Mq :allB (.bl b::r)=(allB r).map λc=>b&&c:=rfl
@[simp]theorem Mg :anyB (.bl b::r)=(anyB r).map λc=>b||c:=rfl
@[simp]theorem LF (n:String):bM n (.int w1_)=some (n=="int"):=rfl
@[simp]theorem K7 (n:String):bM n (.tup w1_ w2_)=some (n=="tuple"):=rfl
@[simp]theorem LN (n:String):bM n (.lst w1_)=some (n=="list"):=rfl
@[simp]theorem Ms (m:Bm):wa m (.lst w1_)= !bP m:=rfl
@[simp]theorem MH (m:Bm):wa m (.dct w1_ w2_)=bP m:=rfl
@[simp]theorem ML :noX (.ok a st)= .ok a st:=rfl
@[simp]theorem Kd (cl:ar) (f:Nat) (st:aa):pF cl f st (.lst ys)=iff (ys.length<64) ((eS cl f st ys []).bind λks _=>(R.ak (dD ks) st).bind λks st=>iA ys ks st):=rfl
@[simp]theorem JD (P:Pg) (cl:ar):E.run P cl (.const v) w1_ st= .ok v st:=rfl
@[simp]theorem Ku (P:Pg) (cl:ar):E.run P cl (.var i) env st=R.ak ((env[i]?).bind id) st:=rfl
@[simp]theorem Ka (P:Pg) (cl:ar):E.run P cl (.bin op a b) env st=(a.run P cl env st).bind λx st=>(b.run P cl env st).bind λy st=>eJ op (res st x) (res st y) st:=rfl
@[simp]theorem JG (P:Pg) (cl:ar):E.run P cl (.cmp op a b) env st=(a.run P cl env st).bind λx st=>(b.run P cl env st).bind λy st=>cP (bw op (res st x) (res st y) st):=rfl
@[simp]theorem IY (P:Pg) (cl:ar):E.run P cl (.and a b) env st=(a.run P cl env st).bind λx st=>(gL x st).bind λt st=>jd t (b.run P cl env st) (.ok (.bl false) st):=rfl
@[simp]theorem Kt (P:Pg) (cl:ar):E.run P cl (.or a b) env st=(a.run P cl env st).bind λx st=>(gL x st).bind λt st=>jd t (.ok (.bl true) st) (b.run P cl env st):=rfl
@[simp]theorem Kl (P:Pg) (cl:ar):E.run P cl (.not a) env st=(a.run P cl env st).bind λx st=>(gL x st).bind λt st=> .ok (.bl !t) st:=rfl
@[simp]theorem HE (P:Pg) (cl:ar):E.run P cl (.tup es) env st=(aN P cl es env st).bind λxs st=>iff (xs.length<=1000) (.ok (.tup false xs) st):=rfl
@[simp]theorem Ij (P:Pg) (cl:ar):E.run P cl (.lst es) env st=(aN P cl es env st).bind λxs st=>iff (xs.length<=1000) (new (.lst xs) st):=rfl
@[simp]theorem Ik (P:Pg) (cl:ar):E.run P cl (.dct [] []) w1_ st=new (.dct [] []) st:=rfl
@[simp]theorem Ic (P:Pg) (cl:ar):E.run P cl (.fld o f) env st=(o.run P cl env st).bind λx st=>jq P f (res st x) st:=rfl
@[simp]theorem Ib (P:Pg) (cl:ar):E.run P cl (.idx o i) env st=(o.run P cl env st).bind λx st=>(i.run P cl env st).bind λy st=>de (res st x) y st:=rfl
@[simp]theorem Il (P:Pg) (cl:ar):E.run P cl (.slc o lo hi) env st=(o.run P cl env st).bind λx st=>((iD P cl lo env st).bind λa st=>ji a st).bind λa st=>((iD P cl hi env st).bind λb st=>ji b st).bind λb st=>lp (res st x) a b st:=rfl
@[simp]theorem HD (P:Pg) (cl:ar):E.run P cl (.call f es) env st=(aN P cl es env st).bind λxs st=>cl f xs st:=rfl
@[simp]theorem HV (P:Pg) (cl:ar):E.run P cl (.make c es) env st=(aN P cl es env st).bind λxs st=>gr P cl c xs st (((P.cl c)).map (·.init)):=rfl
@[simp]theorem vy (P:Pg) (cl:ar):E.run P cl (.bi b es) env st=(aN P cl es env st).bind λxs st=>qt b (xs.map (res st)) st:=rfl
@[simp]theorem HG (P:Pg) (cl:ar):E.run P cl (.bm m o es) env st=(o.run P cl env st).bind λx st=>iff (wa m (res st x)=true) ((aN P cl es env st).bind λxs st=>jJ m x xs st):=rfl
@[simp]theorem Ia (P:Pg) (cl:ar):E.run P cl (.sortK q f) env st=(q.run P cl env st).bind λx st=>pF cl f st (res st x):=rfl
@[simp]theorem Ip (P:Pg) (cl:ar):E.run P cl (.dOf e) env st=(e.run P cl env st).bind λx st=>qK st x:=rfl
@[simp]theorem Ie (P:Pg) (cl:ar):E.run P cl (.fz e) env st=(e.run P cl env st).bind λv st'=>tY st v st':=rfl
@[simp]theorem yb (P:Pg) (cl:ar):aN P cl [] w1_ st= .ok [] st:=rfl
@[simp]theorem yA (P:Pg) (cl:ar):aN P cl (e::es) env st=(e.run P cl env st).bind λx st=>(aN P cl es env st).bind λxs st=> .ok (x::xs) st:=rfl
@[simp]theorem L1 (P:Pg) (cl:ar):iD P cl none w1_ st= .ok none st:=rfl
@[simp]theorem LJ (P:Pg) (cl:ar):iD P cl (some e) env st=(e.run P cl env st).bind λx st=> .ok (some x) st:=rfl
@[simp]theorem LL (P:Pg) (cl:ar):runC P cl none w1_ st= .ok true st:=rfl
@[simp]theorem Li (P:Pg) (cl:ar):runC P cl (some e) env st=(e.run P cl env st).bind λx st=>R.ak (truth (res st x)) st:=rfl
@[simp]theorem Kr (P:Pg) (cl:ar):Q.run P cl (.val e) env st=(e.run P cl env st).bind λx st=>R.ak (ck st x) st:=rfl
@[simp]theorem IK (P:Pg) (cl:ar):Q.run P cl (.rng1 a) env st=(a.run P cl env st).bind λx st=>uU x st:=rfl
@[simp]theorem KU (P:Pg) (cl:ar):Q.run P cl (.zip a b) env st=(a.run P cl env st).bind λx st=>(b.run P cl env st).bind λy st=>ym (itemsOf st x) (itemsOf st y) st:=rfl
@[simp]theorem LV (f:Val->Val->Option Bool):cy f [] []=some true:=rfl
@[simp]theorem K0 (f:Val->Val->Option Bool):cy f (x::xs) (y::ys)=(f x y).bind λa=>(cy f xs ys).map λb=>a&&b:=rfl
@[simp]theorem LK (v:Val) (env:Env) (i:Nat):T.put v env (.var i)=if i<env.length then some (env.set i (some v)) else none:=by simp only[T.put]
@[simp]theorem Ml (f:Bool) (xs:List Val) (env:Env) (ts:List T):T.put (.tup f xs) env (.tup ts)=bG xs env ts:=by simp only[T.put]
@[simp]theorem Ky (env:Env):bG [] env []=some env:=by simp only[bG]
@[simp]theorem HF (v:Val) (vs:List Val) (env:Env) (t:T) (ts:List T):bG (v::vs) env (t::ts)=(t.put v env).bind λenv=>bG vs env ts:=by simp only[bG]
@[simp]theorem MB (xs:List Val) (i:Int):kz xs i=(i9 xs.length i).bind λj=>xs[j]?:=rfl
@[simp]theorem Me (n:Nat) (i:Int):i9 n i=if 0<=i then (if i<n then some i.toNat else none) else if-(n:Int)<=i then some (i+n).toNat else none:=rfl
@[simp]theorem MR (r:R Bool):cP r=r.bind λb st=> .ok (.bl b) st:=rfl
@[simp]theorem La (d:Nat) (a b:Int):eqv d (.int a) (.int b)=some (a==b):=by cases d<;>rfl
@[simp]theorem LI (d:Nat) (a b:Str):eqv d (.str a) (.str b)=some (decide (a=b)):=by cases d<;>rfl
@[simp]theorem LU (d:Nat) (f g:Bool) (xs ys:List Val):eqv (d+1) (.tup f xs) (.tup g ys)=cy (eqv d) xs ys:=rfl
inductive Gv where
 |fn (i:Nat)|cls (i:Nat) (ini:Bool)|err (i:Nat)|val (v:Val)
structure Dt where
 gl:List (Str×Gv)
 fr:List Str
 fx:List Str
 is:List Str
 ff:List Str
structure Gm where
 N:List Str
 sc:Scope
 fn:Str->Bool
 cm:Bool
def Gm.gl (g:Gm) (x:Str):Bool:=g.sc.names.lookup x==some .globalImplicit
noncomputable def Fq (sc:Scope) (x:Str):Bool:=sc.names.lookup x==some .local||sc.names.lookup x==some .cell||sc.names.lookup x==some .free
noncomputable def uZ (sc:Scope) (x:Str):Bool:=sc.names.lookup x==some .local||sc.names.lookup x==some .cell
def Gm.ix (g:Gm) (x:Str):Option Nat:=if (x==("__debug__":Str))||(x==("__classdict__":Str)) then none else (g.N.idxOf? x).bind λi=>if Fq g.sc x then some i else none
def Gm.lx (g:Gm) (x:Str):Option Nat:=(g.N.idxOf? x).bind λi=>if uZ g.sc x&&(g.fn x||g.sc.names.lookup x==some .local) then some i else none
def Gm.gb (g:Gm) (x:Str):Bool:=g.gl x&& !(x==("__debug__":Str))&& !(x==("__name__":Str))
def Gm.gv (D:Dt) (g:Gm) (x:Str):Option Gv:=if g.gb x then D.gl.lookup x else none
noncomputable def yW (x:Str):Option Bi:=if x="len" then some .len else if x="int" then some .int else if x="tuple" then some .tuple else if x="list" then some .list else if x="all" then some .all else if x="any" then some .any else if x="min" then some .min else none
noncomputable def AF (S sc:Scope):Scope:={sc with names:=sc.names.map λ(n,k)=>if (k== .free&&S.kind== .function&&S.names.lookup n==some .cell) then (n, .cell) else (n,k)}
noncomputable def js:List Str->Bool
 |[]=>true
 |x::r=> !r.contains x&&js r
noncomputable def zd (S sc:Scope):Bool:=(sc.kind== .function)&&(sc.names.all λy=> !(y.2== .local)||sc.names.lookup y.1==some .local)
 &&(sc.names.all λy=> !(y.2== .free)||S.names.lookup y.1==some .cell||S.names.lookup y.1==some .free)&&(sc.names.all λy=> !(y.2== .cell)||sc.names.lookup y.1==some .cell)
noncomputable def qB (sc:Scope):List Str:=(sc.names.filter λy=>(y.2== .local||y.2== .cell)&& !(y.1==(".0":Str))).map (·.1)
noncomputable def gZ (N:List Str) (sc:Scope):List Nat:=(sc.names.filter λy=>y.2== .free).filterMap λy=>N.idxOf? y.1
def Gm.block (g:Gm) (sc:Scope):Option Gm:=let ws:=qB sc;let caps:=gZ g.N sc;let N:=ws++caps.map λi=>g.N.getD i Str.empty
 if zd g.sc sc&&js N&&(caps.all λk=>sc.names.lookup (g.N.getD k Str.empty)==some .free)&&g.cm then some ⟨N,AF g.sc sc,λx=>sc.names.lookup x==some .cell,true⟩ else none
noncomputable def cC:Const->Option E
 | .none=>some (.const .non)
 | .bool b=>some (.const (.bl b))
 | .int i=>some (.const (.int i))
 | .str s=>some (.const (.str s))
 |_=>none
noncomputable def yZ:Operator->Bool
 | .Add=>true
 | .Sub=>true
 | .Mult=>true
 | .FloorDiv=>true
 | .Mod=>true
 | .Pow=>true
 |_=>false
noncomputable def cUn:UnaryOp->E->Option E
 | .Not,a=>some (.not a)
 |_,_=>none
noncomputable def cL {α β:Type} (f:α->Option β):List α->Option (List β)
 |[]=>some []
 |a::r=>(f a).bind λb=>(cL f r).map λr=>b::r
noncomputable def bop:BoolOp->E->E->E
 | .And,x,y=> .and x y
 | .Or,x,y=> .or x y
noncomputable def cBool (op:BoolOp) (f:Expr->Option E):List Expr->Option E
 |[]=>none
 |[a]=>f a
 |a::r=>(f a).bind λx=>(cBool op f r).map λy=>bop op x y
noncomputable def notStar:Expr->Bool
 | .Starred _ _=>false
 |_=>true
noncomputable def et:Expr->Bool
 | .Set _ _ _=>false
 |_=>true
noncomputable def eK:Expr->Bool
 | .Slice _ _ _ _=>false
 |_=>true
noncomputable def dQ:Expr->Bool
 | .ListComp _ _ _ _=>false
 | .SetComp _ _ _ _=>false
 | .DictComp _ _ _ _ _=>false
 |_=>true
noncomputable def dC:Expr->Bool
 | .IfExp _ _ _ _=>false
 |_=>true
noncomputable def ja:Expr->Bool
 | .Call (.Name _ _) [] [] _=>false
 |_=>true
noncomputable def yh (m:Str) (n:Nat):Option Bm:=
 if m="append" then (if n=1 then some .append else none) else if m="extend" then (if n=1 then some .extend else none) else if m="reverse" then (if n=0 then some .reverse else none) else none
noncomputable def jA (m:Str):Bool:=(["append","extend","insert","reverse","clear","get","pop","remove","join","split","isdigit","count","index","keys","values","items","copy","sort"]:List Str).contains m
def Ah (D:Dt) (g:Gm) (x:Str):Option E:=match g.gv D x with
 |some (.val v)=>some (.const v)
 |_=>none
noncomputable def md (x:Str):Option String:=
 if x="bool" then some "bool" else if x="int" then some "int" else if x="str" then some "str" else if x="tuple" then some "tuple" else if x="list" then some "list" else if x="dict" then some "dict" else none
def pQ (D:Dt) (g:Gm) (x:Str) (es:List Expr) (f:Expr->Option E):Option E:=match g.gv D x with
 |some (.fn i)=>if es.all notStar then (cL f es).map λes=> .call i es else none
 |some (.cls c ini)=>if es.all notStar&&(ini== !es.isEmpty) then (cL f es).map λes=> .make c es else none
 |some (.err _)=>none
 |some (.val _)=>none
 |none=>if g.gb x&&D.fr.contains x&&es.all notStar&& !es.isEmpty&&g.cm then (yW x).bind λb=>(cL f es).map λes=> .bi b es else none
def pH (m:Str) (ap pos:Pos) (o:Expr) (es:List Expr) (f:Expr->Option E):Option E:=
 if ja o&&es.all notStar&&(ap.endLine==pos.line)&&decide (es.length<30) then (f o).bind λo=>(cL f es).bind λes=>
  if jA m then (if m="get" then (match es with
   |[k]=>some (.bm .get o [k])
   |[k,d]=>some (.bm .get o [k,d])
   |_=>none) else (yh m es.length).map λb=> .bm b o es) else none else none
noncomputable def ku (g:Gm):Nat->Expr->Option T
 |0,_=>none
 |n+1,e=>match e with
  | .Name x _=>(g.lx x).map .var
  | .Tuple es _ _=>if es.all notStar&&g.cm then (cL (ku g n) es).map .tup else none
  |_=>none
def EL (f:Expr->Option E) (o:Expr):Expr->Option E
 | .Slice lo hi none _=>(f o).bind λo=>match lo,hi with
  |none,none=>some (.slc o none none)
  |some a,none=>(f a).map λa=> .slc o (some a) none
  |none,some b=>(f b).map λb=> .slc o none (some b)
  |some a,some b=>(f a).bind λa=>(f b).map λb=> .slc o (some a) (some b)
 |i=>if eK i then (f o).bind λo=>(f i).map λi=> .idx o i else none
noncomputable def lG (x:Str):Bool:=x==("isinstance":Str)
def As (D:Dt) (g:Gm) (x:Str) (f:Expr->Option E):List Expr->Option E
 |[a, .Name y _]=>if notStar a&&g.gb x&&D.fr.contains x&&g.gb y&&D.fr.contains y then (md y).bind λn=>(f a).map λa=> .bi (.bM n) [a] else none
 |_=>none
noncomputable def isSort (x:Str):Bool:=x==("sorted":Str)
def uJ (D:Dt) (g:Gm) (x:Str) (f:Expr->Option E) (es:List Expr) (ks:List Keyword):Option E:=match es,ks with
 |[a],[⟨some kn, .Name y _,_⟩]=>if isSort x&&(kn==("key":Str))&&notStar a&&g.gb x&&D.fr.contains x&&g.cm then (match g.gv D y with
  |some (.fn i)=>(f a).map λa=> .sortK a i
  |_=>none) else none
 |_,_=>none
def u4 (D:Dt) (g:Gm) (x:Str) (f:Expr->Option E) (es:List Expr) (ks:List Keyword):Option E:=match es,ks with
 |[a],[⟨some kn, .Constant .none _ _,_⟩]=>if (x==("min":Str))&&(kn==("default":Str))&&notStar a&&g.gb x&&D.fr.contains x&&g.cm then (f a).map λa=> .bi .minD [a] else none
 |es,ks=>uJ D g x f es ks
noncomputable def rj (x:Str):Bool:=x==("dict":Str)
def Ay (D:Dt) (g:Gm) (x:Str) (f:Expr->Option E):List Expr->Option E
 |[a]=>if notStar a&&g.gb x&&D.fr.contains x&&g.cm then (f a).map .dOf else none
 |_=>none
noncomputable def jZ (x:Str):Bool:=x==("range":Str)
noncomputable def rU:List Comprehension->Option Comprehension
 |[c]=>some c
 |_=>none
def zP (f:Expr->Option E):List Expr->Option (Option E)
 |[]=>some none
 |[c]=>if dC c then (f c).map some else none
 |_=>none
def EF (D:Dt) (g:Gm) (x:Str) (f:Expr->Option E):List Expr->Option Q
 |[a]=>if g.gb x&&D.fr.contains x&&notStar a then (f a).map .rng1 else none
 |_=>none
noncomputable def pO (x:Str):Bool:=x==("zip":Str)
def Ey (D:Dt) (g:Gm) (x:Str) (f:Expr->Option E):List Expr->Option Q
 |[a,b]=>if g.gb x&&D.fr.contains x&&notStar a&&notStar b then (f a).bind λa=>(f b).map λb=> .zip a b else none
 |_=>none
noncomputable def Hm:Q->Bool
 | .enm _=>true
 | .zip _ _=>true
 |_=>false
noncomputable def isTup:Expr->Bool
 | .Tuple _ _ _=>true
 |_=>false
def s8 (q:Q) (tg:Expr):Bool:= !Hm q||isTup tg
mutual
noncomputable def cE (D:Dt):Nat->Gm->Expr->Option E
 |0,_,_=>none
 |n+1,g,e=>match e with
  | .Constant c _ _=>cC c
  | .Name x _=>match g.ix x with
   |some i=>some (.var i)
   |none=>Ah D g x
  | .Dict [] [] _=>some (.dct [] [])
  | .Call (.Attribute o m ap) es [] pos=>if g.cm||jA m then pH m ap pos o es (cE D n g) else none
  | .BinOp a op b _=>if yZ op then (cE D n g a).bind λa=>(cE D n g b).map λb=> .bin op a b else none
  | .UnaryOp op a _=>if dC a then (cE D n g a).bind λa=>cUn op a else none
  | .BoolOp op vs _=>if vs.all dC then cBool op (cE D n g) vs else none
  | .Compare a [op] [b] _=>if et b then (cE D n g a).bind λa=>(cE D n g b).map λb=> .cmp op a b else none
  | .Tuple es _ _=>if es.all notStar then (cL (cE D n g) es).map .tup else none
  | .List es _=>if es.all notStar then (cL (cE D n g) es).map .lst else none
  | .Attribute o f _=>if ja o&&D.fx.contains f then (cE D n g o).map λo=> .fld o f else none
  | .Subscript o i _=>EL (cE D n g) o i
  | .Call (.Name x _) es [] _=>if lG x then As D g x (cE D n g) es else if rj x then Ay D g x (cE D n g) es else if g.cm then pQ D g x es (cE D n g) else none
  | .Call (.Name x _) es (k::ks) _=>u4 D g x (cE D n g) es (k::ks)
  | .ListComp elt gens sc _=>(rU gens).bind λc=>if c.is_async==0&&et c.iter then (g.block sc).bind λh=>(cQ D n g c.iter).bind λq=>(if s8 q c.target then ku h n c.target else none).bind λt=>(cE D n h elt).bind λe=>(zP (cE D n h) c.ifs).map λc=> .comp (qB sc).length (gZ g.N sc) t q c e else none
  |_=>none
noncomputable def cQ (D:Dt):Nat->Gm->Expr->Option Q
 |0,_,_=>none
 |n+1,g,e=>match e with
  | .Call (.Name x _) es [] _=>if jZ x then EF D g x (cE D n g) es else if pO x then Ey D g x (cE D n g) es else (cE D n g e).map .val
  |_=>(cE D n g e).map .val
end
noncomputable def xo:Expr->Bool
 | .Tuple _ _ _=>false
 |_=>true
noncomputable def Eg:Bool->E->E
 |true,e=> .fz e
 |false,e=>e
mutual
noncomputable def cS (D:Dt):Nat->Gm->Stmt->Option S
 |0,_,_=>none
 |n+1,g,s=>match s with
  | .Return none _=>some .retN
  | .Return (some e) _=>(cE D n g e).map .ret
  | .Assign [.Name x _] e _=>(g.lx x).bind λi=>(cE D n g e).map λe=> .set (.var i) e
  | .Assign [.Subscript o i _] e _=>if eK i&&dQ e then (cE D n g o).bind λo=>(cE D n g i).bind λi=>(cE D n g e).map λe=> .dA o i e else none
  | .Assign [.Attribute o f _] e _=>if dQ e&&D.fx.contains f then (cE D n g o).bind λo=>(cE D n g e).map λe=> .di o f (Eg (D.ff.contains f) e) else none
  | .Assign [.Tuple es k p] e _=>if xo e then (ku g n (.Tuple es k p)).bind λt=>(cE D n g e).map λe=> .set t e else none
  | .Raise _ _ _=>some (.augI (.const .non) (.const .non) .Add (.const .non))
  | .Expr e _=>if dQ e then (cE D n g e).map .expr else none
  | .If c a b _=>if dC c then (cE D n g c).bind λc=>(jy D n g a).bind λa=>(jy D n g b).map λb=> .ife c a b else none
  | .For tg it b [] _=>if et it&&g.cm then (cQ D n g it).bind λq=>(if s8 q tg then ku g n tg else none).bind λt=>(jy D n g b).map λb=> .for t q b else none
  |_=>none
noncomputable def jy (D:Dt):Nat->Gm->List Stmt->Option (List S)
 |0,_,_=>none
 |n+1,g,ss=>match ss with
  |[]=>some []
  |s::r=>(cS D n g s).bind λs=>(jy D n g r).map λr=>s::r
end
noncomputable def jr (ps:List Str) (sc:Scope):List Str:=ps++(sc.names.filter λy=>(y.2== .local||y.2== .cell)&& !ps.contains y.1).map (·.1)
def tq (D:Dt) (ps:List Str) (sc:Scope) (body:List Stmt):Option Fn:=let N:=jr ps sc
 (jy D 400 ⟨N,sc,λ_=>true,true⟩ body).map λb=>⟨ps.length,N.length,b⟩
end PI
namespace PI
open PySem L2 L2.L3
noncomputable def bO:Val->Option Key
 | .int i=>some (.inl i)
 | .str x=>some (.inr x)
 |_=>none
noncomputable def aG:List Val->Option (List Key)
 |[]=>some []
 |v::r=>(bO v).bind λk=>(aG r).map λr=>k::r
def cJ:Val->Option (List Key)
 | .tup _ xs=>aG xs
 |_=>none
noncomputable def aW:List Val->Option (List (List Key))
 |[]=>some []
 |v::r=>(cJ v).bind λk=>(aW r).map λr=>k::r
def fh (H:Hp) (a:Addr) (ks:List Val) (us:List L2.V):Prop:=
 (∃kk,aG ks=some kk/\kk.length=us.length/\Rd H a (.dK (kk.zip us)))∨(∃kk,aW ks=some kk/\kk.length=us.length/\Rd H a (.dT (kk.zip us)))
def uD (H:Hp) (a:Addr) (ks:List Val) (us:List L2.V):Prop:=
 (∃kk,aG ks=some kk/\kk.length=us.length/\H a=some (.dK (kk.zip us)))∨(∃kk,aW ks=some kk/\kk.length=us.length/\H a=some (.dT (kk.zip us)))
theorem uD.at {H:Hp} {a:Addr} (h:uD H a ks us):fh H a ks us:=h.imp (λz900=>by let⟨k,e,n,r⟩:=z900;exact⟨k,e,n, .inl r⟩) λz900=>by let⟨k,e,n,r⟩:=z900;exact⟨k,e,n, .inl r⟩
structure CT where
 K:PySem.W.Frag
 ca:Nat->Addr
 xc:Nat->Bool
def TupAt (G:Hp) (a:Addr) (f:Bool) (us:List L2.V):Prop:=cond f (∃o:Obj,G a=some (.aB o (.tup us))/\o.dict=none) (G a=some (.tup us))
mutual
noncomputable def Rel (T:CT) (as:List Addr) (G:Hp):Val->L2.V->Prop
 | .non,u=>u= .non
 | .bl b,u=>u= .bl b
 | .int i,u=>u= .int i
 | .str x,u=>u= .str x
 | .tup f xs,u=>∃a us,u= .ref a/\TupAt G a f us/\ae T as G xs us
 | .lst xs,u=>∃a us,u= .ref a/\bF T.K G a us/\ae T as G xs us
 | .dct ks vs,u=>∃a us,u= .ref a/\fh G a ks us/\ae T as G vs us
 | .obj c ns vs,u=>∃a us,u= .ref a/\ns.length=us.length/\ae T as G vs us/\
   if T.xc c=true then∃dx,G a=some (.ext (AJ a (T.ca c) dx))/\((dx=none/\ns=[])∨∃d,dx=some d/\G d=some (.xd (ns.zip us)))
   else∃dx,G a=some (.ins (T.ca c) dx (ns.zip us))
 | .ref n,u=>∃a,as[n]?=some a/\u= .ref a
noncomputable def ae (T:CT) (as:List Addr) (G:Hp):List Val->List L2.V->Prop
 |[],us=>us=[]
 |v::r,us=>∃u t,us=u::t/\Rel T as G v u/\ae T as G r t
end
noncomputable def E6:HO->Bool
 | .dK _=>true
 | .dT _=>true
 |_=>false
def Le (G H:Hp):Prop:=∀a o,G a=some o->H a=some o∨(E6 o=true/\∃ob,H a=some (.aB ob o))
theorem Le.ex {G H:Hp} (l:Le G H) {a:Addr} {o:HO} (e:G a=some o) (n:E6 o=false):H a=some o:=(l a o e).elim id λz=>by rw[n] at z;cases z.1
theorem Le.refl (G:Hp):Le G G:=λ_ _ e=> .inl e
theorem Le.trans {A B C:Hp} (x:Le A B) (y:Le B C):Le A C:=λa o e=>by
 rcases x a o e with q|⟨q,ob,z⟩
 ·exact y a o q
 ·exact .inr ⟨q,ob,y.ex z rfl⟩
theorem Le.new {G:Hp} {a:Addr} {o:HO} (h:G a=none):Le G (upd G a o):=λb u e=>by
 rw[aq (bj e h)];exact .inl e
theorem Rd.le {G H:Hp} {a:Addr} {o:HO} (l:Le G H) (h:Rd G a o):Rd H a o:=h.elim (λe=>(l _ _ e).imp id λz=>z.2) λz900=>by let⟨u,e⟩:=z900;exact .inr ⟨u,l.ex e rfl⟩
theorem mN {G H:Hp} {a:Addr} {f:Bool} (l:Le G H) (h:TupAt G a f xs):TupAt H a f xs:=by
 cases f
 ·exact l.ex h rfl
 ·exact h.imp λo q=>⟨l.ex q.1 rfl,q.2⟩
theorem rP {K:PySem.W.Frag} {G:Hp} {a:Addr} {f:Bool} (h:TupAt G a f xs):cF K G a xs:=by
 cases f
 ·exact .inl (.inl h)
 ·let⟨o,e,_⟩:=h;exact .inl (.inr ⟨o,e⟩)
theorem ba {K:PySem.W.Frag} {G H:Hp} {a:Addr} {f:Bool} (l:Le G H) (h:TupAt G a f xs):cF K H a xs:=rP (mN l h)
theorem Av {K:PySem.W.Frag} {G H:Hp} {a:Addr} (l:Le G H) (h:cF K G a xs):cF K H a xs:=h.imp (Rd.le l) id
theorem bV {K:PySem.W.Frag} {G H:Hp} {a:Addr} (l:Le G H) (h:bF K G a xs):bF K H a xs:=h.imp (Rd.le l) id
theorem qp {G H:Hp} {a:Addr} (l:Le G H) (h:fh G a ks us):fh H a ks us:=
 h.imp (λz900=>by let⟨k,e,n,r⟩:=z900;exact⟨k,e,n,Rd.le l r⟩) λz900=>by let⟨k,e,n,r⟩:=z900;exact⟨k,e,n,Rd.le l r⟩
theorem j0 {bs:List Addr} (p:as<+:bs) {n:Nat} {a:Addr} (h:as[n]?=some a):bs[n]?=some a:=by
 let⟨t,rfl⟩:=p;rw[aal (aae.mp h).1];exact h
mutual
theorem Rel.mono {T:CT} {as bs:List Addr} {G H:Hp} (p:as<+:bs) (l:Le G H):∀{v:Val} {u:L2.V},Rel T as G v u->Rel T bs H v u
 | .non,_,h=>h
 | .bl _,_,h=>h
 | .int _,_,h=>h
 | .str _,_,h=>h
 | .tup _ _,_,⟨a,us,e,q,r⟩=>⟨a,us,e,mN l q,ae.mono p l r⟩
 | .lst _,_,⟨a,us,e,q,r⟩=>⟨a,us,e,bV l q,ae.mono p l r⟩
 | .dct _ _,_,⟨a,us,e,q,r⟩=>⟨a,us,e,qp l q,ae.mono p l r⟩
 | .obj c ns vs,_,⟨a,us,e,n,r,q⟩=>⟨a,us,e,n,ae.mono p l r,by
  split at q
  ·rename_i h;rw[if_pos h];let⟨dx,q1,q2⟩:=q;exact⟨dx,l.ex q1 rfl,q2.imp id λz=>z.elim λd w=>⟨d,w.1,l.ex w.2 rfl⟩⟩
  ·rename_i h;rw[if_neg h]
   exact q.imp λdx q=>l.ex q rfl⟩
 | .ref _,_,⟨a,e,q⟩=>⟨a,j0 p e,q⟩
theorem ae.mono {T:CT} {as bs:List Addr} {G H:Hp} (p:as<+:bs) (l:Le G H):∀{vs:List Val} {us:List L2.V},ae T as G vs us->ae T bs H vs us
 |[],_,h=>h
 |_::_,_,⟨u,t,e,h,r⟩=>⟨u,t,e,Rel.mono p l h,ae.mono p l r⟩
end
def eE (T:CT) (as:List Addr) (G H:Hp) (a:Addr):Ob->Prop
 | .lst xs=>∃us,H a=some (.lst us)/\ae T as G xs us
 | .dct ks vs=>∃us,uD H a ks us/\ae T as G vs us
 | .ins c ns vs=>∃dx us,T.xc c=false/\H a=some (.ins (T.ca c) dx (ns.zip us))/\ns.length=us.length/\ae T as G vs us
structure Sim (T:CT) (st:aa) (as:List Addr) (G H:Hp):Prop where
 len:as.length=st.length
 nd:as.Nodup
 sub:Le G H
 off:∀a∈as,G a=none
 ob:∀(n:Nat) o a,st[n]?=some o->as[n]?=some a->eE T as G H a o
abbrev XS:=St->XK
def Dd (T:CT) (as:List Addr) (G:Hp) (x:Exn) (cls:Value) (dx:Option Addr):Prop:=
 cls= .ref (T.ca x.c)/\T.xc x.c=true/\((dx=none/\x.ns=[]/\x.vs=[])∨∃d us,dx=some d/\G d=some (.xd (x.ns.zip us))/\x.ns.length=us.length/\ae T as G x.vs us)
def aH (T:CT) (as:List Addr) (G:Hp) (env:Env) (σ:St):Prop:=env.length=σ.length/\∀(i:Nat) v,env[i]?=some (some v)->∃u,σ[i]?=some (some u)/\Rel T as G v u
theorem aH.mono {T:CT} {bs:List Addr} {G H:Hp} {env:Env} {σ:St} (p:as<+:bs) (l:Le G H) (h:aH T as G env σ):aH T bs H env σ:=
 ⟨h.1,λi v e=>(h.2 i v e).imp λu q=>⟨q.1,q.2.mono p l⟩⟩
def ab {α:Type} (T:CT) (as:List Addr) (G:Hp) (r:R α) (Q:α->aa->List Addr->Hp->Hp->Prop) (X:XK):Prop:=match r with
 | .ok a st=>∀as' G' H',as<+:as'->Le G G'->Sim T st as' G' H'->Q a st as' G' H'
 | .exc x st=>∀as' G' H' cls dx,as<+:as'->Le G G'->Sim T st as' G' H'->Dd T as' G' x cls dx->X cls dx H'
 | .stuck=>False
theorem ab.mono {α:Type} {T:CT} {bs:List Addr} {G G2:Hp} {r:R α} {Q:α->aa->List Addr->Hp->Hp->Prop} {X:XK} (p:as<+:bs) (l:Le G G2) (h:ab T as G r Q X):ab T bs G2 r Q X:=by
 cases r with
 |ok a st=>exact λas' G' H' p' l' s=>h as' G' H' (p.trans p') (l.trans l') s
 |exc x st=>exact λas' G' H' cls dx p' l' s e=>h as' G' H' cls dx (p.trans p') (l.trans l') s e
 |stuck=>exact h
theorem ab.bind {α β:Type} {T:CT} {as:List Addr} {G:Hp} {r:R α} {f:α->aa->R β} {Q:β->aa->List Addr->Hp->Hp->Prop} {X:XK} (h:ab T as G (r.bind f) Q X):
  ab T as G r (λa st as' G' _=>ab T as' G' (f a st) Q X) X:=by
 cases r with
 |ok a st=>exact λas' G' H' p l s=>ab.mono p l h
 |exc x st=>exact h
 |stuck=>exact h
theorem ab.imp {α:Type} {T:CT} {as:List Addr} {G:Hp} {r:R α} {Q Q':α->aa->List Addr->Hp->Hp->Prop} {X:XK} (h:ab T as G r Q X)
  (k:∀a st as' G' H',as<+:as'->Le G G'->Sim T st as' G' H'->Q a st as' G' H'->Q' a st as' G' H'):ab T as G r Q' X:=by
 cases r with
 |ok a st=>exact λas' G' H' p l s=>k a st as' G' H' p l s (h as' G' H' p l s)
 |exc x st=>exact h
 |stuck=>exact h
theorem ab.ok {α:Type} {T:CT} {G H:Hp} {a:α} {st:aa} {Q:α->aa->List Addr->Hp->Hp->Prop} {X:XK} (h:ab T as G (.ok a st) Q X) (s:Sim T st as G H):Q a st as G H:=
 h as G H (aai _) (Le.refl _) s
def cY (T:CT) (as:List Addr) (G H:Hp):Val->L2.V->Prop
 | .tup f xs,u=>∃a us,u= .ref a/\TupAt G a f us/\ae T as G xs us
 | .lst xs,u=>∃a us,u= .ref a/\bF T.K H a us/\ae T as G xs us
 | .dct ks vs,u=>∃a us,u= .ref a/\fh H a ks us/\ae T as G vs us
 | .obj c ns vs,u=>∃a us,u= .ref a/\ns.length=us.length/\ae T as G vs us/\
   if T.xc c=true then∃dx,H a=some (.ext (AJ a (T.ca c) dx))/\((dx=none/\ns=[])∨∃d,dx=some d/\H d=some (.xd (ns.zip us)))
   else∃dx,H a=some (.ins (T.ca c) dx (ns.zip us))
 | .non,u=>u= .non
 | .bl b,u=>u= .bl b
 | .int i,u=>u= .int i
 | .str x,u=>u= .str x
 | .ref _,_=>False
theorem Rel.top {T:CT} {G H:Hp} (l:Le G H):∀{v:Val} {u:L2.V},isRef v=none->Rel T as G v u->cY T as G H v u
 | .non,_,_,h=>h
 | .bl _,_,_,h=>h
 | .int _,_,_,h=>h
 | .str _,_,_,h=>h
 | .tup _ _,_,_,h=>h
 | .lst _,_,_,⟨a,us,e,q,r⟩=>⟨a,us,e,bV l q,r⟩
 | .dct _ _,_,_,⟨a,us,e,q,r⟩=>⟨a,us,e,qp l q,r⟩
 | .obj c ns vs,_,_,⟨a,us,e,n,r,q⟩=>⟨a,us,e,n,r,by
  split at q
  ·rename_i h;rw[if_pos h];let⟨dx,q1,q2⟩:=q;exact⟨dx,l.ex q1 rfl,q2.imp id λz=>z.elim λd w=>⟨d,w.1,l.ex w.2 rfl⟩⟩
  ·rename_i h;rw[if_neg h]
   exact q.imp λdx q=>l.ex q rfl⟩
 | .ref _,_,h,_=>by cases h
theorem aV {T:CT} {st:aa} {G H:Hp} (s:Sim T st as G H) {v:Val} {u:L2.V} (h:Rel T as G v u):cY T as G H (res st v) u:=by
 cases v with
 |ref k=>
  let⟨a,e,rfl⟩:=h;have hk:k<as.length:=(aae.mp e).1;rw[s.len] at hk;have ho:st[k]?=some st[k]:=aac hk;have ob:=s.ob k _ a ho e;show cY T as G H (k8 k st[k]?) _;rw[ho]
  cases q:st[k] with
  |lst xs=>
   rw[q] at ob;let⟨us,h1,h2⟩:=ob;exact⟨a,us,rfl, .inl (.inl h1),h2⟩
  |dct ks vs=>
   rw[q] at ob;let⟨us,h1,h2⟩:=ob;exact⟨a,us,rfl,h1.at,h2⟩
  |ins c ns vs=>
   rw[q] at ob;let⟨dx,us,x0,h1,h2,h3⟩:=ob;exact⟨a,us,rfl,h2,h3,by rw[if_neg (by rw[x0];decide)];exact⟨dx,h1⟩⟩
 |non=>exact h
 |bl b=>exact h
 |int i=>exact h
 |str x=>exact h
 |tup xs=>exact Rel.top s.sub rfl h
 |lst xs=>exact Rel.top s.sub rfl h
 |dct ks vs=>exact Rel.top s.sub rfl h
 |obj c ns vs=>exact Rel.top s.sub rfl h
theorem pK {α:Type} {l:List α} (h:l.Nodup) {i j:Nat} {x:α} (a:l[i]?=some x) (b:l[j]?=some x):i=j:=by
 let⟨l1,e1⟩:=aae.mp a;let⟨l2,e2⟩:=aae.mp b;have q:=List.pairwise_iff_getElem.mp h
 rcases Nat.lt_trichotomy i j with z|z|z
 ·exact absurd (e1.trans e2.symm) (q i j l1 l2 z)
 ·exact z
 ·exact absurd (e2.trans e1.symm) (q j i l2 l1 z)
theorem eE.live {T:CT} {G H:Hp} {a:Addr} {o:Ob} (h:eE T as G H a o):H a≠none:=by
 intro z
 cases o with
 |lst xs=>
  let⟨us,e,_⟩:=h;rw[z] at e;cases e
 |dct ks vs=>
  let⟨us,e,_⟩:=h
  rcases e with⟨_,_,_,e⟩|⟨_,_,_,e⟩<;>(rw[z] at e;cases e)
 |ins c ns vs=>
  let⟨dx,us,_,e,_⟩:=h;rw[z] at e;cases e
theorem eE.at {T:CT} {G H H':Hp} {a:Addr} {o:Ob} (e:H' a=H a) (h:eE T as G H a o):eE T as G H' a o:=by
 cases o with
 |lst xs=>
  let⟨us,q,r⟩:=h;exact⟨us,e.trans q,r⟩
 |dct ks vs=>
  let⟨us,q,r⟩:=h;refine⟨us, ?_,r⟩;unfold uD at q⊢;rw[e];exact q
 |ins c ns vs=>
  let⟨dx,us,x,q,r⟩:=h;exact⟨dx,us,x,e.trans q,r⟩
theorem eE.mono {T:CT} {bs:List Addr} {G G' H:Hp} {a:Addr} {o:Ob} (p:as<+:bs) (l:Le G G') (h:eE T as G H a o):eE T bs G' H a o:=by
 cases o with
 |lst xs=>
  let⟨us,q,r⟩:=h;exact⟨us,q,r.mono p l⟩
 |dct ks vs=>
  let⟨us,q,r⟩:=h;exact⟨us,q,r.mono p l⟩
 |ins c ns vs=>
  let⟨dx,us,x,q,n,r⟩:=h;exact⟨dx,us,x,q,n,r.mono p l⟩
theorem Sim.live {T:CT} {st:aa} {G H:Hp} (s:Sim T st as G H) {a:Addr} (h:a∈as):H a≠none:=by
 let⟨n,hn⟩:=abu.mp h;have hk:n<as.length:=(aae.mp hn).1;rw[s.len] at hk;exact(s.ob n _ a (aac hk) hn).live
theorem Sim.fresh {T:CT} {st:aa} {G H:Hp} (s:Sim T st as G H) {p:Addr} (hp:H p=none):p∉as/\G p=none:=by
 refine⟨λh=>s.live h hp, ?_⟩
 cases e:G p with
 |none=>rfl
 |some o=>
  rcases s.sub p o e with z|⟨_,ob,z⟩<;>(rw[z] at hp;cases hp)
theorem Le.up {G H:Hp} {p:Addr} {o:HO} (l:Le G H) (hp:G p=none):Le G (upd H p o):=λb u e=>by
 rw[aq (bj e hp)];exact l b u e
theorem Sim.ux {T:CT} {st:aa} {G H:Hp} (s:Sim T st as G H) {p:Addr} {u:HO} (hp:H p=none):Sim T st as (upd G p u) (upd H p u):=by
 let⟨n1,n2⟩:=s.fresh hp;refine⟨s.len,s.nd,λb o e=> ?_,λa ha=> ?_,λn o a h1 h2=> ?_⟩
 ·by_cases hb:b=p
  ·subst hb;rw[ao] at e⊢;exact .inl e
  ·rw[aq hb] at e⊢;exact s.sub b o e
 ·rw[aq (show a≠p from λz=>n1 (by rw[←z];exact ha))];exact s.off a ha
 ·refine((s.ob n o a h1 h2).at (aq λz=>n1 ?_)).mono (aai _) (Le.new n2);rw[←z];exact aas h2
theorem Sim.push {T:CT} {st:aa} {G H:Hp} (s:Sim T st as G H) {p:Addr} {u:HO} {o:Ob} (hp:H p=none) (hu:eE T (as++[p]) G (upd H p u) p o):Sim T (st++[o]) (as++[p]) G (upd H p u):=by
 let⟨n1,n2⟩:=s.fresh hp;refine⟨by simp[s.len], ?_,s.sub.up n2,λa ha=> ?_,λn o' a h1 h2=> ?_⟩
 ·rw[abN];refine⟨s.nd,by simp,λa ha b hb=> ?_⟩;rw[aaL.mp hb];exact λz=>n1 (z▸ha)
 ·rcases aaD.mp ha with h|h
  ·exact s.off a h
  ·rw[aaL.mp h];exact n2
 ·by_cases hn:n<st.length
  ·rw[aal hn] at h1;rw[aal (by rw[s.len];exact hn)] at h2;refine((s.ob n o' a h1 h2).at (aq λz=>n1 ?_)).mono (aat _ _) (Le.refl _);rw[←z];exact aas h2
  ·have z:n=st.length:=by
    have:=(aae.mp h1).1;simp at this;lia
   subst z;rw[aan (aag _)] at h1;rw[←s.len,aan (aag _)] at h2;simp at h1 h2;subst h1 h2;exact hu
theorem Sim.set {T:CT} {st:aa} {G H:Hp} (s:Sim T st as G H) {n:Nat} {a:Addr} {u:HO} {o:Ob} (ha:as[n]?=some a) (hu:eE T as G (upd H a u) a o):Sim T (st.set n o) as G (upd H a u):=by
 have ma:a∈as:=aas ha;refine⟨by simp[s.len],s.nd,s.sub.up (s.off a ma),s.off,λm o' b h1 h2=> ?_⟩
 by_cases hm:m=n
 ·subst hm;rw[ha] at h2;cases h2
  have hl:m<st.length:=by rw[←s.len];exact(aae.mp ha).1
  rw[abm hl] at h1;cases h1;exact hu
 ·rw[abg (λz=>hm z.symm)] at h1;refine(s.ob m o' b h1 h2).at (aq λz=>hm ?_);subst z;let⟨l1,e1⟩:=aae.mp h2;let⟨l2,e2⟩:=aae.mp ha;exact pK s.nd h2 ha
theorem Sim.C8 {T:CT} {st:aa} {G H:Hp} {a:Addr} {u:HO} (s:Sim T st as G H) (q:Rd G a u) (hd:E6 u=true) (ho:H a=some u∨H a=some (.aB o u)):
  Sim T st as (upd G a (.aB o u)) (upd H a (.aB o u))/\Le G (upd G a (.aB o u)):=by
 have l:Le G (upd G a (.aB o u)):=λb v e=>by
  by_cases hb:b=a
  ·subst hb;rw[ao]
   rcases q with q|⟨o',q⟩
   ·rw[e] at q;cases q;exact .inr ⟨hd,o,rfl⟩
   ·rw[e] at q;cases q;have z:=s.sub.ex e rfl
    rcases ho with ho|ho
    ·rw[ho] at z;rw[Option.some.inj z] at hd;cases hd
    ·rw[ho] at z;exact .inl (by rw[z])
  ·rw[aq hb];exact .inl e
 have na:∀{b},b∈as->b≠a:=λhb z=>by
  subst z;have:=s.off _ hb
  rcases q with q|⟨o',q⟩<;>(rw[q] at this;cases this)
 refine⟨⟨s.len,s.nd,λb v e=> ?_,λb hb=> ?_,λn ob b h1 h2=> ?_⟩,l⟩
 ·by_cases hb:b=a
  ·subst hb;rw[ao] at e⊢;exact .inl e
  ·rw[aq hb] at e⊢;exact s.sub b v e
 ·rw[aq (na hb)];exact s.off b hb
 ·exact((s.ob n ob b h1 h2).at (aq (na (aas h2)))).mono (aai _) l
theorem Sim.GH {T:CT} {st:aa} {G H:Hp} {c:Addr} (s:Sim T st as G H) (e:H c=some (.tup us)):Sim T st as (upd G c (.tup us)) H/\Le G (upd G c (.tup us)):=by
 have nc:∀{b},b∈as->b≠c:=λhb z=>by
  subst z;let⟨n,hn⟩:=abu.mp hb;have hk:n<as.length:=(aae.mp hn).1;rw[s.len] at hk;have ob:=s.ob n _ _ (aac hk) hn
  cases q:st[n] with
  |lst xs=>
   rw[q] at ob;let⟨_,z,_⟩:=ob;rw[e] at z;cases z
  |dct ks vs=>
   rw[q] at ob;let⟨_,z,_⟩:=ob
   rcases z with⟨_,_,_,z⟩|⟨_,_,_,z⟩<;>(rw[e] at z;cases z)
  |ins c ns vs=>
   rw[q] at ob;let⟨_,_,_,z,_⟩:=ob;rw[e] at z;cases z
 have l:Le G (upd G c (.tup us)):=λb v h=>by
  by_cases hb:b=c
  ·subst hb;rw[ao]
   rcases s.sub _ _ h with z|⟨_,_,z⟩
   ·rw[e] at z;exact .inl z
   ·rw[e] at z;cases z
  ·rw[aq hb];exact .inl h
 refine⟨⟨s.len,s.nd,λb v h=> ?_,λb hb=> ?_,λn ob b h1 h2=>(s.ob n ob b h1 h2).mono (aai _) l⟩,l⟩
 ·by_cases hb:b=c
  ·subst hb;rw[ao] at h;exact .inl (e.trans h)
  ·rw[aq hb] at h;exact s.sub b v h
 ·rw[aq (nc hb)];exact s.off b hb
theorem mI {α β:Type} {x:Option α} {y:Option (List α)} {c:List α} (h:(x.bind λa=>y.map λb=>a::b)=some c):∃a b,x=some a/\y=some b/\c=a::b:=by
 let⟨a,e1,e2⟩:=aap.mp h;let⟨b,e3,e4⟩:=aab.mp e2;exact⟨a,b,e1,e3,e4.symm⟩
theorem jn:∀{ks:List Val} {kk:List Key},aG ks=some kk->kk.length=ks.length
 |[],kk,h=>by cases h;rfl
 |v::ks,kk,h=>by
  let⟨a,b,_,e2,rfl⟩:=mI (β:=Nat) (show ((bO v).bind λk=>(aG ks).map λr=>k::r)=some kk from h);simp[jn e2]
theorem jR:∀{ks:List Val} {kk:List (List Key)},aW ks=some kk->kk.length=ks.length
 |[],kk,h=>by cases h;rfl
 |v::ks,kk,h=>by
  let⟨a,b,_,e2,rfl⟩:=mI (β:=Nat) (show ((cJ v).bind λk=>(aW ks).map λr=>k::r)=some kk from h);simp[jR e2]
theorem oC:∀{ks:List Val} {kk:List Key} {i:Nat} {v:Val},aG ks=some kk->ks[i]?=some v->∃k,kk[i]?=some k/\bO v=some k
 |[],kk,i,v,_,e=>by simp at e
 |w::ks,kk,i,v,h,e=>by
  let⟨a,b,e1,e2,rfl⟩:=mI (β:=Nat) (show ((bO w).bind λk=>(aG ks).map λr=>k::r)=some kk from h)
  cases i with
  |zero=>
   simp at e;subst e;exact⟨a,rfl,e1⟩
  |succ i=>
   let⟨k,h1,h2⟩:=oC (i:=i) e2 (by simpa using e);exact⟨k,by simpa using h1,h2⟩
theorem nO:∀{ks:List Val} {kk:List (List Key)} {i:Nat} {v:Val},aW ks=some kk->ks[i]?=some v->∃k,kk[i]?=some k/\cJ v=some k
 |[],kk,i,v,_,e=>by simp at e
 |w::ks,kk,i,v,h,e=>by
  let⟨a,b,e1,e2,rfl⟩:=mI (β:=Nat) (show ((cJ w).bind λk=>(aW ks).map λr=>k::r)=some kk from h)
  cases i with
  |zero=>
   simp at e;subst e;exact⟨a,rfl,e1⟩
  |succ i=>
   let⟨k,h1,h2⟩:=nO (i:=i) e2 (by simpa using e);exact⟨k,by simpa using h1,h2⟩
theorem pV {T:CT} {G:Hp} {v:Val} {k:Key} (h:bO v=some k):Rel T as G v (kV k):=by
 cases v<;>first
  |(cases h;exact rfl)
  |cases h
theorem Ff {v:Val} {k:Key} (h:bO v=some k):iV v=v:=by
 cases v<;>first
  |rfl
  |cases h
theorem lT {T:CT} {G:Hp}:∀{xs:List Val} {kk:List Key},aG xs=some kk->ae T as G xs (kk.map kV)
 |[],kk,h=>by cases h;exact rfl
 |v::xs,kk,h=>by
  let⟨a,b,e1,e2,rfl⟩:=mI (β:=Nat) (show ((bO v).bind λk=>(aG xs).map λr=>k::r)=some kk from h);exact⟨kV a,b.map kV,rfl,pV e1,lT e2⟩
theorem BJ {v:Val} {k:List Key} (h:cJ v=some k):∃f xs,v= .tup f xs/\aG xs=some k:=by
 cases v<;>first
  |exact⟨_,_,rfl,h⟩
  |cases h
theorem FA {n:Nat} {v:Val} {k:Key} (h:bO v=some k):v.bd n=true:=by
 cases v<;>first|rfl|(simp[bO] at h)
theorem kh {n:Nat}:∀{vs:List Val} {kk:List Key},aG vs=some kk->cN n vs=true
 |[],_,_=>rfl
 |v::r,kk,h=>by
  unfold aG at h;unfold cN
  cases e:bO v with
  |none=>rw[e] at h;cases h
  |some k=>
   cases e2:aG r with
   |none=>rw[e,e2] at h;cases h
   |some kr=>rw[FA e,kh e2];rfl
theorem CF {n:Nat} {v:Val} {k:List Key} (h:cJ v=some k):v.bd n=true:=by
 cases v with
 |tup fl xs=>unfold Val.bd;exact kh h
 |_=>cases h
theorem ll {n:Nat}:∀{vs:List Val} {kk:List (List Key)},aW vs=some kk->cN n vs=true
 |[],_,_=>rfl
 |v::r,kk,h=>by
  unfold aW at h;unfold cN
  cases e:cJ v with
  |none=>rw[e] at h;cases h
  |some k=>
   cases e2:aW r with
   |none=>rw[e,e2] at h;cases h
   |some kr=>rw[CF e,ll e2];rfl
mutual
theorem Rel.bd {T:CT} {as:List Addr} {G:Hp}:∀{v:Val} {u:L2.V},Rel T as G v u->v.bd as.length=true
 | .non,_,_=>rfl
 | .bl _,_,_=>rfl
 | .int _,_,_=>rfl
 | .str _,_,_=>rfl
 | .tup _ _,_,⟨_,_,_,_,r⟩=>by unfold Val.bd;exact ae.bd r
 | .lst _,_,⟨_,_,_,_,r⟩=>by unfold Val.bd;exact ae.bd r
 | .dct ks _,_,⟨_,us,_,q,r⟩=>by
  unfold Val.bd;rw[ae.bd r,acy]
  rcases q with⟨kk,e,_,_⟩|⟨kk,e,_,_⟩
  ·exact kh e
  ·exact ll e
 | .obj _ _ _,_,⟨_,_,_,_,r,_⟩=>by unfold Val.bd;exact ae.bd r
 | .ref _,_,⟨_,e,_⟩=>by unfold Val.bd;exact abh (aae.mp e).1
theorem ae.bd {T:CT} {as:List Addr} {G:Hp}:∀{vs:List Val} {us:List L2.V},ae T as G vs us->cN as.length vs=true
 |[],_,_=>rfl
 |_::_,_,⟨_,_,_,h,r⟩=>by unfold cN;rw[Rel.bd h,ae.bd r];rfl
end
mutual
theorem Rel.cut {T:CT} {as:List Addr} {G:Hp} {n:Nat}:∀{v:Val} {u:L2.V},v.bd n=true->Rel T as G v u->Rel T (as.take n) G v u
 | .non,_,_,h=>h
 | .bl _,_,_,h=>h
 | .int _,_,_,h=>h
 | .str _,_,_,h=>h
 | .tup _ _,_,b,⟨a,us,e,q,r⟩=>⟨a,us,e,q,ae.cut (by unfold Val.bd at b;exact b) r⟩
 | .lst _,_,b,⟨a,us,e,q,r⟩=>⟨a,us,e,q,ae.cut (by unfold Val.bd at b;exact b) r⟩
 | .dct _ _,_,b,⟨a,us,e,q,r⟩=>⟨a,us,e,q,ae.cut (by unfold Val.bd at b;exact(aah _ _▸b).2) r⟩
 | .obj _ _ _,_,b,⟨a,us,e,n,r,q⟩=>⟨a,us,e,n,ae.cut (by unfold Val.bd at b;exact b) r,q⟩
 | .ref k,_,b,⟨a,e,q⟩=>⟨a,by
  unfold Val.bd at b;rw[aa5 (acv b)]
  exact e,q⟩
theorem ae.cut {T:CT} {as:List Addr} {G:Hp} {n:Nat}:∀{vs:List Val} {us:List L2.V},cN n vs=true->ae T as G vs us->ae T (as.take n) G vs us
 |[],_,_,h=>h
 |_::_,_,b,⟨u,t,e,h,r⟩=>⟨u,t,e,Rel.cut (by unfold cN at b;exact(aah _ _▸b).1) h,ae.cut (by unfold cN at b;exact(aah _ _▸b).2) r⟩
end
open Classical in
noncomputable def dz (G H:Hp) (as:List Addr) (n x:Nat):Hp:=λb=>if b∈as.drop n/\as[x]?≠some b then H b else G b
section
variable {T:CT} {st:aa} {as:List Addr} {G H:Hp} {n x:Nat}
theorem t5 {a:Addr} {k:Nat} (hk:n<=k) (hx:k≠x) (nd:as.Nodup) (e:as[k]?=some a):dz G H as n x a=H a:=by
 unfold dz;rw[if_pos];refine⟨?_,λz=>hx (pK nd e z)⟩;rw[abu];exact⟨k-n,by rw[List.getElem?_drop,show n+(k-n)=k by lia];exact e⟩
theorem bc (s:Sim T st as G H):Le G (dz G H as n x):=λa o e=>by
 unfold dz;rw[if_neg]
 ·exact .inl e
 ·rintro ⟨h,_⟩
  rw[s.off a (List.mem_of_mem_drop h)] at e;cases e
theorem zW (s:Sim T st as G H):Le (dz G H as n x) H:=λa o e=>by
 unfold dz at e;split at e
 ·exact .inl e
 ·exact s.sub a o e
theorem take_drop {α:Type} {l:List α} (nd:l.Nodup) {n:Nat} {a:α} (h1:a∈l.take n) (h2:a∈l.drop n):False:=by
 rw[←List.take_append_drop n l] at nd;exact(abN.mp nd).2.2 a h1 a h2 rfl
theorem yQ (s:Sim T st as G H):∀a∈as.take n,dz G H as n x a=none:=λa ha=>by
 unfold dz;rw[if_neg λz=>take_drop s.nd ha z.1];exact s.off a (List.mem_of_mem_take ha)
end
mutual
theorem nI {T:CT} {as bs:List Addr} {G D:Hp} (l:Le G D) {f:Nat->Option Val} (hf:∀k v' u,f k=some v'->Rel T as G (.ref k) u->Rel T bs D v' u):∀{v v':Val} {u:L2.V},v.sub f=some v'->Rel T as G v u->Rel T bs D v' u
 | .non,_,_,e,h=>by cases e;exact h
 | .bl _,_,_,e,h=>by cases e;exact h
 | .int _,_,_,e,h=>by cases e;exact h
 | .str _,_,_,e,h=>by cases e;exact h
 | .tup _ _,_,_,e,⟨a,us,e1,q,r⟩=>by
  unfold Val.sub at e;let⟨ys,e2,rfl⟩:=aab.mp e;exact⟨a,us,e1,mN l q,bL l hf e2 r⟩
 | .lst _,_,_,e,⟨a,us,e1,q,r⟩=>by
  unfold Val.sub at e;let⟨ys,e2,rfl⟩:=aab.mp e;exact⟨a,us,e1,bV l q,bL l hf e2 r⟩
 | .dct _ _,_,_,e,⟨a,us,e1,q,r⟩=>by
  unfold Val.sub at e;let⟨ys,e2,rfl⟩:=aab.mp e;exact⟨a,us,e1,qp l q,bL l hf e2 r⟩
 | .obj c _ _,_,_,e,⟨a,us,e1,n,r,q⟩=>by
  unfold Val.sub at e;let⟨ys,e2,rfl⟩:=aab.mp e;refine⟨a,us,e1,n,bL l hf e2 r, ?_⟩;split at q
  ·rename_i h;rw[if_pos h];let⟨dx,q1,q2⟩:=q;exact⟨dx,l.ex q1 rfl,q2.imp id λz900=>by let⟨d,q3,q4⟩:=z900;exact⟨d,q3,l.ex q4 rfl⟩⟩
  ·rename_i h;rw[if_neg h];exact q.imp λdx q=>l.ex q rfl
 | .ref k,_,_,e,h=>by
  unfold Val.sub at e;exact hf k _ _ e h
theorem bL {T:CT} {as bs:List Addr} {G D:Hp} (l:Le G D) {f:Nat->Option Val} (hf:∀k v' u,f k=some v'->Rel T as G (.ref k) u->Rel T bs D v' u):∀{vs vs':List Val} {us:List L2.V},subs f vs=some vs'->ae T as G vs us->ae T bs D vs' us
 |[],_,_,e,h=>by cases e;exact h
 |v::r,_,_,e,⟨u,t,e1,h,q⟩=>by
  unfold subs at e
  cases e2:v.sub f with
  |none=>rw[e2] at e;cases e
  |some v'=>
   cases e3:subs f r with
   |none=>rw[e2,e3] at e;cases e
   |some r'=>
    rw[e2,e3] at e;cases e;exact⟨u,t,e1,nI l hf e2 h,bL l hf e3 q⟩
end
theorem fA {T:CT} {st:aa} {as:List Addr} {G H:Hp} {n x:Nat} (s:Sim T st as G H):∀(d k:Nat) (v':Val) (u:L2.V),jl st n x d k=some v'->Rel T as G (.ref k) u->Rel T (as.take n) (dz G H as n x) v' u:=by
 intro d
 induction d with
 |zero=>
  intro k v' u e ⟨a,ea,eu⟩
  by_cases hk:k<n
  ·cases (show some _=some v' from (if_pos hk).symm.trans e);exact⟨a,by rw[aa5 hk];exact ea,eu⟩
  ·cases (show none=some v' from (if_neg hk).symm.trans e)
 |succ d ih=>
  intro k v' u e ⟨a,ea,eu⟩
  by_cases hk:k<n
  ·cases (show some _=some v' from (if_pos hk).symm.trans e);exact⟨a,by rw[aa5 hk];exact ea,eu⟩
  ·replace e:=(if_neg hk).symm.trans e
   by_cases hx:k=x
   ·cases (show none=some v' from (if_pos hx).symm.trans e)
   replace e:=(if_neg hx).symm.trans e
   have lk:k<st.length:=by rw[←s.len];exact(aae.mp ea).1
   have ho:st[k]?=some st[k]:=aac lk;have ob:=s.ob k _ a ho ea;have ga:dz G H as n x a=H a:=t5 (by lia) hx s.nd ea;rw[ho] at e;generalize st[k]=o at e ob;subst eu
   cases o with
   |lst xs=>
    let⟨us,q,r⟩:=ob;let⟨ys,e2,rfl⟩:=aab.mp e;exact⟨a,us,rfl, .inl (.inl (ga.trans q)),bL (bc s) ih e2 r⟩
   |dct ks vs=>
    let⟨us,q,r⟩:=ob;let⟨ys,e2,rfl⟩:=aab.mp e;refine⟨a,us,rfl, ?_,bL (bc s) ih e2 r⟩;have q2:=q.at;unfold fh Rd at q2⊢;rw[ga];exact q2
   |ins c ns vs=>
    let⟨dx,us,x0,q,m,r⟩:=ob;let⟨ys,e2,rfl⟩:=aab.mp e;exact⟨a,us,rfl,m,bL (bc s) ih e2 r,by rw[if_neg (by rw[x0];decide)];exact⟨dx,ga.trans q⟩⟩
theorem Et {T:CT} {as:List Addr} {G D H:Hp} {n:Nat} {a:Addr} {o:Ob} (l:Le G D) (b:o.bd n=true) (h:eE T as G H a o):eE T (as.take n) D H a o:=by
 cases o with
 |lst xs=>
  let⟨us,q,r⟩:=h;exact⟨us,q,(ae.cut b r).mono (aai _) l⟩
 |dct ks vs=>
  let⟨us,q,r⟩:=h;exact⟨us,q,(ae.cut (by unfold Ob.bd at b;exact(aah _ _▸b).2) r).mono (aai _) l⟩
 |ins c ns vs=>
  let⟨dx,us,x0,q,m,r⟩:=h;exact⟨dx,us,x0,q,m,(ae.cut b r).mono (aai _) l⟩
theorem eE.bd {T:CT} {as:List Addr} {G H:Hp} {a:Addr} {o:Ob} (h:eE T as G H a o):o.bd as.length=true:=by
 cases o with
 |lst xs=>
  let⟨us,q,r⟩:=h;exact r.bd
 |dct ks vs=>
  let⟨us,q,r⟩:=h;show (cN _ ks&&cN _ vs)=true;rw[r.bd,acy]
  rcases q with⟨kk,e,_,_⟩|⟨kk,e,_,_⟩
  ·exact kh e
  ·exact ll e
 |ins c ns vs=>
  let⟨dx,us,x0,q,m,r⟩:=h;exact r.bd
theorem Sim.cut {T:CT} {st st':aa} {as':List Addr} {G G' H H':Hp} (s:Sim T st as G H) (s':Sim T st' as' G' H') (p:as<+:as') (o:Old st st') (x:Nat):as'.take st.length=as/\Sim T (st'.take st.length) as (dz G' H' as' st.length x) H':=by
 have e:as'.take st.length=as:=by
  let⟨t,rfl⟩:=p;rw[←s.len,List.take_left'];rfl
 refine⟨e, ?_,s.nd,zW s',λa ha=> ?_,λn ob a h1 h2=> ?_⟩
 ·rw[s.len,abb,Nat.min_eq_left o.1]
 ·rw[←e] at ha;exact yQ s' a ha
 ·have hn:n<st.length:=by
   have:=(aae.mp h1).1;rw[abb] at this;lia
  rw[aa5 hn] at h1
  have b:ob.bd st.length=true:=by
   rcases o.2 n ob hn h1 with z|z
   ·rw[←s.len];exact(s.ob n ob a z h2).bd
   ·exact z
  have:=Et (n:=st.length) (bc (n:=st.length) (x:=x) s') b (s'.ob n ob a h1 (j0 p h2));rw[e] at this;exact this
section
variable {T:CT} {P:Pg} {st st':aa} {as as':List Addr} {G G' H H':Hp} {X:XK}
theorem lH {v:Val} {u:L2.V} {Q:VK} (s:Sim T st as G H) (s':Sim T st' as' G' H') (p:as<+:as') (l:Le G G') (r:Rel T as' G' v u)
  (h:ab T as G (fin P st v st') (λv _ as2 G2 H2=>∀u,Rel T as2 G2 v u->Q u H2) X):Q u H':=by
 unfold fin at h;split at h
 ·rename_i o
  cases e:isRef v with
  |none=>
   rw[e] at h;unfold zp at h
   cases e2:v.aB st' st.length st'.length with
   |none=>rw[e2] at h;exact h.elim
   |some v'=>
    rw[e2] at h;let⟨c1,c2⟩:=Sim.cut s s' p o st'.length;refine h as _ H' (aai _) (l.trans (bc s')) c2 u ?_;have:=nI (bc s') (fA s' 6) e2 r;rw[c1] at this;exact this
  |some k=>
   have ev:v= .ref k:=by
    cases v<;>first|(cases e;rfl)|cases e
   subst ev;rw[e] at h;replace h:ab T as G (if k<st.length then .ok (.ref k) (st'.take st.length) else rM P st.length k st' st'[k]?) (λv _ as2 G2 H2=>∀u,Rel T as2 G2 v u->Q u H2) X:=h;let⟨a,ea,eu⟩:=r;split at h
   ·rename_i hk;let⟨c1,c2⟩:=Sim.cut s s' p o st'.length;refine h as _ H' (aai _) (l.trans (bc s')) c2 u ⟨a, ?_,eu⟩;rw[←c1,aa5 hk];exact ea
   ·rename_i hk;let⟨c1,c2⟩:=Sim.cut s s' p o k
    have lk:k<st'.length:=by rw[←s'.len];exact(aae.mp ea).1
    have ho:st'[k]?=some st'[k]:=aac lk;have ob:=s'.ob k _ a ho ea;rw[ho] at h;generalize st'[k]=o' at h ob
    have ga:dz G' H' as' st.length k a=none:=by
     unfold dz;rw[if_neg λz=>z.2 ea];exact s'.off a (aas ea)
    have na:a∉as:=λz=>by
     rw[←c1] at z;let⟨i,hi⟩:=abu.mp z;have li:=(aae.mp hi).1;rw[abb] at li;rw[aa5 (by lia)] at hi;have:=pK s'.nd hi ea;lia
    have put:∀{o2:Ob},eE T (as++[a]) (dz G' H' as' st.length k) H' a o2->Sim T (st'.take st.length++[o2]) (as++[a]) (dz G' H' as' st.length k) H':=λ{o2} q=>by
     refine⟨by simp[c2.len], ?_,c2.sub,λb hb=> ?_,λi ob2 b h1 h2=> ?_⟩
     ·rw[abN];refine⟨s.nd,by simp,λb hb c hc=> ?_⟩;rw[aaL.mp hc];exact λz=>na (z▸hb)
     ·rcases aaD.mp hb with z|z
      ·exact c2.off b z
      ·rw[aaL.mp z];exact ga
     ·by_cases hi:i<(st'.take st.length).length
      ·rw[aal hi] at h1;rw[aal (by rw[c2.len];exact hi)] at h2;exact(c2.ob i ob2 b h1 h2).mono (aat _ _) (Le.refl _)
      ·have z:i=(st'.take st.length).length:=by
        have:=(aae.mp h1).1;rw[aaY] at this;simp at this hi⊢;lia
       rw[z,aan (aag _)] at h1;rw[z,←c2.len,aan (aag _)] at h2;simp at h1 h2;subst h1 h2;exact q
    have told:Rel T (as++[a]) (dz G' H' as' st.length k) (.ref st.length) u:=⟨a,by
     rw[←s.len,aan (aag _)]
     simp,eu⟩
    cases o' with
    |lst xs=>
     replace h:ab T as G ((R.ak (aS st' st.length k xs) st').bind λys st'=> .ok (.ref st.length) (st'.take st.length++[.lst ys])) (λv _ as2 G2 H2=>∀u,Rel T as2 G2 v u->Q u H2) X:=h
     cases e2:aS st' st.length k xs with
     |none=>rw[e2] at h;exact h.elim
     |some ys=>
      rw[e2] at h;let⟨us,q,r⟩:=ob;have r2:=bL (bc s') (fA s' 6) e2 r;rw[c1] at r2;exact h (as++[a]) _ H' (aat _ _) (l.trans (bc s')) (put ⟨us,q,r2.mono (aat _ _) (Le.refl _)⟩) u told
    |dct ks vs=>
     replace h:ab T as G ((R.ak (aS st' st.length k vs) st').bind λvs st'=> .ok (.ref st.length) (st'.take st.length++[.dct ks vs])) (λv _ as2 G2 H2=>∀u,Rel T as2 G2 v u->Q u H2) X:=h
     cases e2:aS st' st.length k vs with
     |none=>rw[e2] at h;exact h.elim
     |some ys=>
      rw[e2] at h;let⟨us,q,r⟩:=ob;have r2:=bL (bc s') (fA s' 6) e2 r;rw[c1] at r2;exact h (as++[a]) _ H' (aat _ _) (l.trans (bc s')) (put ⟨us,q,r2.mono (aat _ _) (Le.refl _)⟩) u told
    |ins c ns vs=>
     replace h:ab T as G (if rC P c=true then .ok (.ref k) st' else (R.ak (aS st' st.length st'.length vs) st').bind λvs st'=> .ok (.obj c ns vs) (st'.take st.length)) (λv _ as2 G2 H2=>∀u,Rel T as2 G2 v u->Q u H2) X:=h;split at h
     ·exact h as' G' H' p l s' u ⟨a,ea,eu⟩
     ·cases e2:aS st' st.length st'.length vs with
      |none=>rw[e2] at h;exact h.elim
      |some ys=>
       rw[e2] at h;let⟨dx,us,x0,q,m,r⟩:=ob;let⟨d1,d2⟩:=Sim.cut s s' p o st'.length
       have kx:k≠st'.length:=by lia
       have r2:=bL (bc (n:=st.length) (x:=st'.length) s') (fA s' 6) e2 r;rw[d1] at r2;refine h as _ H' (aai _) (l.trans (bc s')) d2 u ⟨a,us,eu,m,r2, ?_⟩;rw[if_neg (by rw[x0];decide)];exact⟨dx,(t5 (by lia) kx s'.nd ea).trans q⟩
 ·exact h as' G' H' p l s' u r
theorem BV {x:Exn} {cls:Value} {dx:Option Addr} {Q:Val->aa->List Addr->Hp->Hp->Prop} (s:Sim T st as G H) (s':Sim T st' as' G' H') (p:as<+:as') (l:Le G G') (r:Dd T as' G' x cls dx)
  (h:ab T as G (zZ st x st') Q X):X cls dx H':=by
 unfold zZ at h;split at h
 ·rename_i o
  cases e2:aS st' st.length st'.length x.vs with
  |none=>rw[e2] at h;exact h.elim
  |some ys=>
   rw[e2] at h;let⟨d1,d2⟩:=Sim.cut s s' p o st'.length;refine h as _ H' cls dx (aai _) (l.trans (bc s')) d2 ?_;let⟨r1,r0,r2⟩:=r;refine⟨r1,r0,r2.imp (λ⟨q1,q2,q3⟩=>⟨q1,q2, ?_⟩) λ⟨d,us,q1,q2,q3,q4⟩=>⟨d,us,q1,(bc s').ex q2 rfl,q3, ?_⟩⟩
   ·rw[q3] at e2;cases e2;rfl
   ·have r2:=bL (bc (n:=st.length) (x:=st'.length) s') (fA s' 6) e2 q4;rw[d1] at r2;exact r2
 ·exact h as' G' H' cls dx p l s' r
theorem Hz {v:Val} {u:L2.V} {Q:Val->aa->List Addr->Hp->Hp->Prop} (s:Sim T st as G H) (s':Sim T st' as' G' H') (p:as<+:as') (l:Le G G') (r:Rel T as' G' v u) (h:ab T as G (tY st v st') Q X):
  ∃v2 st2 as2 G2,Sim T st2 as2 G2 H'/\Rel T as2 G2 v2 u/\Q v2 st2 as2 G2 H':=by
 unfold tY at h;split at h
 ·rename_i o
  cases e2:v.aB st' st.length st'.length with
  |none=>rw[e2] at h;exact h.elim
  |some v'=>
   rw[e2] at h;let⟨c1,c2⟩:=Sim.cut s s' p o st'.length;have r2:=nI (bc (n:=st.length) (x:=st'.length) s') (fA s' 6) e2 r;rw[c1] at r2;exact⟨v',_,as,_,c2,r2,h as _ H' (aai _) (l.trans (bc s')) c2⟩
 ·exact⟨v,st',as',G',s',r,h as' G' H' p l s'⟩
end
end PI
namespace PI
open PySem L2 L2.L3 L2.L4
def tE (T:CT) (P:Pg) (cl:ar) (E:XS) (e:PI.E):TE:=λσ H Q=>∃env st as G,Sim T st as G H/\aH T as G env σ/\ab T as G (e.run P cl env st) (λv _ as' G' H'=>∀u,Rel T as' G' v u->Q u H') (E σ)
def tT (T:CT) (P:Pg) (cl:ar) (E:XS) (e:PI.E):TT:=λσ H Q=>∃env st as G,Sim T st as G H/\aH T as G env σ/\ab T as G (runC P cl (some e) env st) (λb _ _ _ H'=>Q b H') (E σ)
def fe (T:CT) (P:Pg) (cl:ar) (E:XS) (es:List PI.E):TA:=λσ H Q=>∃env st as G,Sim T st as G H/\aH T as G env σ/\ab T as G (aN P cl es env st) (λvs _ as' G' H'=>∀us,ae T as' G' vs us->Q us H') (E σ)
theorem PE.mono {X:Cx} {e:Expr} {t t':TE} (h:PE X e t) (k:∀σ H Q,t' σ H Q->t σ H Q):PE X e t':=λpins s σ H Q I q=>h pins s σ H Q I (k σ H Q q)
theorem PT.mono {X:Cx} {e:Expr} {t t':TT} (h:PT X e t) (k:∀σ H Q,t' σ H Q->t σ H Q):PT X e t':=λpins s σ H Q I q=>h pins s σ H Q I (k σ H Q q)
theorem PA.mono {X:Cx} {es:List Expr} {t t':TA} (h:PA X es t) (k:∀σ H Q,t' σ H Q->t σ H Q):PA X es t':=λpos pins s σ H Q I q=>h pos pins s σ H Q I (k σ H Q q)
section
variable {T:CT} {P:Pg} {cl:ar} {E:XS} {X:Cx} {pos:Pos}
theorem aA {α:Type} {e:PI.E} {env:Env} {st:aa} {G H:Hp} {σ:St} {f:Val->aa->R α} {Q:α->aa->List Addr->Hp->Hp->Prop} {K:VK} (s:Sim T st as G H) (er:aH T as G env σ)
  (h:ab T as G ((e.run P cl env st).bind f) Q (E σ))
  (k:∀v st1 as1 G1 H1 u,Sim T st1 as1 G1 H1->aH T as1 G1 env σ->Rel T as1 G1 v u->as<+:as1->Le G G1->ab T as1 G1 (f v st1) Q (E σ)->K u H1):tE T P cl E e σ H K:=
 ⟨env,st,as,G,s,er,h.bind.imp λv st1 as1 G1 H1 p l s1 q u r=>k v st1 as1 G1 H1 u s1 (er.mono p l) r p l q⟩
theorem cV {α:Type} {es:List PI.E} {env:Env} {st:aa} {G H:Hp} {σ:St} {f:List Val->aa->R α} {Q:α->aa->List Addr->Hp->Hp->Prop} {K:List L2.V->Hp->Prop} (s:Sim T st as G H) (er:aH T as G env σ)
  (h:ab T as G ((aN P cl es env st).bind f) Q (E σ))
  (k:∀vs st1 as1 G1 H1 us,Sim T st1 as1 G1 H1->aH T as1 G1 env σ->ae T as1 G1 vs us->as<+:as1->Le G G1->ab T as1 G1 (f vs st1) Q (E σ)->K us H1):fe T P cl E es σ H K:=
 ⟨env,st,as,G,s,er,h.bind.imp λv st1 as1 G1 H1 p l s1 q u r=>k v st1 as1 G1 H1 u s1 (er.mono p l) r p l q⟩
theorem ab.ak {α β:Type} {G:Hp} {o:Option α} {st:aa} {f:α->aa->R β} {Q:β->aa->List Addr->Hp->Hp->Prop} {X:XK} (h:ab T as G ((R.ak o st).bind f) Q X):∃a,o=some a/\ab T as G (f a st) Q X:=by
 cases o with
 |none=>exact h.elim
 |some a=>exact⟨a,rfl,h⟩
theorem ab.dy {α:Type} {G:Hp} {o:Option α} {st:aa} {Q:α->aa->List Addr->Hp->Hp->Prop} {X:XK} (h:ab T as G (R.ak o st) Q X):∃a,o=some a/\ab T as G (.ok a st) Q X:=by
 cases o with
 |none=>exact h.elim
 |some a=>exact⟨a,rfl,h⟩
theorem ab.iff {α:Type} {G:Hp} {c:Prop} {r:R α} {Q:α->aa->List Addr->Hp->Hp->Prop} {X:XK} (h:ab T as G (iff c r) Q X):c/\ab T as G r Q X:=by
 unfold PI.iff at h;split at h
 ·rename_i z;exact⟨z,h⟩
 ·exact h.elim
theorem FU {i:Int} {j:Nat}:PE X (.Constant (.int i) j pos) (tE T P cl E (.const (.int i))):=PE.mono D6 λσ H Q z903=>by let⟨env,st,as,G,s,er,h⟩:=z903;exact h.ok s _ rfl
theorem IX {i:Bool} {j:Nat}:PE X (.Constant (.bool i) j pos) (tE T P cl E (.const (.bl i))):=PE.mono GN λσ H Q z903=>by let⟨env,st,as,G,s,er,h⟩:=z903;exact h.ok s _ rfl
theorem Hx {i:Str} {j:Nat}:PE X (.Constant (.str i) j pos) (tE T P cl E (.const (.str i))):=PE.mono Fg λσ H Q z903=>by let⟨env,st,as,G,s,er,h⟩:=z903;exact h.ok s _ rfl
theorem GP {j:Nat}:PE X (.Constant .none j pos) (tE T P cl E (.const .non)):=PE.mono wy λσ H Q z903=>by let⟨env,st,as,G,s,er,h⟩:=z903;exact h.ok s _ rfl
theorem FV {i:Nat} {x:Str} (hN:X.N[i]?=some x) (hv:xN X.env.scope x) (hd:(x==("__debug__":Str))=false) (hcd:(x==("__classdict__":Str))=false):PE X (.Name x pos) (tE T P cl E (.var i)):=
 PE.mono (E4 hN hv hd hcd) λσ H Q z903=>by
  let⟨env,st,as,G,s,er,h⟩:=z903;let⟨v,e,h⟩:=ab.dy h
  have e':env[i]?=some (some v):=by
   cases q:env[i]? with
   |none=>rw[q] at e;cases e
   |some o=>rw[q] at e;exact congrArg some e
  let⟨u,e1,r⟩:=er.2 i v e';exact⟨u,e1,h.ok s u r⟩
theorem Hq {a b:Expr} {op:Operator} {r:R2} (ho:aD X (binaryOp op) r) (ha:PE X a (tE T P cl E ia)) (hb:PE X b (tE T P cl E ib))
  (k:∀{st as G H x y u w} {Q:VK} {Z:XK},Sim T st as G H->cY T as G H (res st x) u->cY T as G H (res st y) w->ab T as G (eJ op (res st x) (res st y) st) (λv _ as' G' H'=>∀u,Rel T as' G' v u->Q u H') Z->r u w H Q):PE X (.BinOp a op b pos) (tE T P cl E (.bin op ia ib)):=
 PE.mono (Hi ho ha hb) λσ H Q z903=>by
  let⟨env,st,as,G,s,er,h⟩:=z903;dsimp only[PI.E.run] at h;refine aA s er h λx st1 as1 G1 H1 u s1 er1 r1 p1 l1 h=> ?_;refine aA s1 er1 h λy st2 as2 G2 H2 w s2 er2 r2 p2 l2 h=> ?_;exact k s2 (aV s2 (r1.mono p2 l2)) (aV s2 r2) h
theorem F3 {a b:Expr} {op:CmpOp} {r:R2} (ho:aD X (compareOp op) r) (hm:behindInMarks op b=false) (ha:PE X a (tE T P cl E ia)) (hb:PE X b (tE T P cl E ib))
  (k:∀{st as G H x y u w} {Q:VK} {Z:XK},Sim T st as G H->cY T as G H (res st x) u->cY T as G H (res st y) w->ab T as G (cP (bw op (res st x) (res st y) st)) (λv _ as' G' H'=>∀u,Rel T as' G' v u->Q u H') Z->r u w H Q):PE X (.Compare a [op] [b] pos) (tE T P cl E (.cmp op ia ib)):=
 PE.mono (Cj ho ha hb hm) λσ H Q z903=>by
  let⟨env,st,as,G,s,er,h⟩:=z903;dsimp only[PI.E.run] at h;refine aA s er h λx st1 as1 G1 H1 u s1 er1 r1 p1 l1 h=> ?_;refine aA s1 er1 h λy st2 as2 G2 H2 w s2 er2 r2 p2 l2 h=> ?_;exact k s2 (aV s2 (r1.mono p2 l2)) (aV s2 r2) h
end
end PI
namespace PI
open PySem L2 L2.L3 L2.L4 PySem.SeqAt
noncomputable def oA (f:Val->Val->Option Bool) (xs ys:List Val) (j:Nat):Bool:=(f (xs.getD j .non) (ys.getD j .non)).getD false
theorem all_succ (n:Nat) (e:Nat->Bool):(List.range (n+1)).all e=(e 0&&(List.range n).all λj=>e (j+1)):=by
 rw[acx,aaR,List.all_map];rfl
theorem cA (f:Val->Val->Option Bool):∀(xs ys:List Val) (b:Bool),cy f xs ys=some b->
  b=((List.range (min xs.length ys.length)).all (oA f xs ys)&&xs.length==ys.length)/\∀(j:Nat) x y,xs[j]?=some x->ys[j]?=some y->f x y=some (oA f xs ys j)
 |[],[],b,h=>by
  cases h;exact⟨rfl,λj x y e=>by simp at e⟩
 |[],y::ys,b,h=>by
  cases h;exact⟨by simp,λj x y e=>by simp at e⟩
 |x::xs,[],b,h=>by
  cases h;exact⟨by simp,λj x y e e'=>by simp at e'⟩
 |x::xs,y::ys,b,h=>by
  unfold cy at h
  cases e1:f x y with
  |none=>rw[e1] at h;cases h
  |some c=>
   cases e2:cy f xs ys with
   |none=>rw[e1,e2] at h;cases h
   |some c'=>
    rw[e1,e2] at h;cases h;let⟨i1,i2⟩:=cA f xs ys c' e2;have z:∀j,oA f (x::xs) (y::ys) (j+1)=oA f xs ys j:=λj=>rfl
    have z0:oA f (x::xs) (y::ys) 0=c:=by
     show (f x y).getD false=c;rw[e1];rfl
    refine⟨?_,λj x' y' ex ey=> ?_⟩
    ·rw[show min (x::xs).length (y::ys).length=min xs.length ys.length+1 by simp[Nat.succ_min_succ],all_succ,z0,i1];simp only[z,aar,Bool.and_assoc];congr 2;rw[aaN];simp
    ·cases j with
     |zero=>
      simp at ex ey;subst ex ey;rw[z0];exact e1
     |succ j=>
      rw[z];exact i2 j x' y' (by simpa using ex) (by simpa using ey)
theorem ae.get {T:CT} {G:Hp}:∀{vs:List Val} {us:List L2.V} {j:Nat} {v:Val},ae T as G vs us->vs[j]?=some v->∃u,us[j]?=some u/\Rel T as G v u
 |[],_,_,_,_,e=>by simp at e
 |_::_,_,0,_,⟨u,t,e1,h,r⟩,e=>by
  simp at e;subst e e1;exact⟨u,rfl,h⟩
 |_::_,_,j+1,_,⟨u,t,e1,h,r⟩,e=>by
  subst e1;simpa using ae.get r (by simpa using e)
theorem ae.length {T:CT} {G:Hp}:∀{vs:List Val} {us:List L2.V},ae T as G vs us->vs.length=us.length
 |[],_,h=>by
  cases h;rfl
 |_::_,_,⟨u,t,e1,h,r⟩=>by
  subst e1;rw[aar,aar,ae.length r]
section
variable {T:CT} {X:Cx} {pins:List (Addr×Obj)} {σ:St} {as:List Addr} {G H:Hp} {s:Shared}
end
inductive fM (f:List Val->List Val->Option Bool):Val->Val->Bool->Prop
 |non:fM f .non .non true
 |bl (a c:Bool):fM f (.bl a) (.bl c) (a==c)
 |int (a c:Int):fM f (.int a) (.int c) (a==c)
 |str (a c:Str):fM f (.str a) (.str c) (decide (a=c))
 |is (a:Int) (c:Str):fM f (.int a) (.str c) false
 |si (a:Str) (c:Int):fM f (.str a) (.int c) false
 |tup (p q:Bool) (xs ys:List Val) (b:Bool) (h:f xs ys=some b):fM f (.tup p xs) (.tup q ys) b
 |lst (xs ys:List Val) (b:Bool) (h:f xs ys=some b):fM f (.lst xs) (.lst ys) b
theorem fP {f:List Val->List Val->Option Bool} {v w:Val} {b:Bool} (e:C9 f v w=some b):fM f v w b:=by
 cases v with
 |non=>cases w<;>cases e;exact .non
 |bl a=>cases w<;>cases e;exact .bl _ _
 |int a=>
  cases w<;>cases e
  ·exact .int _ _
  ·exact .is _ _
 |str a=>
  cases w<;>cases e
  ·exact .si _ _
  ·exact .str _ _
 |tup p xs=>cases w with
  |tup q ys=>exact .tup _ _ _ _ _ e
  |_=>cases e
 |lst xs=>cases w with
  |lst ys=>exact .lst _ _ _ e
  |_=>cases e
 |_=>cases e
section
variable {T:CT} {X:Cx} {pins:List (Addr×Obj)} {σ:St} {as:List Addr} {G H:Hp} {s:Shared}
theorem om (I:Inv X pins σ H s) (hK:T.K=X.K) (l:Le G H) {f:List Val->List Val->Option Bool}
  (hf:∀xs ys us b,f xs ys=some b->ae T as G xs us->ae T as G ys us->b=true) {v w:Val} {u:L2.V} {b:Bool} (c:fM f v w b) (r1:Rel T as G v u) (r2:Rel T as G w u):b=true:=by
 cases c with
 |non=>rfl
 |bl a c=>cases r1;cases r2;exact abU _
 |int a c=>cases r1;cases r2;exact abU _
 |str a c=>cases r1;cases r2;exact abh rfl
 |is a c=>cases r1;cases r2
 |si a c=>cases r1;cases r2
 |tup p q xs ys b e=>
  let⟨a,us,rfl,h1,h2⟩:=r1;let⟨a',us',e',h3,h4⟩:=r2;cases e';cases (I.gF (ba l h1) (ba l h3):us=us');exact hf _ _ _ _ e h2 h4
 |lst xs ys b e=>
  let⟨a,us,rfl,h1,h2⟩:=r1;let⟨a',us',e',h3,h4⟩:=r2;cases e';cases (I.iP (hK▸bV l h1) (hK▸bV l h3):us=us');exact hf _ _ _ _ e h2 h4
theorem eF {α:Type} {xs:List α} {j:Nat} (h:j<xs.length):∃x,xs[j]?=some x:=⟨_,aac h⟩
theorem qI (I:Inv X pins σ H s) (hK:T.K=X.K) (l:Le G H):∀(d:Nat) {v w:Val} {u:L2.V} {b:Bool},eqv d v w=some b->Rel T as G v u->Rel T as G w u->b=true
 |0,_,_,_,_,e,r1,r2=>om I hK l (λ_ _ _ _ z=>(by cases z)) (fP e) r1 r2
 |d+1,_,_,_,_,e,r1,r2=>om I hK l (λxs ys us b e r1 r2=>by
  let⟨i1,i2⟩:=cA (eqv d) xs ys b e;have ln:xs.length=ys.length:=r1.length.trans r2.length.symm;rw[i1,ln,abU,acy,ab5,abo];intro j hj;have hj':=abr.mp hj;let⟨x,e1⟩:=eF (show j<xs.length from ln▸hj');let⟨y,e2⟩:=eF hj';let⟨u1,q1,s1⟩:=r1.get e1;let⟨u2,q2,s2⟩:=r2.get e2;rw[q1] at q2;cases q2
  exact qI I hK l d (i2 j _ _ e1 e2) s1 s2) (fP e) r1 r2
theorem xx {its:List Value} {j:Nat} {x:Value} (e:its[j]?=some x) (h:j<its.toArray.size):its.toArray[j]=x:=by
 have z:=aac (show j<its.length from h);exact Option.some.inj (z.symm.trans e)
def EN (T:CT) (as:List Addr) (G:Hp) (s:Shared) (A:Around) (g:Val->Val->Option Bool):Prop:=∀(v w:Val) (u u':L2.V) (x y:Value) (c:Bool),g v w=some c->Rel T as G v u->Rel T as G w u'->RelV u x->RelV u' y->EqAt A s x y c
theorem iN {g:Val->Val->Option Bool} {A:Around} (ih:EN T as G s A g) {b:Bool} {its its':List Value} (e:cy g xs ys=some b) (r1:ae T as G xs us) (r2:ae T as G ys us') (v1:Vals us its) (v2:Vals us' its'):
  ∀j (h1:j<its.toArray.size) (h2:j<its'.toArray.size),EqAt A s its.toArray[j] its'.toArray[j] (oA g xs ys j):=λj h1 h2=>by
 let⟨x,e1⟩:=eF (show j<xs.length from (r1.length.trans v1.length)▸h1);let⟨y,e2⟩:=eF (show j<ys.length from (r2.length.trans v2.length)▸h2);let⟨u1,a1,s1⟩:=r1.get e1;let⟨u2,a2,s2⟩:=r2.get e2;let⟨x1,b1,t1⟩:=Vals.get v1 a1;let⟨x2,b2,t2⟩:=Vals.get v2 a2;rw[xx b1 h1,xx b2 h2];exact ih _ _ _ _ _ _ _ ((cA g xs ys b e).2 j _ _ e1 e2) s1 s2 t1 t2
theorem tZ (I:Inv X pins σ H s) (hK:T.K=X.K) (l:Le G H) {g:Val->Val->Option Bool} {A:Around} (hA:A.units+1<cLine)
  (ih:EN T as G s A.in1 g) {v w:Val} {u:L2.V} {x y:Value} {b:Bool} (c:fM (cy g) v w b) (r1:Rel T as G v u) (r2:Rel T as G w u') (q1:RelV u x) (q2:RelV u' y):RcAt A s x y b:=by
 cases c with
 |non=>cases r1;cases r2;cases q1;cases q2;exact RcAt.none_none
 |bl a c=>cases r1;cases r2;cases q1;cases q2;exact RcAt.bool_bool _ _
 |int a c=>cases r1;cases r2;let⟨t,rfl⟩:=q1;let⟨t',rfl⟩:=q2;exact RcAt.int_int _ _ _ _
 |str a c=>
  cases r1;cases r2;let⟨t,rfl⟩:=q1;let⟨t',rfl⟩:=q2;rw[show decide (a=c)=(a==c) by rw[aaN];simp];exact RcAt.str_str _ _ _ _
 |is a c=>cases r1;cases r2;let⟨t,rfl⟩:=q1;let⟨t',rfl⟩:=q2;exact RcAt.int_str _ _ _ _
 |si a c=>cases r1;cases r2;let⟨t,rfl⟩:=q1;let⟨t',rfl⟩:=q2;exact RcAt.str_int _ _ _ _
 |tup p q xs ys b e=>
  let⟨a,us,rfl,h1,h2⟩:=r1;let⟨a',us',rfl,h3,h4⟩:=r2;cases q1;cases q2;let⟨its,v1,t1,_⟩:=aL (b:=false) I (ba l h1);let⟨its',v2,t2,_⟩:=aL (b:=false) I (ba l h3);have R:=RcAt.tuples (A:=A) t1 t2 (by lia) (iN ih e h2 h4 v1 v2);rw[(cA g _ _ b e).1,h2.length.trans v1.length,h4.length.trans v2.length];exact R
 |lst xs ys b e=>
  let⟨a,us,rfl,h1,h2⟩:=r1;let⟨a',us',rfl,h3,h4⟩:=r2;cases q1;cases q2;let⟨its,v1,t1,_⟩:=aL (b:=true) I (hK▸bV l h1);let⟨its',v2,t2,_⟩:=aL (b:=true) I (hK▸bV l h3);rw[(cA g _ _ b e).1,h2.length.trans v1.length,h4.length.trans v2.length]
  by_cases hs:its.length=its'.length
  ·have R:=RcAt.lists (A:=A) t1 t2 hs (by lia) (iN ih e h2 h4 v1 v2);rw[hs,abU,acy,ab5];rw[show its.toArray.size=its'.length from hs] at R;exact R
  ·rw[show (its.length==its'.length)=false from beq_false_of_ne hs,acS];exact RcAt.lists_lengths (A:=A) t1 t2 (by simpa using hs) (by lia)
theorem tH {A:Around} {f:List Val->List Val->Option Bool} {v w:Val} {u:L2.V} {x y:Value} {b:Bool} (c:fM f v w b) (r1:Rel T as G v u) (r2:Rel T as G w u') (q1:RelV u x) (q2:RelV u' y):EqAt A s x y b∨(∃a a',u= .ref a/\u'= .ref a'):=by
 cases c with
 |non=>cases r1;cases r2;cases q1;cases q2;exact .inl (EqAt.same _)
 |bl a c=>cases r1;cases r2;exact .inl (jC q1 q2 rfl rfl)
 |int a c=>cases r1;cases r2;exact .inl (jC q1 q2 rfl rfl)
 |str a c=>
  rw[show decide (a=c)=EV (.str a) (.str c) by show _=(_==_);rw[aaN];simp];cases r1;cases r2;exact .inl (jC q1 q2 rfl rfl)
 |is a c=>cases r1;cases r2;exact .inl (jC q1 q2 rfl rfl)
 |si a c=>cases r1;cases r2;exact .inl (jC q1 q2 rfl rfl)
 |tup p q xs ys b e=>let⟨a,us,h1,_⟩:=r1;let⟨a',us',h2,_⟩:=r2;exact .inr ⟨a,a',h1,h2⟩
 |lst xs ys b e=>let⟨a,us,h1,_⟩:=r1;let⟨a',us',h2,_⟩:=r2;exact .inr ⟨a,a',h1,h2⟩
theorem j4 (I:Inv X pins σ H s) (hK:T.K=X.K) (l:Le G H):∀(d:Nat) {v w:Val} {u u':L2.V} {x y:Value} {b:Bool} {A:Around},A.units+d<cLine->eqv d v w=some b->Rel T as G v u->Rel T as G w u'->RelV u x->RelV u' y->EqAt A s x y b
 |0,v,w,u,u',x,y,b,A,hA,e,r1,r2,q1,q2=>by
  have c:=fP e;refine(tH c r1 r2 q1 q2).elim id λz900=> ?_;let⟨a,a',h1,h2⟩:=z900
  cases c<;>first|(rename_i z;cases z;done)|(subst h1;cases r1)
 |d+1,v,w,u,u',x,y,b,A,hA,e,r1,r2,q1,q2=>by
  refine(tH (fP e) r1 r2 q1 q2).elim id λz900=> ?_;let⟨a,a',h1,h2⟩:=z900;subst h1;subst h2
  by_cases ha:a=a'
  ·subst ha;rw[qI I hK l (d+1) e r1 r2];cases q1;cases q2;exact EqAt.same _
  ·have R:=tZ I hK l (A:=A) (by lia) (λ_ _ _ _ _ _ _ e r1 r2 q1 q2=>j4 I hK l d (by show A.units+1+d<cLine;lia) e r1 r2 q1 q2) (fP e) r1 r2 q1 q2;cases q1;cases q2;exact EqAt.of_refs ha R
theorem Bh (I:Inv X pins σ H s) (hK:T.K=X.K) (l:Le G H) {g:Val->Val->Option Bool} {A:Around} (hA:A.units+1<cLine)
  (ih:EN T as G s A.in1 g) {v w:Val} {u:L2.V} {x y:Value} {b:Bool} (c:fM (cy g) v w b) (r1:Rel T as G v u) (r2:Rel T as G w u') (q1:RelV u x) (q2:RelV u' y):RcNeAt A s x y (!b):=by
 cases c with
 |non=>cases r1;cases r2;cases q1;cases q2;exact RcNeAt.none_none
 |bl a c=>cases r1;cases r2;cases q1;cases q2;exact RcNeAt.bool_bool _ _
 |int a c=>cases r1;cases r2;let⟨t,rfl⟩:=q1;let⟨t',rfl⟩:=q2;exact RcNeAt.int_int _ _ _ _
 |str a c=>
  cases r1;cases r2;let⟨t,rfl⟩:=q1;let⟨t',rfl⟩:=q2;rw[show decide (a=c)=(a==c) by rw[aaN];simp];exact RcNeAt.str_str _ _ _ _
 |is a c=>cases r1;cases r2;let⟨t,rfl⟩:=q1;let⟨t',rfl⟩:=q2;exact RcNeAt.int_str _ _ _ _
 |si a c=>cases r1;cases r2;let⟨t,rfl⟩:=q1;let⟨t',rfl⟩:=q2;exact RcNeAt.str_int _ _ _ _
 |tup p q xs ys b e=>
  let⟨a,us,rfl,h1,h2⟩:=r1;let⟨a',us',rfl,h3,h4⟩:=r2;cases q1;cases q2;let⟨its,v1,t1,_⟩:=aL (b:=false) I (ba l h1);let⟨its',v2,t2,_⟩:=aL (b:=false) I (ba l h3);have R:=RcNeAt.tuples (A:=A) t1 t2 (by lia) (iN ih e h2 h4 v1 v2);rw[(cA g _ _ b e).1,h2.length.trans v1.length,h4.length.trans v2.length];exact R
 |lst xs ys b e=>
  let⟨a,us,rfl,h1,h2⟩:=r1;let⟨a',us',rfl,h3,h4⟩:=r2;cases q1;cases q2;let⟨its,v1,t1,_⟩:=aL (b:=true) I (hK▸bV l h1);let⟨its',v2,t2,_⟩:=aL (b:=true) I (hK▸bV l h3);rw[(cA g _ _ b e).1,h2.length.trans v1.length,h4.length.trans v2.length]
  by_cases hs:its.length=its'.length
  ·have R:=RcNeAt.lists (A:=A) t1 t2 hs (by lia) (iN ih e h2 h4 v1 v2);rw[hs,abU,acy,ab5];rw[show its.toArray.size=its'.length from hs] at R;exact R
  ·rw[show (its.length==its'.length)=false from beq_false_of_ne hs,acS];exact RcNeAt.lists_lengths (A:=A) t1 t2 (by simpa using hs) (by lia)
end
theorem cY.rel {T:CT} {G H:Hp} (l:Le G H):∀{v:Val} {u:L2.V},cY T as G H v u->Rel T as H v u
 | .non,_,h=>h
 | .bl _,_,h=>h
 | .int _,_,h=>h
 | .str _,_,h=>h
 | .tup _ _,_,⟨a,us,e,q,r⟩=>⟨a,us,e,mN l q,r.mono (aai _) l⟩
 | .lst _,_,⟨a,us,e,q,r⟩=>⟨a,us,e,q,r.mono (aai _) l⟩
 | .dct _ _,_,⟨a,us,e,q,r⟩=>⟨a,us,e,q,r.mono (aai _) l⟩
 | .obj _ _ _,_,⟨a,us,e,n,r,q⟩=>⟨a,us,e,n,r.mono (aai _) l,q⟩
 | .ref n,_,h=>h.elim
def AN (T:CT) (neg:Bool):R2:=λu w H Q=>∃as v v' b,Rel T as H v u/\Rel T as H v' w/\eqv 8 v v'=some b/\Q (.bl (if neg=true then !b else b)) H
theorem vg {T:CT} {X:Cx} (hK:T.K=X.K) (hu:X.A.units+8<cLine):aD X (compareOp .Eq) (AN T false):=by
 intro pins s σ H x y u v Q I rx ry h;let⟨as,v1,v2,b,r1,r2,e,q⟩:=h;exact tZ I hK (Le.refl _) (A:=X.A) (by lia) (λ_ _ _ _ _ _ _ e r1 r2 q1 q2=>j4 I hK (Le.refl _) 7 (by show X.A.units+1+7<cLine;lia) e r1 r2 q1 q2) (fP (f:=cy (eqv 7)) e) r1 r2 rx ry _ _ _ _ ⟨.bl b,H,I,rfl,q⟩
theorem uF {T:CT} {X:Cx} (hK:T.K=X.K) (hu:X.A.units+8<cLine):aD X (compareOp .NotEq) (AN T true):=by
 intro pins s σ H x y u v Q I rx ry h;let⟨as,v1,v2,b,r1,r2,e,q⟩:=h;exact Bh I hK (Le.refl _) (A:=X.A) (by lia) (λ_ _ _ _ _ _ _ e r1 r2 q1 q2=>j4 I hK (Le.refl _) 7 (by show X.A.units+1+7<cLine;lia) e r1 r2 q1 q2) (fP (f:=cy (eqv 7)) e) r1 r2 rx ry _ _ _ _ ⟨.bl (!b),H,I,rfl,q⟩
end PI
namespace PI
open PySem L2 L2.L3 L2.L4 PySem.SeqAt PyProof.Rows
abbrev PV (T:CT) (Q:VK):Val->aa->List Addr->Hp->Hp->Prop:=λv _ as' G' H'=>∀u,Rel T as' G' v u->Q u H'
def cx (T:CT) (f:Val->Val->aa->R Val):R2:=λu w H Q=>∃st as G x y Z,Sim T st as G H/\cY T as G H x u/\cY T as G H y w/\ab T as G (f x y st) (PV T Q) Z
theorem aD.imp {X:Cx} {f:Value->Value->Sem Value} {r r':R2} (h:aD X f r) (k:∀x y H Q,r' x y H Q->r x y H Q):aD X f r':=λpins s σ H x y v u Q I rx ry q=>h pins s σ H x y v u Q I rx ry (k x y H Q q)
section
variable {T:CT} {X:Cx}
theorem jS {f:Value->Value->Sem Value} {C:Int->Int->Prop} {g:Int->Int->L2.V} {h:Int->Int->aa->R Val} (ho:aD X f (rI C g))
  (k:∀{st as G H Z Q} {i j:Int},Sim T st as G H->ab T as G (h i j st) (PV T Q) Z->C i j/\Q (g i j) H):aD X f (cx T (bN h)):=
 aD.imp ho λu w H Q z904=>by
  let⟨st,as,G,x,y,Z,s,r1,r2,p⟩:=z904
  cases x with
  |int i=>cases y with
   |int j=>
    cases r1;cases r2;let⟨c,q⟩:=k s p;exact⟨i,j,rfl,rfl,c,q⟩
   |_=>exact p.elim
  |_=>exact p.elim
theorem Ht {g:Int->Int->L2.V} {x y:L2.V} {H:Hp} {Q:VK} (h:rI (λ_ _=>True) g x y H Q):kB g x y H Q:=by
 let⟨i,j,a,b,_,c⟩:=h;exact⟨i,j,a,b,c⟩
theorem A9:aD X (binaryOp .Sub) (cx T (bN λi j st=> .ok (.int (i-j)) st)):=jS (aD.imp DY λ_ _ _ _=>Ht) λs p=>⟨trivial,p.ok s _ rfl⟩
theorem CC:aD X (binaryOp .Mod) (cx T (bN pR)):=jS B1 λs p=>by
 let⟨c,p⟩:=ab.iff p;exact⟨c,p.ok s _ rfl⟩
theorem j6 {f:Value->Value->Sem Value} {g:Int->Int->Bool} (ho:aD X f (kB λi j=> .bl (g i j))):aD X f (cx T λx y st=>cP (bN (λi j st=> .ok (g i j) st) x y st)):=
 aD.imp ho λu w H Q z904=>by
  let⟨st,as,G,x,y,Z,s,r1,r2,p⟩:=z904
  cases x with
  |int i=>cases y with
   |int j=>
    cases r1;cases r2;exact⟨i,j,rfl,rfl,p.ok s _ rfl⟩
   |_=>exact p.elim
  |_=>exact p.elim
theorem Dv:aD X (compareOp .Lt) (cx T λx y st=>cP (bw .Lt x y st)):=j6 GY
theorem E7:aD X (compareOp .LtE) (cx T λx y st=>cP (bw .LtE x y st)):=j6 F4
theorem Ec:aD X (compareOp .Gt) (cx T λx y st=>cP (bw .Gt x y st)):=j6 HB
theorem CM:aD X (compareOp .GtE) (cx T λx y st=>cP (bw .GtE x y st)):=j6 FY
theorem rL {i:Int} (h:big i):Builtin.Int.intBits i<=1000:=by
 unfold Builtin.Int.intBits;split
 ·exact aaV _
 ·have:i.natAbs.log2<1000:=by
   rcases Nat.eq_zero_or_pos i.natAbs with h0|hp
   ·rw[h0];decide
   ·exact(Nat.log2_lt (abz hp)).mpr h
  lia
theorem Eh {i j:Int} (h:AA i j):IntMulOk i j:=by
 rcases h with h|h|⟨h1,h2⟩
 ·exact IntMulOk.of_left (intBits_le_64 (by lia) (by lia))
 ·exact IntMulOk.of_right (intBits_le_64 (by lia) (by lia))
 ·have b1:=rL h1;have b2:=rL h2;unfold IntMulOk
  have:Builtin.Int.intTooBig (Builtin.Int.intBits i+Builtin.Int.intBits j)=false:=by
   unfold Builtin.Int.intTooBig;have z:bitsLine=2^27:=rfl;simp only[decide_eq_false_iff_not,z];lia
  rw[this,acS];decide
theorem BZ:aD X (binaryOp .Mult) (cx T (bN qf)):=jS (Aq (C:=IntMulOk) (g:=λi j=>i*j) λ_ _ _ _ _ _ _ hc q=>mul_int q hc) λs p=>by
 let⟨c,p⟩:=ab.iff p;exact⟨Eh c,p.ok s _ rfl⟩
theorem FK {i j:Int} (h:big j):Builtin.divisionGoesByPylong i j=false:=by
 unfold Builtin.divisionGoesByPylong
 have:(if (j==0)=true then 0 else j.natAbs.log2/30+1)<=300:=by
  split
  ·lia
  ·have:j.natAbs.log2<1000:=by
    rcases Nat.eq_zero_or_pos j.natAbs with h0|hp
    ·rw[h0];decide
    ·exact(Nat.log2_lt (abz hp)).mpr h
   lia
 simp only[Bool.and_eq_false_iff,decide_eq_false_iff_not];left;lia
theorem Ca:aD X (binaryOp .FloorDiv) (cx T (bN qF)):=jS (Aq (C:=λi j=>j≠0/\big j) (g:=λi j=>i.fdiv j) λ_ _ _ _ _ _ _ hc q=>floordiv_int hc.1 q (.inl (FK hc.2))) λs p=>by
 let⟨c,p⟩:=ab.iff p;exact⟨c,p.ok s _ rfl⟩
theorem Cf:aD X (binaryOp .Pow) (cx T (bN yH)):=jS EJ λs p=>by
 let⟨c,p⟩:=ab.iff p;exact⟨⟨c.1,by lia,c.2.2⟩,p.ok s _ rfl⟩
def GQ (K:PySem.W.Frag):R2:=λx y H Q=>∃l b xs zs,x= .ref l/\y= .ref b/\bF K H l xs/\bF K H b zs/\xs.length+zs.length<=sizeLine/\∀p,H p=none->Q (.ref p) (upd H p (.lst (xs++zs)))
theorem CI:aD X (binaryOp .Add) (GQ X.K):=by
 intro pins s σ H x y v u Q I rx ry h;let⟨l,b,xs,zs,rfl,rfl,hH,hB,hz,q⟩:=h;cases rx;cases ry;let⟨vs,r1,hl,_⟩:=aL (b:=true) I hH;let⟨ws,r2,hb,_⟩:=aL (b:=true) I hB;let⟨⟨cls,dd,data,sl⟩,ho,hc,n,hd⟩:=id hl;let⟨⟨cls2,dd2,data2,sl2⟩,ho2,hc2,n2,hd2⟩:=id hb;simp only at hc hd hc2 hd2;subst hc hd hc2 hd2
 have e:vs.toArray++ws.toArray=(vs++ws).toArray:=by simp
 refine concat_meets ⟨_,ho,rfl⟩ ⟨_,ho2,rfl⟩ noFill_list_add seq_list_add PySem.F.slot_list_add PySem.F.entry_list_add (PySem.F.args_list_add_2 _ _) (list_addW l b vs.toArray ws.toArray n n2 dd dd2 sl sl2 (by simpa[r1.length,r2.length] using hz)) ⟨ho,ho2, ?_⟩;rw[e];exact⟨.ref _,_,I.Iy (t':=s.toks) (r1.append r2) (by rw[aaY];lia),rfl,q _ I.fresh⟩
theorem ae.append {G:Hp}:∀{xs ys:List Val} {us ws:List L2.V},ae T as G xs us->ae T as G ys ws->ae T as G (xs++ys) (us++ws)
 |[],_,_,_,h,r=>by
  cases h;exact r
 |_::_,_,_,_,⟨u,t,e,h,q⟩,r=>by
  subst e;exact⟨u,_,rfl,h,ae.append q r⟩
theorem nF {st:aa} {G H:Hp} {Q:VK} {Z:XK} (s:Sim T st as G H) (r:ae T as G xs us) (p:ab T as G (.ok (.tup false xs) st) (PV T Q) Z) {a:Addr} (ha:H a=none):Q (.ref a) (upd H a (.tup us)):=by
 have l:Le G (upd G a (.tup us)):=Le.new (s.fresh ha).2;exact p as _ _ (aai _) l (s.ux ha) _ ⟨a,us,rfl,(show upd G a (.tup us) a=_ from ao),r.mono (aai _) l⟩
theorem zT {st:aa} {G H:Hp} {Q:VK} {Z:XK} (s:Sim T st as G H) (r:ae T as G xs us) (p:ab T as G (.ok (.tup true xs) st) (PV T Q) Z) {a:Addr} {o:Obj} (ha:H a=none) (ho:o.dict=none):Q (.ref a) (upd H a (.aB o (.tup us))):=by
 have l:Le G (upd G a (.aB o (.tup us))):=Le.new (s.fresh ha).2;exact p as _ _ (aai _) l (s.ux ha) _ ⟨a,us,rfl,⟨o,ao,ho⟩,r.mono (aai _) l⟩
theorem fF {st:aa} {G H:Hp} {Q:VK} {Z:XK} (s:Sim T st as G H) (r:ae T as G xs us) (p:ab T as G (new (.lst xs) st) (PV T Q) Z) {a:Addr} (ha:H a=none):Q (.ref a) (upd H a (.lst us)):=by
 refine p (as++[a]) G _ (aat _ _) (Le.refl _) (s.push ha ⟨us,ao,r.mono (aat _ _) (Le.refl _)⟩) _ ⟨a, ?_,rfl⟩;rw[←s.len,aan (aag _)];simp
theorem Cs (hK:T.K=X.K):aD X (binaryOp .Add) (cx T fI):=by
 refine aD.imp (((D8 (X:=X)).or ve).or ((BE (X:=X)).or CI)) λu w H Q z904=> ?_;let⟨st,as,G,x,y,Z,s,r1,r2,p⟩:=z904
 cases x with
 |int i=>cases y with
  |int j=>
   cases r1;cases r2;exact .inl (.inl ⟨i,j,rfl,rfl,p.ok s _ rfl⟩)
  |_=>exact p.elim
 |str i=>cases y with
  |str j=>
   cases r1;cases r2;let⟨c,p⟩:=ab.iff p;have z:sizeLine=2^24:=rfl;exact .inl (.inr ⟨i,j,rfl,rfl,by lia,p.ok s _ rfl⟩)
  |_=>exact p.elim
 |tup fl xs=>cases y with
  |tup fl ys=>
   let⟨a,us,rfl,q1,s1⟩:=r1;let⟨b,ws,rfl,q2,s2⟩:=r2;let⟨c,p⟩:=ab.iff p;have z:sizeLine=2^24:=rfl;refine .inr (.inl ⟨a,b,us,ws,rfl,rfl,ba s.sub q1,ba s.sub q2,λz=>c.1 ?_,by rw[←s1.length,←s2.length];lia,λz=> ?_,λ_ l hl=>nF s (s1.append s2) p hl⟩)
   ·have:=s1.length;rw[z] at this;exact aaF this
   ·refine absurd ?_ c.2.1;have:=s2.length;rw[z] at this;exact aaF this
  |_=>exact p.elim
 |lst xs=>cases y with
  |lst ys=>
   let⟨a,us,rfl,q1,s1⟩:=r1;let⟨b,ws,rfl,q2,s2⟩:=r2;let⟨c,p⟩:=ab.iff p;have z:sizeLine=2^24:=rfl;exact .inr (.inr ⟨a,b,us,ws,rfl,rfl,hK▸q1,hK▸q2,by rw[←s1.length,←s2.length];lia,λl hl=>fF s (s1.append s2) p hl⟩)
  |_=>exact p.elim
 |_=>exact p.elim
theorem Er (hK:T.K=X.K) (hu:X.A.units+8<cLine):aD X (compareOp .Eq) (cx T λx y st=>cP (bw .Eq x y st)):=
 aD.imp (vg hK hu) λu w H Q z904=>by
  let⟨st,as,G,x,y,Z,s,r1,r2,p⟩:=z904;let⟨b,e,p⟩:=ab.ak (show ab T as G ((R.ak (eqv 8 x y) st).bind λb st=> .ok (.bl b) st) (PV T Q) Z from p);exact⟨as,x,y,b,r1.rel s.sub,r2.rel s.sub,e,p.ok s _ rfl⟩
theorem Ei (hK:T.K=X.K) (hu:X.A.units+8<cLine):aD X (compareOp .NotEq) (cx T λx y st=>cP (bw .NotEq x y st)):=
 aD.imp (uF hK hu) λu w H Q z904=>by
  let⟨st,as,G,x,y,Z,s,r1,r2,p⟩:=z904;let⟨c,e,p⟩:=ab.ak (show ab T as G ((R.ak ((eqv 8 x y).map λb=> !b) st).bind λb st=> .ok (.bl b) st) (PV T Q) Z from p);let⟨b,e1,e2⟩:=aab.mp e;subst e2;exact⟨as,x,y,b,r1.rel s.sub,r2.rel s.sub,e1,p.ok s _ rfl⟩
theorem t9 {G H:Hp} {v:Val} {u:L2.V} (h:cY T as G H v u):decide (u= .non)=gg v:=by
 cases v with
 |non=>cases h;rfl
 |bl b=>cases h;rfl
 |int b=>cases h;rfl
 |str b=>cases h;rfl
 |ref k=>exact h.elim
 |tup fl xs=>let⟨a,us,rfl,_⟩:=h;rfl
 |lst xs=>let⟨a,us,rfl,_⟩:=h;rfl
 |dct ks vs=>let⟨a,us,rfl,_⟩:=h;rfl
 |obj c ns vs=>let⟨a,us,rfl,_⟩:=h;rfl
theorem aD.or {f:Value->Value->Sem Value} {r r':L2.V->L2.V->Hp->VK->Prop} (h:aD X f r) (h':aD X f r'):aD X f (λx y H Q=>r x y H Q∨r' x y H Q):=λpins s σ H x y v u Q I rx ry q=>q.elim (h pins s σ H x y v u Q I rx ry) (h' pins s σ H x y v u Q I rx ry)
theorem bool_beq (a b:Bool):(Value.bool a==Value.bool b)=(a==b):=by cases a<;>cases b<;>decide
theorem Ed:aD X (compareOp .Is) (λx y H Q=>∃a b,x= .bl a/\y= .bl b/\Q (.bl (a==b)) H):=by
 intro pins s σ H x y v u Q I rx ry ⟨a,b,e1,e2,q⟩;subst e1 e2;cases rx;cases ry;exact wpAny_is_plain rfl (L2.lI I q (bool_beq a b).symm)
theorem Cg:aD X (compareOp .IsNot) (λx y H Q=>∃a b,x= .bl a/\y= .bl b/\Q (.bl (!(a==b))) H):=by
 intro pins s σ H x y v u Q I rx ry ⟨a,b,e1,e2,q⟩;subst e1 e2;cases rx;cases ry;exact wpAny_isNot_plain rfl (L2.lI I q (by rw[bool_beq]))
theorem Fy:aD X (compareOp .Is) (cx T λx y st=>cP (bw .Is x y st)):=
 aD.imp (aD.or DF Ed) λu w H Q z904=>by
  let⟨st,as,G,x,y,Z,s,r1,r2,p⟩:=z904
  cases y with
  |non=>
   cases r2;refine .inl ⟨rfl, ?_⟩;rw[t9 r1];exact p.ok s _ rfl
  |bl b=>cases x with
   |bl a=>
    cases r1;cases r2;exact .inr ⟨a,b,rfl,rfl,p.ok s _ rfl⟩
   |_=>exact p.elim
  |_=>exact p.elim
theorem vG:aD X (compareOp .IsNot) (cx T λx y st=>cP (bw .IsNot x y st)):=
 aD.imp (aD.or BK Cg) λu w H Q z904=>by
  let⟨st,as,G,x,y,Z,s,r1,r2,p⟩:=z904
  cases y with
  |non=>
   cases r2;refine .inl ⟨rfl, ?_⟩;rw[t9 r1];exact p.ok s _ rfl
  |bl b=>cases x with
   |bl a=>
    cases r1;cases r2;exact .inr ⟨a,b,rfl,rfl,p.ok s _ rfl⟩
   |_=>exact p.elim
  |_=>exact p.elim
end
end PI
namespace PI
open PySem L2 L2.L3 L2.L4 PySem.SeqAt
section
variable {T:CT} {X:Cx} {pins:List (Addr×Obj)} {σ:St} {as:List Addr} {G H:Hp} {s:Shared}
theorem yx {g:Val->Val->Option Bool} (ih:∀v v' w u b b',Rel T as G v u->Rel T as G v' u->g v w=some b->g v' w=some b'->b=b') (us:List L2.V) (xs xs' ys:List Val) (b b':Bool) (r:ae T as G xs us) (r':ae T as G xs' us) (e:cy g xs ys=some b) (e':cy g xs' ys=some b'):b=b':=by
 let⟨i1,i2⟩:=cA g xs ys b e;let⟨j1,j2⟩:=cA g xs' ys b' e';have ln:xs.length=xs'.length:=r.length.trans r'.length.symm;rw[i1,j1,ln];refine congrArg (· &&_) (aaN.mpr ?_);rw[abo,abo]
 have at_:∀j∈List.range (min xs'.length ys.length),oA g xs ys j=oA g xs' ys j:=λj hj=>by
  have hj':=abr.mp hj;let⟨x,e1⟩:=eF (show j<xs.length by lia);let⟨x',e2⟩:=eF (show j<xs'.length by lia);let⟨y,e3⟩:=eF (show j<ys.length by lia);let⟨u1,q1,s1⟩:=r.get e1;let⟨u2,q2,s2⟩:=r'.get e2;rw[q1] at q2;cases q2;exact ih _ _ _ _ _ _ s1 s2 (i2 j _ _ e1 e3) (j2 j _ _ e2 e3)
 exact⟨λh j hj=>(at_ j hj)▸h j hj,λh j hj=>(at_ j hj).symm▸h j hj⟩
theorem rm (I:Inv X pins σ H s) (hK:T.K=X.K) (l:Le G H) {f:List Val->List Val->Option Bool} (hf:∀us xs xs' ys b b',ae T as G xs us->ae T as G xs' us->f xs ys=some b->f xs' ys=some b'->b=b')
  {v w:Val} {u:L2.V} {b b':Bool} (r1:Rel T as G v u) (r2:Rel T as G v' u) (c:fM f v w b) (c':fM f v' w b'):b=b':=by
 cases c with
 |non=>cases c';rfl
 |bl a c=>cases c';cases r1;cases r2;rfl
 |int a c=>cases c'<;>cases r1<;>cases r2;rfl
 |str a c=>cases c'<;>cases r1<;>cases r2;rfl
 |is a c=>cases c'<;>cases r1<;>cases r2;rfl
 |si a c=>cases c'<;>cases r1<;>cases r2;rfl
 |tup p q xs ys b e=>
  cases c' with
  |tup p' _ xs' _ b' e'=>
   let⟨a,us,rfl,h1,h2⟩:=r1;let⟨a',us',z,h3,h4⟩:=r2;cases z;cases (I.gF (ba l h1) (ba l h3):us=us');exact hf _ _ _ _ _ _ h2 h4 e e'
 |lst xs ys b e=>
  cases c' with
  |lst xs' _ b' e'=>
   let⟨a,us,rfl,h1,h2⟩:=r1;let⟨a',us',z,h3,h4⟩:=r2;cases z;cases (I.iP (hK▸bV l h1) (hK▸bV l h3):us=us');exact hf _ _ _ _ _ _ h2 h4 e e'
theorem tN (I:Inv X pins σ H s) (hK:T.K=X.K) (l:Le G H):∀(d:Nat) {v v' w:Val} {u:L2.V} {b b':Bool},Rel T as G v u->Rel T as G v' u->eqv d v w=some b->eqv d v' w=some b'->b=b'
 |0,_,_,_,_,_,_,r1,r2,e,e'=>rm I hK l (λ_ _ _ _ _ _ _ _ z=>(by cases z)) r1 r2 (fP e) (fP e')
 |d+1,_,_,_,_,_,_,r1,r2,e,e'=>rm I hK l (f:=cy (eqv d)) (yx (g:=eqv d) λ_ _ _ _ _ _ r1 r2 e e'=>tN I hK l d r1 r2 e e') r1 r2 (fP e) (fP e')
theorem tI {x:Val}:∀{ys:List Val} {b:Bool},dG x ys=some b->(∀y∈ys,∃c,eqv 8 y x=some c)/\(b=true↔∃y∈ys,eqv 8 y x=some true)
 |[],b,e=>by
  cases e;exact⟨λy h=>(by cases h),by simp⟩
 |y::ys,b,e=>by
  unfold dG at e
  cases e1:eqv 8 y x with
  |none=>rw[e1] at e;cases e
  |some c=>
   cases e2:dG x ys with
   |none=>rw[e1,e2] at e;cases e
   |some c'=>
    rw[e1,e2] at e;cases e;let⟨i1,i2⟩:=tI e2;refine⟨λy' hy=> ?_, ?_⟩
    ·rcases aau.mp hy with z|z
     ·rw[z];exact⟨c,e1⟩
     ·exact i1 y' z
    ·simp only[abB,aau,exists_eq_or_imp,e1,i2,Option.some.injEq]
noncomputable def He:Value->L2.V
 | .bool b=> .bl b
 | .int i _=> .int i
 | .str i _=> .str i
 | .bytes i _=> .byt i
 | .float i _=> .flt i
 | .ref a=> .ref a
 | .type n=> .ty n
 |_=> .non
theorem RelV.back {u:L2.V} {x:Value} (h:RelV u x):He x=u:=by
 cases u with
 |non=>cases h;rfl
 |bl b=>cases h;rfl
 |int i=>let⟨t,rfl⟩:=h;rfl
 |str i=>let⟨t,rfl⟩:=h;rfl
 |byt i=>let⟨t,rfl⟩:=h;rfl
 |flt i=>let⟨t,rfl⟩:=h;rfl
 |ref a=>cases h;rfl
 |ty n=>cases h;rfl
theorem RelV.one {u:L2.V} {x:Value} (h:RelV u x) (h':RelV u' x):u=u':=(RelV.back h).symm.trans (RelV.back h')
open Classical in
noncomputable def isIn (T:CT) (as:List Addr) (G:Hp) (ys:List Val) (us:List L2.V) (x:Val) (z:Value):Bool:=decide (∃(j:Nat) (v:Val) (u:L2.V),ys[j]?=some v/\us[j]?=some u/\RelV u z/\eqv 8 v x=some true)
open Classical in
theorem iB (I:Inv X pins σ H s) (hK:T.K=X.K) (l:Le G H) {A:Around} (hA:A.units+8<cLine) {x:Val} {u:L2.V} {xv:Value} {its:List Value} {b:Bool} (rx:Rel T as G x u) (qx:RelV u xv) (r:ae T as G ys us) (q:Vals us its) (e:dG x ys=some b):
  (∀z,z∈its.toArray->EqAt A s z xv (isIn T as G ys us x z))/\its.toArray.any (isIn T as G ys us x)=b:=by
 let⟨m1,m2⟩:=tI e
 have at_:∀(j:Nat) z,its[j]?=some z->∃v u',ys[j]?=some v/\us[j]?=some u'/\Rel T as G v u'/\RelV u' z:=λj z hz=>by
  have lj:j<ys.length:=by rw[r.length,q.length];exact(aae.mp hz).1
  have e1:ys[j]?=some ys[j]:=aac lj;let⟨u',e2,h1⟩:=r.get e1;let⟨z',e3,h2⟩:=Vals.get q e2;rw[hz] at e3;cases e3;exact⟨_,u',e1,e2,h1,h2⟩
 have val:∀(j:Nat) z v u' c,ys[j]?=some v->us[j]?=some u'->RelV u' z->Rel T as G v u'->eqv 8 v x=some c->isIn T as G ys us x z=c:=λj z v u' c e1 e2 h1 h2 ec=>by
  cases c with
  |true=>exact abh ⟨j,v,u',e1,e2,h1,ec⟩
  |false=>
   refine aaA λz900=> ?_;let⟨k,v',u2,a1,a2,a3,a4⟩:=z900;have z2:=RelV.one h1 a3;subst z2;let⟨u3,b1,b2⟩:=r.get a1;rw[a2] at b1;cases b1;cases tN I hK l 8 h2 b2 ec a4
 refine⟨λz hz=> ?_, ?_⟩
 ·let⟨j,hj⟩:=abu.mp (show z∈its by simpa using hz);let⟨v,u',e1,e2,h1,h2⟩:=at_ j z hj;let⟨c,ec⟩:=m1 v (aas e1);rw[val j z v u' c e1 e2 h2 h1 ec];exact j4 I hK l 8 hA ec h1 rx h2 qx
 ·rw[aaN,m2,List.any_toArray,acE];constructor
  ·rintro ⟨z,hz,t⟩
   let⟨j,v,u',e1,e2,h1,h2⟩:=acv t;exact⟨v,aas e1,h2⟩
  ·rintro ⟨v,hv,ev⟩
   let⟨j,hj⟩:=abu.mp hv;let⟨u',e2,h1⟩:=r.get hj;let⟨z,e3,h2⟩:=Vals.get q e2;exact⟨z,aas e3,val j z v u' true hj e2 h2 h1 ev⟩
end
section
variable {T:CT} {X:Cx}
def FI (neg:Bool) (x:Val):Val->aa->R Bool
 | .tup _ ys,st=>R.ak ((dG x ys).map λb=>if neg=true then !b else b) st
 | .lst ys,st=>R.ak ((dG x ys).map λb=>if neg=true then !b else b) st
 |_,_=> .stuck
theorem wJ (hK:T.K=X.K) (hu:X.A.units+9<cLine):aD X (compareOp .In) (cx T λx y st=>cP (FI false x y st)):=by
 intro pins s σ H u w uv wv Q I ru rw' ⟨st,as,G,x,y,Z,sm,r1,r2,p⟩
 have hA:X.A.in1.units+8<cLine:=by show X.A.units+1+8<cLine;lia
 cases y with
 |tup fl ys=>
  let⟨a,us,rfl,q1,s1⟩:=r2;cases rw';let⟨v,e,p⟩:=ab.ak (show ab T as G ((R.ak ((dG x ys).map λb=>b) st).bind λb st=> .ok (.bl b) st) (PV T Q) Z from p);let⟨b,e1,e2⟩:=aab.mp e;subst e2;let⟨its,v1,t1,_⟩:=aL (b:=false) I (ba sm.sub q1);let⟨c1,c2⟩:=iB (A:=X.A.in1) I hK (Le.refl _) hA (r1.rel sm.sub) ru (s1.mono (aai _) sm.sub) v1 e1;refine in_tupleAt _ t1 c1 ?_;rw[c2];exact⟨.bl b,H,I,rfl,p.ok sm _ rfl⟩
 |lst ys=>
  let⟨a,us,rfl,q1,s1⟩:=r2;cases rw';let⟨v,e,p⟩:=ab.ak (show ab T as G ((R.ak ((dG x ys).map λb=>b) st).bind λb st=> .ok (.bl b) st) (PV T Q) Z from p);let⟨b,e1,e2⟩:=aab.mp e;subst e2;let⟨its,v1,t1,_⟩:=aL (b:=true) I (hK▸q1);let⟨c1,c2⟩:=iB (A:=X.A.in1) I hK (Le.refl _) hA (r1.rel sm.sub) ru (s1.mono (aai _) sm.sub) v1 e1;refine in_listAt _ t1 c1 ?_;rw[c2];exact⟨.bl b,H,I,rfl,p.ok sm _ rfl⟩
 |_=>exact p.elim
theorem oB (hK:T.K=X.K) (hu:X.A.units+9<cLine):aD X (compareOp .NotIn) (cx T λx y st=>cP (FI true x y st)):=by
 intro pins s σ H u w uv wv Q I ru rw' ⟨st,as,G,x,y,Z,sm,r1,r2,p⟩
 have hA:X.A.in1.units+8<cLine:=by show X.A.units+1+8<cLine;lia
 cases y with
 |tup fl ys=>
  let⟨a,us,rfl,q1,s1⟩:=r2;cases rw';let⟨v,e,p⟩:=ab.ak (show ab T as G ((R.ak ((dG x ys).map λb=> !b) st).bind λb st=> .ok (.bl b) st) (PV T Q) Z from p);let⟨b,e1,e2⟩:=aab.mp e;subst e2;let⟨its,v1,t1,_⟩:=aL (b:=false) I (ba sm.sub q1);let⟨c1,c2⟩:=iB (A:=X.A.in1) I hK (Le.refl _) hA (r1.rel sm.sub) ru (s1.mono (aai _) sm.sub) v1 e1;refine notIn_tupleAt _ t1 c1 ?_;rw[c2];exact⟨.bl !b,H,I,rfl,p.ok sm _ rfl⟩
 |lst ys=>
  let⟨a,us,rfl,q1,s1⟩:=r2;cases rw';let⟨v,e,p⟩:=ab.ak (show ab T as G ((R.ak ((dG x ys).map λb=> !b) st).bind λb st=> .ok (.bl b) st) (PV T Q) Z from p);let⟨b,e1,e2⟩:=aab.mp e;subst e2;let⟨its,v1,t1,_⟩:=aL (b:=true) I (hK▸q1);let⟨c1,c2⟩:=iB (A:=X.A.in1) I hK (Le.refl _) hA (r1.rel sm.sub) ru (s1.mono (aai _) sm.sub) v1 e1;refine notIn_listAt _ t1 c1 ?_;rw[c2];exact⟨.bl !b,H,I,rfl,p.ok sm _ rfl⟩
 |_=>exact p.elim
end
section
variable {T:CT} {P:Pg} {cl:ar} {E:XS} {X:Cx} {pos:Pos}
theorem JN {a b:Expr} {op:Operator} (ho:aD X (binaryOp op) (cx T (eJ op))) (ha:PE X a (tE T P cl E ia)) (hb:PE X b (tE T P cl E ib)):PE X (.BinOp a op b pos) (tE T P cl E (.bin op ia ib)):=
 Hq ho ha hb λs r1 r2 p=>⟨_,_,_,_,_,_,s,r1,r2,p⟩
theorem Ko {a b:Expr} {op:CmpOp} (ho:aD X (compareOp op) (cx T λx y st=>cP (bw op x y st))) (hm:behindInMarks op b=false) (ha:PE X a (tE T P cl E ia)) (hb:PE X b (tE T P cl E ib)):PE X (.Compare a [op] [b] pos) (tE T P cl E (.cmp op ia ib)):=
 F3 ho hm ha hb λs r1 r2 p=>⟨_,_,_,_,_,_,s,r1,r2,p⟩
theorem Hn {a b:Expr} {rest:List Expr} (ha:PE X a (tE T P cl E ia)) (hb:PE X (.BoolOp .And (b::rest) pos) (tE T P cl E ib)):PE X (.BoolOp .And (a::b::rest) pos) (tE T P cl E (.and ia ib)):=
 PE.mono (FH ha hb) λσ H Q z903=>by
  let⟨env,st,as,G,s,er,h⟩:=z903;dsimp only[PI.E.run] at h;refine aA s er h λx st1 as1 G1 H1 u s1 er1 r1 p1 l1 h=> ?_
  cases x with
  |bl t=>
   cases r1;refine⟨t,rfl, ?_⟩
   cases t with
   |true=>exact nB ⟨env,st1,as1,G1,s1,er1,h⟩
   |false=>exact nk (h.ok s1 _ rfl)
  |_=>exact h.elim
theorem IZ {a b:Expr} {rest:List Expr} (ha:PE X a (tE T P cl E ia)) (hb:PE X (.BoolOp .Or (b::rest) pos) (tE T P cl E ib)):PE X (.BoolOp .Or (a::b::rest) pos) (tE T P cl E (.or ia ib)):=
 PE.mono (Gy ha hb) λσ H Q z903=>by
  let⟨env,st,as,G,s,er,h⟩:=z903;dsimp only[PI.E.run] at h;refine aA s er h λx st1 as1 G1 H1 u s1 er1 r1 p1 l1 h=> ?_
  cases x with
  |bl t=>
   cases r1;refine⟨t,rfl, ?_⟩
   cases t with
   |true=>exact nB (h.ok s1 _ rfl)
   |false=>exact nk ⟨env,st1,as1,G1,s1,er1,h⟩
  |_=>exact h.elim
theorem Ho {a:Expr} (ha:PE X a (tE T P cl E ia)):PE X (.UnaryOp .Not a pos) (tE T P cl E (.not ia)):=
 PE.mono (D3 ha) λσ H Q z903=>by
  let⟨env,st,as,G,s,er,h⟩:=z903;dsimp only[PI.E.run] at h;refine aA s er h λx st1 as1 G1 H1 u s1 er1 r1 p1 l1 h=> ?_
  cases x with
  |bl t=>
   cases r1;exact⟨t,rfl,h.ok s1 _ rfl⟩
  |_=>exact h.elim
theorem Ea {st:aa} {G H:Hp} {x:Val} {u:L2.V} {b:Bool} (hK:T.K=X.K) (s:Sim T st as G H) (r:cY T as G H x u) (e:truth x=some b):zF X.K u H b:=by
 cases x with
 |non=>cases r;cases e;rfl
 |bl t=>cases r;cases e;rfl
 |int i=>cases r;cases e;rfl
 |str y=>
  cases r;replace e:(if y.length<=1000 then some ((y.length:Int) !=0) else none)=some b:=e;split at e
  ·rename_i c;cases e;have z:sizeLine=2^24:=rfl;exact⟨by lia,rfl⟩
  ·cases e
 |tup fl xs=>
  let⟨a,us,rfl,q,r⟩:=r;cases e;refine .inr (.inl ⟨us,ba s.sub q, ?_⟩)
  cases xs with
  |nil=>cases r;rfl
  |cons x xs=>let⟨_,_,rfl,_⟩:=r;rfl
 |lst xs=>
  let⟨a,us,rfl,q,r⟩:=r;cases e;refine .inl ⟨us,hK▸q, ?_⟩
  cases xs with
  |nil=>cases r;rfl
  |cons x xs=>let⟨_,_,rfl,_⟩:=r;rfl
 |dct ks vs=>cases e
 |obj c ns vs=>cases e
 |ref k=>cases e
theorem GZ {a:Expr} (hK:T.K=X.K) (ha:PE X a (tE T P cl E ia)) (he:∀whole,isTrue a X.env whole=(do let v←whole;standAt a.pos;holding [v] (truthy v))):PT X a (tT T P cl E ia):=
 PT.mono (yg ha he) λσ H Q z903=>by
  let⟨env,st,as,G,s,er,h⟩:=z903;dsimp only[runC] at h;refine aA s er h λx st1 as1 G1 H1 u s1 er1 r1 p1 l1 h=> ?_;let⟨b,e,h⟩:=ab.dy h;exact⟨b,Ea hK s1 (aV s1 r1) e,h.ok s1⟩
theorem Gg {a b:Expr} {op:CmpOp} (ho:aD X (compareOp op) (cx T λx y st=>cP (bw op x y st))) (hm:behindInMarks op b=false) (ha:PE X a (tE T P cl E ia)) (hb:PE X b (tE T P cl E ib)):PT X (.Compare a [op] [b] pos) (tT T P cl E (.cmp op ia ib)):=
 PT.mono (Bz ho ha hb hm) λσ H Q z903=>by
  let⟨env,st,as,G,s,er,h⟩:=z903;dsimp only[runC,PI.E.run] at h;have h2:=h.bind;refine aA s er h2 λx st1 as1 G1 H1 u s1 er1 r1 p1 l1 h=> ?_;refine aA s1 er1 h λy st2 as2 G2 H2 w s2 er2 r2 p2 l2 h=> ?_;refine⟨st2,as2,G2,_,_,E σ,s2,aV s2 (r1.mono p2 l2),aV s2 r2, ?_⟩;show ab T as2 G2 (cP (bw op (res st2 x) (res st2 y) st2)) _ _
  cases e:bw op (res st2 x) (res st2 y) st2 with
  |stuck=>rw[e] at h;exact h.elim
  |exc x st=>rw[e] at h;exact h
  |ok b st3=>
   rw[e] at h;exact λas' G' H' p l s u ru=>⟨b,ru,(h as' G' H' p l s).ok s⟩
theorem ra {e:PI.E} {env:Env} {st:aa} {G H:Hp} {σ:St} {f:Val->aa->R Bool} {Q K:Bool->Hp->Prop} (s:Sim T st as G H) (er:aH T as G env σ)
  (h:ab T as G ((e.run P cl env st).bind f) (λb _ _ _ H'=>Q b H') (E σ))
  (k:∀t st1 as1 G1 H1,Sim T st1 as1 G1 H1->aH T as1 G1 env σ->ab T as1 G1 (f (.bl t) st1) (λb _ _ _ H'=>Q b H') (E σ)->K t H1) (hb:∀v st,(∀t,v≠ .bl t)->f v st= .stuck):tT T P cl E e σ H K:=by
 refine⟨env,st,as,G,s,er, ?_⟩;unfold runC
 cases e1:e.run P cl env st with
 |stuck=>rw[e1] at h;exact h.elim
 |exc x st=>rw[e1] at h;exact h
 |ok v st1=>
  rw[e1] at h;replace h:ab T as G (f v st1) (λb _ _ _ H'=>Q b H') (E σ):=h
  by_cases z:∃t,v= .bl t
  ·let⟨t,rfl⟩:=z;exact λas' G' H' p l s'=>k t st1 as' G' H' s' (er.mono p l) (h.mono p l)
  ·rw[hb v st1 λt q=>z ⟨t,q⟩] at h;exact h.elim
theorem kL {β:Type} {v:Val} {st:aa} {f:Bool->aa->R β} (h:∀t,v≠ .bl t):(gL v st).bind f= .stuck:=by
 cases v with
 |bl t=>exact absurd rfl (h t)
 |_=>rfl
theorem R.bind_assoc {α β γ:Type} (r:R α) (f:α->aa->R β) (g:β->aa->R γ):(r.bind f).bind g=r.bind λa st=>(f a st).bind g:=by
 cases r<;>rfl
theorem GA {a:Expr} (ha:PT X a (tT T P cl E ia)):PT X (.UnaryOp .Not a pos) (tT T P cl E (.not ia)):=
 PT.mono (Ee ha) λσ H Q z903=>by
  let⟨env,st,as,G,s,er,h⟩:=z903;dsimp only[runC,PI.E.run] at h;rw[R.bind_assoc] at h
  exact ra s er h (λt st1 as1 G1 H1 s1 er1 h=>h.ok s1) λv st n=>by rw[kL n];rfl
theorem Ga {a b:Expr} {rest:List Expr} (ha:PT X a (tT T P cl E ia)) (hb:PW X (.BoolOp .And (b::rest) pos) (tT T P cl E ib)):PW X (.BoolOp .And (a::b::rest) pos) (tT T P cl E (.and ia ib)):=λwh pins s0 σ H Q I z907=>by
 let⟨env,st,as,G,s,er,h⟩:=z907;refine E5 ha hb wh pins s0 σ H Q I ?_;dsimp only[runC,PI.E.run] at h;rw[R.bind_assoc] at h
 refine ra s er h (λt st1 as1 G1 H1 s1 er1 h=> ?_) λv st n=>by rw[kL n];rfl
 cases t with
 |true=>exact nB ⟨env,st1,as1,G1,s1,er1,h⟩
 |false=>exact nk (h.ok s1)
theorem Jh {a b:Expr} {rest:List Expr} (ha:PT X a (tT T P cl E ia)) (hb:PW X (.BoolOp .Or (b::rest) pos) (tT T P cl E ib)):PW X (.BoolOp .Or (a::b::rest) pos) (tT T P cl E (.or ia ib)):=λwh pins s0 σ H Q I z907=>by
 let⟨env,st,as,G,s,er,h⟩:=z907;refine Gw ha hb wh pins s0 σ H Q I ?_;dsimp only[runC,PI.E.run] at h;rw[R.bind_assoc] at h
 refine ra s er h (λt st1 as1 G1 H1 s1 er1 h=> ?_) λv st n=>by rw[kL n];rfl
 cases t with
 |true=>exact nB (h.ok s1)
 |false=>exact nk ⟨env,st1,as1,G1,s1,er1,h⟩
theorem uV:PA X [] (fe T P cl E []):=PA.mono jw λσ H Q z903=>by let⟨env,st,as,G,s,er,h⟩:=z903;exact h.ok s _ rfl
theorem mm {e:Expr} {es:List Expr} {ies:List PI.E} (ha:PE X e (tE T P cl E ie)) (hr:PA X es (fe T P cl E ies)) (hs:starEach (e::es) X.env=(false,eval e X.env)::starEach es X.env):PA X (e::es) (fe T P cl E (ie::ies)):=
 PA.mono (fE ha hr hs) λσ H Q z903=>by
  let⟨env,st,as,G,s,er,h⟩:=z903;dsimp only[aN] at h;refine aA s er h λx st1 as1 G1 H1 u s1 er1 r1 p1 l1 h=> ?_;refine cV s1 er1 h λxs st2 as2 G2 H2 us s2 er2 r2 p2 l2 h=> ?_;exact h.ok s2 _ ⟨u,us,rfl,r1.mono p2 l2,r2⟩
theorem FR {es:List Expr} {ies:List PI.E} {k:Nat} (h:PA X es (fe T P cl E ies)):PE X (.Tuple es k pos) (tE T P cl E (.tup ies)):=
 PE.mono (Eo h) λσ H Q z903=>by
  let⟨env,st,as,G,s,er,h⟩:=z903;dsimp only[PI.E.run] at h;refine cV s er h λxs st1 as1 G1 H1 us s1 er1 r1 p1 l1 h=> ?_;let⟨c,h⟩:=ab.iff h;have z:sizeLine=2^24:=rfl;exact⟨by rw[←r1.length];lia,λl hl=>nF s1 r1 h hl⟩
theorem G8 {es:List Expr} {ies:List PI.E} (h:PA X es (fe T P cl E ies)):PE X (.List es pos) (tE T P cl E (.lst ies)):=
 PE.mono (CW h) λσ H Q z903=>by
  let⟨env,st,as,G,s,er,h⟩:=z903;dsimp only[PI.E.run] at h;refine cV s er h λxs st1 as1 G1 H1 us s1 er1 r1 p1 l1 h=> ?_;let⟨c,h⟩:=ab.iff h;have z:sizeLine=2^24:=rfl;exact⟨by rw[←r1.length];lia,λl hl=>fF s1 r1 h hl⟩
end
structure COk (T:CT) (P:Pg):Prop where
 xc:∀(c:Nat) k,(P.cl c)=some k->T.xc c=k.exc
 cl:∀(c:Nat) k,(P.cl c)=some k->k.exc=false->Cls T.K (T.ca c)
 na:∀(c:Nat) k f,(P.cl c)=some k->k.exc=false->f∈k.flds->dW T.K (T.ca c) f
theorem tJ {P:Pg} {c:Nat} {f:Str} (h:dY P c f=true):∃k,(P.cl c)=some k/\f∈k.flds:=by
 unfold dY at h
 cases e:(P.cl c) with
 |none=>rw[e] at h;cases h
 |some k=>
  rw[e] at h;exact⟨k,rfl,by simpa using h⟩
theorem nS {T:CT} {G:Hp} {f:Str}:∀{ns:List Str} {vs:List Val} {us:List L2.V} {v:Val},ae T as G vs us->eh ns vs f=some v->∃u,(ns.zip us).lookup f=some u/\Rel T as G v u
 |[],_,_,_,_,e=>by cases e
 |_::_,[],_,_,_,e=>by cases e
 |n::ns,x::vs,_,v,⟨u,t,rfl,h,r⟩,e=>by
  unfold eh at e;rw[aaT,aaK]
  by_cases z:n=f
  ·rw[if_pos z] at e;cases e;rw[show (f==n)=true by rw[z];simp];exact⟨u,rfl,h⟩
  ·rw[if_neg z] at e;rw[show (f==n)=false by simpa using λq=>z q.symm];exact nS r e
section
variable {T:CT} {P:Pg} {cl:ar} {E:XS} {X:Cx} {pos:Pos}
theorem Ge {f:Str} (hK:T.K=X.K) (C:COk T P) (ho:PE X o (tE T P cl E io)) (hb:attributeBase o f X.env (eval o X.env)=eval o X.env) (hx:∀(c:Nat) k,(P.cl c)=some k->f∈k.flds->k.exc=false):PE X (.Attribute o f pos) (tE T P cl E (.fld io f)):=
 PE.mono (FL ho hb) λσ H Q z903=>by
  let⟨env,st,as,G,s,er,h⟩:=z903;dsimp only[PI.E.run] at h;refine aA s er h λx st1 as1 G1 H1 u s1 er1 r1 p1 l1 h=> ?_;have r2:=aV s1 r1;generalize res st1 x=y at h r2
  cases y with
  |obj c ns vs=>
   let⟨hc,h⟩:=ab.iff h;let⟨k,e1,e2⟩:=tJ hc;have ex:=hx c k e1 e2;let⟨a,us,rfl,n,r,q⟩:=r2;rw[if_neg (by rw[C.xc c k e1,ex];decide)] at q;let⟨dx,q⟩:=q;let⟨v,e3,h⟩:=ab.dy h;let⟨w,e4,r4⟩:=nS r e3;exact⟨a,T.ca c,dx,_,w,rfl,q,hK▸C.cl c k e1 ex,hK▸C.na c k f e1 ex e2,e4,h.ok s1 _ r4⟩
  |_=>exact h.elim
end
end PI
namespace PI
open PySem PySem.Spec L2 L2.L3 L2.L4 PySem.SeqAt
open PyProof.Rows hiding St lobj
def pP (T:CT) (as:List Addr) (G H:Hp):List Val->List L2.V->Prop
 |[],us=>us=[]
 |v::r,us=>∃u t,us=u::t/\cY T as G H v u/\pP T as G H r t
theorem kR {T:CT} {st:aa} {G H:Hp} (s:Sim T st as G H):∀{vs:List Val} {us:List L2.V},ae T as G vs us->pP T as G H (vs.map (res st)) us
 |[],_,h=>h
 |_::_,_,⟨u,t,e,h,r⟩=>⟨u,t,e,aV s h,kR s r⟩
def jB (T:CT) (b:Bi):List L2.V->Hp->VK->Prop:=λus H Q=>∃st as G xs Z,Sim T st as G H/\pP T as G H xs us/\ab T as G (qt b xs st) (PV T Q) Z
theorem au.imp {X:Cx} {f:Value} {r r':List L2.V->Hp->VK->Prop} (h:au X f r) (k:∀xs H Q,r' xs H Q->r xs H Q):au X f r':=λpins s σ H xs us Q I rv q=>h pins s σ H xs us Q I rv (k xs H Q q)
theorem au.or {X:Cx} {f:Value} {r r':List L2.V->Hp->VK->Prop} (h:au X f r) (h':au X f r'):au X f (λxs H Q=>r xs H Q∨r' xs H Q):=λpins s σ H xs us Q I rv q=>q.elim (h pins s σ H xs us Q I rv) (h' pins s σ H xs us Q I rv)
section
variable {T:CT} {P:Pg} {cl:ar} {E:XS} {X:Cx} {pos:Pos}
theorem GW {b:Bi} {id:String} {x:Str} {p:Pos} {e:Expr} {es:List Expr} {ies:List PI.E} (hc:au X (.builtin id) (jB T b)) (hg:Gl X x) (hm:X.mg x=none) (hv:bootBuiltins x=some (.builtin id)) (ha:PA X (e::es) (fe T P cl E ies)) (hn:x≠"__name__") (hdb:(x==("__debug__":Str))=false)
  (he:starEach (e::es) X.env=(false,eval e X.env)::starEach es X.env) (hpl:(backTo pos (starEach es X.env)).any (·.1)=false):PE X (.Call (.Name x p) (e::es) [] pos) (tE T P cl E (.bi b ies)):=
 PE.mono (qh hc hg hm hv ha hn hdb he hpl) λσ H Q z903=>by
  let⟨env,st,as,G,s,er,h⟩:=z903;dsimp only[PI.E.run] at h;refine cV s er h λxs st1 as1 G1 H1 us s1 er1 r1 p1 l1 h=> ?_;exact⟨st1,as1,G1,_,_,s1,kR s1 r1,h⟩
theorem Hr {b:Bi} {id:String} {x:Str} {p:Pos} {e:Expr} {es:List Expr} {ies:List PI.E} (hc:au X (.type id) (jB T b)) (hg:Gl X x) (hm:X.mg x=none) (hv:bootBuiltins x=some (.type id)) (ha:PA X (e::es) (fe T P cl E ies)) (hn:x≠"__name__") (hdb:(x==("__debug__":Str))=false)
  (he:starEach (e::es) X.env=(false,eval e X.env)::starEach es X.env) (hpl:(backTo pos (starEach es X.env)).any (·.1)=false):PE X (.Call (.Name x p) (e::es) [] pos) (tE T P cl E (.bi b ies)):=
 PE.mono (nP hc hg hm hv ha hn hdb he hpl) λσ H Q z903=>by
  let⟨env,st,as,G,s,er,h⟩:=z903;dsimp only[PI.E.run] at h;refine cV s er h λxs st1 as1 G1 H1 us s1 er1 r1 p1 l1 h=> ?_;exact⟨st1,as1,G1,_,_,s1,kR s1 r1,h⟩
theorem eL {G H:Hp} {x:Val} (r:pP T as G H [x] us):∃u,us=[u]/\cY T as G H x u:=by
 let⟨u,t,rfl,h,r⟩:=r;cases r;exact⟨u,rfl,h⟩
theorem iu {b:Bi} {st:aa} {G:Hp} {Q:Val->aa->List Addr->Hp->Hp->Prop} {Z:XK} (h:ab T as G (qt b xs st) Q Z) (n2:∀x y st,vz b x y st= .stuck:=by intros;rfl) (n3:∀x y z st,Fs b x y z st= .stuck:=by intros;rfl):∃x,xs=[x]:=by
 match xs with
 |[x]=>exact⟨x,rfl⟩
 |[]=>exact h.elim
 |[x,y]=>
  replace h:ab T as G (vz b x y st) Q Z:=h;rw[n2] at h;exact h.elim
 |[x,y,z]=>
  replace h:ab T as G (Fs b x y z st) Q Z:=h;rw[n3] at h;exact h.elim
 |_::_::_::_::_=>exact h.elim
theorem A4 {G H:Hp} {a:Addr} {ks:List Val} (d:fh H a ks us) (r:ae T as G vs us):(∃kvs,Rd H a (.dT kvs)/\kvs.length=ks.length)∨∃kvs,Rd H a (.dK kvs)/\kvs.length=ks.length:=by
 have kl:∀{ks:List Val} {kk:List Key},aG ks=some kk->kk.length=ks.length:=λ{ks}=>by
  induction ks with
  |nil=>intro kk e;cases e;rfl
  |cons k ks ih=>
   intro kk e;unfold aG at e
   cases e1:bO k with
   |none=>rw[e1] at e;cases e
   |some k'=>
    cases e2:aG ks with
    |none=>rw[e1,e2] at e;cases e
    |some r=>rw[e1,e2] at e;cases e;simp[ih e2]
 have tl:∀{ks:List Val} {kk:List (List Key)},aW ks=some kk->kk.length=ks.length:=λ{ks}=>by
  induction ks with
  |nil=>intro kk e;cases e;rfl
  |cons k ks ih=>
   intro kk e;unfold aW at e
   cases e1:cJ k with
   |none=>rw[e1] at e;cases e
   |some k'=>
    cases e2:aW ks with
    |none=>rw[e1,e2] at e;cases e
    |some r=>rw[e1,e2] at e;cases e;simp[ih e2]
 rcases d with⟨kk,e,n,h⟩|⟨kk,e,n,h⟩
 ·exact .inr ⟨_,h,by rw[abl,←n,ab5];exact kl e⟩
 ·exact .inl ⟨_,h,by rw[abl,←n,ab5];exact tl e⟩
theorem xf (hK:T.K=X.K):au X (.builtin "len") (jB T .len):=by
 refine au.imp (((rS (X:=X)).or qO).or wb) λus H Q z903=> ?_;let⟨st,as,G,xs,Z,s,r0,p0⟩:=z903;let⟨x,rfl⟩:=iu p0;let⟨u,rfl,r⟩:=eL r0;let⟨v,e,p⟩:=ab.dy (show ab T as G (R.ak ((gP x).map .int) st) (PV T Q) Z from p0);clear r0 p0;let⟨n,e1,rfl⟩:=aab.mp e;clear e;have q:=p.ok s _ rfl
 cases x with
 |tup fl xs=>
  let⟨a,us,rfl,h1,h2⟩:=r;cases e1;exact .inl (.inl ⟨a,us,rfl, .inr (ba s.sub h1),by rw[←h2.length];exact q⟩)
 |lst xs=>
  let⟨a,us,rfl,h1,h2⟩:=r;cases e1;exact .inl (.inl ⟨a,us,rfl, .inl (hK▸h1),by rw[←h2.length];exact q⟩)
 |dct ks vs=>
  let⟨a,us,rfl,h1,h2⟩:=r;cases e1;refine .inr ⟨a,rfl, ?_⟩
  rcases A4 h1 h2 with⟨kvs,h,z⟩|⟨kvs,h,z⟩
  ·exact .inl ⟨kvs,h,by rw[z];exact q⟩
  ·exact .inr ⟨kvs,h,by rw[z];exact q⟩
 |str x=>
  cases r;replace e1:(if x.length<=1000 then some (x.length:Int) else none)=some n:=e1;split at e1
  ·cases e1;have z:sizeLine=2^24:=rfl;exact .inl (.inr ⟨x,rfl,by lia,q⟩)
  ·cases e1
 |_=>cases e1
theorem wB:au X (.type "int") (jB T .int):=by
 refine au.imp wH λus H Q z903=> ?_;let⟨st,as,G,xs,Z,s,r0,p0⟩:=z903;let⟨x,rfl⟩:=iu p0;let⟨u,rfl,r⟩:=eL r0
 cases x with
 |int i=>
  cases r;exact .inl ⟨i,rfl,p0.ok s _ rfl⟩
 |bl b=>
  cases r;exact .inr ⟨b,rfl,p0.ok s _ rfl⟩
 |_=>exact p0.elim
theorem rY (hK:T.K=X.K):au X (.type "tuple") (jB T .tuple):=by
 refine au.imp ((ye (X:=X)).or xJ) λus H Q z903=> ?_;let⟨st,as,G,xs,Z,s,r0,p0⟩:=z903;let⟨x,rfl⟩:=iu p0;let⟨u,rfl,r⟩:=eL r0
 cases x with
 |tup fl xs=>
  have r1:=r;let⟨a,us,rfl,h1,h2⟩:=r;exact .inl ⟨a,us,rfl, .inr ⟨ba s.sub h1,p0.ok s _ r1⟩⟩
 |lst xs=>
  let⟨a,us,rfl,h1,h2⟩:=r;exact .inr ⟨a,us,rfl,hK▸h1,λl o hl ho=>zT s h2 p0 hl ho⟩
 |_=>exact p0.elim
theorem uB (hK:T.K=X.K):au X (.type "list") (jB T .list):=by
 refine au.imp yi λus H Q z903=> ?_;let⟨st,as,G,xs,Z,s,r0,p0⟩:=z903;let⟨x,rfl⟩:=iu p0;let⟨u,rfl,r⟩:=eL r0
 cases x with
 |tup fl xs=>
  let⟨a,us,rfl,h1,h2⟩:=r;exact⟨a,us,rfl, .inr (ba s.sub h1),λl hl=>fF s h2 p0 hl⟩
 |lst xs=>
  let⟨a,us,rfl,h1,h2⟩:=r;exact⟨a,us,rfl, .inl (hK▸h1),λl hl=>fF s h2 p0 hl⟩
 |_=>exact p0.elim
theorem all_bools {G:Hp}:∀{xs:List Val} {us:List L2.V} {b:Bool},ae T as G xs us->allB xs=some b->∃ys:List Bool,us=ys.map V.bl/\ys.all id=b
 |[],_,_,h,e=>by
  cases h;cases e;exact⟨[],rfl,rfl⟩
 | .bl c::r,_,b,⟨u,t,z,h,q⟩,e=>by
  unfold allB at e;let⟨d,e1,rfl⟩:=aab.mp e;let⟨ys,e2,e3⟩:=all_bools q e1;cases h;subst z e2;exact⟨c::ys,rfl,by rw[aaR,e3];rfl⟩
 | .non::_,_,_,_,e=>by cases e
 | .int _::_,_,_,_,e=>by cases e
 | .str _::_,_,_,_,e=>by cases e
 | .tup _ _::_,_,_,_,e=>by cases e
 | .lst _::_,_,_,_,e=>by cases e
 | .dct _ _::_,_,_,_,e=>by cases e
 | .obj _ _ _::_,_,_,_,e=>by cases e
 | .ref _::_,_,_,_,e=>by cases e
theorem vx (hK:T.K=X.K) (hc:X.calm=true):au X (.builtin "all") (jB T .all):=by
 refine au.imp (yN hc) λus H Q z903=> ?_;let⟨st,as,G,xs,Z,s,r0,p0⟩:=z903;let⟨x,rfl⟩:=iu p0;let⟨u,rfl,r⟩:=eL r0
 cases x with
 |lst xs=>
  let⟨a,us,rfl,h1,h2⟩:=r;let⟨v,e,p⟩:=ab.dy (show ab T as G (R.ak ((allB xs).map .bl) st) (PV T Q) Z from p0);let⟨b,e1,rfl⟩:=aab.mp e;let⟨ys,e2,e3⟩:=all_bools h2 e1;subst e2;exact⟨a,ys,rfl,hK▸h1,by rw[e3];exact p.ok s _ rfl⟩
 |_=>exact p0.elim
theorem any_bools {G:Hp}:∀{xs:List Val} {us:List L2.V} {b:Bool},ae T as G xs us->anyB xs=some b->∃ys:List Bool,us=ys.map V.bl/\ys.any id=b
 |[],_,_,h,e=>by
  cases h;cases e;exact⟨[],rfl,rfl⟩
 | .bl c::r,_,b,⟨u,t,z,h,q⟩,e=>by
  unfold anyB at e;let⟨d,e1,rfl⟩:=aab.mp e;let⟨ys,e2,e3⟩:=any_bools q e1;cases h;subst z e2;exact⟨c::ys,rfl,by rw[ab9,e3];rfl⟩
 | .non::_,_,_,_,e=>by cases e
 | .int _::_,_,_,_,e=>by cases e
 | .str _::_,_,_,_,e=>by cases e
 | .tup _ _::_,_,_,_,e=>by cases e
 | .lst _::_,_,_,_,e=>by cases e
 | .dct _ _::_,_,_,_,e=>by cases e
 | .obj _ _ _::_,_,_,_,e=>by cases e
 | .ref _::_,_,_,_,e=>by cases e
def KO (K:PySem.W.Frag):List L2.V->Hp->VK->Prop:=λxs H Q=>∃p,∃ys:List Bool,xs=[.ref p]/\bF K H p (ys.map V.bl)/\Q (.bl (ys.any id)) H
theorem vM {X:Cx} (hc:X.calm=true):au X (.builtin "any") (KO X.K):=by
 intro pins s σ H xs us Q I r h;let⟨p,ys,rfl,hp,q⟩:=h;let⟨u,rfl,r1⟩:=Vals.one r;cases r1;let⟨its,rv,g,hz⟩:=I.list hp
 have lt:p<s.heap.objs.size:=by
  let⟨o,n,e,_⟩:=g;exact aam e
 have hl:its.length=ys.length:=by rw[←rv.length,aay]
 have hsz:its.toArray.size=ys.length:=by rw[aak,hl]
 refine call_any_walk (abO g.isList ⟨s.heap.objs.size,[s.heap.objs.size,p],[s.heap.objs.size],its.toArray.size,_,_,λi=>(ys[i]?).getD false,rfl,PySem.Walks.list (A:=X.A.in1) (I.ok.hd hc) s.heap.objs.size p (aaw lt) its.toArray,
  ⟨⟨_,aaj _ rfl,rfl,rfl⟩,g.isList.push _⟩,λi v s1 Q1 E1 hv hq=> ?_,λh' tk hk=> ?_⟩)
 ·have hv':its[i]?=some v:=by simpa using hv
  have hi:i<ys.length:=by
   have:=(aae.mp hv').1;lia
  let⟨w',hw,rw'⟩:=rv.get (i:=i) (x:=V.bl ys[i]) (by rw[aaO,aac hi];rfl);rw[hv'] at hw;cases hw;cases rw';replace hq:Q1 ((ys[i]?).getD false) s1:=hq;rw[aac hi] at hq;exact abi hq
 ·refine⟨.bl (ys.any id),H,I.kept (t':=tk) λb o e=>hk b o (λz=> ?_) (aad _ e), ?_,q⟩
  ·rw[aaL.mp z] at e;exact absurd (aam e) (aa3 _)
  ·show Value.bool _=_;rw[hsz,PyProof.Rows.LSm.range_any]
theorem vP (hK:T.K=X.K) (hc:X.calm=true):au X (.builtin "any") (jB T .any):=by
 refine au.imp (vM hc) λus H Q z903=> ?_;let⟨st,as,G,xs,Z,s,r0,p0⟩:=z903;let⟨x,rfl⟩:=iu p0;let⟨u,rfl,r⟩:=eL r0
 cases x with
 |lst xs=>
  let⟨a,us,rfl,h1,h2⟩:=r;let⟨v,e,p⟩:=ab.dy (show ab T as G (R.ak ((anyB xs).map .bl) st) (PV T Q) Z from p0);let⟨b,e1,rfl⟩:=aab.mp e;let⟨ys,e2,e3⟩:=any_bools h2 e1;subst e2;exact⟨a,ys,rfl,hK▸h1,by rw[e3];exact p.ok s _ rfl⟩
 |_=>exact p0.elim
end
end PI
namespace PI
open PySem L2 L2.L3 L2.L4 PySem.SeqAt
def aE (T:CT) (as:List Addr) (G:Hp) (r:F) (D:Ends) (E:XS):Prop:=match r with
 | .next env st=>∀as' G' H' σ',as<+:as'->Le G G'->Sim T st as' G' H'->aH T as' G' env σ'->D.nx σ' H'
 | .brk env st=>∀as' G' H' σ',as<+:as'->Le G G'->Sim T st as' G' H'->aH T as' G' env σ'->D.bk σ' H'
 | .cont env st=>∀as' G' H' σ',as<+:as'->Le G G'->Sim T st as' G' H'->aH T as' G' env σ'->D.ct σ' H'
 | .ret v st=>∀as' G' H' u,as<+:as'->Le G G'->Sim T st as' G' H'->Rel T as' G' v u->D.rt u H'
 | .exc x env st=>∀as' G' H' σ' cls dx,as<+:as'->Le G G'->Sim T st as' G' H'->aH T as' G' env σ'->Dd T as' G' x cls dx->E σ' cls dx H'
 | .stuck=>False
theorem aE.mono {T:CT} {bs:List Addr} {G G2:Hp} {r:F} {D:Ends} {E:XS} (p:as<+:bs) (l:Le G G2) (h:aE T as G r D E):aE T bs G2 r D E:=by
 cases r with
 |next env st=>exact λas' G' H' σ' p' l'=>h as' G' H' σ' (p.trans p') (l.trans l')
 |brk env st=>exact λas' G' H' σ' p' l'=>h as' G' H' σ' (p.trans p') (l.trans l')
 |cont env st=>exact λas' G' H' σ' p' l'=>h as' G' H' σ' (p.trans p') (l.trans l')
 |ret v st=>exact λas' G' H' u p' l'=>h as' G' H' u (p.trans p') (l.trans l')
 |exc x env st=>exact λas' G' H' σ' cls dx p' l'=>h as' G' H' σ' cls dx (p.trans p') (l.trans l')
 |stuck=>exact h
def tS (T:CT) (P:Pg) (cl:ar) (E:XS) (s:PI.S):TS:=λD σ H=>∃env st as G,Sim T st as G H/\aH T as G env σ/\aE T as G (s.run P cl env st) D E
def oj (T:CT) (P:Pg) (cl:ar) (E:XS) (ss:List PI.S):TS:=λD σ H=>∃env st as G,Sim T st as G H/\aH T as G env σ/\aE T as G (aK P cl ss env st) D E
theorem PS.mono {X:Cx} {e:Stmt} {t t':TS} (h:PS X e t) (k:∀D σ H,t' D σ H->t D σ H):PS X e t':=λpins s σ H D I q=>h pins s σ H D I (k D σ H q)
theorem dB.mono {X:Cx} {e:List Stmt} {t t':TS} (h:dB X e t) (k:∀D σ H,t' D σ H->t D σ H):dB X e t':=λpins s σ H D I q=>h pins s σ H D I (k D σ H q)
theorem aH.set {T:CT} {G:Hp} {env:Env} {σ:St} {v:Val} {u:L2.V} (h:aH T as G env σ) (i:Nat) (r:Rel T as G v u):aH T as G (env.set i (some v)) (σ.set i (some u)):=by
 refine⟨by simp[h.1],λj w e=> ?_⟩
 by_cases hj:j=i
 ·subst hj
  have lj:j<env.length:=by
   have:=(aae.mp e).1;simpa using this
  rw[abm lj] at e;cases e;exact⟨u,by rw[abm (by rw[←h.1];exact lj)],r⟩
 ·rw[abg (λz=>hj z.symm)] at e;rw[abg (λz=>hj z.symm)];exact h.2 j w e
section
variable {T:CT} {P:Pg} {cl:ar} {E:XS} {X:Cx} {pos:Pos}
theorem pM {e:PI.E} {env:Env} {st:aa} {G H:Hp} {σ:St} {f:Val->aa->F} {D:Ends} {K:VK} (s:Sim T st as G H) (er:aH T as G env σ)
  (h:aE T as G (F.of env (e.run P cl env st) f) D E)
  (k:∀v st1 as1 G1 H1 u,Sim T st1 as1 G1 H1->aH T as1 G1 env σ->Rel T as1 G1 v u->aE T as1 G1 (f v st1) D E->K u H1):tE T P cl E e σ H K:=by
 refine⟨env,st,as,G,s,er, ?_⟩
 cases e1:e.run P cl env st with
 |ok v st1=>
  rw[e1] at h;exact λas' G' H' p l s' u r=>k v st1 as' G' H' u s' (er.mono p l) r (aE.mono p l h)
 |exc x st1=>
  rw[e1] at h;exact λas' G' H' cls dx p l s' x=>h as' G' H' σ cls dx p l s' (er.mono p l) x
 |stuck=>
  rw[e1] at h;exact h.elim
theorem Gu {e:PI.E} {env:Env} {st:aa} {G H:Hp} {σ:St} {f:Bool->aa->F} {D:Ends} {K:Bool->Hp->Prop} (s:Sim T st as G H) (er:aH T as G env σ)
  (h:aE T as G (F.of env (runC P cl (some e) env st) f) D E)
  (k:∀v st1 as1 G1 H1,Sim T st1 as1 G1 H1->aH T as1 G1 env σ->aE T as1 G1 (f v st1) D E->K v H1):tT T P cl E e σ H K:=by
 refine⟨env,st,as,G,s,er, ?_⟩
 cases e1:runC P cl (some e) env st with
 |ok v st1=>
  rw[e1] at h;exact λas' G' H' p l s'=>k v st1 as' G' H' s' (er.mono p l) (aE.mono p l h)
 |exc x st1=>
  rw[e1] at h;exact λas' G' H' cls dx p l s' x=>h as' G' H' σ cls dx p l s' (er.mono p l) x
 |stuck=>
  rw[e1] at h;exact h.elim
theorem Hk {i:Nat} {x:Str} {e:Expr} (hN:X.N.Nodup) (hi:X.N[i]?=some x) (hx:Loc X.env.scope x) (he:PE X e (tE T P cl E ie)) (hs:swapsWith e (some (.Name x pos')) pos.line X.env=pure false) (hf:X.fn x=true∨X.env.scope.names.lookup x=some .local):PS X (.Assign [.Name x pos'] e pos) (tS T P cl E (.set (.var i) ie)):=
 PS.mono (EG hN hi hx he hs hf) λD σ H z903=>by
  let⟨env,st,as,G,s,er,h⟩:=z903;dsimp only[PI.S.run] at h;refine pM s er h λv st1 as1 G1 H1 u s1 er1 r1 h=> ?_;unfold PI.T.put at h;split at h
  ·exact h as1 G1 H1 _ (aai _) (Le.refl _) s1 (er1.set i r1)
  ·exact h.elim
theorem Fw {e:Expr} (he:PE X e (tE T P cl E ie)) (hs:swapsWith e none pos.line X.env=pure false):PS X (.Expr e pos) (tS T P cl E (.expr ie)):=
 PS.mono (CK he hs) λD σ H z903=>by
  let⟨env,st,as,G,s,er,h⟩:=z903;dsimp only[PI.S.run] at h;exact pM s er h λv st1 as1 G1 H1 u s1 er1 r1 h=>h as1 G1 H1 _ (aai _) (Le.refl _) s1 er1
theorem GC {e:Expr} (he:PE X e (tE T P cl E ie)):PS X (.Return (some e) pos) (tS T P cl E (.ret ie)):=
 PS.mono (EU he) λD σ H z903=>by
  let⟨env,st,as,G,s,er,h⟩:=z903;dsimp only[PI.S.run] at h;exact pM s er h λv st1 as1 G1 H1 u s1 er1 r1 h=>h as1 G1 H1 _ (aai _) (Le.refl _) s1 r1
theorem Fu:PS X (.Return none pos) (tS T P cl E .retN):=
 PS.mono BI λD σ H z903=>by let⟨env,st,as,G,s,er,h⟩:=z903;exact h as G H _ (aai _) (Le.refl _) s rfl
theorem J4 {c:Expr} {a b:List Stmt} {ia ib:List PI.S} (hc:PT X c (tT T P cl E ic)) (ha:dB X a (oj T P cl E ia)) (hb:dB X b (oj T P cl E ib)):PS X (.If c a b pos) (tS T P cl E (.ife ic ia ib)):=
 PS.mono (GX hc ha hb) λD σ H z903=>by
  let⟨env,st,as,G,s,er,h⟩:=z903;dsimp only[PI.S.run] at h;refine Gu s er h λt st1 as1 G1 H1 s1 er1 h=> ?_
  cases t with
  |true=>exact nB ⟨env,st1,as1,G1,s1,er1,h⟩
  |false=>exact nk ⟨env,st1,as1,G1,s1,er1,h⟩
theorem EM:dB X [] (oj T P cl E []):=dB.mono BM λD σ H z903=>by let⟨env,st,as,G,s,er,h⟩:=z903;exact h as G H σ (aai _) (Le.refl _) s er
theorem aE.bind {as:List Addr} {G:Hp} {r:F} {k:Env->aa->F} {D:Ends} (h:aE T as G (r.bind k) D E):aE T as G r {D with nx:=λσ' H'=>∃env st as' G',Sim T st as' G' H'/\aH T as' G' env σ'/\aE T as' G' (k env st) D E} E:=by
 cases r with
 |next env st=>exact λas' G' H' σ' p l s er=>⟨env,st,as',G',s,er,aE.mono p l h⟩
 |brk env st=>exact h
 |cont env st=>exact h
 |ret v st=>exact h
 |exc x env st=>exact h
 |stuck=>exact h
theorem B7 {a:Stmt} {b:List Stmt} {ia:PI.S} {ib:List PI.S} (ha:PS X a (tS T P cl E ia)) (hb:dB X b (oj T P cl E ib)):dB X (a::b) (oj T P cl E (ia::ib)):=
 dB.mono (yI ha hb) λD σ H z903=>by
  let⟨env,st,as,G,s,er,h⟩:=z903;dsimp only[aK] at h;exact⟨env,st,as,G,s,er,h.bind⟩
theorem aE.iff {G:Hp} {c:Prop} {r:F} {D:Ends} (h:aE T as G (jh c r) D E):c/\aE T as G r D E:=by
 unfold jh at h;split at h
 ·rename_i z;exact⟨z,h⟩
 ·exact h.elim
def Src (T:CT) (b:Bool) (a:Addr) (items:List Val) (chk:List (Nat×Ob)) (as:List Addr) (G:Hp):Prop:=(∃us,fb b T.K G a us/\ae T as G items us)∨(b=true/\∃k,(k,Ob.lst items)∈chk/\as[k]?=some a)
theorem Src.mono {b:Bool} {a:Addr} {chk:List (Nat×Ob)} {G G':Hp} (p:as<+:as') (l:Le G G') (h:Src T b a items chk as G):Src T b a items chk as' G':=by
 rcases h with⟨us,h1,h2⟩|⟨rfl,k,h1,h2⟩
 ·refine .inl ⟨us, ?_,h2.mono p l⟩;cases b
  ·exact Av l h1
  ·exact bV l h1
 ·exact .inr ⟨rfl,k,h1,j0 p h2⟩
theorem Src.now {b:Bool} {a:Addr} {chk:List (Nat×Ob)} {st:aa} {G H:Hp} (s:Sim T st as G H) (kp:Kept chk st) (h:Src T b a items chk as G):∃us,fb b T.K H a us/\ae T as G items us:=by
 rcases h with⟨us,h1,h2⟩|⟨rfl,k,h1,h2⟩
 ·refine⟨us, ?_,h2⟩;cases b
  ·exact Av s.sub h1
  ·exact bV s.sub h1
 ·let⟨us,q,r⟩:=s.ob k _ a (kp _ h1) h2;exact⟨us, .inl (.inl q),r⟩
def Am (K:PySem.W.Frag) (b:Bool) (a:Addr):It:=cond b (Fd K a) (C1 K a)
end
def tG (T:CT) (t:PI.T):TG:=λu σ H Q=>∃env st as G v env',Sim T st as G H/\aH T as G env σ/\Rel T as G v u/\t.put v env=some env'/\∀σ',aH T as G env' σ'->Q σ' H
def wt (T:CT) (ts:List PI.T):mF:=λus σ H Q=>∃env st as G vs env',Sim T st as G H/\aH T as G env σ/\ae T as G vs us/\bG vs env ts=some env'/\∀σ',aH T as G env' σ'->Q σ' H
theorem PG.mono {X:Cx} {e:Expr} {t t':TG} (h:PG X e t) (k:∀v σ H Q,t' v σ H Q->t v σ H Q):PG X e t':=λpins s σ H v u Q I r q=>h pins s σ H v u Q I r (k v σ H Q q)
theorem gw.mono {X:Cx} {e:List Expr} {t t':mF} (h:gw X e t) (k:∀v σ H Q,t' v σ H Q->t v σ H Q):gw X e t':=λpins s σ H v u Q I r q=>h pins s σ H v u Q I r (k v σ H Q q)
section
variable {T:CT} {P:Pg} {cl:ar} {E:XS} {X:Cx} {pos:Pos}
theorem Hs {i:Nat} {x:Str} (hN:X.N.Nodup) (hi:X.N[i]?=some x) (hx:Loc X.env.scope x) (hf:X.fn x=true∨X.env.scope.names.lookup x=some .local):PG X (.Name x pos) (tG T (.var i)):=
 PG.mono (B0 hN hi hx hf) λu σ H Q z904=>by
  let⟨env,st,as,G,v,env',s,er,r,e,k⟩:=z904;unfold PI.T.put at e;split at e
  ·cases e;exact k _ (er.set i r)
  ·cases e
theorem Fi:gw X [] (wt T []):=gw.mono Bf λus σ H Q z904=>by
 let⟨env,st,as,G,vs,env',s,er,r,e,k⟩:=z904
 cases vs with
 |nil=>
  cases r;cases e;exact⟨rfl,k σ er⟩
 |cons v vs=>cases e
theorem Cv {e:Expr} {es:List Expr} {t:PI.T} {ts:List PI.T} (h1:PG X e (tG T t)) (h2:gw X es (wt T ts)) (hs:(assignEach (e::es) X.env).map (·.2)=assign e X.env::(assignEach es X.env).map (·.2)):gw X (e::es) (wt T (t::ts)):=
 gw.mono (zR h1 h2 hs) λus σ H Q z904=>by
  let⟨env,st,as,G,vs,env',s,er,r,e,k⟩:=z904
  cases vs with
  |nil=>cases e
  |cons v vs=>
   let⟨u,us',rfl,r1,r2⟩:=r
   replace e:(t.put v env).bind (λenv=>bG vs env ts)=some env':=by unfold bG at e;exact e
   cases e1:t.put v env with
   |none=>rw[e1] at e;cases e
   |some env1=>
    rw[e1] at e;exact⟨u,us',rfl,env,st,as,G,v,env1,s,er,r1,e1,λσ' er'=>⟨env1,st,as,G,vs,env',s,er',r2,e,k⟩⟩
theorem oy:∀{ts:List PI.T} {vs:List Val} {env env':Env},bG vs env ts=some env'->vs.length=ts.length
 |[],[],_,_,_=>rfl
 |[],_::_,_,_,e=>by cases e
 |_::_,[],_,_,e=>by cases e
 |t::ts,v::vs,env,env',e=>by
  replace e:(t.put v env).bind (λenv=>bG vs env ts)=some env':=by unfold bG at e;exact e
  cases e1:t.put v env with
  |none=>rw[e1] at e;cases e
  |some env1=>
   rw[e1] at e;rw[aar,aar,oy (show bG vs env1 ts=some env' from e)]
theorem Hw {es:List Expr} {ts:List PI.T} {k:Nat} {n:Nat} (hK:T.K=X.K) (hc:X.calm=true) (h:gw X es (wt T ts)) (hl:ts.length=n) (hn:(assignEach es X.env).length=n) (hst:(assignEach es X.env).findIdx? (·.1)=none):PG X (.Tuple es k pos) (tG T (.tup ts)):=
 PG.mono (ER hc h hn hst) λu σ H Q z904=>by
  let⟨env,st,as,G,v,env',s,er,r,e,k⟩:=z904
  cases v with
  |tup fl xs=>
   let⟨a,us,rfl,q,r⟩:=r
   replace e:bG xs env ts=some env':=by unfold PI.T.put at e;exact e
   exact⟨a,us,rfl,ba s.sub q,by rw[←r.length,oy e];exact hl,env,st,as,G,xs,env',s,er,r,e,k⟩
  |_=>(unfold PI.T.put at e;cases e)
structure Walks (T:CT) (J:It) (items:List Val) (chk:List (Nat×Ob)) (src:List Addr->Hp->Prop):Prop where
 mono:∀{as as' G G'},as<+:as'->Le G G'->src as G->src as' G'
 stop:∀{st as G H},Sim T st as G H->Kept chk st->src as G->J.stop items.length H
 go:∀{st as G H} {i:Nat},i<items.length->Sim T st as G H->Kept chk st->src as G->J.go i H
 yld:∀{st as G H x H'} {i:Nat},i<items.length->Sim T st as G H->Kept chk st->src as G->J.yld i H x H'->∃v G',items[i]?=some v/\Le G G'/\Sim T st as G' H'/\Rel T as G' v x
def tQ (T:CT) (P:Pg) (cl:ar) (E:XS) (q:PI.Q):TI:=λσ H R=>∃env st as G,Sim T st as G H/\aH T as G env σ/\ab T as G (q.run P cl env st) (λit _ as' G' H'=>∀J src,Walks T J it.1 it.2 src->src as' G'->R J H') (E σ)
theorem PI.mono {X:Cx} {e:Expr} {t t':TI} (h:L2.PI X tg e t) (k:∀σ H R,t' σ H R->t σ H R):L2.PI X tg e t':=λpins s σ H R I q=>h pins s σ H R I (k σ H R q)
theorem jv (b:Bool) (a:Addr) (items:List Val) (chk:List (Nat×Ob)):Walks T (Am T.K b a) items chk (Src T b a items chk) where
 mono p l h:=h.mono p l
 stop s kp h:=by
  let⟨us,q,r⟩:=h.now s kp;cases b
  ·exact⟨us,q,by rw[r.length];exact aag _⟩
  ·exact⟨us,q,by rw[r.length];exact aag _⟩
 go hi s kp h:=by
  let⟨us,q,r⟩:=h.now s kp;let⟨u,e,_⟩:=r.get (aac hi);cases b
  ·exact⟨us,u,q,e⟩
  ·exact⟨us,u,q,e⟩
 yld hi s kp h y:=by
  let⟨us,q,r⟩:=h.now s kp;let⟨u,e,hr⟩:=r.get (aac hi);cases b
  ·let⟨rfl,z⟩:=y;have:=z us q;rw[e] at this;cases this;exact⟨_,_,aac hi,Le.refl _,s,hr⟩
  ·let⟨rfl,z⟩:=y;have:=z us q;rw[e] at this;cases this;exact⟨_,_,aac hi,Le.refl _,s,hr⟩
theorem y0 {ks:List Val} {kk:List (List Key)} {us:List L2.V} (a:Addr) (o:Obj) (ek:aW ks=some kk) (el:kk.length=us.length):Walks T (DA a o (kk.zip us)) (ks.map iV) [] (λ_ G=>G a=some (.aB o (.dT (kk.zip us)))) where
 mono _ l h:=l.ex h rfl
 stop s _ h:=⟨s.sub.ex h rfl,by rw[abl,aay,←jR ek];lia⟩
 go hi s _ h:=⟨s.sub.ex h rfl,by rw[abl];rw[aay,←jR ek] at hi;lia⟩
 yld {st as G H x H' i} hi s _ h y:=by
  let⟨rfl,c,k,v,rfl,e1,e2⟩:=y;rw[aay] at hi;let⟨k',e3,e4⟩:=nO ek (aac hi)
  have e5:k=k':=by
   have:=(List.getElem?_zip_eq_some.mp e1).1;rw[e3] at this;exact(Option.some.inj this).symm
  subst e5;let⟨s2,l2⟩:=s.GH e2;let⟨f,xs,e6,e7⟩:=BJ e4;refine⟨.tup false xs,_, ?_,l2,s2,c,k.map kV,rfl,(show upd G c (.tup (k.map kV)) c=_ from ao),lT e7⟩;rw[aaO,aac hi,e6];rfl
theorem zu {ks:List Val} {kk:List Key} {us:List L2.V} (a:Addr) (o:Obj) (ek:aG ks=some kk) (el:kk.length=us.length):Walks T (zr a o (kk.zip us)) (ks.map iV) [] (λ_ G=>G a=some (.aB o (.dK (kk.zip us)))) where
 mono _ l h:=l.ex h rfl
 stop s _ h:=⟨s.sub.ex h rfl,by rw[abl,aay,←jn ek];lia⟩
 go hi s _ h:=⟨s.sub.ex h rfl,by rw[abl];rw[aay,←jn ek] at hi;lia⟩
 yld {st as G H x H' i} hi s _ h y:=by
  let⟨rfl,k,v,rfl,e1⟩:=y;rw[aay] at hi;let⟨k',e3,e4⟩:=oC ek (aac hi)
  have e5:k=k':=by
   have:=(List.getElem?_zip_eq_some.mp e1).1;rw[e3] at this;exact(Option.some.inj this).symm
  subst e5;refine⟨ks[i],G, ?_,Le.refl _,s,pV e4⟩;rw[aaO,aac hi];exact congrArg some (Ff e4)
theorem G9 {e:Expr} (hK:T.K=X.K) (he:PE X e (tE T P cl E ie)):L2.PI X tg e (tQ T P cl E (.val ie)):=
 PI.mono (C0 he) λσ H R z903=>by
  let⟨env,st,as,G,s,er,h⟩:=z903;unfold PI.Q.run at h;refine aA s er h λx st1 as1 G1 H1 u s1 er1 r1 p1 l1 h=> ?_;let⟨it,e,h⟩:=ab.dy h;have k:=h.ok s1
  cases x with
  |tup fl xs=>
   cases e;let⟨a,us,rfl,q,r⟩:=r1;exact⟨a,rfl, .inr (.inl ⟨⟨us,ba s1.sub q⟩,hK▸k (Am T.K false a) _ (jv false a xs []) (.inl ⟨us,rP q,r⟩)⟩)⟩
  |lst xs=>
   cases e;let⟨a,us,rfl,q,r⟩:=r1;exact⟨a,rfl, .inl ⟨⟨us,hK▸bV s1.sub q⟩,hK▸k (Am T.K true a) _ (jv true a xs []) (.inl ⟨us,q,r⟩)⟩⟩
  |dct ks vs=>
   cases e;let⟨a,us,rfl,q,r⟩:=r1
   rcases q with⟨kk,ek,el,q⟩|⟨kk,ek,el,q⟩
   ·refine⟨a,rfl, .inr (.inr (.inr ⟨_,Rd.le s1.sub q,λo ho=> ?_⟩))⟩;let⟨s2,l2⟩:=s1.C8 q rfl ho;exact h as1 _ _ (aai _) l2 s2 _ _ (zu a o ek el) ao
   ·refine⟨a,rfl, .inr (.inr (.inl ⟨_,Rd.le s1.sub q,λo ho=> ?_⟩))⟩;let⟨s2,l2⟩:=s1.C8 q rfl ho;exact h as1 _ _ (aai _) l2 s2 _ _ (y0 a o ek el) ao
  |ref n=>
   let⟨a,ea,rfl⟩:=r1;replace e:iz n st1[n]?=some it:=e
   cases e1:st1[n]? with
   |none=>rw[e1] at e;cases e
   |some o=>
    rw[e1] at e;have ob:=s1.ob n o a e1 ea
    cases o with
    |lst xs=>
     cases e;let⟨us,q,r⟩:=ob;exact⟨a,rfl, .inl ⟨⟨us, .inl (.inl q)⟩,hK▸k (Am T.K true a) _ (jv true a xs [(n, .lst xs)]) (.inr ⟨rfl,n,by simp,ea⟩)⟩⟩
    |dct ks vs=>cases e
    |ins c ns vs=>cases e
  |_=>cases e
theorem aE.turn {as:List Addr} {G:Hp} {r:F} {k:Env->aa->F} {D:Ends} {src:List Addr->Hp->Prop} (mo:∀{as as' G G'},as<+:as'->Le G G'->src as G->src as' G') (sr:src as G) (h:aE T as G (r.turn k) D E) {N:St->Hp->Prop}
  (hN:∀env st as' G' σ' H',Sim T st as' G' H'->aH T as' G' env σ'->src as' G'->aE T as' G' (k env st) D E->N σ' H'):aE T as G r {D with nx:=N,ct:=N,bk:=D.nx} E:=by
 cases r with
 |next env st=>exact λas' G' H' σ' p l s er=>hN env st as' G' σ' H' s er (mo p l sr) (aE.mono p l h)
 |cont env st=>exact λas' G' H' σ' p l s er=>hN env st as' G' σ' H' s er (mo p l sr) (aE.mono p l h)
 |brk env st=>exact h
 |ret v st=>exact h
 |exc x env st=>exact h
 |stuck=>exact h
open Classical in
theorem HC {t:PI.T} {q:PI.Q} {ib:List PI.S} (fm:Framed X) (hx:cM X) (hc:X.calm=true) (hi:L2.PI (X.ag (L4.XE X E)) tg iter (tQ T P cl E q)) (hg:PG (X.ag (L4.XE X E)) tg (tG T t)) (hb:dB (X.ag (L4.XE X E)) body (oj T P cl E ib)) (hs:∀x,foldedSetIterable iter X.env x=pure x):
  PS (X.ag (L4.XE X E)) (.For tg iter body [] pos) (tS T P cl E (.for t q ib)):=
 PS.mono (E8 (L4.Gs fm hx) hc hi hg hb hs) λD σ H z903=>by
  let⟨env,st,as,G,s,er,h⟩:=z903;dsimp only[PI.S.run] at h;refine⟨env,st,as,G,s,er, ?_⟩
  cases e1:q.run P cl env st with
  |stuck=>rw[e1] at h;exact h.elim
  |exc x st1=>
   rw[e1] at h;exact λas' G' H' cls dx p l s' x=>h as' G' H' σ cls dx p l s' (er.mono p l) x
  |ok it st1=>
   rw[e1] at h;replace h:aE T as G (forL t (λenv st=>aK P cl ib env st) it.2 it.1 env st1) D E:=h;intro as0 G0 H0 p0 l0 s0 J src wk sr0
   refine⟨λi m σ H=>m=it.1.length-i/\i<=it.1.length/\∃env st as G,Sim T st as G H/\aH T as G env σ/\src as G/\aE T as G (forL t (λenv st=>aK P cl ib env st) it.2 (it.1.drop i) env st) D E,
    ⟨_,rfl,aaV _,env,st1,as0,G0,s0,er.mono p0 l0,sr0,aE.mono p0 l0 h⟩, ?_⟩
   rintro i m σ H ⟨rfl,hi,env,st,as,G,s,er,sr,h⟩
   by_cases hl:i=it.1.length
   ·subst hl;rw[List.drop_length] at h;let⟨kp,h⟩:=aE.iff (show aE T as G (jh (Kept it.2 st) (.next env st)) D E from h);exact .inl ⟨wk.stop s kp sr,h as G H σ (aai _) (Le.refl _) s er⟩
   ·have li:i<it.1.length:=by lia
    rw[List.drop_eq_getElem_cons li] at h;let⟨kp,h⟩:=aE.iff (show aE T as G (jh (Kept it.2 st) ((F.ak st (t.put it.1[i] env)).bind λenv st=>(aK P cl ib env st).turn λenv st=>forL t (λenv st=>aK P cl ib env st) it.2 (it.1.drop (i+1)) env st)) D E from h)
    refine .inr ⟨wk.go li s kp sr,λσ' H'=>∃env st as G,Sim T st as G H'/\aH T as G env σ'/\src as G/\aE T as G (forL t (λenv st=>aK P cl ib env st) it.2 (it.1.drop (i+1)) env st) D E,
     λσ' H' w=>⟨it.1.length-(i+1),by lia,rfl,by lia,w⟩,λx H' y=> ?_⟩
    let⟨v,G',e2,l,s',rv⟩:=wk.yld li s kp sr y;rw[aac li] at e2;cases e2
    cases e3:t.put it.1[i] env with
    |none=>rw[e3] at h;exact h.elim
    |some env1=>
     rw[e3] at h;replace h:aE T as G ((aK P cl ib env1 st).turn λenv st=>forL t (λenv st=>aK P cl ib env st) it.2 (it.1.drop (i+1)) env st) D E:=h;refine⟨env,st,as,G',_,env1,s',er.mono (aai _) l,rv,e3,λσ' er'=>⟨env1,st,as,G',s',er', ?_⟩⟩;exact aE.turn wk.mono (wk.mono (aai _) l sr) (aE.mono (aai _) l h) λenv st as G σ' H' s er sr h=>⟨env,st,as,G,s,er,sr,h⟩
end
end PI
namespace PI
open PySem L2 L2.L3 L2.L4 PySem.SeqAt
open PyProof.Rows (envOfC)
def eU (T:CT) (P:Pg) (n fi:Nat):Sp:=λvs H Q E=>∃st as G xs,Sim T st as G H/\ae T as G xs vs/\ab T as G (call P n fi xs st) (PV T Q) E
section
variable {T:CT} {P:Pg} {cl:ar} {E:XS} {X:Cx} {pos:Pos}
theorem sP {k:Nat} {f:Addr} {ps:List Str} {sp:Sp} {σ:St} {H:Hp} {s:Shared} {Q:VK} {us:List Value} (F:FnOk X.prog X.w X.K X.mg X.base (cU X.prog X.w) k f fd ps sp) (hr:Room k X.A) (hb:Binds X.K fd ps []) (hx:cM X)
  (I:Inv (X.ag (L4.XE X E)) pins σ H s) (r:Vals vs us) (h:sp vs H Q (E σ)):wpAny (model X.prog X.w) X.A (PySem.call (.ref f) us) (EP (X.ag (L4.XE X E)) pins σ Q) (L4.XE X E) s:=by
 have hl:(us++[]).length=ps.length:=by rw[abj,←r.length];exact F.len _ _ _ _ h
 have hb':=hb s us I.bX hl;rw[abj] at hb';refine ac6 (acO (F.run X.A X.stack s H ⟨us,[]⟩ us vs Q (E σ) hr I.zw hb' r h) λr s' hq=> ?_)
 cases r with
 |error e=>exact L4.xj hx I hq
 |ok fl=>
  cases fl with
  |ret u=>exact I.after hq
  |next=>exact False.elim hq
  |brk=>exact False.elim hq
  |cont=>exact False.elim hq
theorem s_call {k n fi:Nat} {f:Addr} {ps:List Str} {x:Str} {p:Pos} {e:Expr} {es:List Expr} {ies:List PI.E} (F:FnOk X.prog X.w X.K X.mg X.base (cU X.prog X.w) k f fd ps (eU T P n fi)) (hr:Room k X.A) (hb:Binds X.K fd ps []) (hx:cM X) (hg:Gl X x) (hm:X.mg x=some (.ref f)) (hk:PySem.W.keepIn X.K (.ref f)=true)
  (ha:PA (X.ag (L4.XE X E)) (e::es) (fe T P (call P n) E ies)) (hdb:(x==("__debug__":Str))=false) (he:starEach (e::es) X.env=(false,eval e X.env)::starEach es X.env) (hpl:(backTo pos (starEach es X.env)).any (·.1)=false):
  PE (X.ag (L4.XE X E)) (.Call (.Name x p) (e::es) [] pos) (tE T P (call P n) E (.call fi ies)):=by
 intro pins s σ H Q I ⟨env,st,as,G,sm,er,h⟩;dsimp only[PI.E.run] at h;have h2:=cV (K:=λus H1=>eU T P n fi us H1 Q (E σ)) sm er h λxs st1 as1 G1 H1 us s1 er1 r1 p1 l1 h=>⟨st1,as1,G1,xs,s1,r1,h⟩;refine abd (g9 I hg hm ?_ hdb);refine PySem.W.callWith_K (h₀:=X.base) I.ok.mod.kin hk (ay (ha pos pins s σ H _ I h2) λus s1 zq13=> ?_) he hpl;let⟨vs,H1,I1,r,q⟩:=zq13;refine⟨I1.bX, ?_⟩;exact sP F hr hb hx I1 r q
theorem Bc {k n fi:Nat} {f:Addr} {ps:List Str} {x:Str} {p:Pos} (F:FnOk X.prog X.w X.K X.mg X.base (cU X.prog X.w) k f fd ps (eU T P n fi)) (hr:Room k X.A) (hb:Binds X.K fd ps []) (hx:cM X) (hg:Gl X x) (hm:X.mg x=some (.ref f)) (hk:PySem.W.keepIn X.K (.ref f)=true)
  (hdb:(x==("__debug__":Str))=false):PE (X.ag (L4.XE X E)) (.Call (.Name x p) [] [] pos) (tE T P (call P n) E (.call fi [])):=by
 intro pins s σ H Q I ⟨env,st,as,G,sm,er,h⟩;dsimp only[PI.E.run] at h;refine abd (g9 I hg hm ?_ hdb);exact PySem.W.callWith_K0 I.bX hk (sP (us:=[]) F hr hb hx I .nil ⟨st,as,G,[],sm,rfl,h⟩)
end
section
variable {P':Program} {w:World} {K:PySem.W.Frag} {mg:Str->Option Value} {base:Heap} {N:List Str} {qual:Str} {f:Addr}
theorem okS {x:Str} {st:Stmt} {ps:List Str} {k:Nat} {sp:Sp} (F:Fun K x qual st f fd) (S:FnScope N ps (av st)) (len:∀vs H Q E,sp vs H Q E->vs.length=ps.length)
  (hbody:∀(cdv:Value) (A:Around) (outer:List PySem.Env) (s:Shared) (H:Hp) (vs:List L2.V) (Q:VK) (E:XK),Room k (A.deeper (envOfC qual (av st) s.heap.objs.size f cdv))->sp vs H Q E->
   ∃t,dB ((sG P' w K mg base N qual (av st) f cdv A outer s H E).ag (L4.XE (sG P' w K mg base N qual (av st) f cdv A outer s H E) λ_=>E)) (bf st) t/\t {nx:=λ_ H'=>Q .non H',rt:=Q} (start N vs) H):
  FnOk P' w K mg base (cU P' w) (k+1) f fd ps sp:=by
 let⟨oc,od,kV,doc,pm,an,cdv,ct,osl,rfl,lk,hcd⟩:=F.ex;refine GD lk hcd S len λA outer s H vs Q E hr hsp=> ?_;let⟨t,h,q⟩:=hbody cdv A outer s H vs Q E hr hsp;refine⟨t,λpins s1 σ1 H1 D I hw=> ?_,q⟩;exact aa2 (h pins s1 σ1 H1 D (I.ag _) hw) (λ_ _ z=>z.bu) λe s2 z=>L4.Bt fmD rfl z
variable {T:CT} {P:Pg}
theorem Hv {x:Str} {st:Stmt} {ps:List Str} {k n fi:Nat} {d:Fn} (F:Fun K x qual st f fd) (S:FnScope N ps (av st)) (hd:(P.fn fi)=some d) (hp:d.np=ps.length) (hn:d.ns=N.length)
  (body:∀(cdv:Value) (A:Around) (outer:List PySem.Env) (s:Shared) (H:Hp) (E:XK),Room k (A.deeper (envOfC qual (av st) s.heap.objs.size f cdv))->
   dB ((sG P' w K mg base N qual (av st) f cdv A outer s H E).ag (L4.XE (sG P' w K mg base N qual (av st) f cdv A outer s H E) λ_=>E)) (bf st) (oj T P (call P n) (λ_=>E) d.body)):
  FnOk P' w K mg base (cU P' w) (k+1) f fd ps (eU T P (n+1) fi):=by
 have arity:∀{as G xs st Q X},ab T as G (call P (n+1) fi xs st) Q X->xs.length=d.np/\ab T as G ((aK P (call P n) d.body (xs.map some++List.replicate (d.ns-d.np) none) st).fin P st) Q X:=λ{as G xs st Q X} h=>by
  unfold call at h;rw[hd] at h;exact ab.iff h
 refine okS F S (λvs H Q E ⟨st,as,G,xs,s,r,h⟩=> ?_) λcdv A outer s H vs Q E hr ⟨st,as,G,xs,sm,r,h⟩=>⟨_,body cdv A outer s H E hr, ?_⟩
 ·rw[←r.length,(arity h).1,hp]
 ·let⟨la,h⟩:=arity h;refine⟨xs.map some++List.replicate (d.ns-d.np) none,st,as,G,sm, ?_, ?_⟩
  ·have lv:vs.length=xs.length:=r.length.symm;refine⟨by simp[L2.start,lv,la,hn],λi v e=> ?_⟩
   by_cases hi:i<xs.length
   ·rw[aal (by simpa using hi),aaO] at e;let⟨v',e1,e2⟩:=aab.mp e;cases e2;let⟨u,e3,hr⟩:=r.get e1;refine⟨u, ?_,hr⟩;unfold L2.start;rw[aal (by simpa[lv] using hi),aaO,e3];rfl
   ·rw[aan (by simpa using hi),abW] at e;split at e<;>cases e
  ·cases e1:aK P (call P n) d.body (xs.map some++List.replicate (d.ns-d.np) none) st with
   |next env st'=>
    rw[e1] at h;exact λas' G' H' σ' p l s' er=>lH (v:= .non) (u:= .non) sm s' p l rfl h
   |ret v st'=>
    rw[e1] at h;exact λas' G' H' u p l s' rv=>lH sm s' p l rv h
   |exc x env st'=>
    rw[e1] at h;exact λas' G' H' σ' cls dx p l s' er ex=>BV sm s' p l ex h
   |brk env st'=>rw[e1] at h;exact h.elim
   |cont env st'=>rw[e1] at h;exact h.elim
   |stuck=>rw[e1] at h;exact h.elim
end
end PI
namespace PI
open PySem L2 L2.L3 L2.L4 PySem.SeqAt
mutual
theorem oI {n:Nat}:∀{t:PI.T} {v:Val} {env env':Env},t.low n=true->t.put v env=some env'->env'.length=env.length/\∀(i:Nat),n<=i->env'[i]?=env[i]?
 | .var k,v,env,env',l,e=>by
  unfold PI.T.put at e;unfold PI.T.low at l;split at e
  ·cases e;refine⟨by simp,λi hi=> ?_⟩;have:=acv l;rw[abg (by lia)]
  ·cases e
 | .tup ts,v,env,env',l,e=>by
  unfold PI.T.low at l
  cases v with
  |tup fl xs=>exact ml l (show bG xs env ts=some env' by unfold PI.T.put at e;exact e)
  |_=>(unfold PI.T.put at e;cases e)
theorem ml {n:Nat}:∀{ts:List PI.T} {vs:List Val} {env env':Env},lows n ts=true->bG vs env ts=some env'->env'.length=env.length/\∀(i:Nat),n<=i->env'[i]?=env[i]?
 |[],[],_,_,_,e=>by
  cases e;exact⟨rfl,λ_ _=>rfl⟩
 |[],_::_,_,_,_,e=>by cases e
 |_::_,[],_,_,_,e=>by cases e
 |t::ts,v::vs,env,env',l,e=>by
  replace e:(t.put v env).bind (λenv=>bG vs env ts)=some env':=by unfold bG at e;exact e
  unfold lows at l;rw[aah] at l
  cases e1:t.put v env with
  |none=>rw[e1] at e;cases e
  |some env1=>
   rw[e1] at e;let⟨a1,a2⟩:=oI l.1 e1;let⟨b1,b2⟩:=ml l.2 (show bG vs env1 ts=some env' from e);exact⟨b1.trans a1,λi hi=>(b2 i hi).trans (a2 i hi)⟩
end
theorem Bj {T:CT} {G:Hp} {env:Env} {σ:St} (ws:List Str) (caps:List Nat) (h:aH T as G env σ):aH T as G (az ws.length caps env) (stC ws caps σ):=by
 refine⟨by simp[az,stC],λi v e=> ?_⟩;unfold az at e
 by_cases hi:i<ws.length
 ·rw[aal (by simpa using hi),abW,if_pos hi] at e;cases e
 ·rw[aan (by simpa using hi),aaO] at e;let⟨c,e1,e2⟩:=aab.mp e
  have e3:env[c]?=some (some v):=by
   cases q:env[c]? with
   |none=>rw[q] at e2;cases e2
   |some o=>rw[q] at e2;exact congrArg some e2
  let⟨u,e4,r⟩:=h.2 c v e3;refine⟨u, ?_,r⟩;unfold stC;rw[aan (by simpa using hi),aaO];rw[show i-(ws.map λ_=>(none:Option L2.V)).length=i-(List.replicate ws.length (none:Option Val)).length by simp,e1];simp[e4]
theorem q0 {T:CT} {G:Hp} {env env1:Env} {σ:St} {n:Nat} {caps:List Nat} {t:PI.T} {v:Val} (l:t.low n=true) (e:t.put v (az n caps env)=some env1) (h:aH T as G env1 σ):aH T as G (az n caps env) σ:=by
 let⟨a1,a2⟩:=oI l e;refine⟨by rw[←a1];exact h.1,λi w ew=> ?_⟩
 by_cases hi:i<n
 ·unfold az at ew;rw[aal (by simpa using hi),abW,if_pos hi] at ew;cases ew
 ·exact h.2 i w (by rw[a2 i (by lia)];exact ew)
section
variable {T:CT} {P:Pg} {cl:ar} {E:XS} {X:Cx} {pos:Pos}
theorem KC {e:Expr} (he:PE X e (tE T P cl E ie)):PE X e (tE T P cl E (.fz ie)):=
 PE.mono he λσ H Q z903=>by
  let⟨env,st,as,G,s,er,h⟩:=z903;dsimp only[PI.E.run] at h;refine⟨env,st,as,G,s,er, ?_⟩
  cases e1:ie.run P cl env st with
  |stuck=>rw[e1] at h;exact h.elim
  |exc x st1=>rw[e1] at h;exact h
  |ok v st1=>
   rw[e1] at h;intro as1 G1 H1 p l s1 u r;let⟨v2,st2,as2,G2,s2,r2,q⟩:=Hz s s1 p l r h;exact q u r2
def tO (T:CT) (P:Pg) (cl:ar) (E:XS) (c:Option PI.E):TT:=λσ H Q=>∃env st as G,Sim T st as G H/\aH T as G env σ/\ab T as G (runC P cl c env st) (λb _ _ _ H'=>Q b H') (E σ)
theorem EK:kI X [] (tO T P cl E none):=λpins s σ H Q I z906=>by let⟨env,st,as,G,sm,er,h⟩:=z906;exact BS pins s σ H Q I (h.ok sm)
theorem Fc {c:Expr} (hc:PT X c (tT T P cl E ic)):kI X [c] (tO T P cl E (some ic)):=B3 hc
open Classical in
theorem o4 {σ0:St} {ws:List Str} {caps:List Nat} {t:PI.T} {c:Option PI.E} {ie:PI.E} {it:List Val×List (Nat×Ob)} {env:Env} {st:aa} {as:List Addr} {G H:Hp} {Q:Val->aa->List Addr->Hp->Hp->Prop} {Z:List L2.V->Hp->Prop} {J:It} {src:List Addr->Hp->Prop}
  (s:Sim T st as G H) (er:aH T as G env σ0) (wk:Walks T J it.1 it.2 src) (sr:src as G) (low:t.low ws.length=true) (len:it.1.length<=10000)
  (h:ab T as G ((aC (λv st=>aO (t.put v (az ws.length caps env)) (runC P cl c) (ie.run P cl) st) it.2 it.1 st).bind λxs st=>new (.lst xs) st) Q (E σ0))
  (hZ:∀xs ys st as' G' H',as<+:as'->Le G G'->Sim T st as' G' H'->ae T as' G' xs ys->ab T as' G' (new (.lst xs) st) Q (E σ0)->Z ys H'):
  L3.runC (tG T t) (tO T P cl (λ_=>E σ0) c) (tE T P cl (λ_=>E σ0) ie) J (stC ws caps σ0) H Z:=by
 have sz:sizeLine=2^24:=rfl
 refine⟨λi m ys σ H=>m=it.1.length-i/\i<=it.1.length/\∃st as1 G1 xs,as<+:as1/\Le G G1/\Sim T st as1 G1 H/\aH T as1 G1 (az ws.length caps env) σ/\src as1 G1/\ae T as1 G1 xs ys/\xs.length<=i/\
   ab T as1 G1 ((aC (λv st=>aO (t.put v (az ws.length caps env)) (runC P cl c) (ie.run P cl) st) it.2 (it.1.drop i) st).bind λr st=>new (.lst (xs++r)) st) Q (E σ0),
  ⟨_,rfl,aaV _,st,as,G,[],aai _,Le.refl _,s,Bj ws caps er,sr,rfl,aag _,h⟩, ?_⟩
 rintro i m ys σ H ⟨rfl,hi,st,as1,G1,xs,p1,l1,s,er,sr,rx,lx,h⟩
 by_cases hl:i=it.1.length
 ·subst hl;rw[List.drop_length] at h
  let⟨kp,h⟩:=ab.iff (show ab T as1 G1 (iff (Kept it.2 st) (new (.lst (xs++[])) st)) Q (E σ0) by
   by_cases z:Kept it.2 st
   ·rw[bo z];have:aC (λv st=>aO (t.put v (az ws.length caps env)) (runC P cl c) (ie.run P cl) st) it.2 [] st= .ok [] st:=bo z;rw[this] at h;exact h
   ·have:aC (λv st=>aO (t.put v (az ws.length caps env)) (runC P cl c) (ie.run P cl) st) it.2 [] st= .stuck:=if_neg z;rw[this] at h
    exact h.elim)
  rw[abj] at h;exact .inl ⟨wk.stop s kp sr,hZ xs ys st as1 G1 H p1 l1 s rx h⟩
 ·have li:i<it.1.length:=by lia
  rw[List.drop_eq_getElem_cons li] at h
  have ⟨kp,h⟩:Kept it.2 st/\ab T as1 G1 ((aO (t.put it.1[i] (az ws.length caps env)) (runC P cl c) (ie.run P cl) st).bind λo st=>(aC (λv st=>aO (t.put v (az ws.length caps env)) (runC P cl c) (ie.run P cl) st) it.2 (it.1.drop (i+1)) st).bind λr st=>new (.lst (xs++eO o r)) st) Q (E σ0):=by
   by_cases z:Kept it.2 st
   ·refine⟨z, ?_⟩;have:aC (λv st=>aO (t.put v (az ws.length caps env)) (runC P cl c) (ie.run P cl) st) it.2 (it.1[i]::it.1.drop (i+1)) st=(aO (t.put it.1[i] (az ws.length caps env)) (runC P cl c) (ie.run P cl) st).bind λo st=>(aC (λv st=>aO (t.put v (az ws.length caps env)) (runC P cl c) (ie.run P cl) st) it.2 (it.1.drop (i+1)) st).bind λr st=> .ok (eO o r) st:=bo z;rw[this,R.bind_assoc] at h;simpa only[R.bind_assoc,R.nJ] using h
   ·have:aC (λv st=>aO (t.put v (az ws.length caps env)) (runC P cl c) (ie.run P cl) st) it.2 (it.1[i]::it.1.drop (i+1)) st= .stuck:=if_neg z;rw[this] at h;exact h.elim
  refine .inr ⟨wk.go li s kp sr,λys' σ' H'=>∃st as1 G1 xs,as<+:as1/\Le G G1/\Sim T st as1 G1 H'/\aH T as1 G1 (az ws.length caps env) σ'/\src as1 G1/\ae T as1 G1 xs ys'/\xs.length<=i+1/\
    ab T as1 G1 ((aC (λv st=>aO (t.put v (az ws.length caps env)) (runC P cl c) (ie.run P cl) st) it.2 (it.1.drop (i+1)) st).bind λr st=>new (.lst (xs++r)) st) Q (E σ0),
   λys' σ' H' w=>⟨it.1.length-(i+1),by lia,rfl,by lia,w⟩,λx H2 y=> ?_⟩
  let⟨v,G2,e2,l2,s2,rv⟩:=wk.yld li s kp sr y;rw[aac li] at e2;cases e2;unfold aO at h;rw[R.bind_assoc] at h;let⟨env1,e3,h⟩:=ab.ak h;refine⟨az ws.length caps env,st,as1,G2,_,env1,s2,er.mono (aai _) l2,rv,e3,λσ3 er3=> ?_⟩;rw[R.bind_assoc] at h;refine⟨env1,st,as1,G2,s2,er3,(ab.mono (aai _) l2 h).bind.imp λb st4 as4 G4 H4 p4 l4 s4 h=> ?_⟩
  cases b with
  |false=>exact nk ⟨st4,as4,G4,xs,p1.trans p4,l1.trans (l2.trans l4),s4,q0 low e3 (er3.mono p4 l4),wk.mono p4 (l2.trans l4) sr,rx.mono p4 (l2.trans l4),by lia,h⟩
  |true=>
   refine nB ?_;replace h:ab T as4 G4 (((ie.run P cl env1 st4).bind λx st=> .ok (some x) st).bind λo st=>(aC (λv st=>aO (t.put v (az ws.length caps env)) (runC P cl c) (ie.run P cl) st) it.2 (it.1.drop (i+1)) st).bind λr st=>new (.lst (xs++eO o r)) st) Q (E σ0):=h;rw[R.bind_assoc] at h;refine aA (E:=λ_=>E σ0) (σ:=σ3) s4 (er3.mono p4 l4) h λx st5 as5 G5 H5 u s5 er5 r5 p5 l5 h=> ?_;refine⟨by rw[←rx.length];lia,st5,as5,G5,xs++[x],p1.trans (p4.trans p5),l1.trans (l2.trans (l4.trans l5)),s5,q0 low e3 er5,wk.mono (p4.trans p5) (l2.trans (l4.trans l5)) sr,ae.append (rx.mono (p4.trans p5) (l2.trans (l4.trans l5))) ⟨u,[],rfl,r5,rfl⟩,by simp;lia, ?_⟩;simpa[eO] using h
theorem Dn {ws:List Str} {caps:List Nat} {sc:Scope} {t:PI.T} {q:PI.Q} {c:Option PI.E} (fm:Framed X) (hx:cM X) (B:BlockOkC X.env.scope sc) (hc:X.calm=true) (hcap:∀k∈caps,sc.names.lookup (X.N.getD k Str.empty)=some .free) (hi:L2.PI (X.ag (L4.XE X E)) tg iter (tQ T P cl E q))
  (hg:∀σ own C fp pn s H,(∀b∈fp,∃o,(b,o)∈pn)->PG (L4.cK X (λ_=>E σ) own ws caps sc C fp pn s H) tg (tG T t)) (ht:∀σ own C fp pn s H,(∀b∈fp,∃o,(b,o)∈pn)->kI (L4.cK X (λ_=>E σ) own ws caps sc C fp pn s H) ifs (tO T P cl (λ_=>E σ) c))
  (he:∀σ own C fp pn s H,(∀b∈fp,∃o,(b,o)∈pn)->PE (L4.cK X (λ_=>E σ) own ws caps sc C fp pn s H) elt (tE T P cl (λ_=>E σ) ie)) (hs:∀x,foldedSetIterable iter X.env x=pure x):
  PE (X.ag (L4.XE X E)) (.ListComp elt [⟨tg,iter,ifs,0⟩] sc pos) (tE T P cl E (.comp ws.length caps t q c ie)):=
 PE.mono (L4.zl fm hx B hc hcap hi hg ht he hs) λσ H Q z903=>by
  let⟨env,st,as,G,s,er,h⟩:=z903;dsimp only[PI.E.run] at h;refine⟨env,st,as,G,s,er,h.bind.imp λit st1 as1 G1 H1 p l s1 h J src wk sr=> ?_⟩;let⟨⟨low,len⟩,h⟩:=ab.iff h;exact o4 s1 (er.mono p l) wk sr low len h λxs ys st as' G' H' p' l' s' r h D hD=>fF s' r h hD
theorem Eb {i:Nat} {y:Str} {ws:List Str} {caps:List Nat} {sc:Scope} {t:PI.T} {q:PI.Q} {c:Option PI.E} (fm:Framed X) (hx:cM X) (B:BlockOkC X.env.scope sc) (hc:X.calm=true) (hcap:∀k∈caps,sc.names.lookup (X.N.getD k Str.empty)=some .free) (hN:X.N.Nodup) (hy:X.N[i]?=some y) (hl:X.env.scope.names.lookup y=some .local) (hi:L2.PI (X.ag (L4.XE X E)) tg iter (tQ T P cl E q))
  (hg:∀σ own C fp pn s H,(∀b∈fp,∃o,(b,o)∈pn)->PG (L4.cK X (λ_=>E σ) own ws caps sc C fp pn s H) tg (tG T t)) (ht:∀σ own C fp pn s H,(∀b∈fp,∃o,(b,o)∈pn)->kI (L4.cK X (λ_=>E σ) own ws caps sc C fp pn s H) ifs (tO T P cl (λ_=>E σ) c))
  (he:∀σ own C fp pn s H,(∀b∈fp,∃o,(b,o)∈pn)->PE (L4.cK X (λ_=>E σ) own ws caps sc C fp pn s H) elt (tE T P cl (λ_=>E σ) ie)) (hsw:swapsWith (.ListComp elt [⟨tg,iter,ifs,0⟩] sc cpos) (some (.Name y py)) pos.line X.env=pure true) (hs:∀x,foldedSetIterable iter X.env x=pure x):
  PS (X.ag (L4.XE X E)) (.Assign [.Name y py] (.ListComp elt [⟨tg,iter,ifs,0⟩] sc cpos) pos) (tS T P cl E (.set (.var i) (.comp ws.length caps t q c ie))):=
 PS.mono (L4.zK fm hx B hc hcap hN hy hl hi hg ht he hsw hs) λD σ H z903=>by
  let⟨env,st,as,G,s,er,h⟩:=z903;dsimp only[PI.S.run,PI.E.run] at h;refine⟨env,st,as,G,s,er, ?_⟩
  cases e1:q.run P cl env st with
  |stuck=>rw[e1] at h;exact h.elim
  |exc x st1=>
   rw[e1] at h;exact λas' G' H' cls dx p l s' x=>h as' G' H' σ cls dx p l s' (er.mono p l) x
  |ok it st1=>
   rw[e1] at h;intro as1 G1 H1 p1 l1 s1 J src wk sr
   have h2:ab T as G (iff (t.low ws.length=true/\it.1.length<=10000) ((aC (λv st=>aO (t.put v (az ws.length caps env)) (runC P cl c) (ie.run P cl) st) it.2 it.1 st1).bind λxs st=>new (.lst xs) st)) (λv st as' G' H'=>∀u,Rel T as' G' v u->∀σ',aH T as' G' (env.set i (some v)) σ'->D.nx σ' H') (E σ):=by
    replace h:aE T as G (F.of env (iff (t.low ws.length=true/\it.1.length<=10000) ((aC (λv st=>aO (t.put v (az ws.length caps env)) (runC P cl c) (ie.run P cl) st) it.2 it.1 st1).bind λxs st=>new (.lst xs) st)) λx st=>F.ak st ((PI.T.var i).put x env)) D E:=h;generalize iff (t.low ws.length=true/\it.1.length<=10000) ((aC (λv st=>aO (t.put v (az ws.length caps env)) (runC P cl c) (ie.run P cl) st) it.2 it.1 st1).bind λxs st=>new (.lst xs) st)=r at h⊢
    cases r with
    |stuck=>exact h
    |exc x st=>exact λas' G' H' cls dx p l s' x=>h as' G' H' σ cls dx p l s' (er.mono p l) x
    |ok v st=>
     intro as' G' H' p l s' u ru σ' er';replace h:aE T as G (F.ak st ((PI.T.var i).put v env)) D E:=h;unfold PI.T.put at h;split at h
     ·exact h as' G' H' σ' p l s' er'
     ·exact h.elim
   let⟨⟨low,len⟩,h3⟩:=ab.iff h2;refine o4 s1 (er.mono p1 l1) wk sr low len (ab.mono p1 l1 h3) λxs ys st as' G' H' p' l' s' r h D' hD=> ?_;have h4:=h (as'++[D']) G' _ (aat _ _) (Le.refl _) (s'.push hD ⟨ys,ao,r.mono (aat _ _) (Le.refl _)⟩) (.ref D');have rn:Rel T (as'++[D']) G' (.ref st.length) (.ref D'):=⟨D',by rw[←s'.len,aan (aag _)];simp,rfl⟩;exact h4 rn _ ((er.mono (p1.trans (p'.trans (aat _ _))) (l1.trans l')).set i rn)
end
theorem kg:∀(n:Nat) (lo:Int),(aY lo n).length=n
 |0,_=>rfl
 |n+1,lo=>by
  unfold aY;rw[aar,kg n]
theorem tD:∀(n:Nat) (lo:Int) (i:Nat),i<n->(aY lo n)[i]?=some (.int (lo+i))
 |0,_,_,h=>by lia
 |n+1,lo,0,_=>by
  unfold aY;simp
 |n+1,lo,i+1,h=>by
  unfold aY;rw[ab0,tD n (lo+1) i (by lia)];congr 2
  push_cast
  lia
section
variable {T:CT} {P:Pg} {cl:ar} {E:XS} {X:Cx} {pos:Pos}
theorem xu (lo:Int) (n:Nat):Walks T (AW lo n) (aY lo n) [] (λ_ _=>True) where
 mono _ _ h:=h
 stop _ _ _:=by rw[kg];exact aag n
 go hi _ _ _:=by rw[kg] at hi;exact hi
 yld hi s _ _ y:=by
  rw[kg] at hi;let⟨rfl,rfl⟩:=y;exact⟨_,_,tD n lo _ hi,Le.refl _,s,rfl⟩
theorem B2 {α:Type} {e:PI.E} {env:Env} {st:aa} {G H:Hp} {σ:St} {f:Val->aa->R α} {Q:α->aa->List Addr->Hp->Hp->Prop} {K:List L2.V->Hp->Prop} (s:Sim T st as G H) (er:aH T as G env σ)
  (h:ab T as G ((e.run P cl env st).bind f) Q (E σ))
  (k:∀v st1 as1 G1 H1 u,Sim T st1 as1 G1 H1->aH T as1 G1 env σ->Rel T as1 G1 v u->ab T as1 G1 (f v st1) Q (E σ)->K [u] H1):fe T P cl E [e] σ H K:=by
 refine⟨env,st,as,G,s,er, ?_⟩;unfold aN
 cases e1:e.run P cl env st with
 |stuck=>rw[e1] at h;exact h.elim
 |exc x st1=>rw[e1] at h;exact h
 |ok v st1=>
  rw[e1] at h;intro as1 G1 H1 p l s1 us r;let⟨u,t,rfl,r1,r2⟩:=r;cases r2;exact k v st1 as1 G1 H1 u s1 (er.mono p l) r1 (ab.mono p l h)
theorem Bn {α:Type} {e e':PI.E} {env:Env} {st:aa} {G H:Hp} {σ:St} {f:Val->Val->aa->R α} {Q:α->aa->List Addr->Hp->Hp->Prop} {K:List L2.V->Hp->Prop} (s:Sim T st as G H) (er:aH T as G env σ)
  (h:ab T as G ((e.run P cl env st).bind λx st=>(e'.run P cl env st).bind λy st=>f x y st) Q (E σ))
  (k:∀v v' st1 as1 G1 H1 u u',Sim T st1 as1 G1 H1->aH T as1 G1 env σ->Rel T as1 G1 v u->Rel T as1 G1 v' u'->ab T as1 G1 (f v v' st1) Q (E σ)->K [u,u'] H1):fe T P cl E [e,e'] σ H K:=by
 refine⟨env,st,as,G,s,er, ?_⟩;unfold aN aN
 cases e1:e.run P cl env st with
 |stuck=>rw[e1] at h;exact h.elim
 |exc x st1=>rw[e1] at h;exact h
 |ok v st1=>
  rw[e1] at h;replace h:ab T as G ((e'.run P cl env st1).bind λy st=>f v y st) Q (E σ):=h;rw[R.nJ]
  cases e2:e'.run P cl env st1 with
  |stuck=>rw[e2] at h;exact h.elim
  |exc x st1=>rw[e2] at h;exact h
  |ok v' st2=>
   rw[e2] at h;intro as1 G1 H1 p l s1 us r;let⟨u,t,rfl,r1,u',t',rfl,r2,r3⟩:=r;cases r3;exact k v v' st2 as1 G1 H1 u u' s1 (er.mono p l) r1 r2 (ab.mono p l h)
theorem Dw {a:Expr} {p:Pos} (hg:Gl X "range") (hm:X.mg "range"=none) (ha:PA X [a] (fe T P cl E [ia])) (hs:starEach [a] X.env=[(false,eval a X.env)]):L2.PI X tg (.Call (.Name "range" p) [a] [] pos) (tQ T P cl E (.rng1 ia)):=
 PI.mono (vT hg hm ha hs) λσ H R z903=>by
  let⟨env,st,as,G,s,er,h⟩:=z903;unfold PI.Q.run at h;refine B2 s er h λx st1 as1 G1 H1 u s1 er1 r1 h=> ?_
  cases x with
  |int n=>
   cases r1;let⟨c,h⟩:=ab.iff h;exact⟨n,rfl,by lia,by lia,h.ok s1 _ _ (xu 0 n.toNat) trivial⟩
  |_=>exact h.elim
theorem lK {st:aa} {G H:Hp} {k:Nat} {u:L2.V} (s:Sim T st as G H) (r:Rel T as G (.ref k) u) (e:st[k]?=some (.lst ys)):∃a us,u= .ref a/\as[k]?=some a/\H a=some (.lst us)/\ae T as G ys us:=by
 let⟨a,ea,rfl⟩:=r;let⟨us,q,r⟩:=s.ob k _ a e ea;exact⟨a,us,rfl,ea,q,r⟩
def su (T:CT) (m:Bm):L2.V->List L2.V->Hp->VK->Prop:=λu ws H Q=>∃st as G x xs Z,Sim T st as G H/\Rel T as G x u/\ae T as G xs ws/\ab T as G (jJ m x xs st) (PV T Q) Z
theorem IQ {e:Expr} {es:List Expr} {ies:List PI.E} {m:Bm} {name:Str} {apos:Pos} {id:String} (hd:bP m=false) (hK:T.K=X.K) (slot:Slot "list" name id) (hty:typeOf (.builtin id)=pure (.type "method_descriptor")) (hm:o8 X id (su T m)) (ho:PE X o (tE T P cl E io)) (ha:PA X (e::es) (fe T P cl E ies))
  (hbase:attributeBase o name X.env (eval o X.env)=eval o X.env)
  (hfew:((backTo pos (starEach (e::es) X.env)).all (λx=> !x.1)&&(backToKw pos (keywordEach [] X.env)).all (λx=>x.1.isSome)&&decide ((e::es).length+([]:List Keyword).length+(if ([]:List Keyword).isEmpty then 0 else 1)<30))=true)
  (hline:(apos.endLine==pos.line)=true) (hs:starEach (e::es) X.env=(false,eval e X.env)::starEach es X.env) (hplain:(backTo pos (starEach es X.env)).any (·.1)=false):
  PE X (.Call (.Attribute o name apos) (e::es) [] pos) (tE T P cl E (.bm m io ies)):=
 PE.mono (Hg PySem.F.plainAttrs_list slot hty hm ho ha hbase hfew hline hs hplain) λσ H Q z903=>by
  let⟨env,st,as,G,s,er,h⟩:=z903;dsimp only[PI.E.run] at h;refine aA s er h λx st1 as1 G1 H1 u s1 er1 r1 p1 l1 h=> ?_;let⟨c,h⟩:=ab.iff h;refine⟨?_,cV s1 er1 h λxs st2 as2 G2 H2 us s2 er2 r2 p2 l2 h=>⟨st2,as2,G2,x,xs,_,s2,r1.mono p2 l2,r2,h⟩⟩;have r3:=aV s1 r1;generalize res st1 x=y at c r3
  cases y with
  |lst xs=>
   let⟨a,us,rfl,q,_⟩:=r3;exact .inl ⟨rfl,us,hK▸q⟩
  |dct ks vs=>
   replace c:bP m=true:=c;rw[hd] at c;cases c
  |_=>cases c
theorem rW {m:Bm} {x:Val} {st:aa} {G:Hp} {Q:Val->aa->List Addr->Hp->Hp->Prop} {Z:XK} (hd:m≠ .get) (h:ab T as G (jJ m x xs st) Q Z):∃k ys,x= .ref k/\st[k]?=some (.lst ys)/\ab T as G (ir m k xs st (some (.lst ys))) Q Z:=by
 cases x with
 |ref k=>
  have e:jJ m (.ref k) xs st=ir m k xs st st[k]?:=by cases m<;>first|rfl|exact absurd rfl hd
  rw[e] at h
  cases e2:st[k]? with
  |none=>rw[e2] at h;exact h.elim
  |some o=>
   rw[e2] at h
   cases o with
   |lst ys=>exact⟨k,ys,rfl,e2,h⟩
   |dct ks vs=>exact h.elim
   |ins c ns vs=>exact h.elim
 |_=>
  exfalso
  cases m<;>first|exact absurd rfl hd|exact h
theorem ny {st:aa} {G H:Hp} {k:Nat} {a:Addr} {v:Val} {u:L2.V} {Q:VK} {Z:XK} (s:Sim T st as G H) (ea:as[k]?=some a) (r:ae T as G ys us) (rv:Rel T as G v u) (h:ab T as G (.ok v (st.set k (.lst ys))) (PV T Q) Z):Q u (upd H a (.lst us)):=
 h as G _ (aai _) (Le.refl _) (s.set ea ⟨us,ao,r⟩) u rv
theorem yk:o8 X "list.append" (su T .append):=λpins s0 σ H u ws v vs Q I ru rw' z912=>by
 let⟨st,as,G,x,xs,Z,s,r1,r2,h⟩:=z912;let⟨k,ys,rfl,e,h⟩:=rW (λz=>by cases z) h;let⟨a,us,rfl,ea,q,r⟩:=lK s r1 e
 match xs,r2,h with
 |[y],⟨w,t,z,r3,r4⟩,h=>
  subst z;cases r4;let⟨c,h⟩:=ab.iff h;have sz:sizeLine=2^24:=rfl;exact oU pins s0 σ H _ _ v vs Q I ru rw' ⟨a,us,w,rfl,rfl,q,by rw[←r.length];lia,ny (v:= .non) s ea (ae.append r (show ae T as G [y] [w] from ⟨w,[],rfl,r3,rfl⟩)) rfl h⟩
 |[],_,h=>exact h.elim
 |_::_::_,_,h=>exact h.elim
theorem FZ {m:Bm} {k:Nat} {st:aa} {G:Hp} {Q:Val->aa->List Addr->Hp->Hp->Prop} {Z:XK} (hm:m≠ .extend) (h:ab T as G (ir m k xs st (some (.lst ys))) Q Z):ab T as G (CV m k ys xs st) Q Z:=by
 have e:ir m k xs st (some (.lst ys))=CV m k ys xs st:=by
  unfold ir;simp only;split
  ·exact absurd rfl hm
  ·rfl
 rwa[e] at h
theorem E9 {k:Nat} {x y:Val} {st:aa} {G:Hp} {Q:Val->aa->List Addr->Hp->Hp->Prop} {Z:XK} (h:ab T as G (ir .extend k (x::y::r) st (some (.lst ys))) Q Z):False:=by
 cases x<;>exact h
theorem zE:o8 X "list.extend" (su T .extend):=λpins s0 σ H u ws v vs Q I ru rw' z912=>by
 let⟨st,as,G,x,xs,Z,s,r1,r2,h⟩:=z912;let⟨k,ys,rfl,e,h⟩:=rW (λz=>by cases z) h;let⟨a,us,rfl,ea,q,r⟩:=lK s r1 e
 match xs,r2,h with
 |[.ref j],⟨w,t,z,r3,r4⟩,h=>
  subst z;cases r4;replace h:ab T as G (Au k ys st st[j]?) (PV T Q) Z:=h
  cases e2:st[j]? with
  |none=>rw[e2] at h;exact h.elim
  |some o=>
   rw[e2] at h
   cases o with
   |lst zs=>
    let⟨b,us2,rfl,eb,q2,rb⟩:=lK s r3 e2;let⟨c,h⟩:=ab.iff h;have sz:sizeLine=2^24:=rfl;exact wm pins s0 σ H _ _ v vs Q I ru rw' ⟨a,b,us,us2,rfl,rfl,q,q2,by rw[←r.length,←rb.length];lia,ny (v:= .non) s ea (ae.append r rb) rfl h⟩
   |dct ks vs=>exact h.elim
   |ins c ns vs=>exact h.elim
 |[],_,h=>exact h.elim
 |[.non],_,h=>exact h.elim
 |[.bl _],_,h=>exact h.elim
 |[.int _],_,h=>exact h.elim
 |[.str _],_,h=>exact h.elim
 |[.tup _ _],_,h=>exact h.elim
 |[.lst _],_,h=>exact h.elim
 |[.dct _ _],_,h=>exact h.elim
 |[.obj _ _ _],_,h=>exact h.elim
 |_::_::_,_,h=>exact(E9 h).elim
theorem ae.reverse {G:Hp}:∀{xs:List Val} {us:List L2.V},ae T as G xs us->ae T as G xs.reverse us.reverse
 |[],_,h=>by cases h;rfl
 |_::_,_,⟨u,t,e,h,r⟩=>by
  subst e;rw[acr,acr];exact ae.append (ae.reverse r) ⟨u,[],rfl,h,rfl⟩
theorem wU:o8 X "list.reverse" (su T .reverse):=λpins s0 σ H u ws v vs Q I ru rw' z912=>by
 let⟨st,as,G,x,xs,Z,s,r1,r2,h⟩:=z912;let⟨k,ys,rfl,e,h⟩:=rW (λz=>by cases z) h;let⟨a,us,rfl,ea,q,r⟩:=lK s r1 e;replace h:=FZ (λz=>by cases z) h
 match xs,r2,h with
 |[],r2,h=>
  cases r2;exact vd pins s0 σ H _ _ v vs Q I ru rw' ⟨a,us,rfl,rfl,q,ny (v:= .non) s ea r.reverse rfl h⟩
 |_::_,_,h=>exact h.elim
theorem FN {m:Bm} {name:Str} {apos:Pos} {id:String} (hd:bP m=false) (hK:T.K=X.K) (slot:Slot "list" name id) (hty:typeOf (.builtin id)=pure (.type "method_descriptor")) (hm:o8 X id (su T m)) (ho:PE X o (tE T P cl E io))
  (hbase:attributeBase o name X.env (eval o X.env)=eval o X.env) (hline:(apos.endLine==pos.line)=true):PE X (.Call (.Attribute o name apos) [] [] pos) (tE T P cl E (.bm m io [])):=
 PE.mono (Ef PySem.F.plainAttrs_list slot hty hm ho hbase hline) λσ H Q z903=>by
  let⟨env,st,as,G,s,er,h⟩:=z903;dsimp only[PI.E.run] at h;refine aA s er h λx st1 as1 G1 H1 u s1 er1 r1 p1 l1 h=> ?_;let⟨c,h⟩:=ab.iff h;refine⟨?_,st1,as1,G1,x,[],_,s1,r1,rfl,h⟩;have r3:=aV s1 r1;generalize res st1 x=y at c r3
  cases y with
  |lst xs=>
   let⟨a,us,rfl,q,_⟩:=r3;exact .inl ⟨rfl,us,hK▸q⟩
  |dct ks vs=>
   replace c:bP m=true:=c;rw[hd] at c;cases c
  |_=>cases c
end
end PI
namespace PI
open PySem PySem.Spec L2 L2.L3 L2.L4 PySem.SeqAt
open PyProof.Rows hiding St lobj
section
variable {T:CT} {P:Pg} {cl:ar} {E:XS} {X:Cx} {pos:Pos}
theorem sv {G:Hp} {i:Int} {v:Val} (r:ae T as G xs us) (e:kz xs i=some v):∃u,o7 us i=some u/\Rel T as G v u:=by
 unfold kz at e
 cases e1:i9 xs.length i with
 |none=>rw[e1] at e;cases e
 |some j=>
  rw[e1] at e;let⟨u,e2,h⟩:=r.get (show xs[j]?=some v from e);refine⟨u, ?_,h⟩;unfold o7;rw[←r.length,show sM xs.length i=some j from e1];exact e2
def Jn:R2:=λx y H Q=>∃a v,x= .ref a/\jg H a y (some v)/\Q v H
theorem Bl (hu:X.A.units+1<cLine):km X Jn:=by
 intro value slice pins s σ H x y v u Q I rx ry h hs;let⟨a,w,rfl,g,q⟩:=h;obtain rfl:v=Value.ref a:=rx;have hT:=rX I g;unfold subscriptTail;refine aaa ?_;rw[getitemInPython_of_ne hT.not_modules];refine aaa (wpAny_specialOf hT PySem.F.slot_dict_getitem.lookup ?_)
 have fin:wpAny (model X.prog X.w) X.A (subscripted slice false (.ref a) u) (λr s₃=>wpAny (model X.prog X.w) X.A (letTemporaryGo value (.ref a) r>>=λ_=>pure r) (EP X pins σ Q) X.xe s₃) X.xe s:=by
  rw[hs];exact wpAny_operating (aa2 (xp hu I g ry λw' s3 I3 rw'=>⟨w,H,I3,rw',q⟩) (λr s₃ h₃=>aaa (wpAny_letTemporaryGo (aaf h₃))) λ_ _ x=>x)
 first
  |exact aaf (aaa fin)
  |exact aaa (aaf (aaa fin))
  |exact aaa fin
end
theorem qi {T:CT} {G:Hp} {v:Val} {k:Key} {u:L2.V} (h:bO v=some k) (r:Rel T as G v u):u=kV k:=by
 cases v<;>first|(cases h;done)|(cases h;exact r)
theorem tF {T:CT} {G:Hp}:∀{vs:List Val} {kk:List Key} {us:List L2.V},aG vs=some kk->ae T as G vs us->us=kk.map kV
 |[],_,_,h,r=>by
  cases h;exact r
 |v::vs,kk,us,h,⟨u,t,e,r1,r2⟩=>by
  unfold aG at h
  cases e1:bO v with
  |none=>rw[e1] at h;cases h
  |some k=>
   cases e2:aG vs with
   |none=>rw[e1,e2] at h;cases h
   |some kr=>
    rw[e1,e2] at h;cases h;rw[e,qi e1 r1,tF e2 r2];rfl
theorem nG {d:Nat} {v w:Val} {k k':Key} (h:bO v=some k) (h':bO w=some k'):eqv d v w=some (decide (k=k')):=by
 cases v<;>first|(cases h;done)|skip
 ·rename_i a
  cases w<;>first|(cases h';done)|skip
  ·rename_i b;cases h;cases h';rw[wu];cases d<;>rfl
  ·cases h;cases h';cases d<;>rfl
 ·rename_i a
  cases w<;>first|(cases h';done)|skip
  ·cases h;cases h';cases d<;>rfl
  ·rename_i b;cases h;cases h';rw[xF];cases d<;>rfl
end PI
namespace L2.L3
open PySem PySem.Spec PyProof.Rows
def DG (H:Hp) (a:Addr) (y:V) (o:Option V):Prop:=jg H a y o∨(o=none/\((∃b k,y= .ref b/\H b=some (.tup (List.map kV k))/\Rd H a (.dK []))∨∃k,y=kV k/\Rd H a (.dT [])))
section
variable {X:Cx} {pins:List (Addr×Obj)} {σ:St} {H:Hp} {s:Shared} {a:Addr} {y d:V} {u r:Value} {o:Option V} {A:Around} {E:Value->Shared->Prop}
theorem xq (I:Inv X pins σ H s) (e:Rd H a (.dK [])):(a==sysModules)=false/\s.heap.DictOfH (tupleKind (aF X.prog X.w)) a []:=by
 let⟨_,hd,vs,rel,dd⟩:=dZ I.af e;cases rel;let⟨ob,es,ep,h1,h2,h3,_,h4,_⟩:=dd
 have e0:es.toList=[]:=by
  generalize es.toList=l at h4;cases h4;rfl
 exact⟨hd,ob,es,ep,h1,h2,h3,e0,λx hx=>(by cases hx),aco⟩
theorem wG (I:Inv X pins σ H s) (e:Rd H a (.dT [])):(a==sysModules)=false/\s.heap.DictOf (aF X.prog X.w) a []:=by
 let⟨_,hd,xs,rel,dd⟩:=eg I.af e;cases rel;let⟨ob,es,ep,h1,h2,h3,h4,_⟩:=dd;have e0:es=#[]:=acG.mp h4;subst e0;let⟨_,es',_,g1,_,g3,g4,g5,_⟩:=Heap.DictOf.new (knd:=aF X.prog X.w) s.heap;rw[aaj _ rfl] at g1;cases g1;cases g3;exact⟨hd,ob,#[],ep,h1,h2,h3,g4,g5,aco⟩
theorem Gp {Q:Value->Shared->Prop} (hu:A.units+1<cLine) (I:Inv X pins σ H s) (g:DG H a y o) (ry:RelV y u) (h:∀s',Inv X pins σ H s'->Q (.bool o.isSome) s'):
  wpAny (model X.prog X.w) A (compareOp .In u (.ref a)) Q E s:=by
 rcases g with g|⟨rfl,⟨b,k,rfl,eb,e⟩|⟨k,rfl,e⟩⟩
 ·exact Km hu I g ry h
 ·cases (show u=Value.ref b from ry);let⟨hd,dd⟩:=xq I e;refine wpAny_in_heap (aaZ hu) (cD I.af eb) hd dd ?_;exact h _ (I.tok _)
 ·let⟨hd,dd⟩:=wG I e;refine wpAny_in_of (dE ry) hd dd.mapOf ?_;exact h _ (I.tok _)
theorem yJ {Q:Value->Shared->Prop} (hu:A.units+1<cLine) (I:Inv X pins σ H s) (g:DG H a y o) (ry:RelV y u) (h:∀s',Inv X pins σ H s'->Q (.bool (!o.isSome)) s'):
  wpAny (model X.prog X.w) A (compareOp .NotIn u (.ref a)) Q E s:=by
 rcases g with g|⟨rfl,⟨b,k,rfl,eb,e⟩|⟨k,rfl,e⟩⟩
 ·exact CH hu I g ry h
 ·cases (show u=Value.ref b from ry);let⟨hd,dd⟩:=xq I e;refine wpAny_notIn_heap (aaZ hu) (cD I.af eb) hd dd ?_;exact h _ (I.tok _)
 ·let⟨hd,dd⟩:=wG I e;refine wpAny_notIn_of (dE ry) hd dd.mapOf ?_;exact h _ (I.tok _)
theorem A5 {Q:Value->Shared->Prop} (hu:A.units+1<cLine) (I:Inv X pins σ H s) (g:DG H a y o) (ry:RelV y u) (h:∀w' s',Inv X pins σ H s'->RelV (o.getD .non) w'->Q w' s'):
  wpAny (model X.prog X.w) A (call (.builtin "dict.get") [.ref a,u]) Q E s:=by
 rcases g with g|⟨rfl,⟨b,k,rfl,eb,e⟩|⟨k,rfl,e⟩⟩
 ·exact DW hu I g ry h
 ·cases (show u=Value.ref b from ry);let⟨hd,dd⟩:=xq I e;exact abV aaQ dd.typeIs aa0 (abY _ _) (meetsH_dict_get (tupleKind (aF X.prog X.w)) a b hd) ⟨aaZ hu,k,[],cD I.af eb,dd,h _ _ (I.tok _) rfl⟩
 ·let⟨hd,dd⟩:=wG I e;exact abV aaQ dd.typeIs aa0 (abY _ _) (meets_dict_get (aF X.prog X.w) a (dE ry) hd) ⟨_,dd.mapOf,h _ _ (I.tok _) rfl⟩
theorem Bv {Q:Value->Shared->Prop} (hu:A.units+1<cLine) (I:Inv X pins σ H s) (g:DG H a y o) (ry:RelV y u) (rd:RelV d r) (h:∀w' s',Inv X pins σ H s'->RelV (o.getD d) w'->Q w' s'):
  wpAny (model X.prog X.w) A (call (.builtin "dict.get") [.ref a,u,r]) Q E s:=by
 rcases g with g|⟨rfl,⟨b,k,rfl,eb,e⟩|⟨k,rfl,e⟩⟩
 ·exact DU hu I g ry rd h
 ·cases (show u=Value.ref b from ry);let⟨hd,dd⟩:=xq I e;exact abV aaQ dd.typeIs aa0 (abZ _ _ _) (meetsH_dict_get_default (tupleKind (aF X.prog X.w)) a b hd r) ⟨aaZ hu,k,[],cD I.af eb,dd,h _ _ (I.tok _) rd⟩
 ·let⟨hd,dd⟩:=wG I e;exact abV aaQ dd.typeIs aa0 (abZ _ _ _) (meets_dict_get_default (aF X.prog X.w) a (dE ry) hd r) ⟨_,dd.mapOf,h _ _ (I.tok _) rd⟩
end
end L2.L3
namespace PI
open PySem PySem.Spec L2 L2.L3 L2.L4 PySem.SeqAt
open PyProof.Rows hiding St lobj
theorem oJ:∀{xs:List Val},xs.all uW=true->∃kk,aG xs=some kk
 |[],_=>⟨[],rfl⟩
 |x::xs,h=>by
  rw[aaR,aah] at h;let⟨kk,e⟩:=oJ h.2;have:=h.1
  cases x<;>first|(cases this;done)|skip
  ·rename_i i;exact⟨.inl i::kk,by simp[aG,bO,e]⟩
  ·rename_i i;exact⟨.inr i::kk,by simp[aG,bO,e]⟩
theorem mU {T:CT} {G H:Hp} {k:Val} {w:L2.V} (l:Le G H) (hk:bA k=true) (r:Rel T as G k w):
  (kT k=false/\∃κ,bO k=some κ/\w=kV κ)∨(kT k=true/\∃κs b,cJ k=some κs/\w= .ref b/\H b=some (.tup (κs.map kV))):=by
 cases k with
 |int i=>exact .inl ⟨rfl, .inl i,rfl,qi rfl r⟩
 |str i=>exact .inl ⟨rfl, .inr i,rfl,qi rfl r⟩
 |tup f xs=>
  unfold bA at hk;rw[aah] at hk
  have hf:f=false:=by simpa using hk.1
  subst hf;let⟨kk,e⟩:=oJ hk.2;let⟨b,us,rfl,h1,h2⟩:=r;refine .inr ⟨rfl,kk,b,e,rfl, ?_⟩;rw[←tF e h2];exact l.ex h1 rfl
 |_=>cases hk
theorem cg {v:Val} {kk:List Key} (h:aG (v::vs)=some kk):∃k t,bO v=some k/\aG vs=some t/\kk=k::t:=by
 unfold aG at h;let⟨k,e1,e2⟩:=aap.mp h;let⟨t,e3,e4⟩:=aab.mp e2;exact⟨k,t,e1,e3,e4.symm⟩
theorem fj {v:Val} {kk:List (List Key)} (h:aW (v::vs)=some kk):∃k t,cJ v=some k/\aW vs=some t/\kk=k::t:=by
 unfold aW at h;let⟨k,e1,e2⟩:=aap.mp h;let⟨t,e3,e4⟩:=aab.mp e2;exact⟨k,t,e1,e3,e4.symm⟩
theorem o6 {d:Nat}:∀{xs ys:List Val} {a b:List Key},aG xs=some a->aG ys=some b->cy (eqv d) xs ys=some (decide (a=b))
 |[],[],_,_,h,h'=>by cases h;cases h';rfl
 |[],y::ys,_,_,h,h'=>by
  cases h;let⟨k,t,_,_,rfl⟩:=cg h';rfl
 |x::xs,[],_,_,h,h'=>by
  cases h';let⟨k,t,_,_,rfl⟩:=cg h;rfl
 |x::xs,y::ys,_,_,h,h'=>by
  let⟨k,t,e1,e2,rfl⟩:=cg h;let⟨k',t',e3,e4,rfl⟩:=cg h';show (eqv d x y).bind (λa=>(cy (eqv d) xs ys).map λb=>a&&b)=_;rw[nG e1 e3,o6 e2 e4];show some (decide (k=k')&&decide (t=t'))=_;rw[←Bool.decide_and];congr 1;exact decide_eq_decide.mpr (by simp)
theorem kO {v:Val} {a:List Key} (h:cJ v=some a):∃f xs,v= .tup f xs/\aG xs=some a:=by
 cases v<;>first|(cases h;done)|exact⟨_,_,rfl,h⟩
theorem rg {v w:Val} {a b:List Key} (h:cJ v=some a) (h':cJ w=some b):eqv 8 v w=some (decide (a=b)):=by
 let⟨f,xs,rfl,e1⟩:=kO h;let⟨g,ys,rfl,e2⟩:=kO h';exact o6 e1 e2
theorem qQ {v:Val} {k:Key} (h:bO v=some k):kT v=false:=by
 cases v<;>first|(cases h;done)|rfl
theorem qA {v:Val} {k:List Key} (h:cJ v=some k):kT v=true:=by
 let⟨f,xs,rfl,_⟩:=kO h;rfl
section
variable {T:CT} {as:List Addr} {G H:Hp}
def zO (T:CT) (as:List Addr) (G:Hp):Option Val->Option L2.V->Prop
 |none,none=>True
 |some v,some u=>Rel T as G v u
 |_,_=>False
theorem xM {k:Val} {κ:Key} (hk:bO k=some κ):∀{ks vs:List Val} {kk:List Key} {us:List L2.V} {r:Option Val},aG ks=some kk->kk.length=us.length->ae T as G vs us->getD k ks vs=some r->zO T as G r (eX (kk.zip us) κ)
 |[],vs,kk,us,r,h,hl,rv,e=>by
  cases h;cases e;exact trivial
 |a::ks,vs,kk,us,r,h,hl,rv,e=>by
  let⟨k1,t,e1,e2,rfl⟩:=cg h
  cases vs with
  |nil=>cases rv;cases hl
  |cons v vs=>
   let⟨u,us',rfl,r1,r2⟩:=rv;replace e:(if kT a=kT k then (eqv 8 a k).bind λb=>if b=true then some (some v) else getD k ks vs else none)=some r:=e;rw[if_pos (by rw[qQ e1,qQ hk]),nG e1 hk] at e;replace e:(if decide (k1=κ)=true then some (some v) else getD k ks vs)=some r:=e;rw[aaT]
   by_cases z:k1=κ
   ·rw[if_pos (abh z)] at e;cases e;rw[fT z];exact r1
   ·rw[if_neg (by simpa using z)] at e;rw[fX z];exact xM hk e2 (by simpa using hl) r2 e
theorem wO {k:Val} {κ:List Key} (hk:cJ k=some κ):∀{ks vs:List Val} {kk:List (List Key)} {us:List L2.V} {r:Option Val},aW ks=some kk->kk.length=us.length->ae T as G vs us->getD k ks vs=some r->zO T as G r (eX (kk.zip us) κ)
 |[],vs,kk,us,r,h,hl,rv,e=>by
  cases h;cases e;exact trivial
 |a::ks,vs,kk,us,r,h,hl,rv,e=>by
  let⟨k1,t,e1,e2,rfl⟩:=fj h
  cases vs with
  |nil=>cases rv;cases hl
  |cons v vs=>
   let⟨u,us',rfl,r1,r2⟩:=rv;replace e:(if kT a=kT k then (eqv 8 a k).bind λb=>if b=true then some (some v) else getD k ks vs else none)=some r:=e;rw[if_pos (by rw[qA e1,qA hk]),rg e1 hk] at e;replace e:(if decide (k1=κ)=true then some (some v) else getD k ks vs)=some r:=e;rw[aaT]
   by_cases z:k1=κ
   ·rw[if_pos (abh z)] at e;cases e;rw[fT z];exact r1
   ·rw[if_neg (by simpa using z)] at e;rw[fX z];exact wO hk e2 (by simpa using hl) r2 e
theorem rF {k:Val} {r:Option Val} {vs:List Val} {us:List L2.V}:∀{ks:List Val},(∀a∈ks,kT a≠kT k)->ks.length=vs.length->getD k ks vs=some r->ks=[]/\r=none
 |[],_,_,e=>by
  cases e;exact⟨rfl,rfl⟩
 |a::ks,h,hl,e=>by
  cases vs with
  |nil=>cases hl
  |cons v vs=>
   replace e:(if kT a=kT k then (eqv 8 a k).bind λb=>if b=true then some (some v) else getD k ks vs else none)=some r:=e;rw[if_neg (h a aaB)] at e;cases e
theorem fO:∀{ks:List Val} {kk:List Key},aG ks=some kk->ks.length=kk.length/\∀a∈ks,kT a=false
 |[],_,h=>by cases h;exact⟨rfl,λ_ z=>by cases z⟩
 |v::vs,kk,h=>by
  let⟨k,t,e1,e2,rfl⟩:=cg h;let⟨h1,h2⟩:=fO e2;exact⟨by simp[h1],λa ha=>(aau.mp ha).elim (λz=>by rw[z];exact qQ e1) (h2 a)⟩
theorem fY:∀{ks:List Val} {kk:List (List Key)},aW ks=some kk->ks.length=kk.length/\∀a∈ks,kT a=true
 |[],_,h=>by cases h;exact⟨rfl,λ_ z=>by cases z⟩
 |v::vs,kk,h=>by
  let⟨k,t,e1,e2,rfl⟩:=fj h;let⟨h1,h2⟩:=fY e2;exact⟨by simp[h1],λa ha=>(aau.mp ha).elim (λz=>by rw[z];exact qA e1) (h2 a)⟩
theorem mO {a:Addr} {k:Val} {w:L2.V} {r:Option Val} (l:Le G H) (d:fh H a ks us) (rv:ae T as G vs us) (hk:bA k=true) (rk:Rel T as G k w) (e:getD k ks vs=some r):∃ro,DG H a w ro/\zO T as G r ro:=by
 rcases d with⟨kk,h1,h2,h3⟩|⟨kk,h1,h2,h3⟩<;>rcases mU l hk rk with⟨t,κ,e1,rfl⟩|⟨t,κ,b,e1,rfl,e2⟩
 ·exact⟨_, .inl (.inl ⟨_,κ,h3,rfl,rfl⟩),xM e1 h1 h2 rv e⟩
 ·let⟨z1,z2⟩:=fO h1;let⟨rfl,rfl⟩:=rF (us:=us) (λa ha=>by rw[z2 a ha,t];decide) (by rw[z1,h2,rv.length]) e;cases h1;exact⟨none, .inr ⟨rfl, .inl ⟨b,κ,rfl,e2,h3⟩⟩,trivial⟩
 ·let⟨z1,z2⟩:=fY h1;let⟨rfl,rfl⟩:=rF (us:=us) (λa ha=>by rw[z2 a ha,t];decide) (by rw[z1,h2,rv.length]) e;cases h1;exact⟨none, .inr ⟨rfl, .inr ⟨κ,rfl,h3⟩⟩,trivial⟩
 ·exact⟨_, .inl (.inr ⟨_,κ,b,h3,rfl,e2,rfl⟩),wO e1 h1 h2 rv e⟩
theorem nZ:∀{ks:List Val} {kk:List (Key)} {k:Val} {κ:Key},aG ks=some kk->bO k=some κ->aG (ks++[k])=some (kk++[κ])
 |[],_,k,κ,h,h'=>by
  cases h;simp[aG,h']
 |a::ks,kk,k,κ,h,h'=>by
  let⟨k1,t,e1,e2,rfl⟩:=cg h;have:=nZ e2 h';simp only[acF,aG,e1,this];rfl
theorem n9:∀{ks:List Val} {kk:List (List Key)} {k:Val} {κ:List Key},aW ks=some kk->cJ k=some κ->aW (ks++[k])=some (kk++[κ])
 |[],_,k,κ,h,h'=>by
  cases h;simp[aW,h']
 |a::ks,kk,k,κ,h,h'=>by
  let⟨k1,t,e1,e2,rfl⟩:=fj h;have:=n9 e2 h';simp only[acF,aW,e1,this];rfl
theorem xh {k x:Val} {κ:Key} {u:L2.V} (hk:bO k=some κ) (hx:Rel T as G x u):∀{ks vs:List Val} {kk:List (Key)} {us:List L2.V} {b:Bool},aG ks=some kk->kk.length=us.length->ae T as G vs us->memD k ks=some b->
  ((kk.zip us).any λkv=>decide (kv.1=κ))=b/\∃us',(kk.zip us).map (λkv=>if kv.1=κ then (kv.1,u) else kv)=kk.zip us'/\kk.length=us'.length/\ae T as G (gN k x ks vs) us'
 |[],vs,kk,us,b,h,hl,rv,e=>by
  cases h;cases e;have e0:us=[]:=aaF hl.symm;subst e0;exact⟨rfl,[],rfl,rfl,by cases vs<;>rfl⟩
 |a::ks,vs,kk,us,b,h,hl,rv,e=>by
  let⟨k1,t,e1,e2,rfl⟩:=cg h
  cases vs with
  |nil=>cases rv;cases hl
  |cons v vs=>
   let⟨w,us',rfl,r1,r2⟩:=rv;replace e:(if kT a=kT k then (eqv 8 a k).bind λb=>(memD k ks).map λc=>b||c else none)=some b:=e;have ek:=nG (d:=8) e1 hk;rw[if_pos (by rw[qQ e1,qQ hk]),ek] at e;let⟨c,e3,rfl⟩:=aab.mp (show (memD k ks).map (λc=>decide (k1=κ)||c)=some b from e);let⟨h1,us2,h2,h3,h4⟩:=xh hk hx e2 (by simpa using hl) r2 e3;refine⟨by rw[aaT,ab9,h1],(if k1=κ then u else w)::us2, ?_,by simp[h3], ?_⟩
   ·rw[aaT,aav,h2,aaT]
    by_cases z:k1=κ
    ·rw[if_pos z,if_pos z]
    ·rw[if_neg z,if_neg z]
   ·refine⟨_,us2,rfl, ?_,h4⟩;rw[ek]
    by_cases z:k1=κ
    ·rw[if_pos z,if_pos (by rw[abh z])];exact hx
    ·rw[if_neg z,if_neg (by rw[aaA z];simp)];exact r1
theorem uI {k x:Val} {κ:Key} {u:L2.V} (hk:bO k=some κ) (hx:Rel T as G x u) {kk:List (Key)} {us:List L2.V} (h:aG ks=some kk) (hl:kk.length=us.length) (rv:ae T as G vs us) (e:putD k x ks vs=some (ks',vs')):
  ∃kk' us',aG ks'=some kk'/\kk'.length=us'.length/\putK (kk.zip us) κ u=kk'.zip us'/\ae T as G vs' us':=by
 let⟨b,e1,e2⟩:=aab.mp e;let⟨h1,us2,h2,h3,h4⟩:=xh hk hx h hl rv e1;unfold putK;rw[h1]
 cases b with
 |true=>
  cases e2;exact⟨kk,us2,h,h3,by rw[if_pos rfl];exact h2,h4⟩
 |false=>
  cases e2;refine⟨kk++[κ],us++[u],nZ h hk,by simp[hl], ?_,ae.append rv ⟨u,[],rfl,hx,rfl⟩⟩;rw[if_neg (by decide),List.zip_append hl];rfl
theorem vX {k x:Val} {κ:List Key} {u:L2.V} (hk:cJ k=some κ) (hx:Rel T as G x u):∀{ks vs:List Val} {kk:List (List Key)} {us:List L2.V} {b:Bool},aW ks=some kk->kk.length=us.length->ae T as G vs us->memD k ks=some b->
  ((kk.zip us).any λkv=>decide (kv.1=κ))=b/\∃us',(kk.zip us).map (λkv=>if kv.1=κ then (kv.1,u) else kv)=kk.zip us'/\kk.length=us'.length/\ae T as G (gN k x ks vs) us'
 |[],vs,kk,us,b,h,hl,rv,e=>by
  cases h;cases e;have e0:us=[]:=aaF hl.symm;subst e0;exact⟨rfl,[],rfl,rfl,by cases vs<;>rfl⟩
 |a::ks,vs,kk,us,b,h,hl,rv,e=>by
  let⟨k1,t,e1,e2,rfl⟩:=fj h
  cases vs with
  |nil=>cases rv;cases hl
  |cons v vs=>
   let⟨w,us',rfl,r1,r2⟩:=rv;replace e:(if kT a=kT k then (eqv 8 a k).bind λb=>(memD k ks).map λc=>b||c else none)=some b:=e;have ek:=rg e1 hk;rw[if_pos (by rw[qA e1,qA hk]),ek] at e;let⟨c,e3,rfl⟩:=aab.mp (show (memD k ks).map (λc=>decide (k1=κ)||c)=some b from e);let⟨h1,us2,h2,h3,h4⟩:=vX hk hx e2 (by simpa using hl) r2 e3;refine⟨by rw[aaT,ab9,h1],(if k1=κ then u else w)::us2, ?_,by simp[h3], ?_⟩
   ·rw[aaT,aav,h2,aaT]
    by_cases z:k1=κ
    ·rw[if_pos z,if_pos z]
    ·rw[if_neg z,if_neg z]
   ·refine⟨_,us2,rfl, ?_,h4⟩;rw[ek]
    by_cases z:k1=κ
    ·rw[if_pos z,if_pos (by rw[abh z])];exact hx
    ·rw[if_neg z,if_neg (by rw[aaA z];simp)];exact r1
theorem uN {k x:Val} {κ:List Key} {u:L2.V} (hk:cJ k=some κ) (hx:Rel T as G x u) {kk:List (List Key)} {us:List L2.V} (h:aW ks=some kk) (hl:kk.length=us.length) (rv:ae T as G vs us) (e:putD k x ks vs=some (ks',vs')):
  ∃kk' us',aW ks'=some kk'/\kk'.length=us'.length/\putK (kk.zip us) κ u=kk'.zip us'/\ae T as G vs' us':=by
 let⟨b,e1,e2⟩:=aab.mp e;let⟨h1,us2,h2,h3,h4⟩:=vX hk hx h hl rv e1;unfold putK;rw[h1]
 cases b with
 |true=>
  cases e2;exact⟨kk,us2,h,h3,by rw[if_pos rfl];exact h2,h4⟩
 |false=>
  cases e2;refine⟨kk++[κ],us++[u],n9 h hk,by simp[hl], ?_,ae.append rv ⟨u,[],rfl,hx,rfl⟩⟩;rw[if_neg (by decide),List.zip_append hl];rfl
end
section
variable {T:CT} {P:Pg} {cl:ar} {E:XS} {X:Cx} {pos:Pos}
theorem tL {G H:Hp} {k:Val} {w:L2.V} (hk:bA k=true) (r:cY T as G H k w):Rel T as G k w:=by
 cases k<;>first|(cases hk;done)|exact r
theorem E0 (hK:T.K=X.K) (hu:X.A.units+9<cLine):aD X (compareOp .In) (cx T λx y st=>cP (bw .In x y st)):=by
 intro pins s σ H u w uv wv Q I ru rw' ⟨st,as,G,x,y,Z,sm,r1,r2,p⟩
 cases y with
 |dct ks vs=>
  let⟨a,us,rfl,d,rv⟩:=r2;cases (show wv=Value.ref a from rw');replace p:ab T as G (cP (PI.iff (bA x=true) (R.ak ((getD x ks vs).map λo=>if false=true then o.isNone else o.isSome) st))) (PV T Q) Z:=p
  by_cases hk:bA x=true
  ·rw[bo hk] at p;let⟨b,e,p⟩:=ab.ak p;let⟨r,e1,rfl⟩:=aab.mp e;let⟨ro,g,o⟩:=mO sm.sub d rv hk (tL hk r1) e1;refine Gp (by lia) I g ru λs' I'=>⟨.bl ro.isSome,H,I',rfl, ?_⟩
   have:ro.isSome=r.isSome:=by
    cases r<;>cases ro<;>first|rfl|exact o.elim
   rw[this];exact p.ok sm _ rfl
  ·have z:PI.iff (bA x=true) (R.ak ((getD x ks vs).map λo=>if false=true then o.isNone else o.isSome) st)= .stuck:=if_neg hk;rw[z] at p;exact p.elim
 |tup f ys=>exact wJ hK hu pins s σ H u w uv wv Q I ru rw' ⟨st,as,G,x, .tup f ys,Z,sm,r1,r2,p⟩
 |lst ys=>exact wJ hK hu pins s σ H u w uv wv Q I ru rw' ⟨st,as,G,x, .lst ys,Z,sm,r1,r2,p⟩
 |_=>exact p.elim
theorem vH (hK:T.K=X.K) (hu:X.A.units+9<cLine):aD X (compareOp .NotIn) (cx T λx y st=>cP (bw .NotIn x y st)):=by
 intro pins s σ H u w uv wv Q I ru rw' ⟨st,as,G,x,y,Z,sm,r1,r2,p⟩
 cases y with
 |dct ks vs=>
  let⟨a,us,rfl,d,rv⟩:=r2;cases (show wv=Value.ref a from rw');replace p:ab T as G (cP (PI.iff (bA x=true) (R.ak ((getD x ks vs).map λo=>if true=true then o.isNone else o.isSome) st))) (PV T Q) Z:=p
  by_cases hk:bA x=true
  ·rw[bo hk] at p;let⟨b,e,p⟩:=ab.ak p;let⟨r,e1,rfl⟩:=aab.mp e;let⟨ro,g,o⟩:=mO sm.sub d rv hk (tL hk r1) e1;refine yJ (by lia) I g ru λs' I'=>⟨.bl (!ro.isSome),H,I',rfl, ?_⟩
   have:(!ro.isSome)=r.isNone:=by
    cases r<;>cases ro<;>first|rfl|exact o.elim
   rw[this];exact p.ok sm _ rfl
  ·have z:PI.iff (bA x=true) (R.ak ((getD x ks vs).map λo=>if true=true then o.isNone else o.isSome) st)= .stuck:=if_neg hk;rw[z] at p;exact p.elim
 |tup f ys=>exact oB hK hu pins s σ H u w uv wv Q I ru rw' ⟨st,as,G,x, .tup f ys,Z,sm,r1,r2,p⟩
 |lst ys=>exact oB hK hu pins s σ H u w uv wv Q I ru rw' ⟨st,as,G,x, .lst ys,Z,sm,r1,r2,p⟩
 |_=>exact p.elim
theorem xG {H:Hp} {a:Addr} (d:fh H a ks us):AK H a:=d.elim (λz900=>by let⟨kk,_,_,h⟩:=z900;exact .inl ⟨_,h⟩) λz900=>by let⟨kk,_,_,h⟩:=z900;exact .inr ⟨_,h⟩
theorem EE {e:Expr} (hu:X.A.units+1<cLine) (ho:PE X o (tE T P cl E io)) (he:PE X e (tE T P cl E ie)) (m:M1 X o "get" apos e pos):PE X (.Call (.Attribute o "get" apos) [e] [] pos) (tE T P cl E (.bm .get io [ie])):=by
 intro pins s σ H Q I ⟨env,st,as,G,sm,er,h⟩;dsimp only[PI.E.run] at h
 have h2:=aA (K:=λu H1=>∃a,u= .ref a/\AK H1 a/\tE T P cl E ie σ H1 λy H2=>∃ov,DG H2 a y ov/\Q (ov.getD .non) H2) sm er h λv st1 as1 G1 H1 u s1 er1 r1 p1 l1 h=>by
  let⟨c,h⟩:=ab.iff h;have rr:=aV s1 r1
  have cd:∃ks vs,res st1 v= .dct ks vs:=by
   generalize res st1 v=y at c
   cases y<;>first|(cases c;done)|exact⟨_,_,rfl⟩
  let⟨ks,vs,ev⟩:=cd;rw[ev] at rr;let⟨a,us,rfl,d,rv⟩:=rr;refine⟨a,rfl,xG d, ?_⟩
  replace h:ab T as1 G1 (((ie.run P cl env st1).bind λx st=> .ok [x] st).bind λxs st=>jJ .get v xs st) (λv _ as' G' H'=>∀u,Rel T as' G' v u->Q u H') (E σ):=by
   have z:aN P cl [ie] env st1=(ie.run P cl env st1).bind λx st=> .ok [x] st:=by
    unfold aN;rfl
   rw[z] at h;exact h
  rw[R.bind_assoc] at h;refine aA s1 er1 h λk st2 as2 G2 H2 w s2 er2 r2 p2 l2 h=> ?_;replace h:ab T as2 G2 (lO (res st2 v) [k] st2) (λv _ as' G' H'=>∀u,Rel T as' G' v u->Q u H') (E σ):=h;have r3:=aV s2 (r1.mono p2 l2);generalize res st2 v=y at h r3
  cases y with
  |dct ks vs=>
   let⟨hk,h⟩:=ab.iff h;let⟨b,e,h⟩:=ab.dy h;let⟨r,e1,rfl⟩:=aab.mp e;let⟨a',us',ea,d',rv'⟩:=r3;cases ea;let⟨ro,g,og⟩:=mO s2.sub d' rv' hk r2 e1;refine⟨ro,g, ?_⟩
   cases r<;>cases ro<;>first|exact og.elim|exact h.ok s2 _ rfl|exact h.ok s2 _ og
  |_=>exact h.elim
 refine wpAny_Call_method m.base m.few m.line PySem.F.plainAttrs_dict aaQ PySem.F.type_dict_get (ay (ho pins s σ H _ I h2) λu s1 z902=> ?_);let⟨x,H1,I1,rx,a,ex,d,q1⟩:=z902;subst ex;obtain rfl:u=Value.ref a:=rx;let⟨t1,t2,_⟩:=vF I1 d;refine⟨t1,t2, ?_⟩;rw[m.trees];refine ab2 rfl (acK (aci (ay (he pins s1 σ H1 _ I1 q1) λiv s2 zq14=> ?_)));let⟨y,H2,I2,ry,ov,g,q2⟩:=zq14;refine ac1 ?_;exact A5 hu I2 g ry λw' s3 I3 rw'=>⟨_,H2,I3,rw',q2⟩
theorem Fz:PE X (.Dict [] [] pos) (tE T P cl E (.dct [] [])):=
 PE.mono yF λσ H Q z903 p hp=>by
  let⟨env,st,as,G,s,er,h⟩:=z903;dsimp only[PI.E.run] at h;have s2:=s.push (o:= .dct [] []) (u:= .dK []) hp ⟨[], .inl ⟨[],rfl,rfl,ao⟩,rfl⟩;refine h (as++[p]) G _ (aat _ _) (Le.refl _) s2 _ ⟨p, ?_,rfl⟩;rw[←s.len,aan (aag _)];simp
end
end PI
namespace L2.L3
open PySem PySem.Spec PyProof.Rows
section
variable {X:Cx} {pins:List (Addr×Obj)} {σ:St} {H:Hp} {s:Shared} {a:Addr}
theorem Inv.F5 (I:Inv X pins σ H s) (e:H a=some (.dK [])):Inv X pins σ (upd H a (.dT [])) s:=by
 let⟨hd,o,es,ep,h1,h2,h3,h4,_,h5⟩:=xq I (.inl e);exact I.write (x:=a) (e:=a) (t':=s.toks) (by rw[e];exact True.intro) (.inl rfl) (λb q hb z=>z) ⟨o,h1⟩ ⟨aaV _,hd,[], .nil,o,es,ep,h1,h2,h3,h4,h5⟩
theorem Inv.Gn (I:Inv X pins σ H s) (e:H a=some (.dT [])):Inv X pins σ (upd H a (.dK [])) s:=by
 let⟨hd,dd⟩:=wG I (.inl e);let⟨o,es,ep,h1,r⟩:=id dd;exact I.write (x:=a) (e:=a) (t':=s.toks) (by rw[e];exact True.intro) (.inl rfl) (λb q hb z=>z) ⟨o,h1⟩ ⟨aaV _,hd,[], .nil,dd⟩
end
def GS:V->V->V->Hp->(Hp->Prop)->Prop:=λo i v H Q=>∃a,o= .ref a/\((∃H',eY H a i v H'/\Q H')∨(H a=some (.dK [])/\∃H',eY (upd H a (.dT [])) a i v H'/\Q H')∨(H a=some (.dT [])/\∃H',eY (upd H a (.dK [])) a i v H'/\Q H'))
theorem set_dict {X:Cx} (hu:X.A.units+1<cLine):jM X GS:=by
 intro pins s σ H o i v ov iv u Q I ro ri rv h;let⟨a,rfl,h⟩:=h;cases (show ov=Value.ref a from ro)
 rcases h with⟨H',g,q⟩|⟨e,H',g,q⟩|⟨e,H',g,q⟩
 ·exact jI hu I g ri rv λs' I'=>⟨H',I',q⟩
 ·exact jI hu (Inv.F5 I e) g ri rv λs' I'=>⟨H',I',q⟩
 ·exact jI hu (Inv.Gn I e) g ri rv λs' I'=>⟨H',I',q⟩
theorem jM.or {X:Cx} {t t':uS} (h:jM X t) (h':jM X t'):jM X (λo i v H Q=>t o i v H Q∨t' o i v H Q):=λpins s σ H o i v ov iv u Q I ro ri rv q=>q.elim (h pins s σ H o i v ov iv u Q I ro ri rv) (h' pins s σ H o i v ov iv u Q I ro ri rv)
end L2.L3
namespace PI
open PySem PySem.Spec L2 L2.L3 L2.L4 PySem.SeqAt
open PyProof.Rows hiding St lobj
section
variable {T:CT} {P:Pg} {cl:ar} {E:XS} {X:Cx} {pos:Pos}
theorem iK (n d:Nat) (o:Option Int):bT n d o=HT.aR n d o:=by
 cases o<;>rfl
theorem ae.drop {G:Hp}:∀{xs:List Val} {us:List L2.V} (n:Nat),ae T as G xs us->ae T as G (xs.drop n) (us.drop n)
 |_,_,0,h=>h
 |[],_,_+1,h=>by cases h;rfl
 |_::_,_,n+1,⟨u,t,e,h,r⟩=>by subst e;exact ae.drop n r
theorem ae.take {G:Hp}:∀{xs:List Val} {us:List L2.V} (n:Nat),ae T as G xs us->ae T as G (xs.take n) (us.take n)
 |_,_,0,h=>rfl
 |[],_,_+1,h=>by cases h;rfl
 |_::_,_,n+1,⟨u,t,e,h,r⟩=>by subst e;exact⟨u,t.take n,rfl,h,ae.take n r⟩
theorem pU {G:Hp} (lo hi:Option Int) (r:ae T as G xs us):ae T as G (cut xs lo hi) (jE us lo hi):=by
 unfold cut jE;rw[iK,iK,r.length];exact(r.drop _).take _
def qM (T:CT) (P:Pg) (cl:ar) (E:XS) (e:Option PI.E):TO:=λσ H Q=>∃env st as G,Sim T st as G H/\aH T as G env σ/\ab T as G ((iD P cl e env st).bind λa st=>ji a st) (λv _ _ _ H'=>Q v H') (E σ)
theorem vi:PO X none (qM T P cl E none):=λpins s σ H Q I z906=>by let⟨env,st,as,G,sm,er,h⟩:=z906;exact BL pins s σ H Q I (h.ok sm)
theorem uH {e:Expr} (he:PE X e (tE T P cl E ie)):PO X (some e) (qM T P cl E (some ie)):=λpins s σ H Q I z906=>by
 let⟨env,st,as,G,sm,er,h⟩:=z906;refine Bk he pins s σ H Q I ?_;unfold iD at h;rw[R.bind_assoc] at h;refine aA sm er h λx st1 as1 G1 H1 u s1 er1 r1 p1 l1 h=> ?_
 cases x with
 |int i=>
  cases r1;exact⟨i,rfl,h.ok s1⟩
 |_=>exact h.elim
theorem sR {α:Type} {e:Option PI.E} {env:Env} {st:aa} {G H:Hp} {σ:St} {f:Option Int->aa->R α} {Q:α->aa->List Addr->Hp->Hp->Prop} {K:Option Int->Hp->Prop} (s:Sim T st as G H) (er:aH T as G env σ)
  (h:ab T as G (((iD P cl e env st).bind λa st=>ji a st).bind f) Q (E σ))
  (k:∀v st1 as1 G1 H1,Sim T st1 as1 G1 H1->aH T as1 G1 env σ->as<+:as1->Le G G1->ab T as1 G1 (f v st1) Q (E σ)->K v H1):qM T P cl E e σ H K:=
 ⟨env,st,as,G,s,er,h.bind.imp λv st1 as1 G1 H1 p l s1 q=>k v st1 as1 G1 H1 s1 (er.mono p l) p l q⟩
theorem wI {α:Type} (xs:List α) (a b:Nat) (h:b<=xs.length):((List.range (b-a)).filterMap λi=>xs[a+i]?)=(xs.drop a).take (b-a):=by
 induction xs generalizing a b with
 |nil=>
  simp at h;subst h;simp
 |cons x xs ih=>
  cases a with
  |zero=>
   cases b with
   |zero=>simp
   |succ b=>
    have q:=ih 0 b (by simpa using h);simp only[Nat.sub_zero,acm,List.drop_zero] at q⊢;rw[acx,abD,acU];simp only[List.getElem?_cons_zero,List.take_succ_cons];rw[←q];rfl
  |succ a=>
   cases b with
   |zero=>simp
   |succ b=>
    have q:=ih a b (by simpa using h);rw[show b+1-(a+1)=b-a by lia,List.drop_succ_cons,←q];congr 1;funext i;rw[show a+1+i=(a+i)+1 by lia,ab0]
theorem B5 (n:Nat) (o:Option Int) (d:Nat) (h:d<=n):bT n d o<=n:=by
 cases o with
 |none=>exact h
 |some v=>
  unfold bT;simp only;split<;>lia
theorem xD (lo hi:Option Int) (n:Nat):PySem.Builtin.Str.strSliceIndices lo hi 1 n=(List.range (bT n n hi-bT n 0 lo)).map (bT n 0 lo+ ·):=by
 have clip:∀(v:Option Int) (d:Nat),((match v with|none=>(d:Int)|some i=>if (1:Int)>0 then max 0 (min (if i<0 then i+(n:Int) else i) n) else max (-1) (min (if i<0 then i+(n:Int) else i) ((n:Int)-1))):Int)=((bT n d v:Nat):Int):=λv d=>by
  cases v with
  |none=>rfl
  |some i=>
   simp only[bT];rw[if_pos (by decide)];split<;>lia
 rw[←sliceRange_one,←clip lo 0,←clip hi n];rfl
theorem mf (x:Str) (lo hi:Option Int):jo x lo hi=⟨(cut x.cps.toList lo hi).toArray⟩:=by
 have hl:x.cps.toList.length=x.length:=by simp[Str.length]
 have hb:=B5 x.length hi x.length (aag _)
 have e:((PySem.Builtin.Str.strSliceIndices lo hi 1 x.length).filterMap (x.cps[·]?))=cut x.cps.toList lo hi:=by
  rw[xD,acU];unfold cut;rw[hl,←wI x.cps.toList _ _ (by rw[hl];exact hb)];congr 1;funext i;simp
 unfold jo;rw[e];split
 ·rename_i z;rw[xD] at z;simp only[aay,ac4,abH] at z
  have c0:bT x.length 0 lo=0∨x.length=0:=by lia
  have c:cut x.cps.toList lo hi=x.cps.toList:=by
   unfold cut;rw[hl]
   by_cases z0:x.length=0
   ·have:x.cps.toList=[]:=aaF (by rw[hl];exact z0);rw[this];simp
   ·have c1:bT x.length 0 lo=0:=by lia
    rw[c1,List.drop_zero,List.take_of_length_le (by rw[hl];lia)]
  rw[c]
 ·rfl
theorem pG {lo hi:Option Expr} {il ih:Option PI.E} (hK:T.K=X.K) (ho:PE X o (tE T P cl E io)) (hl:PO X lo (qM T P cl E il)) (hh:PO X hi (qM T P cl E ih)):PE X (.Subscript o (.Slice lo hi none p2) pos) (tE T P cl E (.slc io il ih)):=
 PE.mono (xU ((DC.or BD).or DP) ho hl hh) λσ H Q z903=>by
  let⟨env,st,as,G,s,er,h⟩:=z903;dsimp only[PI.E.run] at h;refine aA s er h λx st1 as1 G1 H1 u s1 er1 r1 p1 l1 h=> ?_;refine sR s1 er1 h λa st2 as2 G2 H2 s2 er2 p2 l2 h=> ?_;refine sR s2 er2 h λb st3 as3 G3 H3 s3 er3 p3 l3 h=> ?_;have rr:=aV s3 (r1.mono (p2.trans p3) (l2.trans l3));generalize res st3 x=y at h rr
  cases y with
  |tup f xs=>
   let⟨d,us,rfl,q,r⟩:=rr;let⟨c,h⟩:=ab.iff h;rw[iK,iK,r.length] at c;exact .inl (.inl ⟨d,us,rfl,ba s3.sub q,c,λp hp=>nF s3 (pU a b r) h hp⟩)
  |lst xs=>
   let⟨d,us,rfl,q,r⟩:=rr;exact .inl (.inr ⟨d,us,rfl,hK▸q,λp hp=>fF s3 (pU a b r) h hp⟩)
  |str z=>
   cases rr;let⟨c,h⟩:=ab.iff h;have q:=h.ok s3 _ rfl;refine .inr ⟨z,rfl,c, ?_,by rw[mf];exact q⟩;rw[mf];show (cut z.cps.toList a b).toArray.size<=1000;unfold cut;rw[aak,abb,acC]
   have:z.cps.toList.length=z.length:=by simp[Str.length]
   lia
  |_=>exact h.elim
theorem F2 {a b:Expr} (hK:T.K=X.K) (hu:X.A.units+1<cLine) (ha:PE X a (tE T P cl E ia)) (hb:PE X b (tE T P cl E ib)) (hs:nr b):PE X (.Subscript a b pos) (tE T P cl E (.idx ia ib)):=
 PE.mono (GF (FC.or (Bl hu)) ha hb hs) λσ H Q z903=>by
  let⟨env,st,as,G,s,er,h⟩:=z903;dsimp only[PI.E.run] at h;refine aA s er h λx st1 as1 G1 H1 u s1 er1 r1 p1 l1 h=> ?_;refine aA s1 er1 h λy st2 as2 G2 H2 w s2 er2 r2 p2 l2 h=> ?_;have rr:=aV s2 (r1.mono p2 l2);generalize res st2 x=z at h rr
  cases z with
  |tup f xs=>cases y with
   |int i=>
    cases r2;let⟨d,us,rfl,q,r⟩:=rr;let⟨v,e,h⟩:=ab.dy h;let⟨u,e2,rv⟩:=sv r e;exact .inl (.inr (.inl ⟨d,us,i,u,rfl,rfl,ba s2.sub q,e2,h.ok s2 _ rv⟩))
   |_=>exact h.elim
  |lst xs=>cases y with
   |int i=>
    cases r2;let⟨d,us,rfl,q,r⟩:=rr;let⟨v,e,h⟩:=ab.dy h;let⟨u,e2,rv⟩:=sv r e;exact .inl (.inl ⟨d,us,i,u,rfl,rfl,hK▸q,e2,h.ok s2 _ rv⟩)
   |_=>exact h.elim
  |str t=>cases y with
   |int i=>
    cases r2;cases rr;let⟨c,h⟩:=ab.iff h;let⟨v,e,h⟩:=ab.dy h;let⟨c',e1,rfl⟩:=aab.mp e;have z:sizeLine=2^24:=rfl;refine .inl (.inr (.inr ⟨t,i,c',rfl,rfl,by lia, ?_,h.ok s2 _ rfl⟩));unfold o7;rw[show t.cps.toList.length=t.length by simp[Str.length]];exact e1
   |_=>exact h.elim
  |dct ks vs=>
   let⟨hk,h⟩:=ab.iff h;let⟨v,e,h⟩:=ab.dy h;let⟨ov,e1,e2⟩:=aap.mp e;obtain rfl:ov=some v:=e2;let⟨d,us,rfl,q,r⟩:=rr;let⟨ro,g,og⟩:=mO s2.sub q r hk r2 e1
   cases ro with
   |none=>exact og.elim
   |some w'=>
    rcases g with g|⟨z,_⟩
    ·exact .inr ⟨d,w',rfl,g,h.ok s2 _ og⟩
    ·cases z
  |_=>exact h.elim
theorem of_post {α:Type} {env:Env} {as:List Addr} {G:Hp} {σ:St} {r:R α} {k:α->aa->F} {D:Ends} (h:aE T as G (F.of env r k) D E) (er:aH T as G env σ):ab T as G r (λa st as' G' _=>aE T as' G' (k a st) D E) (E σ):=by
 cases r with
 |ok a st=>exact λas' G' H' p l s=>aE.mono p l h
 |exc x st=>exact λas' G' H' cls dx p l s x=>h as' G' H' σ cls dx p l s (er.mono p l) x
 |stuck=>exact h
theorem ae.set {G:Hp} {v:Val} {u:L2.V} (h:Rel T as G v u):∀{xs:List Val} {us:List L2.V} (j:Nat),ae T as G xs us->ae T as G (xs.set j v) (us.set j u)
 |[],_,_,r=>by cases r;rfl
 |_::_,_,0,⟨w,t,e,_,r⟩=>by subst e;exact⟨u,t,rfl,h,r⟩
 |_::_,_,j+1,⟨w,t,e,hw,r⟩=>by subst e;exact⟨w,t.set j u,rfl,hw,ae.set h j r⟩
theorem sX {z x:Val} {ks:List Val} {p:List Val×List Val} (h:∀a∈ks,¬kT a=kT z) (e:putD z x ks vs=some p):ks=[]:=by
 cases ks with
 |nil=>rfl
 |cons a0 ks=>
  have e3:memD z (a0::ks)=none:=if_neg (h a0 aaB);unfold putD at e;rw[e3] at e;cases e
theorem EW {a b e:Expr} (hu:X.A.units+1<cLine) (ha:PE X a (tE T P cl E ia)) (hb:PE X b (tE T P cl E ib)) (he:PE X e (tE T P cl E ie)) (hn:eK b=true) (hc:dQ e=true):PS X (.Assign [.Subscript a b tpos] e pos) (tS T P cl E (.dA ia ib ie)):=
 PS.mono (wC he (DI ha hb (jM.or set_list (set_dict hu)) (by intro v;cases b<;>first|rfl|cases hn)) (by show swapsWith e (some (.Subscript a b tpos)) pos.line X.env=pure false;cases e<;>first|rfl|cases hc) (by cases e<;>rfl) rfl) λD σ H z903=>by
  let⟨env,st,as,G,s,er,h⟩:=z903;dsimp only[PI.S.run] at h;have h2:=of_post h er;refine aA s er h2 λx st1 as1 G1 H1 u s1 er1 r1 p1 l1 h=> ?_;refine aA s1 er1 h λy st2 as2 G2 H2 w s2 er2 r2 p2 l2 h=> ?_;refine aA s2 er2 h λz st3 as3 G3 H3 i s3 er3 r3 p3 l3 h=> ?_
  cases y with
  |ref k=>
   let⟨d,ed,rfl⟩:=r2.mono p3 l3;replace h:ab T as3 G3 (mq k x st3 st3[k]? z) (λa st as' G' _=>aE T as' G' (.next env st) D E) (E σ):=h
   cases e1:st3[k]? with
   |none=>rw[e1] at h;exact h.elim
   |some o=>
    rw[e1] at h;have ob:=s3.ob k o d e1 ed
    cases o with
    |lst xs=>cases z with
     |int j=>
      cases r3;let⟨us,q,r⟩:=ob;let⟨jj,e2,h⟩:=ab.ak h;have rx:=r1.mono (p2.trans p3) (l2.trans l3);have s4:=s3.set (o:= .lst (xs.set jj x)) ed ⟨us.set jj u,ao,ae.set rx jj r⟩;exact .inl ⟨d,us,j,jj,rfl,rfl,q,by rw[←r.length];exact e2,h.ok s4 as3 G3 _ σ (aai _) (Le.refl _) s4 er3⟩
     |_=>exact h.elim
    |dct ks vs=>
     let⟨⟨hk,hl⟩,h⟩:=ab.iff h;let⟨⟨ks',vs'⟩,e2,h⟩:=ab.ak h;let⟨us,q,r⟩:=ob;have rx:=r1.mono (p2.trans p3) (l2.trans l3);have sz:sizeLine=2^24:=rfl
     have fin:∀{u':HO},eE T as3 G3 (upd H3 d u') d (.dct ks' vs')->D.nx σ (upd H3 d u'):=λ{u'} o=>by
      have s4:=s3.set (o:= .dct ks' vs') ed o;exact h.ok s4 as3 G3 _ σ (aai _) (Le.refl _) s4 er3
     refine .inr ⟨d,rfl, ?_⟩
     rcases q with⟨kk,h1,h2,h3⟩|⟨kk,h1,h2,h3⟩<;>rcases mU s3.sub hk r3 with⟨t,κ,k1,rfl⟩|⟨t,κ,b',k1,rfl,k2⟩
     ·let⟨kk',us',z1,z2,z3,z4⟩:=uI k1 rx h1 h2 r e2;refine .inl ⟨_, .inl ⟨_,κ,h3,rfl, ?_,rfl⟩,fin ⟨us', .inl ⟨kk',z1,z2,by rw[z3];exact ao⟩,z4⟩⟩;rw[abl,←h2,ab5,←(fO h1).1];lia
     ·let⟨z1,z2⟩:=fO h1;have e0:ks=[]:=sX (λa h=>by rw[z2 a h,t];decide) e2;subst e0;cases h1;have e1':us=[]:=aaF h2.symm;subst e1';let⟨kk',us',y1,y2,y3,y4⟩:=uN (kk:=[]) (us:=[]) k1 rx rfl rfl r e2;refine .inr (.inl ⟨h3,_, .inr ⟨[],κ,b',ao,rfl, ?_,aao (by decide:0<2^24) (ac8 sz.symm),rfl⟩, ?_⟩)
      ·rw[aq (pN k2 h3 (λz=>nomatch z))];exact k2
      ·rw[gX];exact fin ⟨us', .inr ⟨kk',y1,y2,by rw[show putK [] κ u=kk'.zip us' from y3];exact ao⟩,y4⟩
     ·let⟨z1,z2⟩:=fY h1;have e0:ks=[]:=sX (λa h=>by rw[z2 a h,t];decide) e2;subst e0;cases h1;have e1':us=[]:=aaF h2.symm;subst e1';let⟨kk',us',y1,y2,y3,y4⟩:=uI (kk:=[]) (us:=[]) k1 rx rfl rfl r e2;refine .inr (.inr ⟨h3,_, .inl ⟨[],κ,ao,rfl,aao (by decide:0<2^24) (ac8 sz.symm),rfl⟩, ?_⟩);rw[gX];exact fin ⟨us', .inl ⟨kk',y1,y2,by rw[show putK [] κ u=kk'.zip us' from y3];exact ao⟩,y4⟩
     ·let⟨kk',us',z1,z2,z3,z4⟩:=uN k1 rx h1 h2 r e2;refine .inl ⟨_, .inr ⟨_,κ,b',h3,rfl,k2, ?_,rfl⟩,fin ⟨us', .inr ⟨kk',z1,z2,by rw[z3];exact ao⟩,z4⟩⟩;rw[abl,←h2,ab5,←(fY h1).1];lia
    |ins c ns vs=>exact h.elim
  |_=>exact h.elim
end
end PI
namespace L2.L3
open PySem PySem.Spec PyProof.Rows
def AV (K:PySem.W.Frag):List V->Hp->VK->Prop:=λxs H Q=>∃a n b,xs=[.ref a, .ty n]/\((∃ys,bF K H a ys/\PySem.W.kitOne K (.type "list") (.type n)=some b)∨(∃ys,cF K H a ys/\PySem.W.kitOne K (.type "tuple") (.type n)=some b)∨
 (∃kvs,Rd H a (.dK kvs)/\PySem.W.kitOne K (.type "dict") (.type n)=some b)∨∃kvs,Rd H a (.dT kvs)/\PySem.W.kitOne K (.type "dict") (.type n)=some b)/\Q (.bl b) H
theorem xt {X:Cx}:au X (.builtin "isinstance") (AV X.K):=by
 intro pins s σ H xs us Q I r h;let⟨a,n,b,rfl,h,q⟩:=h;let⟨u,v,rfl,r1,r2⟩:=Vals.two r;cases r2;cases (show u=Value.ref a from r1);have fin:∀tk,EP X pins σ Q (.bool b) {s with toks:=tk}:=λtk=>⟨.bl b,H,I.tok tk,rfl,q⟩
 rcases h with⟨ys,h,k⟩|⟨ys,h,k⟩|⟨kvs,h,k⟩|⟨kvs,h,k⟩
 ·let⟨its,_,⟨o,m,e1,e2,_⟩,_⟩:=I.list h;exact aaM ac0 I.bX ⟨o,e1,e2⟩ k (λz=>nomatch z) fin
 ·let⟨its,_,⟨o,e1,e2,_⟩,_⟩:=I.tuple h;exact aaM PySem.W.kitx_tuple I.bX ⟨o,e1,e2⟩ k (λz=>nomatch z) fin
 ·let⟨_,_,vs,_,p⟩:=dZ I.af h;let⟨o,es,ep,h1,h2,_⟩:=p;exact aaM acq I.bX ⟨o,h1,h2.1⟩ k (λz=>nomatch z) fin
 ·let⟨_,_,xs,_,o,es,ep,h1,h2,_⟩:=eg I.af h;exact aaM acq I.bX ⟨o,h1,h2.1⟩ k (λz=>nomatch z) fin
end L2.L3
namespace PI
open PySem PySem.Spec L2 L2.L3 L2.L4 PySem.SeqAt
open PyProof.Rows hiding St lobj
section
variable {T:CT} {P:Pg} {cl:ar} {E:XS} {X:Cx} {pos:Pos}
def vk (K:PySem.W.Frag):Prop:=∀a n,a∈["NoneType","bool","int","str","tuple","list","dict"]->n∈["bool","int","str","tuple","list","dict"]->PySem.W.kitOne K (.type a) (.type n)=some (a==n||(a=="bool"&&n=="int"))
theorem vD {y:Str} {n:String} (h:md y=some n):n∈["bool","int","str","tuple","list","dict"]/\bootBuiltins y=some (.type n)/\y≠"__name__"/\(y==("__debug__":Str))=false:=by
 unfold md at h;split at h
 ·rename_i z;subst z;cases h;exact⟨by decide,PyProof.Rows.Boot.«bool»,by decide,by decide⟩
 split at h
 ·rename_i z;subst z;cases h;exact⟨by decide,PyProof.Rows.Boot.«int»,by decide,by decide⟩
 split at h
 ·rename_i z;subst z;cases h;exact⟨by decide,PyProof.Rows.Boot.«str»,by decide,by decide⟩
 split at h
 ·rename_i z;subst z;cases h;exact⟨by decide,PyProof.Rows.boot_tuple,by decide,by decide⟩
 split at h
 ·rename_i z;subst z;cases h;exact⟨by decide,PyProof.Rows.Boot.«list»,by decide,by decide⟩
 split at h
 ·rename_i z;subst z;cases h;exact⟨by decide,PyProof.Rows.Boot.«dict»,by decide,by decide⟩
 cases h
theorem Co {G H:Hp} {v:Val} {u:L2.V} {n:String} {b:Bool} {Q:VK} (hK:T.K=X.K) (kt:vk X.K) (l:Le G H) (hn:n∈["bool","int","str","tuple","list","dict"]) (r:cY T as G H v u) (e:bM n v=some b) (q:Q (.bl b) H):(Ac X.K [u, .ty n] H Q∨AV X.K [u, .ty n] H Q):=by
 have kk:=λa h=>kt a n h hn
 have sy:∀a:String,(a==n)=(n==a):=λa=>by
  by_cases h:a=n
  ·rw[h]
  ·rw[beq_eq_false_iff_ne.mpr h,beq_eq_false_iff_ne.mpr (Ne.symm h)]
 have fin1:∀{c:Bool} {a:String},Q (.bl c) H->(a=="bool")=false->Q (.bl (c||(a=="bool"&&n=="int"))) H:=λ{c a} h e=>by
  rw[e,Bool.false_and,Bool.or_false];exact h
 cases v with
 |non=>
  cases r;cases e;have:=kk "NoneType" (by decide);refine .inl ⟨_,_,n,_,rfl, .non,this, ?_⟩
  have z:("NoneType"==n||("NoneType"=="bool"&&n=="int"))=false:=by
   have:"NoneType"≠n:=λz=>by rw[←z] at hn;exact absurd hn (by decide)
   rw[beq_eq_false_iff_ne.mpr this,show ("NoneType"=="bool")=false from by decide];rfl
  rw[z];exact q
 |bl t=>
  cases r;cases e;refine .inl ⟨_,_,n,_,rfl, .bl t,kk "bool" (by decide), ?_⟩;rw[sy,show ("bool"=="bool")=true from by decide,Bool.true_and];exact q
 |int t=>
  cases r;cases e;refine .inl ⟨_,_,n,_,rfl, .int t,kk "int" (by decide), ?_⟩;rw[sy];exact fin1 q (by decide)
 |str t=>
  cases r;cases e;refine .inl ⟨_,_,n,_,rfl, .str t,kk "str" (by decide), ?_⟩;rw[sy];exact fin1 q (by decide)
 |tup f xs=>
  let⟨a,us,rfl,h1,h2⟩:=r;cases e;refine .inr ⟨a,n,_,rfl, .inr (.inl ⟨us,ba l h1,kk "tuple" (by decide)⟩), ?_⟩;rw[sy];exact fin1 q (by decide)
 |lst xs=>
  let⟨a,us,rfl,h1,h2⟩:=r;cases e;refine .inr ⟨a,n,_,rfl, .inl ⟨us,hK▸h1,kk "list" (by decide)⟩, ?_⟩;rw[sy];exact fin1 q (by decide)
 |dct ks vs=>
  let⟨a,us,rfl,h1,h2⟩:=r;cases e
  have q2:Q (.bl ("dict"==n||("dict"=="bool"&&n=="int"))) H:=by
   rw[sy];exact fin1 q (by decide)
  rcases h1 with⟨_,_,_,h⟩|⟨_,_,_,h⟩
  ·exact .inr ⟨a,n,_,rfl, .inr (.inr (.inl ⟨_,h,kk "dict" (by decide)⟩)),q2⟩
  ·exact .inr ⟨a,n,_,rfl, .inr (.inr (.inr ⟨_,h,kk "dict" (by decide)⟩)),q2⟩
 |obj c ns vs=>cases e
 |ref k=>cases e
theorem Ft {a:Expr} {n:String} {x y:Str} {p:Pos} (hK:T.K=X.K) (kt:vk X.K) (hx:x="isinstance") (hy:md y=some n) (ha:PE X a (tE T P cl E ia)) (gx:Gl X x) (mx:X.mg x=none) (gy:Gl X y) (my:X.mg y=none) (hs:notStar a=true):
  PE X (.Call (.Name x p) [a, .Name y p2] [] pos) (tE T P cl E (.bi (.bM n) [ia])):=by
 subst hx;let⟨t1,t2,t3,t4⟩:=vD hy;refine PE.mono (qh ((xa (X:=X)).or xt) gx mx PyProof.Rows.Boot.«isinstance» (fE ha (fE (Ce (v:= .ty n) gy my t2 rfl t3 t4) jw rfl) (by cases a<;>first|rfl|cases hs)) (by decide) (by decide) (by cases a<;>first|rfl|cases hs) rfl) λσ H Q zq15=> ?_;let⟨env,st,as,G,s,er,h⟩:=zq15;dsimp only[PI.E.run] at h
 replace h:ab T as G (((ia.run P cl env st).bind λx st=> .ok [x] st).bind λxs st=>qt (.bM n) (xs.map (res st)) st) (λv _ as' G' H'=>∀u,Rel T as' G' v u->Q u H') (E σ):=by
  have z:aN P cl [ia] env st=(ia.run P cl env st).bind λx st=> .ok [x] st:=by
   unfold aN;rfl
  rw[z] at h;exact h
 rw[R.bind_assoc] at h;refine aA s er h λx st1 as1 G1 H1 u s1 er1 r1 p1 l1 h=> ?_;let⟨v,e,h⟩:=ab.dy (show ab T as1 G1 (R.ak ((bM n (res st1 x)).map .bl) st1) (λv _ as' G' H'=>∀u,Rel T as' G' v u->Q u H') (E σ) from h);let⟨b,e1,rfl⟩:=aab.mp e;exact Co hK kt s1.sub t1 (aV s1 r1) e1 (h.ok s1 _ rfl)
theorem v9 {k:Nat} {f C:Addr} {ps:List Str} {sp:Sp} {σ:St} {H:Hp} {s:Shared} {Q:VK} {us:List Value} (M:Mk X.K C f) (F:FnOk X.prog X.w X.K X.mg X.base (cU X.prog X.w) k f fd ps sp) (hr:Room (k+1) X.A) (hb:Binds X.K fd ps []) (hx:cM X)
  (I:Inv (X.ag (L4.XE X E)) pins σ H s) (r:Vals vs us) (h:∀x dx,H x=none->H dx=none->dx≠x->sp (.ref x::vs) (upd (upd H dx (.own x)) x (.ins C dx [])) (λv H2=>v= .non/\Q (.ref x) H2) (E σ)):
  wpAny (model X.prog X.w) X.A (PySem.call (.ref C) us) (EP (X.ag (L4.XE X E)) pins σ Q) (L4.XE X E) s:=by
 have hq:=h (s.heap.objs.size+1) s.heap.objs.size (I.af.fresh (Nat.le_succ _)) (I.af.fresh (aag _)) (aaw (ab8 _));have I2:=Inv.made (C:=C) I;have r2:Vals (V.ref (s.heap.objs.size+1)::vs) (Value.ref (s.heap.objs.size+1)::us):= .cons rfl r
 have hl:(Value.ref (s.heap.objs.size+1)::us++[]).length=ps.length:=by
  have e:=r2.length;rw[F.len _ _ _ _ hq] at e;rw[abj];exact e.symm
 have hb':=hb _ (Value.ref (s.heap.objs.size+1)::us) I2.bX hl;rw[abj] at hb'
 refine ac6 (yp (f:=f) I.bX M.makes M.init (beq_iff_eq.mp M.fn) (acO (F.run _ X.stack _ _ ⟨Value.ref (s.heap.objs.size+1)::us,[]⟩ (Value.ref (s.heap.objs.size+1)::us) _ _ (E σ) (hr.make C us [])
  (I2.zw.make C us []) hb' r2 hq) λr s' hq'=> ?_))
 cases r with
 |error e=>exact L4.xj hx I2 hq'
 |ok fl=>
  cases fl with
  |ret u=>
   let⟨v,H',I3,rv,ev,q3⟩:=I2.after hq';subst ev;exact⟨rv,⟨V.ref (s.heap.objs.size+1),H',I3,rfl,q3⟩⟩
  |next=>exact False.elim hq'
  |brk=>exact False.elim hq'
  |cont=>exact False.elim hq'
theorem make_core {n c fi:Nat} {C:Addr} {st:aa} {as:List Addr} {G H:Hp} {Q:VK} {Z:XK} (hC:T.ca c=C) (hX:T.xc c=false) (s:Sim T st as G H) (r:ae T as G xs vs)
  (h:ab T as G ((call P n fi (.ref st.length::xs) (st++[.ins c [] []])).bind λv st'=>qc v (fin P st (.ref st.length) st')) (λv _ as' G' H'=>∀u,Rel T as' G' v u->Q u H') Z) (x dx:Addr) (hx:H x=none) (hd:H dx=none) (ne:dx≠x):
  eU T P n fi (.ref x::vs) (upd (upd H dx (.own x)) x (.ins C dx [])) (λv H2=>v= .non/\Q (.ref x) H2) Z:=by
 subst hC
 have hx1:upd H dx (.own x) x=none:=by rw[aq (Ne.symm ne)];exact hx
 have s1:Sim T st as G (upd H dx (.own x)):=by
  let⟨n1,n2⟩:=s.fresh hd;refine⟨s.len,s.nd,s.sub.up n2,s.off,λm o a h1 h2=>(s.ob m o a h1 h2).at (aq λz=>n1 ?_)⟩;rw[←z];exact aas h2
 have s2:Sim T (st++[.ins c [] []]) (as++[x]) G (upd (upd H dx (.own x)) x (.ins (T.ca c) dx [])):=s1.push hx1 ⟨dx,[],hX,ao,rfl,rfl⟩;refine⟨st++[.ins c [] []],as++[x],G, .ref st.length::xs,s2,⟨.ref x,vs,rfl,⟨x,by rw[←s.len,aan (aag _)];simp,rfl⟩,r.mono (aat _ _) (Le.refl _)⟩, ?_⟩
 cases e:call P n fi (.ref st.length::xs) (st++[.ins c [] []]) with
 |stuck=>rw[e] at h;exact h.elim
 |exc y st'=>
  rw[e] at h;exact λas' G' H' cls dx p l s' ex=>h as' G' H' cls dx ((aat _ _).trans p) l s' ex
 |ok v st'=>
  rw[e] at h;intro as' G' H' p l s' u ru;replace h:ab T as G (qc v (fin P st (.ref st.length) st')) (λv _ as' G' H'=>∀u,Rel T as' G' v u->Q u H') Z:=h
  cases v with
  |non=>
   cases ru;refine⟨rfl,lH (v:= .ref st.length) (u:= .ref x) s1 s' ((aat _ _).trans p) l ⟨x, ?_,rfl⟩ h⟩;refine j0 p ?_;rw[←s.len,aan (aag _)];simp
  |_=>exact h.elim
theorem EZ {k n c fi:Nat} {K':Cl} {C f:Addr} {ps:List Str} {x:Str} {p:Pos} {e:Expr} {es:List Expr} {ies:List PI.E} (hk:P.cl c=some K') (hi:K'.init=some fi) (hC:T.ca c=C) (hX:T.xc c=false) (M:Mk X.K C f) (F:FnOk X.prog X.w X.K X.mg X.base (cU X.prog X.w) k f fd ps (eU T P n fi)) (hr:Room (k+1) X.A) (hb:Binds X.K fd ps []) (hx:cM X) (hg:Gl X x) (hm:X.mg x=some (.ref C))
  (ha:PA (X.ag (L4.XE X E)) (e::es) (fe T P (call P n) E ies)) (hdb:(x==("__debug__":Str))=false) (he:starEach (e::es) X.env=(false,eval e X.env)::starEach es X.env) (hpl:(backTo pos (starEach es X.env)).any (·.1)=false):
  PE (X.ag (L4.XE X E)) (.Call (.Name x p) (e::es) [] pos) (tE T P (call P n) E (.make c ies)):=by
 intro pins s σ H Q I ⟨env,st,as,G,sm,er,h⟩;dsimp only[PI.E.run] at h;rw[hk] at h;replace h:ab T as G ((aN P (call P n) ies env st).bind λxs st=>gr P (call P n) c xs st (some K'.init)) (λv _ as' G' H'=>∀u,Rel T as' G' v u->Q u H') (E σ):=h;rw[hi] at h;have h2:=cV (K:=λus H1=>∀x dx,H1 x=none->H1 dx=none->dx≠x->eU T P n fi (.ref x::us) (upd (upd H1 dx (.own x)) x (.ins C dx [])) (λv H2=>v= .non/\Q (.ref x) H2) (E σ)) sm er h λxs st1 as1 G1 H1 us s1 er1 r1 p1 l1 h=>make_core hC hX s1 r1 h;refine abd (g9 I hg hm ?_ hdb);refine PySem.W.callWith_K (h₀:=X.base) I.ok.mod.kin M.kp (ay (ha pos pins s σ H _ I h2) λus s1 zq16=> ?_) he hpl;let⟨vs,H1,I1,r,q⟩:=zq16;refine⟨I1.bX, ?_⟩;exact v9 M F hr hb hx I1 r q
theorem pW {T:CT} {G:Hp} {f:Str} {x:Val} {u:L2.V} (hx:Rel T as G x u):∀{ns:List Str} {vs:List Val} {us:List L2.V},ns.length=us.length->ae T as G vs us->∃us',(aQ ns vs f x).1.zip us'=L2.aQ f u (ns.zip us)/\(aQ ns vs f x).1.length=us'.length/\ae T as G (aQ ns vs f x).2 us'
 |[],vs,us,hl,r=>by
  have e0:us=[]:=aaF hl.symm;subst e0;exact⟨[u],rfl,rfl,⟨u,[],rfl,hx,rfl⟩⟩
 |n::ns,[],us,hl,r=>by
  cases r;cases hl
 |n::ns,v::vs,us,hl,r=>by
  let⟨w,t,rfl,h1,h2⟩:=r
  by_cases z:n=f
  ·refine⟨u::t, ?_, ?_, ?_⟩
   ·simp only[aQ,if_pos z,aaT,L2.aQ]
   ·simp only[aQ,if_pos z];exact hl
   ·simp only[aQ,if_pos z];exact⟨u,t,rfl,hx,h2⟩
  ·let⟨us',e1,e2,e3⟩:=pW (f:=f) hx (ns:=ns) (vs:=vs) (us:=t) (by simpa using hl) h2;refine⟨w::us', ?_, ?_, ?_⟩
   ·simp only[aQ,if_neg z,aaT,L2.aQ,e1]
   ·simp only[aQ,if_neg z,aar,e2]
   ·simp only[aQ,if_neg z];exact⟨w,us',rfl,h1,e3⟩
theorem CS {e:Expr} {f:Str} (hK:T.K=X.K) (C:COk T P) (hf:∀(c:Nat) k,P.cl c=some k->f∈k.flds->k.exc=false) (ho:PE X o (tE T P cl E io)) (he:PE X e (tE T P cl E ie)) (hs:swapsWith e (some (.Attribute o f pos')) pos.line X.env=pure false):
  PS X (.Assign [.Attribute o f pos'] e pos) (tS T P cl E (.di io f ie)):=
 PS.mono (Fh ho he hs) λD σ H z903=>by
  let⟨env,st,as,G,s,er,h⟩:=z903;dsimp only[PI.S.run] at h;have h2:=of_post h er;refine aA s er h2 λx st1 as1 G1 H1 u s1 er1 r1 p1 l1 h=> ?_;refine aA s1 er1 h λy st2 as2 G2 H2 w s2 er2 r2 p2 l2 h=> ?_
  cases y with
  |ref k=>
   let⟨a,ea,rfl⟩:=r2;replace h:ab T as2 G2 (pB P k f x st2 st2[k]?) (λa st as' G' _=>aE T as' G' (.next env st) D E) (E σ):=h
   cases e1:st2[k]? with
   |none=>rw[e1] at h;exact h.elim
   |some o'=>
    rw[e1] at h;have ob:=s2.ob k o' a e1 ea
    cases o' with
    |ins c ns vs=>
     let⟨⟨c1,c2⟩,h⟩:=ab.iff h;let⟨k',e2,e3⟩:=tJ c1;have ex:=hf c k' e2 e3;let⟨dx,us,x0,q,n,r⟩:=ob;let⟨us',z1,z2,z3⟩:=pW (f:=f) (r1.mono p2 l2) n r;have s4:=s2.set (o:= .ins c (aQ ns vs f x).1 (aQ ns vs f x).2) (u:= .ins (T.ca c) dx (L2.aQ f u (ns.zip us))) ea ⟨dx,us',x0,by rw[z1];exact ao,z2,z3⟩;refine⟨a,T.ca c,dx,_,rfl,q,hK▸C.cl c k' e2 ex,hK▸C.na c k' f e2 ex e3, ?_,h.ok s4 as2 G2 _ σ (aai _) (Le.refl _) s4 er2⟩;rw[abl];lia
    |lst xs=>exact h.elim
    |dct ks vs=>exact h.elim
  |_=>exact h.elim
theorem DE {e:Expr} {t:PI.T} (he:PE X e (tE T P cl E ie)) (hg:PG X tg (tG T t)) (hs:swapsWithSole [tg] e pos.line X.env=pure false) (hw:swappedStores [tg] e X.env=pure none) (h1:(assignEach [tg] X.env).map (·.2)=[assign tg X.env]):PS X (.Assign [tg] e pos) (tS T P cl E (.set t ie)):=
 PS.mono (wC he hg hs hw h1) λD σ H z903=>by
  let⟨env,st,as,G,s,er,h⟩:=z903;dsimp only[PI.S.run] at h;refine pM s er h λv st1 as1 G1 H1 u s1 er1 r1 h=> ?_
  cases e1:t.put v env with
  |none=>rw[e1] at h;exact h.elim
  |some env'=>
   rw[e1] at h;exact⟨env,st1,as1,G1,v,env',s1,er1,r1,e1,λσ' er'=>h as1 G1 H1 σ' (aai _) (Le.refl _) s1 er'⟩
theorem D7 {x:Str} {v:Val} {u:L2.V} {uv:Value} (hg:Gl X x) (hm:X.mg x=some uv) (r:RelV u uv) (hr:∀as G,Rel T as G v u) (hd:(x==("__debug__":Str))=false):PE X (.Name x pos) (tE T P cl E (.const v)):=
 PE.mono (uc hg hm r hd) λσ H Q z903=>by let⟨env,st,as,G,s,er,h⟩:=z903;exact h.ok s _ (hr _ _)
theorem xg {st:aa} {G H:Hp} {x:Val} {u:L2.V} {it:List Val×List (Nat×Ob)} (s:Sim T st as G H) (r:Rel T as G x u) (e:itemsOf st x=some it):∃a b,u= .ref a/\Src T b a it.1 it.2 as G/\(Ai (res st x)=true->b=true)/\∃us,fb b T.K H a us:=by
 cases x with
 |tup f xs=>
  cases e;let⟨a,us,rfl,q,r⟩:=r;exact⟨a,false,rfl, .inl ⟨us,rP q,r⟩,λz=>(by cases z),us,ba s.sub q⟩
 |lst xs=>
  cases e;let⟨a,us,rfl,q,r⟩:=r;exact⟨a,true,rfl, .inl ⟨us,q,r⟩,λ_=>rfl,us,bV s.sub q⟩
 |ref n=>
  let⟨a,ea,rfl⟩:=r;replace e:iz n st[n]?=some it:=e
  cases e1:st[n]? with
  |none=>rw[e1] at e;cases e
  |some o=>
   rw[e1] at e;have ob:=s.ob n o a e1 ea
   cases o with
   |lst xs=>
    cases e;let⟨us,q,r⟩:=ob;exact⟨a,true,rfl, .inr ⟨rfl,n,by simp,ea⟩,λ_=>rfl,us, .inl (.inl q)⟩
   |dct ks vs=>cases e
   |ins c ns vs=>cases e
 |_=>cases e
theorem zM {st:aa} {G H:Hp} {p:Addr} (s:Sim T st as G H) (hp:H p=none) (r:ae T as G xs us):∃G',Le G G'/\Sim T st as G' (upd H p (.tup us))/\Rel T as G' (.tup false xs) (.ref p):=by
 have l:Le G (upd G p (.tup us)):=Le.new (s.fresh hp).2;exact⟨_,l,s.ux hp,p,us,rfl,(show upd G p (.tup us) p=_ from ao),r.mono (aai _) l⟩
theorem j8:∀(xs ys:List Val),ys.length<=xs.length->(fU xs ys).length=ys.length
 |[],[],_=>rfl
 |_::_,[],_=>rfl
 |x::xs,y::ys,h=>by unfold fU;rw[aar,j8 xs ys (by simpa using h),aar]
theorem zip_get:∀(xs ys:List Val) (j:Nat) (x y:Val),xs[j]?=some x->ys[j]?=some y->(fU xs ys)[j]?=some (.tup false [x,y])
 |[],_,_,_,_,h,_=>by cases h
 |_::_,[],_,_,_,_,h=>by cases h
 |x::xs,y::ys,0,_,_,h,h'=>by
  cases h;cases h';rfl
 |x::xs,y::ys,j+1,_,_,h,h'=>zip_get xs ys j _ _ h h'
theorem Kept.left {c d:List (Nat×Ob)} {st:aa} (h:Kept (c++d) st):Kept c st:=λp hp=>h p (aa7 _ hp)
theorem Kept.right {c d:List (Nat×Ob)} {st:aa} (h:Kept (c++d) st):Kept d st:=λp hp=>h p (aaz _ hp)
theorem xy (b1 b2:Bool) (a1 a2:Addr) (xs ys:List Val) (c d:List (Nat×Ob)) (hl:ys.length<=xs.length):Walks T (Az T.K b1 a1 b2 a2) (fU xs ys) (c++d) (λas G=>Src T b1 a1 xs c as G/\Src T b2 a2 ys d as G) where
 mono p l h:=⟨h.1.mono p l,h.2.mono p l⟩
 stop s kp h:=by
  let⟨us,q,r⟩:=h.1.now s kp.left;let⟨us2,q2,r2⟩:=h.2.now s kp.right;have n1:=r.length;have n2:=r2.length;have n3:=j8 _ _ hl;refine⟨us,q, ?_⟩
  by_cases e:us.length=(fU xs ys).length
  ·exact .inl e
  ·exact .inr ⟨by lia,us2,q2,by lia⟩
 go hi s kp h:=by
  let⟨us,q,r⟩:=h.1.now s kp.left;let⟨us2,q2,r2⟩:=h.2.now s kp.right;rw[j8 _ _ hl] at hi;let⟨u,e,_⟩:=r.get (aac (aao hi hl));let⟨u2,e2,_⟩:=r2.get (aac hi);exact⟨us,us2,u,u2,q,q2,e,e2⟩
 yld {st as G H x H' i} hi s kp h y:=by
  let⟨us,q,r⟩:=h.1.now s kp.left;let⟨us2,q2,r2⟩:=h.2.now s kp.right;rw[j8 _ _ hl] at hi;let⟨u,e,hr⟩:=r.get (aac (aao hi hl));let⟨u2,e2,hr2⟩:=r2.get (aac hi);let⟨p,w,w2,rfl,hp,rfl,z,z2⟩:=y;have z':=z us q;have z2':=z2 us2 q2;rw[e] at z';rw[e2] at z2';cases z';cases z2';let⟨G',l,s',rr⟩:=zM (xs:=[xs[i]'(aao hi hl),ys[i]]) (us:=[u,u2]) s hp ⟨u,[u2],rfl,hr,u2,[],rfl,hr2,rfl⟩;exact⟨_,G',zip_get xs ys i _ _ (aac (aao hi hl)) (aac hi),l,s',rr⟩
theorem F6 {a b:Expr} {x1:Nat} {tp p:Pos} (hK:T.K=X.K) (hg:Gl X "zip") (hm:X.mg "zip"=none) (ha:PA X [a,b] (fe T P cl E [ia,ib])) (hs:starEach [a,b] X.env=[(false,eval a X.env),(false,eval b X.env)]) (hs2:starEach [b] X.env=[(false,eval b X.env)]):
  L2.PI X (.Tuple elts x1 tp) (.Call (.Name "zip" p) [a,b] [] pos) (tQ T P cl E (.zip ia ib)):=
 PI.mono (CN hg hm ha hs hs2) λσ H R z903=>by
  let⟨env,st,as,G,s,er,h⟩:=z903;unfold PI.Q.run at h;refine Bn s er h λx y st1 as1 G1 H1 u u' s1 er1 r1 r2 h=> ?_
  cases e1:itemsOf st1 x with
  |none=>rw[e1] at h;exact h.elim
  |some it1=>cases e2:itemsOf st1 y with
   |none=>rw[e1,e2] at h;exact h.elim
   |some it2=>
    rw[e1,e2] at h;let⟨hl,h⟩:=ab.iff (show ab T as1 G1 (PI.iff (it2.1.length<=it1.1.length) (.ok (fU it1.1 it2.1,it1.2++it2.2) st1)) _ _ from h);let⟨a1,b1,rfl,sr1,_,us1,q1⟩:=xg s1 r1 e1;let⟨a2,b2,rfl,sr2,_,us2,q2⟩:=xg s1 r2 e2;exact⟨a1,a2,b1,b2,rfl,⟨us1,hK▸q1⟩,⟨us2,hK▸q2⟩,hK▸h.ok s1 (Az T.K b1 a1 b2 a2) _ (xy b1 b2 a1 a2 it1.1 it2.1 it1.2 it2.2 hl) ⟨sr1,sr2⟩⟩
theorem wc {C:Addr} {σ:St} {H:Hp} {s:Shared} {Q:VK} (hm:PySem.W.makesIn X.K C=true) (hi:PySem.W.findIn X.K (.ref C) "__init__"=some (some (.builtin "object.__init__"))) (I:Inv X pins σ H s)
  (h:∀x dx,H x=none->H dx=none->dx≠x->Q (.ref x) (upd (upd H dx (.own x)) x (.ins C dx []))):wpAny (model X.prog X.w) X.A (PySem.call (.ref C) []) (EP X pins σ Q) X.xe s:=by
 have hq:=h (s.heap.objs.size+1) s.heap.objs.size (I.af.fresh (Nat.le_succ _)) (I.af.fresh (aag _)) (aaw (ab8 _));have I2:=Inv.made (C:=C) I;let⟨hh,g,d,t,os⟩:=s;have Y:=ac7 (M:=model X.prog X.w) I.bX hm;refine ac6 (v5 I.bX hm hi (λself=>PySem.W.Looks.of_pure (PySem.W.oi_bind self)) ?_)
 have e2:((hh.push PySem.W.emptyDict).push (PySem.W.instObj C hh.objs.size)).get? (hh.objs.size+1)=some (PySem.W.instObj C hh.objs.size):=by
  have:=aaj (hh.push PySem.W.emptyDict) (o:=PySem.W.instObj C hh.objs.size) rfl;rw[aaU] at this;exact this
 have t1:PySem.W.Looks (model X.prog X.w) ((hh.push PySem.W.emptyDict).push (PySem.W.instObj C hh.objs.size)) (typeOf (.ref (hh.objs.size+1))) (.ref C):=(PySem.W.Looks.ld e2).andThen .now;have t2:PySem.W.Looks (model X.prog X.w) ((hh.push PySem.W.emptyDict).push (PySem.W.instObj C hh.objs.size)) (isInstance (.ref (hh.objs.size+1)) (.type "object")) true:=t1.andThen (Y.top.keeps λb o e=>aad _ (aad _ e));refine codeAny_call_builtin PySem.W.oi_plain PySem.W.entry_oi (@PySem.W.check_slot (model X.prog X.w) _ _ _ "object.__init__" "object" "__init__" (.ref (hh.objs.size+1)) [] [] _ PySem.W.oi_kind PySem.W.oi_split t2 (PySem.W.oi_args (.ref (hh.objs.size+1))) ?_);rw[PySem.W.oi_run];exact aaf (And.intro rfl ⟨V.ref (hh.objs.size+1),_,I2,rfl,hq⟩)
theorem Bq {c:Nat} {K':Cl} {C:Addr} {x:Str} {p:Pos} (hk:P.cl c=some K') (hin:K'.init=none) (hC:T.ca c=C) (hX:T.xc c=false) (hm:PySem.W.makesIn X.K C=true) (hi:PySem.W.findIn X.K (.ref C) "__init__"=some (some (.builtin "object.__init__"))) (kp:PySem.W.keepIn X.K (.ref C)=true) (hg:Gl X x) (hmg:X.mg x=some (.ref C)) (hdb:(x==("__debug__":Str))=false):
  PE X (.Call (.Name x p) [] [] pos) (tE T P cl E (.make c [])):=by
 intro pins s σ H Q I ⟨env,st,as,G,sm,er,h⟩;dsimp only[PI.E.run] at h;rw[hk] at h;replace h:ab T as G (gr P cl c [] st (some K'.init)) (λv _ as' G' H'=>∀u,Rel T as' G' v u->Q u H') (E σ):=h;rw[hin] at h;replace h:ab T as G (fin P st (.ref st.length) (st++[.ins c [] []])) (λv _ as' G' H'=>∀u,Rel T as' G' v u->Q u H') (E σ):=h;refine abd (g9 I hg hmg ?_ hdb);refine PySem.W.callWith_K0 I.bX kp (wc hm hi I λx dx hx hd ne=> ?_);subst hC
 have hx1:upd H dx (.own x) x=none:=by rw[aq (Ne.symm ne)];exact hx
 have s1:Sim T st as G (upd H dx (.own x)):=by
  let⟨n1,n2⟩:=sm.fresh hd;refine⟨sm.len,sm.nd,sm.sub.up n2,sm.off,λm o a h1 h2=>(sm.ob m o a h1 h2).at (aq λz=>n1 ?_)⟩;rw[←z];exact aas h2
 have s2:Sim T (st++[.ins c [] []]) (as++[x]) G (upd (upd H dx (.own x)) x (.ins (T.ca c) dx [])):=s1.push hx1 ⟨dx,[],hX,ao,rfl,rfl⟩;refine lH (v:= .ref st.length) (u:= .ref x) s1 s2 (aat _ _) (Le.refl _) ⟨x, ?_,rfl⟩ h;rw[←sm.len,aan (aag _)];simp
theorem qH {α:Type}:∀(l:List (Array α)) (acc:Array α),(l.foldl (· ++ ·) acc).toList=acc.toList++(l.map Array.toList).flatten
 |[],acc=>by simp
 |a::l,acc=>by
  rw[List.foldl_cons,qH l];simp
theorem xV (z:Str) (k:Int) (h:0<=k):gM z k.toNat=Txt.mul z k:=by
 unfold gM Txt.mul;split
 ·rw[show k.toNat=0 by lia];rfl
 ·split
  ·rename_i h1 h2;rw[abB,abH,abH] at h2
   rcases h2 with h2|h2
   ·subst h2;simp
   ·have e:z.cps.toList=[]:=aaF (by simpa[Str.length] using h2);rw[e];have e2:z.cps=#[]:=acG.mp e
    have e3:(List.replicate k.toNat ([]:List Nat)).flatten=([]:List Nat):=by simp
    rw[e3];cases z;simp at e2;rw[e2]
  ·congr 1;apply acG.mp;rw[qH];simp
theorem Cd:aD X (binaryOp .Mult) (cx T (eJ .Mult)):=by
 intro pins s σ H u w uv wv Q I ru rw' ⟨st,as,G,x,y,Z,sm,r1,r2,p⟩
 cases x with
 |str z=>cases y with
  |int k=>
   cases r1;cases r2;let⟨⟨c1,c2,c3⟩,p⟩:=ab.iff (show ab T as G (PI.iff (0<=k/\k<=1000/\z.length<=1000) (.ok (.str (gM z k.toNat)) st)) (PV T Q) Z from p);refine A8 pins s σ H _ _ uv wv Q I ru rw' ⟨z,k,rfl,rfl,c1,c2,c3, ?_⟩;rw[←xV z k c1];exact p.ok sm _ rfl
  |_=>exact p.elim
 |int i=>exact BZ pins s σ H u w uv wv Q I ru rw' ⟨st,as,G, .int i,y,Z,sm,r1,r2,p⟩
 |_=>exact p.elim
theorem ET {e f:Expr} (hu:X.A.units+1<cLine) (ho:PE X o (tE T P cl E io)) (he:PE X e (tE T P cl E ie)) (hf:PE X f (tE T P cl E jf)) (m:M2 X o "get" apos e f pos):PE X (.Call (.Attribute o "get" apos) [e,f] [] pos) (tE T P cl E (.bm .get io [ie,jf])):=by
 intro pins s σ H Q I ⟨env,st,as,G,sm,er,h⟩;dsimp only[PI.E.run] at h
 have h2:=aA (K:=λu H1=>∃a,u= .ref a/\AK H1 a/\tE T P cl E ie σ H1 λy H2=>tE T P cl E jf σ H2 λz H3=>∃ov,DG H3 a y ov/\Q (ov.getD z) H3) sm er h λv st1 as1 G1 H1 u s1 er1 r1 p1 l1 h=>by
  let⟨c,h⟩:=ab.iff h;have rr:=aV s1 r1
  have cd:∃ks vs,res st1 v= .dct ks vs:=by
   generalize res st1 v=y at c
   cases y<;>first|(cases c;done)|exact⟨_,_,rfl⟩
  let⟨ks,vs,ev⟩:=cd;rw[ev] at rr;let⟨a,us,rfl,d,rv⟩:=rr;refine⟨a,rfl,xG d, ?_⟩
  replace h:ab T as1 G1 (((ie.run P cl env st1).bind λx st=>(jf.run P cl env st).bind λy st=> .ok [x,y] st).bind λxs st=>jJ .get v xs st) (λv _ as' G' H'=>∀u,Rel T as' G' v u->Q u H') (E σ):=by
   have z:aN P cl [ie,jf] env st1=(ie.run P cl env st1).bind λx st=>(jf.run P cl env st).bind λy st=> .ok [x,y] st:=by
    unfold aN;congr 1;funext x st;unfold aN;rw[R.bind_assoc];rfl
   rw[z] at h;exact h
  rw[R.bind_assoc] at h;refine aA s1 er1 h λk st2 as2 G2 H2 w s2 er2 r2 p2 l2 h=> ?_;rw[R.bind_assoc] at h;refine aA s2 er2 h λx st3 as3 G3 H3 w3 s3 er3 r3 p3 l3 h=> ?_;replace h:ab T as3 G3 (lO (res st3 v) [k,x] st3) (λv _ as' G' H'=>∀u,Rel T as' G' v u->Q u H') (E σ):=h;have r4:=aV s3 (r1.mono (p2.trans p3) (l2.trans l3));generalize res st3 v=y at h r4
  cases y with
  |dct ks vs=>
   let⟨hk,h⟩:=ab.iff h;let⟨b,e,h⟩:=ab.dy h;let⟨r,e1,rfl⟩:=aab.mp e;let⟨a',us',ea,d',rv'⟩:=r4;cases ea;let⟨ro,g,og⟩:=mO s3.sub d' rv' hk (r2.mono p3 l3) e1;refine⟨ro,g, ?_⟩
   cases r<;>cases ro<;>first|exact og.elim|exact h.ok s3 _ r3|exact h.ok s3 _ og
  |_=>exact h.elim
 refine wpAny_Call_method m.base m.few m.line PySem.F.plainAttrs_dict aaQ PySem.F.type_dict_get (ay (ho pins s σ H _ I h2) λu s1 z902=> ?_);let⟨x,H1,I1,rx,a,ex,d,q1⟩:=z902;subst ex;obtain rfl:u=Value.ref a:=rx;let⟨t1,t2,_⟩:=vF I1 d;refine⟨t1,t2, ?_⟩;rw[m.trees];refine ab2 rfl (acK (aci (ay (he pins s1 σ H1 _ I1 q1) λiv s2 zq17=> ?_)));let⟨y,H2,I2,ry,q2⟩:=zq17;refine aci (ay (hf pins s2 σ H2 _ I2 q2) λfv s3 zq18=> ?_);let⟨z,H3,I3,rz,ov,g,q3⟩:=zq18;refine ac1 ?_;exact Bv hu I3 g ry rz λw' s4 I4 rw'=>⟨_,H3,I4,rw',q3⟩
end
def eP:List Val->Bool
 | .tup _ (k::_)::_=>kT k
 |_=>false
theorem mD {x:Val} (h:pairD (x::r) ks vs=some (ks',vs')):∃k v p,x= .tup false [k,v]/\bA k=true/\putD k v ks vs=some p/\pairD r p.1 p.2=some (ks',vs'):=by
 unfold pairD at h;split at h
 ·rename_i z;cases z
 ·rename_i k v r' z;cases z;split at h
  ·rename_i hk;let⟨p,e1,e2⟩:=aap.mp h;exact⟨k,v,p,rfl,hk,e1,e2⟩
  ·cases h
 ·cases h
theorem tw {k:Val}:∀{ks:List Val},ks≠[]->(∀a∈ks,kT a≠kT k)->memD k ks=none
 |[],h,_=>absurd rfl h
 |a::ks,_,h=>by
  show (if kT a=kT k then _ else none)=none;rw[if_neg (h a aaB)]
section
variable {T:CT} {as:List Addr} {G H:Hp}
theorem sV (l:Le G H):∀{xs:List Val} {ys:List L2.V} {ks vs ks' vs':List Val} {kk:List (List Key)} {us:List L2.V},ae T as G xs ys->aW ks=some kk->kk.length=us.length->ae T as G vs us->(ks=[]->xs=[]∨eP xs=true)->pairD xs ks vs=some (ks',vs')->
  ∃kvs kk' us',Paired (AU H) ys kvs/\kvs.length=xs.length/\putAll (kk.zip us) kvs=kk'.zip us'/\aW ks'=some kk'/\kk'.length=us'.length/\ae T as G vs' us'
 |[],ys,ks,vs,ks',vs',kk,us,rx,h1,h2,rv,_,e=>by
  cases rx;cases e;exact⟨[],kk,us, .nil,rfl,rfl,h1,h2,rv⟩
 |x::r,ys,ks,vs,ks',vs',kk,us,rx,h1,h2,rv,ht,e=>by
  let⟨k,v,⟨ks1,vs1⟩,rfl,hk,e1,e2⟩:=mD e;let⟨u,t,rfl,ru,rr⟩:=rx;let⟨q,us0,rfl,hq,r0⟩:=ru;let⟨uk,t0,rfl,rk,uv,t1,rfl,rvv,r1⟩:=r0;cases r1
  rcases mU l hk rk with⟨tk,κ,k1,k2⟩|⟨tk,κ,b,k1,rfl,k2⟩
  ·exfalso
   by_cases z:ks=[]
   ·rcases ht z with z|z
    ·cases z
    ·have:kT k=true:=z;rw[tk] at this;cases this
   ·have:=tw (k:=k) z λa ha=>by rw[(fY h1).2 a ha,tk];decide
    unfold putD at e1;rw[this] at e1;cases e1
  ·let⟨kk1,us1,z1,z2,z3,z4⟩:=uN k1 rvv h1 h2 rv e1
   have ne:ks1≠[]:=λz=>by
    subst z;unfold putD at e1;let⟨bb,_,e4⟩:=aab.mp e1
    cases bb with
    |true=>
     cases ks with
     |nil=>rename_i e3;cases e3
     |cons _ _=>cases e4
    |false=>
     have:=congrArg (λp=>p.1.length) e4;simp at this
   let⟨kvs,kk2,us2,p1,p2,p3,p4,p5,p6⟩:=sV l rr z1 z2 z4 (λz=>absurd z ne) e2;refine⟨(κ,uv)::kvs,kk2,us2, .cons ⟨q,b,rfl,l.ex hq rfl,k2⟩ p1,by simp[p2], ?_,p4,p5,p6⟩;show putAll (putK (kk.zip us) κ uv) kvs=_;rw[z3,p3]
theorem sY (l:Le G H):∀{xs:List Val} {ys:List L2.V} {ks vs ks' vs':List Val} {kk:List Key} {us:List L2.V},ae T as G xs ys->aG ks=some kk->kk.length=us.length->ae T as G vs us->(ks=[]->xs≠[]/\eP xs=false)->pairD xs ks vs=some (ks',vs')->
  ∃kvs kk' us',Paired (AZ H) ys kvs/\kvs.length=xs.length/\putAll (kk.zip us) kvs=kk'.zip us'/\aG ks'=some kk'/\kk'.length=us'.length/\ae T as G vs' us'
 |[],ys,ks,vs,ks',vs',kk,us,rx,h1,h2,rv,_,e=>by
  cases rx;cases e;exact⟨[],kk,us, .nil,rfl,rfl,h1,h2,rv⟩
 |x::r,ys,ks,vs,ks',vs',kk,us,rx,h1,h2,rv,ht,e=>by
  let⟨k,v,⟨ks1,vs1⟩,rfl,hk,e1,e2⟩:=mD e;let⟨u,t,rfl,ru,rr⟩:=rx;let⟨q,us0,rfl,hq,r0⟩:=ru;let⟨uk,t0,rfl,rk,uv,t1,rfl,rvv,r1⟩:=r0;cases r1
  rcases mU l hk rk with⟨tk,κ,k1,rfl⟩|⟨tk,κ,b,k1,k3,k2⟩
  ·let⟨kk1,us1,z1,z2,z3,z4⟩:=uI k1 rvv h1 h2 rv e1
   have ne:ks1≠[]:=λz=>by
    subst z;unfold putD at e1;let⟨bb,_,e4⟩:=aab.mp e1
    cases bb with
    |true=>
     cases ks with
     |nil=>rename_i e3;cases e3
     |cons _ _=>cases e4
    |false=>
     have:=congrArg (λp=>p.1.length) e4;simp at this
   let⟨kvs,kk2,us2,p1,p2,p3,p4,p5,p6⟩:=sY l rr z1 z2 z4 (λz=>absurd z ne) e2;refine⟨(κ,uv)::kvs,kk2,us2, .cons ⟨q,rfl,l.ex hq rfl⟩ p1,by simp[p2], ?_,p4,p5,p6⟩;show putAll (putK (kk.zip us) κ uv) kvs=_;rw[z3,p3]
  ·exfalso
   by_cases z:ks=[]
   ·have:=(ht z).2;have t2:kT k=false:=this;rw[tk] at t2;cases t2
   ·have:=tw (k:=k) z λa ha=>by rw[(fO h1).2 a ha,tk];decide
    unfold putD at e1;rw[this] at e1;cases e1
end
section
variable {T:CT} {P:Pg} {cl:ar} {E:XS} {X:Cx} {pos:Pos}
def Kx (T:CT):List L2.V->Hp->VK->Prop:=λus H Q=>∃st as G x u Z,us=[u]/\Sim T st as G H/\Rel T as G x u/\ab T as G (qK st x) (PV T Q) Z
theorem sN {st:aa} {G H:Hp} {a:Addr} {b:Bool} {Q:VK} {Z:XK} (s:Sim T st as G H) (r:ae T as G xs ys) (hp:Plain b H a ys) (h:ab T as G (newD xs st) (PV T Q) Z):wX b [.ref a] H Q∨xE b [.ref a] H Q:=by
 let⟨c,h⟩:=ab.iff h;let⟨⟨ks,vs⟩,e,h⟩:=ab.ak h
 have fin:∀{u:HO} (p:Addr),H p=none->eE T (as++[p]) G (upd H p u) p (.dct ks vs)->Q (.ref p) (upd H p u):=λ{u} p hp o=>by
  have s2:=s.push hp o;refine h (as++[p]) G _ (aat _ _) (Le.refl _) s2 _ ⟨p, ?_,rfl⟩;rw[←s.len,aan (aag _)];simp
 by_cases z:xs=[]∨eP xs=true
 ·let⟨kvs,kk,us,p1,p2,p3,p4,p5,p6⟩:=sV s.sub (kk:=[]) (us:=[]) r rfl rfl (show ae T as G [] [] from rfl) (λ_=>z) e;refine .inl ⟨a,ys,kvs,rfl,hp,p1,by rw[p2];exact c,λp hp=>fin p hp ⟨us, .inr ⟨kk,p4,p5, ?_⟩,p6.mono (aat _ _) (Le.refl _)⟩⟩;rw[show putAll [] kvs=kk.zip us from p3];exact ao
 ·have z1:xs≠[]:=λq=>z (.inl q)
  have z2:eP xs=false:=by
   cases q:eP xs with
   |true=>exact absurd (.inr q) z
   |false=>rfl
  let⟨kvs,kk,us,p1,p2,p3,p4,p5,p6⟩:=sY s.sub (kk:=[]) (us:=[]) r rfl rfl (show ae T as G [] [] from rfl) (λ_=>⟨z1,z2⟩) e;refine .inr ⟨a,ys,kvs,rfl,hp,p1,by rw[p2];exact c,λp hp=>fin p hp ⟨us, .inl ⟨kk,p4,p5, ?_⟩,p6.mono (aat _ _) (Le.refl _)⟩⟩;rw[show putAll [] kvs=kk.zip us from p3];exact ao
theorem yu (hc:X.calm=true) (hu:X.A.units+2<cLine):au X (.type "dict") (Kx T):=by
 refine au.imp (((mQ hc hu (b:=true)).or (mJ hc hu (b:=true))).or ((mQ hc hu (b:=false)).or (mJ hc hu (b:=false)))) λus H Q z903=> ?_;let⟨st,as,G,x,u,Z,e,s,r,h⟩:=z903;subst e
 cases x with
 |tup f xs=>
  cases f with
  |false=>exact h.elim
  |true=>
   let⟨a,ys,rfl,⟨o,q1,q2⟩,r⟩:=r;exact .inr (sN s r ⟨o,s.sub.ex q1 rfl,q2⟩ h)
 |ref k=>
  let⟨a,ea,rfl⟩:=r;replace h:ab T as G (vj st st[k]?) (PV T Q) Z:=h
  cases e1:st[k]? with
  |none=>rw[e1] at h;exact h.elim
  |some o=>
   rw[e1] at h;have ob:=s.ob k o a e1 ea
   cases o with
   |lst xs=>
    let⟨ys,q,r⟩:=ob;exact .inl (sN s r q h)
   |dct ks vs=>exact h.elim
   |ins c ns vs=>exact h.elim
 |_=>exact h.elim
theorem Hy {e:Expr} {p:Pos} (hc:X.calm=true) (hu:X.A.units+2<cLine) (hg:Gl X "dict") (hm:X.mg "dict"=none) (he:PE X e (tE T P cl E ie)) (hs:notStar e=true):PE X (.Call (.Name "dict" p) [e] [] pos) (tE T P cl E (.dOf ie)):=
 PE.mono (nP (yu hc hu) hg hm PyProof.Rows.Boot.«dict» (fE he jw (by cases e<;>first|rfl|cases hs)) (by decide) (by decide) (by cases e<;>first|rfl|cases hs) rfl) λσ H Q z903=>by
  let⟨env,st,as,G,s,er,h⟩:=z903;dsimp only[PI.E.run] at h;exact aA s er h λx st1 as1 G1 H1 u s1 er1 r1 p1 l1 h=>⟨st1,as1,G1,x,u,_,rfl,s1,r1,h⟩
end
end PI
namespace PI
open PySem L2 L2.L3
theorem nu:∀x y:List Int,xA x y=HT.lexLt x y
 |[],[]=>rfl
 |[],_::_=>rfl
 |_::_,[]=>rfl
 |a::r,b::t=>by
  rw[HT.eD];unfold xA;rw[nu r t]
theorem vU:∀{x y:List Int},HT.lexLt x y=false->HT.lexLt y x=false->x=y
 |[],[],_,_=>rfl
 |[],_::_,h,_=>by cases h
 |_::_,[],_,h=>by cases h
 |a::r,b::t,h1,h2=>by
  rw[HT.eD] at h1 h2
  by_cases e:a=b
  ·subst e;rw[if_pos rfl] at h1 h2;rw[vU h1 h2]
  ·rw[if_neg e] at h1;rw[if_neg (λz=>e z.symm)] at h2;have k1:=ab1 h1;have k2:=ab1 h2;lia
section
variable {α β:Type}
theorem jH {k:List Int} {y:α}:∀{l:List (List Int×α)},(cZ k y l).Perm ((k,y)::l)
 |[]=> .refl _
 |z::r=>by
  unfold cZ;split
  ·exact .refl _
  ·exact((jH (l:=r)).cons z).trans (.swap _ _ _)
theorem iZ:∀{l:List (List Int×α)},(bD l).Perm l
 |[]=> .refl _
 |z::r=>jH.trans ((iZ (l:=r)).cons _)
def qb (l:List (List Int×α)):Prop:=l.Pairwise λx y=>HT.lexLt y.1 x.1=false
theorem l9 {k:List Int} {y:α}:∀{l:List (List Int×α)},qb l->qb (cZ k y l)
 |[],_=>List.Pairwise.cons (λ_ h=>by cases h) .nil
 |z::r,h=>by
  unfold cZ;split
  ·rename_i c;rw[nu] at c;refine List.Pairwise.cons (λw hw=> ?_) h
   rcases aau.mp hw with rfl|hw
   ·exact mP c
   ·exact qL (mP c) (List.rel_of_pairwise_cons h hw)
  ·rename_i c;rw[nu] at c
   have c0:HT.lexLt k z.1=false:=by simpa using c
   refine List.Pairwise.cons (λw hw=> ?_) (l9 (List.pairwise_cons.mp h).2)
   rcases aau.mp (jH.mem_iff.mp hw) with rfl|hw
   ·exact c0
   ·exact List.rel_of_pairwise_cons h hw
theorem kG:∀{l:List (List Int×α)},qb (bD l)
 |[]=> .nil
 |_::r=>l9 (kG (l:=r))
theorem qY (g:α->β) {k:List Int} {y:α}:∀{l:List (List Int×α)},cZ k (g y) (l.map λz=>(z.1,g z.2))=(cZ k y l).map λz=>(z.1,g z.2)
 |[]=>rfl
 |z::r=>by
  show (if xA k z.1=true then _ else _)=_;rw[cZ];split
  ·rfl
  ·rw[aav,←qY g]
theorem pb (g:α->β):∀{l:List (List Int×α)},bD (l.map λz=>(z.1,g z.2))=(bD l).map λz=>(z.1,g z.2)
 |[]=>rfl
 |z::r=>by
  show cZ z.1 (g z.2) (bD (r.map λz=>(z.1,g z.2)))=_;rw[pb g,qY g];rfl
end
theorem xl {α:Type} {d:α} (ks:List (List Int)) (ys:List α) (h:ks.length=ys.length):ks.zip ys=(ks.zip (List.range ys.length)).map λz=>(z.1,ys.getD z.2 d):=by
 refine List.ext_getElem (by simp[h]) λi h1 h2=> ?_
 have hy:i<ys.length:=by simp at h1;lia
 simp[aax,aac hy]
theorem wD {α:Type} {d:α} {ks:List (List Int)} {ys:List α} (h:ks.length=ys.length) (nd:ks.Nodup) {p:List Nat} (pp:p.Perm (List.range ys.length)) (pr:mz ks p):(bD (ks.zip ys)).map (λz=>z.2)=p.map λi=>ys.getD i d:=by
 rw[xl (d:=d) ks ys h,pb (λi=>ys.getD i d),abT]
 have e:p=(bD (ks.zip (List.range ys.length))).map λz=>z.2:=by
  have m:∀z∈bD (ks.zip (List.range ys.length)),z.1=ks.getD z.2 []/\z.2<ks.length:=λz hz=>by
   let⟨i,hi,e⟩:=List.mem_iff_getElem.mp (iZ.mem_iff.mp hz);subst e
   have hk:i<ks.length:=by simp at hi;lia
   simp[aax,aac hk,hk]
  have sn:((ks.zip (List.range ys.length)).map λz=>z.2)=List.range ys.length:=List.map_snd_zip (by simp[h])
  have pm:((bD (ks.zip (List.range ys.length))).map λz=>z.2).Perm (List.range ys.length):=by
   have:=(iZ (l:=ks.zip (List.range ys.length))).map λz=>z.2;rwa[sn] at this
  have rs:mz ks ((bD (ks.zip (List.range ys.length))).map λz=>z.2):=by
   unfold mz;rw[List.pairwise_map];refine(List.Pairwise.and_mem.mp (kG (l:=ks.zip (List.range ys.length)))).imp λ{a b} z901=> ?_;let⟨ma,mb,q⟩:=z901;rw[←(m a ma).1,←(m b mb).1];exact q
  refine List.Perm.eq_of_pairwise (λa b ha hb h1 h2=> ?_) pr rs (pp.trans pm.symm)
  have la:a<ks.length:=by rw[h];exact abr.mp (pp.mem_iff.mp ha)
  have lb:b<ks.length:=by rw[h];exact abr.mp (pm.mem_iff.mp hb)
  have q:=vU h1 h2;rw[aax,aax,aac la,aac lb] at q;have q':ks[b]=ks[a]:=q;exact pK nd (aac la) (by rw[aac lb,q'])
 rw[e,abT];rfl
end PI
namespace PI
open PySem PySem.Spec L2 L2.L3 L2.L4 PySem.SeqAt
open PyProof.Rows hiding St lobj
theorem zj {α β:Type} {c:Prop} {r:R α} {f:α->aa->R β}:(iff c r).bind f=iff c (r.bind f):=by
 unfold iff;split<;>rfl
theorem eqz {α β γ:Type} {x:Option α} {y:Option β} {f:α->β->γ} {c:γ} (h:(x.bind λa=>y.map λb=>f a b)=some c):∃a b,x=some a/\y=some b/\c=f a b:=by
 let⟨a,e1,e2⟩:=aap.mp h;let⟨b,e3,e4⟩:=aab.mp e2;exact⟨a,b,e1,e3,e4.symm⟩
section
variable {T:CT} {as:List Addr} {G H:Hp}
theorem gu:∀{xs:List Val} {us:List L2.V} {k:List Int},eR xs=some k->ae T as G xs us->us=k.map L2.V.int
 |[],us,k,h,r=>by
  cases h;exact r
 |x::xs,us,k,h,r=>by
  cases x<;>try (cases h;done)
  rename_i i;let⟨k',e,rfl⟩:=aab.mp h;let⟨u,t,rfl,ru,rr⟩:=r;cases ru;rw[gu e rr];rfl
theorem ql (l:Le G H):∀{dn:List Val} {kv:List L2.V} {ks:List (List Int)},dD dn=some ks->ae T as G dn kv->Paired (fk H) kv ks
 |[],kv,ks,h,r=>by
  cases h;cases r;exact .nil
 |v::dn,kv,ks,h,r=>by
  let⟨k,ks',e1,e2,rfl⟩:=eqz h;let⟨u,t,rfl,ru,rr⟩:=r;refine .cons ?_ (ql l e2 rr)
  cases v<;>try (cases e1;done)
  rename_i f xs
  cases f with
  |true=>cases e1
  |false=>
   let⟨a,us,rfl,ha,hr⟩:=ru;have e3:eR xs=some k:=e1;rw[gu e3 hr] at ha;exact⟨a,rfl,l.ex ha rfl⟩
theorem oo:∀{dn:List Val} {ks:List (List Int)},dD dn=some ks->ks.length=dn.length
 |[],ks,h=>by
  cases h;rfl
 |v::dn,ks,h=>by
  let⟨k,ks',e1,e2,rfl⟩:=eqz h;simp[oo e2]
theorem oN {ys:List Val} {us:List L2.V} (r:ae T as G ys us):∀{p:List Nat},(∀i∈p,i<ys.length)->ae T as G (p.map λi=>ys.getD i .non) (p.map λi=>us.getD i .non)
 |[],_=>rfl
 |i::p,h=>by
  have hi:=h i aaB;let⟨u,e,ru⟩:=r.get (aac hi);refine⟨_,_,rfl, ?_,oN r λj hj=>h j (aaq _ hj)⟩;show Rel T as G (ys.getD i .non) (us.getD i .non);rw[aax,aac hi,aax,e];exact ru
theorem sU {α:Type} (l:List α) (a b:α):(l++[a]).set l.length b=l++[b]:=by simp
end
section
variable {T:CT} {P:Pg} {E:XS} {X:Cx} {pos:Pos} {n fi:Nat}
theorem CP {st:aa} {G H:Hp} {us:List L2.V} {Q:VK} {Z:XK} (s:Sim T st as G H) (r:ae T as G ys us)
  (h:ab T as G ((eS (call P n) fi st ys []).bind λks _=>(R.ak (dD ks) st).bind λks st=>iA ys ks st) (PV T Q) Z):
  ∀kS,H kS=none->∃W:SW,pL (eU T P n fi) kS W/\W us [] (upd H kS (.lst []))/\∀kv H2,H2 kS=some (.lst kv)->kv.length=us.length->W [] kv H2->yK us Q kS kv H2:=by
 intro kS hS;have pre:as<+:as++[kS]:=aat _ _
 have ix:(as++[kS])[st.length]?=some kS:=by
  rw[←s.len,aan (aag _)];simp
 refine⟨λrest kv H'=>∃G' dn rv,Le G G'/\Sim T (st++[.lst dn]) (as++[kS]) G' H'/\ae T (as++[kS]) G' dn kv/\ae T (as++[kS]) G' rv rest/\rv.length+dn.length=ys.length/\
  ab T (as++[kS]) G' ((eS (call P n) fi st rv dn).bind λks _=>(R.ak (dD ks) st).bind λks st=>iA ys ks st) (PV T Q) Z, ?_, ?_, ?_⟩
 ·rintro y rest kv H' ⟨G',dn,rv,l,sm,rd,rr,ln,hp⟩
  cases rv with
  |nil=>cases rr
  |cons yv rv=>
   let⟨u,t,e,ry,rr⟩:=rr;cases e;refine⟨st++[.lst dn],as++[kS],G',[yv],sm,⟨y,[],rfl,ry,rfl⟩, ?_⟩;unfold eS at hp
   cases ec:call P n fi [yv] (st++[.lst dn]) with
   |stuck=>rw[ec] at hp;exact hp.elim
   |exc x st'=>rw[ec] at hp;exact hp.elim
   |ok v st'=>
    rw[ec] at hp;replace hp:ab T (as++[kS]) G' ((iff (st'=st++[.lst dn]) (eS (call P n) fi st rv (dn++[v]))).bind λks _=>(R.ak (dD ks) st).bind λks st=>iA ys ks st) (PV T Q) Z:=hp;rw[zj] at hp;let⟨e9,hq⟩:=ab.iff hp;subst e9;intro as' G2 H2 p l2 s2 w rw';have ea:as++[kS]=as':=p.eq_of_length (by rw[sm.len,s2.len]);subst ea;let⟨kv2,hk2,rd2⟩:=s2.ob st.length (.lst dn) kS (by simp) ix;have rd3:ae T (as++[kS]) G2 (dn++[v]) (kv2++[w]):=rd2.append ⟨w,[],rfl,rw',rfl⟩;have s3:=s2.set (u:= .lst (kv2++[w])) (o:= .lst (dn++[v])) ix ⟨_,ao,rd3⟩;rw[sU] at s3;exact⟨kv2,by rw[←rd2.length,←rd.length],hk2,G2,dn++[v],rv,l.trans l2,s3,rd3,rr.mono (aai _) l2,by simp at ln⊢;lia,ab.mono (aai _) l2 hq⟩
 ·exact⟨G,[],ys,Le.refl _,s.push hS ⟨[],ao,rfl⟩,rfl,r.mono pre (Le.refl _),by simp,ab.mono pre (Le.refl _) h⟩
 ·rintro kv H2 hk lk ⟨G',dn,rv,l,sm,rd,rr,ln,hp⟩
  cases rv with
  |cons yv rv=>
   let⟨u,t,e,_⟩:=rr;cases e
  |nil=>
   replace hp:ab T (as++[kS]) G' ((R.ak (dD dn) st).bind λks st=>iA ys ks st) (PV T Q) Z:=hp;let⟨ks,ek,hp⟩:=ab.ak hp;let⟨⟨c1,nd,m,hm,hkm⟩,hp⟩:=ab.iff hp;refine⟨ks,m,ql sm.sub ek rd,hm,hkm,λD p hD pp pr=> ?_⟩;have s2:=sm.set (u:= .lst []) (o:= .lst []) ix ⟨[],ao,rfl⟩;rw[sU] at s2;have ly:ys.length=us.length:=r.length
   have lks:ks.length=ys.length:=by
    rw[oo ek];simpa using ln
   rw[←ly] at pp;have eq:=wD (d:=Val.non) lks nd pp pr
   have rs:ae T (as++[kS]++[D]) G' ((bD (ks.zip ys)).map λz=>z.2) (p.map λi=>us.getD i .non):=by
    rw[eq];exact(oN r λi hi=>abr.mp (pp.mem_iff.mp hi)).mono (pre.trans (aat _ _)) l
   have s3:=s2.push (u:= .lst (p.map λi=>us.getD i .non)) (o:= .lst ((bD (ks.zip ys)).map λz=>z.2)) hD ⟨_,ao,rs⟩;refine hp _ G' _ (aat _ _) (Le.refl _) s3 (.ref D) ⟨D, ?_,rfl⟩;rw[←s2.len,aan (aag _)];simp
theorem Cb {k:Nat} {f:Addr} {ps:List Str} {fn:Str} {e:Expr} {p:Pos} (hK:T.K=X.K) (F:FnOk X.prog X.w X.K X.mg X.base (cU X.prog X.w) k f fd ps (eU T P n fi)) (hr:Room (k+2) X.A) (hb:Binds X.K fd ps []) (hg:Gl X "sorted") (hm:X.mg "sorted"=none)
  (hgf:Gl X fn) (hmf:X.mg fn=some (.ref f)) (he:PE (X.ag (L4.XE X E)) e (tE T P (call P n) E ie)) (hdf:(fn==("__debug__":Str))=false) (hs:notStar e=true):
  PE (X.ag (L4.XE X E)) (.Call (.Name "sorted" p) [e] [⟨some (Str.ofString "key"), .Name fn p2,kpos⟩] pos) (tE T P (call P n) E (.sortK ie fi)):=
 PE.mono (zo (X:=X.ag (L4.XE X E)) F hr hb hg hm hgf hmf (fE he jw (by cases e<;>first|rfl|cases hs)) hdf (by cases e<;>first|rfl|cases hs) (by cases e<;>first|rfl|cases hs)) λσ H Q z903=>by
  let⟨env,st,as,G,s,er,h⟩:=z903;dsimp only[PI.E.run] at h;refine aA s er h λx st1 as1 G1 H1 u s1 er1 r1 p1 l1 h=> ?_;have rt:=aV s1 r1
  cases ex:res st1 x with
  |lst ys=>
   rw[ex] at rt h;let⟨a,us,rfl,hq,rr⟩:=rt;let⟨c,h⟩:=ab.iff h;exact⟨a,us,rfl,hK▸hq,by rw[←rr.length];exact c,CP s1 rr h⟩
  |_=>rw[ex] at h;exact h.elim
end
section
variable {T:CT} {P:Pg} {cl:ar} {E:XS} {X:Cx} {pos:Pos}
def u9 (T:CT) (P:Pg) (c:Nat):Prop:=∀k K',P.cl k=some K'->K'.sup.contains c=true->PySem.W.exmOne T.K (.ref (T.ca k)) (.ref (T.ca c))=some true
theorem vp (hK:T.K=X.K) (hc:X.calm=true):au X (.builtin "min") (jB T .min):=by
 refine au.imp (au.or (wx hc) (wK hc)) λus H Q z903=> ?_;let⟨st,as,G,xs,Z,s,r0,p⟩:=z903
 match xs with
 |[]=>exact p.elim
 |[x]=>
  let⟨u,rfl,r⟩:=eL r0
  cases x with
  |lst xs=>
   let⟨a,us,rfl,h1,h2⟩:=r;let⟨v,e,p⟩:=ab.dy (show ab T as G (R.ak ((eR xs).bind λl=>l.min?.map .int) st) (PV T Q) Z from p);let⟨l,e1,e2⟩:=aap.mp e;let⟨m,e3,rfl⟩:=aab.mp e2;rw[gu e1 h2] at h1;exact .inr ⟨a,l,m,rfl,hK▸h1,e3,p.ok s _ rfl⟩
  |_=>exact p.elim
 |[x,y]=>
  let⟨u,t,rfl,r1,u',t',rfl,r2,r3⟩:=r0;cases r3
  cases x with
  |int i=>cases y with
   |int j=>
    cases r1;cases r2;exact .inl ⟨i,j,rfl,ab.ok p s _ rfl⟩
   |_=>exact p.elim
  |_=>exact p.elim
 |[x,y,z]=>exact p.elim
 |_::_::_::_::_=>exact p.elim
theorem ES {e:Expr} {p:Pos} {kd:Nat} (hK:T.K=X.K) (hc:X.calm=true) (hg:Gl X "min") (hm:X.mg "min"=none) (he:PE X e (tE T P cl E ie)) (hs:notStar e=true):
  PE X (.Call (.Name "min" p) [e] [⟨some (Str.ofString "default"), .Constant .none kd p2,kpos⟩] pos) (tE T P cl E (.bi .minD [ie])):=
 PE.mono (Ct hc hg hm (fE he jw (by cases e<;>first|rfl|cases hs)) (by cases e<;>first|rfl|cases hs) (by cases e<;>first|rfl|cases hs)) λσ H Q z903=>by
  let⟨env,st,as,G,s,er,h⟩:=z903;dsimp only[PI.E.run] at h
  replace h:ab T as G ((ie.run P cl env st).bind λx st=>kJ .minD (res st x) st) (PV T Q) (E σ):=by
   dsimp only[aN] at h;cases e:ie.run P cl env st<;>rw[e] at h<;>exact h
  refine aA s er h λx st1 as1 G1 H1 u s1 er1 r1 p1 l1 h=> ?_;have rt:=aV s1 r1
  cases ex:res st1 x with
  |lst ys=>
   rw[ex] at rt h;let⟨a,us,rfl,hq,rr⟩:=rt;let⟨v,e,p⟩:=ab.dy (show ab T as1 G1 (R.ak ((eR ys).map λl=>(l.min?.map .int).getD .non) st1) (PV T Q) _ from h);let⟨l,e1,rfl⟩:=aab.mp e;rw[gu e1 rr] at hq;refine⟨a,l,rfl,hK▸hq,p.ok s1 _ ?_⟩;unfold p8;cases l.min?<;>rfl
  |_=>rw[ex] at h;exact h.elim
end
structure Md where
 fa:Nat->Addr
 fd:Nat->FuncData
 ps:Nat->List Str
structure MOk (D:Dt) (P:Pg) (T:CT) (M:Md) (mg:Str->Option Value):Prop where
 fn:∀x i,D.gl.lookup x=some (.fn i)->mg x=some (.ref (M.fa i))/\PySem.W.keepIn T.K (.ref (M.fa i))=true/\Binds T.K (M.fd i) (M.ps i) []
 fr:∀x,D.fr.contains x=true->mg x=none
 ty:vk T.K
 cls:COk T P
 cm:∀x c b,D.gl.lookup x=some (.cls c b)->mg x=some (.ref (T.ca c))/\T.xc c=false/\PySem.W.keepIn T.K (.ref (T.ca c))=true/\PySem.W.makesIn T.K (T.ca c)=true/\∃K',P.cl c=some K'/\
  (b=false->K'.init=none/\PySem.W.findIn T.K (.ref (T.ca c)) "__init__"=some (some (.builtin "object.__init__")))/\
  (b=true->∃fi,K'.init=some fi/\PySem.W.findIn T.K (.ref (T.ca c)) "__init__"=some (some (.ref (M.fa fi)))/\PySem.W.isFn T.K (.ref (M.fa fi))=true/\Binds T.K (M.fd fi) (M.ps fi) [])
 er:∀x c,D.gl.lookup x=some (.err c)->mg x=some (.ref (T.ca c))/\T.xc c=true/\PySem.W.excIn T.K (T.ca c) AE "ValueError.__new__"=true/\∃K',P.cl c=some K'/\K'.init=none
 va:∀x v,D.gl.lookup x=some (.val v)->∃u uv,mg x=some uv/\RelV u uv/\∀as G,Rel T as G v u
 mt:∀m (c:Nat) k' fi,P.cl c=some k'->k'.meths.lookup m=some fi->k'.exc=false/\Meth T.K (T.ca c) m (M.fa fi)/\Binds T.K (M.fd fi) (M.ps fi) []
 fx:∀f,D.fx.contains f=true->∀(c:Nat) k,P.cl c=some k->f∈k.flds->k.exc=false
 ex:∀y c,D.is.contains y=true->D.gl.lookup y=some (.err c)->u9 T P c
structure XOk (T:CT) (P':Program) (w:World) (mg:Str->Option Value) (base:Heap) (k:Nat) (g:Gm) (X:Cx):Prop where
 N:X.N=g.N
 nd:g.N.Nodup
 sc:X.env.scope=g.sc
 fn:∀x,g.fn x=true->X.fn x=true
 kd:g.sc.kind= .function
 fm:Framed X
 hx:cM X
 calm:g.cm=true->X.calm=true
 K:T.K=X.K
 prog:X.prog=P'
 w:X.w=w
 mg:X.mg=mg
 base:X.base=base
 room:g.cm=true->Room (k+3) X.A
 un:X.A.units+200<cLine
theorem vS {N:List Str} {x:Str} {i:Nat} (h:N.idxOf? x=some i):N[i]?=some x:=by
 rw[List.idxOf?,List.findIdx?_eq_some_iff_getElem] at h;let⟨l,e,_⟩:=h;rw[aac l];exact congrArg some (by simpa using e)
section
variable {T:CT} {P:Pg} {D:Dt} {M:Md} {P':Program} {w:World} {mg:Str->Option Value} {base:Heap} {k:Nat} {g:Gm} {X:Cx}
theorem XOk.ix (h:XOk T P' w mg base k g X) {x:Str} {i:Nat} (e:g.ix x=some i):X.N[i]?=some x/\xN X.env.scope x/\(x==("__debug__":Str))=false/\(x==("__classdict__":Str))=false:=by
 unfold Gm.ix at e;split at e
 ·cases e
 ·rename_i z;rw[abB,not_or] at z;let⟨j,e1,e2⟩:=aap.mp e;split at e2
  ·rename_i v;cases e2;refine⟨h.N▸vS e1, ?_,by simpa using z.1,by simpa using z.2⟩;unfold Fq at v;rw[h.sc];simp only[abB,abH] at v;exact or_assoc.mp v
  ·cases e2
theorem XOk.lx (h:XOk T P' w mg base k g X) {x:Str} {i:Nat} (e:g.lx x=some i):X.N[i]?=some x/\Loc X.env.scope x/\(X.fn x=true∨X.env.scope.names.lookup x=some .local):=by
 unfold Gm.lx at e;let⟨j,e1,e2⟩:=aap.mp e;split at e2
 ·rename_i v;cases e2;rw[aah] at v;refine⟨h.N▸vS e1, ?_, ?_⟩
  ·have:=v.1;unfold uZ at this;rw[h.sc];simp only[abB,abH] at this;exact this
  ·have:=v.2;rw[abB] at this;refine this.imp (h.fn x) λq=> ?_;rw[h.sc];simpa using q
 ·cases e2
theorem XOk.gb (h:XOk T P' w mg base k g X) {x:Str} (e:g.gb x=true):Gl X x/\(x==("__debug__":Str))=false/\x≠"__name__":=by
 unfold Gm.gb at e;rw[aah,aah] at e;refine⟨?_,by simpa using e.1.2,by simpa using e.2⟩;show X.env.scope.names.lookup x=some .globalImplicit;rw[h.sc];simpa[Gm.gl] using e.1.1
theorem pJ {x:Str} {v:Gv} (e:g.gv D x=some v):g.gb x=true/\D.gl.lookup x=some v:=by
 unfold Gm.gv at e;split at e
 ·rename_i z;exact⟨z,e⟩
 ·cases e
end
theorem bh {e:Expr} {es:List Expr} {env:PySem.Env} (h:notStar e=true):starEach (e::es) env=(false,eval e env)::starEach es env:=by
 cases e<;>first|rfl|cases h
theorem eM {env:PySem.Env}:∀{es:List Expr},es.all notStar=true->(backTo pos (starEach es env)).any (·.1)=false
 |[],_=>rfl
 |e::es,h=>by
  rw[aaR,aah] at h;rw[bh h.1];show (false||(backTo pos (starEach es env)).any (·.1))=false;rw[eM h.2];rfl
theorem zh {b:Expr} (h:eK b=true):nr b:=by
 intro o i
 cases b<;>first|rfl|cases h
theorem rl {e:Expr} {env:PySem.Env} (h:et e=true):∀x,foldedSetIterable e env x=pure x:=by
 intro x
 cases e<;>first|rfl|cases h
theorem sO {op:CmpOp} {b:Expr} (h:et b=true):behindInMarks op b=false:=by
 cases b<;>first|rfl|cases h
theorem sS {e:Expr} {t:Option Expr} {line:Nat} {env:PySem.Env} (h:dQ e=true):swapsWith e t line env=pure false:=by
 cases e<;>first|rfl|cases h
theorem hU {f:Str} {env:PySem.Env} {whole:Sem Value} (h:ja o=true):attributeBase o f env whole=whole:=by
 cases o<;>first|rfl|skip
 rename_i fn as ks pos
 cases fn<;>first|rfl|skip
 cases as<;>first|rfl|skip
 cases ks<;>first|rfl|cases h
theorem fH {α β:Type} {f:α->Option β} {a:α} {r:List α} {l:List β} (h:cL f (a::r)=some l):∃b t,f a=some b/\cL f r=some t/\l=b::t:=by
 unfold cL at h;let⟨b,e1,e2⟩:=aap.mp h;let⟨t,e3,e4⟩:=aab.mp e2;exact⟨b,t,e1,e3,e4.symm⟩
theorem eq2 {α β γ:Type} {x:Option α} {y:α->Option β} {f:α->β->γ} {c:γ} (h:(x.bind λa=>(y a).map λb=>f a b)=some c):∃a b,x=some a/\y a=some b/\c=f a b:=by
 let⟨a,e1,e2⟩:=aap.mp h;let⟨b,e3,e4⟩:=aab.mp e2;exact⟨a,b,e1,e3,e4.symm⟩
theorem eq3 {α β γ δ:Type} {x:Option α} {y:α->Option β} {z:α->β->Option γ} {f:α->β->γ->δ} {c:δ} (h:(x.bind λa=>(y a).bind λb=>(z a b).map λd=>f a b d)=some c):∃a b d,x=some a/\y a=some b/\z a b=some d/\c=f a b d:=by
 let⟨a,e1,e2⟩:=aap.mp h;let⟨b,d,e3,e4,e5⟩:=eq2 e2;exact⟨a,b,d,e1,e3,e4,e5⟩
theorem bZ {α:Type} {b:Bool} {x:Option α} {c:α} (h:(if b=true then x else none)=some c):b=true/\x=some c:=by
 split at h
 ·rename_i z;exact⟨z,h⟩
 ·cases h
theorem bS {α:Type} {a:α} {p:Prop} (h:none=some a):p:=nomatch h
theorem kY:∀{l:List Str},js l=true->l.Nodup
 |[],_=>aco
 |x::r,h=>by
  unfold js at h;rw[aah] at h;rw[abk];refine⟨?_,kY h.2⟩;have:=h.1;simpa using this
theorem wN {S:Scope} (h:zd S sc=true):BlockOkC S sc:=by
 unfold zd at h;simp only[aah,abo,abB,Bool.not_eq_true',abH,beq_eq_false_iff_ne] at h;let⟨⟨⟨h1,h2⟩,h3⟩,h4⟩:=h;refine⟨h1,λy hy e=>(h2 y hy).elim (λz=>absurd e z) id,λy hy e=> ?_,λy hy e=>(h4 y hy).elim (λz=>absurd e z) id⟩
 rcases h3 y hy with (z|z)|z
 ·exact absurd e z
 ·exact .inl z
 ·exact .inr z
section
variable {T:CT} {P:Pg} {D:Dt} {M:Md} {P':Program} {w:World} {mg:Str->Option Value} {base:Heap} {k:Nat} {g:Gm} {X:Cx}
theorem XOk.block (h:XOk T P' w mg base k g X) {sc:Scope} (e:g.block sc=some g'):X.calm=true/\BlockOkC X.env.scope sc/\(∀j∈gZ g.N sc,sc.names.lookup (X.N.getD j Str.empty)=some .free)/\
  ∀own C fp pn s H,(∀b∈fp,∃o,(b,o)∈pn)->XOk T P' w mg base k g' (cv X own (qB sc) (gZ g.N sc) sc C fp pn s H):=by
 unfold Gm.block at e;simp only at e;split at e
 ·rename_i z;simp only[aah] at z;let⟨⟨⟨z1,z2⟩,z3⟩,z4⟩:=z;cases e;refine⟨h.calm z4,h.sc▸wN z1,λj hj=> ?_,λown C fp pn s H hh=>⟨?_,kY z2, ?_,λx q=>q, ?_,h.fm,hh,λ_=>h.calm z4,h.K,h.prog,h.w,h.mg,h.base,λ_=>h.room z4,h.un⟩⟩
  ·rw[h.N];simpa using (abo.mp z3) j hj
  ·show qB sc++(gZ g.N sc).map (λi=>X.N.getD i Str.empty)=_;rw[h.N]
  ·show relabel sc X.env=AF g.sc sc;rw[←h.sc];rfl
  ·exact(wN z1).kind
 ·cases e
end
section
variable {T:CT} {X:Cx}
theorem Hf (hK:T.K=X.K) {op:Operator} (h:yZ op=true):aD X (binaryOp op) (cx T (eJ op)):=by
 cases op<;>first|(cases h;done)|exact Cs hK|exact A9|exact Cd|exact Ca|exact CC|exact Cf
theorem AD (hK:T.K=X.K) (hu:X.A.units+9<cLine) {op:CmpOp}:aD X (compareOp op) (cx T λx y st=>cP (bw op x y st)):=by
 have hu8:X.A.units+8<cLine:=by lia
 cases op
 ·exact Er hK hu8
 ·exact Ei hK hu8
 ·exact Dv
 ·exact E7
 ·exact Ec
 ·exact CM
 ·exact Fy
 ·exact vG
 ·exact E0 hK hu
 ·exact vH hK hu
theorem GU (hK:T.K=X.K) (hc:X.calm=true) {x:Str} {b:Bi} (h:yW x=some b):(∃id,bootBuiltins x=some (.builtin id)/\au X (.builtin id) (jB T b))∨∃id,bootBuiltins x=some (.type id)/\au X (.type id) (jB T b):=by
 unfold yW at h;split at h
 ·rename_i z;subst z;cases h;exact .inl ⟨"len",PySem.boot_len,xf hK⟩
 split at h
 ·rename_i z;subst z;cases h;exact .inr ⟨"int",PyProof.Rows.Boot.«int»,wB⟩
 split at h
 ·rename_i z;subst z;cases h;exact .inr ⟨"tuple",PyProof.Rows.boot_tuple,rY hK⟩
 split at h
 ·rename_i z;subst z;cases h;exact .inr ⟨"list",PyProof.Rows.Boot.«list»,uB hK⟩
 split at h
 ·rename_i z;subst z;cases h;exact .inl ⟨"all",PyProof.Rows.Boot.«all»,vx hK hc⟩
 split at h
 ·rename_i z;subst z;cases h;exact .inl ⟨"any",PyProof.Rows.Boot.«any»,vP hK hc⟩
 split at h
 ·rename_i z;subst z;cases h;exact .inl ⟨"min",PyProof.Rows.Boot.«min»,vp hK hc⟩
 cases h
end
def fJ (T:CT) (P:Pg) (m:Nat) (X:Cx) (e:Expr) (ie:PI.E):Prop:=∀E:XS,PE (X.ag (L4.XE X E)) e (tE T P (call P m) E ie)/\(dC e=true->PT (X.ag (L4.XE X E)) e (tT T P (call P m) E ie))
section
variable {T:CT} {P:Pg} {D:Dt} {M:Md} {P':Program} {w:World} {mg:Str->Option Value} {base:Heap} {k m:Nat} {g:Gm} {X:Cx}
theorem bg {e:Expr} (O:XOk T P' w mg base k g X) (h:∀E:XS,PE (X.ag (L4.XE X E)) e (tE T P (call P m) E ie)) (he:∀whole,isTrue e X.env whole=(do let v←whole;standAt e.pos;holding [v] (truthy v))):fJ T P m X e ie:=λE=>⟨h E,λ_=>GZ (X:=X.ag (L4.XE X E)) O.K (h E) he⟩
theorem i0 {f:Expr->Option PI.E} (ih:∀e ie,f e=some ie->fJ T P m X e ie) (E:XS):∀{es:List Expr} {ies:List PI.E},es.all notStar=true->cL f es=some ies->PA (X.ag (L4.XE X E)) es (fe T P (call P m) E ies)
 |[],_,_,h=>by
  cases h;exact uV
 |e::es,ies,hs,h=>by
  rw[aaR,aah] at hs;let⟨b,t,e1,e2,rfl⟩:=fH h;exact mm (ih e b e1 E).1 (i0 ih E hs.2 e2) (bh hs.1)
theorem kP {f:Expr->Option PI.E} (ih:∀e ie,f e=some ie->fJ T P m X e ie) {op:BoolOp} (E:XS):∀{vs:List Expr} {ie:PI.E},vs.all dC=true->cBool op f vs=some ie->
  PE (X.ag (L4.XE X E)) (.BoolOp op vs pos) (tE T P (call P m) E ie)/\PW (X.ag (L4.XE X E)) (.BoolOp op vs pos) (tT T P (call P m) E ie)
 |[],_,_,h=>by cases h
 |[a],ie,hn,h=>by
  rw[aaR,aah] at hn;have q:=ih a ie h E;refine⟨Fp q.1, ?_⟩;cases op
  ·exact A7 (q.2 hn.1)
  ·exact EH (q.2 hn.1)
 |a::b::r,ie,hn,h=>by
  rw[aaR,aah] at hn;replace h:((f a).bind λx=>(cBool op f (b::r)).map λy=>bop op x y)=some ie:=h;let⟨x,y,e1,e2,rfl⟩:=eq2 h;have q:=ih a x e1 E;have z:=kP ih (op:=op) (pos:=pos) E hn.2 e2;cases op
  ·exact⟨Hn q.1 z.1,Ga (q.2 hn.1) z.2⟩
  ·exact⟨IZ q.1 z.1,Jh (q.2 hn.1) z.2⟩
theorem yd (MO:MOk D P T M mg) (hc:∀i,FnOk P' w T.K mg base (cU P' w) k (M.fa i) (M.fd i) (M.ps i) (eU T P m i)) (O:XOk T P' w mg base k g X) {f:Expr->Option PI.E} (ih:∀e ie,f e=some ie->fJ T P m X e ie)
  {x:Str} {p:Pos} {es:List Expr} {ie:PI.E} (zc:g.cm=true) (h:pQ D g x es f=some ie) (E:XS):PE (X.ag (L4.XE X E)) (.Call (.Name x p) es [] pos) (tE T P (call P m) E ie):=by
 unfold pQ at h;split at h
 ·rename_i i z;let⟨a1,h⟩:=bZ h;let⟨ies,e1,rfl⟩:=aab.mp h;let⟨z1,z2⟩:=pJ z;let⟨g1,g2,g3⟩:=O.gb z1;let⟨f1,f2,f3⟩:=MO.fn x i z2;have F:=hc i;rw[←O.prog,←O.w,←O.mg,←O.base,O.K] at F;have A:=i0 ih E a1 e1
  cases es with
  |nil=>
   cases e1;exact Bc F ((O.room zc).mono (by lia)) (O.K▸f3) O.hx g1 (O.mg▸f1) (O.K▸f2) g2
  |cons e es=>
   rw[aaR,aah] at a1;exact s_call F ((O.room zc).mono (by lia)) (O.K▸f3) O.hx g1 (O.mg▸f1) (O.K▸f2) A g2 (bh a1.1) (eM a1.2)
 ·rename_i c ini z;let⟨a1,h⟩:=bZ h;let⟨ies,e1,rfl⟩:=aab.mp h;rw[aah,abH] at a1;let⟨z1,z2⟩:=pJ z;let⟨g1,g2,g3⟩:=O.gb z1;let⟨m1,m2,m3,m4,K',m5,m6,m7⟩:=MO.cm x c ini z2;have A:=i0 ih E a1.1 e1
  cases es with
  |nil=>
   cases e1;let⟨i1,i2⟩:=m6 (by rw[a1.2];rfl);exact Bq (X:=X.ag (L4.XE X E)) m5 i1 rfl m2 (O.K▸m4) (O.K▸i2) (O.K▸m3) g1 (by show X.mg x=_;rw[O.mg];exact m1) g2
  |cons e es=>
   let⟨fi,i1,i2,i3,i4⟩:=m7 (by rw[a1.2];rfl);have a2:=a1.1;rw[aaR,aah] at a2;have F:=hc fi;rw[←O.prog,←O.w,←O.mg,←O.base,O.K] at F;exact EZ m5 i1 rfl m2 ⟨O.K▸m4,O.K▸i2,O.K▸i3,O.K▸m3⟩ F ((O.room zc).mono (by lia)) (O.K▸i4) O.hx g1 (by rw[O.mg];exact m1) A g2 (bh a2.1) (eM a2.2)
 ·cases h
 ·cases h
 ·rename_i z;let⟨a1,h⟩:=bZ h;let⟨b,ies,e1,e2,rfl⟩:=eq2 h;simp only[aah] at a1;let⟨⟨⟨⟨c1,c2⟩,c3⟩,c4⟩,c5⟩:=a1;let⟨g1,g2,g3⟩:=O.gb c1;have mn:=MO.fr x c2;have A:=i0 ih E c3 e2
  cases es with
  |nil=>cases c4
  |cons e es=>
   rw[aaR,aah] at c3
   rcases GU (X:=X.ag (L4.XE X E)) O.K (O.calm c5) e1 with⟨id,b1,b2⟩|⟨id,b1,b2⟩
   ·exact GW b2 g1 (by show X.mg x=none;rw[O.mg];exact mn) b1 A g3 g2 (bh c3.1) (eM c3.2)
   ·exact Hr b2 g1 (by show X.mg x=none;rw[O.mg];exact mn) b1 A g3 g2 (bh c3.1) (eM c3.2)
theorem pE (O:XOk T P' w mg base k g X):∀(n:Nat) (e:Expr) (t:PI.T) (E:XS),ku g n e=some t->PG (X.ag (L4.XE X E)) e (tG T t):=by
 intro n
 induction n with
 |zero=>intro e t E h;cases h
 |succ n ih=>
  intro e t E h
  cases e<;>first|exact bS h|skip
  ·rename_i x pos;let⟨i,e1,rfl⟩:=aab.mp (show (g.lx x).map PI.T.var=some t from h);let⟨h1,h2,h3⟩:=O.lx e1;exact Hs (X:=X.ag (L4.XE X E)) (by show X.N.Nodup;rw[O.N];exact O.nd) h1 h2 h3
  ·rename_i es k' pos;let⟨a0,h⟩:=bZ (show (if (es.all notStar&&g.cm)=true then (cL (ku g n) es).map PI.T.tup else none)=some t from h);rw[aah] at a0;let⟨a1,a2⟩:=a0;let⟨ts,e1,rfl⟩:=aab.mp h
   have all:∀{es:List Expr} {ts:List PI.T},es.all notStar=true->cL (ku g n) es=some ts->gw (X.ag (L4.XE X E)) es (wt T ts)/\(assignEach es X.env).length=ts.length/\(assignEach es X.env).findIdx? (·.1)=none:=by
    intro es
    induction es with
    |nil=>
     intro ts _ h;cases h;exact⟨Fi,rfl,rfl⟩
    |cons e es ihs=>
     intro ts hs h;rw[aaR,aah] at hs;let⟨b,r,e1,e2,rfl⟩:=fH h;let⟨q1,q2,q3⟩:=ihs hs.2 e2
     have z:assignEach (e::es) X.env=(false,assign e X.env)::assignEach es X.env:=by
      have:=hs.1
      cases e<;>first|rfl|cases this
     refine⟨Cv (ih e b E e1) q1 (by show (assignEach (e::es) X.env).map (·.2)=_;rw[z];rfl),by rw[z];simp[q2], ?_⟩;rw[z,List.findIdx?_cons];simp[q3]
   let⟨q1,q2,q3⟩:=all a1 e1;exact Hw (X:=X.ag (L4.XE X E)) O.K (O.calm a2) q1 rfl q2 q3
theorem p9 {env:PySem.Env}:∀{es:List Expr},es.all notStar=true->(backTo pos (starEach es env)).all (λx=> !x.1)=true
 |[],_=>rfl
 |e::es,h=>by
  rw[aaR,aah] at h;rw[bh h.1];show (!false&&(backTo pos (starEach es env)).all (λx=> !x.1))=true;rw[p9 h.2];rfl
theorem qj {env:PySem.Env} {es:List Expr} (h:es.all notStar=true) (hl:es.length<30):((backTo pos (starEach es env)).all (λx=> !x.1)&&(backToKw pos (keywordEach [] env)).all (λx=>x.1.isSome)&&decide (es.length+([]:List Keyword).length+(if ([]:List Keyword).isEmpty then 0 else 1)<30))=true:=by
 rw[p9 h];show (true&&true&&decide (es.length+0+0<30))=true;rw[abh (by lia)];rfl
theorem lV {α β:Type} {f:α->Option β}:∀{l:List α} {r:List β},cL f l=some r->r.length=l.length
 |[],_,h=>by cases h;rfl
 |a::l,r,h=>by
  let⟨b,t,_,e2,rfl⟩:=fH h;rw[aar,lV e2,aar]
theorem Gh (hK:T.K=X.K) {m:Str} {n:Nat} {b:Bm} (h:yh m n=some b):∃id,bP b=false/\Slot "list" m id/\typeOf (.builtin id)=pure (.type "method_descriptor")/\o8 X id (su T b):=by
 unfold yh at h;split at h
 ·rename_i z;subst z;split at h<;>cases h;exact⟨"list.append",rfl,PySem.F.slot_list_append,PySem.F.type_list_append,yk⟩
 split at h
 ·rename_i z;subst z;split at h<;>cases h;exact⟨"list.extend",rfl,PySem.F.slot_list_extend,PySem.F.type_list_extend,zE⟩
 split at h
 ·rename_i z;subst z;split at h<;>cases h;exact⟨"list.reverse",rfl,PySem.F.slot_list_reverse,PySem.F.type_list_reverse,wU⟩
 cases h
theorem zU (MO:MOk D P T M mg) (hc:∀i,FnOk P' w T.K mg base (cU P' w) k (M.fa i) (M.fd i) (M.ps i) (eU T P m i)) (O:XOk T P' w mg base k g X) {f:Expr->Option PI.E} (ih:∀e ie,f e=some ie->fJ T P m X e ie)
  {x:Str} {es:List Expr} {ie:PI.E} (hz:(g.cm||jA x)=true) (h:pH x ap pos o es f=some ie) (E:XS):PE (X.ag (L4.XE X E)) (.Call (.Attribute o x ap) es [] pos) (tE T P (call P m) E ie):=by
 unfold pH at h;let⟨c,h⟩:=bZ h;simp only[aah,decide_eq_true_eq] at c;let⟨⟨⟨c1,c2⟩,c3⟩,c4⟩:=c;let⟨io,e1,h⟩:=aap.mp h;let⟨ies,e2,h⟩:=aap.mp h;have ho:=(ih o io e1 E).1;have A:=i0 ih E c2 e2
 have hu:X.A.units+1<cLine:=by have:=O.un;lia
 have tr:∀{e:Expr},notStar e=true->backTo pos (starEach [e] X.env)=[(false,eval e X.env)]:=λ{e} he=>by
  rw[bh he];rfl
 by_cases zb:jA x=true
 ·rw[if_pos zb] at h
  by_cases zg:x="get"
  ·subst zg;rw[if_pos rfl] at h
   match ies,h with
   |[k1],h=>
    cases h
    match es,e2,c2,c4 with
    |[e],e2,c2,c4=>
     let⟨b,t,e3,_,e5⟩:=fH e2;cases e5;have c2':=c2;rw[aaR,aah] at c2';exact EE (X:=X.ag (L4.XE X E)) hu ho (ih e k1 e3 E).1 ⟨hU c1,qj c2 c4,c3,tr c2'.1⟩
    |[],e2,_,_=>cases e2
    |_::_::_,e2,_,_=>have:=lV e2;simp at this
   |[k1,k2],h=>
    cases h
    match es,e2,c2,c4 with
    |[e,e'],e2,c2,c4=>
     let⟨b,t,e3,e4,e5⟩:=fH e2;cases e5;let⟨b,t,e6,_,e7⟩:=fH e4;cases e7;have c2':=c2;rw[aaR,aaR,aah,aah] at c2';refine ET (X:=X.ag (L4.XE X E)) hu ho (ih e k1 e3 E).1 (ih e' k2 e6 E).1 ⟨hU c1,qj c2 c4,c3, ?_⟩;show backTo pos (starEach [e,e'] X.env)=_;rw[bh c2'.1,bh c2'.2.1];rfl
    |[],e2,_,_=>cases e2
    |[_],e2,_,_=>have:=lV e2;simp at this
    |_::_::_::_,e2,_,_=>have:=lV e2;simp at this
   |[],h=>exact bS h
   |_::_::_::_,h=>exact bS h
  ·rw[if_neg zg] at h;let⟨b,e3,rfl⟩:=aab.mp h;let⟨id,b1,b2,b3,b4⟩:=Gh (X:=X.ag (L4.XE X E)) O.K e3
   cases es with
   |nil=>
    cases e2;exact FN (X:=X.ag (L4.XE X E)) b1 O.K b2 b3 b4 ho (hU c1) c3
   |cons e es=>
    have c2':=c2;rw[aaR,aah] at c2';exact IQ (X:=X.ag (L4.XE X E)) b1 O.K b2 b3 b4 ho A (hU c1) (qj c2 c4) c3 (bh c2'.1) (eM c2'.2)
 ·rw[if_neg zb] at h;cases h
end
section
variable {T:CT} {P:Pg} {D:Dt} {M:Md} {P':Program} {w:World} {mg:Str->Option Value} {base:Heap} {k m:Nat}
theorem CQ (MO:MOk D P T M mg) {g:Gm} {X:Cx} (O:XOk T P' w mg base k g X) {f:Expr->Option PI.E} (ih:∀e ie,f e=some ie->fJ T P m X e ie) {x:Str} {p:Pos} {es:List Expr} {ie:PI.E} (zx:lG x=true) (h:As D g x f es=some ie) (E:XS):
  PE (X.ag (L4.XE X E)) (.Call (.Name x p) es [] pos) (tE T P (call P m) E ie):=by
 unfold As at h;split at h
 ·rename_i a y p2;let⟨c,h⟩:=bZ h;simp only[aah] at c;let⟨⟨⟨⟨c1,c2⟩,c3⟩,c4⟩,c5⟩:=c;let⟨ty,ia,e1,e2,rfl⟩:=eq2 h;exact Ft (X:=X.ag (L4.XE X E)) O.K (O.K▸MO.ty) (by simpa[lG] using zx) e1 (ih a ia e2 E).1 (O.gb c2).1 (by show X.mg x=none;rw[O.mg];exact MO.fr x c3) (O.gb c4).1 (by show X.mg y=none;rw[O.mg];exact MO.fr y c5) c1
 ·cases h
theorem z6 (MO:MOk D P T M mg) (hc:∀i,FnOk P' w T.K mg base (cU P' w) k (M.fa i) (M.fd i) (M.ps i) (eU T P m i)) {g:Gm} {X:Cx} (O:XOk T P' w mg base k g X) {f:Expr->Option PI.E} (ih:∀e ie,f e=some ie->fJ T P m X e ie) {x:Str} {p:Pos} {es:List Expr} {ks:List Keyword} {ie:PI.E} (h:uJ D g x f es ks=some ie) (E:XS):
  PE (X.ag (L4.XE X E)) (.Call (.Name x p) es ks pos) (tE T P (call P m) E ie):=by
 unfold uJ at h;split at h
 ·rename_i a kn y p2 kpos;let⟨c,h9⟩:=bZ h;clear h;simp only[aah] at c;let⟨⟨⟨⟨⟨c1,c2⟩,c3⟩,c4⟩,c5⟩,c6⟩:=c
  have ex:x="sorted":=by simpa[isSort] using c1
  have ek:kn="key":=by simpa using c2
  subst ex ek
  cases z:g.gv D y with
  |none=>rw[z] at h9;cases h9
  |some v=>
   rw[z] at h9
   cases v with
   |fn i=>
    let⟨ia,e1,rfl⟩:=aab.mp (show (f a).map (λa=>PI.E.sortK a i)=some ie from h9);let⟨z1,z2⟩:=pJ z;let⟨g1,g2,g3⟩:=O.gb z1;let⟨f1,f2,f3⟩:=MO.fn y i z2;have F:=hc i;rw[←O.prog,←O.w,←O.mg,←O.base,O.K] at F;exact Cb O.K F ((O.room c6).mono (by lia)) (O.K▸f3) (O.gb c4).1 (by rw[O.mg];exact MO.fr _ c5) g1 (O.mg▸f1) (ih a ia e1 E).1 g2 c3
   |cls _ _=>cases h9
   |err _=>cases h9
   |val _=>cases h9
 ·cases h
theorem yM (MO:MOk D P T M mg) (hc:∀i,FnOk P' w T.K mg base (cU P' w) k (M.fa i) (M.fd i) (M.ps i) (eU T P m i)) {g:Gm} {X:Cx} (O:XOk T P' w mg base k g X) {f:Expr->Option PI.E} (ih:∀e ie,f e=some ie->fJ T P m X e ie) {x:Str} {p:Pos} {es:List Expr} {ks:List Keyword} {ie:PI.E} (h:u4 D g x f es ks=some ie) (E:XS):
  PE (X.ag (L4.XE X E)) (.Call (.Name x p) es ks pos) (tE T P (call P m) E ie):=by
 unfold u4 at h;split at h
 ·rename_i a kn kd p2 kpos;let⟨c,h9⟩:=bZ h;clear h;simp only[aah] at c;let⟨⟨⟨⟨⟨c1,c2⟩,c3⟩,c4⟩,c5⟩,c6⟩:=c
  have ex:x="min":=by simpa using c1
  have ek:kn="default":=by simpa using c2
  subst ex ek;let⟨ia,e1,rfl⟩:=aab.mp h9;exact ES O.K (O.calm c6) (O.gb c4).1 (by rw[O.mg];exact MO.fr _ c5) (ih a ia e1 E).1 c3
 ·exact z6 MO hc O ih h E
theorem lQ {g:Gm} {n:Nat} {gens:List Comprehension} (h:cE D (n+1) g (.ListComp elt gens sc pos)=some ie):∃tg iter ifs g' q t c ee,gens=[⟨tg,iter,ifs,0⟩]/\et iter=true/\g.block sc=some g'/\cQ D n g iter=some q/\s8 q tg=true/\ku g' n tg=some t/\cE D n g' elt=some ee/\
  zP (cE D n g') ifs=some c/\ie= .comp (qB sc).length (gZ g.N sc) t q c ee:=by
 let⟨c,o,h⟩:=aap.mp (show ((rU gens).bind λc=>_)=some ie from h)
 obtain rfl:gens=[c]:=by
  unfold rU at o;split at o<;>cases o;rfl
 let⟨tg,iter,ifs,as⟩:=c;let⟨z,h⟩:=bZ (show (if (as==0&&et iter)=true then _ else none)=some ie from h);rw[aah,abH] at z;let⟨rfl,z⟩:=z;let⟨g',b1,h⟩:=aap.mp h;let⟨q,b2,h⟩:=aap.mp h;let⟨t,b3,h⟩:=aap.mp h;let⟨b0,b3⟩:=bZ b3;let⟨ee,b4,h⟩:=aap.mp h;let⟨c,b5,rfl⟩:=aab.mp h;exact⟨tg,iter,ifs,g',q,t,c,ee,rfl,z,b1,b2,b0,b3,b4,b5,rfl⟩
theorem tm {X:Cx} {f:Expr->Option PI.E} (ih:∀e ie,f e=some ie->fJ T P m X e ie) {c:Option PI.E} (h:zP f ifs=some c) (E:XS):kI (X.ag (L4.XE X E)) ifs (tO T P (call P m) E c):=by
 cases ifs with
 |nil=>
  cases h;exact EK
 |cons f' r=>cases r with
  |cons _ _=>exact bS h
  |nil=>
   let⟨c1,b6⟩:=bZ (show (if dC f'=true then (f f').map some else none)=some c from h);let⟨x,e1,rfl⟩:=aab.mp b6;exact Fc ((ih f' x e1 E).2 c1)
theorem zY {g:Gm} {X:Cx} (O:XOk T P' w mg base k g X) {n:Nat} (ihE:∀(g:Gm) (X:Cx) (e:Expr) (ie:PI.E),XOk T P' w mg base k g X->cE D n g e=some ie->fJ T P m X e ie)
  (ihQ:∀(g:Gm) (X:Cx) (e:Expr) (q:PI.Q),XOk T P' w mg base k g X->cQ D n g e=some q->∀(E:XS) (tg:Expr),s8 q tg=true->L2.PI (X.ag (L4.XE X E)) tg e (tQ T P (call P m) E q))
  {gens:List Comprehension} (h:cE D (n+1) g (.ListComp elt gens sc pos)=some ie) (E:XS):PE (X.ag (L4.XE X E)) (.ListComp elt gens sc pos) (tE T P (call P m) E ie):=by
 let⟨tg,iter,ifs,g',q,t,c,ee,rfl,z,b1,b2,b0,b3,b4,b5,rfl⟩:=lQ h;let⟨k0,k1,k2,k3⟩:=O.block b1;exact Dn O.fm O.hx k1 k0 k2 (ihQ g X iter q O b2 E tg b0) (λσ own C fp pn s H hh=>pE (k3 own C fp pn s H hh) n tg t _ b3) (λσ own C fp pn s H hh=>tm (λe ie=>ihE g' _ e ie (k3 own C fp pn s H hh)) b5 _) (λσ own C fp pn s H hh=>(ihE g' _ elt ee (k3 own C fp pn s H hh) b4 _).1) (rl z)
theorem An (MO:MOk D P T M mg) (hc:∀i,FnOk P' w T.K mg base (cU P' w) k (M.fa i) (M.fd i) (M.ps i) (eU T P m i)):∀n:Nat,
  (∀(g:Gm) (X:Cx) (e:Expr) (ie:PI.E),XOk T P' w mg base k g X->cE D n g e=some ie->fJ T P m X e ie)/\
  (∀(g:Gm) (X:Cx) (e:Expr) (q:PI.Q),XOk T P' w mg base k g X->cQ D n g e=some q->∀(E:XS) (tg:Expr),s8 q tg=true->L2.PI (X.ag (L4.XE X E)) tg e (tQ T P (call P m) E q)):=by
 intro n
 induction n with
 |zero=>exact⟨λg X e ie _ h=>(by cases h),λg X e q _ h=>(by cases h)⟩
 |succ n' ih=>
  let⟨ihE,ihQ⟩:=ih
  have stepE:∀(g:Gm) (X:Cx) (e:Expr) (ie:PI.E),XOk T P' w mg base k g X->cE D (n'+1) g e=some ie->fJ T P m X e ie:=by
   intro g X e ie O h;have ihs:∀e ie,cE D n' g e=some ie->fJ T P m X e ie:=λe ie q=>ihE g X e ie O q
   cases e with
   |Constant c j pos=>
    cases c<;>first|exact bS h|skip
    ·cases h;exact bg O (λE=>GP) λ_=>rfl
    ·cases h;exact bg O (λE=>IX) λ_=>rfl
    ·cases h;exact bg O (λE=>FU) λ_=>rfl
    ·cases h;exact bg O (λE=>Hx) λ_=>rfl
   |Name x pos=>
    replace h:(match g.ix x with|some i=>some (PI.E.var i)|none=>Ah D g x)=some ie:=h
    cases e1:g.ix x with
    |some i=>
     rw[e1] at h;cases h;let⟨h1,h2,h3,h4⟩:=O.ix e1;exact bg O (λE=>FV (X:=X.ag (L4.XE X E)) h1 h2 h3 h4) λ_=>rfl
    |none=>
     rw[e1] at h;replace h:Ah D g x=some ie:=h;unfold Ah at h;split at h
     ·rename_i v z;cases h;let⟨z1,z2⟩:=pJ z;let⟨g1,g2,g3⟩:=O.gb z1;let⟨u,uv,m1,m2,m3⟩:=MO.va x v z2;exact bg O (λE=>D7 (X:=X.ag (L4.XE X E)) g1 (by show X.mg x=_;rw[O.mg];exact m1) m2 m3 g2) λ_=>rfl
     ·cases h
   |Dict ks vs pos=>
    cases ks with
    |cons _ _=>exact bS h
    |nil=>cases vs with
     |cons _ _=>exact bS h
     |nil=>
      cases h;exact bg O (λE=>Fz) λ_=>rfl
   |BinOp a op b pos=>
    let⟨z,h⟩:=bZ (show (if yZ op=true then (cE D n' g a).bind λa=>(cE D n' g b).map λb=>PI.E.bin op a b else none)=some ie from h);let⟨x,y,e1,e2,rfl⟩:=eq2 h;exact bg O (λE=>JN (Hf (X:=X.ag (L4.XE X E)) O.K z) (ihs a x e1 E).1 (ihs b y e2 E).1) λ_=>rfl
   |UnaryOp op a pos=>
    let⟨z,h⟩:=bZ (show (if dC a=true then (cE D n' g a).bind λa=>cUn op a else none)=some ie from h);let⟨x,e1,e2⟩:=aap.mp h
    cases op<;>first|(cases e2;done)|skip
    cases e2;exact λE=>⟨Ho (ihs a x e1 E).1,λ_=>GA ((ihs a x e1 E).2 z)⟩
   |BoolOp op vs pos=>
    let⟨z,h⟩:=bZ (show (if vs.all dC=true then cBool op (cE D n' g) vs else none)=some ie from h);exact λE=>⟨(kP ihs E z h).1,λ_=>(kP ihs E z h).2.pt⟩
   |Compare a ops bs pos=>
    have hu:X.A.units+9<cLine:=by have:=O.un;lia
    match ops,bs,h with
    |[op],[b],h=>
     let⟨z,h⟩:=bZ (show (if et b=true then (cE D n' g a).bind λa=>(cE D n' g b).map λb=>PI.E.cmp op a b else none)=some ie from h);let⟨x,y,e1,e2,rfl⟩:=eq2 h;exact λE=>⟨Ko (AD (X:=X.ag (L4.XE X E)) O.K hu) (sO z) (ihs a x e1 E).1 (ihs b y e2 E).1,λ_=>Gg (AD (X:=X.ag (L4.XE X E)) O.K hu) (sO z) (ihs a x e1 E).1 (ihs b y e2 E).1⟩
    |[_,_],[_,_],h=>exact bS h
    |[],_,h=>exact bS h
    |[_],[],h=>exact bS h
    |[_],_::_::_,h=>exact bS h
    |[_,_],[],h=>exact bS h
    |[_,_],[_],h=>exact bS h
    |[_,_],_::_::_::_,h=>exact bS h
    |_::_::_::_,_,h=>exact bS h
   |IfExp c a b pos=>exact bS h
   |Tuple es j pos=>
    let⟨z,h⟩:=bZ (show (if es.all notStar=true then (cL (cE D n' g) es).map PI.E.tup else none)=some ie from h);let⟨ies,e1,rfl⟩:=aab.mp h;exact bg O (λE=>FR (i0 ihs E z e1)) λ_=>rfl
   |List es pos=>
    let⟨z,h⟩:=bZ (show (if es.all notStar=true then (cL (cE D n' g) es).map PI.E.lst else none)=some ie from h);let⟨ies,e1,rfl⟩:=aab.mp h;exact bg O (λE=>G8 (i0 ihs E z e1)) λ_=>rfl
   |Attribute o f pos=>
    let⟨z,h⟩:=bZ (show (if (ja o&&D.fx.contains f)=true then (cE D n' g o).map λo=>PI.E.fld o f else none)=some ie from h);let⟨x,e1,rfl⟩:=aab.mp h;rw[aah] at z;exact bg O (λE=>Ge (X:=X.ag (L4.XE X E)) O.K MO.cls (ihs o x e1 E).1 (hU z.1) (MO.fx f z.2)) λ_=>rfl
   |Subscript o i pos=>
    refine bg O (λE=> ?_) λ_=>rfl;replace h:EL (cE D n' g) o i=some ie:=h
    have plain:eK i=true->((cE D n' g o).bind λo=>(cE D n' g i).map λi=>PI.E.idx o i)=some ie->PE (X.ag (L4.XE X E)) (.Subscript o i pos) (tE T P (call P m) E ie):=λz h=>by
     let⟨x,y,e1,e2,rfl⟩:=eq2 h;exact F2 (X:=X.ag (L4.XE X E)) O.K (by have:=O.un;show X.A.units+1<cLine;lia) (ihs o x e1 E).1 (ihs i y e2 E).1 (zh z)
    cases i with
    |Slice lo hi st p2=>cases st with
     |some _=>exact bS h
     |none=>
      let⟨x,e1,h⟩:=aap.mp (show ((cE D n' g o).bind λo=>_)=some ie from h)
      cases lo with
      |none=>cases hi with
       |none=>
        cases h;exact pG (X:=X.ag (L4.XE X E)) O.K (ihs o x e1 E).1 vi vi
       |some b=>
        let⟨y,e2,rfl⟩:=aab.mp h;exact pG (X:=X.ag (L4.XE X E)) O.K (ihs o x e1 E).1 vi (uH (ihs b y e2 E).1)
      |some a=>cases hi with
       |none=>
        let⟨y,e2,rfl⟩:=aab.mp h;exact pG (X:=X.ag (L4.XE X E)) O.K (ihs o x e1 E).1 (uH (ihs a y e2 E).1) vi
       |some b=>
        let⟨y,z,e2,e3,rfl⟩:=eq2 h;exact pG (X:=X.ag (L4.XE X E)) O.K (ihs o x e1 E).1 (uH (ihs a y e2 E).1) (uH (ihs b z e3 E).1)
    |_=>exact plain rfl h
   |Call f es ks pos=>
    cases f<;>first|exact bS h|skip
    ·rename_i o x ap
     cases ks with
     |cons _ _=>exact bS h
     |nil=>
      let⟨hz,h⟩:=bZ (show (if (g.cm||jA x)=true then pH x ap pos o es (cE D n' g) else none)=some ie from h);exact bg O (λE=>zU MO hc O ihs hz h E) λ_=>rfl
    rename_i x p
    cases ks with
    |cons kw ks=>exact bg O (λE=>yM MO hc O ihs h E) λ_=>rfl
    |nil=>
     replace h:(if lG x=true then As D g x (cE D n' g) es else if rj x=true then Ay D g x (cE D n' g) es else if g.cm=true then pQ D g x es (cE D n' g) else none)=some ie:=h;split at h
     ·rename_i zx;exact bg O (λE=>CQ MO O ihs zx h E) λ_=>rfl
     ·split at h
      ·rename_i zx
       have ex:x="dict":=by simpa[rj] using zx
       subst ex
       cases es with
       |nil=>exact bS h
       |cons a r=>cases r with
        |cons _ _=>exact bS h
        |nil=>
         let⟨c,h⟩:=bZ (show (if (notStar a&&g.gb "dict"&&D.fr.contains "dict"&&g.cm)=true then (cE D n' g a).map PI.E.dOf else none)=some ie from h);simp only[aah] at c;let⟨⟨⟨c1,c2⟩,c3⟩,c4⟩:=c;let⟨y,e1,rfl⟩:=aab.mp h;exact bg O (λE=>Hy (X:=X.ag (L4.XE X E)) (O.calm c4) (by have:=O.un;show X.A.units+2<cLine;lia) (O.gb c2).1 (by show X.mg "dict"=none;rw[O.mg];exact MO.fr _ c3) (ihs a y e1 E).1 c1) λ_=>rfl
      ·let⟨zc,h⟩:=bZ h;exact bg O (λE=>yd MO hc O ihs zc h E) λ_=>rfl
   |ListComp elt gens sc pos=>
    exact bg O (λE=>zY O ihE ihQ h E) λ_=>rfl
   |_=>exact bS h
  refine⟨stepE,λg X e q O h E tg ht=> ?_⟩;have ihs:∀e ie,cE D n' g e=some ie->fJ T P m X e ie:=λe ie q=>ihE g X e ie O q
  have val:(cE D n' g e).map PI.Q.val=some q->L2.PI (X.ag (L4.XE X E)) tg e (tQ T P (call P m) E q):=λh=>by
   let⟨x,e1,rfl⟩:=aab.mp h;exact G9 (X:=X.ag (L4.XE X E)) O.K (ihs e x e1 E).1
  cases e with
  |Call f es ks pos=>
   cases f<;>first|exact val h|skip
   rename_i x p
   cases ks with
   |cons _ _=>exact val h
   |nil=>
    replace h:(if jZ x=true then EF D g x (cE D n' g) es else if pO x=true then Ey D g x (cE D n' g) es else (cE D n' g (.Call (.Name x p) es [] pos)).map PI.Q.val)=some q:=h
    by_cases zx:jZ x=true
    ·have ex:x="range":=by simpa[jZ] using zx
     rw[if_pos zx] at h;subst ex
     cases es with
     |nil=>exact bS h
     |cons a r=>cases r with
      |nil=>
       let⟨c,h⟩:=bZ h;simp only[aah] at c;let⟨⟨c1,c2⟩,c3⟩:=c;let⟨x,e1,rfl⟩:=aab.mp h;exact Dw (X:=X.ag (L4.XE X E)) (O.gb c1).1 (by show X.mg "range"=none;rw[O.mg];exact MO.fr _ c2) (mm (ihs a x e1 E).1 uV (bh c3)) (bh c3)
      |cons b r=>exact bS h
    rw[if_neg zx] at h
    by_cases zz:pO x=true
    ·have ex:x="zip":=by simpa[pO] using zz
     rw[if_pos zz] at h;subst ex
     cases es with
     |nil=>exact bS h
     |cons a r=>cases r with
      |nil=>exact bS h
      |cons b r=>cases r with
       |cons _ _=>exact bS h
       |nil=>
        let⟨c,h⟩:=bZ h;simp only[aah] at c;let⟨⟨⟨c1,c2⟩,c3⟩,c4⟩:=c;let⟨x,y,e1,e2,rfl⟩:=eq2 h
        cases tg<;>first|(cases ht;done)|skip
        refine F6 (X:=X.ag (L4.XE X E)) O.K (O.gb c1).1 (by show X.mg "zip"=none;rw[O.mg];exact MO.fr _ c2) (mm (ihs a x e1 E).1 (mm (ihs b y e2 E).1 uV (bh c4)) (bh c3)) ?_ (bh c4);show starEach [a,b] X.env=_;rw[bh c3,bh c4];rfl
    rw[if_neg zz] at h;exact val h
  |_=>exact val h
theorem yY {g:Gm} {X:Cx} (O:XOk T P' w mg base k g X) {gens:List Comprehension} {sc:Scope} {cpos py:Pos} {x:Str} {line:Nat}:
  swapsWith (.ListComp elt gens sc cpos) (some (.Name x py)) line X.env=pure (g.sc.kind== .function&&g.sc.names.lookup x==some .local&&py.line==cpos.line&& !(sc.names.any λ(n,k)=>n==x&&(k== .local||k== .cell))):=by
 have b:X.env.blockKind= .function:=by
  unfold Env.blockKind;rw[O.sc,O.kd];rfl
 show pure (X.env.blockKind== .function&&X.env.scope.names.lookup x==some .local&&py.line==cpos.line&& !(sc.names.any λ(n,k)=>n==x&&(k== .local||k== .cell)))=_;rw[b,O.sc,O.kd]
theorem Gi (MO:MOk D P T M mg) (hc:∀i,FnOk P' w T.K mg base (cU P' w) k (M.fa i) (M.fd i) (M.ps i) (eU T P m i)):∀n:Nat,
  (∀(g:Gm) (X:Cx) (s:Stmt) (is:PI.S),XOk T P' w mg base k g X->cS D n g s=some is->∀E:XS,PS (X.ag (L4.XE X E)) s (tS T P (call P m) E is))/\
  (∀(g:Gm) (X:Cx) (ss:List Stmt) (iss:List PI.S),XOk T P' w mg base k g X->jy D n g ss=some iss->∀E:XS,dB (X.ag (L4.XE X E)) ss (oj T P (call P m) E iss)):=by
 intro n
 induction n with
 |zero=>exact⟨λg X s is _ h=>(by cases h),λg X ss iss _ h=>(by cases h)⟩
 |succ n ih=>
  let⟨ihS,ihSs⟩:=ih;let⟨sE,sQ⟩:=An MO hc n;refine⟨λg X s is O h E=> ?_,λg X ss iss O h E=> ?_⟩
  ·have ihs:∀e ie,cE D n g e=some ie->fJ T P m X e ie:=λe ie q=>sE g X e ie O q
   cases s with
   |Return v pos=>cases v with
    |none=>
     cases h;exact Fu
    |some e=>
     let⟨x,e1,rfl⟩:=aab.mp (show (cE D n g e).map PI.S.ret=some is from h);exact GC (ihs e x e1 E).1
   |Expr e pos=>
    let⟨z,h⟩:=bZ (show (if dQ e=true then (cE D n g e).map PI.S.expr else none)=some is from h);let⟨x,e1,rfl⟩:=aab.mp h;exact Fw (ihs e x e1 E).1 (sS z)
   |If c a b pos=>
    let⟨z,h⟩:=bZ (show (if dC c=true then (cE D n g c).bind λc=>(jy D n g a).bind λa=>(jy D n g b).map λb=>PI.S.ife c a b else none)=some is from h);let⟨x,y,y',e1,e2,e3,rfl⟩:=eq3 h;exact J4 ((ihs c x e1 E).2 z) (ihSs g X a y O e2 E) (ihSs g X b y' O e3 E)
   |For tg it b els pos=>cases els with
    |cons _ _=>exact bS h
    |nil=>
     let⟨z,h⟩:=bZ (show (if (et it&&g.cm)=true then (cQ D n g it).bind λq=>(if s8 q tg=true then ku g n tg else none).bind λt=>(jy D n g b).map λb=>PI.S.for t q b else none)=some is from h);let⟨q,t,y,e1,e2,e3,rfl⟩:=eq3 h;let⟨e0,e2⟩:=bZ e2;rw[aah] at z;exact HC O.fm O.hx (O.calm z.2) (sQ g X it q O e1 E tg e0) (pE O n tg t E e2) (ihSs g X b y O e3 E) (rl z.1)
   |Assign tgs e pos=>cases tgs with
    |nil=>exact bS h
    |cons t r=>cases r with
     |cons _ _=>cases t<;>cases h
     |nil=>
      cases t<;>first|exact bS h|skip
      ·rename_i o f tp;let⟨z,h⟩:=bZ (show (if (dQ e&&D.fx.contains f)=true then (cE D n g o).bind λo=>(cE D n g e).map λe=>PI.S.di o f (Eg (D.ff.contains f) e) else none)=some is from h);let⟨x,y,e1,e2,rfl⟩:=eq2 h;rw[aah] at z
       have hz:PE (X.ag (L4.XE X E)) e (tE T P (call P m) E (Eg (D.ff.contains f) y)):=by
        cases D.ff.contains f with
        |true=>exact KC (ihs e y e2 E).1
        |false=>exact(ihs e y e2 E).1
       exact CS (X:=X.ag (L4.XE X E)) O.K MO.cls (MO.fx f z.2) (ihs o x e1 E).1 hz (sS z.1)
      ·rename_i o i tp;let⟨z,h⟩:=bZ (show (if (eK i&&dQ e)=true then (cE D n g o).bind λo=>(cE D n g i).bind λi=>(cE D n g e).map λe=>PI.S.dA o i e else none)=some is from h);let⟨x,y,y',e1,e2,e3,rfl⟩:=eq3 h;rw[aah] at z;exact EW (X:=X.ag (L4.XE X E)) (by have:=O.un;show X.A.units+1<cLine;lia) (ihs o x e1 E).1 (ihs i y e2 E).1 (ihs e y' e3 E).1 z.1 z.2
      ·rename_i x py;let⟨i,ie,e1,e2,rfl⟩:=eq2 (show ((g.lx x).bind λi=>(cE D n g e).map λe=>PI.S.set (.var i) e)=some is from h);let⟨h1,h2,h3⟩:=O.lx e1
       have nd:X.N.Nodup:=by rw[O.N];exact O.nd
       have std:swapsWith e (some (.Name x py)) pos.line X.env=pure false->PS (X.ag (L4.XE X E)) (.Assign [.Name x py] e pos) (tS T P (call P m) E (.set (.var i) ie)):=λq=>Hk (X:=X.ag (L4.XE X E)) nd h1 h2 (ihs e ie e2 E).1 q h3
       cases e<;>first|exact std rfl|(cases n<;>cases e2;done)|skip
       rename_i elt gens sc cpos;have sw:=yY (elt:=elt) (gens:=gens) (sc:=sc) (cpos:=cpos) (py:=py) (x:=x) (line:=pos.line) O
       cases n with
       |zero=>cases e2
       |succ n=>
        let⟨sE',sQ'⟩:=An MO hc n
        cases eb:(g.sc.kind== .function&&g.sc.names.lookup x==some .local&&py.line==cpos.line&& !(sc.names.any λ(n,k)=>n==x&&(k== .local||k== .cell))) with
        |false=>exact std (by rw[sw,eb])
        |true=>
         rw[eb] at sw
         have hl:X.env.scope.names.lookup x=some .local:=by
          simp only[aah,abH] at eb;rw[O.sc];exact eb.1.1.2
         let⟨tg,iter,ifs,g',q,t,c,ee,rfl,z,b1,b2,b0,b3,b4,b5,rfl⟩:=lQ e2;let⟨k0,k1,k2,k3⟩:=O.block b1;exact Eb O.fm O.hx k1 k0 k2 nd h1 hl (sQ' g X iter q O b2 E tg b0) (λσ own C fp pn s H hh=>pE (k3 own C fp pn s H hh) n tg t _ b3) (λσ own C fp pn s H hh=>tm (λe ie=>sE' g' _ e ie (k3 own C fp pn s H hh)) b5 _) (λσ own C fp pn s H hh=>(sE' g' _ elt ee (k3 own C fp pn s H hh) b4 _).1) sw (rl z)
      ·rename_i tes tk tp;let⟨z,h⟩:=bZ (show (if xo e=true then (ku g n (.Tuple tes tk tp)).bind λt=>(cE D n g e).map λe=>PI.S.set t e else none)=some is from h);let⟨t,ie,e1,e2,rfl⟩:=eq2 h;exact DE (X:=X.ag (L4.XE X E)) (ihs e ie e2 E).1 (pE O n _ t E e1) (by cases e<;>rfl) (by cases e<;>first|rfl|cases z) rfl
   |Raise exc cause pos=>
    cases h;intro pins s σ H D I q;let⟨env,st,as,G,s2,er,q⟩:=q;exact q.elim
   |_=>exact bS h
  ·cases ss with
   |nil=>
    cases h;exact EM
   |cons s r=>
    let⟨x,y,e1,e2,rfl⟩:=eq2 (show ((cS D n g s).bind λs=>(jy D n g r).map λr=>s::r)=some iss from h);exact B7 (ihS g X s x O e1 E) (ihSs g X r y O e2 E)
structure DOk (D:Dt) (P:Pg) (T:CT) (M:Md) (base:Heap) (mg:Str->Option Value):Prop where
 def_:∀i d,P.fn i=some d->∃(x qual:Str) (st:Stmt),Fun T.K x qual st (M.fa i) (M.fd i)/\FnScope (jr (M.ps i) (av st)) (M.ps i) (av st)/\tq D (M.ps i) (av st) (bf st)=some d
theorem Fe (MO:MOk D P T M mg) (DO:DOk D P T M base mg):∀(n:Nat) (i:Nat),FnOk P' w T.K mg base (cU P' w) (4*n) (M.fa i) (M.fd i) (M.ps i) (eU T P n i):=by
 intro n
 induction n with
 |zero=>exact λi=>⟨λvs H Q E z904=>by let⟨st,as,G,xs,s,r,h⟩:=z904;exact h.elim,λA outer s H args us vs Q E _ _ _ _ z913=>by let⟨st,as,G,xs,s',r,h⟩:=z913;exact h.elim⟩
 |succ n ih=>
  intro i
  cases e:P.fn i with
  |none=>
   have no:∀{as G xs st Q X},¬ab T as G (call P (n+1) i xs st) Q X:=λ{as G xs st Q X} h=>by
    unfold call at h;rw[e] at h;exact h
   exact⟨λvs H Q E z904=>by let⟨st,as,G,xs,s,r,h⟩:=z904;exact(no h).elim,λA outer s H args us vs Q E _ _ _ _ z913=>by let⟨st,as,G,xs,s',r,h⟩:=z913;exact(no h).elim⟩
  |some d=>
   let⟨x,qual,st,F,S,c⟩:=DO.def_ i d e;let⟨b,c1,rfl⟩:=aab.mp (show (jy D 400 ⟨jr (M.ps i) (av st),av st,λ_=>true,true⟩ (bf st)).map (λb=>(⟨(M.ps i).length,(jr (M.ps i) (av st)).length,b⟩:Fn))=some d from c);refine Hv (k:=4*n+3) F S e rfl rfl λcdv A outer s H E hr=> ?_;refine(Gi MO ih 400).2 ⟨jr (M.ps i) (av st),av st,λ_=>true,true⟩ _ _ _ ⟨rfl,S.nd,rfl,λ_ _=>rfl,S.kind,fmD,hxD,λ_=>rfl,rfl,rfl,rfl,rfl,rfl,λ_=>hr,by have:=hr.un;show (A.deeper (envOfC qual (av st) s.heap.objs.size (M.fa i) cdv)).units+200<cLine;lia⟩ c1 _
end
theorem yc (K:PySem.W.Frag):vk K:=by
 intro a n ha hn;simp only[aau,abS,adb] at ha hn
 rcases ha with rfl|rfl|rfl|rfl|rfl|rfl|rfl<;>rcases hn with rfl|rfl|rfl|rfl|rfl|rfl<;>exact(by with_unfolding_all rfl)
structure Df where
 i:Nat
 o:Option Str
 x:Str
 q:Str
 st:Stmt
 ps:List Str
def j3 (K:PySem.W.Frag) (x q:Str) (st:Stmt) (f:Addr):Prop:=∃(oc:Value) (od:Option Addr) (kV doc pm:Value) (an:Option Addr) (cdv ct:Value) (osl:Array (Option Value)),
 K.lookup f=some ⟨oc,od, .func (PySem.W.fnOf x q (dj st) (bf st) (av st) .none kV doc pm an cdv ct),osl⟩/\PySem.W.codeIn K cdv q=true/\PySem.W.keepIn K (.ref f)=true
def CY (ps:List Str) (sc:Scope):Bool:=(sc.kind== .function)&& !sc.isCoroutine&& !sc.isGenerator&&js (jr ps sc)&&(ps.all λx=>uZ sc x)&&(sc.names.all λy=> !(y.2== .free))
theorem GO {ps:List Str} (h:CY ps sc=true):FnScope (jr ps sc) ps sc:=by
 unfold CY at h;simp only[aah,Bool.not_eq_true',abH,abo,beq_eq_false_iff_ne] at h;let⟨⟨⟨⟨⟨h1,h2⟩,h3⟩,h4⟩,h5⟩,h6⟩:=h;refine⟨h1,h2,h3,kY h4, ?_,λx hx=> ?_,h6⟩
 ·unfold jr;simp
 ·have:=h5 x hx;unfold uZ at this;simpa only[abB,abH] using this
structure DS (D:Dt) (d:Df):Prop where
 b:∀(kV doc pm:Value) (an:Option Addr) (cdv ct:Value) (us:List Value),us.length=d.ps.length->bindArgs (PySem.W.fnOf d.x d.q (dj d.st) (bf d.st) (av d.st) .none kV doc pm an cdv ct) ⟨us,[]⟩=pure (d.ps.zip us)
 s:CY d.ps (av d.st)=true
 c:(tq D d.ps (av d.st) (bf d.st)).isSome=true
def fg (D:Dt) (ds:List Df) (cls:List (Nat×Cl)) (w:Nat):Pg:=⟨ds.map λd=>(d.i,(tq D d.ps (av d.st) (bf d.st)).getD ⟨0,0,[]⟩),cls,w⟩
theorem uf {D:Dt} {cls:List (Nat×Cl)} {w:Nat} {i:Nat} {f:Fn}:∀{ds:List Df},(fg D ds cls w).fn i=some f->∃d,ds.find? (λd=>d.i==i)=some d/\d∈ds/\f=(tq D d.ps (av d.st) (bf d.st)).getD ⟨0,0,[]⟩
 |[],h=>by cases h
 |d::ds,h=>by
  replace h:((d.i,(tq D d.ps (av d.st) (bf d.st)).getD ⟨0,0,[]⟩)::ds.map λd=>(d.i,(tq D d.ps (av d.st) (bf d.st)).getD ⟨0,0,[]⟩)).lookup i=some f:=h;rw[aaK] at h
  cases e:(i==d.i) with
  |true=>
   rw[e] at h;cases h;refine⟨d, ?_,aaB,rfl⟩;rw[abA,show (d.i==i)=true by simpa using (beq_iff_eq.mp e).symm]
  |false=>
   rw[e] at h;let⟨d',h1,h2,h3⟩:=uf (D:=D) (cls:=cls) (w:=w) (ds:=ds) h;refine⟨d', ?_,aaq _ h2,h3⟩;rw[abA,show (d.i==i)=false by simpa using λz=>(beq_eq_false_iff_ne.mp e) z.symm];exact h1
theorem build {K:PySem.W.Frag} {D:Dt} {ds:List Df} {fa:Nat->Addr} (h:∀i d,ds.find? (λd=>d.i==i)=some d->j3 K d.x d.q d.st (fa i)):∃M:Md,M.fa=fa/\∀i d,ds.find? (λd=>d.i==i)=some d->M.ps i=d.ps/\Fun K d.x d.q d.st (fa i) (M.fd i):=by
 have ex:∀i,∃fd:FuncData,∀d,ds.find? (λd=>d.i==i)=some d->Fun K d.x d.q d.st (fa i) fd:=λi=>by
  cases e:ds.find? (λd=>d.i==i) with
  |none=>exact⟨PySem.W.fnOf "" "" ⟨[],[],none,[],[],none,[]⟩ [] ⟨.function,[],false,false,[]⟩ .none .none .none .none none .none .none,λd z=>by cases z⟩
  |some d=>
   let⟨oc,od,kV,doc,pm,an,cdv,ct,osl,l,c,k⟩:=h i d e;exact⟨_,λd' z=>by cases z;exact Dp l c k⟩
 refine⟨⟨fa,λi=>Classical.choose (ex i),λi=>((ds.find? (λd=>d.i==i)).map (·.ps)).getD []⟩,rfl,λi d e=>⟨?_,Classical.choose_spec (ex i) d e⟩⟩;show ((ds.find? (λd=>d.i==i)).map (·.ps)).getD []=d.ps;rw[e];rfl
noncomputable def gQ (K:PySem.W.Frag) (x:Str):Addr:=match PySem.W.nsIn K mainGlobals x with
 |some (some (.ref a))=>a
 |_=>0
noncomputable def fnAt (K:PySem.W.Frag) (C:Addr) (m:Str):Addr:=match PySem.W.findIn K (.ref C) m with
 |some (some (.ref a))=>a
 |_=>0
def jP (K:PySem.W.Frag) (d:Df):Addr:=match d.o with
 |none=>gQ K d.x
 |some c=>fnAt K (gQ K c) d.x
def lB (K:PySem.W.Frag) (ds:List Df) (i:Nat):Addr:=((ds.find? λd=>d.i==i).map (jP K)).getD 0
def cb (K:PySem.W.Frag) (cn:List (Nat×Str)) (c:Nat):Addr:=((cn.lookup c).map (gQ K)).getD 0
theorem ft {K:PySem.W.Frag} {x:Str} {a:Addr} (h:PySem.W.nsIn K mainGlobals x=some (some (.ref a))):gQ K x=a:=by
 unfold gQ;rw[h]
theorem ug {K:PySem.W.Frag} {C:Addr} {x:Str} {a:Addr} (h:PySem.W.findIn K (.ref C) x=some (some (.ref a))):fnAt K C x=a:=by
 unfold fnAt;rw[h]
def jz (K:PySem.W.Frag) (d:Df):Prop:=match d.o with
 |none=>∃f,PySem.W.nsIn K mainGlobals d.x=some (some (.ref f))/\j3 K d.x d.q d.st f
 |some c=>∃C f,PySem.W.nsIn K mainGlobals c=some (some (.ref C))/\PySem.W.findIn K (.ref C) d.x=some (some (.ref f))/\j3 K d.x d.q d.st f
theorem Bp {K:PySem.W.Frag} {d:Df} (h:jz K d):j3 K d.x d.q d.st (jP K d):=by
 unfold jz at h;unfold jP;split at h
 ·let⟨f,e,q⟩:=h;rename_i z;show j3 K d.x d.q d.st (gQ K d.x);rw[ft e];exact q
 ·let⟨C,f,e1,e2,q⟩:=h;rename_i c z;show j3 K d.x d.q d.st (fnAt K (gQ K c) d.x);rw[ft e1,ug e2];exact q
def mX (K:PySem.W.Frag) (ds:List Df) (cls:List (Nat×Cl)) (cn:List (Nat×Str)) (xc:Nat->Bool):Str×Gv->Prop
 |(x, .fn i)=>∃d,ds.find? (λd=>d.i==i)=some d/\d.o=none/\d.x=x
 |(x, .cls c b)=>∃C K',PySem.W.nsIn K mainGlobals x=some (some (.ref C))/\cn.lookup c=some x/\cls.lookup c=some K'/\xc c=false/\PySem.W.keepIn K (.ref C)=true/\PySem.W.makesIn K C=true/\
  (b=false->K'.init=none/\PySem.W.findIn K (.ref C) "__init__"=some (some (.builtin "object.__init__")))/\
  (b=true->∃fi d f,K'.init=some fi/\ds.find? (λd=>d.i==fi)=some d/\d.o=some x/\d.x="__init__"/\PySem.W.findIn K (.ref C) "__init__"=some (some (.ref f))/\PySem.W.isFn K (.ref f)=true)
 |(x, .err c)=>∃C K',PySem.W.nsIn K mainGlobals x=some (some (.ref C))/\cn.lookup c=some x/\cls.lookup c=some K'/\K'.init=none/\xc c=true/\PySem.W.excIn K C AE "ValueError.__new__"=true
 |(x, .val v)=>∃i tk,v= .int i/\PySem.W.nsIn K mainGlobals x=some (some (.int i tk))
def vm (K:PySem.W.Frag) (ds:List Df) (cn:List (Nat×Str)) (c:Nat) (p:Str×Nat):Prop:=∃x C f d y R,cn.lookup c=some x/\PySem.W.nsIn K mainGlobals x=some (some (.ref C))/\PySem.W.findIn K (.ref C) p.1=some (some (.ref f))/\PySem.W.isFn K (.ref f)=true/\
 ds.find? (λd=>d.i==p.2)=some d/\d.o=some y/\d.x=p.1/\PySem.W.nsIn K mainGlobals y=some (some (.ref R))/\PySem.W.findIn K (.ref R) p.1=some (some (.ref f))
theorem eG {α:Type} {x:Str} {v:α}:∀{l:List (Str×α)},l.lookup x=some v->(x,v)∈l
 |[],h=>by cases h
 |(y,w)::r,h=>by
  rw[aaK] at h;split at h
  ·rename_i e;cases h;rw[eq_of_beq e];exact aaB
  ·exact aaq _ (eG h)
section
variable {K:PySem.W.Frag} {D:Dt} {ds:List Df} {cls:List (Nat×Cl)} {cn:List (Nat×Str)} {w:Nat} {xc:Nat->Bool} {mg:Str->Option Value} {h:Heap} {M:Md}
theorem me {i:Nat} {d:Df} (e:ds.find? (λd=>d.i==i)=some d):lB K ds i=jP K d:=by
 unfold lB;rw[e];rfl
theorem lS {c:Nat} {x:Str} {C:Addr} (e:cn.lookup c=some x) (h:PySem.W.nsIn K mainGlobals x=some (some (.ref C))):cb K cn c=C:=by
 unfold cb;rw[e];exact ft h
theorem wq {d:Df} {x:Str} {C f:Addr} (o:d.o=some x) (h:PySem.W.nsIn K mainGlobals x=some (some (.ref C))) (h2:PySem.W.findIn K (.ref C) d.x=some (some (.ref f))):jP K d=f:=by
 unfold jP;rw[o];show fnAt K (gQ K x) d.x=f;rw[ft h,ug h2]
theorem C4 (X:K.In h) (G:h.Ns mainGlobals mg) (hD:∀d∈ds,jz K d) (hM:M.fa=lB K ds) (hF:∀i d,ds.find? (λd=>d.i==i)=some d->M.ps i=d.ps/\Fun K d.x d.q d.st (lB K ds i) (M.fd i)) (hS:∀d∈ds,DS D d)
  (hg:∀p∈D.gl,mX K ds cls cn xc p) (hr:∀x∈D.fr,PySem.W.nsIn K mainGlobals x=some none) (hc:COk ⟨K,cb K cn,xc⟩ (fg D ds cls w)) (hm:∀(c:Nat) k',cls.lookup c=some k'->∀p∈k'.meths,k'.exc=false/\vm K ds cn c p) (hx:∀f,D.fx.contains f=true->∀(c:Nat) k,(fg D ds cls w).cl c=some k->f∈k.flds->k.exc=false)
  (he:∀y∈D.is,∀c,D.gl.lookup y=some (.err c)->u9 ⟨K,cb K cn,xc⟩ (fg D ds cls w) c):MOk D (fg D ds cls w) ⟨K,cb K cn,xc⟩ M mg:=by
 refine⟨λx i e=> ?_,λx e=>PySem.W.mg_none_of X G (hr x (by simpa using e)),yc K,hc,λx c b e=> ?_,λx c e=> ?_,λx v e=> ?_,λm c k' fi q1 q2=> ?_,hx,λy c q=>he y (by simpa using q) c⟩
 ·let⟨d,e1,e2,e3⟩:=hg _ (eG e);let⟨f1,f2⟩:=hF i d e1;have dm:=aby e1;rw[hM];refine⟨?_,f2.kp, ?_⟩
  ·have z:=hD d dm;unfold jz at z;rw[e2] at z;let⟨f,z1,_⟩:=z;rw[me e1];unfold jP;rw[e2];show mg x=some (.ref (gQ K d.x));rw[ft z1,←e3];exact acz X G z1
  ·rw[f1];exact f2.binds (hS d dm).b
 ·let⟨C,K',g1,g2,g3,g4,g5,g6,g7,g8⟩:=hg _ (eG e);have ec:cb K cn c=C:=lS g2 g1
  show mg x=some (.ref (cb K cn c))/\xc c=false/\PySem.W.keepIn K (.ref (cb K cn c))=true/\PySem.W.makesIn K (cb K cn c)=true/\∃K',(fg D ds cls w).cl c=some K'/\(b=false->K'.init=none/\PySem.W.findIn K (.ref (cb K cn c)) "__init__"=some (some (.builtin "object.__init__")))/\
   (b=true->∃fi,K'.init=some fi/\PySem.W.findIn K (.ref (cb K cn c)) "__init__"=some (some (.ref (M.fa fi)))/\PySem.W.isFn K (.ref (M.fa fi))=true/\Binds K (M.fd fi) (M.ps fi) [])
  rw[ec];refine⟨acz X G g1,g4,g5,g6,K',g3,g7,λhb=> ?_⟩;let⟨fi,d,f,i1,i2,i3,i4,i5,i6⟩:=g8 hb;let⟨f1,f2⟩:=hF fi d i2
  have ef:M.fa fi=f:=by
   rw[hM,me i2];exact wq i3 g1 (by rw[i4];exact i5)
  refine⟨fi,i1,by rw[ef];exact i5,by rw[ef];exact i6, ?_⟩;rw[f1];exact f2.binds (hS d (aby i2)).b
 ·let⟨C,K',g1,g2,g3,g4,g5,g6⟩:=hg _ (eG e);have ec:cb K cn c=C:=lS g2 g1;show mg x=some (.ref (cb K cn c))/\xc c=true/\PySem.W.excIn K (cb K cn c) AE "ValueError.__new__"=true/\∃K',(fg D ds cls w).cl c=some K'/\K'.init=none;rw[ec];exact⟨acz X G g1,g5,g6,K',g3,g4⟩
 ·let⟨i,tk,rfl,g1⟩:=hg _ (eG e);exact⟨.int i,_,acz X G g1,⟨tk,rfl⟩,λ_ _=>rfl⟩
 ·let⟨n1,x,C,f,d,y,R,m1,m2,m3,m4,m5,m6,m7,m8,m9⟩:=hm c k' q1 (m,fi) (eG q2);have ec:cb K cn c=C:=lS m1 m2;let⟨f1,f2⟩:=hF fi d m5
  have ef:M.fa fi=f:=by
   rw[hM,me m5];exact wq m6 m8 (by rw[m7];exact m9)
  show k'.exc=false/\Meth K (cb K cn c) m (M.fa fi)/\Binds K (M.fd fi) (M.ps fi) [];rw[ec];refine⟨n1,⟨by rw[ef];exact m3,by rw[ef];exact m4, ?_⟩, ?_⟩
  ·have:=f2.kp;rw[←hM] at this;exact this
  ·rw[f1];exact f2.binds (hS d (aby m5)).b
theorem Fx {ca:Nat->Addr} (hM:M.fa=lB K ds) (hF:∀i d,ds.find? (λd=>d.i==i)=some d->M.ps i=d.ps/\Fun K d.x d.q d.st (lB K ds i) (M.fd i)) (hS:∀d∈ds,DS D d):DOk D (fg D ds cls w) ⟨K,ca,xc⟩ M base mg:=by
 refine⟨λi f e=> ?_⟩;let⟨d,e1,e2,rfl⟩:=uf e;let⟨f1,f2⟩:=hF i d e1;have S:=hS d e2;refine⟨d.x,d.q,d.st,hM▸f2,f1▸GO S.s, ?_⟩;rw[f1];let⟨y,e3⟩:=aa4.mp S.c;rw[e3];rfl
end
theorem qa {T:CT} {G:Hp}:∀ns:List Int,ae T as G (ns.map .int) (ns.map V.int)
 |[]=>rfl
 |n::ns=>⟨.int n,ns.map V.int,rfl,rfl,qa ns⟩
structure HeadOk (K:PySem.W.Frag) (D:Dt) (ds:List Df) (cls:List (Nat×Cl)) (cn:List (Nat×Str)) (xc:Nat->Bool) (wn:Nat):Prop where
 d:∀d∈ds,jz K d
 g:∀p∈D.gl,mX K ds cls cn xc p
 m:∀(c:Nat) k',cls.lookup c=some k'->∀p∈k'.meths,k'.exc=false/\vm K ds cn c p
 r:∀x∈D.fr,PySem.W.nsIn K mainGlobals x=some none
 c:COk ⟨K,cb K cn,xc⟩ (fg D ds cls wn)
 e:∀y∈D.is,∀c,D.gl.lookup y=some (.err c)->u9 ⟨K,cb K cn,xc⟩ (fg D ds cls wn) c
theorem Gk {l:PySem.W.OpenLaw} {q:Program} {loose:List Str} {XP:(Str->Option Value)->Heap->Prop} {YP:World->Heap->Prop} {d:DefRec} {K:Params->PySem.W.Frag} {D:Dt} {ds:List Df} {cls:List (Nat×Cl)} {cn:List (Nat×Str)} {xc:Nat->Bool} {wn:Nat} {n f:Nat} {x:Str} {df:Df}
  (hn:l.most=some 63) (hdf:d.params.defaults=[]) (hroom:Room (4*n) callerA) (hY:∀(w:World) (h:Heap),YP w h->(K w.params).In h)
  (hS:∀d∈ds,DS D d) (hf:ds.find? (λd=>d.i==f)=some df) (hps:df.ps=[x]) (ho:df.o=none) (hname:d.name=df.x) (hx:∀f,D.fx.contains f=true->∀(c:Nat) k,(fg D ds cls wn).cl c=some k->f∈k.flds->k.exc=false)
  (F:∀w:World,HeadOk (K w.params) D ds cls cn xc wn)
  (pure_:∀ns:List Int,ns.length<=63->call (fg D ds cls wn) n f [.lst (ns.map .int)] []= .ok (.bl true) []):
  PySem.W.WalkO q loose XP YP l.row.toRowW d [] (λf vs=>PySem.call f vs):=
 L2.CA (n:=63) (k:=4*n) (x:=x) (CX:=λw=>cU l.prog w) (K:=K) (sp:=λw=>eU ⟨K w.params,cb (K w.params) cn,xc⟩ (fg D ds cls wn) n f) hn (by decide) hdf hroom hY
  (λw mg a h KX G hm=>by
   have O:=F w
   let⟨M,hM,hF⟩:=build (D:=D) (fa:=lB (K w.params) ds) (K:=K w.params) (ds:=ds) λi d' hd'=>by
    rw[me hd'];exact Bp (O.d d' (aby hd'))
   let⟨f1,f2⟩:=hF f df hf;have dm:=aby hf
   have ea:M.fa f=a:=by
    have z:=O.d df dm;unfold jz at z;rw[ho] at z;let⟨f',z1,_⟩:=z;rw[hM,me hf];unfold jP;rw[ho];show gQ (K w.params) df.x=a;rw[ft z1];have:=acz KX G z1;rw[←hname,hm] at this;cases this;rfl
   refine⟨M.fd f,λs v=> ?_,λbase _ _=> ?_⟩
   ·let⟨oc,od,kV,doc,pm,an,cdv,ct,osl,efd,_⟩:=f2.ex;rw[efd];have:=(hS df dm).b kV doc pm an cdv ct [v] (by rw[hps];rfl);rw[hps] at this;exact .of_eq this
   ·have:=Fe (P':=l.prog) (w:=w) (base:=base) (C4 KX G O.d hM hF hS O.g O.r O.c O.m hx O.e) (Fx hM hF hS) n f;rw[ea,f1,hps] at this
    exact this)
  (λw H a ns hl hO hS=>by
   refine⟨[],[],H,[.lst (ns.map .int)],⟨rfl,aco,Le.refl _,λa h=>(by cases h),λn o a h=>(by cases h)⟩,⟨.ref a,[],rfl,⟨a,ns.map V.int,rfl,hS,qa ns⟩,rfl⟩, ?_⟩;rw[pure_ ns hl]
   exact λas' G' H' _ _ _ u hu=>hu)
  λ_ _ _ _ _ h=>by
   let⟨_,_,_,_,_,_,_,_,_,_,_,_,_,_,_,z⟩:=h;exact z
theorem tW {K:PySem.W.Frag} {i:Nat} {x q:Str} {st:Stmt} {ps:List Str} {f:Addr} {oc:Value} {od an:Option Addr} {osl:Array (Option Value)} {kV doc pm cdv ct:Value} (a:PySem.W.nsIn K mainGlobals x=some (some (.ref f)))
  (l:K.lookup f=some ⟨oc,od, .func (PySem.W.fnOf x q (dj st) (bf st) (av st) .none kV doc pm an cdv ct),osl⟩) (c:PySem.W.codeIn K cdv q=true) (k:PySem.W.keepIn K (.ref f)=true):jz K ⟨i,none,x,q,st,ps⟩:=⟨f,a,oc,od,kV,doc,pm,an,cdv,ct,osl,l,c,k⟩
theorem kQ {α:Type} {p:α->Prop} {a:α} {l:List α} (h:p a) (t:∀x∈l,p x):∀x∈a::l,p x:=List.forall_mem_cons.mpr ⟨h,t⟩
theorem ka {α:Type} {p:α->Prop}:∀x∈([]:List α),p x:=λ_ h=>by cases h
theorem AY {K:PySem.W.Frag} {ds:List Df} {cls:List (Nat×Cl)} {cn:List (Nat×Str)} {xc:Nat->Bool} {x:Str} {i:Nat} {d:Df} (e:ds.find? (λd=>d.i==i)=some d) (h:d.o=none) (z:d.x=x):mX K ds cls cn xc (x, .fn i):=⟨d,e,h,z⟩
theorem tB {K:PySem.W.Frag} {i:Nat} {c x q:Str} {st:Stmt} {ps:List Str} {C f:Addr} {oc:Value} {od an:Option Addr} {osl:Array (Option Value)} {kV doc pm cdv ct:Value} (n:PySem.W.nsIn K mainGlobals c=some (some (.ref C))) (a:PySem.W.findIn K (.ref C) x=some (some (.ref f)))
  (l:K.lookup f=some ⟨oc,od, .func (PySem.W.fnOf x q (dj st) (bf st) (av st) .none kV doc pm an cdv ct),osl⟩) (cd:PySem.W.codeIn K cdv q=true) (k:PySem.W.keepIn K (.ref f)=true):jz K ⟨i,some c,x,q,st,ps⟩:=⟨C,f,n,a,oc,od,kV,doc,pm,an,cdv,ct,osl,l,cd,k⟩
section
variable {K:PySem.W.Frag} {ds:List Df} {cls:List (Nat×Cl)} {cn:List (Nat×Str)} {xc:Nat->Bool} {D:Dt} {w:Nat}
theorem vA {x:Str} {c:Nat} {C:Addr} {k:Cl} (n:PySem.W.nsIn K mainGlobals x=some (some (.ref C))) (e1:cn.lookup c=some x) (e2:cls.lookup c=some k) (e3:k.init=none) (e4:xc c=true) (h:PySem.W.excIn K C AE "ValueError.__new__"=true):mX K ds cls cn xc (x, .err c):=⟨C,k,n,e1,e2,e3,e4,h⟩
theorem wo {x:Str} {c fi:Nat} {C f:Addr} {k:Cl} {d:Df} (n:PySem.W.nsIn K mainGlobals x=some (some (.ref C))) (e1:cn.lookup c=some x) (e2:cls.lookup c=some k) (e4:xc c=false) (h1:PySem.W.keepIn K (.ref C)=true) (h2:PySem.W.makesIn K C=true) (e5:k.init=some fi) (e6:ds.find? (λd=>d.i==fi)=some d) (e7:d.o=some x) (e8:d.x="__init__")
  (h3:PySem.W.findIn K (.ref C) "__init__"=some (some (.ref f))) (h4:PySem.W.isFn K (.ref f)=true):mX K ds cls cn xc (x, .cls c true):=⟨C,k,n,e1,e2,e4,h1,h2,λh=>(by cases h),λ_=>⟨fi,d,f,e5,e6,e7,e8,h3,h4⟩⟩
theorem xm {x:Str} {i:Int} {tk:Nat} (n:PySem.W.nsIn K mainGlobals x=some (some (.int i tk))):mX K ds cls cn xc (x, .val (.int i)):=⟨i,tk,rfl,n⟩
theorem dN {α:Type} {x:Nat} {v:α}:∀{l:List (Nat×α)},l.lookup x=some v->(x,v)∈l
 |[],h=>by cases h
 |(y,w)::r,h=>by
  rw[aaK] at h;split at h
  ·rename_i e;cases h;rw[eq_of_beq e];exact aaB
  ·exact aaq _ (dN h)
def D5 (K:PySem.W.Frag) (cn:List (Nat×Str)) (xc:Nat->Bool) (p:Nat×Cl):Prop:=xc p.1=p.2.exc/\(p.2.exc=false->∃x C,cn.lookup p.1=some x/\PySem.W.nsIn K mainGlobals x=some (some (.ref C))/\Cls K C/\∀f∈p.2.flds,dW K C f)
theorem tX {p:Nat×Cl} (e1:xc p.1=p.2.exc) (e2:p.2.exc=true):D5 K cn xc p:=⟨e1,λh=>by rw[e2] at h;cases h⟩
theorem uh {p:Nat×Cl} {x:Str} {C:Addr} (e1:xc p.1=p.2.exc) (e2:cn.lookup p.1=some x) (n:PySem.W.nsIn K mainGlobals x=some (some (.ref C))) (h1:PySem.W.plainGet K C Str.empty=true) (h2:PySem.W.hasDictIn K C=true) (h3:PySem.W.plainOver K C=true) (h4:PySem.W.findIn K (.ref C) "__setattr__"=some (some (.builtin "object.__setattr__")))
  (h5:∀f∈p.2.flds,PySem.W.findIn K (.ref C) f=some none):D5 K cn xc p:=⟨e1,λ_=>⟨x,C,e2,n,⟨h1,h2,h3,h4⟩,h5⟩⟩
theorem Em (h:∀p∈cls,D5 K cn xc p):COk ⟨K,cb K cn,xc⟩ (fg D ds cls w):=by
 refine⟨λc k e=>(h _ (dN e)).1,λc k e x=> ?_,λc k f e x hf=> ?_⟩
 ·let⟨x,C,e1,e2,e3,e4⟩:=(h _ (dN e)).2 x;show Cls K (cb K cn c);rw[lS e1 e2];exact e3
 ·let⟨x,C,e1,e2,e3,e4⟩:=(h _ (dN e)).2 x;show dW K (cb K cn c) f;rw[lS e1 e2];exact e4 f hf
theorem zQ (h:∀q∈cls,∀p∈q.2.meths,q.2.exc=false/\vm K ds cn q.1 p):∀(c:Nat) k',cls.lookup c=some k'->∀p∈k'.meths,k'.exc=false/\vm K ds cn c p:=λc k' e p hp=>h _ (dN e) p hp
theorem G7 (h:∀q∈cls,q.2.exc=true->q.2.flds=[]):∀f,D.fx.contains f=true->∀(c:Nat) k,(fg D ds cls w).cl c=some k->f∈k.flds->k.exc=false:=λf _ c k e hf=>by
 cases x:k.exc with
 |false=>rfl
 |true=>
  have:=h _ (dN e) x;rw[this] at hf;cases hf
end
end PI
namespace PI
open PySem
theorem ax {P:Pg} {f:Nat} {d:Fn} (h:P.fn f=some d) (n:Nat) (xs:List Val) (st:aa) (hl:xs.length=d.np):call P (n+1) f xs st=(aK P (call P n) d.body (xs.map some++List.replicate (d.ns-d.np) none) st).fin P st:=by
 show Ao P (call P n) xs st (P.fn f)=_;rw[h];exact bo hl
@[simp]theorem JO (P:Pg) (st:aa) (v:Val) (h:v.aB st st.length st.length=some v) (hr:isRef v=none):fin P st v st= .ok v st:=by
 unfold fin;rw[if_pos (za st),hr];show (R.ak (v.aB st st.length st.length) st).bind _=_;rw[h];simp
theorem fL (P:Pg) (st st':aa) (v v':Val) (ho:Old st st') (h:v.aB st' st.length st'.length=some v') (hr:isRef v=none):fin P st v st'= .ok v' (st'.take st.length):=by
 unfold fin;rw[if_pos ho,hr];show (R.ak (v.aB st' st.length st'.length) st').bind _=_;rw[h];simp
@[simp]theorem Mz (st:aa) (n x:Nat) (b:Bool):(Val.bl b).aB st n x=some (.bl b):=by simp[Val.aB,Val.sub]
@[simp]theorem Lu (st:aa) (n x:Nat) (b:Int):(Val.int b).aB st n x=some (.int b):=by simp[Val.aB,Val.sub]
@[simp]theorem Ld (st:aa) (n x:Nat):Val.non.aB st n x=some .non:=by simp[Val.aB,Val.sub]
@[simp]theorem Ls (st:aa) (n x:Nat) (f:Bool) (xs:List Val):(Val.tup f xs).aB st n x=(aS st n x xs).map λxs=> .tup f xs:=by simp[Val.aB,Val.sub,aS]
@[simp]theorem Kj (st:aa) (n x:Nat):aS st n x []=some []:=by simp[aS,subs]
@[simp]theorem Ih (st:aa) (n x:Nat) (v:Val) (r:List Val):aS st n x (v::r)=(v.aB st n x).bind λv=>(aS st n x r).map λr=>v::r:=by simp[Val.aB,subs,aS]
@[simp]theorem HZ {α:Type} (r:R α):iff True r=r:=if_pos trivial
@[simp]theorem MA (t b:Bool) (st:aa):jd t (R.ok (Val.bl true) st) (R.ok (Val.bl b) st)=R.ok (Val.bl (t||b)) st:=by cases t<;>rfl
@[simp]theorem LY (t b:Bool) (st:aa):jd t (R.ok (Val.bl b) st) (R.ok (Val.bl false) st)=R.ok (Val.bl (t&&b)) st:=by cases t<;>rfl
@[simp]theorem bx (st:aa):Kept [] st:=λ_ h=>by cases h
theorem Bb (st:aa):Old [] st:=⟨aaV _,λi o h _=>absurd h (Nat.not_lt_zero _)⟩
@[simp]theorem Ig (P:Pg) (st:aa) (b:Bool):fin P [] (.bl b) st= .ok (.bl b) []:=by
 have:=fL P [] st (.bl b) (.bl b) (Bb st) (by simp) rfl;simpa using this
@[simp]theorem JM (i j:Int) (st:aa) (h:0<j):pR i j st= .ok (.int (i % j)) st:=by
 unfold pR;rw[bo (by lia),Int.fmod_eq_emod_of_nonneg _ (by lia)]
@[simp]theorem rq (i j:Int) (st:aa) (h:0<j) (hb:j<2^64):qF i j st= .ok (.int (i/j)) st:=by
 unfold qF
 have:big j:=by
  unfold big;exact aao (show j.natAbs<2^64 by lia) (Nat.pow_le_pow_right (by lia) (by lia))
 rw[bo ⟨by lia,this⟩,Int.fdiv_eq_ediv_of_nonneg _ (by lia)]
@[simp]theorem MU (i j:Int) (st:aa) (h:j.natAbs<2^64):qf i j st= .ok (.int (i*j)) st:=bo (.inr (.inl h))
@[simp]theorem MW (i j:Int) (st:aa) (h:i.natAbs<2^64):qf i j st= .ok (.int (i*j)) st:=bo (.inl h)
@[simp]theorem Mb (n:Int) (st:aa) (h0:0<=n) (h1:n<16777216):uU (.int n) st= .ok (aY 0 n.toNat,[]) st:=bo ⟨by lia,by lia⟩
theorem xT (ns:List Int) (i:Int) (h0:0<=i) (h1:i<ns.length):kz (ns.map .int) i=some (.int (ns.getD i.toNat 0)):=by
 have l:i.toNat<ns.length:=by lia
 unfold kz i9;rw[aay,if_pos h0,if_pos h1];show (ns.map Val.int)[i.toNat]?=_;rw[aaO,aac l,aax,aac l];rfl
@[simp high] theorem JI (ns:List Int) (i:Int) (st:aa) (h0:0<=i) (h1:i<ns.length):de (.lst (ns.map .int)) (.int i) st= .ok (.int (ns.getD i.toNat 0)) st:=by
 show R.ak (kz _ i) st=_;rw[xT ns i h0 h1];rfl
noncomputable def Rest (P:Pg) (cl:ar) (ss:List S) (env:Env) (st:aa):F:=aK P cl ss env st
noncomputable def En (P:Pg) (cl:ar) (a b:List S) (env:Env) (t:Bool) (st:aa):F:=Ad t (aK P cl a env st) (aK P cl b env st)
noncomputable def fW (P:Pg) (cl:ar) (b:List S) (env:Env) (st:aa):F:=aK P cl b env st
noncomputable def Lp (P:Pg) (cl:ar) (t:T) (b:List S) (env:Env) (it:List Val×List (Nat×Ob)) (st:aa):F:=forL t (fW P cl b) it.2 it.1 env st
section
variable (P:Pg) (cl:ar) (env:Env) (st:aa)
@[simp]theorem MJ:aK P cl [] env st= .next env st:=rfl
@[simp]theorem Ci (s:S) (ss:List S):aK P cl (s::ss) env st=(s.run P cl env st).bind (Rest P cl ss):=rfl
@[simp]theorem ki (ss:List S):(F.next env st).bind (Rest P cl ss)=aK P cl ss env st:=rfl
@[simp]theorem Ji (ss:List S):Rest P cl ss env st=aK P cl ss env st:=rfl
@[simp]theorem Mx (b:List S):fW P cl b env st=aK P cl b env st:=rfl
@[simp]theorem bra_t (a b:List S):En P cl a b env true st=aK P cl a env st:=rfl
@[simp]theorem bra_f (a b:List S):En P cl a b env false st=aK P cl b env st:=rfl
@[simp]theorem lp_at (t:T) (b:List S) (xs:List Val) (c:List (Nat×Ob)):Lp P cl t b env (xs,c) st=forL t (fW P cl b) c xs env st:=rfl
@[simp]theorem s_set (t:T) (e:E):(S.set t e).run P cl env st=F.of env (e.run P cl env st) λx st=>F.ak st (t.put x env):=rfl
@[simp]theorem MD (o i e:E):(S.dA o i e).run P cl env st=F.of env ((e.run P cl env st).bind λx st=>(o.run P cl env st).bind λy st=>(i.run P cl env st).bind λz st=>PI.dA z x y st) λ_ st=> .next env st:=rfl
@[simp]theorem MT (o e:E) (f:Str):(S.di o f e).run P cl env st=F.of env ((e.run P cl env st).bind λx st=>(o.run P cl env st).bind λy st=>PI.di P f x y st) λ_ st=> .next env st:=rfl
@[simp]theorem MF (e:E):(S.expr e).run P cl env st=F.of env (e.run P cl env st) λ_ st=> .next env st:=rfl
@[simp]theorem s_ret (e:E):(S.ret e).run P cl env st=F.of env (e.run P cl env st) λx st=> .ret x st:=rfl
@[simp]theorem s_ife (c:E) (a b:List S):(S.ife c a b).run P cl env st=F.of env (runC P cl (some c) env st) (En P cl a b env):=rfl
@[simp]theorem s_for (t:T) (q:Q) (b:List S):(S.for t q b).run P cl env st=F.of env (q.run P cl env st) (Lp P cl t b env):=rfl
end
noncomputable def Nx (t:T) (body:Env->aa->F) (vs:List Val) (env:Env) (st:aa):F:=forL t body [] vs env st
@[simp]theorem nx_at (t:T) (body:Env->aa->F) (vs:List Val) (env:Env) (st:aa):Nx t body vs env st=forL t body [] vs env st:=rfl
open Classical in
@[simp]theorem LR (t:T) (body:Env->aa->F) (env:Env) (st:aa):forL t body [] [] env st= .next env st:=ik (bx st)
open Classical in
@[simp]theorem Jx (t:T) (body:Env->aa->F) (v:Val) (vs:List Val) (env:Env) (st:aa):forL t body [] (v::vs) env st=(F.ak st (t.put v env)).bind λenv st=>(body env st).turn (Nx t body vs):=ik (bx st)
open Classical in
theorem sF {t:T} {body:Env->aa->F} {chk:List (Nat×Ob)} (I:Nat->Env->aa->Prop):∀(items:List Val) (j:Nat) (env:Env) (st:aa),I j env st->(∀i env st,I i env st->Kept chk st)->
  (∀i v env st,items[i]?=some v->I (j+i) env st->∃env1,t.put v env=some env1/\∃env' st',(body env1 st= .next env' st'∨body env1 st= .cont env' st')/\I (j+i+1) env' st')->
  ∃env' st',forL t body chk items env st= .next env' st'/\I (j+items.length) env' st'
 |[],j,env,st,h,hk,_=>⟨env,st,ik (hk j env st h),h⟩
 |v::vs,j,env,st,h,hk,hs=>by
  let⟨env1,e1,env2,st2,e2,h2⟩:=hs 0 v env st rfl h
  let⟨env3,st3,e3,h3⟩:=sF I vs (j+1) env2 st2 h2 hk λi w env st e q=>by
   have:=hs (i+1) w env st e (by rw[show j+(i+1)=j+1+i by lia];exact q);rwa[show j+(i+1)+1=j+1+i+1 by lia] at this
  refine⟨env3,st3, ?_,by rw[show j+(v::vs).length=j+1+vs.length by simp;lia];exact h3⟩;show jh (Kept chk st) ((F.ak st (t.put v env)).bind λenv st=>(body env st).turn λenv st=>forL t body chk vs env st)=_;rw[ik (hk j env st h),e1];show (body env1 st).turn (λenv st=>forL t body chk vs env st)=_
  rcases e2 with e2|e2<;>rw[e2]<;>exact e3
theorem pS {t:T} {body:Env->aa->F} {chk:List (Nat×Ob)} (I:Nat->Env->aa->Prop) (items:List Val) (env:Env) (st:aa) (h:I 0 env st) (hk:∀i env st,I i env st->Kept chk st)
  (hs:∀i v env st,items[i]?=some v->I i env st->∃env1,t.put v env=some env1/\∃env' st',(body env1 st= .next env' st'∨body env1 st= .cont env' st')/\I (i+1) env' st'):
  ∃env' st',forL t body chk items env st= .next env' st'/\I items.length env' st':=by
 let⟨env',st',e,q⟩:=sF I items 0 env st h hk λi v env st e q=>by
  have:=hs i v env st e (by rwa[acm] at q);rwa[acm]
 exact⟨env',st',e,by rwa[acm] at q⟩
@[simp]theorem zN:∀(n:Nat) (lo:Int),(aY lo n).length=n
 |0,_=>rfl
 |n+1,lo=>by unfold aY;rw[aar,zN n]
theorem qN:∀(n:Nat) (lo:Int) (i:Nat) (v:Val),(aY lo n)[i]?=some v->v= .int (lo+i)/\i<n
 |0,_,_,_,h=>by cases h
 |n+1,lo,0,v,h=>by
  cases h;exact⟨by simp,by lia⟩
 |n+1,lo,i+1,v,h=>by
  let⟨h1,h2⟩:=qN n (lo+1) i v h;exact⟨by rw[h1];congr 1;push_cast;lia,by lia⟩
noncomputable abbrev rz:S:= .augI (.const .non) (.const .non) .Add (.const .non)
noncomputable def ir3:Fn:=⟨5,5,[.ife (.cmp .Eq (.bi .len [.var 1]) (.ci 0)) [rz] [],
 .ife (.or (.cmp .Lt (.var 3) (.ci 0)) (.cmp .Lt (.var 4) (.ci 0))) [rz] [],
 .di (.var 0) "bays" (.bi .tuple [.comp 1 [] (.var 0) (.val (.var 1)) none (.call 4 [.var 0])]),
 .di (.var 0) "foes" (.bi .tuple [.comp 1 [] (.var 0) (.val (.var 2)) none (.bi .tuple [.var 0])]),
 .di (.var 0) "trim" (.var 3),
 .di (.var 0) "heel" (.var 4)]⟩
noncomputable def DX:Fn:=⟨1,2,[.set (.var 1) (.idx (.var 0) (.ci 1)),
 .ife (.cmp .Eq (.bi .len [.var 1]) (.ci 0)) [rz] [],
 .ret (.tup [.idx (.var 0) (.ci 0), .bi .tuple [.comp 1 [] (.var 0) (.val (.var 1)) none (.call 5 [.var 0])]])]⟩
noncomputable def z9:Fn:=⟨1,1,[.ret (.tup [.idx (.var 0) (.ci 0), .call 6 [.idx (.var 0) (.ci 1)], .call 6 [.idx (.var 0) (.ci 2)]])]⟩
noncomputable def vq:Fn:=⟨1,1,[.ret (.call 7 [.idx (.var 0) (.ci 0), .idx (.var 0) (.ci 1), .idx (.var 0) (.ci 2), .bi .tuple [.idx (.var 0) (.ci 3)], .idx (.var 0) (.ci 4)])]⟩
noncomputable def ua:Fn:=⟨5,5,[.ife (.or (.cmp .Lt (.var 0) (.ci 0)) (.cmp .Gt (.var 0) (.ci 9))) [rz] [],
 .ife (.or (.cmp .Lt (.var 1) (.ci 0)) (.or (.cmp .Lt (.var 2) (.ci 0)) (.cmp .Lt (.var 4) (.ci 0)))) [rz] [],
 .ife (.not (.call 8 [.var 3, .var 0])) [rz] [],
 .ret (.tup [.var 0, .var 1, .var 2, .var 3, .var 4])]⟩
noncomputable def qm:Fn:=⟨2,4,[.set (.var 2) (.ci 0),
 .for (.var 3) (.val (.var 0)) [.ife (.or (.cmp .Lt (.var 3) (.var 2)) (.cmp .GtE (.var 3) (.var 1))) [.ret (.const (.bl false))] [], .set (.var 2) (.bin .Add (.var 3) (.ci 1))],
 .ret (.const (.bl true))]⟩
noncomputable def ir9:Fn:=⟨1,5,[.set (.var 1) (.lst []),
 .for (.var 2) (.rng1 (.bi .len [.fld (.var 0) "bays"])) [.set (.var 3) (.bi .len [.idx (.idx (.fld (.var 0) "bays") (.var 2)) (.ci 1)]), .for (.var 4) (.val (.tup [.ci 0, .ci 1])) [.expr (.bm .extend (.var 1) [.comp 1 [2,4] (.var 0) (.rng1 (.var 3)) none (.tup [.var 1, .var 0, .var 2])])]],
 .ret (.var 1)]⟩
noncomputable def rE:Fn:=⟨2,2,[.ret (.comp 1 [1] (.var 0) (.rng1 (.idx (.call 12 [.var 0, .var 1]) (.ci 0))) none (.bin .Add (.var 1) (.tup [.var 0])))]⟩
noncomputable def Fj:Fn:=⟨2,2,[.ret (.idx (.call 13 [.var 0, .var 1]) (.bin .Add (.ci 1) (.idx (.var 1) (.ci 2))))]⟩
noncomputable def Dy:Fn:=⟨2,2,[.ife (.not (.call 14 [.var 0, .var 1])) [rz] [],
 .ret (.idx (.idx (.idx (.fld (.var 0) "bays") (.idx (.var 1) (.ci 0))) (.ci 1)) (.idx (.var 1) (.ci 1)))]⟩
noncomputable def DN:Fn:=⟨2,2,[.ife (.or (.cmp .Lt (.idx (.var 1) (.ci 0)) (.ci 0)) (.cmp .GtE (.idx (.var 1) (.ci 0)) (.bi .len [.fld (.var 0) "bays"]))) [.ret (.const (.bl false))] [],
 .ife (.or (.cmp .Lt (.idx (.var 1) (.ci 1)) (.ci 0)) (.cmp .GtE (.idx (.var 1) (.ci 1)) (.bi .len [.idx (.idx (.fld (.var 0) "bays") (.idx (.var 1) (.ci 0))) (.ci 1)]))) [.ret (.const (.bl false))] [],
 .ret (.cmp .In (.idx (.var 1) (.ci 2)) (.tup [.ci 0, .ci 1]))]⟩
noncomputable def Es:Fn:=⟨2,4,[.dA (.var 1) (.ci 0) (.bin .Add (.idx (.var 1) (.ci 0)) (.ci 1)),
 .set (.var 2) (.ci 0),
 .ife (.cmp .Gt (.bi .len [.var 0]) (.ci 0)) [.set (.var 2) (.idx (.var 0) (.bin .Mod (.idx (.var 1) (.ci 0)) (.bi .len [.var 0])))] [],
 .set (.var 3) (.bin .Mod (.bin .Mult (.bin .Add (.bin .Add (.bin .Mod (.var 2) (.ci 2147483647)) (.bin .Mult (.bin .Mult (.idx (.var 1) (.ci 0)) (.idx (.var 1) (.ci 0))) (.ci 7919))) (.ci 11)) (.ci 48271)) (.ci 2147483647)),
 .ret (.bin .Mod (.bin .Mult (.var 3) (.var 3)) (.ci 1999999973))]⟩
noncomputable def Fb:Fn:=⟨3,6,[.set (.var 3) (.call 15 [.var 0, .var 1]),
 .set (.var 4) (.bin .Mod (.var 3) (.bin .Add (.var 2) (.ci 1))),
 .set (.var 5) (.comp 1 [3] (.var 0) (.rng1 (.var 4)) (some (.cmp .Gt (.bin .Mod (.bin .FloorDiv (.bin .FloorDiv (.var 1) (.ci 10)) (.bin .Add (.bin .Mult (.var 0) (.var 0)) (.ci 1))) (.ci 3)) (.ci 0))) (.var 0)),
 .ret (.tup [.var 4, .bin .Add (.ci 5) (.bin .Mod (.bin .FloorDiv (.var 3) (.ci 7)) (.ci 40)), .bin .Add (.ci 5) (.bin .Mod (.bin .FloorDiv (.var 3) (.ci 300)) (.ci 30)), .var 5, .bin .Mod (.bin .FloorDiv (.var 3) (.ci 9000)) (.ci 60)])]⟩
noncomputable def FE:Fn:=⟨2,3,[.set (.var 2) (.slc (.var 1) none (some (.ci 3))),
 .ret (.and (.call 14 [.var 0, .var 2]) (.and (.cmp .GtE (.idx (.var 1) (.ci 3)) (.ci 0)) (.cmp .Lt (.idx (.var 1) (.ci 3)) (.idx (.call 12 [.var 0, .var 2]) (.ci 0)))))]⟩
noncomputable def DK:Fn:=⟨1,1,[.ret (.tup [.idx (.var 0) (.ci 0), .idx (.var 0) (.ci 2), .idx (.var 0) (.ci 1), .idx (.var 0) (.ci 3)])]⟩
noncomputable def DQ:Fn:=⟨3,3,[.di (.var 0) "ship" (.var 1),
 .di (.var 0) "placed" (.bi .tuple [.sortK (.var 2) 34]),
 .di (.var 0) "box_by_cell" (.fz (.dOf (.fld (.var 0) "placed"))),
 .di (.var 0) "cell_by_name" (.fz (.dOf (.comp 2 [] (.tup [.var 0, .var 1]) (.val (.fld (.var 0) "placed")) none (.tup [.idx (.var 1) (.ci 0), .var 0])))),
 .expr (.call 35 [.var 0])]⟩
noncomputable def Dh:Fn:=⟨1,1,[.ret (.call 32 [.idx (.var 0) (.ci 0)])]⟩
noncomputable def Di:Fn:=⟨1,2,[.ife (.cmp .Lt (.bi .len [.fld (.var 0) "box_by_cell"]) (.bi .len [.fld (.var 0) "placed"])) [rz] [],
 .ife (.cmp .Lt (.bi .len [.fld (.var 0) "cell_by_name"]) (.bi .len [.fld (.var 0) "placed"])) [rz] [],
 .for (.var 1) (.val (.fld (.var 0) "box_by_cell")) [.ife (.not (.call 31 [.fld (.var 0) "ship", .var 1])) [rz] [], .ife (.not (.call 36 [.var 0, .var 1])) [rz] []]]⟩
noncomputable def C5:Fn:=⟨2,2,[.ret (.or (.cmp .Eq (.idx (.var 1) (.ci 3)) (.ci 0)) (.cmp .IsNot (.call 37 [.var 0, .bin .Add (.slc (.var 1) none (some (.ci 3))) (.tup [.bin .Sub (.idx (.var 1) (.ci 3)) (.ci 1)])]) (.const (.non))))]⟩
noncomputable def Ej:Fn:=⟨2,2,[.ret (.bm .get (.fld (.var 0) "box_by_cell") [.var 1])]⟩
noncomputable def zD:Fn:=⟨2,3,[.set (.var 2) (.call 11 [.fld (.var 0) "ship", .var 1]),
 .ret (.bi .len [.comp 1 [0] (.var 0) (.val (.var 2)) (some (.cmp .IsNot (.call 37 [.var 1, .var 0]) (.const (.non)))) (.var 0)])]⟩
noncomputable def Ex:Fn:=⟨3,11,[.set (.var 3) (.const (.str "abcdefghijklmnopqrstuvwxyz")),
 .set (.var 4) (.call 15 [.var 0, .var 1]),
 .set (.var 5) (.bin .Add (.idx (.var 3) (.bin .Mod (.bin .FloorDiv (.var 4) (.ci 6)) (.ci 26))) (.idx (.var 3) (.bin .Mod (.bin .FloorDiv (.var 4) (.ci 156)) (.ci 26)))),
 .set (.var 6) (.idx (.lst [.ci 1, .ci 3, .ci 5, .ci 7, .ci 9, .ci 11]) (.bin .Mod (.var 4) (.ci 6))),
 .set (.var 7) (.bin .Mod (.bin .FloorDiv (.var 4) (.ci 4056)) (.ci 3)),
 .set (.var 8) (.lst []),
 .for (.var 9) (.rng1 (.var 2)) [.set (.var 10) (.idx (.var 3) (.bin .Mod (.bin .Add (.bin .FloorDiv (.var 4) (.ci 156)) (.bin .Mult (.var 9) (.var 6))) (.ci 26))), .ife (.and (.cmp .Eq (.bin .Mod (.bin .FloorDiv (.var 4) (.ci 12168)) (.ci 4)) (.ci 0)) (.cmp .Lt (.var 2) (.ci 13))) [.expr (.bm .append (.var 8) [.bin .Mult (.idx (.var 3) (.bin .Mod (.bin .FloorDiv (.var 4) (.ci 6)) (.ci 26))) (.bin .Add (.var 9) (.ci 1))])] [.expr (.bm .append (.var 8) [.bin .Add (.bin .Add (.slc (.var 5) none (some (.var 7))) (.var 10)) (.slc (.var 5) (some (.var 7)) none)])]],
 .ret (.var 8)]⟩
noncomputable def Dz:Fn:=⟨5,14,[.set (.var 5) (.lst []),
 .for (.var 6) (.rng1 (.bin .Add (.ci 1) (.bin .Mod (.call 15 [.var 0, .var 1]) (.var 2)))) [.set (.var 7) (.lst []), .for (.var 8) (.rng1 (.bin .Add (.ci 1) (.bin .Mod (.call 15 [.var 0, .var 1]) (.var 3)))) [.set (.var 9) (.bin .Sub (.bin .Mod (.call 15 [.var 0, .var 1]) (.ci 9)) (.ci 4)), .set (.var 10) (.call 17 [.var 0, .var 1, .var 4]), .expr (.bm .append (.var 7) [.tup [.var 9, .var 10, .call 17 [.var 0, .var 1, .var 4]]])], .expr (.bm .append (.var 5) [.tup [.bin .Sub (.bin .Mod (.call 15 [.var 0, .var 1]) (.ci 21)) (.ci 10), .var 7]])],
 .set (.var 11) (.call 15 [.var 0, .var 1]),
 .set (.var 12) (.lst [.const (.str "dry"), .const (.str "wet"), .const (.str "hot")]),
 .set (.var 13) (.slc (.lst [.tup [.idx (.var 12) (.bin .Mod (.var 11) (.ci 3)), .idx (.var 12) (.bin .Mod (.bin .FloorDiv (.var 11) (.ci 3)) (.ci 3))], .tup [.idx (.var 12) (.bin .Mod (.bin .FloorDiv (.var 11) (.ci 9)) (.ci 3)), .const (.str "oil")]]) none (some (.bin .Mod (.bin .FloorDiv (.var 11) (.ci 27)) (.ci 3)))),
 .ret (.make 9 [.var 5, .var 13, .bin .Mod (.bin .FloorDiv (.var 11) (.ci 81)) (.ci 200), .bin .Mod (.bin .FloorDiv (.var 11) (.ci 16200)) (.ci 100)])]⟩
noncomputable def Fv:Fn:=⟨3,5,[.set (.var 3) (.call 15 [.var 0, .var 1]),
 .set (.var 4) (.idx (.lst [.const (.str "dry"), .const (.str "wet"), .const (.str "hot"), .const (.str "oil")]) (.bin .Mod (.var 3) (.ci 4))),
 .ret (.tup [.var 2, .bin .Mod (.bin .FloorDiv (.var 3) (.ci 4)) (.ci 12), .bin .Mod (.bin .FloorDiv (.var 3) (.ci 48)) (.ci 9), .bi .int [.cmp .Eq (.bin .Mod (.bin .FloorDiv (.var 3) (.ci 432)) (.ci 4)) (.ci 0)], .var 4, .bin .Mod (.bin .FloorDiv (.var 3) (.ci 1728)) (.ci 5)])]⟩
noncomputable def Fm:Fn:=⟨3,3,[.ret (.comp 1 [1,0] (.var 0) (.val (.call 40 [.var 0, .var 1, .var 2])) none (.call 42 [.var 2, .var 1, .var 0]))]⟩
noncomputable def EB:Fn:=⟨4,10,[.set (.var 4) (.dct [] []),
 .set (.var 5) (.lst []),
 .set (.var 6) (.call 9 [.var 2]),
 .for (.var 7) (.val (.var 3)) [.set (.var 8) (.idx (.var 6) (.bin .Mod (.call 15 [.var 0, .var 1]) (.bi .len [.var 6]))), .set (.var 9) (.bm .get (.var 4) [.var 8, .ci 0]), .ife (.cmp .Lt (.var 9) (.idx (.call 12 [.var 2, .var 8]) (.ci 0))) [.dA (.var 4) (.var 8) (.bin .Add (.var 9) (.ci 1)), .expr (.bm .append (.var 5) [.tup [.bin .Add (.var 8) (.tup [.var 9]), .var 7]])] []],
 .ret (.var 5)]⟩
noncomputable def AS:Fn:=⟨2,2,[.ret (.not (.bi .any [.comp 2 [1] (.tup [.var 0, .var 1]) (.val (.fld (.var 0) "placed")) none (.and (.cmp .Eq (.idx (.var 0) (.ci 0)) (.var 2)) (.cmp .Eq (.idx (.var 0) (.ci 2)) (.ci 1)))]))]⟩
noncomputable def z8:Fn:=⟨1,1,[.ret (.comp 1 [0] (.var 0) (.val (.call 9 [.fld (.var 0) "ship"])) (some (.call 118 [.var 1, .var 0])) (.bin .Add (.var 0) (.tup [.call 39 [.var 1, .var 0]])))]⟩
noncomputable def A2:Fn:=⟨2,2,[.ife (.cmp .Eq (.call 39 [.var 0, .var 1]) (.idx (.call 12 [.fld (.var 0) "ship", .var 1]) (.ci 0))) [.ret (.const (.bl false))] [],
 .ret (.or (.cmp .Eq (.idx (.var 1) (.ci 2)) (.ci 1)) (.call 116 [.var 0, .idx (.var 1) (.ci 0)]))]⟩
noncomputable def iS:Fn:=⟨2,2,[.ife (.bi (.bM "dict") [.var 1]) [.ife (.or (.not (.bi (.bM "dict") [.var 0])) (.cmp .NotEq (.bi .len [.var 0]) (.bi .len [.var 1]))) [.ret (.const (.bl false))] [], .ret (.bi .all [.comp 1 [1,0] (.var 0) (.val (.var 1)) none (.and (.cmp .In (.var 0) (.var 2)) (.call 119 [.idx (.var 2) (.var 0), .idx (.var 1) (.var 0)]))])] [],
 .ife (.or (.bi (.bM "list") [.var 1]) (.bi (.bM "tuple") [.var 1])) [.ife (.and (.bi (.bM "list") [.var 1]) (.not (.bi (.bM "list") [.var 0]))) [.ret (.const (.bl false))] [], .ife (.or (.and (.bi (.bM "tuple") [.var 1]) (.not (.bi (.bM "tuple") [.var 0]))) (.cmp .NotEq (.bi .len [.var 0]) (.bi .len [.var 1]))) [.ret (.const (.bl false))] [], .ret (.bi .all [.comp 2 [] (.tup [.var 0, .var 1]) (.zip (.var 0) (.var 1)) none (.call 119 [.var 0, .var 1])])] [],
 .ife (.bi (.bM "str") [.var 1]) [.ret (.and (.bi (.bM "str") [.var 0]) (.cmp .Eq (.var 0) (.var 1)))] [],
 .ret (.and (.bi (.bM "int") [.var 0]) (.and (.not (.bi (.bM "bool") [.var 0])) (.cmp .Eq (.var 0) (.var 1))))]⟩
noncomputable def Ag:Fn:=⟨3,6,[.set (.var 3) (.call 15 [.var 0, .var 1]),
 .set (.var 4) (.lst []),
 .for (.var 5) (.val (.var 2)) [.ife (.or (.cmp .Eq (.idx (.idx (.var 5) (.ci 0)) (.ci 2)) (.ci 0)) (.cmp .Eq (.bin .Mod (.bin .FloorDiv (.var 3) (.bin .Add (.idx (.idx (.var 5) (.ci 0)) (.ci 0)) (.ci 1))) (.ci 3)) (.ci 0))) [.expr (.bm .append (.var 4) [.var 5])] []],
 .ret (.var 4)]⟩
noncomputable def AR:Fn:=⟨2,9,[.set (.var 2) (.dct [] []),
 .set (.var 3) (.dct [] []),
 .for (.tup [.var 4, .var 5]) (.val (.var 1)) [.dA (.var 3) (.slc (.var 4) none (some (.ci 3))) (.bin .Add (.bm .get (.var 3) [.slc (.var 4) none (some (.ci 3)), .ci 0]) (.ci 1)), .ife (.cmp .Eq (.idx (.var 4) (.ci 2)) (.ci 1)) [.dA (.var 2) (.idx (.var 4) (.ci 0)) (.const (.bl true))] []],
 .set (.var 6) (.lst []),
 .for (.var 7) (.val (.call 9 [.var 0])) [.set (.var 8) (.bm .get (.var 3) [.var 7, .ci 0]), .ife (.and (.cmp .Lt (.var 8) (.idx (.call 12 [.var 0, .var 7]) (.ci 0))) (.or (.cmp .Eq (.idx (.var 7) (.ci 2)) (.ci 1)) (.cmp .NotIn (.idx (.var 7) (.ci 0)) (.var 2)))) [.expr (.bm .append (.var 6) [.bin .Add (.var 7) (.tup [.var 8])])] []],
 .ret (.var 6)]⟩
noncomputable def Ar:Fn:=⟨2,13,[.set (.var 2) (.call 41 [.var 0, .var 1, .ci 3, .ci 3, .ci 4]),
 .set (.var 3) (.call 43 [.var 0, .var 1, .bin .Mod (.call 15 [.var 0, .var 1]) (.ci 13)]),
 .set (.var 4) (.call 120 [.var 0, .var 1, .call 44 [.var 0, .var 1, .var 2, .var 3]]),
 .set (.var 5) (.make 10 [.var 2, .var 4]),
 .set (.var 6) (.call 121 [.var 2, .var 4]),
 .set (.var 7) (.call 117 [.var 5]),
 .ife (.not (.call 119 [.var 7, .var 6])) [.ret (.const (.bl false))] [],
 .set (.var 8) (.call 15 [.var 0, .var 1]),
 .ife (.cmp .Gt (.bi .len [.var 6]) (.ci 0)) [.set (.var 9) (.bin .Add (.var 4) (.lst [.tup [.idx (.var 6) (.bin .Mod (.var 8) (.bi .len [.var 6])), .tup [.const (.str "strange"), .ci 1, .ci 1, .ci 0, .const (.str "dry"), .ci 1]]])), .ife (.not (.call 119 [.call 117 [.make 10 [.var 2, .var 9]], .call 121 [.var 2, .var 9]])) [.ret (.const (.bl false))] []] [],
 .ife (.cmp .Gt (.bi .len [.var 4]) (.ci 0)) [.set (.var 10) (.slc (.idx (.idx (.var 4) (.bin .Mod (.bin .FloorDiv (.var 8) (.ci 60)) (.bi .len [.var 4]))) (.ci 0)) none (some (.ci 3))), .set (.var 11) (.comp 1 [10] (.var 0) (.val (.var 4)) (some (.cmp .Eq (.slc (.idx (.var 0) (.ci 0)) none (some (.ci 3))) (.var 1))) (.var 0)), .set (.var 12) (.comp 1 [10,11] (.var 0) (.val (.var 4)) (some (.cmp .NotEq (.idx (.var 0) (.ci 0)) (.bin .Add (.var 1) (.tup [.bin .Sub (.bi .len [.var 2]) (.ci 1)])))) (.var 0)), .ife (.not (.call 119 [.call 117 [.make 10 [.var 2, .var 12]], .call 121 [.var 2, .var 12]])) [.ret (.const (.bl false))] []] [],
 .ife (.or (.not (.call 119 [.call 117 [.var 5], .var 6])) (.not (.call 119 [.var 7, .var 6]))) [.ret (.const (.bl false))] [],
 .expr (.bm .append (.var 7) [.tup [.ci 0, .ci 0, .ci 0, .ci 0]]),
 .expr (.bm .reverse (.var 7) []),
 .ret (.call 119 [.call 117 [.var 5], .var 6])]⟩
noncomputable def AI:Fn:=⟨1,3,[.set (.var 1) (.lst [.ci 0]),
 .for (.var 2) (.rng1 (.bin .Add (.ci 1) (.bi .min [.ci 3, .bin .FloorDiv (.bi .len [.var 0]) (.ci 16)]))) [.ife (.not (.call 122 [.var 0, .var 1])) [.ret (.const (.bl false))] []],
 .ret (.const (.bl true))]⟩
mutual
noncomputable def Val.tree:Val->Bool
 | .tup _ xs=>trees xs
 | .lst xs=>trees xs
 | .dct ks vs=>trees ks&&trees vs
 | .obj _ _ vs=>trees vs
 | .ref _=>false
 | .non=>true
 | .bl _=>true
 | .int _=>true
 | .str _=>true
noncomputable def trees:List Val->Bool
 |[]=>true
 |v::r=>v.tree&&trees r
end
@[simp]theorem KH:Val.non.tree=true:=by simp only[Val.tree]
@[simp]theorem Lh (b:Bool):(Val.bl b).tree=true:=by simp only[Val.tree]
@[simp]theorem Ks (b:Int):(Val.int b).tree=true:=by simp only[Val.tree]
@[simp]theorem Jm (b:Str):(Val.str b).tree=true:=by simp only[Val.tree]
@[simp]theorem JU (f:Bool) (xs:List Val):(Val.tup f xs).tree=trees xs:=by simp only[Val.tree]
@[simp]theorem Js (xs:List Val):(Val.lst xs).tree=trees xs:=by simp only[Val.tree]
@[simp]theorem JB (ks xs:List Val):(Val.dct ks xs).tree=(trees ks&&trees xs):=by simp only[Val.tree]
@[simp]theorem Kb (c:Nat) (ns:List Str) (xs:List Val):(Val.obj c ns xs).tree=trees xs:=by simp only[Val.tree]
@[simp]theorem Iz (k:Nat):(Val.ref k).tree=false:=by simp only[Val.tree]
@[simp]theorem HK:trees []=true:=by simp only[trees]
@[simp]theorem Gx (v:Val) (r:List Val):trees (v::r)=(v.tree&&trees r):=by simp only[trees]
@[simp]theorem xH:∀a b:List Val,trees (a++b)=(trees a&&trees b)
 |[],b=>by simp
 |v::a,b=>by simp[xH a b,Bool.and_assoc]
theorem ox:∀xs:List Val,trees xs=true↔∀v∈xs,v.tree=true
 |[]=>by simp
 |v::r=>by simp[ox r]
theorem aT {α:Type} (f:α->Val) (xs:List α) (h:∀a,(f a).tree=true):trees (xs.map f)=true:=by
 rw[ox];intro v hv;let⟨a,_,rfl⟩:=aaP.mp hv;exact h a
@[simp]theorem Hh (xs:List Int):trees (xs.map .int)=true:=aT _ _ λ_=>by simp
mutual
theorem rQ (f:Nat->Option Val):∀v:Val,v.tree=true->v.sub f=some v
 | .tup g xs,h=>by rw[Val.sub,cw f xs (by simpa using h)];rfl
 | .lst xs,h=>by rw[Val.sub,cw f xs (by simpa using h)];rfl
 | .dct ks vs,h=>by rw[Val.sub,cw f vs (by simp at h;exact h.2)];rfl
 | .obj c ns vs,h=>by rw[Val.sub,cw f vs (by simpa using h)];rfl
 | .ref k,h=>by simp at h
 | .non,_=>by simp[Val.sub]
 | .bl _,_=>by simp[Val.sub]
 | .int _,_=>by simp[Val.sub]
 | .str _,_=>by simp[Val.sub]
theorem cw (f:Nat->Option Val):∀xs:List Val,trees xs=true->subs f xs=some xs
 |[],_=>by simp[subs]
 |v::r,h=>by
  simp at h;rw[subs,rQ f v h.1,cw f r h.2];rfl
end
mutual
theorem Cy (n:Nat):∀v:Val,v.tree=true->v.bd n=true
 | .tup g xs,h=>by rw[Val.bd];exact dh n xs (by simpa using h)
 | .lst xs,h=>by rw[Val.bd];exact dh n xs (by simpa using h)
 | .dct ks vs,h=>by
  simp at h;rw[Val.bd,dh n ks h.1,dh n vs h.2];rfl
 | .obj c ns vs,h=>by rw[Val.bd];exact dh n vs (by simpa using h)
 | .ref k,h=>by simp at h
 | .non,_=>by simp[Val.bd]
 | .bl _,_=>by simp[Val.bd]
 | .int _,_=>by simp[Val.bd]
 | .str _,_=>by simp[Val.bd]
theorem dh (n:Nat):∀xs:List Val,trees xs=true->cN n xs=true
 |[],_=>by simp[cN]
 |v::r,h=>by
  simp at h;rw[cN,Cy n v h.1,dh n r h.2];rfl
end
theorem lF (st:aa) (n x:Nat) (v:Val) (h:v.tree=true):v.aB st n x=some v:=rQ _ v h
theorem bQ (st:aa) (n x:Nat) (vs:List Val) (h:trees vs=true):aS st n x vs=some vs:=cw _ vs h
theorem kU {v:Val} (h:v.tree=true):isRef v=none:=by cases v<;>first|rfl|simp at h
@[simp high] theorem zv (st:aa) (v:Val) (h:v.tree=true):res st v=v:=by cases v<;>first|rfl|simp at h
theorem fu (P:Pg) (st g:aa) (v:Val) (h:v.tree=true):fin P st v (st++g)= .ok v st:=by
 rw[fL P st _ v v (iq st g) (lF _ _ _ v h) (kU h)];simp
theorem eW (P:Pg) (st:aa) (v:Val) (h:v.tree=true):fin P st v st= .ok v st:=by
 have:=fu P st [] v h;simpa using this
theorem qU (z z':Int) (s g:aa):Old (.lst [.int z]::s) (.lst [.int z']::(s++g)):=by
 have:=sH (.lst [.int z]::s) g 0 (.lst [.int z']) (dh _ _ (by simp));simpa using this
theorem mW (P:Pg) (z z':Int) (s g:aa) (v:Val) (h:v.tree=true):fin P (.lst [.int z]::s) v (.lst [.int z']::(s++g))= .ok v (.lst [.int z']::s):=by
 rw[fL P _ _ v v (qU z z' s g) (lF _ _ _ v h) (kU h)];simp
theorem Bo (P:Pg) (z z':Int) (s:aa) (v:Val) (h:v.tree=true):fin P (.lst [.int z]::s) v (.lst [.int z']::s)= .ok v (.lst [.int z']::s):=by
 have:=mW P z z' s [] v h;simpa using this
theorem Cp (P:Pg) (z z':Int) (s g:aa) (v v':Val) (hr:isRef v=none) (h:v.aB (.lst [.int z']::(s++g)) (s.length+1) (s.length+1+g.length)=some v'):fin P (.lst [.int z]::s) v (.lst [.int z']::(s++g))= .ok v' (.lst [.int z']::s):=by
 rw[fL P _ _ v v' (qU z z' s g) (by rw[←h];congr 1;simp;lia) hr];simp
theorem j7 (P:Pg) (z z':Int) (s g:aa) (j:Nat) (xs ys:List Val) (hj:g[j]?=some (.lst xs)) (h:aS (.lst [.int z']::(s++g)) (s.length+1) (s.length+1+j) xs=some ys):fin P (.lst [.int z]::s) (.ref (s.length+1+j)) (.lst [.int z']::(s++g))= .ok (.ref (s.length+1)) (.lst [.int z']::(s++[.lst ys])):=by
 unfold fin;rw[if_pos (qU z z' s g)]
 have e:(Ob.lst [.int z']::(s++g))[s.length+1+j]?=some (.lst xs):=by
  rw[show s.length+1+j=(s.length+j)+1 by lia,ab0,aan (by lia)];rw[←hj];congr 1;lia
 simp[e,h]
theorem iE (P:Pg) (s g:aa) (j:Nat) (xs ys:List Val) (hj:g[j]?=some (.lst xs)) (h:aS (s++g) s.length (s.length+j) xs=some ys):fin P s (.ref (s.length+j)) (s++g)= .ok (.ref s.length) (s++[.lst ys]):=by
 unfold fin;rw[if_pos (iq s g)]
 have e:(s++g)[s.length+j]?=some (.lst xs):=by
  rw[aan (by lia),←hj];congr 1;lia
 simp[e,h]
@[simp]theorem tP (s g:aa) (j:Nat):(s++g)[s.length+j]?=g[j]?:=by
 rw[aan (by lia)];congr 1;lia
@[simp]theorem zi (s g:aa):(s++g)[s.length]?=g[0]?:=tP s g 0
@[simp]theorem BY (s g:aa) (j:Nat) (o:Ob):(s++g).set (s.length+j) o=s++g.set j o:=by
 rw[List.set_append_right _ _ (by lia)];congr 2;lia
def bK {α β:Type} (R:α->β->Prop):List α->List β->Prop
 |[],[]=>True
 |a::as,b::bs=>R a b/\bK R as bs
 |_,_=>False
theorem bK.imp {α β:Type} {R S:α->β->Prop} (h:∀a b,R a b->S a b):∀{as:List α} {bs:List β},bK R as bs->bK S as bs
 |[],[],_=>trivial
 |_::_,_::_,q=>⟨h _ _ q.1,q.2.imp h⟩
theorem bK.len {α β:Type} {R:α->β->Prop}:∀{as:List α} {bs:List β},bK R as bs->as.length=bs.length
 |[],[],_=>rfl
 |_::_,_::_,q=>by simp[q.2.len]
theorem bK.map {α β γ:Type} {R:γ->β->Prop} (f:α->γ) (g:α->β) (h:∀a,R (f a) (g a)):∀as:List α,bK R (as.map f) (as.map g)
 |[]=>trivial
 |a::as=>⟨h a,bK.map f g h as⟩
theorem bK.zm {α β γ:Type} {R:α->β->Prop} {S:α->γ->Prop} (f:β->γ) (h:∀a b,R a b->S a (f b)):∀{as:List α} {bs:List β},bK R as bs->bK S as (bs.map f)
 |[],[],_=>trivial
 |_::_,_::_,q=>⟨h _ _ q.1,q.2.zm f h⟩
theorem bK.of {α β:Type} {R S:α->β->Prop} {T:β->Prop} (h:∀a b,T b->R a b->S a b):∀{as:List α} {bs:List β},(∀b∈bs,T b)->bK R as bs->bK S as bs
 |[],[],_,_=>trivial
 |_::_,_::_,t,q=>⟨h _ _ (t _ (by simp)) q.1,q.2.of h λb hb=>t b (by simp[hb])⟩
open Classical in
theorem gp {f:Val->aa->R (Option Val)} {chk:List (Nat×Ob)} {st:aa} (hk:Kept chk st):∀{vs ys:List Val},bK (λv y=>f v st= .ok (some y) st) vs ys->aC f chk vs st= .ok ys st
 |[],[],_=>bo hk
 |v::vs,y::ys,⟨h,t⟩=>by
  show iff (Kept chk st) ((f v st).bind λo st=>(aC f chk vs st).bind λr st=> .ok (eO o r) st)=_;rw[bo hk,h];show (aC f chk vs st).bind _=_;rw[gp hk t];rfl
open Classical in
theorem dH {α:Type} {f:Val->aa->R (Option Val)} {chk:List (Nat×Ob)} {st:aa} (hk:Kept chk st) (g:α->Val) (y:α->Option Val):∀(xs:List α),(∀a∈xs,f (g a) st= .ok (y a) st)->aC f chk (xs.map g) st= .ok (xs.filterMap y) st
 |[],_=>bo hk
 |a::xs,h=>by
  show iff (Kept chk st) ((f (g a) st).bind λo st=>(aC f chk (xs.map g) st).bind λr st=> .ok (eO o r) st)=_;rw[bo hk,h a (by simp)];show (aC f chk (xs.map g) st).bind _=_;rw[dH hk g y xs λb hb=>h b (by simp[hb])];cases e:y a<;>simp[e,eO]
noncomputable def Tn (P:Pg) (cl:ar) (nw:Nat) (caps:List Nat) (t:T) (c:Option E) (e:E) (env:Env) (v:Val) (st:aa):R (Option Val):=aO (t.put v (az nw caps env)) (runC P cl c) (e.run P cl) st
@[simp high] theorem xW (P:Pg) (cl:ar) (nw:Nat) (caps:List Nat) (t:T) (q:Q) (c:Option E) (e:E) (env:Env) (st:aa):E.run P cl (.comp nw caps t q c e) env st=(q.run P cl env st).bind λit st=>iff (t.low nw=true/\it.1.length<=10000) ((aC (Tn P cl nw caps t c e env) it.2 it.1 st).bind λxs st=>new (.lst xs) st):=rfl
theorem hG (P:Pg) (cl:ar) (b:Bi) (nw:Nat) (caps:List Nat) (t:T) (q:Q) (c:Option E) (e:E) (env:Env) (st:aa):E.run P cl (.bi b [.comp nw caps t q c e]) env st=(q.run P cl env st).bind λit st=>iff (t.low nw=true/\it.1.length<=10000) ((aC (Tn P cl nw caps t c e env) it.2 it.1 st).bind λxs st=>kJ b (.lst xs) (st++[.lst xs])):=by
 rw[vy];simp only[yA,yb,xW]
 cases q.run P cl env st with
 |ok it st=>
  simp only[R.nJ];unfold iff;split
  ·cases aC (Tn P cl nw caps t c e env) it.2 it.1 st with
   |ok xs st=>simp[new]
   |exc x st=>rfl
   |stuck=>rfl
  ·rfl
 |exc x st=>rfl
 |stuck=>rfl
@[simp high] theorem Gf (P:Pg) (cl:ar) (nw:Nat) (caps:List Nat) (t:T) (q:Q) (c:Option E) (e:E) (env:Env) (st:aa):E.run P cl (.bi .tuple [.comp nw caps t q c e]) env st=(q.run P cl env st).bind λit st=>iff (t.low nw=true/\it.1.length<=10000) ((aC (Tn P cl nw caps t c e env) it.2 it.1 st).bind λxs st=> .ok (.tup true xs) (st++[.lst xs])):=hG P cl .tuple nw caps t q c e env st
@[simp high] theorem Ke (P:Pg) (cl:ar) (nw:Nat) (caps:List Nat) (t:T) (q:Q) (c:Option E) (e:E) (env:Env) (st:aa):E.run P cl (.bi .all [.comp nw caps t q c e]) env st=(q.run P cl env st).bind λit st=>iff (t.low nw=true/\it.1.length<=10000) ((aC (Tn P cl nw caps t c e env) it.2 it.1 st).bind λxs st=>R.ak ((allB xs).map .bl) (st++[.lst xs])):=hG P cl .all nw caps t q c e env st
@[simp high] theorem JV (P:Pg) (cl:ar) (nw:Nat) (caps:List Nat) (t:T) (q:Q) (c:Option E) (e:E) (env:Env) (st:aa):E.run P cl (.bi .any [.comp nw caps t q c e]) env st=(q.run P cl env st).bind λit st=>iff (t.low nw=true/\it.1.length<=10000) ((aC (Tn P cl nw caps t c e env) it.2 it.1 st).bind λxs st=>R.ak ((anyB xs).map .bl) (st++[.lst xs])):=hG P cl .any nw caps t q c e env st
@[simp high] theorem Kk (P:Pg) (cl:ar) (nw:Nat) (caps:List Nat) (t:T) (q:Q) (c:Option E) (e:E) (env:Env) (st:aa):E.run P cl (.bi .len [.comp nw caps t q c e]) env st=(q.run P cl env st).bind λit st=>iff (t.low nw=true/\it.1.length<=10000) ((aC (Tn P cl nw caps t c e env) it.2 it.1 st).bind λxs st=> .ok (.int xs.length) (st++[.lst xs])):=hG P cl .len nw caps t q c e env st
structure Pt where
 c:Int
 s:Int
 h:Int
 p:List Int
 l:Int
structure Sk where
 side:Int
 hold:Pt
 deck:Pt
structure By where
 arm:Int
 sks:List Sk
structure Sh where
 bays:List By
 foes:List (Str×Str)
 trim:Int
 heel:Int
def eV (p:Pt):Val:= .tup false [.int p.c, .int p.s, .int p.h, .tup true (p.p.map .int), .int p.l]
def jD (s:Sk):Val:= .tup false [.int s.side,eV s.hold,eV s.deck]
def dO (b:By):Val:= .tup false [.int b.arm, .tup true (b.sks.map jD)]
noncomputable def eZ (f:Str×Str):Val:= .tup false [.str f.1, .str f.2]
noncomputable def vn:List Str:=["bays","foes","trim","heel"]
def bp (s:Sh):Val:= .obj 9 vn [.tup true (s.bays.map dO), .tup true (s.foes.map eZ), .int s.trim, .int s.heel]
@[simp]theorem J9 (p:Pt):(eV p).tree=true:=by simp[eV]
@[simp]theorem IP (p:Sk):(jD p).tree=true:=by simp[jD]
@[simp]theorem Jr (p:By):(dO p).tree=true:=by simp[dO,aT]
@[simp]theorem HU (p:Str×Str):(eZ p).tree=true:=by simp[eZ]
@[simp]theorem IF (s:Sh):(bp s).tree=true:=by simp[bp,aT]
def iW (e:Int):Int->List Int->Prop
 |_,[]=>True
 |a,x::r=>a<=x/\x<e/\iW e (x+1) r
def Pt.Ok (p:Pt):Prop:=(0<=p.c/\p.c<=9)/\(0<=p.s/\0<=p.h/\0<=p.l)/\iW p.c 0 p.p
def Sk.Ok (s:Sk):Prop:=s.hold.Ok/\s.deck.Ok
def By.Ok (b:By):Prop:=b.sks≠[]/\b.sks.length<=20/\∀s∈b.sks,s.Ok
def Sh.Ok (s:Sh):Prop:=s.bays≠[]/\s.bays.length<=20/\s.foes.length<=1000/\(∀b∈s.bays,b.Ok)/\0<=s.trim/\0<=s.heel
theorem sL (P:Pg) (cl:ar) (a:Option Val) (e:Int) (st:aa):∀(p:List Int) (l:Int) (x:Option Val),iW e l p->∃l' x',forL (.var 3) (fW P cl [.ife (.or (.cmp .Lt (.var 3) (.var 2)) (.cmp .GtE (.var 3) (.var 1))) [.ret (.const (.bl false))] [], .set (.var 2) (.bin .Add (.var 3) (.ci 1))]) [] (p.map .int) [a,some (.int e),some (.int l),x] st= .next [a,some (.int e),some (.int l'),x'] st
 |[],l,x,_=>⟨l,x,by simp⟩
 |y::p,l,x,h=>by
  let⟨h1,h2,h3⟩:=h;let⟨l',x',q⟩:=sL P cl a e st p (y+1) (some (.int y)) h3;refine⟨l',x', ?_⟩
  have g1:¬y<l:=by lia
  have g2:¬e<=y:=by lia
  simp[g1,g2];exact q
theorem vW {P:Pg} (h8:P.fn 8=some qm) (n:Nat) (f:Bool) (p:List Int) (e:Int) (st:aa) (h:iW e 0 p):call P (n+1) 8 [.tup f (p.map .int), .int e] st= .ok (.bl true) st:=by
 rw[ax h8 _ _ _ rfl];unfold qm;simp;let⟨l',x',q⟩:=sL P (call P n) (some (.tup f (p.map .int))) e st p 0 none h;rw[q];simp
theorem mw {P:Pg} (h7:P.fn 7=some ua) (h8:P.fn 8=some qm) (n:Nat) (p:Pt) (st:aa) (h:p.Ok):call P (n+2) 7 [.int p.c, .int p.s, .int p.h, .tup true (p.p.map .int), .int p.l] st= .ok (eV p) st:=by
 rw[ax h7 _ _ _ rfl];unfold ua;let⟨⟨a1,a2⟩,⟨b1,b2,b3⟩,c⟩:=h
 have g1:¬p.c<0:=by lia
 have g2:¬9<p.c:=by lia
 have g3:¬p.s<0:=by lia
 have g4:¬p.h<0:=by lia
 have g5:¬p.l<0:=by lia
 simp[g1,g2,g3,g4,g5,vW h8 n true p.p p.c st c];exact eW P st (eV p) (by simp)
def iM (st:aa) (v:Val) (p:Pt):Prop:=∃f x,v= .tup f [.int p.c, .int p.s, .int p.h,x, .int p.l]/\(res st x= .lst (p.p.map .int)∨x= .tup true (p.p.map .int))
def gC (st:aa) (v:Val) (s:Sk):Prop:=∃f a b,v= .tup f [.int s.side,a,b]/\iM st a s.hold/\iM st b s.deck
def gj (st:aa) (v:Val) (b:By):Prop:=∃f x vs,v= .tup f [.int b.arm,x]/\(res st x= .lst vs∨x= .tup true vs)/\bK (gC st) vs b.sks
theorem ig {st g:aa} {x:Val} (h:res st x= .lst vs):res (st++g) x= .lst vs:=by
 cases x<;>first|exact h|(simp at h)
 rename_i k;simp
 cases e:st[k]? with
 |none=>rw[e] at h;simp at h
 |some o=>
  rw[e] at h;rw[aal (aae.mp e).1,e];exact h
theorem iM.app {st g:aa} {v:Val} {p:Pt} (h:iM st v p):iM (st++g) v p:=by
 let⟨f,x,e,q⟩:=h;exact⟨f,x,e,q.imp (ig (g:=g)) id⟩
theorem gC.app {st g:aa} {v:Val} {p:Sk} (h:gC st v p):gC (st++g) v p:=by
 let⟨f,a,b,e,q1,q2⟩:=h;exact⟨f,a,b,e,q1.app,q2.app⟩
theorem gj.app {st g:aa} {v:Val} {p:By} (h:gj st v p):gj (st++g) v p:=by
 let⟨f,x,vs,e,q1,q2⟩:=h;exact⟨f,x,vs,e,q1.imp (ig (g:=g)) id,q2.imp λa b h=>h.app⟩
theorem jx {P:Pg} (h6:P.fn 6=some vq) (h7:P.fn 7=some ua) (h8:P.fn 8=some qm) (n:Nat) (v:Val) (p:Pt) (st:aa) (hr:iM st v p) (h:p.Ok):call P (n+3) 6 [v] st= .ok (eV p) st:=by
 rw[ax h6 _ _ _ rfl];unfold vq;let⟨f,x,rfl,q⟩:=hr
 rcases q with q|rfl
 ·simp[q,mw h7 h8 n p st h];exact eW P st (eV p) (by simp)
 ·simp[mw h7 h8 n p st h];exact eW P st (eV p) (by simp)
theorem pq {P:Pg} (h5:P.fn 5=some z9) (h6:P.fn 6=some vq) (h7:P.fn 7=some ua) (h8:P.fn 8=some qm) (n:Nat) (v:Val) (p:Sk) (st:aa) (hr:gC st v p) (h:p.Ok):call P (n+4) 5 [v] st= .ok (jD p) st:=by
 rw[ax h5 _ _ _ rfl];unfold z9;let⟨f,a,b,rfl,q1,q2⟩:=hr;simp[jx h6 h7 h8 n _ _ st q1 h.1,jx h6 h7 h8 n _ _ st q2 h.2];exact eW P st (jD p) (by simp)
theorem iL {st:aa} {x:Val} (h:res st x= .lst vs∨x= .tup true vs):∃chk,ck st x=some (vs,chk)/\Kept chk st/\∀g,Kept chk (st++g):=by
 rcases h with h|rfl
 ·cases x<;>simp at h
  ·subst h;exact⟨[],rfl,bx _,λg=>bx _⟩
  ·rename_i k
   cases e:st[k]? with
   |none=>rw[e] at h;simp at h
   |some o=>
    rw[e] at h;cases o<;>simp at h;subst h;rename_i xs;refine⟨[(k, .lst xs)],by simp[ck,e],λp hp=> ?_,λg p hp=> ?_⟩
    ·simp at hp;subst hp;exact e
    ·simp at hp;subst hp;rw[aal (aae.mp e).1,e]
 ·exact⟨[],rfl,bx _,λg=>bx _⟩
theorem sg {P:Pg} (h4:P.fn 4=some DX) (h5:P.fn 5=some z9) (h6:P.fn 6=some vq) (h7:P.fn 7=some ua) (h8:P.fn 8=some qm) (n:Nat) (v:Val) (p:By) (st:aa) (hr:gj st v p) (h:p.Ok):call P (n+5) 4 [v] st= .ok (dO p) st:=by
 rw[ax h4 _ _ _ rfl];unfold DX;let⟨f,x,vs,rfl,q1,q2⟩:=hr;let⟨chk,w1,w2,w3⟩:=iL q1;have hl:=q2.len
 have l0:¬vs.length=0:=by rw[hl];intro e;exact h.1 (abX.mp e)
 have l1:¬vs=[]:=λe=>l0 (by rw[e];rfl)
 have l2:vs.length<=10000:=by rw[hl];have:=h.2.1;lia
 have lz:((vs.length:Int)==0)=false:=by simp[l1]
 have hx:gP (res st x)=some (vs.length:Int):=by rcases q1 with q|rfl<;>simp[*]
 have hc:aC (Tn P (call P (n+4)) 1 [] (.var 0) none (.call 5 [.var 0]) [some (.tup f [.int p.arm,x]),some x]) chk vs st= .ok (p.sks.map jD) st:=by
  refine gp w2 ((q2.of (S:=λa b=>call P (n+4) 5 [a] st= .ok (jD b) st) (λa b hb q=>pq h5 h6 h7 h8 n a b st q hb) h.2.2).zm jD λa b q=> ?_);simp[Tn,aO,az,q]
 simp[hx,lz,w1,l2,hc,T.low];exact fu P st [.lst _] (dO p) (by simp)
@[simp]theorem n1:¬(Str.ofString "bays"=Str.ofString "foes"):=by decide
@[simp]theorem n2:¬(Str.ofString "bays"=Str.ofString "trim"):=by decide
@[simp]theorem n3:¬(Str.ofString "bays"=Str.ofString "heel"):=by decide
@[simp]theorem n4:¬(Str.ofString "foes"=Str.ofString "trim"):=by decide
@[simp]theorem n5:¬(Str.ofString "foes"=Str.ofString "heel"):=by decide
@[simp]theorem n6:¬(Str.ofString "trim"=Str.ofString "heel"):=by decide
def EI (P:Pg):Prop:=((P.cl 9).map (·.init))=some (some 3)/\rC P 9=false/\dY P 9 "bays"=true/\dY P 9 "foes"=true/\dY P 9 "trim"=true/\dY P 9 "heel"=true
structure FShip (P:Pg):Prop where
 f3:P.fn 3=some ir3
 f4:P.fn 4=some DX
 f5:P.fn 5=some z9
 f6:P.fn 6=some vq
 f7:P.fn 7=some ua
 f8:P.fn 8=some qm
 c9:EI P
@[simp]theorem Jf (s g:aa) (j:Nat):(s++g).take (s.length+j)=s++g.take j:=by
 rw[List.take_append,List.take_of_length_le (by lia)];simp
theorem rH (P:Pg) (st g:aa) (c c':Nat) (ns ns':List Str) (vs vs':List Val) (v:Val) (hv:v.tree=true) (ht:trees vs'=true):fin P (st++[.ins c ns vs]) v (st++(.ins c' ns' vs'::g))= .ok v (st++[.ins c' ns' vs']):=by
 have e:st++(Ob.ins c' ns' vs'::g)=(st++[Ob.ins c ns vs]).set st.length (.ins c' ns' vs')++g:=by simp
 have ho:=sH (st++[.ins c ns vs]) g st.length (.ins c' ns' vs') (by simp[Ob.bd];exact dh _ _ ht);rw[←e] at ho;rw[fL P _ _ v v ho (lF _ _ _ v hv) (kU hv)];rw[e];simp
theorem B6 {st:aa} {x:Val} {vs:List Val} (h:res st x= .lst vs∨x= .tup true vs):gP (res st x)=some (vs.length:Int):=by rcases h with q|rfl<;>simp[*]
theorem wF {P:Pg} (F:FShip P) (n:Nat) (s:Sh) (st:aa) (bv fv:Val) (bs:List Val) (hb:res st bv= .lst bs∨bv= .tup true bs) (rb:bK (gj st) bs s.bays) (hf:res st fv= .lst (s.foes.map eZ)) (h:s.Ok):
  call P (n+6) 3 [.ref st.length,bv,fv, .int s.trim, .int s.heel] (st++[.ins 9 [] []])= .ok .non (st++[.ins 9 vn [.tup true (s.bays.map dO), .tup true (s.foes.map eZ), .int s.trim, .int s.heel]]):=by
 rw[ax F.f3 _ _ _ rfl];unfold ir3;let⟨a1,a2,a3,a4,a5,a6⟩:=h;let⟨b1,b2,b3,b4,b5,b6⟩:=F.c9;have hb1:res (st++[.ins 9 [] []]) bv= .lst bs∨bv= .tup true bs:=hb.imp ig id;let⟨chk,w1,w2,_⟩:=iL hb1;have hf1:=ig (g:=[.ins 9 ["bays"] [.tup true (s.bays.map dO)], .lst (s.bays.map dO)]) hf;let⟨chk',y1,y2,_⟩:=iL (.inl hf1);have hl:=rb.len;have l1:¬bs=[]:=λe=>a1 (by rw[e] at hl;exact abX.mp hl.symm)
 have lz:((bs.length:Int)==0)=false:=by simp[l1]
 have lb:bs.length<=10000:=by lia
 have lf:s.foes.length<=10000:=by lia
 have g1:¬s.trim<0:=by lia
 have g2:¬s.heel<0:=by lia
 have hc:aC (Tn P (call P (n+5)) 1 [] (.var 0) none (.call 4 [.var 0]) [some (.ref st.length),some bv,some fv,some (.int s.trim),some (.int s.heel)]) chk bs (st++[.ins 9 [] []])= .ok (s.bays.map dO) (st++[.ins 9 [] []]):=by
  refine gp w2 ((rb.of (S:=λa b=>call P (n+5) 4 [a] (st++[.ins 9 [] []])= .ok (dO b) (st++[.ins 9 [] []])) (λa b hb q=>sg F.f4 F.f5 F.f6 F.f7 F.f8 n a b _ q.app hb) a4).zm dO λa b q=> ?_);simp[Tn,aO,az,q]
 have hd:aC (Tn P (call P (n+5)) 1 [] (.var 0) none (.bi .tuple [.var 0]) [some (.ref st.length),some bv,some fv,some (.int s.trim),some (.int s.heel)]) chk' (s.foes.map eZ) (st++[.ins 9 ["bays"] [.tup true (s.bays.map dO)], .lst (s.bays.map dO)])= .ok (s.foes.map eZ) (st++[.ins 9 ["bays"] [.tup true (s.bays.map dO)], .lst (s.bays.map dO)]):=by
  refine gp y2 (bK.map _ _ (λa=> ?_) s.foes);simp[Tn,aO,az,eZ]
 have hx:=B6 hb1;simp[hx,lz,g1,g2,w1,lb,hc,T.low,b3,b4,b5,b6,aQ,y1,lf,hd];exact rH P st _ 9 9 [] vn [] [.tup true (s.bays.map dO), .tup true (s.foes.map eZ), .int s.trim, .int s.heel] .non (by simp) (by simp[aT])
theorem Bd {P:Pg} (F:FShip P) (n:Nat) (s:Sh) (st:aa) (bv fv:Val) (bs:List Val) (hb:res st bv= .lst bs∨bv= .tup true bs) (rb:bK (gj st) bs s.bays) (hf:res st fv= .lst (s.foes.map eZ)) (h:s.Ok):
  gr P (call P (n+6)) 9 [bv,fv, .int s.trim, .int s.heel] st ((P.cl 9).map (·.init))= .ok (bp s) st:=by
 rw[F.c9.1];simp[wF F n s st bv fv bs hb rb hf h];unfold fin;rw[if_pos (iq _ _)];simp[F.c9.2.1,bQ,aT,bp]
@[simp]theorem GJ (k:Nat) (xs:List Val) (st:aa):jJ .append (.ref k) xs st=ir .append k xs st st[k]?:=rfl
@[simp]theorem GK (k:Nat) (xs:List Val) (st:aa):jJ .extend (.ref k) xs st=ir .extend k xs st st[k]?:=rfl
@[simp]theorem K4 (o:Val) (xs:List Val) (st:aa):jJ .get o xs st=lO (res st o) xs st:=rfl
@[simp]theorem Hj (k:Nat) (x:Val) (st:aa) (ys:List Val):ir .append k [x] st (some (.lst ys))=iff (ys.length<10000) (.ok .non (st.set k (.lst (ys++[x])))):=rfl
@[simp]theorem FW (k j:Nat) (st:aa) (ys:List Val):ir .extend k [.ref j] st (some (.lst ys))=Au k ys st st[j]?:=rfl
theorem pY:∀(n:Nat) (lo:Int),aY lo n=(List.range n).map λi=> .int (lo+(i:Int))
 |0,_=>rfl
 |n+1,lo=>by
  unfold aY;rw[pY n,acx];simp;intro a _;lia
open Classical in
theorem comp_map {α:Type} {f:Val->aa->R (Option Val)} {chk:List (Nat×Ob)} {st:aa} (hk:Kept chk st) (g:α->Val) (y:α->Val) (xs:List α) (h:∀a∈xs,f (g a) st= .ok (some (y a)) st):aC f chk (xs.map g) st= .ok (xs.map y) st:=by
 have:=dH hk g (λa=>some (y a)) xs h;simpa using this
structure FPart (P:Pg):Prop extends FShip P where
 f9:P.fn 9=some ir9
 f12:P.fn 12=some Fj
 f13:P.fn 13=some Dy
 f14:P.fn 14=some DN
 f31:P.fn 31=some FE
 f32:P.fn 32=some DK
theorem fK {P:Pg} (F:FShip P) (s:Sh) (st:aa):jq P "bays" (bp s) st= .ok (.tup true (s.bays.map dO)) st:=by
 simp[bp,vn,F.c9.2.2.1,eh]
def Sh.sk? (s:Sh) (b k:Int):Option Sk:=if 0<=b/\0<=k then (s.bays[b.toNat]?).bind λy=>y.sks[k.toNat]? else none
def Sh.gS (s:Sh) (b k d:Int):Bool:=(s.sk? b k).isSome&&(d==0||d==1)
theorem KG (d:Int):((0:Int)==d)=(d==0):=by rw[aaN];simp;lia
theorem KQ (d:Int):((1:Int)==d)=(d==1):=by rw[aaN];simp;lia
theorem kH {P:Pg} (F:FPart P) (n:Nat) (s:Sh) (f:Bool) (b k d:Int) (st:aa):call P (n+1) 14 [bp s, .tup f [.int b, .int k, .int d]] st= .ok (.bl (s.gS b k d)) st:=by
 rw[ax F.f14 _ _ _ rfl];unfold DN;have F1:=F.toFShip;simp[fK F1]
 by_cases h0:b<0
 ·have:¬0<=b:=by lia
  simp[h0,this,Sh.gS,Sh.sk?]
 ·have h0':0<=b:=by lia
  by_cases h1:(s.bays.length:Int)<=b
  ·have e:s.bays[b.toNat]?=none:=acH (by lia);simp[h0,h1,h0',Sh.gS,Sh.sk?,e]
  ·have h1':b<(s.bays.length:Int):=by lia
   have l:b.toNat<s.bays.length:=by lia
   have e:s.bays[b.toNat]?=some s.bays[b.toNat]:=aac l;obtain⟨y,e'⟩:∃y,s.bays[b.toNat]=y:=⟨_,rfl⟩;rw[e'] at e;simp[h0,h1,h0',h1',e,e',dO,fK F1]
   by_cases k0:k<0
   ·have:¬0<=k:=by lia
    simp[k0,this,Sh.gS,Sh.sk?]
   ·have k0':0<=k:=by lia
    by_cases k1:(y.sks.length:Int)<=k
    ·have e2:y.sks[k.toNat]?=none:=acH (by lia);simp[k0,k1,k0',h0',Sh.gS,Sh.sk?,e,e',e2]
    ·have l2:k.toNat<y.sks.length:=by lia
     have e2:y.sks[k.toNat]?=some y.sks[k.toNat]:=aac l2;simp[k0,k1,k0',h0',Sh.gS,Sh.sk?,e,e',e2,dG,KG d,KQ d]
theorem qR {s:Sh} {b k:Int} {y:Sk} (h:s.sk? b k=some y):0<=b/\0<=k/\∃z:By,s.bays[b.toNat]?=some z/\z.sks[k.toNat]?=some y/\b<s.bays.length/\k<z.sks.length:=by
 unfold Sh.sk? at h;split at h
 ·rename_i q
  cases e:s.bays[b.toNat]? with
  |none=>rw[e] at h;cases h
  |some z=>
   rw[e] at h;refine⟨q.1,q.2,z,rfl,h, ?_, ?_⟩
   ·have:=(aae.mp e).1;lia
   ·have:=(aae.mp h).1;lia
 ·cases h
theorem sd {P:Pg} (F:FPart P) (n:Nat) (s:Sh) (f:Bool) (b k d:Int) (y:Sk) (st:aa) (h:s.sk? b k=some y) (hd:d=0∨d=1):call P (n+2) 13 [bp s, .tup f [.int b, .int k, .int d]] st= .ok (jD y) st:=by
 rw[ax F.f13 _ _ _ rfl];unfold Dy;have F1:=F.toFShip
 have hp:s.gS b k d=true:=by simp[Sh.gS,h,hd]
 let⟨b0,k0,z,e1,e2,b1,k1⟩:=qR h;let⟨_,e1'⟩:=aae.mp e1;let⟨_,e2'⟩:=aae.mp e2;simp[kH F,hp,fK F1,b0,b1,e1,e1',dO,k0,k1,e2,e2'];exact eW P st (jD y) (by simp)
def Sk.pt (y:Sk) (d:Int):Pt:=if d=0 then y.hold else y.deck
theorem dU {P:Pg} (F:FPart P) (n:Nat) (s:Sh) (f:Bool) (b k d:Int) (y:Sk) (st:aa) (h:s.sk? b k=some y) (hd:d=0∨d=1):call P (n+3) 12 [bp s, .tup f [.int b, .int k, .int d]] st= .ok (eV (y.pt d)) st:=by
 rw[ax F.f12 _ _ _ rfl];unfold Fj;simp[sd F n s f b k d y st h hd,jD]
 rcases hd with rfl|rfl
 ·simp[Sk.pt];exact eW P st (eV _) (by simp)
 ·simp[Sk.pt];exact eW P st (eV _) (by simp)
theorem r8 {P:Pg} (F:FPart P) (n:Nat) (s:Sh) (f:Bool) (b k d t:Int) (y:Sk) (st:aa) (h:s.sk? b k=some y) (hd:d=0∨d=1) (t0:0<=t) (t1:t<(y.pt d).c):call P (n+4) 31 [bp s, .tup f [.int b, .int k, .int d, .int t]] st= .ok (.bl true) st:=by
 rw[ax F.f31 _ _ _ rfl];unfold FE
 have hp:s.gS b k d=true:=by simp[Sh.gS,h,hd]
 simp[bT,cut,kH F,dU F n s false b k d y st h hd,hp,t0,t1,eV]
theorem pe {P:Pg} (F:FPart P) (n:Nat) (f:Bool) (b k d t:Int) (st:aa):call P (n+1) 32 [.tup f [.int b, .int k, .int d, .int t]] st= .ok (.tup false [.int b, .int d, .int k, .int t]) st:=by
 rw[ax F.f32 _ _ _ rfl];unfold DK;simp
noncomputable def ah (p:Int×Int×Int):Val:= .tup false [.int p.1, .int p.2.1, .int p.2.2]
noncomputable def cf (i:Int) (m:Nat) (d:Int):List (Int×Int×Int):=(List.range m).map λ(k:Nat)=>(i,(k:Int),d)
noncomputable def partsFrom:Nat->List By->List (Int×Int×Int)
 |_,[]=>[]
 |i,b::r=>cf i b.sks.length 0++(cf i b.sks.length 1++partsFrom (i+1) r)
def Sh.parts (s:Sh):List (Int×Int×Int):=partsFrom 0 s.bays
noncomputable def gG:List S:=[.set (.var 3) (.bi .len [.idx (.idx (.fld (.var 0) "bays") (.var 2)) (.ci 1)]), .for (.var 4) (.val (.tup [.ci 0, .ci 1])) [.expr (.bm .extend (.var 1) [.comp 1 [2,4] (.var 0) (.rng1 (.var 3)) none (.tup [.var 1, .var 0, .var 2])])]]
@[simp]theorem kC (i:Int) (m:Nat) (d:Int):(cf i m d).length=m:=by simp[cf]
theorem uj (P:Pg) (cl:ar) (a b c:Option Val) (i d:Int) (m:Nat) (st:aa):aC (Tn P cl 1 [2,4] (.var 0) none (.tup [.var 1, .var 0, .var 2]) [a,b,some (.int i),c,some (.int d)]) [] (aY 0 m) st= .ok ((cf i m d).map ah) st:=by
 rw[pY,cf,abT];refine comp_map (bx st) _ _ _ λk _=> ?_;simp[Tn,aO,az,ah]
theorem mT {P:Pg} (F:FShip P) (cl:ar) (s:Sh) (hs:s.Ok) (st:aa):∀(r:List By) (i:Nat) (acc:List Val) (g:aa) (x2 x3 x4:Option Val),s.bays.drop i=r->acc.length<=40*i->i+r.length<=20->
  ∃g' y2 y3 y4,forL (.var 2) (fW P cl gG) [] (aY i r.length) [some (bp s),some (.ref st.length),x2,x3,x4] (st++(.lst acc::g))= .next [some (bp s),some (.ref st.length),y2,y3,y4] (st++(.lst (acc++(partsFrom i r).map ah)::g'))
 |[],i,acc,g,x2,x3,x4,_,_,_=>⟨g,x2,x3,x4,by simp[aY,partsFrom]⟩
 |b::r,i,acc,g,x2,x3,x4,hr,ha,hi=>by
  have e1:s.bays[i]?=some b:=by
   have:=congrArg (·[0]?) hr;simpa using this
  have hr2:s.bays.drop (i+1)=r:=by rw[←List.drop_drop,hr];rfl
  have hl:i<s.bays.length:=(aae.mp e1).1;let⟨_,e1'⟩:=aae.mp e1;have hb:b.sks.length<=20:=(hs.2.2.2.1 b (aas e1)).2.1
  have q1:(b.sks.length:Int)<16777216:=by lia
  have q4:b.sks.length<=10000:=by lia
  have q2:acc.length+b.sks.length<=10000:=by simp at hi;lia
  have q3:acc.length+(b.sks.length+b.sks.length)<=10000:=by simp at hi;lia
  unfold gG;simp[aY,fK F,e1,e1',hl,dO,q1,T.low,uj,new,wa,bP,q2,q3,q4,kC,Nat.add_assoc];let⟨g',y2,y3,y4,h⟩:=mT F cl s hs st r (i+1) (acc++(cf i b.sks.length 0++cf i b.sks.length 1).map ah) (g++[.lst ((cf i b.sks.length 0).map ah), .lst ((cf i b.sks.length 1).map ah)]) (some (.int i)) (some (.int b.sks.length)) (some (.int 1)) hr2 (by simp[kC];lia) (by simp at hi;lia);refine⟨g',y2,y3,y4, ?_⟩;unfold gG at h;simp[partsFrom] at h⊢;exact h
@[simp]theorem FX (p:Int×Int×Int):(ah p).tree=true:=by simp[ah]
theorem gR {P:Pg} (F:FPart P) (n:Nat) (s:Sh) (hs:s.Ok) (st:aa):call P (n+1) 9 [bp s] st= .ok (.ref st.length) (st++[.lst (s.parts.map ah)]):=by
 rw[ax F.f9 _ _ _ rfl];unfold ir9;have F1:=F.toFShip;have h1:s.bays.length<=20:=hs.2.1
 have h2:(s.bays.length:Int)<16777216:=by lia
 let⟨g',y2,y3,y4,h⟩:=mT F1 (call P n) s hs st s.bays 0 [] [] none none none rfl (by simp) (by lia);unfold gG at h;simp at h;simp[new,fK F1,h2];rw[h];simp;exact iE P st _ 0 _ _ rfl (bQ _ _ _ _ (aT _ _ λa=>by simp))
theorem kE {i:Int} {m:Nat} {d:Int} {p:Int×Int×Int} (h:p∈cf i m d):p.1=i/\0<=p.2.1/\p.2.1<m/\p.2.2=d:=by
 simp[cf] at h;let⟨k,hk,rfl⟩:=h;simp;lia
theorem jc:∀(r:List By) (i:Nat) (p:Int×Int×Int),p∈partsFrom i r->∃(j:Nat) (b:By),r[j]?=some b/\p.1=((i+j:Nat):Int)/\0<=p.2.1/\p.2.1<b.sks.length/\(p.2.2=0∨p.2.2=1)
 |[],_,_,h=>by simp[partsFrom] at h
 |b::r,i,p,h=>by
  simp only[partsFrom,aaD] at h
  rcases h with h|h|h
  ·let⟨h1,h2,h3,h4⟩:=kE h;exact⟨0,b,rfl,by simpa using h1,h2,h3, .inl h4⟩
  ·let⟨h1,h2,h3,h4⟩:=kE h;exact⟨0,b,rfl,by simpa using h1,h2,h3, .inr h4⟩
  ·let⟨j,c,h1,h2,h3,h4,h5⟩:=jc r (i+1) p h;exact⟨j+1,c,h1,by rw[h2];congr 1;lia,h3,h4,h5⟩
theorem dS {s:Sh} {p:Int×Int×Int} (h:p∈s.parts):∃y,s.sk? p.1 p.2.1=some y/\(p.2.2=0∨p.2.2=1):=by
 let⟨j,b,h1,h2,h3,h4,h5⟩:=jc _ _ _ h
 have l:p.2.1.toNat<b.sks.length:=by lia
 refine⟨b.sks[p.2.1.toNat], ?_,h5⟩;unfold Sh.sk?;rw[if_pos ⟨by lia,h3⟩]
 have:p.1.toNat=j:=by lia
 rw[this,h1];exact aac l
theorem yV {s:Sh} (hs:s.Ok):s.parts≠[]:=by
 unfold Sh.parts
 cases h:s.bays with
 |nil=>exact absurd h hs.1
 |cons b r=>
  have hb:=hs.2.2.2.1 b (by simp[h]);intro e;have:=congrArg List.length e;simp[partsFrom] at this;exact hb.1 this.1
theorem jT:∀(r:List By) (i:Nat),(∀b∈r,b.sks.length<=20)->(partsFrom i r).length<=40*r.length
 |[],_,_=>by simp[partsFrom]
 |b::r,i,h=>by
  have:=jT r (i+1) λc hc=>h c (by simp[hc]);have:=h b (by simp);simp[partsFrom];lia
structure KOk {α:Type} [DecidableEq α] (kV:α->Val):Prop where
 key:∀a,bA (kV a)=true
 eq:∀a b,eqv 8 (kV a) (kV b)=some (decide (a=b))
 kt:∀a b,kT (kV a)=kT (kV b)
section
variable {α β:Type} [DecidableEq α] {kV:α->Val} (K:KOk kV)
include K
theorem jY (a:α):∀as:List α,memD (kV a) (as.map kV)=some (decide (a∈as))
 |[]=>by simp[memD]
 |b::as=>by
  simp only[aav,memD];rw[if_pos (K.kt b a),K.eq,jY a as];simp
  by_cases h:b=a
  ·simp[h]
  ·have h2:¬a=b:=λe=>h e.symm;simp[h,h2]
theorem fB (vV:β->Val) (a:α):∀ps:List (α×β),getD (kV a) (ps.map λp=>kV p.1) (ps.map λp=>vV p.2)=some ((ps.find? λp=>p.1=a).map λp=>vV p.2)
 |[]=>by simp[getD]
 |b::as=>by
  simp only[aav,getD];rw[if_pos (K.kt b.1 a),K.eq,fB vV a as]
  by_cases h:b.1=a
  ·simp[h]
  ·simp[h]
theorem kW (vV:β->Val):∀(ps:List (α×β)) (qs:List (α×β)),(ps.map λp=>p.1).Nodup->(∀p∈ps,p.1∉qs.map λp=>p.1)->pairD (ps.map λp=> .tup false [kV p.1,vV p.2]) (qs.map λp=>kV p.1) (qs.map λp=>vV p.2)=some ((qs++ps).map (λp=>kV p.1),(qs++ps).map λp=>vV p.2)
 |[],qs,_,_=>by simp[pairD]
 |p::ps,qs,hn,hq=>by
  have e:(qs.map λp=>kV p.1)=(qs.map λp=>p.1).map kV:=by simp
  have hp:=hq p (by simp);simp only[aav,pairD];rw[if_pos (K.key p.1),putD,e,jY K];simp only[aav,abk] at hn;rw[aaA hp]
  have:=kW vV ps (qs++[p]) hn.2 λr hr=>by
   simp;refine⟨λx hx=> ?_,λe=>hn.1 ?_⟩
   ·have:=hq r (by simp[hr]);simp at this;exact this x hx
   ·rw[←e];exact aaP.mpr ⟨r,hr,rfl⟩
  simp at this⊢;exact this
end
structure Cell where
 b:Int
 k:Int
 d:Int
 t:Int
deriving DecidableEq
structure Bx where
 name:Str
 w:Int
 h:Int
 cold:Int
 sort:Str
 port:Int
def aj (c:Cell):Val:= .tup false [.int c.b, .int c.k, .int c.d, .int c.t]
def bJ (x:Bx):Val:= .tup false [.str x.name, .int x.w, .int x.h, .int x.cold, .str x.sort, .int x.port]
def aw (p:Cell×Bx):Val:= .tup false [aj p.1,bJ p.2]
@[simp]theorem JK (c:Cell):(aj c).tree=true:=by simp[aj]
@[simp]theorem Ja (c:Bx):(bJ c).tree=true:=by simp[bJ]
@[simp]theorem KI (c:Cell×Bx):(aw c).tree=true:=by simp[aw]
theorem pC:KOk aj where
 key a:=by simp[aj,bA,uW]
 eq a b:=by
  simp[aj];cases a;cases b;simp;rw[aaN];simp
 kt a b:=by simp[aj,kT]
theorem Jc:KOk Val.str where
 key a:=by simp[bA]
 eq a b:=by simp
 kt a b:=by simp[kT]
def Cell.key (c:Cell):List Int:=[c.b,c.d,c.k,c.t]
def aP (L:List (Cell×Bx)):List (Cell×Bx):=(bD (L.map λp=>(p.1.key,p))).map λz=>z.2
theorem oR {α β:Type} (f:α->β) (k:List Int) (y:α):∀r:List (List Int×α),cZ k (f y) (r.map λz=>(z.1,f z.2))=(cZ k y r).map λz=>(z.1,f z.2)
 |[]=>by simp[cZ]
 |z::r=>by
  simp only[aav,cZ];split
  ·simp
  ·simp[oR f k y r]
theorem mE {α β:Type} (f:α->β):∀r:List (List Int×α),bD (r.map λz=>(z.1,f z.2))=(bD r).map λz=>(z.1,f z.2)
 |[]=>by simp[bD]
 |z::r=>by
  simp only[aav,bD];rw[mE f r,oR]
theorem mL {α:Type} (k:List Int) (y:α):∀r:List (List Int×α),(cZ k y r).Perm ((k,y)::r)
 |[]=>by simp[cZ]
 |z::r=>by
  unfold cZ;split
  ·exact .refl _
  ·exact((mL k y r).cons z).trans (.swap _ _ _)
theorem kD {α:Type}:∀r:List (List Int×α),(bD r).Perm r
 |[]=> .refl _
 |z::r=>by
  unfold bD;exact(mL _ _ _).trans ((kD r).cons z)
theorem jb (L:List (Cell×Bx)):(aP L).Perm L:=by
 have:=(kD (L.map λp=>(p.1.key,p))).map (λz=>z.2);have e:((λz:List Int×(Cell×Bx)=>z.2)∘λp:Cell×Bx=>(p.1.key,p))=id:=rfl;simpa[aP,e] using this
theorem GI (L:List (Cell×Bx)):((bD ((L.map λp=>p.1.key).zip (L.map aw))).map λz=>z.2)=(aP L).map aw:=by
 have e:(L.map λp=>p.1.key).zip (L.map aw)=(L.map λp=>(p.1.key,p)).map λz=>(z.1,aw z.2):=by
  simp[List.zip_map']
 rw[e,mE];simp[aP]
theorem Bu {a b:Cell} (h:a.key=b.key):a=b:=by
 cases a;cases b;simp[Cell.key] at h;simp[h]
structure FLoad (P:Pg):Prop extends FPart P where
 f33:P.fn 33=some DQ
 f34:P.fn 34=some Dh
 f35:P.fn 35=some Di
 f36:P.fn 36=some C5
 f37:P.fn 37=some Ej
 i10:((P.cl 10).map (·.init))=some (some 33)
 g10:rC P 10=false
 hs:dY P 10 "ship"=true
 hp:dY P 10 "placed"=true
 hc:dY P 10 "box_by_cell"=true
 hn:dY P 10 "cell_by_name"=true
noncomputable def iO:List Str:=["ship","placed","box_by_cell","cell_by_name"]
def gc (s:Sh) (L:List (Cell×Bx)):List Val:=[bp s, .tup true (L.map aw), .dct (L.map λp=>aj p.1) (L.map λp=>bJ p.2), .dct (L.map λp=> .str p.2.name) (L.map λp=>aj p.1)]
def bW (s:Sh) (L:List (Cell×Bx)):Val:= .obj 10 iO (gc s L)
theorem jk (s:Sh) (L:List (Cell×Bx)):trees (gc s L)=true:=by simp[gc,aT]
@[simp]theorem Ir (s:Sh) (L:List (Cell×Bx)):(bW s L).tree=true:=by simp[bW,jk]
@[simp]theorem m1:¬(Str.ofString "ship"=Str.ofString "placed"):=by decide
@[simp]theorem m2:¬(Str.ofString "ship"=Str.ofString "box_by_cell"):=by decide
@[simp]theorem m3:¬(Str.ofString "ship"=Str.ofString "cell_by_name"):=by decide
@[simp]theorem m4:¬(Str.ofString "placed"=Str.ofString "box_by_cell"):=by decide
@[simp]theorem m5:¬(Str.ofString "placed"=Str.ofString "cell_by_name"):=by decide
@[simp]theorem m6:¬(Str.ofString "box_by_cell"=Str.ofString "cell_by_name"):=by decide
theorem iT {P:Pg} (F:FLoad P) (s:Sh) (L:List (Cell×Bx)) (st:aa):jq P "ship" (bW s L) st= .ok (bp s) st:=by
 simp[bW,iO,gc,F.hs,eh]
theorem mS {P:Pg} (F:FLoad P) (s:Sh) (L:List (Cell×Bx)) (st:aa):jq P "placed" (bW s L) st= .ok (.tup true (L.map aw)) st:=by
 simp[bW,iO,gc,F.hp,eh]
theorem oZ {P:Pg} (F:FLoad P) (s:Sh) (L:List (Cell×Bx)) (st:aa):jq P "box_by_cell" (bW s L) st= .ok (.dct (L.map λp=>aj p.1) (L.map λp=>bJ p.2)) st:=by
 simp[bW,iO,gc,F.hc,eh]
theorem wL {P:Pg} (F:FLoad P) (s:Sh) (L:List (Cell×Bx)) (st:aa):jq P "cell_by_name" (bW s L) st= .ok (.dct (L.map λp=> .str p.2.name) (L.map λp=>aj p.1)) st:=by
 simp[bW,iO,gc,F.hn,eh]
def oK (L:List (Cell×Bx)) (c:Cell):Option Bx:=(L.find? λp=>p.1=c).map (·.2)
def oV (o:Option Bx):Val:=(o.map bJ).getD .non
@[simp]theorem Lv (o:Option Bx):(oV o).tree=true:=by cases o<;>simp[oV]
theorem oS {P:Pg} (F:FLoad P) (n:Nat) (s:Sh) (L:List (Cell×Bx)) (v:Val) (c:Cell) (st:aa) (hv:res st v=bW s L):call P (n+1) 37 [v,aj c] st= .ok (oV (oK L c)) st:=by
 rw[ax F.f37 _ _ _ rfl];unfold Ej;simp[hv,oZ F,bP,pC.key];rw[fB pC bJ c L];simp
 have e:(Option.map (λp=>bJ p.2) (List.find? (λp=>decide (p.1=c)) L)).getD Val.non=oV (oK L c):=by
  simp[oV,oK];cases List.find? (λp=>decide (p.1=c)) L<;>rfl
 rw[e];exact eW P st _ (by simp)
theorem wV {P:Pg} (F:FLoad P) (n:Nat) (s:Sh) (L:List (Cell×Bx)) (v:Val) (c:Cell) (st:aa) (hv:res st v=bW s L) (h:c.t=0∨(oK L ⟨c.b,c.k,c.d,c.t-1⟩).isSome=true):call P (n+2) 36 [v,aj c] st= .ok (.bl true) st:=by
 rw[ax F.f36 _ _ _ rfl];unfold C5;have q:=oS F n s L v ⟨c.b,c.k,c.d,c.t-1⟩ st hv;unfold aj at q;simp only at q
 by_cases h0:c.t=0
 ·simp[aj,bT,cut,h0]
 ·have h1:=h.resolve_left h0;let⟨x,hx⟩:=aa4.mp h1
  have h2:(c.t==0)=false:=by simp[h0]
  rw[hx] at q;simp[aj,bT,cut,h2,q,oV,bJ]
def bU (s:Sh) (L:List (Cell×Bx)):Prop:=L.length<64/\(L.map λp=>p.1).Nodup/\(L.map λp=>p.2.name).Nodup/\(∀p∈L,∃y,s.sk? p.1.b p.1.k=some y/\(p.1.d=0∨p.1.d=1)/\0<=p.1.t/\p.1.t<(y.pt p.1.d).c)/\∀p∈L,p.1.t=0∨∃q∈L,q.1=⟨p.1.b,p.1.k,p.1.d,p.1.t-1⟩
theorem zV {L:List (Cell×Bx)} {q:Cell×Bx} {c:Cell} (hq:q∈L) (hc:q.1=c):(oK L c).isSome=true:=by
 unfold oK;rw[acu,List.find?_isSome];exact⟨q,hq,by simp[hc]⟩
theorem yq {P:Pg} (F:FLoad P) (n:Nat) (s:Sh) (L:List (Cell×Bx)) (v:Val) (st:aa) (hv:res st v=bW s L) (h:bU s L):call P (n+5) 35 [v] st= .ok .non st:=by
 rw[ax F.f35 _ _ _ rfl];unfold Di;let⟨h1,h2,h3,h4,h5⟩:=h
 have ek:(L.map λp=>aj p.1).map iV=L.map λp=>aj p.1:=by simp[aj,iV]
 simp[hv,oZ F,mS F,wL F]
 have ek2:iV∘(λp:Cell×Bx=>aj p.1)=λp=>aj p.1:=by funext p;simp[aj,iV]
 rw[ek2]
 let⟨env',st',e,hI⟩:=pS (t:= .var 1) (body:=fW P (call P (n+4)) [.ife (.not (.call 31 [.fld (.var 0) "ship", .var 1])) [rz] [], .ife (.not (.call 36 [.var 0, .var 1])) [rz] []]) (chk:=[]) (λ_ env st'=>st'=st/\∃x,env=[some v,x]) (L.map λp=>aj p.1) [some v,none] st ⟨rfl,_,rfl⟩ (λ_ _ st _=>bx st) λi w env st' e hI=>by
  let⟨rfl,x,rfl⟩:=hI;simp at e;let⟨c,⟨y,e⟩,rfl⟩:=e;have hm:=aas e;let⟨sk,a1,a2,a3,a4⟩:=h4 _ hm;refine⟨[some v,some (aj c)],rfl,[some v,some (aj c)],st', .inl ?_,rfl,_,rfl⟩;have q1:=r8 F.toFPart n s false c.b c.k c.d c.t sk st' a1 a2 a3 a4;have q2:=wV F (n+2) s L v c st' hv ((h5 _ hm).imp id λz900=>by let⟨q,hq,e⟩:=z900;exact zV hq e);have e1:aj c= .tup false [.int c.b, .int c.k, .int c.d, .int c.t]:=rfl;rw[←e1] at q1;simp[hv,iT F,q1,q2]
 rw[e,hI.1];simp
theorem pd {P:Pg} (F:FLoad P) (n:Nat) (p:Cell×Bx) (st:aa):call P (n+2) 34 [aw p] st= .ok (.tup false [.int p.1.b, .int p.1.d, .int p.1.k, .int p.1.t]) st:=by
 rw[ax F.f34 _ _ _ rfl];unfold Dh;simp[aw,aj,pe F.toFPart]
theorem qr {P:Pg} (F:FLoad P) (n:Nat) (st:aa):∀(L:List (Cell×Bx)) (dn:List Val),eS (call P (n+2)) 34 st (L.map aw) dn= .ok (dn++L.map λp=> .tup false (p.1.key.map .int)) (st++[.lst (dn++L.map λp=> .tup false (p.1.key.map .int))])
 |[],dn=>by simp[eS]
 |p::L,dn=>by
  simp only[aav,eS];rw[pd F];simp;have:=qr F n st L (dn++[.tup false (p.1.key.map .int)]);simp[Cell.key] at this⊢;exact this
theorem lg:∀(L:List (Cell×Bx)),dD (L.map λp=> .tup false (p.1.key.map .int))=some (L.map λp=>p.1.key)
 |[]=>by simp[dD]
 |p::L=>by simp[dD,FJ,eR,Cell.key,lg L];exact lg L
theorem oE {α β:Type} {f:α->β} (hf:∀a b,f a=f b->a=b):∀{l:List α},l.Nodup->(l.map f).Nodup
 |[],_=>by simp
 |a::l,h=>by
  simp only[aav,abk] at h⊢;refine⟨λhm=> ?_,oE hf h.2⟩;let⟨b,hb,e⟩:=aaP.mp hm;rw[hf b a e] at hb;exact h.1 hb
theorem keys_nodup {L:List (Cell×Bx)} (h:(L.map λp=>p.1).Nodup):(L.map λp=>p.1.key).Nodup:=by
 have e:(L.map λp=>p.1.key)=(L.map λp=>p.1).map Cell.key:=by simp
 rw[e];exact oE (λa b h=>Bu h) h
theorem nt {P:Pg} (F:FLoad P) (n:Nat) (st:aa) (L:List (Cell×Bx)) (hl:L.length<64) (hn:(L.map λp=>p.1).Nodup):pF (call P (n+2)) 34 st (.lst (L.map aw))= .ok (.ref (st.length+1)) (st++[.lst [], .lst ((aP L).map aw)]):=by
 have h:=qr F n st L [];simp at h;simp[hl];rw[h];simp;rw[lg];simp[iA];rw[bo ⟨hl,keys_nodup hn,4,by lia,λa b c _ e=>by subst e;simp[Cell.key]⟩,GI];simp[new]
theorem vE (st g:aa) (j:Nat) (ks vs:List Val) (hj:g[j]?=some (.dct ks vs)) (hv:trees vs=true):tY st (.ref (st.length+j)) (st++g)= .ok (.dct ks vs) st:=by
 have hlt:j<g.length:=(aae.mp hj).1;unfold tY;rw[if_pos (iq st g)]
 have e:(Val.ref (st.length+j)).aB (st++g) st.length (st++g).length=some (.dct ks vs):=by
  simp[Val.aB,Val.sub,jl,hj,cw _ _ hv];rw[if_neg (by lia),if_neg (by lia)]
 rw[e];simp
theorem ij {α β:Type} {a b:List α} (f:α->β) (h:a.Perm b) (hb:(b.map f).Nodup):(a.map f).Nodup:=((h.map f).nodup_iff).mpr hb
theorem bU.aP {s:Sh} {L:List (Cell×Bx)} (h:bU s L):bU s (aP L):=by
 let⟨h1,h2,h3,h4,h5⟩:=h;have p:=jb L;refine⟨by rw[p.length_eq];exact h1,ij _ p h2,ij _ p h3,λq hq=>h4 q (p.mem_iff.mp hq),λq hq=> ?_⟩
 refine(h5 q (p.mem_iff.mp hq)).imp id λz900=>by let⟨r,hr,e⟩:=z900;exact⟨r,p.mem_iff.mpr hr,e⟩
theorem Be (L:List (Cell×Bx)) (st:aa) (hl:L.length<64) (hn:(L.map λp=>p.1).Nodup):newD (L.map aw) st= .ok (.ref st.length) (st++[.dct (L.map λp=>aj p.1) (L.map λp=>bJ p.2)]):=by
 unfold newD;have:=kW pC bJ L [] hn (by simp);simp at this;rw[bo (by simp;lia)];have e:L.map aw=L.map λp=> .tup false [aj p.1,bJ p.2]:=rfl;rw[e,this];simp[new]
theorem yU (L:List (Cell×Bx)) (st:aa) (hl:L.length<64) (hn:(L.map λp=>p.2.name).Nodup):newD (L.map λp=> .tup false [.str p.2.name,aj p.1]) st= .ok (.ref st.length) (st++[.dct (L.map λp=> .str p.2.name) (L.map λp=>aj p.1)]):=by
 unfold newD;have:=kW Jc aj (L.map λp=>(p.2.name,p.1)) [] (by rw[abT];exact hn) (by simp);simp at this;rw[bo (by simp;lia)];have e:(L.map λp=>Val.tup false [.str p.2.name,aj p.1])=List.map ((λp:Str×Cell=>Val.tup false [Val.str p.1,aj p.2])∘λp:Cell×Bx=>(p.2.name,p.1)) L:=rfl;rw[e,this];simp[new]
theorem wj {P:Pg} (F:FLoad P) (n:Nat) (s:Sh) (L:List (Cell×Bx)) (v:Val) (st:aa) (hv:res st v= .lst (L.map aw)) (h:bU s L):
  call P (n+6) 33 [.ref st.length,bp s,v] (st++[.ins 10 [] []])= .ok .non (st++[.ins 10 iO (gc s (aP L))]):=by
 rw[ax F.f33 _ _ _ rfl];unfold DQ;have hS:=h.aP;have hS':=h.aP;let⟨h1,h2,h3,h4,h5⟩:=h;let⟨s1,s2,s3,s4,s5⟩:=hS;have hv1:=ig (g:=[.ins 10 ["ship"] [bp s]]) hv;have q1:=nt F (n+3) (st++[.ins 10 ["ship"] [bp s]]) L h1 h2;have q2:=Be (aP L) (st++[.ins 10 ["ship","placed"] [bp s, .tup true ((aP L).map aw)], .lst [], .lst ((aP L).map aw)]) s1 s2;have q3:=yU (aP L) (st++[.ins 10 ["ship","placed","box_by_cell"] [bp s, .tup true ((aP L).map aw), .dct ((aP L).map λp=>aj p.1) ((aP L).map λp=>bJ p.2)], .lst [], .lst ((aP L).map aw), .lst ((aP L).map λp=> .tup false [.str p.2.name,aj p.1])]) s1 s3;have q4:=yq F n s (aP L) (.ref st.length) (st++[.ins 10 iO (gc s (aP L)), .lst [], .lst ((aP L).map aw)]) (by simp[bW]) hS';have z2:=vE (st++[.ins 10 ["ship","placed"] [bp s, .tup true ((aP L).map aw)], .lst [], .lst ((aP L).map aw)]) [.dct ((aP L).map λp=>aj p.1) ((aP L).map λp=>bJ p.2)] 0 _ _ rfl (aT _ _ λp=>by simp);have z3:=vE (st++[.ins 10 ["ship","placed","box_by_cell"] [bp s, .tup true ((aP L).map aw), .dct ((aP L).map λp=>aj p.1) ((aP L).map λp=>bJ p.2)], .lst [], .lst ((aP L).map aw)]) [.lst ((aP L).map λp=> .tup false [.str p.2.name,aj p.1]), .dct ((aP L).map λp=> .str p.2.name) ((aP L).map λp=>aj p.1)] 1 _ _ rfl (aT _ _ λp=>by simp)
 have hc:∀(cl:ar) (env:Env) (S:aa),aC (Tn P cl 2 [] (.tup [.var 0, .var 1]) none (.tup [.idx (.var 1) (.ci 0), .var 0]) env) [] ((aP L).map aw) S= .ok ((aP L).map λp=> .tup false [.str p.2.name,aj p.1]) S:=by
  intro cl env S;refine comp_map (bx S) _ _ _ λp _=> ?_;simp[Tn,aO,az,aw,bJ]
 have l2:(aP L).length<=10000:=by lia
 simp[Nat.add_assoc] at q1 q2 q3 z2 z3;simp[F.hs,F.hp,F.hc,F.hn,aQ,hv1,q1,eh,q2,z2,q3,z3,hc,l2,T.low,lows,new,Nat.add_assoc];simp[iO,gc] at q4;rw[q4];simp;exact rH P st _ 10 10 [] iO [] (gc s (aP L)) .non (by simp) (jk _ _)
theorem Ba {P:Pg} (F:FLoad P) (n:Nat) (s:Sh) (L:List (Cell×Bx)) (v:Val) (st:aa) (hv:res st v= .lst (L.map aw)) (h:bU s L):
  gr P (call P (n+6)) 10 [bp s,v] st ((P.cl 10).map (·.init))= .ok (bW s (aP L)) st:=by
 rw[F.i10];simp[wj F n s L v st hv h];unfold fin;rw[if_pos (iq _ _)];simp[F.g10,bQ,jk,bW]
noncomputable def aM:Int->Nat->List Int
 |_,0=>[]
 |lo,n+1=>lo::aM (lo+1) n
theorem jQ:∀(n:Nat) (lo:Int),aY lo n=(aM lo n).map .int
 |0,_=>rfl
 |n+1,lo=>by simp[aY,aM,jQ n]
@[simp]theorem lh:∀(n:Nat) (lo:Int),(aM lo n).length=n
 |0,_=>rfl
 |n+1,lo=>by simp[aM,lh n]
theorem cX:∀{n:Nat} {lo x:Int},x∈aM lo n↔lo<=x/\x<lo+n
 |0,lo,x=>by simp[aM]
 |n+1,lo,x=>by
  simp[aM,cX (n:=n)];lia
theorem bC {α β:Type} (f:α->Bool) (g:α->β):∀l:List α,(l.filterMap λa=>if f a=true then some (g a) else none)=(l.filter f).map g
 |[]=>rfl
 |a::l=>by
  rw[abD,abp,bC f g l];cases f a<;>simp
theorem dI {k:Nat} {o:Ob} {st:aa} (h:st[k]?=some o):Kept [(k,o)] st:=λp hp=>by
 simp at hp;subst hp;exact h
structure FCell (P:Pg):Prop extends FPart P where
 f10:P.fn 10=some ir10
 f11:P.fn 11=some rE
def Cz (p:Int×Int×Int) (c:Int):List Cell:=(aM 0 c.toNat).map λt=>⟨p.1,p.2.1,p.2.2,t⟩
def eC (s:Sh) (p:Int×Int×Int):Pt:=((s.sk? p.1 p.2.1).map λy=>y.pt p.2.2).getD ⟨0,0,0,[],0⟩
def cellsFrom (s:Sh) (ps:List (Int×Int×Int)):List Cell:=ps.flatMap λp=>Cz p (eC s p).c
def Sh.cells (s:Sh):List Cell:=cellsFrom s s.parts
theorem um {s:Sh} (hs:s.Ok) {b k d:Int} {y:Sk} (h:s.sk? b k=some y):(y.pt d).Ok:=by
 let⟨_,_,z,e1,e2,_,k1⟩:=qR h;have hz:=hs.2.2.2.1 z (aas e1);have hy:=hz.2.2 y (aas e2);unfold Sk.pt;split
 ·exact hy.1
 ·exact hy.2
noncomputable def aJ (p:Int×Int×Int) (t:Int):Cell:=⟨p.1,p.2.1,p.2.2,t⟩
def gH (L:List (Cell×Bx)) (p:Int×Int×Int) (t:Int):Bool:=(oK L (aJ p t)).isSome
def cW (L:List (Cell×Bx)) (p:Int×Int×Int) (c:Int):Nat:=((aM 0 c.toNat).filter (gH L p)).length
theorem pz {P:Pg} (F:FPart P) (h11:P.fn 11=some rE) (n:Nat) (s:Sh) (hs:s.Ok) (p:Int×Int×Int) (y:Sk) (st:aa) (h:s.sk? p.1 p.2.1=some y) (hd:p.2.2=0∨p.2.2=1):call P (n+4) 11 [bp s,ah p] st= .ok (.ref st.length) (st++[.lst ((aM 0 (y.pt p.2.2).c.toNat).map λt=>aj (aJ p t))]):=by
 rw[ax h11 _ _ _ rfl];unfold rE;have q1:=dU F n s false p.1 p.2.1 p.2.2 y st h hd;have e:ah p= .tup false [.int p.1, .int p.2.1, .int p.2.2]:=rfl;have hc:=(um hs h (d:=p.2.2)).1;have h1:0<=(y.pt p.2.2).c:=hc.1
 have h2:(y.pt p.2.2).c<16777216:=by have:=hc.2;lia
 have h3:(y.pt p.2.2).c.toNat<=10000:=by have:=hc.2;lia
 have hcomp:aC (Tn P (call P (n+3)) 1 [1] (.var 0) none (.bin .Add (.var 1) (.tup [.var 0])) [some (bp s),some (ah p)]) [] (aY 0 (y.pt p.2.2).c.toNat) st= .ok ((aM 0 (y.pt p.2.2).c.toNat).map λt=>aj (aJ p t)) st:=by
  rw[jQ];refine comp_map (bx st) _ _ _ λt _=> ?_;simp[Tn,aO,az,ah,aj,aJ]
 rw[e] at hcomp⊢;simp[q1,eV,h1,h2,h3,T.low,hcomp,new];exact iE P st [.lst _] 0 _ _ rfl (bQ _ _ _ _ (aT _ _ λa=>by simp))
theorem vI {P:Pg} (F:FLoad P) (h11:P.fn 11=some rE) (h39:P.fn 39=some zD) (n:Nat) (s:Sh) (hs:s.Ok) (L:List (Cell×Bx)) (p:Int×Int×Int) (y:Sk) (st:aa) (h:s.sk? p.1 p.2.1=some y) (hd:p.2.2=0∨p.2.2=1):call P (n+5) 39 [bW s L,ah p] st= .ok (.int (cW L p (y.pt p.2.2).c)) st:=by
 rw[ax h39 _ _ _ rfl];unfold zD;have q1:=pz F.toFPart h11 n s hs p y st h hd
 have hcl:(y.pt p.2.2).c<=10000:=by
  have:=(um hs h (d:=p.2.2)).1.2;lia
 have hcomp:∀chk st x2,Kept chk st->aC (Tn P (call P (n+4)) 1 [0] (.var 0) (some (.cmp .IsNot (.call 37 [.var 1, .var 0]) (.const .non))) (.var 0) [some (bW s L),some (ah p),x2]) chk ((aM 0 (y.pt p.2.2).c.toNat).map λt=>aj (aJ p t)) st= .ok (((aM 0 (y.pt p.2.2).c.toNat).filter (gH L p)).map λt=>aj (aJ p t)) st:=λchk st x2 hk=>by
  rw[dH hk (λt=>aj (aJ p t)) (λt=>if gH L p t=true then some (aj (aJ p t)) else none) _ λt _=> ?_,bC];have q:=oS F (n+3) s L (bW s L) (aJ p t) st (by simp);simp[Tn,aO,az,q,gH]
  have:∀o:Option Bx,jd (!gg (oV o)) (R.ok (some (aj (aJ p t))) st) (R.ok none st)=R.ok (if o.isSome=true then some (aj (aJ p t)) else none) st:=λo=>by cases o<;>simp[oV,bJ]
  exact this _
 simp[iT F,q1,T.low,hcl];rw[hcomp _ _ _ (dI (by rw[zi];rfl))];simp[T.low,new,hcl,cW];exact fu P st _ (.int _) (by simp)
theorem kM (f:Int->Bool):∀(n:Nat) (lo:Int),(∀t,lo<=t->f (t+1)=true->f t=true)->∀t,lo<=t->t<lo+n->(f t=true↔t<lo+((aM lo n).filter f).length)
 |0,lo,_,t,h1,h2=>by simp at h2;lia
 |n+1,lo,hd,t,h1,h2=>by
  have ih:=kM f n (lo+1) (λt ht=>hd t (by lia))
  have all:f lo=false->∀t,lo<=t->f t=false:=λh0 t ht=>by
   obtain⟨k,rfl⟩:∃k:Nat,t=lo+k:=⟨(t-lo).toNat,by lia⟩
   induction k with
   |zero=>simpa using h0
   |succ k ih=>
    cases e:f (lo+(k+1:Nat)) with
    |false=>rfl
    |true=>
     have:=hd (lo+k) (by lia) (by rw[show lo+(k:Int)+1=lo+(k+1:Nat) by push_cast;lia];exact e);rw[ih (by lia)] at this;cases this
  unfold aM
  cases e:f lo with
  |false=>
   rw[abp,if_neg (by simp[e]),all e t h1]
   have:(aM (lo+1) n).filter f=[]:=List.filter_eq_nil_iff.mpr λx hx=>by simp[all e x (by have:=cX.mp hx;lia)]
   simp[this];lia
  |true=>
   rw[abp,if_pos e,aar]
   by_cases ht:t=lo
   ·subst ht;simp[e];lia
   ·rw[ih t (by lia) (by push_cast at h2;lia)]
    push_cast
    lia
theorem cH {L:List (Cell×Bx)} {p:Int×Int×Int} {t:Int}:gH L p t=true↔∃q∈L,q.1=aJ p t:=by
 unfold gH oK;simp
theorem BG {s:Sh} {L:List (Cell×Bx)} (h:bU s L) (hl:L.length<60) (p:Int×Int×Int) (y:Sk) (hy:s.sk? p.1 p.2.1=some y) (hd:p.2.2=0∨p.2.2=1) (b:Bx) (hn:b.name∉L.map λq=>q.2.name) (ht:(cW L p (y.pt p.2.2).c:Int)<(y.pt p.2.2).c):bU s (L++[(aJ p (cW L p (y.pt p.2.2).c),b)]):=by
 let⟨h1,h2,h3,h4,h5⟩:=h
 have dn:∀t,0<=t->gH L p (t+1)=true->gH L p t=true:=λt t0 q=>by
  let⟨r,hr,e⟩:=cH.mp q
  rcases h5 r hr with z|⟨r',hr',e'⟩
  ·rw[e] at z;simp[aJ] at z;lia
  ·exact cH.mpr ⟨r',hr',by rw[e',e];simp[aJ]⟩
 have tp:=kM (gH L p) (y.pt p.2.2).c.toNat 0 dn;have tl:cW L p (y.pt p.2.2).c=((aM 0 (y.pt p.2.2).c.toNat).filter (gH L p)).length:=rfl;rw[←tl] at tp;generalize cW L p (y.pt p.2.2).c=T at*;refine⟨by simp;lia, ?_, ?_,λq hq=> ?_,λq hq=> ?_⟩
 ·rw[acf,abN];refine⟨h2,by simp,λc hc e he=> ?_⟩;simp at he;subst he;intro e2;let⟨q,hq,e3⟩:=aaP.mp hc;have:=(tp T (by lia) (by lia)).mp (cH.mpr ⟨q,hq,e3.trans e2⟩);lia
 ·rw[acf,abN];refine⟨h3,by simp,λc hc e he=> ?_⟩;simp at he;subst he;intro e2;exact hn (e2▸hc)
 ·rcases aaD.mp hq with hq|hq
  ·exact h4 q hq
  ·simp at hq;subst hq;exact⟨y,hy,hd,by simp[aJ],ht⟩
 ·rcases aaD.mp hq with hq|hq
  ·rcases h5 q hq with z|⟨r,hr,e⟩
   ·exact .inl z
   ·exact .inr ⟨r,aaD.mpr (.inl hr),e⟩
  ·simp at hq;subst hq
   by_cases t0:T=0
   ·exact .inl (by simp[aJ,t0])
   ·let⟨r,hr,e⟩:=cH.mp ((tp ((T:Int)-1) (by lia) (by lia)).mpr (by lia));exact .inr ⟨r,aaD.mpr (.inl hr),e⟩
end PI
namespace PI
namespace RB
open PySem
structure FG (P:Pg):Prop extends FLoad P where
 f15:P.fn 15=some Es
 f17:P.fn 17=some Fb
 f40:P.fn 40=some Ex
 f41:P.fn 41=some Dz
 f42:P.fn 42=some Fv
 f43:P.fn 43=some Fm
 f44:P.fn 44=some EB
noncomputable def E2 (ns:List Int) (z:Int):Int:=if ns=[] then 0 else ns.getD (z % ns.length).toNat 0
def bz (ns:List Int) (z:Int):Int:=let m:=(E2 ns z % 2147483647+z*z*7919+11)*48271 % 2147483647;m*m % 1999999973
theorem dg (ns:List Int) (z:Int):0<=bz ns z/\bz ns z<1999999973:=by
 unfold bz;simp only;lia
noncomputable abbrev bR (ns:List Int):Val:= .lst (ns.map .int)
theorem cc {P:Pg} (F:FG P) (n:Nat) (ns:List Int) (z:Int) (s:aa) (z0:0<=z) (z1:z<2^60):
  call P (n+1) 15 [bR ns, .ref 0] (.lst [.int z]::s)= .ok (.int (bz ns (z+1))) (.lst [.int (z+1)]::s):=by
 rw[ax F.f15 _ _ _ rfl];unfold Es
 have zz:(z+1).natAbs<2^64:=by lia
 have hm:∀x:Int,(x % 2147483647).natAbs<2^64:=λx=>by lia
 have f:∀v,fin P (.lst [.int z]::s) (.int v) (.lst [.int (z+1)]::s)= .ok (.int v) (.lst [.int (z+1)]::s):=λv=>Bo P z (z+1) s _ (by simp)
 by_cases hn:ns=[]
 ·subst hn;simp[zz,hm,bz,E2,f]
 ·have l0:0<ns.length:=acd.mpr hn
  have l1:(0:Int)<ns.length:=by lia
  have h0:0<=(z+1) % (ns.length:Int):=abK _ (by lia);have h1:(z+1) % (ns.length:Int)<ns.length:=abw _ (by lia);simp[zz,hm,bz,E2,l0,l1,h0,h1,hn,f]
theorem Cm (z z':Int) (s g:aa) (j:Nat) (xs:List Val) (hj:g[j]?=some (.lst xs)) (hx:trees xs=true):(Val.ref (s.length+1+j)).aB (.lst [.int z']::(s++g)) (s.length+1) (s.length+1+g.length)=some (.lst xs):=by
 have hlt:j<g.length:=(aae.mp hj).1
 have e:(Ob.lst [.int z']::(s++g))[s.length+1+j]?=some (.lst xs):=by
  rw[show s.length+1+j=(s.length+j)+1 by lia,ab0,tP,hj]
 simp only[Val.aB,Val.sub,jl,e];rw[if_neg (by lia),if_neg (by lia),cw _ _ hx];rfl
noncomputable def aM:Int->Nat->List Int
 |_,0=>[]
 |lo,n+1=>lo::aM (lo+1) n
theorem jQ:∀(n:Nat) (lo:Int),aY lo n=(aM lo n).map .int
 |0,_=>rfl
 |n+1,lo=>by simp[aY,aM,jQ n]
theorem vo {e:Int}:∀{l:List Int} {a a':Int},a'<=a->iW e a l->iW e a' l
 |[],_,_,_,_=>trivial
 |x::l,a,a',h,q=>⟨by have:=q.1;lia,q.2.1,q.2.2⟩
theorem oH (f:Int->Bool):∀(n:Nat) (lo:Int),iW (lo+n) lo ((aM lo n).filter f)
 |0,_=>trivial
 |n+1,lo=>by
  have h:=oH f n (lo+1);rw[show lo+1+(n:Int)=lo+((n+1:Nat):Int) by push_cast;lia] at h;unfold aM;rw[abp];split
  ·exact⟨by lia,by push_cast;lia,h⟩
  ·exact vo (by lia) h
def iQ (p:Pt):Val:= .tup false [.int p.c, .int p.s, .int p.h, .lst (p.p.map .int), .int p.l]
@[simp]theorem HX (p:Pt):(iQ p).tree=true:=by simp[iQ]
theorem cX:∀{n:Nat} {lo x:Int},x∈aM lo n->lo<=x/\x<lo+n
 |0,_,_,h=>by simp[aM] at h
 |n+1,lo,x,h=>by
  simp[aM] at h
  rcases h with rfl|h
  ·lia
  ·have:=cX h;lia
theorem bC {α β:Type} (f:α->Bool) (g:α->β):∀l:List α,(l.filterMap λa=>if f a=true then some (g a) else none)=(l.filter f).map g
 |[]=>rfl
 |a::l=>by
  rw[abD,abp,bC f g l];cases f a<;>simp
noncomputable def _root_.PI.Pt.Sm (p:Pt) (c:Int):Prop:=p.c<=c/\p.s<100/\p.l<100
theorem t7 {P:Pg} (F:FG P) (n:Nat) (ns:List Int) (z:Int) (s:aa) (c:Nat) (hc:c<=9) (z0:0<=z) (z1:z<2^60):
  ∃p:Pt,p.Ok/\p.Sm c/\call P (n+2) 17 [bR ns, .ref 0, .int c] (.lst [.int z]::s)= .ok (iQ p) (.lst [.int (z+1)]::s):=by
 rw[ax F.f17 _ _ _ rfl];unfold Fb;have q1:=cc F n ns z s z0 z1;have hr:=dg ns (z+1);generalize bz ns (z+1)=m at q1 hr
 have k0:(0:Int)<(c:Int)+1:=by lia
 have k1:0<=m % ((c:Int)+1):=abK _ (by lia);have k2:m % ((c:Int)+1)<(c:Int)+1:=abw _ (by lia)
 have k3:m % ((c:Int)+1)<16777216:=by lia
 have k4:(m % ((c:Int)+1)).toNat<=10000:=by lia
 have hcomp:∀(a b:Option Val) (x y:Option Val),aC (Tn P (call P (n+1)) 1 [3] (.var 0) (some (.cmp .Gt (.bin .Mod (.bin .FloorDiv (.bin .FloorDiv (.var 1) (.ci 10)) (.bin .Add (.bin .Mult (.var 0) (.var 0)) (.ci 1))) (.ci 3)) (.ci 0))) (.var 0) [a,b,x,some (.int m),y,none]) [] (aY 0 (m % ((c:Int)+1)).toNat) (.lst [.int (z+1)]::s)= .ok (((aM 0 (m % ((c:Int)+1)).toNat).filter λk=>decide (0<m/10/(k*k+1) % 3)).map .int) (.lst [.int (z+1)]::s):=by
  intro a b x y;rw[jQ];rw[dH (bx _) Val.int (λk=>if decide (0<m/10/(k*k+1) % 3)=true then some (.int k) else none) _ ?_,bC];intro k hk;have hk:=cX hk
  have hk1:k.natAbs<2^64:=by lia
  have hk2:0<=k*k:=Int.mul_nonneg (by lia) (by lia);have hk3:k*k<=10*10:=Int.mul_le_mul (by lia) (by lia) (by lia) (by lia)
  have hk4:0<k*k+1:=by lia
  have hk5:k*k+1<2^64:=by lia
  have hk6:=λst=>rq (m/10) (k*k+1) st hk4 hk5;simp[Tn,aO,az,hk1,hk6]
  by_cases hb:0<m/10/(k*k+1) % 3<;>simp[hb]
 refine⟨⟨m % ((c:Int)+1),5+m/7 % 40,5+m/300 % 30,(aM 0 (m % ((c:Int)+1)).toNat).filter λk=>decide (0<m/10/(k*k+1) % 3),m/9000 % 60⟩,⟨⟨k1,by simp only;lia⟩,⟨by simp only;lia,by simp only;lia,by simp only;lia⟩, ?_⟩,⟨by simp only;lia,by simp only;lia,by simp only;lia⟩, ?_⟩
 ·have:=oH (λk=>decide (0<m/10/(k*k+1) % 3)) (m % ((c:Int)+1)).toNat 0;rw[show (0:Int)+((m % ((c:Int)+1)).toNat:Int)=m % ((c:Int)+1) by lia] at this;exact this
 ·simp[q1,k0,k1,k3,k4,T.low,hcomp,new];refine(Cp P z (z+1) s [.lst _] _ (iQ _) rfl ?_);have hz:=Cm z (z+1) s [.lst (((aM 0 (m % ((c:Int)+1)).toNat).filter λk=>decide (0<m/10/(k*k+1) % 3)).map .int)] 0 _ rfl (by simp);simp at hz;simp[iQ];rw[hz];simp
end RB
namespace RB
open PySem
def dw (y:Sk):Val:= .tup false [.int y.side,iQ y.hold,iQ y.deck]
noncomputable def jU:List S:=[.set (.var 9) (.bin .Sub (.bin .Mod (.call 15 [.var 0, .var 1]) (.ci 9)) (.ci 4)), .set (.var 10) (.call 17 [.var 0, .var 1, .var 4]), .expr (.bm .append (.var 7) [.tup [.var 9, .var 10, .call 17 [.var 0, .var 1, .var 4]]])]
theorem qv {P:Pg} (F:FG P) (n:Nat) (ns:List Int) (T:aa) (c:Nat) (hc:c<=9) (x2 x3 x5 x6:Option Val):∀(m:Nat) (lo z:Int) (sks:List Sk) (x8 x9 x10:Option Val),sks.length+m<=20->0<=z->z+3*m<2^59->
  ∃z' ys y8 y9 y10,forL (.var 8) (fW P (call P (n+2)) jU) [] (aY lo m) [some (bR ns),some (.ref 0),x2,x3,some (.int c),x5,x6,some (.ref (T.length+1)),x8,x9,x10,none,none,none] (.lst [.int z]::(T++[.lst (sks.map dw)]))
   = .next [some (bR ns),some (.ref 0),x2,x3,some (.int c),x5,x6,some (.ref (T.length+1)),y8,y9,y10,none,none,none] (.lst [.int z']::(T++[.lst ((sks++ys).map dw)]))/\ys.length=m/\(∀y∈ys,y.Ok/\y.hold.Sm c/\y.deck.Sm c)/\z<=z'/\z'<=z+3*m
 |0,lo,z,sks,x8,x9,x10,_,_,_=>⟨z,[],x8,x9,x10,by simp[aY],rfl,by simp,by lia,by lia⟩
 |m+1,lo,z,sks,x8,x9,x10,hl,z0,z1=>by
  have q1:=cc F (n+1) ns z (T++[.lst (sks.map dw)]) z0 (by lia);let⟨p1,a1,a2,q2⟩:=t7 F n ns (z+1) (T++[.lst (sks.map dw)]) c hc (by lia) (by lia);let⟨p2,b1,b2,q3⟩:=t7 F n ns (z+1+1) (T++[.lst (sks.map dw)]) c hc (by lia) (by lia);let⟨z',ys,y8,y9,y10,e,h1,h2,h3,h4⟩:=qv F n ns T c hc x2 x3 x5 x6 m (lo+1) (z+1+1+1) (sks++[⟨bz ns (z+1) % 9-4,p1,p2⟩]) (some (.int lo)) (some (.int (bz ns (z+1) % 9-4))) (some (iQ p1)) (by simp;lia) (by lia) (by lia);refine⟨z',⟨bz ns (z+1) % 9-4,p1,p2⟩::ys,y8,y9,y10, ?_,by simp[h1], ?_,by lia,by lia⟩
  ·unfold jU at e⊢
   have l:sks.length<10000:=by lia
   simp[aY,q1,q2,q3,bP,l];simp[dw] at e;exact e
  ·intro y hy
   rcases aau.mp hy with rfl|hy
   ·exact⟨⟨a1,b1⟩,a2,b2⟩
   ·exact h2 y hy
def cq (k:Nat) (bs:List By):List Val:=(bs.zipIdx k).map λp=> .tup false [.int p.1.arm, .ref p.2]
def fQ (f:Sk->Val) (b:By):Ob:= .lst (b.sks.map f)
theorem we (k:Nat) (bs:List By) (b:By):cq k (bs++[b])=cq k bs++[.tup false [.int b.arm, .ref (k+bs.length)]]:=by
 simp[cq,List.zipIdx_append]
@[simp]theorem HS (k:Nat) (bs:List By):(cq k bs).length=bs.length:=by simp[cq]
@[simp]theorem Ii (k:Nat):cq k []=[]:=rfl
def nE:List S:=[.set (.var 7) (.lst []), .for (.var 8) (.rng1 (.bin .Add (.ci 1) (.bin .Mod (.call 15 [.var 0, .var 1]) (.var 3)))) jU, .expr (.bm .append (.var 5) [.tup [.bin .Sub (.bin .Mod (.call 15 [.var 0, .var 1]) (.ci 21)) (.ci 10), .var 7]])]
theorem qe {P:Pg} (F:FG P) (n:Nat) (ns:List Int) (s:aa) (c:Nat) (hc:c<=9) (k:Nat) (hk:0<k) (hk3:k<=3) (x2:Option Val):∀(m:Nat) (lo z:Int) (bs:List By) (x6 x7 x8 x9 x10:Option Val),bs.length+m<=20->0<=z->z+11*m<2^59->
  ∃z' cs y6 y7 y8 y9 y10,forL (.var 6) (fW P (call P (n+2)) nE) [] (aY lo m) [some (bR ns),some (.ref 0),x2,some (.int k),some (.int c),some (.ref (s.length+1)),x6,x7,x8,x9,x10,none,none,none] (.lst [.int z]::(s++ .lst (cq (s.length+2) bs)::bs.map (fQ dw)))
   = .next [some (bR ns),some (.ref 0),x2,some (.int k),some (.int c),some (.ref (s.length+1)),y6,y7,y8,y9,y10,none,none,none] (.lst [.int z']::(s++ .lst (cq (s.length+2) (bs++cs))::(bs++cs).map (fQ dw)))/\cs.length=m/\(∀b∈cs,b.Ok/\b.sks.length<=k/\∀y∈b.sks,y.hold.Sm c/\y.deck.Sm c)/\z<=z'/\z'<=z+11*m
 |0,lo,z,bs,x6,x7,x8,x9,x10,_,_,_=>⟨z,[],x6,x7,x8,x9,x10,by simp[aY],rfl,by simp,by lia,by lia⟩
 |m+1,lo,z,bs,x6,x7,x8,x9,x10,hl,z0,z1=>by
  have q1:=cc F (n+1) ns z (s++ .lst (cq (s.length+2) bs)::bs.map (fQ dw)++[.lst []]) z0 (by lia);have r1:=dg ns (z+1)
  have k0:(0:Int)<k:=by lia
  have k1:0<=bz ns (z+1) % (k:Int):=abK _ (by lia);have k2:bz ns (z+1) % (k:Int)<k:=abw _ (by lia)
  have k3:0<=1+bz ns (z+1) % (k:Int):=by lia
  have k4:1+bz ns (z+1) % (k:Int)<16777216:=by lia
  let⟨z2,ys,y8,y9,y10,e2,h1,h2,h3,h4⟩:=qv F n ns (s++ .lst (cq (s.length+2) bs)::bs.map (fQ dw)) c hc x2 (some (.int k)) (some (.ref (s.length+1))) (some (.int lo)) (1+bz ns (z+1) % (k:Int)).toNat 0 (z+1) [] x8 x9 x10 (by simp;lia) (by lia) (by lia);have q2:=cc F (n+1) ns z2 (s++ .lst (cq (s.length+2) bs)::bs.map (fQ dw)++[.lst (ys.map dw)]) (by lia) (by lia);let⟨z',cs,w6,w7,w8,w9,w10,e,g1,g2,g3,g4⟩:=qe F n ns s c hc k hk hk3 x2 m (lo+1) (z2+1) (bs++[⟨bz ns (z2+1) % 21-10,ys⟩]) (some (.int lo)) (some (.ref (s.length+(bs.length+1)+1))) y8 y9 y10 (by simp;lia) (by lia) (by lia);refine⟨z',⟨bz ns (z2+1) % 21-10,ys⟩::cs,w6,w7,w8,w9,w10, ?_,by simp[g1], ?_,by lia,by lia⟩
  ·unfold nE at e⊢
   have l:bs.length<10000:=by lia
   simp at q1 q2 e2;simp[aY,q1,k0,hk,k3,k4,new,e2,q2,bP,l];rw[we,show s.length+2+bs.length=s.length+(bs.length+1)+1 by lia] at e;simp[fQ] at e;simp[fQ];exact e
  ·intro y hy
   rcases aau.mp hy with rfl|hy
   ·refine⟨⟨?_,by simp only[h1];lia,λy hy=>(h2 y hy).1⟩,by simp only[h1];lia,λy hy=>(h2 y hy).2⟩;intro e;simp only at e;rw[e] at h1;simp at h1;lia
   ·exact g2 y hy
theorem sW (st:aa) (p:Pt):iM st (iQ p) p:=⟨false,_,rfl, .inl rfl⟩
theorem BU (st:aa) (y:Sk):gC st (dw y) y:=⟨false,_,_,rfl,sW st _,sW st _⟩
theorem qS (st:aa) (f:Sk->Val) (hf:∀y,gC st (f y) y):∀(bs:List By) (k:Nat),(∀(j:Nat) (b:By),bs[j]?=some b->st[k+j]?=some (fQ f b))->bK (gj st) (cq k bs) bs
 |[],_,_=>trivial
 |b::bs,k,h=>by
  refine⟨⟨false, .ref k,b.sks.map f,rfl, .inl ?_, ?_⟩, ?_⟩
  ·have:=h 0 b rfl;simp at this⊢;rw[this];simp[fQ]
  ·have:=bK.map (R:=gC st) f id hf b.sks;simpa using this
  ·have:=qS st f hf bs (k+1) λj c hc=>by
    have:=h (j+1) c hc;rwa[show k+(j+1)=k+1+j by lia] at this
   exact this
noncomputable def uX {α:Type} (a b c:α) (i:Int):α:=if i=0 then a else if i=1 then b else c
theorem zL (a b c:Str) (i:Int) (st:aa) (h0:0<=i) (h1:i<3):de (.lst [.str a, .str b, .str c]) (.int i) st= .ok (.str (uX a b c i)) st:=by
 have:i=0∨i=1∨i=2:=by lia
 rcases this with rfl|rfl|rfl<;>simp[uX]
theorem yP {α:Type} (xs:List α) (v:Int) (h:0<=v):cut xs none (some v)=xs.take v.toNat:=by
 have:¬v<0:=by lia
 simp[cut,bT,this]
def dJ (i:Int):Str:=uX (α:=Str) "dry" "wet" "hot" i
theorem r9 {P:Pg} (F:FG P) (n:Nat) (ns:List Int) (s:aa) (z:Int) (a k c:Nat) (ha:0<a) (ha3:a<=3) (hk:0<k) (hk3:k<=3) (hc:c<=9) (z0:0<=z) (z1:z<2^58):
  ∃(sh:Sh) (z':Int),sh.Ok/\sh.bays.length<=a/\(∀b∈sh.bays,b.sks.length<=k/\∀y∈b.sks,y.hold.Sm c/\y.deck.Sm c)/\(sh.foes.length<=2/\sh.trim<200/\sh.heel<100)/\z<=z'/\z'<=z+40/\call P (n+7) 41 [bR ns, .ref 0, .int a, .int k, .int c] (.lst [.int z]::s)= .ok (bp sh) (.lst [.int z']::s):=by
 rw[ax F.f41 _ _ _ rfl];unfold Dz;have q1:=cc F (n+5) ns z (s++[.lst []]) z0 (by lia)
 have k0:(0:Int)<a:=by lia
 have k1:0<=bz ns (z+1) % (a:Int):=abK _ (by lia);have k2:bz ns (z+1) % (a:Int)<a:=abw _ (by lia)
 have k3:0<=1+bz ns (z+1) % (a:Int):=by lia
 have k4:1+bz ns (z+1) % (a:Int)<16777216:=by lia
 let⟨z2,cs,w6,w7,w8,w9,w10,e,g1,g2,g3,g4⟩:=qe F (n+4) ns s c hc k hk hk3 (some (.int a)) (1+bz ns (z+1) % (a:Int)).toNat 0 (z+1) [] none none none none none (by simp;lia) (by lia) (by lia);have q2:=cc F (n+5) ns z2 (s++ .lst (cq (s.length+2) cs)::cs.map (fQ dw)) (by lia) (by lia);have r2:=dg ns (z2+1);generalize bz ns (z2+1)=m at q2 r2
 have i1:0<=m % 3:=by lia
 have i2:m % 3<3:=by lia
 have i3:0<=m/3 % 3:=by lia
 have i4:m/3 % 3<3:=by lia
 have i5:0<=m/9 % 3:=by lia
 have i6:m/9 % 3<3:=by lia
 have i7:0<=m/27 % 3:=by lia
 have t1:∀st,de (.lst [.str "dry", .str "wet", .str "hot"]) (.int (m % 3)) st= .ok (.str (dJ (m % 3))) st:=λst=>zL _ _ _ (m % 3) st i1 i2;have t2:∀st,de (.lst [.str "dry", .str "wet", .str "hot"]) (.int (m/3 % 3)) st= .ok (.str (dJ (m/3 % 3))) st:=λst=>zL _ _ _ _ st i3 i4;have t3:∀st,de (.lst [.str "dry", .str "wet", .str "hot"]) (.int (m/9 % 3)) st= .ok (.str (dJ (m/9 % 3))) st:=λst=>zL _ _ _ _ st i5 i6;obtain⟨sh,hsh⟩:∃sh:Sh,sh=⟨cs,[(dJ (m % 3),dJ (m/3 % 3)),(dJ (m/9 % 3),"oil")].take (m/27 % 3).toNat,m/81 % 200,m/16200 % 100⟩:=⟨_,rfl⟩
 have e1:sh.trim=m/81 % 200:=by rw[hsh]
 have e2:sh.heel=m/16200 % 100:=by rw[hsh]
 have e3:sh.bays=cs:=by rw[hsh]
 have e4:sh.foes=[(dJ (m % 3),dJ (m/3 % 3)),(dJ (m/9 % 3),"oil")].take (m/27 % 3).toNat:=by rw[hsh]
 have hlen:cs.length<=a:=by lia
 have hfl:sh.foes.length<=2:=by rw[e4];simp;lia
 have af:sh.Ok:=by
  refine⟨?_,by rw[e3];lia,by lia,λb hb=>(g2 b (by rwa[e3] at hb)).1,by rw[e1];lia,by rw[e2];lia⟩;rw[e3];intro e;rw[e] at g1;simp at g1;lia
 refine⟨sh,z2+1,af,by rw[e3];exact hlen,λb hb=>(g2 b (by rwa[e3] at hb)).2,⟨hfl,by rw[e1];lia,by rw[e2];lia⟩,by lia,by lia, ?_⟩
 have hf:([Val.tup false [.str (dJ (m % 3)), .str (dJ (m/3 % 3))], .tup false [.str (dJ (m/9 % 3)), .str "oil"]].take (m/27 % 3).toNat)=sh.foes.map eZ:=by
  rw[e4,List.map_take];rfl
 obtain⟨S,hS⟩:∃S:aa,S= .lst [.int (z2+1)]::(s++ .lst (cq (s.length+2) cs)::(cs.map (fQ dw)++[.lst [.str "dry", .str "wet", .str "hot"], .lst [Val.tup false [.str (dJ (m % 3)), .str (dJ (m/3 % 3))], .tup false [.str (dJ (m/9 % 3)), .str "oil"]], .lst (sh.foes.map eZ)])):=⟨_,rfl⟩
 have hraw:bK (gj S) (cq (s.length+2) cs) sh.bays:=by
  rw[e3];refine qS _ dw (BU _) cs _ λj b hj=> ?_;rw[hS,show s.length+2+j=s.length+(j+1)+1 by lia];simp;rw[aal (by simpa using (aae.mp hj).1)];simp[hj]
 have hship:=Bd F.toFShip n sh S (.ref (s.length+1)) (.ref (s.length+(cs.length+2+1)+1)) (cq (s.length+2) cs) (.inl (by simp[hS])) hraw (by simp[hS]) af;rw[hS] at hship;simp at e;simp[q1,k0,ha,k3,k4,new];unfold nE jU at e;rw[e];simp[q2,new,-nj,t1,t2,t3,yP,i7,hf];rw[e1,e2] at hship;rw[hship];simp;exact mW P z (z2+1) s _ _ (by simp)
end RB
namespace RB
open PySem
noncomputable abbrev v8:Str:=Str.ofString "abcdefghijklmnopqrstuvwxyz"
theorem Cw:v8.cps.toList=(List.range 26).map (97+ ·):=by decide+kernel
theorem sJ:v8.length=26:=by decide+kernel
noncomputable def gE (i:Int):Str:=⟨#[97+i.toNat]⟩
@[simp]theorem Cq (i:Int):(gE i).length=1:=rfl
theorem j9 (i:Int) (st:aa) (h0:0<=i) (h1:i<26):de (.str v8) (.int i) st= .ok (.str (gE i)) st:=by
 rw[ke,bo (by rw[sJ];lia),sJ,Cw]
 have l:i.toNat<26:=by lia
 have h1':i<((26:Nat):Int):=by lia
 simp[h0,h1,l,gE]
noncomputable def fS (i:Int):Int:=2*i+1
theorem yf (i:Int) (st:aa) (h0:0<=i) (h1:i<6):de (.lst [.int 1, .int 3, .int 5, .int 7, .int 9, .int 11]) (.int i) st= .ok (.int (fS i)) st:=by
 have:i=0∨i=1∨i=2∨i=3∨i=4∨i=5:=by lia
 rcases this with rfl|rfl|rfl|rfl|rfl|rfl<;>simp[fS]
def cz (m:Int):Str:=gE (m/6 % 26)++gE (m/156 % 26)
@[simp]theorem IM (m:Int):(cz m).length=2:=rfl
def A1 (m k:Int):Str:=(⟨(cut (cz m).cps.toList none (some (m/4056 % 3))).toArray⟩++gE ((m/156+k*fS (m % 6)) % 26))++⟨(cut (cz m).cps.toList (some (m/4056 % 3)) none).toArray⟩
def nm (m many k:Int):Str:=if (m/12168 % 4==0&&decide (many<13))=true then gM (gE (m/6 % 26)) (k+1).toNat else A1 m k
theorem kc {α:Type} (xs:List α) (lo hi:Option Int):(cut xs lo hi).length<=xs.length:=by
 unfold cut;rw[abb,acC];lia
theorem str_len (l:List Nat):(⟨l.toArray⟩:Str).length=l.length:=by simp[Str.length]
theorem nz (a b:Str):(a++b).length=a.length+b.length:=by
 show (a.cps++b.cps).size=_;simp[Str.length]
noncomputable def lC:List S:=[.set (.var 10) (.idx (.var 3) (.bin .Mod (.bin .Add (.bin .FloorDiv (.var 4) (.ci 156)) (.bin .Mult (.var 9) (.var 6))) (.ci 26))), .ife (.and (.cmp .Eq (.bin .Mod (.bin .FloorDiv (.var 4) (.ci 12168)) (.ci 4)) (.ci 0)) (.cmp .Lt (.var 2) (.ci 13))) [.expr (.bm .append (.var 8) [.bin .Mult (.idx (.var 3) (.bin .Mod (.bin .FloorDiv (.var 4) (.ci 6)) (.ci 26))) (.bin .Add (.var 9) (.ci 1))])] [.expr (.bm .append (.var 8) [.bin .Add (.bin .Add (.slc (.var 5) none (some (.var 7))) (.var 10)) (.slc (.var 5) (some (.var 7)) none)])]]
theorem oW {P:Pg} (cl:ar) (m many:Int) (T:aa) (o:Ob) (x0 x1:Option Val):∀(c:Nat) (lo:Nat) (acc:List Val) (x9 x10:Option Val),acc.length+c<=100->lo+c<=100->
  ∃y9 y10,forL (.var 9) (fW P cl lC) [] (aY lo c) [x0,x1,some (.int many),some (.str v8),some (.int m),some (.str (cz m)),some (.int (fS (m % 6))),some (.int (m/4056 % 3)),some (.ref (T.length+1)),x9,x10] (o::(T++[.lst acc]))
   = .next [x0,x1,some (.int many),some (.str v8),some (.int m),some (.str (cz m)),some (.int (fS (m % 6))),some (.int (m/4056 % 3)),some (.ref (T.length+1)),y9,y10] (o::(T++[.lst (acc++(aM lo c).map λk=> .str (nm m many k))]))
 |0,lo,acc,x9,x10,_,_=>⟨x9,x10,by simp[aY,aM]⟩
 |c+1,lo,acc,x9,x10,hl,hc=>by
  let⟨y9,y10,e⟩:=oW cl m many T o x0 x1 c (lo+1) (acc++[.str (nm m many lo)]) (some (.int lo)) (some (.str (gE ((m/156+lo*fS (m % 6)) % 26)))) (by simp;lia) (by lia);refine⟨y9,y10, ?_⟩;have t1:=λst=>j9 ((m/156+lo*fS (m % 6)) % 26) st (by lia) (by lia);have t2:=λst=>j9 (m/6 % 26) st (by lia) (by lia)
  have l:acc.length<10000:=by lia
  have hi:(fS (m % 6)).natAbs<2^64:=by unfold fS;lia
  have h3:(0:Int)<=(lo:Int)+1:=by lia
  have h4:(lo:Int)+1<=1000:=by lia
  have c1:=kc (cz m).cps.toList none (some (m/4056 % 3));have c2:=kc (cz m).cps.toList (some (m/4056 % 3)) none;have sl:(cz m).cps.toList.length=2:=rfl;rw[sl] at c1 c2
  have d1:(cut (cz m).cps.toList none (some (m/4056 % 3))).length+1<=100000:=by lia
  have d2:(cut (cz m).cps.toList none (some (m/4056 % 3))).length+1+(cut (cz m).cps.toList (some (m/4056 % 3)) none).length<=100000:=by lia
  unfold lC at e⊢;simp[aY,aM] at e⊢;simp[-ke,t1,hi]
  cases hb:(m/12168 % 4==0&&decide (many<13)) with
  |true=>
   simp[-ke,t2,h3,h4,bP,l];simp[nm,hb] at e⊢;exact e
  |false=>
   simp[bP,l,str_len,nz,d1,d2];simp[nm,hb,A1] at e⊢;exact e
theorem yX {b t k j:Int} (i:Int) (ht:t=fS i) (hi:0<=i/\i<6) (hk:0<=k/\k<26) (hj:0<=j/\j<26) (e:(b+k*t) % 26=(b+j*t) % 26):k=j:=by
 have:i=0∨i=1∨i=2∨i=3∨i=4∨i=5:=by lia
 rcases this with rfl|rfl|rfl|rfl|rfl|rfl<;>simp[fS] at ht<;>subst ht<;>lia
theorem t6 (z:Str) (h:z.length=1) (n:Nat):(gM z n).length=n:=by
 unfold gM;rw[str_len];simp;have:z.cps.size=1:=h;simp[this]
theorem Cn {i j:Int} (hi:0<=i) (hj:0<=j) (h:gE i=gE j):i=j:=by
 have:=congrArg (λx:Str=>x.cps.toList) h;simp[gE] at this;lia
theorem CD {a b x y:Str} (h:(a++x)++b=(a++y)++b):x=y:=by
 have:=congrArg (λx:Str=>x.cps.toList) h
 have h1:(a.cps.toList++x.cps.toList)++b.cps.toList=(a.cps.toList++y.cps.toList)++b.cps.toList:=by
  have e:∀u v:Str,(u++v).cps.toList=u.cps.toList++v.cps.toList:=λu v=>by
   show (u.cps++v.cps).toList=_;simp
  simp only[e] at this;exact this
 have h2:=List.append_cancel_left (List.append_cancel_right h1);cases x;cases y;simp at h2;rw[h2]
theorem DH {m many k j:Int} (hk:0<=k/\k<26) (hj:0<=j/\j<26) (h:nm m many k=nm m many j):k=j:=by
 unfold nm at h;split at h
 ·have:=congrArg Str.length h;rw[t6 _ rfl,t6 _ rfl] at this;lia
 ·unfold A1 at h;have:=Cn (by lia) (by lia) (CD h);exact yX (m % 6) rfl (by lia) hk hj this
theorem mG {α:Type} (f:Int->α):∀(n:Nat) (lo:Int),(∀i j,lo<=i->i<lo+n->lo<=j->j<lo+n->f i=f j->i=j)->((aM lo n).map f).Nodup
 |0,_,_=>by simp[aM]
 |n+1,lo,h=>by
  simp only[aM,aav,abk];refine⟨λhm=> ?_,mG f n (lo+1) λi j a b c d=>h i j (by lia) (by lia) (by lia) (by lia)⟩;let⟨x,hx,e⟩:=aaP.mp hm;have:=cX hx;have:=h x lo (by lia) (by lia) (by lia) (by lia) e;lia
@[simp]theorem lh:∀(n:Nat) (lo:Int),(aM lo n).length=n
 |0,_=>rfl
 |n+1,lo=>by simp[aM,lh n]
theorem tU (z:Nat):∀n:Nat,(gM ⟨#[z]⟩ n).cps.toList=List.replicate n z
 |0=>rfl
 |n+1=>by
  have:=tU z n;simp[gM] at this⊢
theorem uK {m c k:Int} (h:nm m c k=("strange":Str)):False:=by
 unfold nm at h;split at h
 ·have e:=congrArg (λx:Str=>x.cps.toList) h;simp only[gE,tU] at e;rw[show (("strange":Str).cps.toList)=[115,116,114,97,110,103,101] by decide+kernel] at e
  have e1:(115:Nat)∈List.replicate (k+1).toNat (97+(m/6 % 26).toNat):=by rw[e];simp
  have e2:(116:Nat)∈List.replicate (k+1).toNat (97+(m/6 % 26).toNat):=by rw[e];simp
  have:=(List.mem_replicate.mp e1).2;have:=(List.mem_replicate.mp e2).2;lia
 ·have e:=congrArg Str.length h;unfold A1 at e;rw[nz,nz,Cq,str_len,str_len,show (("strange":Str).length)=7 by decide+kernel] at e;have h1:=kc (cz m).cps.toList none (some (m/4056 % 3));have h2:=kc (cz m).cps.toList (some (m/4056 % 3)) none;have h3:(cz m).cps.toList.length=2:=rfl;lia
theorem yl {P:Pg} (F:FG P) (n:Nat) (ns:List Int) (z:Int) (s:aa) (c:Nat) (hc:c<=26) (z0:0<=z) (z1:z<2^60):
  ∃N:List Str,N.length=c/\(N.Nodup/\("strange":Str)∉N)/\call P (n+2) 40 [bR ns, .ref 0, .int c] (.lst [.int z]::s)= .ok (.ref (s.length+1)) (.lst [.int (z+1)]::(s++[.lst (N.map .str)])):=by
 rw[ax F.f40 _ _ _ rfl];unfold Ex;have q1:=cc F n ns z s z0 z1;have hr:=dg ns (z+1);generalize bz ns (z+1)=m at q1 hr;refine⟨(aM 0 c).map λk=>nm m c k,by simp,⟨mG _ _ _ λi j a b c d e=>DH (by lia) (by lia) e,λh=>by let⟨k,_,e⟩:=aaP.mp h;exact uK e⟩, ?_⟩;let⟨y9,y10,e⟩:=oW (P:=P) (call P (n+1)) m c (s++[.lst [.int 1, .int 3, .int 5, .int 7, .int 9, .int 11]]) (.lst [.int (z+1)]) (some (bR ns)) (some (.ref 0)) c 0 [] none none (by simp;lia) (by lia);have t1:=λst=>j9 (m/6 % 26) st (by lia) (by lia);have t2:=λst=>j9 (m/156 % 26) st (by lia) (by lia);have t3:=λst=>yf (m % 6) st (by lia) (by lia)
 have h1:(c:Int)<16777216:=by lia
 unfold lC at e;simp at e;simp[-ke,-nj,q1,t1,t2,new,t3,h1];rw[show gE (m/6 % 26)++gE (m/156 % 26)=cz m from rfl,e];simp;refine(j7 P z (z+1) s _ 1 _ _ rfl (bQ _ _ _ _ (aT _ _ λa=>by simp))).trans ?_;rfl
end RB
namespace RB
open PySem
open Classical in
theorem nR {α β:Type} {f:Val->aa->R (Option Val)} {chk:List (Nat×Ob)} {T:aa} {gV:α->Val} {hV:β->Val} {R:α->β->Prop} {d B:Int} (hd:0<=d) (hk:∀z,Kept chk (.lst [.int z]::T)) (hf:∀a z,0<=z->z<B->∃b,R a b/\f (gV a) (.lst [.int z]::T)= .ok (some (hV b)) (.lst [.int (z+d)]::T)):
  ∀(as:List α) (z:Int),0<=z->z+d*as.length<B->∃bs,bK R as bs/\aC f chk (as.map gV) (.lst [.int z]::T)= .ok (bs.map hV) (.lst [.int (z+d*as.length)]::T)
 |[],z,_,_=>⟨[],trivial,by simp;exact bo (hk z)⟩
 |a::as,z,z0,hz=>by
  have hn:0<=d*(as.length:Int):=Int.mul_nonneg hd (by lia)
  have e:d*((a::as).length:Int)=d+d*as.length:=by
   simp[Int.mul_add];lia
  rw[e] at hz⊢;let⟨b,r,q⟩:=hf a z z0 (by lia);let⟨bs,r2,q2⟩:=nR hd hk hf as (z+d) (by lia) (by lia);refine⟨b::bs,⟨r,r2⟩, ?_⟩;show iff (Kept chk _) ((f (gV a) _).bind λo st=>(aC f chk (as.map gV) st).bind λr st=> .ok (eO o r) st)=_;rw[bo (hk z),q];show (aC f chk (as.map gV) (.lst [.int (z+d)]::T)).bind _=_;rw[q2];simp[Int.add_assoc]
noncomputable def _root_.PI.Bx.Ok (b:Bx):Prop:=(0<=b.w/\big b.w)/\0<=b.h/\(b.cold=0∨b.cold=1)/\0<=b.port
theorem CO {i:Int} (h:i.natAbs<10^60):big i:=by
 unfold big;exact aao (show i.natAbs<2^200 by lia) (Nat.pow_le_pow_right (by lia) (by lia))
noncomputable def u7 (i:Int):Str:=if i=0 then "dry" else if i=1 then "wet" else if i=2 then "hot" else "oil"
theorem Ki (i:Int) (st:aa) (h0:0<=i) (h1:i<4):de (.lst [.str "dry", .str "wet", .str "hot", .str "oil"]) (.int i) st= .ok (.str (u7 i)) st:=by
 have:i=0∨i=1∨i=2∨i=3:=by lia
 rcases this with rfl|rfl|rfl|rfl<;>simp[u7]
theorem Dm {P:Pg} (F:FG P) (n:Nat) (ns:List Int) (z:Int) (s:aa) (x:Str) (z0:0<=z) (z1:z<2^60):
  ∃b:Bx,(b.name=x/\b.Ok)/\call P (n+2) 42 [bR ns, .ref 0, .str x] (.lst [.int z]::s)= .ok (bJ b) (.lst [.int (z+1)]::s):=by
 rw[ax F.f42 _ _ _ rfl];unfold Fv;have q1:=cc F n ns z s z0 z1;have hr:=dg ns (z+1);generalize bz ns (z+1)=m at q1 hr;have t:=λst=>Ki (m % 4) st (by lia) (by lia);refine⟨⟨x,m/4 % 12,m/48 % 9,if (m/432 % 4==0)=true then 1 else 0,u7 (m % 4),m/1728 % 5⟩,⟨rfl,⟨by show 0<=m/4 % 12;lia,CO (by show (m/4 % 12).natAbs<_;lia)⟩,by show 0<=m/48 % 9;lia, ?_,by show 0<=m/1728 % 5;lia⟩, ?_⟩
 ·simp only;split<;>simp
 ·simp[-nj,q1,t,new];exact mW P z (z+1) s [.lst _] (bJ ⟨x,m/4 % 12,m/48 % 9,_,u7 (m % 4),m/1728 % 5⟩) (by simp)
theorem uT {N:List Str} {Bs:List Bx} {f:Bx->Prop} (h:bK (λx b=>b.name=x/\f b) N Bs):Bs.map (·.name)=N/\∀b∈Bs,f b:=by
 induction Bs generalizing N with
 |nil=>cases N with
  |nil=>simp
  |cons _ _=>exact h.elim
 |cons b Bs ih=>cases N with
  |nil=>exact h.elim
  |cons x N=>
   let⟨h1,h2⟩:=ih h.2;refine⟨by simp[h.1.1];simpa using h1,λc hc=> ?_⟩
   rcases aau.mp hc with rfl|hc
   ·exact h.1.2
   ·exact h2 c hc
theorem zX {P:Pg} (F:FG P) (n:Nat) (ns:List Int) (z:Int) (s:aa) (c:Nat) (hc:c<=26) (z0:0<=z) (z1:z<2^59):
  ∃(Bs:List Bx) (z':Int),Bs.length=c/\((Bs.map (·.name)).Nodup/\("strange":Str)∉Bs.map (·.name))/\(∀b∈Bs,b.Ok)/\z<=z'/\z'<=z+40/\call P (n+3) 43 [bR ns, .ref 0, .int c] (.lst [.int z]::s)= .ok (.ref (s.length+1)) (.lst [.int z']::(s++[.lst (Bs.map bJ)])):=by
 rw[ax F.f43 _ _ _ rfl];unfold Fm;let⟨N,h1,h2,q1⟩:=yl F n ns z s c hc z0 (by lia)
 let⟨Bs,r,q2⟩:=nR (f:=Tn P (call P (n+2)) 1 [1,0] (.var 0) none (.call 42 [.var 2, .var 1, .var 0]) [some (bR ns),some (.ref 0),some (.int c)]) (chk:=[(s.length+1, .lst (N.map .str))]) (T:=s++[.lst (N.map .str)]) (gV:=Val.str) (hV:=bJ) (R:=λx b=>b.name=x/\b.Ok) (d:=1) (B:=2^60) (by lia) (λz p hp=>by
   simp at hp;subst hp
   simp) (λx z z0 z1=>by
   let⟨b,hb,q⟩:=Dm F n ns z (s++[.lst (N.map .str)]) x z0 z1
   exact⟨b,hb,by simp[Tn,aO,az,q]⟩) N (z+1) (by lia) (by lia)
 let⟨a1,a2⟩:=uT r
 have hl:Bs.length=c:=by rw[←h1,←a1];simp
 have hN:N.length<=10000:=by lia
 refine⟨Bs,z+1+1*N.length,hl,by rw[a1];exact h2,a2,by lia,by lia, ?_⟩;simp[q1,q2,hN,T.low,new];refine(j7 P z _ s [.lst (N.map .str), .lst (Bs.map bJ)] 1 _ _ rfl (bQ _ _ _ _ (aT _ _ λa=>by simp))).trans ?_;rfl
end RB
namespace RB
open PySem
abbrev Pn:=Int×Int×Int
theorem eB:KOk ah where
 key a:=by simp[ah,bA,uW]
 eq a b:=by
  let⟨a1,a2,a3⟩:=a;let⟨b1,b2,b3⟩:=b;simp[ah];rw[aaN];simp
 kt a b:=by simp[ah,kT]
noncomputable def aZ (D:List (Pn×Int)) (a:Pn):Int:=((D.find? λp=>p.1=a).map (·.2)).getD 0
noncomputable def dput (D:List (Pn×Int)) (a:Pn) (x:Int):List (Pn×Int):=if a∈D.map (λp=>p.1) then D.map (λp=>if p.1=a then (p.1,x) else p) else D++[(a,x)]
theorem sZ (a:Pn) (x:Int):∀D:List (Pn×Int),gN (ah a) (.int x) (D.map λp=>ah p.1) (D.map λp=> .int p.2)=(D.map (λp=>if p.1=a then (p.1,x) else p)).map λp=> .int p.2
 |[]=>by simp[gN]
 |p::D=>by
  simp only[aav,gN];rw[sZ a x D,eB.eq]
  by_cases h:p.1=a<;>simp[h]
theorem sI (a:Pn) (x:Int) (D:List (Pn×Int)):putD (ah a) (.int x) (D.map λp=>ah p.1) (D.map λp=> .int p.2)=some ((dput D a x).map (λp=>ah p.1),(dput D a x).map λp=> .int p.2):=by
 have e:(D.map λp=>ah p.1)=(D.map λp=>p.1).map ah:=by simp
 unfold putD;rw[sZ,e,jY eB,←e];unfold dput
 by_cases h:a∈D.map (λp=>p.1)
 ·simp only[h,decide_true,abL,acN];congr 2;simp;intro a1 a2 a3 v _;split<;>simp[*]
 ·simp only[h,decide_false,abq,acN];simp
theorem gd (D:List (Pn×Int)) (a b:Pn) (x:Int):aZ (dput D a x) b=if b=a then x else aZ D b:=by
 unfold dput;split
 ·rename_i h
  induction D with
  |nil=>simp at h
  |cons p D ih=>
   unfold aZ at ih⊢
   by_cases hp:p.1=a
   ·by_cases hb:b=a
    ·simp[hp,hb]
    ·have hb':¬p.1=b:=λe=>hb (by rw[←e,hp]);have hb'':¬a=b:=λe=>hb e.symm;simp only[aav,hp,abL];rw[ab3 (by simp[hb'']),ab3 (by simp[hp,hb''])]
     by_cases hm:a∈D.map (λp=>p.1)
     ·exact ih hm
     ·have e:D.map (λp=>if p.1=a then (p.1,x) else p)=D:=by
       conv=>rhs;rw[←List.map_id D]
       refine acR λq hq=> ?_;rw[if_neg (λ(e:q.1=a)=>hm (aaP.mpr ⟨q,hq,e⟩))];rfl
      rw[e,if_neg hb]
   ·have hm:a∈D.map (λp=>p.1):=by
     rcases aau.mp h with e|e
     ·exact absurd e.symm hp
     ·exact e
    simp only[aav,hp,abq]
    by_cases hb:p.1=b
    ·have:¬b=a:=λe=>hp (hb.trans e);rw[List.find?_cons_of_pos (by simp[hb]),List.find?_cons_of_pos (by simp[hb]),if_neg this]
    ·rw[ab3 (by simp[hb]),ab3 (by simp[hb])];exact ih hm
 ·rename_i h;unfold aZ;rw[List.find?_append]
  by_cases hb:b=a
  ·subst hb
   have:D.find? (λp=>p.1=b)=none:=by
    rw[acW];intro p hp e;exact h (aaP.mpr ⟨p,hp,by simpa using e⟩)
   rw[this];simp
  ·have:¬a=b:=λe=>hb e.symm;simp[this,hb]
theorem qV (D:List (Pn×Int)) (a:Pn) (x:Int):(dput D a x).length<=D.length+1:=by
 unfold dput;split<;>simp
structure Pl (sh:Sh) (done:List Bx) (D:List (Pn×Int)) (L:List (Cell×Bx)):Prop where
 len:D.length<=done.length
 top:∀p,0<=aZ D p
 inn:∀q∈L,(∃y,sh.sk? q.1.b q.1.k=some y/\(q.1.d=0∨q.1.d=1)/\0<=q.1.t/\q.1.t<(y.pt q.1.d).c)/\q.1.t<aZ D (q.1.b,q.1.k,q.1.d)
 all:∀p:Pn,∀t:Int,0<=t->t<aZ D p->∃q∈L,q.1=⟨p.1,p.2.1,p.2.2,t⟩
 nod:(L.map λq=>q.1).Nodup
 sub:(L.map λq=>q.2).Sublist done
theorem Pl.nil (sh:Sh):Pl sh [] [] []:=⟨by simp,by simp[aZ],by simp,λp t h0 h1=>by simp[aZ] at h1;lia,by simp,by simp⟩
theorem Pl.skip {sh:Sh} {done:List Bx} {D:List (Pn×Int)} {L:List (Cell×Bx)} (h:Pl sh done D L) (b:Bx):Pl sh (done++[b]) D L:=⟨by have:=h.len;simp;lia,h.top,h.inn,h.all,h.nod,h.sub.trans (List.sublist_append_left _ _)⟩
theorem Pl.put {sh:Sh} {done:List Bx} {D:List (Pn×Int)} {L:List (Cell×Bx)} (h:Pl sh done D L) (b:Bx) (p:Pn) (y:Sk) (hy:sh.sk? p.1 p.2.1=some y) (hd:p.2.2=0∨p.2.2=1) (ht:aZ D p<(y.pt p.2.2).c):
  Pl sh (done++[b]) (dput D p (aZ D p+1)) (L++[(⟨p.1,p.2.1,p.2.2,aZ D p⟩,b)]):=by
 have h0:=h.top p;refine⟨?_,λq=> ?_,λq hq=> ?_,λq t t0 t1=> ?_, ?_, ?_⟩
 ·have:=h.len;have:=qV D p (aZ D p+1);simp;lia
 ·rw[gd];split
  ·lia
  ·exact h.top q
 ·rcases aaD.mp hq with hq|hq
  ·let⟨h1,h2⟩:=h.inn q hq;refine⟨h1, ?_⟩;rw[gd];split
   ·rename_i e;rw[e] at h2;lia
   ·exact h2
  ·simp at hq;subst hq;refine⟨⟨y,hy,hd,h0,ht⟩, ?_⟩;rw[gd];simp;lia
 ·rw[gd] at t1;split at t1
  ·rename_i e;subst e
   by_cases e:t=aZ D q
   ·subst e;exact⟨_,aaD.mpr (.inr (by simp;rfl)),rfl⟩
   ·let⟨r,hr,e2⟩:=h.all q t t0 (by lia);exact⟨r,aaD.mpr (.inl hr),e2⟩
  ·let⟨r,hr,e2⟩:=h.all q t t0 t1;exact⟨r,aaD.mpr (.inl hr),e2⟩
 ·rw[acf,abN];refine⟨h.nod,by simp,λc hc e he=> ?_⟩;simp at he;subst he;let⟨q,hq,e⟩:=aaP.mp hc;intro e2;rw[e2] at e;have:=(h.inn q hq).2;rw[e] at this;simp at this
 ·rw[acf];exact List.Sublist.append h.sub (by simp)
theorem Pl.ld {sh:Sh} {done:List Bx} {D:List (Pn×Int)} {L:List (Cell×Bx)} (h:Pl sh done D L) (hl:done.length<64) (hn:(done.map (·.name)).Nodup):bU sh L:=by
 refine⟨?_,h.nod, ?_,λq hq=>(h.inn q hq).1,λq hq=> ?_⟩
 ·have:=h.sub.length_le;simp at this;lia
 ·have:=(h.sub.map (·.name)).nodup hn;rw[abT] at this;exact this
 ·let⟨⟨y,h1,h2,h3,h4⟩,h5⟩:=h.inn q hq
  by_cases e:q.1.t=0
  ·exact .inl e
  ·exact .inr (h.all (q.1.b,q.1.k,q.1.d) (q.1.t-1) (by lia) (by lia))
noncomputable def Nk (t:T) (body:Env->aa->F) (chk:List (Nat×Ob)) (vs:List Val) (env:Env) (st:aa):F:=forL t body chk vs env st
open Classical in
theorem gB {t:T} {body:Env->aa->F} {chk:List (Nat×Ob)} {v:Val} {env:Env} {st:aa} (hk:Kept chk st):forL t body chk (v::vs) env st=(F.ak st (t.put v env)).bind λenv st=>(body env st).turn (Nk t body chk vs):=ik hk
open Classical in
theorem iC {t:T} {body:Env->aa->F} {chk:List (Nat×Ob)} {env:Env} {st:aa} (hk:Kept chk st):forL t body chk [] env st= .next env st:=ik hk
noncomputable def lU:List S:=[.set (.var 8) (.idx (.var 6) (.bin .Mod (.call 15 [.var 0, .var 1]) (.bi .len [.var 6]))), .set (.var 9) (.bm .get (.var 4) [.var 8, .ci 0]), .ife (.cmp .Lt (.var 9) (.idx (.call 12 [.var 2, .var 8]) (.ci 0))) [.dA (.var 4) (.var 8) (.bin .Add (.var 9) (.ci 1)), .expr (.bm .append (.var 5) [.tup [.bin .Add (.var 8) (.tup [.var 9]), .var 7]])] []]
abbrev oz (s:aa) (sh:Sh) (z:Int) (D:List (Pn×Int)) (L:List (Cell×Bx)):aa:= .lst [.int z]::(s++[.dct (D.map λp=>ah p.1) (D.map λp=> .int p.2), .lst (L.map aw), .lst (sh.parts.map ah)])
abbrev wR (ns:List Int) (s:aa) (sh:Sh) (k:Nat) (x7 x8 x9:Option Val):Env:=[some (bR ns),some (.ref 0),some (bp sh),some (.ref (k+1)),some (.ref (s.length+1)),some (.ref (s.length+1+1)),some (.ref (s.length+2+1)),x7,x8,x9]
theorem mZ {P:Pg} (F:FG P) (n:Nat) (ns:List Int) (s:aa) (sh:Sh) (hs:sh.Ok) (k:Nat) (Bs:List Bx) (hk:s[k]?=some (.lst (Bs.map bJ))):
  ∀(rest done:List Bx) (D:List (Pn×Int)) (L:List (Cell×Bx)) (z:Int) (x7 x8 x9:Option Val),Pl sh done D L->done.length+rest.length<=60->0<=z->z+rest.length<2^59->
  ∃D' L' z' y7 y8 y9,forL (.var 7) (fW P (call P (n+4)) lU) [(k+1, .lst (Bs.map bJ))] (rest.map bJ) (wR ns s sh k x7 x8 x9) (oz s sh z D L)= .next (wR ns s sh k y7 y8 y9) (oz s sh z' D' L')/\Pl sh (done++rest) D' L'/\z<=z'/\z'<=z+rest.length
 |[],done,D,L,z,x7,x8,x9,h,_,_,_=>⟨D,L,z,x7,x8,x9,iC (λp hp=>by
  have hk1:k<s.length:=(aae.mp hk).1;simp at hp;subst hp
  simp[aal hk1,hk]),by simpa using h,by lia,by simp⟩
 |b::rest,done,D,L,z,x7,x8,x9,h,hl,z0,z1=>by
  have hk1:k<s.length:=(aae.mp hk).1
  have hkept:Kept [(k+1, .lst (Bs.map bJ))] (oz s sh z D L):=λp hp=>by
   simp at hp;subst hp;simp[aal hk1,hk]
  rw[aav,gB hkept];have q1:=cc F (n+3) ns z (s++[.dct (D.map λp=>ah p.1) (D.map λp=> .int p.2), .lst (L.map aw), .lst (sh.parts.map ah)]) z0 (by simp at z1;lia);have np:0<sh.parts.length:=acd.mpr (yV hs);have r0:0<=bz ns (z+1) % (sh.parts.length:Int):=abK _ (by lia);have r1:bz ns (z+1) % (sh.parts.length:Int)<sh.parts.length:=abw _ (by lia);obtain⟨p,hp⟩:∃p,sh.parts[(bz ns (z+1) % (sh.parts.length:Int)).toNat]?=some p:=⟨_,aac (by lia)⟩;let⟨_,hp'⟩:=aae.mp hp;let⟨y,hy,hd⟩:=dS (aas hp);have q2:=dU F.toFPart (n+1) sh false p.1 p.2.1 p.2.2 y (oz s sh (z+1) D L) hy hd
  have q3:∀st,lO (.dct (D.map λp=>ah p.1) (D.map λp=> .int p.2)) [ah p, .int 0] st= .ok (.int (aZ D p)) st:=λst=>by
   rw[dX,bo (eB.key p),fB eB Val.int p D];simp[aZ];cases List.find? (λq=>decide (q.1=p)) D<;>rfl
  have epv:ah p= .tup false [.int p.1, .int p.2.1, .int p.2.2]:=rfl;rw[←epv] at q2
  have hDl:D.length<10000:=by have:=h.len;simp at hl;lia
  have hLl:L.length<10000:=by have:=h.sub.length_le;simp at this hl;lia
  have ec:eV (y.pt p.2.2)= .tup false [.int (y.pt p.2.2).c, .int (y.pt p.2.2).s, .int (y.pt p.2.2).h, .tup true ((y.pt p.2.2).p.map .int), .int (y.pt p.2.2).l]:=rfl;simp only[oz,ec] at q2;have q4:=sI p (aZ D p+1) D;have q5:=eB.key p
  have q6:∀st,fI (ah p) (.tup false [.int (aZ D p)]) st= .ok (aj ⟨p.1,p.2.1,p.2.2,aZ D p⟩) st:=λst=>by simp[ah,aj]
  have q7:∀st,res st (ah p)=ah p:=λst=>zv st _ (by simp);simp at hl z1
  by_cases ht:aZ D p<(y.pt p.2.2).c
  ·let⟨D',L',z',y7,y8,y9,e,h2,h3,h4⟩:=mZ F n ns s sh hs k Bs hk rest (done++[b]) (dput D p (aZ D p+1)) (L++[(⟨p.1,p.2.1,p.2.2,aZ D p⟩,b)]) (z+1) (some (bJ b)) (some (ah p)) (some (.int (aZ D p))) (h.put b p y hy hd ht) (by simp;lia) (by lia) (by lia);refine⟨D',L',z',y7,y8,y9, ?_,by simpa using h2,by lia,by simp;lia⟩;unfold lU at e⊢;simp only[oz,wR] at e⊢;simp[q1,r0,r1,np,hp,hp',bP,q3,-dX,q2,ht,hDl,hLl,q4,q5,q6,Nk];simp[aw] at e⊢;exact e
  ·let⟨D',L',z',y7,y8,y9,e,h2,h3,h4⟩:=mZ F n ns s sh hs k Bs hk rest (done++[b]) D L (z+1) (some (bJ b)) (some (ah p)) (some (.int (aZ D p))) (h.skip b) (by simp;lia) (by lia) (by lia);refine⟨D',L',z',y7,y8,y9, ?_,by simpa using h2,by lia,by simp;lia⟩;unfold lU at e⊢;simp only[oz,wR] at e⊢;simp[q1,r0,r1,np,hp,hp',bP,q3,-dX,q2,ht,Nk];exact e
theorem xB {P:Pg} (F:FG P) (n:Nat) (ns:List Int) (s:aa) (sh:Sh) (hs:sh.Ok) (k:Nat) (Bs:List Bx) (hk:s[k]?=some (.lst (Bs.map bJ))) (hl:Bs.length<=60) (hn:(Bs.map (·.name)).Nodup) (z:Int) (z0:0<=z) (z1:z<2^58):
  ∃(L:List (Cell×Bx)) (z':Int),bU sh L/\(L.map λq=>q.2).Sublist Bs/\z<=z'/\z'<=z+60/\call P (n+5) 44 [bR ns, .ref 0,bp sh, .ref (k+1)] (.lst [.int z]::s)= .ok (.ref (s.length+1)) (.lst [.int z']::(s++[.lst (L.map aw)])):=by
 rw[ax F.f44 _ _ _ rfl];unfold EB;have hk1:k<s.length:=(aae.mp hk).1;let⟨D',L,z',y7,y8,y9,e,h2,h3,h4⟩:=mZ F n ns s sh hs k Bs hk Bs [] [] [] z none none none (Pl.nil sh) (by simp;lia) z0 (by lia);refine⟨L,z',h2.ld (by simp;lia) (by simpa using hn),by simpa using h2.sub,h3,by lia, ?_⟩;have q1:=gR F.toFPart (n+3) sh hs (.lst [.int z]::(s++[.dct [] [], .lst []]))
 have hg:∀g:aa,(s++g)[k]?=some (.lst (Bs.map bJ)):=λg=>by rw[aal hk1,hk]
 unfold lU at e;simp only[oz,wR] at e;simp at e q1;simp[new,q1,hg];rw[e];simp;refine(j7 P z z' s [_, .lst (L.map aw),_] 1 _ _ rfl (bQ _ _ _ _ (aT _ _ λa=>by simp))).trans ?_;rfl
end RB
end PI
namespace PI
open PySem
structure FF (P:Pg):Prop extends RB.FG P where
 f11:P.fn 11=some rE
 f39:P.fn 39=some zD
 f116:P.fn 116=some AS
 f117:P.fn 117=some z8
 f118:P.fn 118=some A2
 f119:P.fn 119=some iS
 f120:P.fn 120=some Ag
 f121:P.fn 121=some AR
 f122:P.fn 122=some Ar
def cO (L:List (Cell×Bx)) (b:Int):Bool:=L.any λq=>q.1.b==b&&q.1.d==1
theorem tV {α:Type} (f:α->Bool):∀L:List α,anyB (L.map λa=> .bl (f a))=some (L.any f)
 |[]=>rfl
 |a::L=>by simp[anyB,tV f L]
theorem yC {P:Pg} (F:FF P) (n:Nat) (s:Sh) (L:List (Cell×Bx)) (hl:L.length<=10000) (b:Int) (st:aa):call P (n+1) 116 [bW s L, .int b] st= .ok (.bl !(cO L b)) st:=by
 rw[ax F.f116 _ _ _ rfl];unfold AS
 have hc:∀x0,aC (Tn P (call P n) 2 [1] (.tup [.var 0, .var 1]) none (.and (.cmp .Eq (.idx (.var 0) (.ci 0)) (.var 2)) (.cmp .Eq (.idx (.var 0) (.ci 2)) (.ci 1))) [x0,some (.int b)]) [] (L.map aw) st= .ok (L.map λq=> .bl (q.1.b==b&&q.1.d==1)) st:=λx0=>by
  refine comp_map (bx st) _ _ _ λq _=> ?_;simp[Tn,aO,az,aw,aj]
 have ha:=tV (λq:Cell×Bx=>q.1.b==b&&q.1.d==1) L;simp[mS F.toFLoad,hG,hl,T.low,lows,hc,ha,cO];exact fu P st [.lst _] _ (by simp)
def takes (s:Sh) (L:List (Cell×Bx)) (p:Int×Int×Int):Bool:= !((cW L p (eC s p).c:Int)==(eC s p).c)&&(p.2.2==1|| !(cO L p.1))
theorem yS {P:Pg} (F:FF P) (n:Nat) (s:Sh) (hs:s.Ok) (L:List (Cell×Bx)) (hl:L.length<=10000) (p:Int×Int×Int) (hp:p∈s.parts) (st:aa):call P (n+6) 118 [bW s L,ah p] st= .ok (.bl (takes s L p)) st:=by
 rw[ax F.f118 _ _ _ rfl];unfold A2;let⟨y,hy,hd⟩:=dS hp
 have ep:eC s p=y.pt p.2.2:=by simp[eC,hy]
 have q1:=vI F.toFLoad F.f11 F.f39 n s hs L p y st hy hd;have q2:=dU F.toFPart (n+2) s false p.1 p.2.1 p.2.2 y st hy hd;have q3:=yC F (n+4) s L hl p.1 st;have e:ah p= .tup false [.int p.1, .int p.2.1, .int p.2.2]:=rfl;rw[←e] at q2;unfold takes;rw[ep];simp[q1,q2,iT F.toFLoad,eV]
 cases h:((cW L p (y.pt p.2.2).c:Int)==(y.pt p.2.2).c) with
 |true=>simp
 |false=>
  simp[e,q3]
def lX (s:Sh) (L:List (Cell×Bx)):List Cell:=(s.parts.filter (takes s L)).map λp=>aJ p (cW L p (eC s p).c)
theorem CL {P:Pg} (F:FF P) (n:Nat) (s:Sh) (hs:s.Ok) (L:List (Cell×Bx)) (hl:L.length<=10000) (st:aa):call P (n+7) 117 [bW s L] st= .ok (.ref st.length) (st++[.lst ((lX s L).map aj)]):=by
 rw[ax F.f117 _ _ _ rfl];unfold z8;have q1:=gR F.toFPart (n+5) s hs st
 have hpl:s.parts.length<=10000:=by
  have:=jT s.bays 0 λb hb=>(hs.2.2.2.1 b hb).2.1;have:=hs.2.1;unfold Sh.parts;lia
 have hcomp:∀S:aa,S[st.length]?=some (.lst (s.parts.map ah))->aC (Tn P (call P (n+6)) 1 [0] (.var 0) (some (.call 118 [.var 1, .var 0])) (.bin .Add (.var 0) (.tup [.call 39 [.var 1, .var 0]])) [some (bW s L)]) [(st.length, .lst (s.parts.map ah))] (s.parts.map ah) S= .ok ((lX s L).map aj) S:=λS hS=>by
  rw[dH (dI hS) ah (λp=>if takes s L p=true then some (aj (aJ p (cW L p (eC s p).c))) else none) _ λp hp=> ?_,bC]
  ·unfold lX;rw[abT];rfl
  ·let⟨y,hy,hd⟩:=dS hp
   have ep:eC s p=y.pt p.2.2:=by simp[eC,hy]
   have q2:=yS F n s hs L hl p hp S;have q3:=vI F.toFLoad F.f11 F.f39 (n+1) s hs L p y S hy hd;rw[ep]
   have q4:∀t:Int,fI (ah p) (.tup false [.int t]) S= .ok (aj (aJ p t)) S:=λt=>by simp[ah,aj,aJ]
   simp[Tn,aO,az,q2,q3]
   cases takes s L p with
   |false=>rfl
   |true=>
    have:res S (ah p)=ah p:=rfl;simp[this,q4]
 simp[iT F.toFLoad,q1,hpl,T.low,new];rw[hcomp _ (by simp)];simp;exact iE P st [.lst _, .lst _] 1 _ _ rfl (bQ _ _ _ _ (aT _ _ λa=>by simp))
abbrev bY (c:Cell):Int×Int×Int:=(c.b,c.k,c.d)
def bI (M:List (Cell×Bx)) (p:Int×Int×Int):Nat:=(M.filter λq=>decide (bY q.1=p)).length
noncomputable def iU (E:List Int) (b:Int):List Int:=if b∈E then E else E++[b]
theorem C6:KOk Val.int where
 key a:=by simp[bA]
 eq a b:=by
  simp;rw[aaN];simp
 kt a b:=by simp[kT]
theorem rG (b:Int):∀E:List Int,gN (.int b) (.bl true) (E.map .int) (E.map λ_=> .bl true)=E.map λ_=> .bl true
 |[]=>by simp[gN]
 |a::E=>by
  simp only[aav,gN];rw[rG b E];split<;>rfl
theorem BA (E:List Int) (b:Int):putD (.int b) (.bl true) (E.map .int) (E.map λ_=> .bl true)=some ((iU E b).map .int,(iU E b).map λ_=> .bl true):=by
 unfold putD;rw[rG,jY C6];unfold iU
 by_cases h:b∈E<;>simp[h]
theorem ya (E:List Int) (b:Int):(iU E b).length<=E.length+1:=by
 unfold iU;split<;>simp
theorem yj (E:List Int) (b c:Int):c∈iU E b↔c∈E∨c=b:=by
 unfold iU;split
 ·rename_i h;exact⟨.inl,λx=>x.elim id λe=>e▸h⟩
 ·simp
noncomputable def qC:List S:=[.dA (.var 3) (.slc (.var 4) none (some (.ci 3))) (.bin .Add (.bm .get (.var 3) [.slc (.var 4) none (some (.ci 3)), .ci 0]) (.ci 1)), .ife (.cmp .Eq (.idx (.var 4) (.ci 2)) (.ci 1)) [.dA (.var 2) (.idx (.var 4) (.ci 0)) (.const (.bl true))] []]
noncomputable abbrev rN (E:List Int):Ob:= .dct (E.map .int) (E.map λ_=> .bl true)
abbrev rh (D:List ((Int×Int×Int)×Int)):Ob:= .dct (D.map λp=>ah p.1) (D.map λp=> .int p.2)
theorem cnt_cons (q:Cell×Bx) (M:List (Cell×Bx)) (p:Int×Int×Int):(bI (q::M) p:Int)=(if p=bY q.1 then 1 else 0)+bI M p:=by
 unfold bI;rw[abp]
 by_cases h:bY q.1=p
 ·simp only[h,decide_true,abL];rw[aar]
  push_cast
  lia
 ·have h2:¬p=bY q.1:=λe=>h e.symm;simp only[h,decide_false,h2,abq];simp
theorem Dk {P:Pg} (cl:ar) (st:aa) (chk:List (Nat×Ob)) (hk:∀g,Kept chk (st++g)) (x0 x1:Option Val):∀(M:List (Cell×Bx)) (D:List ((Int×Int×Int)×Int)) (E:List Int) (x4 x5:Option Val),D.length+M.length<=9000->E.length+M.length<=9000->
  ∃D' E' y4 y5,forL (.tup [.var 4, .var 5]) (fW P cl qC) chk (M.map aw) [x0,x1,some (.ref st.length),some (.ref (st.length+1)),x4,x5,none,none,none] (st++[rN E,rh D])= .next [x0,x1,some (.ref st.length),some (.ref (st.length+1)),y4,y5,none,none,none] (st++[rN E',rh D'])/\
   (∀p,RB.aZ D' p=RB.aZ D p+bI M p)/\∀b,b∈E'↔b∈E∨cO M b=true
 |[],D,E,x4,x5,_,_=>⟨D,E,x4,x5,RB.iC (hk _),λp=>by simp[bI],λb=>by simp[cO]⟩
 |q::M,D,E,x4,x5,hD,hE=>by
  simp at hD hE
  have s1:∀S,lp (aj q.1) none (some 3) S= .ok (ah (bY q.1)) S:=λS=>by simp[aj,ah,cut,bT]
  have q3:∀S,lO (.dct (D.map λp=>ah p.1) (D.map λp=> .int p.2)) [ah (bY q.1), .int 0] S= .ok (.int (RB.aZ D (bY q.1))) S:=λS=>by
   rw[dX,bo (RB.eB.key _),fB RB.eB Val.int _ D];simp[RB.aZ];cases List.find? (λp=>decide (p.1=bY q.1)) D<;>rfl
  have q4:=RB.sI (bY q.1) (RB.aZ D (bY q.1)+1) D;have q5:=RB.eB.key (bY q.1);have q7:∀S,res S (aj q.1)=aj q.1:=λS=>rfl
  have q8:∀S,de (aj q.1) (.int 2) S= .ok (.int q.1.d) S:=λS=>by simp[aj]
  have q9:∀S,de (aj q.1) (.int 0) S= .ok (.int q.1.b) S:=λS=>by simp[aj]
  have q10:=BA E q.1.b;have q11:bA (.int q.1.b)=true:=rfl
  have l1:D.length<10000:=by lia
  have l2:E.length<10000:=by lia
  have ld:=RB.qV D (bY q.1) (RB.aZ D (bY q.1)+1);have le:=ya E q.1.b
  have hd:∀E',(E'=if q.1.d=1 then iU E q.1.b else E)->∀b,b∈E'↔b∈E∨(q.1.b=b/\q.1.d=1):=λE' e b=>by
   subst e;split
   ·rename_i h;rw[yj];simp[h,eq_comm]
   ·rename_i h;simp[h]
  let⟨D',E',y4,y5,e,h1,h2⟩:=Dk (P:=P) cl st chk hk x0 x1 M (RB.dput D (bY q.1) (RB.aZ D (bY q.1)+1)) (if q.1.d=1 then iU E q.1.b else E) (some (aj q.1)) (some (bJ q.2)) (by lia) (by split<;>lia);refine⟨D',E',y4,y5, ?_,λp=> ?_,λb=> ?_⟩
  ·rw[aav,RB.gB (hk _)];unfold qC at e⊢
   by_cases h:q.1.d=1
   ·simp only[h,abL] at e;simp[aw,bP,q3,-dX,s1,q7,l1,q4,q5,q8,q9,h,l2,q10,q11,RB.Nk];simpa using e
   ·simp only[h,abq] at e
    have hb:(q.1.d==1)=false:=by simpa using h
    simp[aw,bP,q3,-dX,s1,q7,l1,q4,q5,q8,q9,hb,RB.Nk];simpa using e
  ·rw[h1,RB.gd,cnt_cons]
   by_cases hp:p=bY q.1
   ·subst hp;simp;lia
   ·simp[hp]
  ·rw[h2,hd _ rfl];simp[cO,or_assoc]
noncomputable def lN:List S:=[.set (.var 8) (.bm .get (.var 3) [.var 7, .ci 0]), .ife (.and (.cmp .Lt (.var 8) (.idx (.call 12 [.var 0, .var 7]) (.ci 0))) (.or (.cmp .Eq (.idx (.var 7) (.ci 2)) (.ci 1)) (.cmp .NotIn (.idx (.var 7) (.ci 0)) (.var 2)))) [.expr (.bm .append (.var 6) [.bin .Add (.var 7) (.tup [.var 8])])] []]
def kN (s:Sh) (M:List (Cell×Bx)) (p:Int×Int×Int):Bool:=decide ((bI M p:Int)<(eC s p).c)&&(p.2.2==1|| !(cO M p.1))
def aU (s:Sh) (M:List (Cell×Bx)) (ps:List (Int×Int×Int)):List Cell:=(ps.filter (kN s M)).map λp=>aJ p (bI M p)
theorem zG {P:Pg} (F:FF P) (n:Nat) (s:Sh) (st:aa) (M:List (Cell×Bx)) (D:List ((Int×Int×Int)×Int)) (E:List Int) (hD:∀p,RB.aZ D p=bI M p) (hE:∀b,b∈E↔cO M b=true) (x1 x4 x5:Option Val):∀(ps:List (Int×Int×Int)) (acc:List Cell) (x7 x8:Option Val),(∀p∈ps,p∈s.parts)->acc.length+ps.length<=9000->
  ∃y7 y8,forL (.var 7) (fW P (call P (n+3)) lN) [(st.length+3, .lst (s.parts.map ah))] (ps.map ah) [some (bp s),x1,some (.ref st.length),some (.ref (st.length+1)),x4,x5,some (.ref (st.length+2)),x7,x8] (st++[rN E,rh D, .lst (acc.map aj), .lst (s.parts.map ah)])
   = .next [some (bp s),x1,some (.ref st.length),some (.ref (st.length+1)),x4,x5,some (.ref (st.length+2)),y7,y8] (st++[rN E,rh D, .lst ((acc++aU s M ps).map aj), .lst (s.parts.map ah)])
 |[],acc,x7,x8,_,_=>⟨x7,x8,by
  rw[acj,RB.iC (dI (by simp))]
  simp[aU]⟩
 |p::ps,acc,x7,x8,hp,hl=>by
  simp at hl;let⟨y,hy,hd⟩:=dS (hp p (by simp))
  have ep:eC s p=y.pt p.2.2:=by simp[eC,hy]
  have q2:=λS=>dU F.toFPart n s false p.1 p.2.1 p.2.2 y S hy hd;have epv:ah p= .tup false [.int p.1, .int p.2.1, .int p.2.2]:=rfl;have ec:eV (y.pt p.2.2)= .tup false [.int (y.pt p.2.2).c, .int (y.pt p.2.2).s, .int (y.pt p.2.2).h, .tup true ((y.pt p.2.2).p.map .int), .int (y.pt p.2.2).l]:=rfl;rw[←epv,ec] at q2
  have q3:∀S,lO (.dct (D.map λp=>ah p.1) (D.map λp=> .int p.2)) [ah p, .int 0] S= .ok (.int (bI M p)) S:=λS=>by
   rw[dX,bo (RB.eB.key _),fB RB.eB Val.int _ D,←hD p];simp[RB.aZ];cases List.find? (λq=>decide (q.1=p)) D<;>rfl
  have q7:∀S,res S (ah p)=ah p:=λS=>rfl
  have q8:∀S,de (ah p) (.int 2) S= .ok (.int p.2.2) S:=λS=>by simp[ah]
  have q9:∀S,de (ah p) (.int 0) S= .ok (.int p.1) S:=λS=>by simp[ah]
  have q10:∀S,ow true (.int p.1) (.dct (E.map .int) (E.map λ_=> .bl true)) S= .ok (!(cO M p.1)) S:=λS=>by
   have g:=fB C6 (λ_:Unit=>Val.bl true) p.1 (E.map λb=>(b,()));simp only[abT] at g;have g2:(E.map ((λq:Int×Unit=>Val.int q.1)∘λb=>(b,())))=E.map .int:=rfl;have g3:(E.map ((λq:Int×Unit=>Val.bl true)∘λb=>(b,())))=E.map λ_=> .bl true:=rfl;rw[g2,g3] at g;show iff (bA (.int p.1)=true) (R.ak ((getD (.int p.1) (E.map .int) (E.map λ_=> .bl true)).map λo=>if true=true then o.isNone else o.isSome) S)=_;rw[bo (show bA (.int p.1)=true from rfl),g];have:=hE p.1
   cases hb:cO M p.1 with
   |true=>
    rw[hb] at this;have hm:=this.mpr rfl
    cases hf:(E.map λb=>(b,())).find? (λq=>decide (q.1=p.1)) with
    |some q=>simp
    |none=>
     have:=acW.mp hf (p.1,()) (aaP.mpr ⟨p.1,hm,rfl⟩);simp at this
   |false=>
    rw[hb] at this
    have hm:p.1∉E:=λz=>by have:=this.mp z;cases this
    have hf:(E.map λb=>(b,())).find? (λq=>decide (q.1=p.1))=none:=acW.mpr λq hq=>by
     let⟨b,hb,rfl⟩:=aaP.mp hq;simp;exact λz=>hm (z▸hb)
    rw[hf];simp
  have q6:∀(t:Int) S,fI (ah p) (.tup false [.int t]) S= .ok (aj (aJ p t)) S:=λt S=>by simp[ah,aj,aJ]
  have l1:acc.length<10000:=by lia
  rw[aav,RB.gB (dI (by simp))]
  cases hb:kN s M p with
  |true=>
   let⟨y7,y8,e⟩:=zG F n s st M D E hD hE x1 x4 x5 ps (acc++[aJ p (bI M p)]) (some (ah p)) (some (.int (bI M p))) (λq hq=>hp q (by simp[hq])) (by simp;lia);refine⟨y7,y8, ?_⟩
   have ed:aU s M (p::ps)=aJ p (bI M p)::aU s M ps:=by simp[aU,hb]
   unfold kN at hb;rw[ep] at hb;unfold lN at e⊢;simp[bP,q3,-dX,q2,q7,q8,q9,q10,hb,q6,l1,RB.Nk,-xi];rw[ed];simpa using e
  |false=>
   let⟨y7,y8,e⟩:=zG F n s st M D E hD hE x1 x4 x5 ps acc (some (ah p)) (some (.int (bI M p))) (λq hq=>hp q (by simp[hq])) (by lia);refine⟨y7,y8, ?_⟩
   have ed:aU s M (p::ps)=aU s M ps:=by simp[aU,hb]
   unfold kN at hb;rw[ep] at hb;unfold lN at e⊢;simp[bP,q3,-dX,q2,q7,q8,q9,q10,hb,RB.Nk,-xi];rw[ed];simpa using e
theorem o5 {s:Sh} (hs:s.Ok):s.parts.length<=800:=by
 have:=jT s.bays 0 λb hb=>(hs.2.2.2.1 b hb).2.1;have:=hs.2.1;unfold Sh.parts;lia
theorem CU {P:Pg} (F:FF P) (n:Nat) (s:Sh) (hs:s.Ok) (M:List (Cell×Bx)) (hl:M.length<=1000) (v:Val) (st:aa) (hv:res st v= .lst (M.map aw)):call P (n+4) 121 [bp s,v] st= .ok (.ref st.length) (st++[.lst ((aU s M s.parts).map aj)]):=by
 rw[ax F.f121 _ _ _ rfl];unfold AR;let⟨chk,w1,_,w3⟩:=iL (.inl hv)
 have w2:∀g,ck (st++g) v=some (M.map aw,chk):=λg=>by
  cases v with
  |ref k=>
   have hk:k<st.length:=by
    have:st[k]?≠none:=λz=>by simp[z] at hv
    exact Nat.lt_of_not_le λz=>this (acH z)
   simp[aal hk] at w1⊢;exact w1
  |_=>simpa using w1
 let⟨D,E,y4,y5,e1,h1,h2⟩:=Dk (P:=P) (call P (n+3)) st chk w3 (some (bp s)) (some v) M [] [] none none (by simp;lia) (by simp;lia)
 have hD:∀p,RB.aZ D p=bI M p:=λp=>by rw[h1];simp[RB.aZ]
 have hE:∀b,b∈E↔cO M b=true:=λb=>by rw[h2];simp
 have hp:=o5 hs;let⟨y7,y8,e2⟩:=zG F n s st M D E hD hE (some v) y4 y5 s.parts [] none none (λp hp=>hp) (by simp;lia);have q1:=gR F.toFPart (n+2) s hs (st++[rN E,rh D, .lst []]);simp[rN,rh] at q1 e1 e2;unfold qC at e1;unfold lN at e2;simp[new,w2];rw[e1];simp[new,q1];rw[e2];simp;exact iE P st [rN E,rh D, .lst _, .lst _] 2 _ _ rfl (bQ _ _ _ _ (aT _ _ λa=>by simp))
theorem Iu {P:Pg} (h:P.fn 119=some iS) (n:Nat) (a:Int) (st:aa):call P (n+1) 119 [.int a, .int a] st= .ok (.bl true) st:=by
 rw[ax h _ _ _ rfl];unfold iS;simp
theorem qy {α:Type} (f:α->Val):∀xs:List α,fU (xs.map f) (xs.map f)=xs.map λx=> .tup false [f x,f x]
 |[]=>rfl
 |x::xs=>by simp[fU,qy f xs]
theorem ud {α:Type}:∀xs:List α,allB (xs.map λ_=>Val.bl true)=some true
 |[]=>rfl
 |x::xs=>by simp[ud xs]
theorem sT {α:Type} {P:Pg} (n:Nat) (f:α->Val) (xs:List α) (h:∀x∈xs,∀st,call P n 119 [f x,f x] st= .ok (.bl true) st) (chk:List (Nat×Ob)) (st:aa) (hk:Kept chk st) (env:Env):
  aC (Tn P (call P n) 2 [] (.tup [.var 0, .var 1]) none (.call 119 [.var 0, .var 1]) env) chk (xs.map λx=> .tup false [f x,f x]) st= .ok (xs.map λ_=> .bl true) st:=by
 refine comp_map hk _ _ _ λx hx=> ?_;simp[Tn,aO,az,h x hx]
theorem JE {P:Pg} (h:P.fn 119=some iS) (n:Nat) (c:Cell) (st:aa):call P (n+2) 119 [aj c,aj c] st= .ok (.bl true) st:=by
 have e:aj c= .tup false ([c.b,c.k,c.d,c.t].map .int):=rfl;rw[ax h _ _ _ rfl,e];unfold iS;have k:=λenv=>sT (n+1) Val.int [c.b,c.k,c.d,c.t] (λx _ st=>Iu h n x st) [] st (bx st) env;have z:=qy Val.int [c.b,c.k,c.d,c.t];simp only[aav,acj] at k z⊢;simp[z,T.low,lows,k];exact fu P st [_] _ (by simp)
theorem KL {P:Pg} (h:P.fn 119=some iS) (n:Nat) (i j:Nat) (C:List Cell) (hl:C.length<=10000) (st:aa) (hi:st[i]?=some (.lst (C.map aj))) (hj:st[j]?=some (.lst (C.map aj))):call P (n+3) 119 [.ref i, .ref j] st= .ok (.bl true) st:=by
 rw[ax h _ _ _ rfl];unfold iS;have c:=λenv=>sT (n+2) aj C (λc _ st=>JE h n c st) [(i, .lst (C.map aj)),(j, .lst (C.map aj))] st (λp hp=>by simp at hp;rcases hp with rfl|rfl<;>assumption) env;simp[hi,hj,qy,T.low,lows,hl,c,ud];exact fu P st [_] _ (by simp)
noncomputable def mj:List S:=[.ife (.or (.cmp .Eq (.idx (.idx (.var 5) (.ci 0)) (.ci 2)) (.ci 0)) (.cmp .Eq (.bin .Mod (.bin .FloorDiv (.var 3) (.bin .Add (.idx (.idx (.var 5) (.ci 0)) (.ci 0)) (.ci 1))) (.ci 3)) (.ci 0))) [.expr (.bm .append (.var 4) [.var 5])] []]
def lJ (m:Int) (q:Cell×Bx):Bool:=q.1.d==0||m/(q.1.b+1) % 3==0
theorem ni {P:Pg} (cl:ar) (st:aa) (chk:List (Nat×Ob)) (hk:∀g,Kept chk (st++g)) (x0 x1 x2:Option Val) (m:Int):∀(M acc:List (Cell×Bx)) (x5:Option Val),acc.length+M.length<=9000->(∀q∈M,0<=q.1.b/\q.1.b<1000)->
  ∃y5,forL (.var 5) (fW P cl mj) chk (M.map aw) [x0,x1,x2,some (.int m),some (.ref st.length),x5] (st++[.lst (acc.map aw)])= .next [x0,x1,x2,some (.int m),some (.ref st.length),y5] (st++[.lst ((acc++M.filter (lJ m)).map aw)])
 |[],acc,x5,_,_=>⟨x5,by rw[acj,RB.iC (hk _)];simp⟩
 |q::M,acc,x5,hl,hb=>by
  simp at hl;have b:=hb q (by simp)
  have b1:0<q.1.b+1:=by lia
  have b2:q.1.b+1<2^64:=by lia
  have dv:=λS=>rq m (q.1.b+1) S b1 b2
  have l1:acc.length<10000:=by lia
  rw[aav,RB.gB (hk _)]
  cases ho:lJ m q with
  |true=>
   let⟨y5,e⟩:=ni (P:=P) cl st chk hk x0 x1 x2 m M (acc++[q]) (some (aw q)) (by simp;lia) λr hr=>hb r (by simp[hr]);refine⟨y5, ?_⟩;rw[abp,ho];unfold lJ at ho;unfold mj at e⊢;simp[aw,aj,dv,ho,l1,bP,RB.Nk];simpa[aw,aj] using e
  |false=>
   let⟨y5,e⟩:=ni (P:=P) cl st chk hk x0 x1 x2 m M acc (some (aw q)) (by lia) λr hr=>hb r (by simp[hr]);refine⟨y5, ?_⟩;rw[abp,ho];unfold lJ at ho;unfold mj at e⊢;simp[aw,aj,dv,ho,RB.Nk];simpa[aw,aj] using e
theorem CJ {P:Pg} (F:FF P) (n:Nat) (ns:List Int) (z:Int) (s:aa) (z0:0<=z) (z1:z<2^60) (k:Nat) (M:List (Cell×Bx)) (hk:s[k]?=some (.lst (M.map aw))) (hl:M.length<=1000) (hb:∀q∈M,0<=q.1.b/\q.1.b<1000):
  call P (n+2) 120 [RB.bR ns, .ref 0, .ref (k+1)] (.lst [.int z]::s)= .ok (.ref (s.length+1)) (.lst [.int (z+1)]::(s++[.lst ((M.filter (lJ (RB.bz ns (z+1)))).map aw)])):=by
 rw[ax F.f120 _ _ _ rfl];unfold Ag;have q1:=RB.cc F.toFG n ns z s z0 z1;have hk1:k<s.length:=(aae.mp hk).1
 have hw:∀g:aa,(s++g)[k]?=some (.lst (M.map aw)):=λg=>by rw[aal hk1];exact hk
 let⟨y5,e⟩:=ni (P:=P) (call P (n+1)) (.lst [.int (z+1)]::s) [(k+1, .lst (M.map aw))] (λg=>dI (by simp[hw])) (some (RB.bR ns)) (some (.ref 0)) (some (.ref (k+1))) (RB.bz ns (z+1)) M [] none (by simp;lia) hb;unfold mj at e;simp at e;simp[q1,new,hw];rw[e];simp;exact(j7 P z (z+1) s [.lst _] 0 _ _ rfl (bQ _ _ _ _ (aT _ _ λa=>by simp))).trans rfl
theorem tf:∀(n:Nat) (lo:Int),(aM lo n).Nodup
 |0,_=>by simp[aM]
 |n+1,lo=>by
  simp only[aM,abk];exact⟨λh=>by have:=cX.mp h;lia,tf n (lo+1)⟩
theorem fG {q:Cell} {p:Int×Int×Int} {t:Int}:q=aJ p t↔bY q=p/\q.t=t:=by
 let⟨b,k,d,u⟩:=q;let⟨x,y,z⟩:=p;simp[aJ,bY];exact⟨λz900=>by let⟨a,b,c,d⟩:=z900;exact⟨⟨a,b,c⟩,d⟩,λz900=>by let⟨⟨a,b,c⟩,d⟩:=z900;exact⟨a,b,c,d⟩⟩
theorem jW {s:Sh} {L:List (Cell×Bx)} (h:bU s L) {p:Int×Int×Int} {y:Sk} (hy:s.sk? p.1 p.2.1=some y):bI L p=cW L p (y.pt p.2.2).c:=by
 have e1:bI L p=((L.filter λq=>decide (bY q.1=p)).map λq=>q.1.t).length:=by simp[bI]
 rw[e1];refine List.Perm.length_eq ((List.perm_ext_iff_of_nodup ?_ ((tf _ _).sublist List.filter_sublist)).mpr λt=> ?_)
 ·have hn:((L.filter λq=>decide (bY q.1=p)).map λq=>q.1).Nodup:=h.2.1.sublist (List.filter_sublist.map _);rw[List.nodup_iff_pairwise_ne,List.pairwise_map] at hn⊢;refine List.Pairwise.imp_of_mem (λ{a b} ha hb hne e=>hne ?_) hn
  have h1:bY a.1=p:=by simpa using (aaI.mp ha).2
  have h2:bY b.1=p:=by simpa using (aaI.mp hb).2
  rw[fG.mpr ⟨h1,rfl⟩,fG.mpr ⟨h2,e.symm⟩]
 ·rw[aaI,cH,cX];constructor
  ·intro ht;let⟨q,hq,rfl⟩:=aaP.mp ht;let⟨hq,hp⟩:=aaI.mp hq
   have hp:bY q.1=p:=by simpa using hp
   let⟨y',e,hd,t0,t1⟩:=h.2.2.2.1 q hq
   have:y'=y:=by
    have h1:q.1.b=p.1:=congrArg (·.1) hp;have h2:q.1.k=p.2.1:=congrArg (·.2.1) hp;rw[h1,h2,hy] at e;cases e;rfl
   subst this;have h3:q.1.d=p.2.2:=congrArg (·.2.2) hp;rw[h3] at t1;exact⟨⟨t0,by lia⟩,q,hq,fG.mpr ⟨hp,rfl⟩⟩
  ·rintro ⟨_,q,hq,e⟩
   let⟨h1,h2⟩:=fG.mp e;exact aaP.mpr ⟨q,aaI.mpr ⟨hq,by simpa using h1⟩,h2⟩
theorem B8 (L:List (Cell×Bx)) (p:Int×Int×Int) (c:Int):cW (aP L) p c=cW L p c:=by
 unfold cW;congr 1;refine List.filter_congr λt _=> ?_;rw[aaN,cH,cH];simp only[(jb L).mem_iff]
theorem yO (L:List (Cell×Bx)) (b:Int):cO (aP L) b=cO L b:=by
 unfold cO;rw[aaN,acE,acE];simp only[(jb L).mem_iff]
theorem Ds (L:List (Cell×Bx)) (p:Int×Int×Int) (c:Int) (h:0<=c):(cW L p c:Int)<=c:=by
 unfold cW;have:=aba (gH L p) (aM 0 c.toNat);simp at this;lia
theorem yE {s:Sh} (hs:s.Ok) {L:List (Cell×Bx)} (h:bU s L):lX s (aP L)=aU s L s.parts:=by
 have hc:∀p∈s.parts,bI L p=cW (aP L) p (eC s p).c/\0<=(eC s p).c:=λp hp=>by
  let⟨y,hy,hd⟩:=dS hp
  have ep:eC s p=y.pt p.2.2:=by simp[eC,hy]
  rw[ep,B8,jW h hy];exact⟨rfl,(um hs hy).1.1⟩
 have hf:s.parts.filter (takes s (aP L))=s.parts.filter (kN s L):=List.filter_congr λp hp=>by
  let⟨e,h0⟩:=hc p hp;unfold takes kN;rw[e,yO];have:=Ds (aP L) p (eC s p).c h0;congr 1;rw[aaN];simp;lia
 unfold lX aU;rw[hf];refine acR λp hp=> ?_;rw[(hc p (aaI.mp hp).1).1]
theorem A6 {s:Sh} {L:List (Cell×Bx)} (h:bU s L) (f:Int×Int×Int->Bool):bU s (L.filter λq=>f (bY q.1)):=by
 let⟨h1,h2,h3,h4,h5⟩:=h;refine⟨ack (aba _ _) h1,h2.sublist (List.filter_sublist.map _),h3.sublist (List.filter_sublist.map _),λp hp=>h4 p (aaI.mp hp).1,λp hp=> ?_⟩;let⟨hp,hf⟩:=aaI.mp hp
 rcases h5 p hp with e|⟨q,hq,e⟩
 ·exact .inl e
 ·exact .inr ⟨q,aaI.mpr ⟨hq,by rw[e];exact hf⟩,e⟩
theorem BQ {s:Sh} {L:List (Cell×Bx)} (h:bU s L) (p:Int×Int×Int) {y:Sk} (hy:s.sk? p.1 p.2.1=some y) (hd:p.2.2=0∨p.2.2=1):bU s (L.filter λq=> !decide (q.1=aJ p ((bI L p:Int)-1))):=by
 have hc:=jW h hy;let⟨h1,h2,h3,h4,h5⟩:=h;refine⟨ack (aba _ _) h1,h2.sublist (List.filter_sublist.map _),h3.sublist (List.filter_sublist.map _),λp hp=>h4 p (aaI.mp hp).1,λq hq=> ?_⟩;let⟨hq,hf⟩:=aaI.mp hq
 rcases h5 q hq with e|⟨r,hr,e⟩
 ·exact .inl e
 ·refine .inr ⟨r,aaI.mpr ⟨hr, ?_⟩,e⟩;simp;intro z;have hrp:=fG.mp z;rw[e] at hrp;let⟨hp,ht⟩:=hrp;have hp:bY q.1=p:=hp;simp at ht;let⟨y',e',hd',t0,t1⟩:=h4 q hq;have b1:q.1.b=p.1:=congrArg (·.1) hp;have b2:q.1.k=p.2.1:=congrArg (·.2.1) hp;have b3:q.1.d=p.2.2:=congrArg (·.2.2) hp
  have:y'=y:=by
   rw[b1,b2,hy] at e';cases e';rfl
  subst this;rw[b3] at t1
  have dn:=kM (gH L p) (y'.pt p.2.2).c.toNat 0 (λt t0 ho=>by
   let⟨x,hx,ex⟩:=cH.mp ho
   rcases h5 x hx with w|⟨w,hw,ew⟩
   ·rw[ex] at w;simp[aJ] at w;lia
   ·refine cH.mpr ⟨w,hw, ?_⟩;rw[ew,ex]
    simp[aJ]) q.1.t t0 (by lia)
  have:gH L p q.1.t=true:=cH.mpr ⟨q,hq,fG.mpr ⟨hp,rfl⟩⟩;have:=dn.mp this;have e3:((aM 0 (y'.pt p.2.2).c.toNat).filter (gH L p)).length=bI L p:=hc.symm;rw[e3] at this;lia
noncomputable def DM:List S:=[.set (.var 2) (.call 41 [.var 0, .var 1, .ci 3, .ci 3, .ci 4]), .set (.var 3) (.call 43 [.var 0, .var 1, .bin .Mod (.call 15 [.var 0, .var 1]) (.ci 13)]), .set (.var 4) (.call 120 [.var 0, .var 1, .call 44 [.var 0, .var 1, .var 2, .var 3]]), .set (.var 5) (.make 10 [.var 2, .var 4]), .set (.var 6) (.call 121 [.var 2, .var 4]), .set (.var 7) (.call 117 [.var 5])]
noncomputable def EC:List S:=[.ife (.not (.call 119 [.var 7, .var 6])) [.ret (.const (.bl false))] [], .set (.var 8) (.call 15 [.var 0, .var 1])]
noncomputable def Dg:List S:=[.ife (.cmp .Gt (.bi .len [.var 6]) (.ci 0)) [.set (.var 9) (.bin .Add (.var 4) (.lst [.tup [.idx (.var 6) (.bin .Mod (.var 8) (.bi .len [.var 6])), .tup [.const (.str "strange"), .ci 1, .ci 1, .ci 0, .const (.str "dry"), .ci 1]]])), .ife (.not (.call 119 [.call 117 [.make 10 [.var 2, .var 9]], .call 121 [.var 2, .var 9]])) [.ret (.const (.bl false))] []] []]
noncomputable def DB:List S:=[.ife (.cmp .Gt (.bi .len [.var 4]) (.ci 0)) [.set (.var 10) (.slc (.idx (.idx (.var 4) (.bin .Mod (.bin .FloorDiv (.var 8) (.ci 60)) (.bi .len [.var 4]))) (.ci 0)) none (some (.ci 3))), .set (.var 11) (.comp 1 [10] (.var 0) (.val (.var 4)) (some (.cmp .Eq (.slc (.idx (.var 0) (.ci 0)) none (some (.ci 3))) (.var 1))) (.var 0)), .set (.var 12) (.comp 1 [10,11] (.var 0) (.val (.var 4)) (some (.cmp .NotEq (.idx (.var 0) (.ci 0)) (.bin .Add (.var 1) (.tup [.bin .Sub (.bi .len [.var 2]) (.ci 1)])))) (.var 0)), .ife (.not (.call 119 [.call 117 [.make 10 [.var 2, .var 12]], .call 121 [.var 2, .var 12]])) [.ret (.const (.bl false))] []] []]
noncomputable def El:List S:=[.ife (.or (.not (.call 119 [.call 117 [.var 5], .var 6])) (.not (.call 119 [.var 7, .var 6]))) [.ret (.const (.bl false))] [], .expr (.bm .append (.var 7) [.tup [.ci 0, .ci 0, .ci 0, .ci 0]]), .expr (.bm .reverse (.var 7) []), .ret (.call 119 [.call 117 [.var 5], .var 6])]
def nQ (p:Int×Int×Int) (r:Cell×Bx):Bool:=decide (bY r.1=p)
noncomputable def rB:Bx:=⟨"strange",1,1,0,"dry",1⟩
section
variable {P:Pg} (F:FF P) (n:Nat) (sh:Sh) (hs:sh.Ok)
include F hs
theorem gY (M:List (Cell×Bx)) (ld:bU sh M):(∀v S,res S v= .lst (M.map aw)->gr P (call P (n+8)) 10 [bp sh,v] S ((P.cl 10).map (·.init))= .ok (bW sh (aP M)) S)/\(∀S,call P (n+8) 117 [bW sh (aP M)] S= .ok (.ref S.length) (S++[.lst ((aU sh M sh.parts).map aj)]))/\
  (∀v S,res S v= .lst (M.map aw)->call P (n+8) 121 [bp sh,v] S= .ok (.ref S.length) (S++[.lst ((aU sh M sh.parts).map aj)]))/\(aU sh M sh.parts).length<=800:=by
 have l:=ld.1;refine⟨λv S h=>Ba F.toFLoad (n+2) sh M v S h ld,λS=> ?_,λv S h=>CU F (n+4) sh hs M (by lia) v S h, ?_⟩
 ·rw[←yE hs ld];exact CL F (n+1) sh hs (aP M) (by rw[(jb M).length_eq];lia) S
 ·unfold aU;rw[aay];exact aaJ (aba _ _) (o5 hs)
theorem iJ (i j:Nat) (C:List Cell) (hl:C.length<=800) (S:aa) (hi:S[i]?=some (.lst (C.map aj))) (hj:S[j]?=some (.lst (C.map aj))):call P (n+8) 119 [.ref i, .ref j] S= .ok (.bl true) S:=KL F.f119 (n+5) i j C (by lia) S hi hj
theorem DD (L:List (Cell×Bx)) (ld:bU sh L) (hl:L.length<=50) (hn:("strange":Str)∉L.map λp=>p.2.name) (W:aa) (z m:Int) (hm:0<=m) (k4 k6:Nat) (h4:∀g:aa,(W++g)[k4]?=some (.lst (L.map aw))) (h6:∀g:aa,(W++g)[k6]?=some (.lst ((aU sh L sh.parts).map aj))) (x0 x1 x3 x5 x7 x10 x11 x12:Option Val):
  ∃g y9,aK P (call P (n+8)) Dg [x0,x1,some (bp sh),x3,some (.ref (k4+1)),x5,some (.ref (k6+1)),x7,some (.int m),none,x10,x11,x12] (.lst [.int z]::W)= .next [x0,x1,some (bp sh),x3,some (.ref (k4+1)),x5,some (.ref (k6+1)),x7,some (.int m),y9,x10,x11,x12] (.lst [.int z]::(W++g)):=by
 have h4':=h4 [];have h6':=h6 [];simp at h4' h6';obtain⟨C,hC⟩:∃C,C=aU sh L sh.parts:=⟨_,rfl⟩
 have hcl:C.length<=800:=by rw[hC];exact(gY F n sh hs L ld).2.2.2
 rw[←hC] at h6 h6';unfold Dg
 by_cases h0:C=[]
 ·refine⟨[],none, ?_⟩;rw[h0] at h6';simp[h6']
 ·have np:0<C.length:=acd.mpr h0;have r0:0<=m % (C.length:Int):=abK _ (by lia);have r1:m % (C.length:Int)<C.length:=abw _ (by lia);obtain⟨c,hc⟩:∃c,C[(m % (C.length:Int)).toNat]?=some c:=⟨_,aac (by lia)⟩;let⟨_,hc'⟩:=aae.mp hc
  have ldm:bU sh (L++[(c,rB)]):=by
   have hm:=aas hc;rw[hC] at hm;let⟨p,hp,rfl⟩:=aaP.mp hm;let⟨hp,hb⟩:=aaI.mp hp;let⟨y,hy,hd⟩:=dS hp
   have ep:eC sh p=y.pt p.2.2:=by simp[eC,hy]
   unfold kN at hb;simp only[aah,decide_eq_true_eq] at hb;have hb:=hb.1;rw[ep,jW ld hy] at hb;rw[jW ld hy];exact BG ld (by lia) p y hy hd rB hn hb
  let⟨k1,k2,k3,k4'⟩:=gY F n sh hs _ ldm;obtain⟨C2,hC2⟩:∃C2,C2=aU sh (L++[(c,rB)]) sh.parts:=⟨_,rfl⟩;rw[←hC2] at k2 k3 k4'
  have ev:(L++[(c,rB)]).map aw=L.map aw++[.tup false [aj c, .tup false [.str "strange", .int 1, .int 1, .int 0, .str "dry", .int 1]]]:=by simp[aw,bJ,rB]
  rw[ev] at k1 k3
  have l2:L.length+1<=10000:=by lia
  have ks:=λi j S=>iJ F n sh hs i j C2 k4' S;refine⟨[.lst [.tup false [aj c, .tup false [.str "strange", .int 1, .int 1, .int 0, .str "dry", .int 1]]], .lst (L.map aw++[.tup false [aj c, .tup false [.str "strange", .int 1, .int 1, .int 0, .str "dry", .int 1]]]), .lst (C2.map aj), .lst (C2.map aj)],some (.ref (W.length+1+1)), ?_⟩;simp[h6',np,r0,r1,hc,hc',h4',h4,new,l2,k1,k2,k3,ks]
theorem Dr (L:List (Cell×Bx)) (ld:bU sh L) (hl:L.length<=50) (W:aa) (z m:Int) (hm:0<=m) (k4:Nat) (h4:∀g:aa,(W++g)[k4]?=some (.lst (L.map aw))) (x0 x1 x3 x5 x6 x7 x9:Option Val):
  ∃g y10 y11 y12,aK P (call P (n+8)) DB [x0,x1,some (bp sh),x3,some (.ref (k4+1)),x5,x6,x7,some (.int m),x9,none,none,none] (.lst [.int z]::W)= .next [x0,x1,some (bp sh),x3,some (.ref (k4+1)),x5,x6,x7,some (.int m),x9,y10,y11,y12] (.lst [.int z]::(W++g)):=by
 have h4':=h4 [];simp at h4';unfold DB
 by_cases h0:L=[]
 ·refine⟨[],none,none,none, ?_⟩;rw[h0] at h4';simp[h4']
 ·have np:0<L.length:=acd.mpr h0;have r0:0<=m/60 % (L.length:Int):=abK _ (by lia);have r1:m/60 % (L.length:Int)<L.length:=abw _ (by lia);obtain⟨q,hq⟩:∃q,L[(m/60 % (L.length:Int)).toNat]?=some q:=⟨_,aac (by lia)⟩;let⟨_,hq'⟩:=aae.mp hq;let⟨y,hy,hd,_⟩:=ld.2.2.2.1 q (aas hq);have ldm:=BQ ld (bY q.1) (y:=y) hy hd
  have s1:∀(c:Cell) S,lp (aj c) none (some 3) S= .ok (ah (bY c)) S:=λc S=>by simp[aj,ah,cut,bT]
  have s2:=λS=>s1 q.1 S;generalize bY q.1=p at ldm s2;have eA:∀r:Cell×Bx,∀p,eqv 8 (ah (bY r.1)) (ah p)=some (nQ p r):=λr p=>RB.eB.eq _ _;obtain⟨M,hM⟩:∃M,M=L.filter λr=> !decide (r.1=aJ p ((bI L p:Int)-1)):=⟨_,rfl⟩;rw[←hM] at ldm;let⟨k1,k2,k3,k5⟩:=gY F n sh hs M ldm;obtain⟨C2,hC2⟩:∃C2,C2=aU sh M sh.parts:=⟨_,rfl⟩;rw[←hC2] at k2 k3 k5;have ks:=λi j S=>iJ F n sh hs i j C2 k5 S;have rc:∀S (c:Cell),res S (aj c)=aj c:=λ_ _=>rfl;have rp:∀S p,res S (ah p)=ah p:=λ_ _=>rfl
  have l1:L.length<=10000:=by lia
  have lA:(L.filter (nQ p)).length<=10000:=aaJ (aba _ _) l1
  have lM:M.length<=10000:=by rw[hM];exact aaJ (aba _ _) l1
  have c1:∀env:Env,env[10]?=some (some (ah p))->∀S:aa,S[k4+1]?=some (.lst (L.map aw))->aC (Tn P (call P (n+8)) 1 [10] (.var 0) (some (.cmp .Eq (.slc (.idx (.var 0) (.ci 0)) none (some (.ci 3))) (.var 1))) (.var 0) env) [(k4+1, .lst (L.map aw))] (L.map aw) S= .ok ((L.filter (nQ p)).map aw) S:=λenv he S hS=>by
   rw[dH (dI hS) aw (λr=>if nQ p r=true then some (aw r) else none) L λr _=> ?_,bC];have e:=eA r p;simp[Tn,aO,az,he,aw,rc,s1,rp,e];cases nQ p r<;>rfl
  have c2:∀env:Env,∀k11,env[10]?=some (some (ah p))->env[11]?=some (some (.ref k11))->∀S:aa,S[k4+1]?=some (.lst (L.map aw))->S[k11]?=some (.lst ((L.filter (nQ p)).map aw))->aC (Tn P (call P (n+8)) 1 [10,11] (.var 0) (some (.cmp .NotEq (.idx (.var 0) (.ci 0)) (.bin .Add (.var 1) (.tup [.bin .Sub (.bi .len [.var 2]) (.ci 1)])))) (.var 0) env) [(k4+1, .lst (L.map aw))] (L.map aw) S= .ok (M.map aw) S:=λenv k11 he he2 S hS hS2=>by
   rw[hM,dH (dI hS) aw (λr=>if (!decide (r.1=aJ p ((bI L p:Int)-1)))=true then some (aw r) else none) L λr _=> ?_,bC (λr:Cell×Bx=> !decide (r.1=aJ p ((bI L p:Int)-1))) aw];have e:=pC.eq r.1 (aJ p ((bI L p:Int)-1))
   have q6:fI (ah p) (.tup false [.int (((L.filter (nQ p)).length:Int)-1)]) S= .ok (aj (aJ p ((bI L p:Int)-1))) S:=by
    simp[ah,aj,aJ];rfl
   simp[Tn,aO,az,he,he2,hS2,aw,rc,rp,q6,e]
   by_cases h:r.1=aJ p ((bI L p:Int)-1)<;>simp[h]
  refine⟨[.lst ((L.filter (nQ p)).map aw), .lst (M.map aw), .lst (C2.map aj), .lst (C2.map aj)],some (ah p),some (.ref (W.length+1)),some (.ref (W.length+1+1)), ?_⟩;simp[h4',h4,np,r0,r1,hq,hq',aw,rc,s2,T.low,l1,lA,lM,new,c1,c2,k1,k2,k3,ks]
end
theorem D9 {P:Pg} (F:FF P) (n:Nat) (ns:List Int) (z:Int) (s:aa) (z0:0<=z) (z1:z<2^50):
  ∃(sh:Sh) (L:List (Cell×Bx)) (W:aa) (z':Int),sh.Ok/\bU sh L/\L.length<=12/\("strange":Str)∉(L.map λp=>p.2.name)/\z<=z'/\z'<=z+200/\(∃g,W=s++g)/\(∀g:aa,(W++g)[s.length+2]?=some (.lst (L.map aw)))/\W.length=s.length+3/\
   aK P (call P (n+8)) DM [some (RB.bR ns),some (.ref 0),none,none,none,none,none,none,none,none,none,none,none] (.lst [.int z]::s)= .next [some (RB.bR ns),some (.ref 0),some (bp sh),some (.ref (s.length+1)),some (.ref (s.length+2+1)),some (bW sh (aP L)),some (.ref (W.length+1)),some (.ref (W.length+1+1)),none,none,none,none,none] (.lst [.int z']::(W++[.lst ((aU sh L sh.parts).map aj), .lst ((aU sh L sh.parts).map aj)])):=by
 let⟨sh,y1,o1,o2,_,_,a1,a2,e1⟩:=RB.r9 F.toFG (n+1) ns s z 3 3 4 (by lia) (by lia) (by lia) (by lia) (by lia) z0 (by lia);have e2:=RB.cc F.toFG (n+7) ns y1 s (by lia) (by lia);have hr:=RB.dg ns (y1+1);obtain⟨c,hc⟩:∃c:Nat,(c:Int)=RB.bz ns (y1+1) % 13:=⟨(RB.bz ns (y1+1) % 13).toNat,by lia⟩;let⟨Bs,y3,l3,⟨d3,d4⟩,k3,a5,a6,e3⟩:=RB.zX F.toFG (n+5) ns (y1+1) s c (by lia) (by lia) (by lia);rw[hc] at e3;let⟨L0,y5,l5,u5,a9,a10,e5⟩:=RB.xB F.toFG (n+3) ns (s++[.lst (Bs.map bJ)]) sh o1 s.length Bs (by simp) (by lia) d3 y3 (by lia) (by lia)
 have lL0:L0.length<=12:=by
  have:=u5.length_le;simp at this;lia
 have e6:=CJ F (n+6) ns y5 (s++[.lst (Bs.map bJ)]++[.lst (L0.map aw)]) (by lia) (by lia) (s.length+1) L0 (by simp) (by lia) λq hq=>by
  let⟨y,h1,_⟩:=l5.2.2.2.1 q hq;let⟨b0,_,_,_,_,b1,_⟩:=qR h1;lia
 have ldL:bU sh (L0.filter (lJ (RB.bz ns (y5+1)))):=A6 l5 λp=>p.2.2==0||RB.bz ns (y5+1)/(p.1+1) % 3==0
 have lL:(L0.filter (lJ (RB.bz ns (y5+1)))).length<=12:=aaJ (aba _ _) lL0
 have nL:("strange":Str)∉((L0.filter (lJ (RB.bz ns (y5+1)))).map λp=>p.2.name):=λh=>by
  let⟨p,hp,e⟩:=aaP.mp h;exact d4 (aaP.mpr ⟨p.2,u5.subset (aaP.mpr ⟨p,(aaI.mp hp).1,rfl⟩),e⟩)
 generalize L0.filter (lJ (RB.bz ns (y5+1)))=L at*;obtain⟨W,hW⟩:∃W,W=s++[.lst (Bs.map bJ), .lst (L0.map aw), .lst (L.map aw)]:=⟨_,rfl⟩
 have hw:∀g:aa,(W++g)[s.length+2]?=some (.lst (L.map aw)):=λg=>by rw[hW];simp
 have hw0:=hw []
 have lW:W.length=s.length+3:=by rw[hW];simp
 let⟨k1,k2,k3',k4⟩:=gY F n sh o1 L ldL;simp at e1 e2 e3 e5 e6 hw0;rw[←hW] at e6;refine⟨sh,L,W,y5+1,o1,ldL,lL,nL,by lia,by lia,⟨_,hW⟩,hw,lW, ?_⟩;unfold DM;simp[e1,e2,e3,e5,e6,k1,k2,k3',hw0]
theorem l8 (P:Pg) (cl:ar) (b:List S):∀(a:List S) (env:Env) (st:aa),aK P cl (a++b) env st=(aK P cl a env st).bind (Rest P cl b)
 |[],env,st=>by simp
 |s::a,env,st=>by
  simp only[acF,Ci]
  cases s.run P cl env st with
  |next env st=>exact l8 P cl b a env st
  |_=>rfl
theorem FD {P:Pg} (F:FF P) (n:Nat) (sh:Sh) (hs:sh.Ok) (L:List (Cell×Bx)) (ld:bU sh L) (W:aa) (z:Int) (k6 k7:Nat) (h67:k6≠k7) (h6:W[k6]?=some (.lst ((aU sh L sh.parts).map aj))) (h7:W[k7]?=some (.lst ((aU sh L sh.parts).map aj))) (x0 x1 x3 x4 x8 x9 x10 x11 x12:Option Val):
  ∃(o:Ob) (g:aa),aK P (call P (n+8)) El [x0,x1,some (bp sh),x3,x4,some (bW sh (aP L)),some (.ref (k6+1)),some (.ref (k7+1)),x8,x9,x10,x11,x12] (.lst [.int z]::W)= .ret (.bl true) (.lst [.int z]::(W.set k7 o++g)):=by
 let⟨k1,k2,k3,k4⟩:=gY F n sh hs L ld;generalize aU sh L sh.parts=C at*;have ks:=λi j S=>iJ F n sh hs i j C k4 S;have l6:k6<W.length:=(aae.mp h6).1;have l7:k7<W.length:=(aae.mp h7).1
 have a6:∀g:aa,(W++g)[k6]?=some (.lst (C.map aj)):=λg=>by rw[aal l6];exact h6
 have a7:∀g:aa,(W++g)[k7]?=some (.lst (C.map aj)):=λg=>by rw[aal l7];exact h7
 have lc:C.length<10000:=by lia
 unfold El
 have sA:∀(o:Ob) (g:aa),(W++g).set k7 o=W.set k7 o++g:=λo g=>by rw[List.set_append_left _ _ l7]
 have sB:∀(o o':Ob) (g:aa),(W.set k7 o++g).set k7 o'=W.set k7 o'++g:=λo o' g=>by rw[List.set_append_left _ _ (by simpa using l7),List.set_set]
 have gA:∀(o:Ob) (g:aa),(W.set k7 o++g)[k7]?=some o:=λo g=>by rw[aal (by simpa using l7),abm l7]
 have g6:∀(o:Ob) (g:aa),(W.set k7 o++g)[k6]?=some (.lst (C.map aj)):=λo g=>by rw[aal (by simpa using l6),abg (Ne.symm h67)];exact h6
 have br:∀k st,jJ .reverse (.ref k) [] st=ir .reverse k [] st st[k]?:=λ_ _=>rfl;have lr:∀k st ys,ir .reverse k [] st (some (.lst ys))= .ok .non (st.set k (.lst ys.reverse)):=λ_ _ _=>rfl;have dr:bP .reverse=false:=rfl;have da:bP .append=false:=rfl;have kf:=λj o g S=>ks (W.set k7 o++g).length j S;simp[k2,ks,a6,a7,da,dr,lc,sA,sB,gA,g6,br,lr];exact⟨_,_,rfl⟩
theorem DT {P:Pg} (F:FF P) (n:Nat) (ns:List Int) (z:Int) (s:aa) (z0:0<=z) (z1:z<2^50):∃z',z<=z'/\z'<=z+201/\call P (n+9) 122 [RB.bR ns, .ref 0] (.lst [.int z]::s)= .ok (.bl true) (.lst [.int z']::s):=by
 rw[ax F.f122 _ _ _ rfl,show Ar=⟨2,13,DM++(EC++(Dg++(DB++El)))⟩ from rfl];let⟨sh,L,W,y1,o1,ld,lL,nL,a1,a2,⟨gW,hW⟩,hw,lW,e1⟩:=D9 F n ns z s z0 z1;have hk4:=(gY F n sh o1 L ld).2.2.2
 have lW':(s++gW).length+1=s.length+4:=by rw[←hW];lia
 have e2:aK P (call P (n+8)) EC [some (RB.bR ns),some (.ref 0),some (bp sh),some (.ref (s.length+1)),some (.ref (s.length+2+1)),some (bW sh (aP L)),some (.ref (W.length+1)),some (.ref (W.length+1+1)),none,none,none,none,none] (.lst [.int y1]::(W++[.lst ((aU sh L sh.parts).map aj), .lst ((aU sh L sh.parts).map aj)]))= .next [some (RB.bR ns),some (.ref 0),some (bp sh),some (.ref (s.length+1)),some (.ref (s.length+2+1)),some (bW sh (aP L)),some (.ref (W.length+1)),some (.ref (W.length+1+1)),some (.int (RB.bz ns (y1+1))),none,none,none,none] (.lst [.int (y1+1)]::(W++[.lst ((aU sh L sh.parts).map aj), .lst ((aU sh L sh.parts).map aj)])):=by
  have ks:=iJ F n sh o1 (W.length+1+1) (W.length+1) (aU sh L sh.parts) hk4 (.lst [.int y1]::(W++[.lst ((aU sh L sh.parts).map aj), .lst ((aU sh L sh.parts).map aj)])) (by simp) (by simp);have q:=RB.cc F.toFG (n+7) ns y1 (W++[.lst ((aU sh L sh.parts).map aj), .lst ((aU sh L sh.parts).map aj)]) (by lia) (by lia);unfold EC;simp[ks,q]
 have hm:=(RB.dg ns (y1+1)).1;obtain⟨V,hV⟩:∃V,V=W++[.lst ((aU sh L sh.parts).map aj), .lst ((aU sh L sh.parts).map aj)]:=⟨_,rfl⟩
 have v4:∀g:aa,(V++g)[s.length+2]?=some (.lst (L.map aw)):=λg=>by rw[hV,aa9];exact hw _
 have v6:∀g:aa,(V++g)[W.length]?=some (.lst ((aU sh L sh.parts).map aj)):=λg=>by rw[hV];simp
 have v7:∀g:aa,(V++g)[W.length+1]?=some (.lst ((aU sh L sh.parts).map aj)):=λg=>by rw[hV];simp
 rw[←hV] at e1 e2;let⟨g1,y9,e3⟩:=DD F n sh o1 L ld (by lia) nL V (y1+1) _ hm (s.length+2) W.length v4 v6 (some (RB.bR ns)) (some (.ref 0)) (some (.ref (s.length+1))) (some (bW sh (aP L))) (some (.ref (W.length+1+1))) none none none;let⟨g2,y10,y11,y12,e4⟩:=Dr F n sh o1 L ld (by lia) (V++g1) (y1+1) _ hm (s.length+2) (λg=>by rw[aa9];exact v4 _) (some (RB.bR ns)) (some (.ref 0)) (some (.ref (s.length+1))) (some (bW sh (aP L))) (some (.ref (W.length+1))) (some (.ref (W.length+1+1))) y9;let⟨o,g3,e5⟩:=FD F n sh o1 L ld (V++g1++g2) (y1+1) W.length (W.length+1) (by lia) (by rw[aa9];exact v6 _) (by rw[aa9];exact v7 _) (some (RB.bR ns)) (some (.ref 0)) (some (.ref (s.length+1))) (some (.ref (s.length+2+1))) (some (.int (RB.bz ns (y1+1)))) y9 y10 y11 y12;refine⟨y1+1,by lia,by lia, ?_⟩;rw[show ([RB.bR ns,Val.ref 0].map some++List.replicate (13-2) none:Env)=[some (RB.bR ns),some (.ref 0),none,none,none,none,none,none,none,none,none,none,none] from rfl,l8,e1,ki,l8,e2,ki,l8,e3,ki,l8,e4,ki,e5]
 have pre:∃g,(V++g1++g2).set (W.length+1) o++g3=s++g:=by
  rw[hV,hW,lW',aa9,aa9,aa9,BY,aa9];exact⟨_,rfl⟩
 let⟨g,e⟩:=pre;rw[e];exact mW P z _ s g _ (by simp)
def IB (ns:List Int) (i:Nat) (env:Env) (st:aa):Prop:=(∃z rest,st= .lst [.int z]::rest/\0<=z/\z<=201*i)/\∃x2,env=[some (RB.bR ns),some (.ref 0),x2]
theorem yw {P:Pg} (F:FF P) (h123:P.fn 123=some AI) (n:Nat) (ns:List Int) (hn:ns.length<=63):call P (n+10) 123 [RB.bR ns] []= .ok (.bl true) []:=by
 rw[ax h123 _ _ _ rfl];unfold AI
 have hb:(1+(if (ns.length:Int)/16<3 then (ns.length:Int)/16 else 3))<16777216:=by split<;>lia
 have hb2:0<=(1+(if (ns.length:Int)/16<3 then (ns.length:Int)/16 else 3)):=by split<;>lia
 simp[new,hb,hb2];generalize hx:(1+(if (ns.length:Int)/16<3 then (ns.length:Int)/16 else 3))=x at hb hb2⊢
 have hx4:x<=4:=by rw[←hx];split<;>lia
 let⟨env',st',e,hI⟩:=pS (t:= .var 2) (body:=fW P (call P (n+9)) [.ife (.not (.call 122 [.var 0, .var 1])) [.ret (.const (.bl false))] []]) (chk:=[]) (IB ns) (aY 0 x.toNat) [some (RB.bR ns),some (.ref 0),none]
  [.lst [.int 0]] ⟨⟨0,_,rfl,by lia,by lia⟩,_,rfl⟩ (λ_ _ st _=>bx st) λi v env st e hI=>by
   let⟨rfl,li⟩:=qN _ _ _ _ e;let⟨⟨z,s,rfl,z0,z1⟩,x2,rfl⟩:=hI;let⟨z',a1,a2,q⟩:=DT F n ns z s z0 (by lia);refine⟨[some (RB.bR ns),some (.ref 0),some (.int (0+i))],by simp,[some (RB.bR ns),some (.ref 0),some (.int (0+i))], .lst [.int z']::s, .inl ?_,⟨z',s,rfl,by lia,by push_cast;lia⟩,_,rfl⟩;unfold fW;simp[q]
 rw[e];simp
end PI
namespace K32
open PySem PI L2
noncomputable def tp (i:Nat):Stmt:=PySem.Challenge.pw_stowhold_k32_free_places.main.body.getD i (.Pass ⟨0,0,0,0⟩)
def mt (i j:Nat):Stmt:=match tp i with
 | .ClassDef _ _ _ b _ _ _ _ _ _ _=>b.getD j (.Pass ⟨0,0,0,0⟩)
 |s=>s
theorem lc {Q:List Value->Prop} {n:Nat} (h:∀a us,us.length=n->Q (a::us)) (us:List Value) (e:us.length=n+1):Q us:=by
 cases us with
 |nil=>cases e
 |cons a us=>exact h a us (Nat.succ.inj e)
theorem l0 {Q:List Value->Prop} (h:Q []) (us:List Value) (e:us.length=0):Q us:=by
 cases us with
 |nil=>exact h
 |cons a us=>cases e
noncomputable def dt:Dt:=⟨[(("StowError":Str),(Gv.err 0:Gv)),(("NoShip":Str),(Gv.err 1:Gv)),(("OutOfShip":Str),(Gv.err 2:Gv)),(("NoLoad":Str),(Gv.err 3:Gv)),(("MOST_CELLS":Str),(Gv.val (.int 9):Gv)),(("Ship":Str),(Gv.cls 9 true:Gv)),(("kept_bay":Str),(Gv.fn 4:Gv)),(("kept_stack":Str),(Gv.fn 5:Gv)),(("kept_part":Str),(Gv.fn 6:Gv)),(("checked_part":Str),(Gv.fn 7:Gv)),(("rising_below":Str),(Gv.fn 8:Gv)),(("parts_of":Str),(Gv.fn 9:Gv)),(("cells_of_part":Str),(Gv.fn 11:Gv)),(("part_at":Str),(Gv.fn 12:Gv)),(("stack_at":Str),(Gv.fn 13:Gv)),(("has_part":Str),(Gv.fn 14:Gv)),(("has_cell":Str),(Gv.fn 31:Gv)),(("cell_order":Str),(Gv.fn 32:Gv)),(("Load":Str),(Gv.cls 10 true:Gv)),(("pair_order":Str),(Gv.fn 34:Gv)),(("check_load":Str),(Gv.fn 35:Gv)),(("stands_on_something":Str),(Gv.fn 36:Gv)),(("box_at":Str),(Gv.fn 37:Gv)),(("top_of":Str),(Gv.fn 39:Gv)),(("hatch_opens":Str),(Gv.fn 116:Gv)),(("free_places":Str),(Gv.fn 117:Gv)),(("takes_one_more":Str),(Gv.fn 118:Gv)),(("_law_next":Str),(Gv.fn 15:Gv)),(("_law_names":Str),(Gv.fn 40:Gv)),(("_law_part":Str),(Gv.fn 17:Gv)),(("_law_ship":Str),(Gv.fn 41:Gv)),(("_law_box":Str),(Gv.fn 42:Gv)),(("_law_boxes":Str),(Gv.fn 43:Gv)),(("_law_placed":Str),(Gv.fn 44:Gv)),(("_law_same":Str),(Gv.fn 119:Gv)),(("_law_open":Str),(Gv.fn 120:Gv)),(("_law_due":Str),(Gv.fn 121:Gv)),(("_law_one":Str),(Gv.fn 122:Gv)),(("law":Str),(Gv.fn 123:Gv))],["len","int","tuple","list","all","any","min","isinstance","bool","str","dict","range","zip","sorted","ValueError"],["bays","foes","trim","heel","ship","placed","box_by_cell","cell_by_name"],[],["box_by_cell","cell_by_name"]⟩
def d3:Df:=⟨3,some "Ship","__init__","Ship.__init__",mt 7 0,["self","bays","foes","trim","heel"]⟩
def d4:Df:=⟨4,none,"kept_bay","kept_bay",tp 8,["bay"]⟩
def d5:Df:=⟨5,none,"kept_stack","kept_stack",tp 9,["stack"]⟩
def d6:Df:=⟨6,none,"kept_part","kept_part",tp 10,["part"]⟩
def d7:Df:=⟨7,none,"checked_part","checked_part",tp 11,["cells","strength","height","plugs","lash"]⟩
def d8:Df:=⟨8,none,"rising_below","rising_below",tp 12,["numbers","end"]⟩
def d9:Df:=⟨9,none,"parts_of","parts_of",tp 13,["ship"]⟩
def d11:Df:=⟨11,none,"cells_of_part","cells_of_part",tp 14,["ship","part"]⟩
def d12:Df:=⟨12,none,"part_at","part_at",tp 15,["ship","part"]⟩
def d13:Df:=⟨13,none,"stack_at","stack_at",tp 16,["ship","part"]⟩
def d14:Df:=⟨14,none,"has_part","has_part",tp 17,["ship","part"]⟩
def d31:Df:=⟨31,none,"has_cell","has_cell",tp 18,["ship","cell"]⟩
def d32:Df:=⟨32,none,"cell_order","cell_order",tp 19,["cell"]⟩
def d33:Df:=⟨33,some "Load","__init__","Load.__init__",mt 21 0,["self","ship","placed"]⟩
def d34:Df:=⟨34,none,"pair_order","pair_order",tp 22,["pair"]⟩
def d35:Df:=⟨35,none,"check_load","check_load",tp 23,["load"]⟩
def d36:Df:=⟨36,none,"stands_on_something","stands_on_something",tp 24,["load","cell"]⟩
def d37:Df:=⟨37,none,"box_at","box_at",tp 25,["load","cell"]⟩
def d39:Df:=⟨39,none,"top_of","top_of",tp 26,["load","part"]⟩
def IH:Df:=⟨116,none,"hatch_opens","hatch_opens",tp 28,["load","bay"]⟩
def JJ:Df:=⟨117,none,"free_places","free_places",tp 30,["load"]⟩
def IE:Df:=⟨118,none,"takes_one_more","takes_one_more",tp 31,["load","part"]⟩
def d15:Df:=⟨15,none,"_law_next","_law_next",tp 33,["_law_script","_law_at"]⟩
def d40:Df:=⟨40,none,"_law_names","_law_names",tp 34,["_law_script","_law_at","_law_many"]⟩
def d17:Df:=⟨17,none,"_law_part","_law_part",tp 35,["_law_script","_law_at","_law_most"]⟩
def d41:Df:=⟨41,none,"_law_ship","_law_ship",tp 36,["_law_script","_law_at","_law_bays","_law_stacks","_law_cells"]⟩
def d42:Df:=⟨42,none,"_law_box","_law_box",tp 37,["_law_script","_law_at","_law_name"]⟩
def d43:Df:=⟨43,none,"_law_boxes","_law_boxes",tp 38,["_law_script","_law_at","_law_many"]⟩
def d44:Df:=⟨44,none,"_law_placed","_law_placed",tp 39,["_law_script","_law_at","_law_ship_here","_law_boxes_here"]⟩
def Jq:Df:=⟨119,none,"_law_same","_law_same",tp 40,["_law_found","_law_due_here"]⟩
def Jt:Df:=⟨120,none,"_law_open","_law_open",tp 41,["_law_script","_law_at","_law_placed_here"]⟩
def KJ:Df:=⟨121,none,"_law_due","_law_due",tp 42,["_law_ship_here","_law_placed_here"]⟩
def Je:Df:=⟨122,none,"_law_one","_law_one",tp 43,["_law_script","_law_at"]⟩
def JH:Df:=⟨123,none,"law","law",tp 44,["_law_script"]⟩
def ds:List Df:=[d3,d4,d5,d6,d7,d8,d9,d11,d12,d13,d14,d31,d32,d33,d34,d35,d36,d37,d39,IH,JJ,IE,d15,d40,d17,d41,d42,d43,d44,Jq,Jt,KJ,Je,JH]
set_option maxHeartbeats 0 in
theorem KN:∀d∈ds,DS dt d:=by
 repeat' first|exact ka|refine kQ ⟨λ_ _ _ _ _ _=> ?_,by decide+kernel,by decide+kernel⟩ ?_
 all_goals repeat' first|exact l0 rfl|refine lc λ_=> ?_
noncomputable def cls:List (Nat×Cl):=[(0,⟨[],none,[],[0,1000],true,false⟩),(1,⟨[],none,[],[1,0,1000],true,false⟩),(2,⟨[],none,[],[2,0,1000],true,false⟩),(3,⟨[],none,[],[3,0,1000],true,false⟩),(9,⟨["bays","foes","trim","heel"],some 3,[],[9],false,false⟩),(10,⟨["ship","placed","box_by_cell","cell_by_name"],some 33,[],[10],false,false⟩)]
noncomputable def cn:List (Nat×Str):=[(0,"StowError"),(1,"NoShip"),(2,"OutOfShip"),(3,"NoLoad"),(9,"Ship"),(10,"Load")]
def xc (c:Nat):Bool:=((cls.lookup c).map (·.exc)).getD false
noncomputable abbrev pg:Pg:=fg dt ds cls 0
end K32
namespace K32
open PySem PI
set_option maxHeartbeats 0 in
theorem fw:PI.FF pg:=by repeat' first|with_unfolding_all rfl|decide+kernel|constructor
end K32
section
set_option maxHeartbeats 0
namespace Hd
open PySem PySem.W PySem.Calls PyProof.Rows
noncomputable def fN {α:Type} (n:Nat) (k:Nat->α):α:= @Nat.rec (λ_=>α) (k 0) (λm _=>k (Nat.succ m)) n
theorem Aa {α:Type} (n:Nat) (k:Nat->α):fN n k=k n:=by cases n<;>rfl
noncomputable def ev:List Obj->List Obj
 |a::_::r=>a::ev r
 |l=>l
noncomputable def od:List Obj->List Obj
 |_::b::r=>b::od r
 |_=>[]
noncomputable def Dx:Nat->List Obj->BT
 |0,_=> .nil
 |_+1,[]=> .nil
 |n+1,x::r=> .node x (Dx n (ev r)) (Dx n (od r))
noncomputable def vh (tb:String->Option Builtin) (p:Program) (w:World) (n₀:Nat) (ann:Option Value) (os:OsState):Nat->SharedT->Thread->Option SharedT:=
 λN=> @Nat.rec (λ_=>SharedT->Thread->Option SharedT) (λ_ _=>none) (λ_ ih s t=>match through t with
  |true=>some s
  |false=>match stepOk n₀ ann t with
   |false=>none
   |true=>match stepT (denote tb) p w s t with
    |none=>none
    |some (⟨T,n,life,gens,drawn,toks,_⟩,t')=>fN n λn=>fN toks λtoks=>match gens,drawn with
     |⟨l⟩,⟨a,b,c,d⟩=>ih ⟨T,n,life,⟨l⟩,⟨a,b,c,d⟩,toks,os⟩ t') N
theorem ue {tb:String->Option Builtin} {p:Program} {w:World} {n₀:Nat} {ann:Option Value} {os:OsState}:∀{N:Nat} {s r:SharedT} {t:Thread},s.os=os->vh tb p w n₀ ann os N s t=some r->topRun tb p w n₀ ann N s.abs t=some r.abs/\r.os=os
 |0,s,r,t,_,h=>by cases h
 |N+1,s,r,t,ho,h=>by
  unfold topRun;unfold vh at h;dsimp only at h
  cases ht:through t with
  |true=>
   rw[ht] at h;cases h;exact⟨rfl,ho⟩
  |false=>
   rw[ht] at h
   cases hk:stepOk n₀ ann t with
   |false=>rw[hk] at h;cases h
   |true=>
    rw[hk] at h;dsimp only at h⊢
    cases hs:stepT (denote tb) p w s t with
    |none=>rw[hs] at h;cases h
    |some x=>
     let⟨⟨T,n,life,gens,drawn,toks,os'⟩,t'⟩:=x;rw[hs] at h;have e:=stepT_spec hs;rw[e];dsimp only at h⊢
     have eo:os'=os:=by
      have z:=step_os_same e (by
       unfold stepOk at hk
       revert hk
       cases t.cur<;>simp)
      exact(show os'=s.os from z).trans ho
     subst eo;rw[Aa,Aa] at h;cases gens;cases drawn;exact ue rfl h
theorem Cu {p q:Program} {loose:List Str} {Xt:Shared->Bool} {α:Type} {Yf:Shared->α} {Ya:World->α} {N:Nat} {g0:Bool} {H₀:Params->Heap} {T0:Params->BT} {n0:Nat} {life0:Life} {k₀:Nat} {m₀:Nat} {ann:Option Value} {M:Nat}
  (open_:∀w:World,(fencedOpening treeTable p w N).map (λs=>(s.heap,s.gens,s.drawn,s.toks))=some (H₀ w.params,Array.mk [],d₀,k₀))
  (abs0:∀P,absHeap (T0 P) n0 life0=H₀ P)
  (size:∀w:World,((H₀ w.params).isNs mainGlobals&&(Array.mk []:Array GenState).size==0,(H₀ w.params).objs.size,(H₀ w.params).nsMap mainGlobals "__annotations__")=(true,m₀,ann))
  (le:Nat.ble M N=true)
  (run:∀(w:World) (os:OsState),(vh treeTable p w m₀ ann os M ⟨T0 w.params,n0,life0,Array.mk [],d₀,k₀,os⟩ (topStub p)).map (λr=>((staticsOk (importedModules p.main.body) (H₀ w.params) r.abs.heap&&namesBound p r.abs.heap&&gensDone r.abs&&laidKept (H₀ w.params) r.abs.heap),
    openSeen q loose (importedModules p.main.body) Xt g0 r.abs,Yf r.abs))=some (true,openGood q loose,Ya w)):LeftO p q loose Xt Yf Ya N g0:=λw=>by
 let⟨⟨h,gs,d,k,os⟩,e,e'⟩:=aab.mp (open_ w)
 obtain⟨rfl,rfl,rfl,rfl⟩:h=H₀ w.params/\gs=Array.mk []/\d=d₀/\k=k₀:=by simpa using e'
 obtain⟨z1,z2,z3⟩:_/\_/\_:=by simpa only[Prod.mk.injEq] using size w
 let⟨rT,hr,hl⟩:=aab.mp (run w os)
 obtain⟨l1,l2,l3⟩:_/\_/\_:=by simpa only[Prod.mk.injEq] using hl
 have hr':=(ue (os:=os) (s:=⟨T0 w.params,n0,life0,Array.mk [],d,k,os⟩) rfl hr).1
 have ea:SharedT.abs ⟨T0 w.params,n0,life0,Array.mk [],d,k,os⟩=⟨H₀ w.params,Array.mk [],d,k,os⟩:=by
  unfold SharedT.abs;rw[abs0]
 rw[ea] at hr';have r:=topRun_mono (N-M) _ _ _ _ hr';rw[show M+(N-M)=N by have:=Nat.le_of_ble_eq_true le;lia] at r
 have t:topFrom treeTable p w N ⟨H₀ w.params,Array.mk [],d,k,os⟩=some rT.abs:=by
  unfold topFrom;dsimp only;rw[z1,z2,z3,r]
  show (match staticsOk (importedModules p.main.body) (H₀ w.params) rT.abs.heap&&namesBound p rT.abs.heap&&gensDone rT.abs&&laidKept (H₀ w.params) rT.abs.heap with|true=>_|false=>_)=_
  rw[l1]
 unfold openEnds;rw[e];show (topFrom treeTable p w N _).map _=_;rw[t];exact congrArg some (Prod.ext l2 l3)
theorem KP {α β γ δ:Type} {x:Option α} {f:α->β} {g:α->γ} {k:α->δ} {a:β} {b:γ} {c:δ} (e1:x.map f=some a) (e2:x.map g=some b) (e3:x.map k=some c):x.map (λr=>(f r,g r,k r))=some (a,b,c):=by
 cases x with
 |none=>cases e1
 |some r=>cases e1;cases e2;cases e3;rfl
end Hd
namespace K32H
open PySem PySem.W PyProof.Rows
noncomputable abbrev pw:Program:=PySem.Challenge.pw_stowhold_k32_free_places
noncomputable abbrev Pk {T:Type} (y:T):Type:=∀x:T,x=y->T
noncomputable def hp (i n:Nat):List Stmt:=(pw.main.body.drop i).take n
noncomputable def c0:List Stmt:=by refine(?f:Pk (hp 0 9)) [_,_,_,_,_,_,_,_,_] rfl;exact λx _=>x
noncomputable def c1:List Stmt:=by refine(?f:Pk (hp 9 3)) [_,_,_] rfl;exact λx _=>x
noncomputable def c2:List Stmt:=by refine(?f:Pk (hp 12 3)) [_,_,_] rfl;exact λx _=>x
noncomputable def c3:List Stmt:=by refine(?f:Pk (hp 15 3)) [_,_,_] rfl;exact λx _=>x
noncomputable def c4:List Stmt:=by refine(?f:Pk (hp 18 4)) [_,_,_,_] rfl;exact λx _=>x
noncomputable def c5:List Stmt:=by refine(?f:Pk (hp 22 3)) [_,_,_] rfl;exact λx _=>x
noncomputable def c6:List Stmt:=by refine(?f:Pk (hp 25 6)) [_,_,_,_,_,_] rfl;exact λx _=>x
noncomputable def c7:List Stmt:=by refine(?f:Pk (hp 31 3)) [_,_,_] rfl;exact λx _=>x
noncomputable def c8:List Stmt:=by refine(?f:Pk (hp 34 1)) [_] rfl;exact λx _=>x
noncomputable def c9:List Stmt:=by refine(?f:Pk (hp 35 1)) [_] rfl;exact λx _=>x
noncomputable def c10:List Stmt:=by refine(?f:Pk (hp 36 1)) [_] rfl;exact λx _=>x
noncomputable def c11:List Stmt:=by refine(?f:Pk (hp 37 2)) [_,_] rfl;exact λx _=>x
noncomputable def c12:List Stmt:=by refine(?f:Pk (hp 39 1)) [_] rfl;exact λx _=>x
noncomputable def c13:List Stmt:=by refine(?f:Pk (hp 40 1)) [_] rfl;exact λx _=>x
noncomputable def c14:List Stmt:=by refine(?f:Pk (hp 41 1)) [_] rfl;exact λx _=>x
noncomputable def c15:List Stmt:=by refine(?f:Pk (hp 42 1)) [_] rfl;exact λx _=>x
noncomputable def c16:List Stmt:=by refine(?f:Pk (hp 43 1)) [_] rfl;exact λx _=>x
noncomputable def c17:List Stmt:=by refine(?f:Pk (hp 44 1)) [_] rfl;exact λx _=>x
noncomputable def pv:Program:=by refine(?f:Pk pw) ⟨⟨c0++(c1++(c2++(c3++(c4++(c5++(c6++(c7++(c8++(c9++(c10++(c11++(c12++(c13++(c14++(c15++(c16++(c17))))))))))))))))),_,_,_,_⟩,_,_,_,_,_⟩ rfl;exact λx _=>x
theorem Jv:pv=pv:=rfl
name_quick K32Hpv for K32H.pv by K32H.Jv
noncomputable def _root_.PySem.W.Fast.tw11490999965499278124:Program:=PySem.W.Fast.K32Hpv
theorem _root_.PySem.W.Fast.te11490999965499278124:PySem.Challenge.pw_stowhold_k32_free_places=PySem.W.Fast.tw11490999965499278124:=(show PySem.Challenge.pw_stowhold_k32_free_places=pv from rfl).trans PySem.W.Fast.K32Hpv_eq
noncomputable def tp (i:Nat):Stmt:=pw.main.body.getD i (.Pass ⟨0,0,0,0⟩)
noncomputable def vw:Program:={pw with main:={pw.main with body:=[tp 1,tp 2,tp 3,tp 4,tp 6,tp 7,tp 8,tp 9,tp 10,tp 11,tp 12,tp 13,tp 14,tp 15,tp 16,tp 17,tp 18,tp 19,tp 21,tp 22,tp 23,tp 24,tp 25,tp 26,tp 28,tp 30,tp 31,tp 33,tp 34,tp 35,tp 36,tp 37,tp 38,tp 39,tp 40,tp 41,tp 42,tp 43,tp 44]}}
local macro_rules
 |`(tactic|o_head $H)=>do
  let hw:=Lean.mkIdent `hw
  let hc:=Lean.mkIdent `hc
  `(tactic|refine holds_open (q:=K32H.vw) (loose:=[]) (Xt:=λs=>xlAt K32H.vw [] s&&recOk (RowW.records _) s) (XP:=XL K32H.vw []) (Yf:=Hook.obs $H) (Ya:=Hook.val $H) (YP:=Hook.says $H) (N:=4722) (And.left ?$hc) (Hook.of $H) (Hook.keeps $H) (λs e=>xl_of s (Bool.and_eq_true_iff.mp e).1) XL.keeps (by rfl) (by rfl) (by rfl) (λs e=>recFacts_of (Bool.and_eq_true_iff.mp e).2) (by rfl) (by first|assumption|decide+kernel) (by decide+kernel) ⟨rfl,rfl,rfl,rfl,rfl,by decide+kernel⟩ ?$hw (And.right ?$hc))
open_top eP for PySem.Challenge.rw_stowhold_k32_free_places
noncomputable abbrev HL:=List (Addr×Obj)
noncomputable def fq (s:Stmt) (x q:Str) (g:Addr) (c:List (Str×Addr)) (d k dc pm:Value) (an:Option Addr) (cd ct:Value) (b:Addr):Data:= .func ⟨x,q,L2.dj s, .stmts (L2.bf s),L2.av s,g,c,d,k,dc,pm,an,cd,ct,b⟩
noncomputable def hq (P:Params) (i n:Nat):HL:=((K32H.eP.heap_39 P).drop i).take n
noncomputable def b0 (P:Params):HL:=by refine(?f:Pk (hq P 0 2)) [_,_] rfl;exact λx _=>x
noncomputable def b1 (P:Params):HL:=by refine(?f:Pk (hq P 2 2)) [_,_] rfl;exact λx _=>x
noncomputable def b2 (P:Params):HL:=by refine(?f:Pk (hq P 4 2)) [_,_] rfl;exact λx _=>x
noncomputable def b3 (P:Params):HL:=by refine(?f:Pk (hq P 6 2)) [_,_] rfl;exact λx _=>x
noncomputable def b4 (P:Params):HL:=by refine(?f:Pk (hq P 8 8)) [_,_,_,_,_,_,_,_] rfl;exact λx _=>x
noncomputable def b5 (P:Params):HL:=by refine(?f:Pk (hq P 16 5)) [_,_,_,_,_] rfl;exact λx _=>x
def b6 (P:Params):HL:=by refine(?f:Pk (hq P 21 1)) [(_,⟨_,_,fq (L2.inClass (tp 7) 0) ..,_⟩)] rfl;exact λx _=>x
noncomputable def b7 (P:Params):HL:=by refine(?f:Pk (hq P 22 7)) [_,_,_,_,_,_,_] rfl;exact λx _=>x
def b8 (P:Params):HL:=by refine(?f:Pk (hq P 29 1)) [(_,⟨_,_,fq (tp 8) ..,_⟩)] rfl;exact λx _=>x
noncomputable def b9 (P:Params):HL:=by refine(?f:Pk (hq P 30 4)) [_,_,_,_] rfl;exact λx _=>x
def b10 (P:Params):HL:=by refine(?f:Pk (hq P 34 1)) [(_,⟨_,_,fq (tp 9) ..,_⟩)] rfl;exact λx _=>x
noncomputable def b11 (P:Params):HL:=by refine(?f:Pk (hq P 35 4)) [_,_,_,_] rfl;exact λx _=>x
def b12 (P:Params):HL:=by refine(?f:Pk (hq P 39 1)) [(_,⟨_,_,fq (tp 10) ..,_⟩)] rfl;exact λx _=>x
noncomputable def b13 (P:Params):HL:=by refine(?f:Pk (hq P 40 4)) [_,_,_,_] rfl;exact λx _=>x
def b14 (P:Params):HL:=by refine(?f:Pk (hq P 44 1)) [(_,⟨_,_,fq (tp 11) ..,_⟩)] rfl;exact λx _=>x
noncomputable def b15 (P:Params):HL:=by refine(?f:Pk (hq P 45 4)) [_,_,_,_] rfl;exact λx _=>x
def b16 (P:Params):HL:=by refine(?f:Pk (hq P 49 1)) [(_,⟨_,_,fq (tp 12) ..,_⟩)] rfl;exact λx _=>x
noncomputable def b17 (P:Params):HL:=by refine(?f:Pk (hq P 50 2)) [_,_] rfl;exact λx _=>x
def b18 (P:Params):HL:=by refine(?f:Pk (hq P 52 1)) [(_,⟨_,_,fq (tp 13) ..,_⟩)] rfl;exact λx _=>x
noncomputable def b19 (P:Params):HL:=by refine(?f:Pk (hq P 53 2)) [_,_] rfl;exact λx _=>x
def b20 (P:Params):HL:=by refine(?f:Pk (hq P 55 1)) [(_,⟨_,_,fq (tp 14) ..,_⟩)] rfl;exact λx _=>x
noncomputable def b21 (P:Params):HL:=by refine(?f:Pk (hq P 56 4)) [_,_,_,_] rfl;exact λx _=>x
def b22 (P:Params):HL:=by refine(?f:Pk (hq P 60 1)) [(_,⟨_,_,fq (tp 15) ..,_⟩)] rfl;exact λx _=>x
noncomputable def b23 (P:Params):HL:=by refine(?f:Pk (hq P 61 4)) [_,_,_,_] rfl;exact λx _=>x
def b24 (P:Params):HL:=by refine(?f:Pk (hq P 65 1)) [(_,⟨_,_,fq (tp 16) ..,_⟩)] rfl;exact λx _=>x
noncomputable def b25 (P:Params):HL:=by refine(?f:Pk (hq P 66 4)) [_,_,_,_] rfl;exact λx _=>x
def b26 (P:Params):HL:=by refine(?f:Pk (hq P 70 1)) [(_,⟨_,_,fq (tp 17) ..,_⟩)] rfl;exact λx _=>x
noncomputable def b27 (P:Params):HL:=by refine(?f:Pk (hq P 71 4)) [_,_,_,_] rfl;exact λx _=>x
def b28 (P:Params):HL:=by refine(?f:Pk (hq P 75 1)) [(_,⟨_,_,fq (tp 18) ..,_⟩)] rfl;exact λx _=>x
noncomputable def b29 (P:Params):HL:=by refine(?f:Pk (hq P 76 4)) [_,_,_,_] rfl;exact λx _=>x
def b30 (P:Params):HL:=by refine(?f:Pk (hq P 80 1)) [(_,⟨_,_,fq (tp 19) ..,_⟩)] rfl;exact λx _=>x
noncomputable def b31 (P:Params):HL:=by refine(?f:Pk (hq P 81 2)) [_,_] rfl;exact λx _=>x
def b32 (P:Params):HL:=by refine(?f:Pk (hq P 83 1)) [(_,⟨_,_,fq (L2.inClass (tp 21) 0) ..,_⟩)] rfl;exact λx _=>x
noncomputable def b33 (P:Params):HL:=by refine(?f:Pk (hq P 84 8)) [_,_,_,_,_,_,_,_] rfl;exact λx _=>x
noncomputable def b34 (P:Params):HL:=by refine(?f:Pk (hq P 92 1)) [_] rfl;exact λx _=>x
def b35 (P:Params):HL:=by refine(?f:Pk (hq P 93 1)) [(_,⟨_,_,fq (tp 22) ..,_⟩)] rfl;exact λx _=>x
noncomputable def b36 (P:Params):HL:=by refine(?f:Pk (hq P 94 4)) [_,_,_,_] rfl;exact λx _=>x
def b37 (P:Params):HL:=by refine(?f:Pk (hq P 98 1)) [(_,⟨_,_,fq (tp 23) ..,_⟩)] rfl;exact λx _=>x
noncomputable def b38 (P:Params):HL:=by refine(?f:Pk (hq P 99 4)) [_,_,_,_] rfl;exact λx _=>x
def b39 (P:Params):HL:=by refine(?f:Pk (hq P 103 1)) [(_,⟨_,_,fq (tp 24) ..,_⟩)] rfl;exact λx _=>x
noncomputable def b40 (P:Params):HL:=by refine(?f:Pk (hq P 104 4)) [_,_,_,_] rfl;exact λx _=>x
def b41 (P:Params):HL:=by refine(?f:Pk (hq P 108 1)) [(_,⟨_,_,fq (tp 25) ..,_⟩)] rfl;exact λx _=>x
noncomputable def b42 (P:Params):HL:=by refine(?f:Pk (hq P 109 2)) [_,_] rfl;exact λx _=>x
def b43 (P:Params):HL:=by refine(?f:Pk (hq P 111 1)) [(_,⟨_,_,fq (tp 26) ..,_⟩)] rfl;exact λx _=>x
noncomputable def b44 (P:Params):HL:=by refine(?f:Pk (hq P 112 2)) [_,_] rfl;exact λx _=>x
def b45 (P:Params):HL:=by refine(?f:Pk (hq P 114 1)) [(_,⟨_,_,fq (tp 28) ..,_⟩)] rfl;exact λx _=>x
noncomputable def b46 (P:Params):HL:=by refine(?f:Pk (hq P 115 2)) [_,_] rfl;exact λx _=>x
def b47 (P:Params):HL:=by refine(?f:Pk (hq P 117 1)) [(_,⟨_,_,fq (tp 30) ..,_⟩)] rfl;exact λx _=>x
noncomputable def b48 (P:Params):HL:=by refine(?f:Pk (hq P 118 4)) [_,_,_,_] rfl;exact λx _=>x
def b49 (P:Params):HL:=by refine(?f:Pk (hq P 122 1)) [(_,⟨_,_,fq (tp 31) ..,_⟩)] rfl;exact λx _=>x
noncomputable def b50 (P:Params):HL:=by refine(?f:Pk (hq P 123 4)) [_,_,_,_] rfl;exact λx _=>x
def b51 (P:Params):HL:=by refine(?f:Pk (hq P 127 1)) [(_,⟨_,_,fq (tp 33) ..,_⟩)] rfl;exact λx _=>x
noncomputable def b52 (P:Params):HL:=by refine(?f:Pk (hq P 128 4)) [_,_,_,_] rfl;exact λx _=>x
def b53 (P:Params):HL:=by refine(?f:Pk (hq P 132 1)) [(_,⟨_,_,fq (tp 34) ..,_⟩)] rfl;exact λx _=>x
noncomputable def b54 (P:Params):HL:=by refine(?f:Pk (hq P 133 2)) [_,_] rfl;exact λx _=>x
def b55 (P:Params):HL:=by refine(?f:Pk (hq P 135 1)) [(_,⟨_,_,fq (tp 35) ..,_⟩)] rfl;exact λx _=>x
noncomputable def b56 (P:Params):HL:=by refine(?f:Pk (hq P 136 4)) [_,_,_,_] rfl;exact λx _=>x
def b57 (P:Params):HL:=by refine(?f:Pk (hq P 140 1)) [(_,⟨_,_,fq (tp 36) ..,_⟩)] rfl;exact λx _=>x
noncomputable def b58 (P:Params):HL:=by refine(?f:Pk (hq P 141 4)) [_,_,_,_] rfl;exact λx _=>x
def b59 (P:Params):HL:=by refine(?f:Pk (hq P 145 1)) [(_,⟨_,_,fq (tp 37) ..,_⟩)] rfl;exact λx _=>x
noncomputable def b60 (P:Params):HL:=by refine(?f:Pk (hq P 146 2)) [_,_] rfl;exact λx _=>x
def b61 (P:Params):HL:=by refine(?f:Pk (hq P 148 1)) [(_,⟨_,_,fq (tp 38) ..,_⟩)] rfl;exact λx _=>x
noncomputable def b62 (P:Params):HL:=by refine(?f:Pk (hq P 149 4)) [_,_,_,_] rfl;exact λx _=>x
def b63 (P:Params):HL:=by refine(?f:Pk (hq P 153 1)) [(_,⟨_,_,fq (tp 39) ..,_⟩)] rfl;exact λx _=>x
noncomputable def b64 (P:Params):HL:=by refine(?f:Pk (hq P 154 2)) [_,_] rfl;exact λx _=>x
def b65 (P:Params):HL:=by refine(?f:Pk (hq P 156 1)) [(_,⟨_,_,fq (tp 40) ..,_⟩)] rfl;exact λx _=>x
noncomputable def b66 (P:Params):HL:=by refine(?f:Pk (hq P 157 4)) [_,_,_,_] rfl;exact λx _=>x
def b67 (P:Params):HL:=by refine(?f:Pk (hq P 161 1)) [(_,⟨_,_,fq (tp 41) ..,_⟩)] rfl;exact λx _=>x
noncomputable def b68 (P:Params):HL:=by refine(?f:Pk (hq P 162 4)) [_,_,_,_] rfl;exact λx _=>x
def b69 (P:Params):HL:=by refine(?f:Pk (hq P 166 1)) [(_,⟨_,_,fq (tp 42) ..,_⟩)] rfl;exact λx _=>x
noncomputable def b70 (P:Params):HL:=by refine(?f:Pk (hq P 167 2)) [_,_] rfl;exact λx _=>x
def b71 (P:Params):HL:=by refine(?f:Pk (hq P 169 1)) [(_,⟨_,_,fq (tp 43) ..,_⟩)] rfl;exact λx _=>x
noncomputable def b72 (P:Params):HL:=by refine(?f:Pk (hq P 170 4)) [_,_,_,_] rfl;exact λx _=>x
def b73 (P:Params):HL:=by refine(?f:Pk (hq P 174 1)) [(_,⟨_,_,fq (tp 44) ..,_⟩)] rfl;exact λx _=>x
noncomputable def e0 (P:Params):HL:=(b0 P++(b1 P++(b2 P++(b3 P++(b4 P++(b5 P++(b6 P++(b7 P++(b8 P++(b9 P))))))))))
noncomputable def e1 (P:Params):HL:=(b10 P++(b11 P++(b12 P++(b13 P++(b14 P++(b15 P++(b16 P++(b17 P++(b18 P++(b19 P))))))))))
noncomputable def e2 (P:Params):HL:=(b20 P++(b21 P++(b22 P++(b23 P++(b24 P++(b25 P++(b26 P++(b27 P++(b28 P++(b29 P))))))))))
noncomputable def e3 (P:Params):HL:=(b30 P++(b31 P++(b32 P++(b33 P++(b34 P++(b35 P++(b36 P++(b37 P++(b38 P++(b39 P))))))))))
noncomputable def e4 (P:Params):HL:=(b40 P++(b41 P++(b42 P++(b43 P++(b44 P++(b45 P++(b46 P++(b47 P++(b48 P++(b49 P))))))))))
noncomputable def e5 (P:Params):HL:=(b50 P++(b51 P++(b52 P++(b53 P++(b54 P++(b55 P++(b56 P++(b57 P++(b58 P++(b59 P))))))))))
noncomputable def e6 (P:Params):HL:=(b60 P++(b61 P++(b62 P++(b63 P++(b64 P++(b65 P++(b66 P++(b67 P++(b68 P++(b69 P))))))))))
noncomputable def e7 (P:Params):HL:=(b70 P++(b71 P++(b72 P++(b73 P))))
noncomputable def eq (P:Params):HL:=(e0 P++(e1 P++(e2 P++(e3 P++(e4 P++(e5 P++(e6 P++(e7 P))))))))
theorem eq_eq (P:Params):eq P=K32H.eP.heap_39 P:=by kernel_rfl
noncomputable def asK:List Nat:=[2,3,15,22,23,24,25,28,35,36,37,40,47,48,49,52,59,60,61,71,74,75,76,77,78,79,80,83,86,87,88,90,91,93,94,95,97,98,100,101,102,104,105,107,108,109,111,112,114,115,116,119,120,121,124,125,126,128,129,131,132,133,135,136,138,139,140,142,143,145,146,147,149,150,152,153,154,156,157,159,160,168,171,172,173,174,175,176,177,180,182,183,185,186,187,189,190,192,193,194,196,197,199,200,201,203,204,206,207,208,211,212,213,216,217,218,221,222,223,225,226,228,229,230,232,233,235,236,237,239,240,242,243,244,247,248,249,251,252,254,255,256,258,259,261,262,263,266,267,268,270,271,273,274,275,278,279,280,282,283,285,286,287,289,290,292,293,294,297,298,299,301,302,304,305]
noncomputable def T0 (P:Params):BT:=Hd.Dx 6 (boot_heap P).objs.toList
noncomputable def rn (w:World) (os:OsState):=Hd.vh treeTable pw w 11 (some (.ref 6)) os 2511 ⟨T0 w.params,11,{},Array.mk [],boot_drawn,boot_toks,os⟩ (topStub pw)
noncomputable def r1 (w:World) (os:OsState):=(rn w os).map λr=>(staticsOk (importedModules pw.main.body) (boot_heap w.params) r.abs.heap&&namesBound pw r.abs.heap&&gensDone r.abs&&laidKept (boot_heap w.params) r.abs.heap)
theorem JX:r1=r1:=rfl
name_quick K32Hr1 for K32H.r1 by K32H.JX
theorem o1 (w:World) (os:OsState):r1 w os=some true:=(congrFun (congrFun PySem.W.Fast.K32Hr1_eq w) os).trans (by kernel_rfl:PySem.W.Fast.K32Hr1 w os=some true)
noncomputable def r2 (w:World) (os:OsState):=(rn w os).map λr=>openSeen vw [] (importedModules pw.main.body) (λs=>xlAt vw [] s&&recOk PySem.Challenge.rw_stowhold_k32_free_places.row.records s) true r.abs
theorem JQ:r2=r2:=rfl
name_quick K32Hr2 for K32H.r2 by K32H.JQ
noncomputable def g2 (w:World):=some (openGood vw [])
theorem IC:g2=g2:=rfl
name_quick K32Hg2 for K32H.g2 by K32H.IC
theorem o2 (w:World) (os:OsState):r2 w os=g2 w:=((congrFun (congrFun PySem.W.Fast.K32Hr2_eq w) os).trans (by kernel_rfl:PySem.W.Fast.K32Hr2 w os=PySem.W.Fast.K32Hg2 w)).trans (congrFun PySem.W.Fast.K32Hg2_eq w).symm
noncomputable def r3 (w:World) (os:OsState):=(rn w os).map λr=>asK.map r.abs.heap.get?
theorem Jb:r3=r3:=rfl
name_quick K32Hr3 for K32H.r3 by K32H.Jb
noncomputable def g3 (w:World):=some ((eq w.params).map λp=>some p.2)
theorem KD:g3=g3:=rfl
name_quick K32Hg3 for K32H.g3 by K32H.KD
theorem o3 (w:World) (os:OsState):r3 w os=g3 w:=((congrFun (congrFun PySem.W.Fast.K32Hr3_eq w) os).trans (by kernel_rfl:PySem.W.Fast.K32Hr3 w os=PySem.W.Fast.K32Hg3 w)).trans (congrFun PySem.W.Fast.K32Hg3_eq w).symm
theorem left:LeftO PySem.Challenge.rw_stowhold_k32_free_places.row.prog vw [] (λs=>xlAt vw [] s&&recOk PySem.Challenge.rw_stowhold_k32_free_places.row.records s) (λs=>asK.map s.heap.get?) (λw=>(K32H.eP.heap_39 w.params).map λp=>some p.2) 4722:=
 Hd.Cu (p:=pw) (H₀:=boot_heap) (T0:=T0) (n0:=11) (life0:={}) (d₀:=boot_drawn) (k₀:=boot_toks) (m₀:=11) (ann:=some (.ref 6)) (M:=2511)
  (boot_open (by kernel_rfl) (by decide) (λs=>by kernel_rfl)) (λP=>by kernel_rfl) (λw=>by kernel_rfl) (by decide) (λw os=>by
   have h:=o3 w os;unfold g3 at h;rw[eq_eq] at h
   exact Hd.KP (o1 w os) (o2 w os) h)
end K32H
end
open PySem PySem.W PyProof.Rows
open PI (kQ ka tW tB AY vA wo xm tX uh) in
set_option maxRecDepth 100000 in
set_option maxHeartbeats 0 in
theorem PySem.Challenge.cw_stowhold_k32_free_places_holds : PySem.Challenge.rw_stowhold_k32_free_places.Holds := by
 refine K32H.eP ⟨K32H.left, ?_⟩
 k_fill
 refine PI.Gk (l:=PySem.Challenge.rw_stowhold_k32_free_places) (D:=K32.dt) (ds:=K32.ds) (cls:=K32.cls) (cn:=K32.cn) (xc:=K32.xc) (wn:=0) (n:=10) (f:=123) (x:="_law_script") rfl rfl ⟨rfl,by decide,by decide⟩ (fun w h Y=>PySem.W.kIn_of Y) K32.KN rfl rfl rfl rfl (PI.G7 (by decide)) ?F (fun ns hn=>PI.yw K32.fw (by with_unfolding_all rfl) 0 ns hn)
 case F=>
  intro w;refine' ⟨?_, ?_,PI.zQ ?_, ?_,PI.Em ?_,ka⟩
  all_goals repeat' first|exact ka|refine' kQ ?_ ?_|refine' tB ?_ ?_ ?_ ?_ ?_|refine' tW ?_ ?_ ?_ ?_|exact AY rfl rfl rfl|refine' vA ?_ rfl rfl rfl rfl ?_|refine' xm ?_|refine' wo ?_ rfl rfl rfl ?_ ?_ rfl rfl rfl rfl ?_ ?_|exact tX rfl rfl|refine' uh rfl rfl ?_ ?_ ?_ ?_ ?_ ?_
  any_goals first|k_is|k_exc
end
