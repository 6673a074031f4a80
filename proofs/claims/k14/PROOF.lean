import PyProof.Rows.All
import Wide.All
import OpenK.AllK
import Wide.FinOn
import Lean
import PyProof.EqAt
import PyProof.EqKinds
import PyProof.TupleCall
import KE.KSortTup
import PySem.Challenge.RW_stowhold_k14_makeweight
set_option autoImplicit true
set_option relaxedAutoImplicit true
set_option genSizeOfSpec false
set_option Elab.async false
set_option linter.all false
set_option maxRecDepth 100000
namespace Ob
variable {g:Prop}
theorem E02 {p q:Prop} (h:p∧q) (f:p->q->g):g:=let ⟨h0,h1⟩:=h;f h0 h1
theorem E11 {p:a->Prop} (h:∃x,p x) (f:∀x,p x->g):g:=let ⟨x,h0⟩:=h;f x h0
theorem E03 {p q r:Prop} (h:p∧q∧r) (f:p->q->r->g):g:=let ⟨h0,h1,h2⟩:=h;f h0 h1 h2
theorem E12 {p q:a->Prop} (h:∃x,p x∧q x) (f:∀x,p x->q x->g):g:=let ⟨x,h0,h1⟩:=h;f x h0 h1
theorem E21 {p:a->b->Prop} (h:∃x y,p x y) (f:∀x y,p x y->g):g:=let ⟨x,y,h0⟩:=h;f x y h0
theorem E04 {p q r s:Prop} (h:p∧q∧r∧s) (f:p->q->r->s->g):g:=let ⟨h0,h1,h2,h3⟩:=h;f h0 h1 h2 h3
theorem E13 {p q r:a->Prop} (h:∃x,p x∧q x∧r x) (f:∀x,p x->q x->r x->g):g:=let ⟨x,h0,h1,h2⟩:=h;f x h0 h1 h2
theorem E22 {p q:a->b->Prop} (h:∃x y,p x y∧q x y) (f:∀x y,p x y->q x y->g):g:=let ⟨x,y,h0,h1⟩:=h;f x y h0 h1
theorem E05 {p q r s t:Prop} (h:p∧q∧r∧s∧t) (f:p->q->r->s->t->g):g:=let ⟨h0,h1,h2,h3,h4⟩:=h;f h0 h1 h2 h3 h4
theorem E14 {p q r s:a->Prop} (h:∃x,p x∧q x∧r x∧s x) (f:∀x,p x->q x->r x->s x->g):g:=let ⟨x,h0,h1,h2,h3⟩:=h;f x h0 h1 h2 h3
theorem E23 {p q r:a->b->Prop} (h:∃x y,p x y∧q x y∧r x y) (f:∀x y,p x y->q x y->r x y->g):g:=let ⟨x,y,h0,h1,h2⟩:=h;f x y h0 h1 h2
theorem E32 {p q:a->b->c->Prop} (h:∃x y z,p x y z∧q x y z) (f:∀x y z,p x y z->q x y z->g):g:=let ⟨x,y,z,h0,h1⟩:=h;f x y z h0 h1
theorem E06 {p q r s t k:Prop} (h:p∧q∧r∧s∧t∧k) (f:p->q->r->s->t->k->g):g:=let ⟨h0,h1,h2,h3,h4,h5⟩:=h;f h0 h1 h2 h3 h4 h5
theorem E24 {p q r s:a->b->Prop} (h:∃x y,p x y∧q x y∧r x y∧s x y) (f:∀x y,p x y->q x y->r x y->s x y->g):g:=let ⟨x,y,h0,h1,h2,h3⟩:=h;f x y h0 h1 h2 h3
theorem E33 {p q r:a->b->c->Prop} (h:∃x y z,p x y z∧q x y z∧r x y z) (f:∀x y z,p x y z->q x y z->r x y z->g):g:=let ⟨x,y,z,h0,h1,h2⟩:=h;f x y z h0 h1 h2
theorem E25 {p q r s t:a->b->Prop} (h:∃x y,p x y∧q x y∧r x y∧s x y∧t x y) (f:∀x y,p x y->q x y->r x y->s x y->t x y->g):g:=let ⟨x,y,h0,h1,h2,h3,h4⟩:=h;f x y h0 h1 h2 h3 h4
theorem E34 {p q r s:a->b->c->Prop} (h:∃x y z,p x y z∧q x y z∧r x y z∧s x y z) (f:∀x y z,p x y z->q x y z->r x y z->s x y z->g):g:=let ⟨x,y,z,h0,h1,h2,h3⟩:=h;f x y z h0 h1 h2 h3
theorem E43 {p q r:a->b->c->d->Prop} (h:∃x y z u,p x y z u∧q x y z u∧r x y z u) (f:∀x y z u,p x y z u->q x y z u->r x y z u->g):g:=let ⟨x,y,z,u,h0,h1,h2⟩:=h;f x y z u h0 h1 h2
theorem E35 {p q r s t:a->b->c->Prop} (h:∃x y z,p x y z∧q x y z∧r x y z∧s x y z∧t x y z) (f:∀x y z,p x y z->q x y z->r x y z->s x y z->t x y z->g):g:=let ⟨x,y,z,h0,h1,h2,h3,h4⟩:=h;f x y z h0 h1 h2 h3 h4
theorem E53 {p q r:a->b->c->d->e->Prop} (h:∃x y z u v,p x y z u v∧q x y z u v∧r x y z u v) (f:∀x y z u v,p x y z u v->q x y z u v->r x y z u v->g):g:=let ⟨x,y,z,u,v,h0,h1,h2⟩:=h;f x y z u v h0 h1 h2
end Ob
local macro_rules
|`(tactic|obtain⟨$ps,*⟩:=$h)=>do
 let ps:=ps.getElems
 let n:=ps.size
 if n<2||n>8 then Lean.Macro.throwUnsupported
 let qs<-ps.mapM fun p=>do
  let q<-`(rcasesPat|($p:rcasesPatLo))
  `(rintroPat|$q:rcasesPat)
 let mut t<-`(tactic|fail)
 for j in [0:min n 6] do
  let k:=min n 6-1-j
  let i:=Lean.mkIdent (.mkStr2 "Ob" s!"E{k}{n-k}")
  t<-`(tactic|first|refine $i $h ?_|$t:tactic)
 if h.raw.isIdent then
  let i:Lean.Ident:=⟨h⟩
  t<-`(tactic|($t:tactic;clear $i))
 `(tactic|($t:tactic;rintro $qs:rintroPat*))
def Ob.t:Nat->Lean.Term->Lean.MacroM (Lean.TSyntax `rcasesPat)
|0,_=>Lean.Macro.throwUnsupported
|n+1,s=>match s with
 |`(⟨$xs,*⟩)=>do
  let ps<-xs.getElems.mapM (Ob.t n)
  `(rcasesPat|⟨$[$ps:rcasesPat],*⟩)
 |`(_)=>`(rcasesPat|_)
 |`($x:ident)=>`(rcasesPat|$x:ident)
 |_=>Lean.Macro.throwUnsupported
local macro_rules
|`(tactic|let⟨$xs,*⟩:=$h)=>do
 let ps<-xs.getElems.mapM (Ob.t 9)
 `(tactic|obtain⟨$[$ps:rcasesPat],*⟩:=$h)
noncomputable section
abbrev aaa:=@PySem.wpAny_bind
abbrev aab:=@Option.map_eq_some_iff
abbrev aac:=@List.getElem?_eq_some_iff
abbrev aad:=@PySem.Heap.get?_push_of_some
abbrev aae:=@List.getElem?_eq_getElem
abbrev aaf:=@PySem.wpAny_pure
abbrev aag:=@Bool.and_eq_true
abbrev aah:=@Nat.le_refl
abbrev aai:=@PySem.Heap.get?_push_size
abbrev aaj:=@List.prefix_refl
abbrev aak:=@List.size_toArray
abbrev aal:=@PySem.Heap.lt_size
abbrev aam:=@List.getElem?_append_right
abbrev aan:=@Nat.lt_of_lt_of_le
abbrev aao:=@Option.bind_eq_some_iff
abbrev aap:=@List.mem_cons
abbrev aaq:=@Bool.false_ne_true
abbrev aar:=@List.getElem?_append_left
abbrev aas:=@List.mem_of_getElem?
abbrev aat:=@List.mem_cons_of_mem
abbrev aau:=@Nat.ne_of_lt
abbrev aav:=@List.getD_eq_getElem?_getD
abbrev aaw:=@List.length_cons
abbrev aax:=@List.prefix_append
abbrev aay:=@List.map_cons
abbrev aaz:=@List.mem_append
abbrev aaA:=@List.mem_append_right
abbrev aaB:=@decide_eq_false
abbrev aaC:=@List.mem_cons_self
abbrev aaD:=@List.mem_singleton
abbrev aaE:=@PySem.wpAny_field
abbrev aaF:=@PySem.Heap.get?_update_other
abbrev aaG:=@List.eq_nil_of_length_eq_zero
abbrev aaH:=@PySem.mem_of_lookup
abbrev aaI:=@List.all_cons
abbrev aaJ:=@List.lookup_cons
abbrev aaK:=@PySem.wpAny_newObj_type
abbrev aaL:=@Nat.le_trans
abbrev aaM:=@PySem.W.kia_one
abbrev aaN:=@PySem.Heap.size_push
abbrev aaO:=@PySem.F.slot_dict_get
abbrev aaP:=@List.getElem?_map
abbrev aaQ:=@PySem.wpAny_mono
abbrev aaR:=@List.zip_cons_cons
abbrev aaS:=@Bool.eq_iff_iff
abbrev aaT:=@List.mem_map
abbrev aaU:=@Array.length_toList
abbrev aaV:=@Nat.zero_le
abbrev aaW:=@PySem.wpAny_callSpecial?_slot
abbrev aaX:=@PySem.wpAny_seqItems
abbrev aaY:=@List.mem_append_left
abbrev aaZ:=@List.length_append
abbrev aa0:=@PySem.F.entry_dict_get
abbrev aa1:=@Option.isSome_iff_exists
abbrev aa2:=@List.getElem?_take_of_lt
abbrev aa3:=@PySem.Heap.get?_update_self
abbrev aa4:=@List.length_eq_zero_iff
abbrev aa5:=@Nat.lt_irrefl
abbrev aa6:=@List.map_map
abbrev aa7:=@PySem.wpAny_holding
abbrev aa8:=@List.length_take
abbrev aa9:=@PySem.Obj.data_mapFields
abbrev aba:=@PySem.wpAny_call_entry
abbrev abb:=@PySem.Heap.get?_none_of_le
abbrev abc:=@List.append_nil
abbrev abd:=@List.map_append
abbrev abe:=@List.length_zip
abbrev abf:=@Nat.le_of_lt
abbrev abg:=@PySem.Paired.length
abbrev abh:=@List.not_mem_nil
abbrev abi:=@if_false
abbrev abj:=@List.min?_eq_some_iff
abbrev abk:=@Bool.false_eq_true
abbrev abl:=@Int.emod_lt_of_pos
abbrev abm:=@PySem.wpAny_Call_Name_kw
abbrev abn:=@PySem.wpAny_setField_rec
abbrev abo:=@List.mem_of_find?_eq_some
abbrev abp:=@List.mem_filter
abbrev abq:=@List.getElem?_set_ne
abbrev abr:=@Nat.ne_of_gt
abbrev abt:=@List.nodup_cons
abbrev abu:=@List.find?_cons
abbrev abw:=@beq_iff_eq
abbrev abx:=@PySem.wpAny_truthy_bool
abbrev aby:=@PySem.wpAny_typeNameOfWhole_keyiter
abbrev abz:=@PySem.F.plain_min_loop
abbrev abA:=@PySem.F.slot_dict_keyiterator_next
abbrev abB:=@decide_eq_true
abbrev abC:=@List.getElem?_set_self
abbrev abD:=@Int.le_ediv_iff_mul_le
abbrev abE:=@PySem.sizeLine_eq
abbrev abF:=@PySem.tupleKind_room_in1
abbrev abG:=@PySem.Obj.isFreed_of_fields
abbrev abH:=@List.max?_eq_some_iff
abbrev abI:=@Bool.or_eq_true
abbrev abJ:=@Int.emod_nonneg
abbrev abK:=@PySem.F.slot_tuple_iterator_next
abbrev abL:=@Nat.lt_succ_of_lt
abbrev abM:=@List.nodup_append
abbrev abN:=@PySem.Around.under_plainId
abbrev abO:=@PySem.wpAny_letGo
abbrev abP:=@List.mem_range
abbrev abQ:=@if_true
abbrev abR:=@PySem.wpAny_setField
abbrev abS:=@PySem.call_meetsIn
abbrev abT:=@List.filterMap_cons
abbrev abU:=@List.getElem?_replicate
abbrev abV:=@PySem.F.args_dict_get_2
abbrev abW:=@PySem.F.args_dict_get_3
abbrev abX:=@List.getElem?_cons_succ
abbrev abY:=@List.any_cons
abbrev abZ:=@PySem.plainId_quiet
abbrev ab0:=@Nat.lt_of_le_of_lt
abbrev ab1:=@of_decide_eq_false
abbrev ab2:=@PySem.Calls.callWith_builtin
abbrev ab3:=@List.find?_cons_of_neg
abbrev ab4:=@PySem.wpAny_pyIter_list
abbrev ab5:=@decide_eq_true_eq
abbrev ab6:=@List.length_singleton
abbrev ab7:=@List.mem_iff_getElem?
abbrev ab8:=@Int.le_trans
abbrev ab9:=@PySem.wpAny_tryCatch
abbrev aca:=@PyProof.Rows.callWith_type1
abbrev acb:=@Nat.lt_succ_self
abbrev acd:=@PySem.Calls.evalArgs_plain
abbrev ace:=@List.all_eq_true
abbrev acf:=@PySem.Heap.SameBut.update
abbrev acg:=@List.forIn_cons
abbrev ach:=@Option.map_some
abbrev aci:=@PySem.wpAny_passesOwn
abbrev acj:=@PySem.codeAny_builtin
abbrev ack:=@PySem.Calls.spliced_cons
abbrev acm:=@Nat.zero_add
abbrev acn:=@PySem.wpAny_pyIter_tuple
abbrev aco:=@List.forIn_nil
abbrev acp:=@List.nodup_nil
abbrev acq:=@PySem.wpAny_rule
abbrev acr:=@PySem.W.kitx_dict
abbrev acs:=@Int.toNat_natCast
abbrev acu:=@PySem.wpAny_dictEntries
abbrev acv:=@List.take_of_length_le
abbrev acw:=@PySem.W.mg_of
abbrev acx:=@PySem.wpAny_onRaise
abbrev acy:=@PySem.wpAny_attempt
abbrev acz:=@List.length_drop
abbrev acA:=@Nat.le_add_right
abbrev acB:=@List.cons_append
abbrev acC:=@Array.toList_inj
abbrev acD:=@List.filter_cons
abbrev acE:=@or_false
abbrev acF:=@List.min?_eq_none_iff
abbrev acG:=@List.max?_eq_none_iff
abbrev acH:=@PySem.wpAny_notOrdered_dict
abbrev acI:=@PyProof.Rows.slot_tuple_getitem
abbrev acJ:=@List.of_mem_zip
abbrev acK:=@List.map_nil
abbrev acL:=@PySem.F.slot_zip_next
abbrev acM:=@PySem.F.args_dict_keyiterator_next_1
abbrev acN:=@PySem.codeAny_mono
abbrev acO:=@PySem.wpAny_updateSeq_pair
abbrev acQ:=@List.length_pos_iff
abbrev acR:=@beq_eq_false_iff_ne
abbrev acT:=@List.filterMap_map
abbrev acV:=@Nat.pos_of_ne_zero
abbrev acW:=@PySem.wpAny_standAt
abbrev acY:=@PySem.W.kitx_list
abbrev acZ:=@PySem.Calls.spliced_nil
abbrev ac0:=@PySem.Obj.cls_mapFields
abbrev ac1:=@Bool.not_eq_true'
abbrev ac2:=@List.length_range
abbrev ac3:=@of_decide_eq_true
abbrev ac4:=@Nat.le_of_eq
abbrev ac5:=@List.zipIdx_cons
abbrev ac7:=@Nat.min_self
abbrev ac9:=@List.zipIdx_nil
abbrev ada:=@List.length_nil
namespace L2
open PySem PySem.Spec PyProof.Rows
abbrev Key:=Sum Int Str
noncomputable def gR:Key->Value->Bool
 | .inl k,v=>Value.isInt k v
 | .inr x,v=>Value.isStrOf x v
noncomputable def Kn (w:World):Key->Int
 | .inl k=>hashInt k
 | .inr x=>hashStr w x
theorem bR:∀{k:Key} {v:Value},gR k v=true->(∃i t,k=Sum.inl i/\v=Value.int i t)∨(∃x t,k=Sum.inr x/\v=Value.str x t)
 | .inl i,v,h=>by
  let⟨t,e⟩:=Value.isInt_shape (k:=i) (v:=v) h;exact .inl ⟨i,t,rfl,e⟩
 | .inr x,v,h=>by
  let⟨t,e⟩:=Value.isStrOf_shape (x:=x) (v:=v) h;exact .inr ⟨x,t,rfl,e⟩
theorem xl (i:Int) (t:Tok):gR (.inl i) (.int i t)=true:=by simp[gR,Value.isInt]
theorem xA (x:Str) (t:Tok):gR (.inr x) (.str x t)=true:=by simp[gR,Value.isStrOf]
theorem yL (a b:Int):decide ((Sum.inl a:Key)=Sum.inl b)=(a==b):=by
 by_cases e:a=b
 ·subst e;simp
 ·have h:¬(Sum.inl a:Key)=Sum.inl b:=λq=>e (Sum.inl.inj q);rw[aaB h];exact(beq_eq_false_iff_ne.mpr e).symm
theorem xD (a b:Str):decide ((Sum.inr a:Key)=Sum.inr b)=decide (a=b):=by
 by_cases e:a=b
 ·subst e;simp
 ·have h:¬(Sum.inr a:Key)=Sum.inr b:=λq=>e (Sum.inr.inj q);rw[aaB h,aaB e]
theorem G8 (a:Int) (b:Str):decide ((Sum.inl a:Key)=Sum.inr b)=false:=aaB (λq=>nomatch q)
theorem Fi (a:Str) (b:Int):decide ((Sum.inr a:Key)=Sum.inl b)=false:=aaB (λq=>nomatch q)
def aJ (prog:Program) (w:World):PySem.KeyKind prog w Key where
 is:=gR
 hash:=Kn w
 inj:=λv a b ha hb=>by
  rcases bR ha with⟨i,t,rfl,rfl⟩|⟨x,t,rfl,rfl⟩
  ·rcases bR hb with⟨j,u,rfl,e⟩|⟨y,u,rfl,e⟩
   ·injection e with e1 _;rw[e1]
   ·exact nomatch e
  ·rcases bR hb with⟨j,u,rfl,e⟩|⟨y,u,rfl,e⟩
   ·exact nomatch e
   ·injection e with e1 _;rw[e1]
 byValue:=λk v h=>by
  rcases bR h with⟨i,t,rfl,rfl⟩|⟨x,t,rfl,rfl⟩<;>rfl
 pyHash:=λhv h=>by
  rcases bR hv with⟨i,t,rfl,rfl⟩|⟨x,t,rfl,rfl⟩
  ·exact wpAny_pyHash_int h
  ·exact wpAny_pyHash_str h
 eqBool:=λhu hv h=>by
  rcases bR hu with⟨i,t,rfl,rfl⟩|⟨x,t,rfl,rfl⟩
  ·rcases bR hv with⟨j,u,rfl,rfl⟩|⟨y,u,rfl,rfl⟩
   ·rw[yL] at h;exact wpAny_eqBool_int h
   ·rw[G8] at h;exact SeqAt.EqAt.int_str i t y u _ _ _ _ h
  ·rcases bR hv with⟨j,u,rfl,rfl⟩|⟨y,u,rfl,rfl⟩
   ·rw[Fi] at h;exact SeqAt.EqAt.str_int x t j u _ _ _ _ h
   ·rw[xD] at h;exact wpAny_eqBool_str h
 «strs»:=λk x t v h=>by
  rcases bR h with⟨i,u,rfl,e⟩|⟨y,u,rfl,e⟩
  ·exact nomatch e
  ·injection e with e1 _
   subst e1;cases v<;>rfl
theorem tU (prog:Program) (w:World) (i:Int) (t:Tok):(aJ prog w).is (.inl i) (.int i t)=true:=xl i t
theorem tR (prog:Program) (w:World) (x:Str) (t:Tok):(aJ prog w).is (.inr x) (.str x t)=true:=xA x t
inductive V where
 |non|bl (b:Bool)|int (i:Int)|str (x:Str)|byt (b:Array UInt8)|flt (b:UInt64)|ref (a:Addr)|ty (n:String)
 deriving DecidableEq
def RelV:V->Value->Prop
 | .non,u=>u=Value.none
 | .bl b,u=>u=Value.bool b
 | .int i,u=>∃t,u=Value.int i t
 | .str x,u=>∃t,u=Value.str x t
 | .byt b,u=>∃t,u=Value.bytes b t
 | .flt b,u=>∃t,u=Value.float b t
 | .ref a,u=>u=Value.ref a
 | .ty n,u=>u=Value.type n
abbrev Vals:List V->List Value->Prop:=Paired RelV
theorem Vals.length {xs:List V} {us:List Value} (r:Vals xs us):xs.length=us.length:=abg r
theorem Vals.get:∀{xs:List V} {us:List Value} {i:Nat} {x:V},Vals xs us->xs[i]?=some x->∃u,us[i]?=some u/\RelV x u
 |_,_,_,_, .nil,e=>by simp at e
 |_,_,0,_, .cons r _,e=>by simp at e;subst e;exact⟨_,rfl,r⟩
 |_,_,i+1,x, .cons _ t,e=>by
  let⟨u,h1,h2⟩:=Vals.get (i:=i) (x:=x) t (by simpa using e);exact⟨u,by simpa using h1,h2⟩
theorem Vals.set {x:V} {u:Value} (r:RelV x u):∀{xs:List V} {us:List Value} (i:Nat),Vals xs us->Vals (xs.set i x) (us.set i u)
 |_,_,_, .nil=> .nil
 |_,_,0, .cons _ t=> .cons r t
 |_,_,i+1, .cons q t=> .cons q (Vals.set r i t)
theorem Vals.append:∀{xs ys:List V} {us ws:List Value},Vals xs us->Vals ys ws->Vals (xs++ys) (us++ws)
 |_,_,_,_, .nil,s=>s
 |_,_,_,_, .cons r t,s=> .cons r (Vals.append t s)
theorem Vals.take:∀{xs:List V} {us:List Value} (n:Nat),Vals xs us->Vals (xs.take n) (us.take n)
 |_,_,0,_=> .nil
 |_,_,_+1, .nil=> .nil
 |_,_,n+1, .cons r t=> .cons r (Vals.take n t)
theorem Vals.drop:∀{xs:List V} {us:List Value} (n:Nat),Vals xs us->Vals (xs.drop n) (us.drop n)
 |_,_,0,r=>r
 |_,_,_+1, .nil=> .nil
 |_,_,n+1, .cons _ t=>Vals.drop n t
def dP:Option V->Option Value->Prop
 |some v,some u=>RelV v u
 |none,none=>True
 |_,_=>False
def KV {κ:Type}:List (κ×V)->List (κ×Value)->Prop:=Paired λ(p:κ×V) (q:κ×Value)=>p.1=q.1/\RelV p.2 q.2
noncomputable def kV:Key->V
 | .inl i=> .int i
 | .inr x=> .str x
inductive HO where
 |lst (xs:List V)
 |tup (xs:List V)
 |dK (kvs:List (Key×V))|dT (kvs:List (List Key×V))
 |set (S:Int->Bool) (n:Nat)
 |ins (C dx:Addr) (fs:List (Str×V))
 |own (x:Addr)
 |xd (fs:List (Str×V))
 |met (f x:Addr)
 |rng (lo hi:Int)
 |aD (o:Obj) (u:HO)
 |tbl (ps:Array Value)
 |ext (φ:Heap->Prop)
abbrev Hp:=Addr->Option HO
noncomputable def upd (H:Hp) (a:Addr) (o:HO):Hp:=λb=>if b=a then some o else H b
theorem ak {H:Hp} {a:Addr} {o:HO}:upd H a o a=some o:=by unfold upd;rw[if_pos rfl]
theorem aq {H:Hp} {a b:Addr} {o:HO} (h:b≠a):upd H a o b=H b:=by unfold upd;rw[if_neg h]
theorem iF {H:Hp} {a:Addr} {o u:HO}:upd (upd H a o) a u=upd H a u:=by
 funext b;unfold upd;split<;>rfl
theorem qp {H:Hp} {a b:Addr} {o u:HO} (h:H a=some o) (h':H b=some u) (d:o≠u):a≠b:=by
 intro e;subst e;rw[h] at h';exact d (Option.some.inj h')
theorem bE {H:Hp} {a b:Addr} {o:HO} (h:H a=some o) (h':H b=none):a≠b:=by
 intro e;subst e;rw[h] at h';cases h'
section
variable (P:Program) (w:World)
def aL (H:Hp) (h:Heap) (a:Addr):HO->Prop
 | .lst xs=>xs.length<=sizeLine/\∃(its:List Value) (n:Nat),Vals xs its/\h.get? a=some {cls:= .type "list",data:= .seq its.toArray n}
 | .tup xs=>xs.length<=sizeLine/\∃its:List Value,Vals xs its/\IsTup h a its.toArray
 | .dK kvs=>kvs.length<=sizeLine/\(a==sysModules)=false/\∃vs,KV kvs vs/\h.DictOf (aJ P w) a vs
 | .dT kvs=>kvs.length<=sizeLine/\(a==sysModules)=false/\∃xs:List (List Key×Addr×Value),
   Paired (λ(p:List Key×V) (q:List Key×Addr×Value)=>p.1=q.1/\H q.2.1=some (.tup (p.1.map kV))/\RelV p.2 q.2.2) kvs xs/\
   ∃o es ep,h.get? a=some o/\o.ExactDict/\o.data= .dict es ep/\es.toList=xs.map (entryOfKey (tupleKind (aJ P w)))/\(xs.map (·.1)).Nodup
 | .set S n=>h.SetOf (intKind P w) a S n
 | .ins C dx fs=>H dx=some (.own a)/\fs.length<=1000/\dx≠a/\h.get? a=some (PySem.W.instObj C dx)/\
   ∃mA,h.Ns1 dx mA/\(∀f,dP (fs.lookup f) (mA f))/\PySem.Within mA (fs.map (·.1))
 | .own _=>∃o,h.get? a=some o
 | .xd fs=>∃mA,h.Ns1 a mA/\∀f,dP (fs.lookup f) (mA f)
 | .rng lo hi=>∃t u v,h.get? a=some {cls:= .type "range",data:= .fields #[.int lo t, .int hi u, .int 1 v]}
 | .aD o u=>h.get? a=some o/\aL H h a u
 | .tbl ps=>h.get? a=some {cls:= .none,data:= .fields ps}
 | .met f x=>h.get? a=some (PySem.W.methodObj (.ref f) (.ref x))
 | .ext φ=>φ h/\(∃o,h.get? a=some o)/\∀h1 h2:Heap,φ h1->(∀o,h1.get? a=some o->h2.get? a=some o)->φ h2
def bH (H:Hp) (h:Heap):Prop:=∀a o,H a=some o->aL P w H h a o
end
section
variable {P:Program} {w:World} {H H':Hp} {h h':Heap} {a:Addr} {o:HO}
theorem aL.lt (x:aL P w H h a o):a<h.objs.size:=by
 cases o with
 |lst xs=>let⟨_,_,_,_,e⟩:=x;exact aal e
 |tup xs=>let⟨_,_,_,p⟩:=x;exact p.lt
 |dK kvs=>let⟨_,_,_,_,o,_,_,e,_⟩:=x;exact aal e
 |dT kvs=>let⟨_,_,_,_,o,_,_,e,_⟩:=x;exact aal e
 |set S n=>let⟨o,_,_,_,e,_⟩:=x;exact aal e
 |ins C dx fs=>let⟨_,_,_,e,_⟩:=x;exact aal e
 |own y=>let⟨_,e⟩:=x;exact aal e
 |xd fs=>let⟨_,⟨_,_,_,e,_⟩,_⟩:=x;exact aal e
 |rng lo hi=>let⟨_,_,_,e⟩:=x;exact aal e
 |aD ob u=>let⟨e,_⟩:=x;exact aal e
 |tbl ps=>exact aal (show h.get? a=some _ from x)
 |met f y=>exact aal (show h.get? a=some _ from x)
 |ext φ=>let⟨_,⟨_,e⟩,_⟩:=x;exact aal e
theorem Paired.wj {α β:Type} {F G:α->β->Prop}:∀{l₁:List α} {l₂:List β},Paired F l₁ l₂->(∀a b,F a b->G a b)->Paired G l₁ l₂
 |_,_, .nil,_=> .nil
 |_,_, .cons r t,f=> .cons (f _ _ r) (Paired.wj t f)
theorem aL.jh (x:aL P w H h a o) (k:∀b u,(b=a∨H b=some (.own a))->h.get? b=some u->h'.get? b=some u)
  (ho:∀b,H b=some (.own a)->H' b=some (.own a)) (ht:∀b xs,H b=some (.tup xs)->H' b=some (.tup xs)):aL P w H' h' a o:=by
 induction o with
 |lst xs=>let⟨z,its,n,r,e⟩:=x;exact⟨z,its,n,r,k _ _ (.inl rfl) e⟩
 |tup xs=>let⟨z,its,r,ob,e,c⟩:=x;exact⟨z,its,r,ob,k _ _ (.inl rfl) e,c⟩
 |dK kvs=>let⟨z,y,vs,r,ob,es,ep,e,c⟩:=x;exact⟨z,y,vs,r,ob,es,ep,k _ _ (.inl rfl) e,c⟩
 |dT kvs=>
  let⟨z,y,xs,r,ob,es,ep,e,c⟩:=x;exact⟨z,y,xs,Paired.wj r λp q z=>⟨z.1,ht _ _ z.2.1,z.2.2⟩,ob,es,ep,k _ _ (.inl rfl) e,c⟩
 |set S n=>let⟨ob,es,ep,t,e,c⟩:=x;exact⟨ob,es,ep,t,k _ _ (.inl rfl) e,c⟩
 |ins C dx fs=>
  let⟨d,z,ne,e,mA,⟨od,es,ep,e2,c⟩,r⟩:=x;exact⟨ho _ d,z,ne,k _ _ (.inl rfl) e,mA,⟨od,es,ep,k _ _ (.inr d) e2,c⟩,r⟩
 |own y=>let⟨ob,e⟩:=x;exact⟨ob,k _ _ (.inl rfl) e⟩
 |xd fs=>let⟨mA,⟨od,es,ep,e,c⟩,r⟩:=x;exact⟨mA,⟨od,es,ep,k _ _ (.inl rfl) e,c⟩,r⟩
 |rng lo hi=>let⟨t,u,v,e⟩:=x;exact⟨t,u,v,k _ _ (.inl rfl) e⟩
 |aD ob u ih=>let⟨e,q⟩:=x;exact⟨k _ _ (.inl rfl) e,ih q⟩
 |tbl ps=>
  have e:h.get? a=some {cls:= .none,data:= .fields ps}:=x;show h'.get? a=some {cls:= .none,data:= .fields ps};exact k a _ (.inl rfl) e
 |met f y=>
  have e:h.get? a=some (PySem.W.methodObj (.ref f) (.ref y)):=x;show h'.get? a=some (PySem.W.methodObj (.ref f) (.ref y));exact k a _ (.inl rfl) e
 |ext φ=>let⟨p,⟨o,e⟩,st⟩:=x;exact⟨st _ _ p λo q=>k _ _ (.inl rfl) q,⟨o,k _ _ (.inl rfl) e⟩,st⟩
theorem bH.lt (x:bH P w H h) (e:H a=some o):a<h.objs.size:=(x a o e).lt
theorem bH.fresh (x:bH P w H h) (e:h.objs.size<=a):H a=none:=by
 cases q:H a with
 |none=>rfl
 |some u=>exact absurd (aan (x.lt q) e) (aa5 _)
theorem bH.kept (x:bH P w H h) (k:∀b u,h.get? b=some u->h'.get? b=some u):bH P w H h':=λa o e=>
 (x a o e).jh (λb u _ q=>k b u q) (λ_ q=>q) λ_ _ q=>q
theorem bH.laid (x:bH P w H h) (k:∀b u,h.get? b=some u->h'.get? b=some u) (hp:h.objs.size<=a) (new:aL P w (upd H a o) h' a o):bH P w (upd H a o) h':=λb u e=>by
 have hn:=x.fresh hp
 by_cases hb:b=a
 ·subst hb;rw[ak] at e;cases e;exact new
 ·rw[aq hb] at e
  exact(x b u e).jh (λc v _ q=>k c v q) (λc q=>by rw[aq (bE q hn)];exact q) λc xs q=>by rw[aq (bE q hn)];exact q
end
def Rd (H:Hp) (a:Addr) (u:HO):Prop:=H a=some u∨∃o,H a=some (.aD o u)
theorem Rd.ok {P:Program} {w:World} {H:Hp} {a:Addr} {u:HO} (r:Rd H a u) (x:bH P w H h):aL P w H h a u:=by
 rcases r with r|⟨o,r⟩
 ·exact x a u r
 ·let⟨_,q⟩:=x a _ r;exact q
def xp:Option HO->Prop
 |some (.lst _)=>True
 |some (.dK _)=>True
 |some (.dT _)=>True
 |some (.set _ _)=>True
 |some (.ins _ _ _)=>True
 |some (.ext _)=>True
 |_=>False
section
variable {P:Program} {w:World} {H:Hp} {h h':Heap} {x e:Addr} {o':HO}
theorem bH.write (ok:bH P w H h) (mu:xp (H x)) (he:e=x∨H e=some (.own x)) (k:∀b u,b≠e->h.get? b=some u->h'.get? b=some u) (heo:∃u,h'.get? e=some u)
  (new:aL P w (upd H x o') h' x o'):bH P w (upd H x o') h':=λb u q=>by
 have nown:∀c y,H c=some (.own y)->c≠x:=λc y r z=>by subst z;rw[r] at mu;exact mu
 have ntup:∀c xs,H c=some (.tup xs)->c≠x:=λc xs r z=>by subst z;rw[r] at mu;exact mu
 by_cases hb:b=x
 ·subst hb;rw[ak] at q;cases q;exact new
 ·rw[aq hb] at q
  by_cases hbe:b=e
  ·have q':H b=some (.own x):=by
    rcases he with z|z
    ·exact absurd (hbe.trans z) hb
    ·rw[hbe];exact z
   rw[q] at q';cases q';let⟨v,hv⟩:=heo;exact⟨v,by rw[hbe];exact hv⟩
  ·refine(ok b u q).jh (λc v hc r=>k c v ?_ r) (λc r=>by rw[aq (nown c b r)];exact r) λc xs r=>by rw[aq (ntup c xs r)];exact r
   rcases hc with rfl|hc
   ·exact hbe
   ·rintro rfl
    rcases he with z|z
    ·exact nown c b hc z
    ·rw[hc] at z;cases z;exact hb rfl
end
structure Un (fs ex:List Addr) (H H':Hp) (h h':Heap):Prop where
 keep:∀b o,h.get? b=some o->H b=none->b∉fs->b∉ex->h'.get? b=some o
 slot:∀b o,h.get? b=some o->H b=none->b∈fs->b∉ex->∃sl,h'.get? b=some {o with slots:=sl}
 free:∀b o,h.get? b=some o->H b=none->b∉ex->H' b=none
 there:∀b o,h.get? b=some o->b∉ex->∃o',h'.get? b=some o'
 tups:∀b xs,H b=some (.tup xs)->H' b=some (.tup xs)
 aS:∀b o u,H b=some (.aD o u)->H' b=some (.aD o u)
 tbls:∀b ps,H b=some (.tbl ps)->∃more,H' b=some (.tbl (ps++more))
section
variable {fs fs' ex ex':List Addr} {H H1 H2:Hp} {h h1 h2 h':Heap} {a x e:Addr} {o:HO}
theorem Un.any (u:Un fs ex H H1 h h1) {b:Addr} (q:h.get? b=some ob) (n:H b=none) (hx:b∉ex):∃sl,h1.get? b=some {ob with slots:=sl}:=by
 by_cases hb:b∈fs
 ·exact u.slot b ob q n hb hx
 ·exact⟨ob.slots,u.keep b ob q n hb hx⟩
theorem Un.kept (k:∀b u,h.get? b=some u->h'.get? b=some u):Un fs ex H H h h':=
 ⟨λb ob q _ _ _=>k b ob q,λb ob q _ _ _=>⟨ob.slots,k b ob q⟩,λ_ _ _ n _=>n,λb ob q _=>⟨ob,k b ob q⟩,λ_ _ q=>q,λ_ _ _ q=>q,λ_ ps q=>⟨#[],by rw[q];simp⟩⟩
theorem Un.refl:Un fs ex H H h h:=Un.kept λ_ _ q=>q
theorem Un.laid (k:∀b u,h.get? b=some u->h'.get? b=some u) (hp:h.objs.size<=a) (hn:H a=none):Un fs ex H (upd H a o) h h' where
 keep:=λb u q _ _ _=>k b u q
 slot:=λb u q _ _ _=>⟨u.slots,k b u q⟩
 free:=λb u q n _=>by rw[aq (aau (aan (aal q) hp))];exact n
 there:=λb u q _=>⟨u,k b u q⟩
 tups:=λb xs q=>by rw[aq (bE q hn)];exact q
 aS:=λb u xs q=>by rw[aq (bE q hn)];exact q
 tbls:=λb ps q=>⟨#[],by rw[aq (bE q hn),q];simp⟩
theorem Un.write (mu:xp (H x)) (he:e=x∨H e=some (.own x)) (k:∀b u,b≠e->h.get? b=some u->h'.get? b=some u) (heo:∃u,h'.get? e=some u):Un fs ex H (upd H x o) h h':=by
 have hx:∀b,H b=none->b≠x:=λb n z=>by subst z;rw[n] at mu;exact mu
 have hb:∀b,H b=none->b≠e:=λb n z=>by
  subst z
  rcases he with r|r
  ·exact hx b n r
  ·rw[n] at r;cases r
 have hm:∀b u,H b=some u->¬xp (some u)->b≠x:=λb u q nm z=>by subst z;rw[q] at mu;exact nm mu
 refine⟨λb u q n _ _=>k b u (hb b n) q,λb u q n _ _=>⟨u.slots,k b u (hb b n) q⟩,λb u q n _=>by rw[aq (hx b n)];exact n,λb u q _=> ?_,
  λb xs q=>by rw[aq (hm b _ q λz=>z)];exact q,λb u xs q=>by rw[aq (hm b _ q λz=>z)];exact q,λb ps q=>⟨#[],by rw[aq (hm b _ q λz=>z),q];simp⟩⟩
 by_cases hbe:b=e
 ·subst hbe;exact heo
 ·exact⟨u,k b u hbe q⟩
theorem Un.mono (u:Un fs ex H H1 h h1) (hs:∀b∈fs,b∈fs') (hx:∀b∈ex,b∈ex'):Un fs' ex' H H1 h h1:=
 ⟨λb ob q n hb he=>u.keep b ob q n (λz=>hb (hs b z)) λz=>he (hx b z),λ_ _ q n _ he=>u.any q n λz=>he (hx _ z),λb ob q n he=>u.free b ob q n λz=>he (hx b z),λb ob q he=>u.there b ob q λz=>he (hx b z),u.tups,u.aS,u.tbls⟩
end
noncomputable def BR (h:Heap) (H:Hp):List Addr:=(List.range h.objs.size).filter λa=>(H a).isSome
def iS (h:Heap) (H:Hp):Heap:=PySem.W.hideAll h (BR h H)
theorem yG (h:Heap) (H:Hp):(iS h H).objs.size=h.objs.size:=PySem.W.hideAll_size _ _
theorem AH {h:Heap} {H:Hp} {b:Addr} (e:h.get? b=some o) (n:H b=none):(iS h H).get? b=some o:=
 PySem.W.hideAll_get _ e λhm=>by
  have q:(H b).isSome=true:=(abp.mp hm).2;rw[n] at q;simp at q
theorem D4 {h:Heap} {H:Hp} {b:Addr} (e:(iS h H).get? b=some o):h.get? b=some o/\H b=none:=by
 have e':h.get? b=some o:=PySem.W.of_hideAll (BR h H) e;refine⟨e', ?_⟩
 cases q:H b with
 |none=>rfl
 |some x=>
  have hm:b∈BR h H:=abp.mpr ⟨abP.mpr (aal e'),by simp[q]⟩;have z:(iS h H).get? b=none:=PySem.W.hideAll_none (BR h H) hm;rw[z] at e;cases e
noncomputable def Ei (g h:Heap) (L:Addr):List (Addr×Obj):=(List.range h.objs.size).filterMap λa=>if a=L∨(g.get? a).isSome=true then none else (h.get? a).map λo=>(a,o)
def rest (g h:Heap) (L d:Addr):List (Addr×Obj):=(Ei g h L).filter λp=>decide (p.1≠d)
structure Mod (K:PySem.W.Frag) (mg:Str->Option Value) (base:Heap):Prop where
 kin:K.In base
 glob:base.Ns mainGlobals mg
 blt:∃mb,base.Ns builtinsNs mb/\∀x:Str,x≠"__name__"->mb x=bootBuiltins x
 nolimit:base.NoLimit
structure Cx where
 prog:Program
 w:World
 K:PySem.W.Frag
 mg:Str->Option Value
 base:Heap
 A:Around
 N:List Str
 s₀:Shared
 H₀:Hp
 env:Env
 outer:List Env
 stack:List Env
 ex:List Addr
 fn:Str->Bool
 calm:Bool
 pn:List (Addr×Obj)
 xe:Value->Shared->Prop
noncomputable def cM (l:List Env):List Addr:=l.filterMap (·.frame)
abbrev Cx.fs (X:Cx):List Addr:=cM X.outer
def yU (sc:Scope) (x:Str):Prop:=sc.names.lookup x=some .local∨sc.names.lookup x=some .cell∨sc.names.lookup x=some .free
def Loc (sc:Scope) (x:Str):Prop:=sc.names.lookup x=some .local∨sc.names.lookup x=some .cell
def Look (env:Env) (h:Heap) (m:Str->Option Value) (x:Str) (u:Value):Prop:=
 (env.kindOf x=some .local/\m x=some u)∨((env.kindOf x=some .cell∨env.kindOf x=some .free)/\∃c,env.cells.lookup x=some c/\h.IsCell c (some u))
structure Cx.Ok (X:Cx):Prop where
 mod:Mod X.K X.mg X.base
 kind:X.env.scope.kind= .function
 glob:X.env.globals=mainGlobals
 blt:X.env.builtins=builtinsNs
 above:X.s₀.heap.objs.size<=X.env.locals
 inj:∀x y c,X.env.cells.lookup x=some c->X.env.cells.lookup y=some c->x=y
 has:∀x,(X.env.kindOf x=some .cell∨X.env.kindOf x=some .free)->∃c,X.env.cells.lookup x=some c
 cab:∀x c,X.fn x=true->X.env.cells.lookup x=some c->X.s₀.heap.objs.size<=c
 hd:X.calm=true->X.A.handled=none
 frames:X.A.frames=some X.stack
 stk:X.stack=X.outer∨(X.stack=X.env::X.outer/\X.env.frame=some X.env.locals)
 exf:∀b∈X.ex,b≠X.env.locals/\∀x c,X.env.cells.lookup x=some c->c≠b
 bs:∀b o,X.base.get? b=some o->X.s₀.heap.get? b=some o/\X.H₀ b=none
 bsz:X.base.objs.size<=X.s₀.heap.objs.size
 noex:∀b o,X.base.get? b=some o->b∉X.ex
 exfs:∀b∈X.ex,b∉X.fs
 cW:X.s₀.heap.FunFrames X.base X.outer
 frf:∀b∈X.fs,X.H₀ b=none
structure Inv (X:Cx) (pins:List (Addr×Obj)) (σ:List (Option V)) (H:Hp) (s:Shared):Prop where
 ok:X.Ok
 os:s.os=X.s₀.os
 bare:AllBare s.gens
 base:Un X.fs X.ex X.H₀ H X.s₀.heap s.heap
 loc:∃m,s.heap.Ns X.env.locals m/\∀(i:Nat) (x:Str) (v:V),X.N[i]?=some x->σ[i]?=some (some v)->yU X.env.scope x->∃u,RelV v u/\Look X.env s.heap m x u
 cell:∀x c,X.env.cells.lookup x=some c->∃v,s.heap.IsCell c v
 free:H X.env.locals=none
 freeC:∀x c,X.env.cells.lookup x=some c->H c=none
 pin:∀p∈X.pn++pins,s.heap.get? p.1=some p.2/\H p.1=none/\p.1≠X.env.locals/\p.1∉X.fs/\∀v,p.2.data≠ .cell v
 ah:bH X.prog X.w H s.heap
 len:σ.length=X.N.length
section
variable {X:Cx} {pins:List (Addr×Obj)} {σ:List (Option V)} {H H':Hp} {s:Shared} {h':Heap}
theorem Cx.Ok.LW (ok:X.Ok) {b:Addr} (e:X.base.get? b=some o):b∉X.fs:=λhb=>by
 have:=(ok.cW.mem hb).1;rw[e] at this;cases this
theorem Inv.bs (I:Inv X pins σ H s):∀b o,X.base.get? b=some o->s.heap.get? b=some o/\H b=none:=λb o e=>
 ⟨I.base.keep b o (I.ok.bs b o e).1 (I.ok.bs b o e).2 (I.ok.LW e) (I.ok.noex b o e),I.base.free b o (I.ok.bs b o e).1 (I.ok.bs b o e).2 (I.ok.noex b o e)⟩
theorem Inv.bk (I:Inv X pins σ H s):∀b o,X.base.get? b=some o->s.heap.get? b=some o:=λb o e=>(I.bs b o e).1
theorem Inv.mod (I:Inv X pins σ H s):Mod X.K X.mg X.base:=I.ok.mod
theorem Inv.cB (I:Inv X pins σ H s):X.K.In s.heap:=I.ok.mod.kin.keeps I.bk
theorem Inv.lt (I:Inv X pins σ H s):X.env.locals<s.heap.objs.size:=let ⟨_,hn,_⟩:=I.loc;hn.lt
theorem Inv.sz (I:Inv X pins σ H s):X.s₀.heap.objs.size<=s.heap.objs.size:=aaL I.ok.above (abf I.lt)
theorem Inv.Fp (I:Inv X pins σ H s) {a:Addr} (h:s.heap.objs.size<=a):a∉X.fs:=λhb=>by
 let⟨_,o,ho,_⟩:=I.ok.cW.mem hb;exact absurd (aan (aal ho) (aaL I.sz h)) (aa5 _)
theorem Inv.qF (I:Inv X pins σ H s):∀x c,X.env.cells.lookup x=some c->c≠X.env.locals:=λx c e z=>by
 let⟨v,o,ho,hd⟩:=I.cell x c e;let⟨m,⟨o',es,ep,ho',hd',_⟩,_⟩:=I.loc;rw[z,ho'] at ho;cases ho;rw[hd'] at hd;cases hd
theorem Inv.cW (I:Inv X pins σ H s):s.heap.FunFrames X.base X.outer:=by
 have all:∀(l:List Env),(∀b∈cM l,b∈X.fs)->X.s₀.heap.FunFrames X.base l->s.heap.FunFrames X.base l:=by
  intro l
  induction l with
  |nil=>intro _ _;trivial
  |cons env r ih=>
   intro hs hl;let⟨hk,⟨L,o,hf,hn,ho,hd⟩,hr⟩:=hl;have hL:L∈X.fs:=hs L (by unfold cM;rw[abT,hf];exact aaC);let⟨sl,e⟩:=I.base.slot L o ho (I.ok.frf L hL) hL λz=>I.ok.exfs L z hL;exact⟨hk,⟨L,_,hf,hn,e,hd⟩,ih (λb hb=>hs b (by unfold cM;rw[abT,hf];exact aat _ hb)) hr⟩
 exact all X.outer (λ_ hb=>hb) I.ok.cW
theorem Inv.stack (I:Inv X pins σ H s):s.heap.FunFrames X.base X.stack:=by
 rcases I.ok.stk with e|⟨e,hf⟩
 ·rw[e];exact I.cW
 ·rw[e];let⟨m,hn,_⟩:=I.loc;refine .cons (by rw[I.ok.kind];decide) hf hn ?_ I.cW;exact abb (aaL I.ok.bsz I.ok.above)
theorem Inv.qT (I:Inv X pins σ H s):∀b∈cM X.stack,b∈X.env.locals::X.fs:=λb hb=>by
 rcases I.ok.stk with e|⟨e,hf⟩
 ·rw[e] at hb;exact aat _ hb
 ·rw[e] at hb;unfold cM at hb;rw[abT,hf] at hb;exact hb
theorem Inv.ke (I:Inv X pins σ H s):∀b∈cM X.stack,H b=none:=λb hb=>by
 rcases aap.mp (I.qT b hb) with e|hb
 ·rw[e];exact I.free
 ·let⟨_,o,ho,_⟩:=I.ok.cW.mem hb;exact I.base.free b o ho (I.ok.frf b hb) λz=>I.ok.exfs b z hb
theorem Inv.step {t':Nat} {ch:List Addr} (I:Inv X pins σ H s)
  (hch:∀b∈ch,(b∈X.ex∨X.s₀.heap.objs.size<=b)/\b≠X.env.locals/\(∀x c,X.env.cells.lookup x=some c->c≠b)/\∀p∈X.pn++pins,p.1≠b)
  (keep:∀b o,b≠X.env.locals->b∉X.fs->b∉ch->s.heap.get? b=some o->H b=none->h'.get? b=some o)
  (slot:∀b o,b≠X.env.locals->b∈X.fs->b∉ch->s.heap.get? b=some o->H b=none->∃sl,h'.get? b=some {o with slots:=sl}) (free:∀b o,b∉ch->s.heap.get? b=some o->H b=none->H' b=none)
  (there:∀b o,b∉ch->s.heap.get? b=some o->∃o',h'.get? b=some o')
  (tups:∀b xs,H b=some (.tup xs)->H' b=some (.tup xs)) (aS:∀b o u,H b=some (.aD o u)->H' b=some (.aD o u)) (tbls:∀b ps,H b=some (.tbl ps)->∃more,H' b=some (.tbl (ps++more)))
  (ns:∀m,s.heap.Ns X.env.locals m->h'.Ns X.env.locals m) (ah:bH X.prog X.w H' h') (hg:AllBare g'):
  Inv X pins σ H' {s with heap:=h',gens:=g',drawn:=d',toks:=t'}:=by
 have neL:∀b o,X.s₀.heap.get? b=some o->b≠X.env.locals:=λb o e=>aau (aan (aal e) I.ok.above)
 have neC:∀b o,X.s₀.heap.get? b=some o->b∉X.ex->b∉ch:=λb o e hx hb=>by
  rcases (hch b hb).1 with z|z
  ·exact hx z
  ·exact absurd (aan (aal e) z) (aa5 _)
 have cellK:∀x c,X.env.cells.lookup x=some c->∀v,s.heap.IsCell c v->h'.IsCell c v:=λx c e v z904=>by
  let⟨o,ho,hd⟩:=z904;have nch:c∉ch:=λz=>(hch c z).2.2.1 x c e rfl
  by_cases hc:c∈X.fs
  ·let⟨sl,q⟩:=slot c o (I.qF x c e) hc nch ho (I.freeC x c e);exact⟨_,q,hd⟩
  ·exact⟨o,keep c o (I.qF x c e) hc nch ho (I.freeC x c e),hd⟩
 refine⟨I.ok,I.os,hg,⟨λb o e n hb hx=> ?_,λb o e n hb hx=> ?_,λb o e n hx=> ?_,λb o e hx=> ?_,λb xs e=>tups b xs (I.base.tups b xs e),λb o xs e=>aS b o xs (I.base.aS b o xs e),λb ps e=> ?_⟩, ?_,λx c e=> ?_, ?_,λx c e=> ?_,λp hp=> ?_,ah,I.len⟩
 ·exact keep b o (neL b o e) hb (neC b o e hx) (I.base.keep b o e n hb hx) (I.base.free b o e n hx)
 ·let⟨sl,e1⟩:=I.base.slot b o e n hb hx;let⟨sl',e2⟩:=slot b _ (neL b o e) hb (neC b o e hx) e1 (I.base.free b o e n hx);exact⟨sl',e2⟩
 ·let⟨o',e1⟩:=I.base.there b o e hx;exact free b o' (neC b o e hx) e1 (I.base.free b o e n hx)
 ·let⟨o',e1⟩:=I.base.there b o e hx;exact there b o' (neC b o e hx) e1
 ·let⟨m1,e1⟩:=I.base.tbls b ps e;let⟨m2,e2⟩:=tbls b _ e1;exact⟨m1++m2,by rw[e2,Array.append_assoc]⟩
 ·let⟨m,hn,hl⟩:=I.loc;refine⟨m,ns m hn,λi x v e1 e2 e3=> ?_⟩;let⟨u,r,l⟩:=hl i x v e1 e2 e3;refine⟨u,r, ?_⟩
  rcases l with l|⟨k,c,e,z⟩
  ·exact .inl l
  ·exact .inr ⟨k,c,e,cellK x c e _ z⟩
 ·let⟨v,z⟩:=I.cell x c e;exact⟨v,cellK x c e v z⟩
 ·let⟨m,⟨o,_,_,ho,_⟩,_⟩:=I.loc;exact free _ o (λz=>(hch _ z).2.1 rfl) ho I.free
 ·let⟨v,o,ho,hd⟩:=I.cell x c e;exact free c o (λz=>(hch c z).2.2.1 x c e rfl) ho (I.freeC x c e)
 ·let⟨e,n,ne,nf,d⟩:=I.pin p hp;have nch:p.1∉ch:=λz=>(hch p.1 z).2.2.2 p hp rfl;exact⟨keep p.1 p.2 ne nf nch e n,free p.1 p.2 nch e n,ne,nf,d⟩
theorem Inv.un {t':Nat} (I:Inv X pins σ H s) (u:Un X.fs [] H H' s.heap h') (ah:bH X.prog X.w H' h'):Inv X pins σ H' {s with heap:=h',toks:=t'}:=by
 let⟨m,⟨o,es,ep,ho,r⟩,_⟩:=id I.loc;let⟨sl,hL⟩:=u.any ho I.free (by simp)
 exact I.step (g':=s.gens) (d':=s.drawn) (ch:=[]) (λ_ z=>nomatch z) (λb o _ hb _ e n=>u.keep b o e n hb (by simp)) (λb o _ hb _ e n=>u.slot b o e n hb (by simp)) (λb o _ e n=>u.free b o e n (by simp)) (λb o _ e=>u.there b o e (by simp)) u.tups u.aS u.tbls (λm' hm=>by
  let⟨o',es',ep',ho',r'⟩:=hm;rw[ho] at ho';cases ho'
  exact⟨_,es',ep',hL,r'⟩) ah I.bare
theorem Inv.call {t':Nat} {ch:List Addr} (I:Inv X pins σ H s) (u:Un (cM X.stack) ch H H' s.heap h') (ah:bH X.prog X.w H' h') (hg:AllBare g')
  (hch:∀b∈ch,(b∈X.ex∨X.s₀.heap.objs.size<=b)/\b≠X.env.locals/\(∀x c,X.env.cells.lookup x=some c->c≠b)/\∀p∈X.pn++pins,p.1≠b):
  Inv X pins σ H' {s with heap:=h',gens:=g',drawn:=d',toks:=t'}:=by
 let⟨m,⟨o,es,ep,ho,r⟩,_⟩:=id I.loc;let⟨sl,hL⟩:=u.any ho I.free λz=>(hch _ z).2.1 rfl
 exact I.step (ch:=ch) hch (λb o hL hb hc e n=>u.keep b o e n (λz=>(aap.mp (I.qT b z)).elim hL hb) hc) (λb o _ _ hc e n=>u.any e n hc) (λb o hc e n=>u.free b o e n hc) (λb o hc e=>u.there b o e hc) u.tups u.aS u.tbls (λm' hm=>by
  let⟨o',es',ep',ho',r'⟩:=hm;rw[ho] at ho';cases ho'
  exact⟨_,es',ep',hL,r'⟩) ah hg
theorem Inv.turned {t':Nat} (I:Inv X pins σ H s) (k:∀b o,b≠it->s.heap.get? b=some o->h'.get? b=some o) (hn:H it=none) (hL:it≠X.env.locals)
  (h1:it∈X.ex∨X.s₀.heap.objs.size<=it) (h2:∀x c,X.env.cells.lookup x=some c->c≠it) (h3:∀p∈X.pn++pins,p.1≠it):Inv X pins σ H {s with heap:=h',toks:=t'}:=by
 have nit:∀b u,H b=some u->b≠it:=λb u e z=>by rw[z,hn] at e;cases e
 refine I.step (g':=s.gens) (d':=s.drawn) (ch:=[it]) (λb hb=> ?_) (λb o _ _ hc e _=>k b o (λz=>hc (by simp[z])) e) (λb o _ _ hc e _=>⟨o.slots,k b o (λz=>hc (by simp[z])) e⟩) (λ_ _ _ _ n=>n)
  (λb o hc e=>⟨o,k b o (λz=>hc (by simp[z])) e⟩) (λ_ _ e=>e) (λ_ _ _ e=>e) (λb ps e=>⟨#[],by rw[e];simp⟩) (λm hm=> ?_) (λb u e=> ?_) I.bare
 ·have e:b=it:=by simpa using hb
  subst e;exact⟨h1,hL,h2,h3⟩
 ·let⟨o,es,ep,ho,r⟩:=hm;exact⟨o,es,ep,k _ o (Ne.symm hL) ho,r⟩
 ·refine(I.ah b u e).jh (λc v hc q=>k c v ?_ q) (λ_ q=>q) λ_ _ q=>q
  rcases hc with z|z
  ·rw[z];exact nit b u e
  ·exact nit c _ z
theorem Inv.tok (I:Inv X pins σ H s) (t:Nat):Inv X pins σ H {s with toks:=t}:=I.un (h':=s.heap) (t':=t) Un.refl I.ah
theorem Inv.kept {t':Nat} (I:Inv X pins σ H s) (k:∀b u,s.heap.get? b=some u->h'.get? b=some u):Inv X pins σ H {s with heap:=h',toks:=t'}:=I.un (Un.kept k) (I.ah.kept k)
theorem Inv.laid {a:Addr} {o:HO} {t':Nat} (I:Inv X pins σ H s) (k:∀b u,s.heap.get? b=some u->h'.get? b=some u) (hp:s.heap.objs.size<=a) (new:aL X.prog X.w (upd H a o) h' a o):
  Inv X pins σ (upd H a o) {s with heap:=h',toks:=t'}:=I.un (Un.laid k hp (I.ah.fresh hp)) (I.ah.laid k hp new)
theorem Inv.write {x e:Addr} {o:HO} {t':Nat} (I:Inv X pins σ H s) (mu:xp (H x)) (he:e=x∨H e=some (.own x)) (k:∀b u,b≠e->s.heap.get? b=some u->h'.get? b=some u) (heo:∃u,h'.get? e=some u)
  (new:aL X.prog X.w (upd H x o) h' x o):Inv X pins σ (upd H x o) {s with heap:=h',toks:=t'}:=I.un (Un.write mu he k heo) (I.ah.write mu he k heo new)
theorem Inv.cI (I:Inv X pins σ H s) (h:∀p∈pins',s.heap.get? p.1=some p.2/\H p.1=none/\p.1≠X.env.locals/\p.1∉X.fs/\∀v,p.2.data≠ .cell v):Inv X pins' σ H s:=
 ⟨I.ok,I.os,I.bare,I.base,I.loc,I.cell,I.free,I.freeC,λp hp=>(aaz.mp hp).elim (λz=>I.pin p (aaY _ z)) (h p),I.ah,I.len⟩
theorem sR {N:List Str} (hN:N.Nodup) {i j:Nat} {x:Str} (a:N[i]?=some x) (b:N[j]?=some x):i=j:=by
 let⟨h1,e1⟩:=aac.mp a;let⟨h2,e2⟩:=aac.mp b;exact(List.getElem_inj hN).mp (e1.trans e2.symm)
theorem pU {M:Model} {A:Around} {E:Value->Shared->Prop} {i:Nat} {x:Str} {v:V} {u:Value} {Q:Unit->Shared->Prop} (I:Inv X pins σ H s) (hN:X.N.Nodup) (hi:X.N[i]?=some x) (hx:Loc X.env.scope x) (r:RelV v u)
  (h:∀s',Inv X pins (σ.set i (some v)) H s'->(∃a,Heap.SameBut a s.heap s'.heap/\(a=X.env.locals∨X.env.cells.lookup x=some a))->Q () s') (hf:X.fn x=true∨X.env.scope.names.lookup x=some .local:=by first|exact .inl rfl|exact .inr rfl|assumption):wpAny M A (storeName X.env x u) Q E s:=by
 let⟨m,hn,hl⟩:=id I.loc
 have hcls:(X.env.scope.kind== .class||(X.env.scope.kind== .module&&X.env.locals !=X.env.globals))=false:=by rw[I.ok.kind];rfl
 have hiσ:i<σ.length:=by rw[I.len];exact(aac.mp hi).1
 have qF:=I.qF
 have tracked:∀{a:Addr} {h':Heap},(∃o,s.heap.get? a=some o/\H a=none)->Heap.SameBut a s.heap h'->bH X.prog X.w H h':=λ{a h'} ha hs b ob e=>by
  let⟨_,_,hfree⟩:=ha;refine(I.ah b ob e).jh (λc w' hc q=>(hs.2 c ?_).trans q) (λ_ q=>q) λ_ _ q=>q
  rintro rfl
  rcases hc with rfl|hc
  ·rw[hfree] at e;cases e
  ·rw[hfree] at hc;cases hc
 rcases hx with hk|hk
 ·refine wpAny_storeName_local hk hn (λh' hn' hs=> ?_) hcls;let⟨oL,_,_,hoL,_⟩:=id hn;refine h _ ⟨I.ok,I.os,I.bare,⟨λb o e n hb hx=> ?_,λb o e n hb hx=> ?_,I.base.free,λb o e hx=> ?_,I.base.tups,I.base.aS,I.base.tbls⟩,⟨_,hn',λj y v' e1 e2 e3=> ?_⟩,λy c e=> ?_,I.free,I.freeC,λp hp=> ?_,tracked ⟨oL,hoL,I.free⟩ hs,by simpa using I.len⟩ ⟨_,hs, .inl rfl⟩
  ·exact(hs.2 b (aau (aan (aal e) I.ok.above))).trans (I.base.keep b o e n hb hx)
  ·let⟨sl,e1⟩:=I.base.slot b o e n hb hx;exact⟨sl,(hs.2 b (aau (aan (aal e) I.ok.above))).trans e1⟩
  ·let⟨o',e1⟩:=I.base.there b o e hx;exact⟨o',(hs.2 b (aau (aan (aal e) I.ok.above))).trans e1⟩
  ·by_cases hj:j=i
   ·subst hj;rw[hi] at e1;cases e1;rw[abC hiσ] at e2;cases e2;exact⟨u,r, .inl ⟨hk,by simp⟩⟩
   ·rw[abq (Ne.symm hj)] at e2;let⟨u',r',q⟩:=hl j y v' e1 e2 e3;refine⟨u',r', ?_⟩
    rcases q with⟨k,e⟩|⟨k,c,e,z⟩
    ·refine .inl ⟨k, ?_⟩;have:y≠x:=λe=>hj (sR hN e1 (e▸hi));simp[this,e]
    ·exact .inr ⟨k,c,e,z.sameBut hs (qF y c e)⟩
  ·let⟨w',z⟩:=I.cell y c e;exact⟨w',z.sameBut hs (qF y c e)⟩
  ·let⟨e,n,ne,nf,d⟩:=I.pin p hp;exact⟨(hs.2 p.1 ne).trans e,n,ne,nf,d⟩
 ·have hfn:X.fn x=true:=by
   rcases hf with z|z
   ·exact z
   ·rw[z] at hk;cases hk
  let⟨c,hc⟩:=I.ok.has x (.inl hk);let⟨w',z⟩:=I.cell x c hc;refine wpAny_storeName_cell I.ok.kind hk hc z (λh' hc' hs=> ?_);let⟨oc,hoc,hocd⟩:=id z;refine h {s with heap:=h'} ⟨I.ok,I.os,I.bare,⟨λb o e n hb hx=> ?_,λb o e n hb hx=> ?_,I.base.free,λb o e hx=> ?_,I.base.tups,I.base.aS,I.base.tbls⟩,⟨m,hn.sameBut hs (Ne.symm (qF x c hc)),λj y v' e1 e2 e3=> ?_⟩,λy c' e=> ?_,I.free,I.freeC,λp hp=> ?_,tracked ⟨oc,hoc,I.freeC x c hc⟩ hs,by simpa using I.len⟩ ⟨c,hs, .inr hc⟩
  ·exact(hs.2 b (aau (aan (aal e) (I.ok.cab x c hfn hc)))).trans (I.base.keep b o e n hb hx)
  ·let⟨sl,e1⟩:=I.base.slot b o e n hb hx;exact⟨sl,(hs.2 b (aau (aan (aal e) (I.ok.cab x c hfn hc)))).trans e1⟩
  ·let⟨o',e1⟩:=I.base.there b o e hx;exact⟨o',(hs.2 b (aau (aan (aal e) (I.ok.cab x c hfn hc)))).trans e1⟩
  ·by_cases hj:j=i
   ·subst hj;rw[hi] at e1;cases e1;rw[abC hiσ] at e2;cases e2;exact⟨u,r, .inr ⟨.inl hk,c,hc,hc'⟩⟩
   ·rw[abq (Ne.symm hj)] at e2;let⟨u',r',q⟩:=hl j y v' e1 e2 e3;refine⟨u',r', ?_⟩
    rcases q with q|⟨k,c',e,z'⟩
    ·exact .inl q
    ·refine .inr ⟨k,c',e,z'.sameBut hs ?_⟩
     rintro rfl
     exact hj (sR hN e1 (I.ok.inj _ _ _ e hc▸hi))
  ·by_cases hcc:c'=c
   ·subst hcc;exact⟨_,hc'⟩
   ·let⟨w2,z2⟩:=I.cell y c' e;exact⟨w2,z2.sameBut hs hcc⟩
  ·let⟨e,n,ne,nf,d⟩:=I.pin p hp;refine⟨(hs.2 p.1 ?_).trans e,n,ne,nf,d⟩;intro q;rw[q,hoc] at e;have q':oc=p.2:=Option.some.inj e;exact d w' (by rw[←q'];exact hocd)
theorem qU {M:Model} {A:Around} {E:Value->Shared->Prop} {i:Nat} {x:Str} {v:V} {u:Value} {Q:Unit->Shared->Prop} (I:Inv X pins σ H s) (hN:X.N.Nodup) (hi:X.N[i]?=some x) (hx:Loc X.env.scope x) (r:RelV v u)
  (h:∀s',Inv X pins (σ.set i (some v)) H s'->Q () s') (hf:X.fn x=true∨X.env.scope.names.lookup x=some .local:=by first|exact .inl rfl|exact .inr rfl|assumption):wpAny M A (storeName X.env x u) Q E s:=
 pU I hN hi hx r (λs' I' _=>h s' I') hf
theorem Inv.wo {s':Shared} {ch:List Addr} (I:Inv X pins σ H s) (ho:s'.os=s.os) (u:Un (cM X.stack) ch H H' s.heap s'.heap) (ah:bH X.prog X.w H' s'.heap) (hg:AllBare s'.gens)
  (hch:∀b∈ch,(b∈X.ex∨X.s₀.heap.objs.size<=b)/\b≠X.env.locals/\(∀x c,X.env.cells.lookup x=some c->c≠b)/\∀p∈X.pn++pins,p.1≠b):Inv X pins σ H' s':=by
 let⟨h',g',d',t',o'⟩:=s';have e:o'=s.os:=ho;subst e;exact I.call (g':=g') (t':=t') (d':=d') u ah hg hch
end
abbrev XK:=Value->Option Addr->Hp->Prop
abbrev St:=List (Option V)
abbrev VK:=V->Hp->Prop
abbrev TE:=St->Hp->VK->Prop
abbrev TT:=St->Hp->(Bool->Hp->Prop)->Prop
abbrev TA:=St->Hp->(List V->Hp->Prop)->Prop
structure Ends where
 nx:St->Hp->Prop
 rt:VK
 bk:St->Hp->Prop:=λ_ _=>False
 ct:St->Hp->Prop:=λ_ _=>False
abbrev TS:=Ends->St->Hp->Prop
def EP (X:Cx) (pins:List (Addr×Obj)) (σ:St) (Q:VK) (u:Value) (s':Shared):Prop:=∃v H',Inv X pins σ H' s'/\RelV v u/\Q v H'
def TP (X:Cx) (pins:List (Addr×Obj)) (σ:St) (Q:Bool->Hp->Prop) (b:Bool) (s':Shared):Prop:=∃H',Inv X pins σ H' s'/\Q b H'
def AP (X:Cx) (pins:List (Addr×Obj)) (σ:St) (Q:List V->Hp->Prop) (us:List Value) (s':Shared):Prop:=∃vs H',Inv X pins σ H' s'/\Vals vs us/\Q vs H'
def SP (X:Cx) (pins:List (Addr×Obj)) (D:Ends) (f:Flow) (s':Shared):Prop:=
 match f with
 | .next=>∃σ' H',Inv X pins σ' H' s'/\D.nx σ' H'
 | .brk=>∃σ' H',Inv X pins σ' H' s'/\D.bk σ' H'
 | .cont=>∃σ' H',Inv X pins σ' H' s'/\D.ct σ' H'
 | .ret u=>∃v σ' H',Inv X pins σ' H' s'/\RelV v u/\D.rt v H'
def PE (X:Cx) (e:Expr) (t:TE):Prop:=
 ∀(pins:List (Addr×Obj)) (s:Shared) (σ:St) (H:Hp) (Q:VK),Inv X pins σ H s->t σ H Q->wpAny (model X.prog X.w) X.A (eval e X.env) (EP X pins σ Q) X.xe s
def PT (X:Cx) (e:Expr) (t:TT):Prop:=
 ∀(pins:List (Addr×Obj)) (s:Shared) (σ:St) (H:Hp) (Q:Bool->Hp->Prop),Inv X pins σ H s->t σ H Q->wpAny (model X.prog X.w) X.A (isTrue e X.env (eval e X.env)) (TP X pins σ Q) X.xe s
def PW (X:Cx) (e:Expr) (t:TT):Prop:=
 ∀(whole:Sem Value) (pins:List (Addr×Obj)) (s:Shared) (σ:St) (H:Hp) (Q:Bool->Hp->Prop),Inv X pins σ H s->t σ H Q->wpAny (model X.prog X.w) X.A (isTrue e X.env whole) (TP X pins σ Q) X.xe s
theorem PW.pt {X:Cx} {e:Expr} {t:TT} (h:PW X e t):PT X e t:=h _
def PA (X:Cx) (es:List Expr) (t:TA):Prop:=
 ∀(pos:Pos) (pins:List (Addr×Obj)) (s:Shared) (σ:St) (H:Hp) (Q:List V->Hp->Prop),Inv X pins σ H s->t σ H Q->wpAny (model X.prog X.w) X.A (spliced (backTo pos (starEach es X.env))) (AP X pins σ Q) X.xe s
def PS (X:Cx) (st:Stmt) (t:TS):Prop:=
 ∀(pins:List (Addr×Obj)) (s:Shared) (σ:St) (H:Hp) (D:Ends),Inv X pins σ H s->t D σ H->wpAny (model X.prog X.w) X.A (exec st X.env) (SP X pins D) X.xe s
def cu (X:Cx) (st:List Stmt) (t:TS):Prop:=
 ∀(pins:List (Addr×Obj)) (s:Shared) (σ:St) (H:Hp) (D:Ends),Inv X pins σ H s->t D σ H->wpAny (model X.prog X.w) X.A (execs st X.env) (SP X pins D) X.xe s
theorem aw {α:Type} {t:Sem α} {Q Q':α->Shared->Prop} {M:Model} {A:Around} {E:Value->Shared->Prop} {s:Shared} (h:wpAny M A t Q E s) (hQ:∀a s,Q a s->Q' a s):wpAny M A t Q' E s:=aaQ h hQ λ_ _ x=>x
section
variable {X:Cx}
def Mu (i:Nat):TE:=λσ H Q=>∃v,σ[i]?=some (some v)/\Q v H
def tC (v:V):TE:=λ_ H Q=>Q v H
theorem GV {i:Nat} {x:Str} (hN:X.N[i]?=some x) (hv:yU X.env.scope x) (hd:(x==("__debug__":Str))=false:=by decide) (hcd:(x==("__classdict__":Str))=false:=by decide):PE X (.Name x pos) (Mu i):=by
 intro pins s σ H Q I h;let⟨v,e,h⟩:=h;let⟨m,hn,hl⟩:=I.loc;let⟨u,r,l⟩:=hl i x v hN e hv;have fin:EP X pins σ Q u s:=⟨v,H,I,r,h⟩
 rcases l with⟨hk,hm⟩|⟨hk,c,hc,hcell⟩
 ·exact wpAny_Name (wpAny_loadName_local I.ok.kind hk hn hm fin) hd
 ·rcases hk with hk|hk
  ·exact wpAny_Name (wpAny_loadName_cell I.ok.kind hk hc hcell fin) hd
  ·exact wpAny_Name (wpAny_loadName_free I.ok.kind hk hc hcell fin hcd) hd
theorem EU {i j pos}:PE X (.Constant (.int i) j pos) (tC (.int i)):=λ_ _ _ H _ I h=>wpAny_Constant_int ⟨.int i,H,I.tok _,⟨_,rfl⟩,h⟩
theorem Io {b j pos}:PE X (.Constant (.bool b) j pos) (tC (.bl b)):=λ_ _ _ H _ I h=>Constant_bool ⟨.bl b,H,I,rfl,h⟩
theorem yQ {j pos}:PE X (.Constant .none j pos) (tC .non):=λ_ _ _ H _ I h=>Constant_none ⟨.non,H,I,rfl,h⟩
theorem Ft {x j pos}:PE X (.Constant (.str x) j pos) (tC (.str x)):=λ_ _ _ H _ I h=>Calls.Constant_str ⟨.str x,H,I.tok _,⟨_,rfl⟩,h⟩
def Gl (X:Cx) (x:Str):Prop:=X.env.kindOf x=some .globalImplicit
theorem gg {E:Value->Shared->Prop} {s:Shared} {σ:St} {H:Hp} {x:Str} {u:Value} {Q:Value->Shared->Prop} (I:Inv X pins σ H s) (hg:Gl X x) (hm:X.mg x=some u) (h:Q u s)
  (hd:(x==("__debug__":Str))=false:=by decide):wpAny (model X.prog X.w) X.A (eval (.Name x pos) X.env) Q E s:=
 Calls.Name_function_global I.ok.kind hg (Calls.loadGlobal_global (by rw[I.ok.glob];exact I.mod.glob.keeps I.bk) hm h) hd
theorem gq {E:Value->Shared->Prop} {s:Shared} {σ:St} {H:Hp} {x:Str} {u:Value} {Q:Value->Shared->Prop} (I:Inv X pins σ H s) (hg:Gl X x) (hm:X.mg x=none) (hv:bootBuiltins x=some u) (h:Q u s)
  (hn:x≠"__name__":=by decide) (hd:(x==("__debug__":Str))=false:=by decide):wpAny (model X.prog X.w) X.A (eval (.Name x pos) X.env) Q E s:=by
 let⟨mb,h1,h2⟩:=I.mod.blt;exact Calls.Name_function_global I.ok.kind hg (Calls.loadGlobal_builtin (by rw[I.ok.glob];exact I.mod.glob.keeps I.bk) hm (by rw[I.ok.blt];exact h1.keeps I.bk) ((h2 x hn).trans hv) h) hd
theorem uc {x:Str} {v:V} {u:Value} (hg:Gl X x) (hm:X.mg x=some u) (r:RelV v u) (hd:(x==("__debug__":Str))=false:=by decide):PE X (.Name x pos) (tC v):=
 λ_ _ _ H _ I h=>gg I hg hm ⟨v,H,I,r,h⟩ hd
theorem Ed {x:Str} {v:V} {u:Value} (hg:Gl X x) (hm:X.mg x=none) (hv:bootBuiltins x=some u) (r:RelV v u) (hn:x≠"__name__":=by decide) (hd:(x==("__debug__":Str))=false:=by decide):PE X (.Name x pos) (tC v):=
 λ_ _ _ H _ I h=>gq I hg hm hv ⟨v,H,I,r,h⟩ hn hd
variable {a b:Expr} {ta tb:TE} {pos:Pos}
variable {tA tB':TT} {rest:List Expr}
def LU (t u:TT):TT:=λσ H Q=>t σ H λc H1=>if c=true then u σ H1 Q else Q false H1
def tOr (t u:TT):TT:=λσ H Q=>t σ H λc H1=>if c=true then Q true H1 else u σ H1 Q
def KZ (t:TT):TT:=λσ H Q=>t σ H λc H1=>Q (!c) H1
theorem Dm (ha:PT X a tA):PW X (.BoolOp .And [a] pos) tA:=by
 intro wh pins s σ H Q I h;refine isTrue_and (aw (ha pins s σ H Q I h) λc s1 e=> ?_)
 cases c with
 |true=>exact isTrue_and_nil e
 |false=>exact e
theorem GK (ha:PT X a tA):PW X (.BoolOp .Or [a] pos) tA:=by
 intro wh pins s σ H Q I h;refine isTrue_or (aw (ha pins s σ H Q I h) λc s1 e=> ?_)
 cases c with
 |false=>exact isTrue_or_nil e
 |true=>exact e
theorem Fw (ha:PT X a tA) (hb:PW X (.BoolOp .And (b::rest) pos) tB'):PW X (.BoolOp .And (a::b::rest) pos) (LU tA tB'):=by
 intro wh pins s σ H Q I h;refine isTrue_and (aw (ha pins s σ H _ I h) λc s1 z902=> ?_);let⟨H1,I1,q1⟩:=z902
 cases c with
 |true=>exact hb wh pins s1 σ H1 Q I1 q1
 |false=>exact⟨H1,I1,q1⟩
theorem IV (ha:PT X a tA) (hb:PW X (.BoolOp .Or (b::rest) pos) tB'):PW X (.BoolOp .Or (a::b::rest) pos) (tOr tA tB'):=by
 intro wh pins s σ H Q I h;refine isTrue_or (aw (ha pins s σ H _ I h) λc s1 z902=> ?_);let⟨H1,I1,q1⟩:=z902
 cases c with
 |true=>exact⟨H1,I1,q1⟩
 |false=>exact hb wh pins s1 σ H1 Q I1 q1
theorem Gd (ha:PT X a tA):PT X (.UnaryOp .Not a pos) (KZ tA):=by
 intro pins s σ H Q I h;exact isTrue_not (ha pins s σ H (λc H1=>Q (!c) H1) I h)
def HU (ta tb:TE):TE:=λσ H Q=>ta σ H λx H1=>∃c,x= .bl c/\if c=true then tb σ H1 Q else Q (.bl false) H1
def KU (ta tb:TE):TE:=λσ H Q=>ta σ H λx H1=>∃c,x= .bl c/\if c=true then Q (.bl true) H1 else tb σ H1 Q
def JD (ta:TE):TE:=λσ H Q=>ta σ H λx H1=>∃c,x= .bl c/\Q (.bl (!c)) H1
theorem Hf {op} {t:TE} (h:PE X a t):PE X (.BoolOp op [a] pos) t:=λpins s σ H Q I hw=>BoolOp_one (h pins s σ H Q I hw)
theorem GN (ha:PE X a ta) (hb:PE X (.BoolOp .And (b::rest) pos) tb):PE X (.BoolOp .And (a::b::rest) pos) (HU ta tb):=by
 intro pins s σ H Q I h;refine BoolOp_and (aw (ha pins s σ H _ I h) λv s1 z902=> ?_);let⟨x,H1,I1,r1,q1⟩:=z902;let⟨c,rfl,q1⟩:=q1;cases r1;refine abx ?_
 cases c with
 |true=>exact hb pins s1 σ H1 Q I1 q1
 |false=>exact⟨.bl false,H1,I1,rfl,q1⟩
theorem Jo (ha:PE X a ta) (hb:PE X (.BoolOp .Or (b::rest) pos) tb):PE X (.BoolOp .Or (a::b::rest) pos) (KU ta tb):=by
 intro pins s σ H Q I h;refine BoolOp_or (aw (ha pins s σ H _ I h) λv s1 z902=> ?_);let⟨x,H1,I1,r1,q1⟩:=z902;let⟨c,rfl,q1⟩:=q1;cases r1;refine abx ?_
 cases c with
 |false=>exact hb pins s1 σ H1 Q I1 q1
 |true=>exact⟨.bl true,H1,I1,rfl,q1⟩
theorem Hh (ha:PE X a ta):PE X (.UnaryOp .Not a pos) (JD ta):=by
 intro pins s σ H Q I h;refine UnaryOp_ (aw (ha pins s σ H _ I h) λv s1 z902=> ?_);let⟨x,H1,I1,r1,q1⟩:=z902;let⟨c,rfl,q1⟩:=q1;cases r1;exact not_of (abx ⟨.bl (!c),H1,I1,rfl,q1⟩)
def tIf (t:TT) (ta tb:TE):TE:=λσ H Q=>t σ H λc H1=>if c=true then ta σ H1 Q else tb σ H1 Q
theorem zV {c:Expr} (hc:PT X c tA) (ha:PE X a ta) (hb:PE X b tb):PE X (.IfExp c a b pos) (tIf tA ta tb):=by
 intro pins s σ H Q I h;refine wpAny_IfExp (aw (hc pins s σ H _ I h) λd s1 z902=> ?_);let⟨H1,I1,q1⟩:=z902
 cases d with
 |true=>exact ha pins s1 σ H1 Q I1 q1
 |false=>exact hb pins s1 σ H1 Q I1 q1
end
def bK (K:PySem.W.Frag) (H:Hp) (a:Addr) (xs:List V):Prop:=
 Rd H a (.lst xs)∨
  ∃(o:Obj) (its:Array Value) (n:Nat),K.lookup a=some o/\o.cls= .type "list"/\o.dict=none/\o.data= .seq its n/\its.size<=sizeLine/\Vals xs its.toList
def cO (K:PySem.W.Frag) (H:Hp) (a:Addr) (xs:List V):Prop:=
 Rd H a (.tup xs)∨
  ∃(o:Obj) (its:Array Value) (n:Nat),K.lookup a=some o/\o.cls= .type "tuple"/\o.data= .seq its n/\its.size<=sizeLine/\Vals xs its.toList
noncomputable def Kt:Value->Option V
 | .none=>some .non
 | .bool b=>some (.bl b)
 | .int i _=>some (.int i)
 | .str x _=>some (.str x)
 | .bytes b _=>some (.byt b)
 | .float b _=>some (.flt b)
 | .ref a=>some (.ref a)
 | .type n=>some (.ty n)
 |_=>none
theorem RelV.abs {x:V} {u:Value} (r:RelV x u):Kt u=some x:=by
 cases x with
 |non=>cases r;rfl
 |bl _=>cases r;rfl
 |int _=>let⟨t,rfl⟩:=r;rfl
 |str _=>let⟨t,rfl⟩:=r;rfl
 |byt _=>let⟨t,rfl⟩:=r;rfl
 |flt _=>let⟨t,rfl⟩:=r;rfl
 |ref _=>cases r;rfl
 |ty _=>cases r;rfl
theorem RelV.inj {x y:V} {u:Value} (r:RelV x u) (q:RelV y u):x=y:=Option.some.inj (r.abs.symm.trans q.abs)
theorem Vals.inj:∀{xs ys:List V} {us:List Value},Vals xs us->Vals ys us->xs=ys
 |_,_,_, .nil, .nil=>rfl
 |_,_,_, .cons r t, .cons r' t'=>by rw[r.inj r',Vals.inj t t']
section
variable {X:Cx} {pins:List (Addr×Obj)} {σ:St} {H:Hp} {s:Shared} {a:Addr} {xs ys:List V}
theorem Inv.list (I:Inv X pins σ H s) (h:bK X.K H a xs):∃its:List Value,Vals xs its/\PlainL s.heap a its.toArray/\xs.length<=sizeLine:=by
 rcases h with h|⟨o,its,n,hk,hc,hd,hs,hz,r⟩
 ·let⟨z,its,n,r,e⟩:=h.ok I.ah;exact⟨its,r,⟨_,n,e,rfl,rfl,rfl⟩,z⟩
 ·refine⟨its.toList,r,⟨o,n,I.cB a o hk,hc,hd,by simpa using hs⟩, ?_⟩;have e:=r.length;simp only[aaU] at e;lia
theorem Inv.tuple (I:Inv X pins σ H s) (h:cO X.K H a xs):∃its:List Value,Vals xs its/\IsTup s.heap a its.toArray/\xs.length<=sizeLine:=by
 rcases h with h|⟨o,its,n,hk,hc,hs,hz,r⟩
 ·let⟨z,its,r,p⟩:=h.ok I.ah;exact⟨its,r,p,z⟩
 ·refine⟨its.toList,r,⟨o,I.cB a o hk,hc,n,by simpa using hs⟩, ?_⟩;have e:=r.length;simp only[aaU] at e;lia
theorem Inv.qR (I:Inv X pins σ H s) (h:bK X.K H a xs) (h':bK X.K H a ys):xs=ys:=by
 let⟨its,r,⟨o,n,e,_,_,d⟩,_⟩:=I.list h;let⟨its',r',⟨o',n',e',_,_,d'⟩,_⟩:=I.list h';rw[e] at e';cases e';rw[d] at d'
 injection d' with d1 _
 have:its=its':=by simpa using congrArg Array.toList d1
 subst this;exact r.inj r'
theorem Inv.o5 (I:Inv X pins σ H s) (h:cO X.K H a xs) (h':cO X.K H a ys):xs=ys:=by
 let⟨its,r,⟨o,e,_,n,d⟩,_⟩:=I.tuple h;let⟨its',r',⟨o',e',_,n',d'⟩,_⟩:=I.tuple h';rw[e] at e';cases e';rw[d] at d'
 injection d' with d1 _
 have:its=its':=by simpa using congrArg Array.toList d1
 subst this;exact r.inj r'
end
abbrev Cx.af (X:Cx) (E:Value->Shared->Prop):Cx:={X with xe:=E}
abbrev Cx.gH (X:Cx):Cx:=X.af λ_ _=>False
theorem Cx.Ok.af {X:Cx} (ok:X.Ok) (E:Value->Shared->Prop):(X.af E).Ok:=
 ⟨ok.mod,ok.kind,ok.glob,ok.blt,ok.above,ok.inj,ok.has,ok.cab,ok.hd,ok.frames,ok.stk,ok.exf,ok.bs,ok.bsz,ok.noex,ok.exfs,ok.cW,ok.frf⟩
theorem Cx.Ok.aY {X:Cx} {E:Value->Shared->Prop} (ok:(X.af E).Ok):X.Ok:=
 ⟨ok.mod,ok.kind,ok.glob,ok.blt,ok.above,ok.inj,ok.has,ok.cab,ok.hd,ok.frames,ok.stk,ok.exf,ok.bs,ok.bsz,ok.noex,ok.exfs,ok.cW,ok.frf⟩
section
variable {X:Cx} {pins:List (Addr×Obj)} {σ:St} {H:Hp} {s:Shared} {E:Value->Shared->Prop}
theorem Inv.af (I:Inv X pins σ H s) (E:Value->Shared->Prop):Inv (X.af E) pins σ H s:=⟨I.ok.af E,I.os,I.bare,I.base,I.loc,I.cell,I.free,I.freeC,I.pin,I.ah,I.len⟩
theorem Inv.aY (I:Inv (X.af E) pins σ H s):Inv X pins σ H s:=⟨I.ok.aY,I.os,I.bare,I.base,I.loc,I.cell,I.free,I.freeC,I.pin,I.ah,I.len⟩
theorem SP.aY {D:Ends} {f:Flow} (h:SP (X.af E) pins D f s'):SP X pins D f s':=by
 cases f with
 |next=>let⟨σ',H',I,q⟩:=h;exact⟨σ',H',I.aY,q⟩
 |brk=>let⟨σ',H',I,q⟩:=h;exact⟨σ',H',I.aY,q⟩
 |cont=>let⟨σ',H',I,q⟩:=h;exact⟨σ',H',I.aY,q⟩
 |ret u=>let⟨v,σ',H',I,r,q⟩:=h;exact⟨v,σ',H',I.aY,r,q⟩
end
section
variable {X:Cx} {st:Stmt} {rest:List Stmt} {t u:TS} {e:Expr} {te:TE} {pos:Pos}
def HP:TS:=λD σ H=>D.nx σ H
def Mx (t u:TS):TS:=λD σ H=>t {D with nx:=u D} σ H
theorem Ee:cu X [] HP:=λ_ _ σ H _ I h=>wpAny_execs_nil ⟨σ,H,I,h⟩
theorem Ay (h1:PS X st t) (h2:cu X rest u):cu X (st::rest) (Mx t u):=by
 intro pins s σ H D I h;refine wpAny_execs_cons (aw (h1 pins s σ H {D with nx:=u D} I h) λf s1 q=> ?_)
 cases f with
 |next=>
  let⟨σ',H',I',q⟩:=q;exact h2 pins s1 σ' H' D I' q
 |ret v=>exact q
 |brk=>exact q
 |cont=>exact q
theorem Inv.quiet {σ:St} {H:Hp} {s:Shared} (I:Inv X pins σ H s):interactive X.env=false:=by simp[interactive,I.ok.kind]
def Ie (te:TE):TS:=λD σ H=>te σ H λ_ H1=>D.nx σ H1
theorem CF (he:PE X e te) (hs:swapsWith e none pos.line X.env=pure false:=by rfl):PS X (.Expr e pos) (Ie te):=by
 intro pins s σ H D I h;exact wpAny_Expr_any (aw (he pins s σ H _ I h) λv s1 z902=>by let⟨x,H1,I1,r1,q1⟩:=z902;exact⟨σ,H1,I1,q1⟩) I.quiet hs
def LF (te:TE):TS:=λD σ H=>te σ H D.rt
theorem EZ (he:PE X e te):PS X (.Return (some e) pos) (LF te):=by
 intro pins s σ H D I h;exact wpAny_Return_some (aw (he pins s σ H _ I h) λv s1 z902=>by let⟨x,H1,I1,r1,q1⟩:=z902;exact⟨x,σ,H1,I1,r1,q1⟩)
def Iz:TS:=λD _ H=>D.rt .non H
theorem Dk:PS X (.Return none pos) Iz:=λ_ _ σ H _ I h=>wpAny_Return_none ⟨.non,σ,H,I,rfl,h⟩
def La (c:TT) (t u:TS):TS:=λD σ H=>c σ H λb H1=>if b=true then t D σ H1 else u D σ H1
theorem Hy {c:Expr} {a b:List Stmt} {tc:TT} (hc:PT X c tc) (ha:cu X a t) (hb:cu X b u):PS X (.If c a b pos) (La tc t u):=by
 intro pins s σ H D I h;refine wpAny_If (aw (hc pins s σ H _ I h) λd s1 z902=> ?_);let⟨H1,I1,q1⟩:=z902
 cases d with
 |true=>exact ha pins s1 σ H1 D I1 q1
 |false=>exact hb pins s1 σ H1 D I1 q1
end
abbrev TG:=V->St->Hp->(St->Hp->Prop)->Prop
abbrev mH:=List V->St->Hp->(St->Hp->Prop)->Prop
def PG (X:Cx) (target:Expr) (t:TG):Prop:=
 ∀(pins:List (Addr×Obj)) (s:Shared) (σ:St) (H:Hp) (v:V) (u:Value) (Q:St->Hp->Prop),Inv X pins σ H s->RelV v u->t v σ H Q->
  wpAny (model X.prog X.w) X.A (assign target X.env u) (λ_ s'=>∃σ' H',Inv X pins σ' H' s'/\Q σ' H') X.xe s
def ig (X:Cx) (ts:List Expr) (t:mH):Prop:=
 ∀(pins:List (Addr×Obj)) (s:Shared) (σ:St) (H:Hp) (vs:List V) (us:List Value) (Q:St->Hp->Prop),Inv X pins σ H s->Vals vs us->t vs σ H Q->
  wpAny (model X.prog X.w) X.A (assignInOrder ((assignEach ts X.env).map (·.2)) us) (λ_ s'=>∃σ' H',Inv X pins σ' H' s'/\Q σ' H') X.xe s
abbrev wH:=V->V->V->Hp->(Hp->Prop)->Prop
def jZ (X:Cx) (t:wH):Prop:=
 ∀(pins:List (Addr×Obj)) (s:Shared) (σ:St) (H:Hp) (o i v:V) (ov iv u:Value) (Q:Hp->Prop),Inv X pins σ H s->RelV o ov->RelV i iv->RelV v u->t o i v H Q->
  wpAny (model X.prog X.w) X.A (setItem ov iv u) (λ_ s'=>∃H',Inv X pins σ H' s'/\Q H') X.xe s
section
variable {X:Cx} {pos:Pos}
def Cd (i:Nat):TG:=λv σ H Q=>Q (σ.set i (some v)) H
theorem DZ {i:Nat} {x:Str} (hN:X.N.Nodup) (hi:X.N[i]?=some x) (hx:Loc X.env.scope x) (hf:X.fn x=true∨X.env.scope.names.lookup x=some .local:=by first|exact .inl rfl|exact .inr rfl|assumption):PG X (.Name x pos) (Cd i):=by
 intro pins s σ H v u Q I r h;exact wpAny_assign_Name (qU I hN hi hx r (λs' I'=>⟨_,H,I',h⟩) hf)
def Kv:mH:=λvs σ H Q=>vs=[]/\Q σ H
def HG (t:TG) (u:mH):mH:=λvs σ H Q=>∃v r,vs=v::r/\t v σ H λσ' H'=>u r σ' H' Q
theorem C0:ig X [] Kv:=by
 intro pins s σ H vs us Q I r h;let⟨e,h⟩:=h;subst e;cases r;exact assignInOrder_nil ⟨σ,H,I,h⟩
theorem Be {e:Expr} {es:List Expr} {t:TG} {u:mH} (h1:PG X e t) (h2:ig X es u)
  (hs:(assignEach (e::es) X.env).map (·.2)=assign e X.env::(assignEach es X.env).map (·.2):=by rfl):ig X (e::es) (HG t u):=by
 intro pins s σ H vs us Q I r h;let⟨v,vr,e1,h⟩:=h;subst e1
 cases r with
 |cons r rr=>
  rw[hs];refine assignInOrder_cons (aw (h1 pins s σ H _ _ _ I r h) λ_ s1 z902=> ?_);let⟨σ1,H1,I1,q1⟩:=z902;exact h2 pins s1 σ1 H1 _ _ Q I1 rr q1
def Mm (K:PySem.W.Frag) (n:Nat) (t:mH):TG:=λv σ H Q=>∃a xs,v= .ref a/\cO K H a xs/\xs.length=n/\t xs σ H Q
theorem Gw {es:List Expr} {k:Nat} {t:mH} {n:Nat} (hc:X.calm=true) (h:ig X es t)
  (hn:(assignEach es X.env).length=n:=by rfl) (hst:(assignEach es X.env).findIdx? (·.1)=none:=by rfl):PG X (.Tuple es k pos) (Mm X.K n t):=by
 intro pins s σ H v u Q I r hw;let⟨a,xs,e1,hq,hl,hw⟩:=hw;subst e1;cases r;let⟨its,rv,ht,hz⟩:=I.tuple hq;refine assign_Tuple_tuple (I.ok.hd hc) ht (by simp[hn,←hl,rv.length]) hst λh' hx=> ?_;have I1:Inv X pins σ H {s with heap:=h'}:=I.kept (t':=s.toks) λb o e=>hx b o (aau (aal e)) e;exact h pins _ σ H xs _ Q I1 (by simpa using rv) hw
def LS (to ti:TE) (t:wH):TG:=λv σ H Q=>to σ H λo H1=>ti σ H1 λi H2=>t o i v H2 λH3=>Q σ H3
theorem Hr {i:Expr} {to ti:TE} {t:wH} (ho:PE X o to) (hi:PE X i ti) (hs:jZ X t)
  (ha:∀v,assign (.Subscript o i pos) X.env v=(do
   let ov←holding [v] (eval o X.env)
   let iv←holding [v,ov] (eval i X.env)
   standAt pos
   holding [v,ov,iv] (setItem ov iv v)
   release [v,ov,iv] []):=by intro _;rfl):PG X (.Subscript o i pos) (LS to ti t):=by
 intro pins s σ H v u Q I r h;rw[ha];refine aaa (aa7 (aw (ho pins s σ H _ I h) λov s1 z902=> ?_));let⟨x,H1,I1,r1,q1⟩:=z902;refine aaa (aa7 (aw (hi pins s1 σ H1 _ I1 q1) λiv s2 z902=> ?_));let⟨y,H2,I2,r2,q2⟩:=z902;refine aaa (acW (aaa (aa7 (aw (hs pins s2 σ H2 x y v ov iv u _ I2 r1 r2 r q2) λ_ s3 z902=> ?_))));let⟨H3,I3,q3⟩:=z902;exact wpAny_release ⟨σ,H3,I3,q3⟩
def FY (te:TE) (g:TG):TS:=λD σ H=>te σ H λx H1=>g x σ H1 D.nx
theorem zd {e:Expr} {te:TE} {g:TG} (he:PE X e te) (hg:PG X tg g) (hs:swapsWithSole [tg] e pos.line X.env=pure false:=by rfl) (hw:swappedStores [tg] e X.env=pure none:=by rfl)
  (h1:(assignEach [tg] X.env).map (·.2)=[assign tg X.env]:=by rfl):PS X (.Assign [tg] e pos) (FY te g):=by
 intro pins s σ H D I h;refine wpAny_Assign_stores (aw (he pins s σ H _ I h) λv s1 z902=> ?_) hs hw;let⟨x,H1,I1,r1,q1⟩:=z902;rw[h1];exact aw (hg pins s1 σ H1 x v _ I1 r1 q1) λ_ s2 q=>q
theorem GL {i:Nat} {x:Str} {e:Expr} {te:TE} (hN:X.N.Nodup) (hi:X.N[i]?=some x) (hx:Loc X.env.scope x) (he:PE X e te) (hs:swapsWith e (some (.Name x pos')) pos.line X.env=pure false:=by rfl) (hf:X.fn x=true∨X.env.scope.names.lookup x=some .local:=by first|exact .inl rfl|exact .inr rfl|assumption):
  PS X (.Assign [.Name x pos'] e pos) (FY te (Cd i)):=by
 intro pins s σ H D I h;refine wpAny_Assign_Name (aw (he pins s σ H _ I h) λv s1 z902=> ?_) hs;let⟨y,H1,I1,r1,q1⟩:=z902;exact qU I1 hN hi hx r1 (λs2 I2=>⟨_,H1,I2,q1⟩) hf
end
structure It where
 go:Nat->Hp->Prop
 yld:Nat->Hp->V->Hp->Prop
 stop:Nat->Hp->Prop
def cH (X:Cx) (pins:List (Addr×Obj)) (H:Hp) (b:Addr):Prop:=
 H b=none/\b≠X.env.locals/\b∉X.fs/\(b∈X.ex∨X.s₀.heap.objs.size<=b)/\(∀x c,X.env.cells.lookup x=some c->c≠b)/\∀p∈X.pn++pins,p.1≠b
theorem Inv.lX {X:Cx} {σ:St} {H H':Hp} {s:Shared} {b:Addr} (I:Inv X pins σ H s) (hb:s.heap.objs.size<=b) (hn:H' b=none):cH X pins H' b:=by
 refine⟨hn,abr (aan I.lt hb),I.Fp hb, .inr (aaL I.sz hb),λx c e z=> ?_,λp hp z=> ?_⟩
 ·let⟨v,q⟩:=I.cell x c e;exact absurd (aan q.lt (by rw[z];exact hb)) (aa5 _)
 ·exact absurd (aan (aal (I.pin p hp).1) (by rw[z];exact hb)) (aa5 _)
structure Turn (P:Program) (w:World) (K:PySem.W.Frag) (tg:Expr) (J:It) (fp:List Addr) (it:Addr) (tn:Nat->Heap->Prop):Prop where
 mem:it∈fp
 obj:∀i h,tn i h->∀b∈fp,∃o,h.get? b=some o/\∀v,o.data≠ .cell v
 keep:∀i h h',tn i h->(∀b∈fp,∀o,h.get? b=some o->h'.get? b=some o)->tn i h'
 item:∀(X:Cx),X.prog=P->X.w=w->X.K=K->X.calm=true->∀(i:Nat) (pins:List (Addr×Obj)) (s:Shared) (σ:St) (H:Hp) (E:Value->Shared->Prop),Inv X pins σ H s->(∀b∈fp,cH X pins H b)->tn i s.heap->J.go i H->
  wpAny (model P w) X.A (pyNext (.ref it)) (λr s1=>∃u,r=some u/\
   wpAny (model P w) X.A (letOwnedTupleGo tg (.ref it) u) (λ_ s2=>∃x H',Inv X pins σ H' s2/\RelV x u/\J.yld i H x H'/\tn (i+1) s2.heap/\∀b∈fp,H' b=none) E s1) E s
 done:∀(X:Cx),X.prog=P->X.w=w->X.K=K->X.calm=true->∀(i:Nat) (pins:List (Addr×Obj)) (s:Shared) (σ:St) (H:Hp) (E:Value->Shared->Prop),Inv X pins σ H s->(∀b∈fp,cH X pins H b)->tn i s.heap->J.stop i H->
  wpAny (model P w) X.A (pyNext (.ref it)) (λr s1=>r=none/\Inv X pins σ H s1) E s
 self:∀(A:Around) (i:Nat) (s:Shared) (Q:Value->Shared->Prop) (E:Value->Shared->Prop),tn i s.heap->Q (.ref it) s->wpAny (model P w) A (pyIter (.ref it)) Q E s
abbrev TI:=St->Hp->(It->Hp->Prop)->Prop
def PIE (X:Cx) (pins:List (Addr×Obj)) (σ:St) (tg:Expr) (R:It->Hp->Prop) (itv:Value) (s2:Shared):Prop:=
 ∃(it:Addr) (fp:List Addr) (tn:Nat->Heap->Prop) (J:It) (H':Hp),itv= .ref it/\Inv X pins σ H' s2/\Turn X.prog X.w X.K tg J fp it tn/\tn 0 s2.heap/\(∀b∈fp,cH X pins H' b)/\R J H'
def PI (X:Cx) (tg iter:Expr) (wi:TI):Prop:=
 ∀(pins:List (Addr×Obj)) (s:Shared) (σ:St) (H:Hp) (R:It->Hp->Prop),Inv X pins σ H s->wi σ H R->
  wpAny (model X.prog X.w) X.A (eval iter X.env) (λv s1=>wpAny (model X.prog X.w) X.A (pyIter v) (PIE X pins σ tg R) X.xe s1) X.xe s
theorem mS {M:Model} {A:Around} {E:Value->Shared->Prop} {s:Shared} {u:Value} {o:Obj} {n:String} {vs:Array Value} {Q:Unit->Shared->Prop} (ho:s.heap.get? it=some o) (hc:o.cls= .type n) (hd:o.data= .fields vs)
  (hn:["enumerate","zip","dict_itemiterator","dict_reverseitemiterator","odict_iterator","itertools.zip_longest","itertools.pairwise"].contains n=false) (hQ:Q () s):wpAny M A (letOwnedTupleGo tg (.ref it) u) Q E s:=by
 unfold letOwnedTupleGo
 cases tg<;>first
  |exact aaf hQ
  |(cases u<;>first
   |exact aaf hQ
   |(refine aaa (wpAny_load ho ?_)
     rw[hc,hd];show wpAny M A (if (["enumerate","zip","dict_itemiterator","dict_reverseitemiterator","odict_iterator","itertools.zip_longest","itertools.pairwise"].contains n&&vs[0]?==some (rawInt _))=true then _ else _) Q E s;rw[if_neg (by intro h;rw[hn,Bool.false_and] at h;cases h)]
     exact aaf hQ))
noncomputable def Gx (K:PySem.W.Frag) (a:Addr):It:=
 ⟨λi H=>∃xs x,bK K H a xs/\xs[i]?=some x,λi H x H'=>H'=H/\∀xs,bK K H a xs->xs[i]?=some x,λi H=>∃xs,bK K H a xs/\xs.length<=i⟩
noncomputable def Fv (K:PySem.W.Frag) (a:Addr):It:=
 ⟨λi H=>∃xs x,cO K H a xs/\xs[i]?=some x,λi H x H'=>H'=H/\∀xs,cO K H a xs->xs[i]?=some x,λi H=>∃xs,cO K H a xs/\xs.length<=i⟩
noncomputable def Ca (lo:Int) (n:Nat):It:=⟨λi _=>i<n,λi H x H'=>H'=H/\x= .int (lo+i),λi _=>n<=i⟩
theorem yD {P:Program} {w:World} {K:PySem.W.Frag} (a it:Addr):Turn P w K tg (Gx K a) [it] it (λi h=>h.IsListIter it a i) where
 mem:=by simp
 obj:=λi h st b hb=>by
  have e:b=it:=by simpa using hb
  subst e;let⟨o,e,c,d⟩:=st;exact⟨o,e,λv z=>by rw[d] at z;cases z⟩
 keep:=λi h h' st k=>st.at λo e=>k it (by simp) o e
 item:=by
  intro X hP hw hK hc i pins s σ H E I hf st hg;subst hP hw hK;let⟨xs,x,hq,hx⟩:=hg;let⟨its,rv,p,hz⟩:=I.list hq;let⟨u,hu,ru⟩:=rv.get hx;let⟨f0,f1,f2,f3,f4,f5⟩:=hf it (by simp);refine wpAny_pyNext_list_item st p.isList (x:=u) (by simpa using hu) λh' st' sb=> ?_;have I1:Inv X pins σ H {s with heap:=h'}:=I.turned (t':=s.toks) (λb o hb e=>(sb.2 b hb).trans e) f0 f1 f3 f4 f5;let⟨o,e,c,d⟩:=id st';exact⟨u,rfl,mS (s:={s with heap:=h'}) e c d (by decide) ⟨x,H,I1,ru,⟨rfl,λys hy=>by rw[I.qR hy hq];exact hx⟩,st',λb hb=>(hf b hb).1⟩⟩
 done:=by
  intro X hP hw hK hc i pins s σ H E I hf st hg;subst hP hw hK;let⟨xs,hq,hx⟩:=hg;let⟨its,rv,p,hz⟩:=I.list hq;let⟨f0,f1,f2,f3,f4,f5⟩:=hf it (by simp);have hl:=rv.length;exact wpAny_pyNext_list_end (I.ok.hd hc) st p.isList (by simp;lia) λh' eb=>⟨rfl,I.turned (t':=s.toks) (λb o hb e=>eb b o hb e) f0 f1 f3 f4 f5⟩
 self:=λ_ _ _ _ _ st h=>wpAny_pyIter_listiter st h
theorem wg {P:Program} {w:World} {K:PySem.W.Frag} (a it:Addr):Turn P w K tg (Fv K a) [it] it (λi h=>h.IsTupleIter it a i) where
 mem:=by simp
 obj:=λi h st b hb=>by
  have e:b=it:=by simpa using hb
  subst e;let⟨o,e,c,d⟩:=st;exact⟨o,e,λv z=>by rw[d] at z;cases z⟩
 keep:=λi h h' st k=>st.at λo e=>k it (by simp) o e
 item:=by
  intro X hP hw hK hc i pins s σ H E I hf st hg;subst hP hw hK;let⟨xs,x,hq,hx⟩:=hg;let⟨its,rv,p,hz⟩:=I.tuple hq;let⟨u,hu,ru⟩:=rv.get hx;let⟨f0,f1,f2,f3,f4,f5⟩:=hf it (by simp);refine wpAny_pyNext_tuple_item st (show s.heap.IsTuple a its.toArray from p) (x:=u) (by simpa using hu) λh' st' sb=> ?_;have I1:Inv X pins σ H {s with heap:=h'}:=I.turned (t':=s.toks) (λb o hb e=>(sb.2 b hb).trans e) f0 f1 f3 f4 f5;let⟨o,e,c,d⟩:=id st';exact⟨u,rfl,mS (s:={s with heap:=h'}) e c d (by decide) ⟨x,H,I1,ru,⟨rfl,λys hy=>by rw[I.o5 hy hq];exact hx⟩,st',λb hb=>(hf b hb).1⟩⟩
 done:=by
  intro X hP hw hK hc i pins s σ H E I hf st hg;subst hP hw hK;let⟨xs,hq,hx⟩:=hg;let⟨its,rv,p,hz⟩:=I.tuple hq;let⟨f0,f1,f2,f3,f4,f5⟩:=hf it (by simp);have hl:=rv.length;exact wpAny_pyNext_tuple_end (I.ok.hd hc) st (show s.heap.IsTuple a its.toArray from p) (by simp;lia) λh' eb=>⟨rfl,I.turned (t':=s.toks) (λb o hb e=>eb b o hb e) f0 f1 f3 f4 f5⟩
 self:=λ_ _ _ _ _ st h=>wpAny_pyIter_tupleiter st h
theorem vG {P:Program} {w:World} {K:PySem.W.Frag} (it:Addr) (lo:Int) (n:Nat):Turn P w K tg (Ca lo n) [it] it (λi h=>IsRangeIter h it (lo+(i:Nat)*1) ((n:Int)-(i:Nat)) 1) where
 mem:=by simp
 obj:=λi h st b hb=>by
  have e:b=it:=by simpa using hb
  subst e
  exact⟨_,st,λv z=>by
   have z':Data.fields _=Data.cell v:=z
   cases z'⟩
 keep:=λi h h' st k=>k it (by simp) _ st
 item:=by
  intro X hP hw hK hc i pins s σ H E I hf st hg;subst hP hw hK;let⟨f0,f1,f2,f3,f4,f5⟩:=hf it (by simp);have W:=Walks.range (prog:=X.prog) (w:=X.w) (I.ok.hd hc) it lo 1 n;refine W.item i s _ _ hg st λv h' tk hv st' kk=> ?_;let⟨t,rfl⟩:=hv;have I1:Inv X pins σ H {s with heap:=h',toks:=tk}:=I.turned (λb o hb e=>kk b o (by simpa using hb) e) f0 f1 f3 f4 f5;refine⟨_,rfl,mS (s:={s with heap:=h',toks:=tk}) (n:="range_iterator") st' rfl rfl (by decide) ⟨.int (lo+i),H,I1,⟨t, ?_⟩,⟨rfl,rfl⟩,st',λb hb=>(hf b hb).1⟩⟩;rw[Int.mul_one]
 done:=by
  intro X hP hw hK hc i pins s σ H E I hf st hg;subst hP hw hK;let⟨f0,f1,f2,f3,f4,f5⟩:=hf it (by simp);exact wpAny_pyNext_range_end (I.ok.hd hc) st (by have:n<=i:=hg;lia) λh' eb=>⟨rfl,I.turned (t':=s.toks) (λb o hb e=>eb b o hb e) f0 f1 f3 f4 f5⟩
 self:=λ_ _ _ _ _ st h=>wpAny_pyIter_rangeiter st h
section
variable {X:Cx} {tg:Expr}
theorem AO {σ:St} {H:Hp} {s:Shared} {R:It->Hp->Prop} {E:Value->Shared->Prop} {lo hi:Int} {t u v:Tok} {tk:Nat} (I:Inv X pins σ H s) (h1: -(2^62)<=lo) (h2:lo<2^62) (h3: -(2^62)<=hi) (h4:hi<2^62)
  (q:R (Ca lo (hi-lo).toNat) H):wpAny (model X.prog X.w) X.A (pyIter (.ref s.heap.objs.size)) (PIE X pins σ tg R) E {s with heap:=s.heap.push {cls:= .type "range",data:= .fields #[.int lo t, .int hi u, .int 1 v]},toks:=tk}:=by
 refine wpAny_pyIter_range (IsRange.new ..) (small_one h1 h2 h3 h4) ?_;have I1:Inv X pins σ H {s with heap:=s.heap.push {cls:= .type "range",data:= .fields #[.int lo t, .int hi u, .int 1 v]},toks:=tk}:=I.kept λb o e=>aad _ e
 refine⟨(s.heap.push {cls:= .type "range",data:= .fields #[.int lo t, .int hi u, .int 1 v]}).objs.size,[(s.heap.push {cls:= .type "range",data:= .fields #[.int lo t, .int hi u, .int 1 v]}).objs.size],_,_,H,rfl,
  I1.kept (t':=tk) λb o e=>aad _ e,vG _ lo (hi-lo).toNat, ?_,λb hb=> ?_,q⟩
 ·have e1:lo+((0:Nat):Int)*1=lo:=by simp
  have e2:(((hi-lo).toNat:Nat):Int)-((0:Nat):Int)=Builtin.Range.rangeSize lo hi 1:=by rw[rangeSize_one];split<;>lia
  show IsRangeIter _ _ (lo+((0:Nat):Int)*1) ((((hi-lo).toNat:Nat):Int)-((0:Nat):Int)) 1;rw[e1,e2];exact aai _ rfl
 ·have e:b=(s.heap.push {cls:= .type "range",data:= .fields #[.int lo t, .int hi u, .int 1 v]}).objs.size:=by simpa using hb
  subst e;exact I1.lX (aah _) (I1.ah.fresh (aah _))
def Ij (ta:TA):TI:=λσ H R=>ta σ H λvs H1=>∃j:Int,vs=[.int j]/\ -(2^62)<=j/\j<2^62/\R (Ca 0 j.toNat) H1
theorem yw {a:Expr} {ta:TA} {p:Pos} (hg:Gl X "range") (hm:X.mg "range"=none) (ha:PA X [a] ta) (hs:starEach [a] X.env=[(false,eval a X.env)]:=by rfl):PI X tg (.Call (.Name "range" p) [a] [] pos) (Ij ta):=by
 intro pins s σ H R I h;refine Call_ (gq I hg hm boot_range (aca (aw (ha pos pins s σ H _ I h) λus s1 z902=> ?_) hs rfl));let⟨vs,H1,I1,r1,q1⟩:=z902;let⟨j,e,q1,q2,q⟩:=q1;subst e
 cases r1 with
 |cons r rr=>
  cases rr;let⟨t,rfl⟩:=r;exact call_range_1 (AO I1 (by lia) (by lia) q1 q2 (by simpa using q))
def Kd (wi:TI) (g:TG) (tb:TS):TS:=λD σ H=>wi σ H λJ H1=>∃W:Nat->Nat->St->Hp->Prop,(∃m,W 0 m σ H1)/\∀i m σ H,W i m σ H->
 (J.stop i H/\D.nx σ H)∨(J.go i H/\∃N:St->Hp->Prop,(∀σ' H',N σ' H'->∃m',m'<m/\W (i+1) m' σ' H')/\∀x H',J.yld i H x H'->g x σ H' λσ2 H2=>tb {D with nx:=N,ct:=N,bk:=D.nx} σ2 H2)
noncomputable def bP (fp:List Addr) (h:Heap):List (Addr×Obj):=fp.filterMap λb=>(h.get? b).map λo=>(b,o)
theorem dB {h:Heap} {b:Addr} (hb:b∈fp) (e:h.get? b=some o):(b,o)∈bP fp h:=List.mem_filterMap.mpr ⟨b,hb,by rw[e];rfl⟩
theorem pQ {h:Heap} {p:Addr×Obj} (hp:p∈bP fp h):p.1∈fp/\h.get? p.1=some p.2:=by
 let⟨b,hb,e⟩:=List.mem_filterMap.mp hp
 cases q:h.get? b with
 |none=>rw[q] at e;cases e
 |some o=>
  rw[q] at e;have e':(b,o)=p:=Option.some.inj e;subst e';exact⟨hb,q⟩
theorem Inv.pinned {σ:St} {H:Hp} {s:Shared} {fp:List Addr} (I:Inv X pins σ H s) (hf:∀b∈fp,cH X pins H b) (ho:∀b∈fp,∃o,s.heap.get? b=some o/\∀v,o.data≠ .cell v):Inv X (pins++bP fp s.heap) σ H s:=
 I.cI λp hp=>(aaz.mp hp).elim (λz=>I.pin p (aaA _ z)) λz=>by
  let⟨hb,e⟩:=pQ z;let⟨f0,f1,f2,_⟩:=hf p.1 hb;let⟨o,e',d⟩:=ho p.1 hb;rw[e] at e';cases e';exact⟨e,f0,f1,f2,d⟩
theorem Inv.jg {σ:St} {H:Hp} {s:Shared} (I:Inv X (pins++pl) σ H s):Inv X pins σ H s:=I.cI λp hp=>I.pin p (aaA _ (aaY _ hp))
theorem Fo {wi:TI} {g:TG} {tb:TS} (hp:PassesOwn (model X.prog X.w) X.A X.env X.xe) (hc:X.calm=true) (hi:PI X tg iter wi) (hg:PG X tg g) (hb:cu X body tb)
  (hs:∀x,foldedSetIterable iter X.env x=pure x:=by intro _;rfl):PS X (.For tg iter body [] pos) (Kd wi g tb):=by
 intro pins s σ H D I h;refine wpAny_For (aw (hi pins s σ H _ I h) λv s1 h1=>aw h1 λitv s2 h2=> ?_) hs;let⟨it,fp,tn,J,H2,e,I2,T,st2,f2,W,⟨m0,w0⟩,turn⟩:=h2;subst e;have stat:∀{H':Hp},(∀b∈fp,H' b=none)->∀b∈fp,cH X pins H' b:=λhn b hb=>⟨hn b hb,(f2 b hb).2⟩;refine codeAny_forLoop_any (λn s'=>∃i σ' H',Inv X pins σ' H' s'/\tn i s'.heap/\(∀b∈fp,H' b=none)/\W i n σ' H') ?_ m0 ⟨0,σ,H2,I2,st2,λb hb=>(f2 b hb).1,w0⟩
 rintro n s3 ⟨i,σ3,H3,I3,st3,fr3,w3⟩
 rcases turn i n σ3 H3 w3 with⟨stop,qn⟩|⟨go,N,hN,step⟩
 ·refine aci hp (aw (T.done X rfl rfl rfl hc i pins s3 σ3 H3 X.xe I3 (stat fr3) st3 stop) λr s4 z902=> ?_);let⟨hr,I4⟩:=z902;subst hr;exact wpAny_execs_nil ⟨σ3,H3,I4,qn⟩
 ·refine aci hp (aw (T.item X rfl rfl rfl hc i pins s3 σ3 H3 X.xe I3 (stat fr3) st3 go) λr s4 z902=> ?_);let⟨u,hr,h4⟩:=z902;subst hr;refine aci hp (aw h4 λ_ s5 z902=> ?_);let⟨x,H5,I5,r5,y5,st5,fr5⟩:=z902;have I5':=I5.pinned (stat fr5) (T.obj _ _ st5);refine aci hp (aw (hg _ s5 σ3 H5 x u _ I5' r5 (step x H5 y5)) λ_ s6 z902=> ?_);let⟨σ6,H6,I6,q6⟩:=z902;refine aci hp (aw (hb _ s6 σ6 H6 _ I6 q6) λf s7 q7=> ?_)
  have again:∀{σ7:St} {H7:Hp},Inv X (pins++bP fp s5.heap) σ7 H7 s7->N σ7 H7->∃m,m<n/\∃i σ' H',Inv X pins σ' H' s7/\tn i s7.heap/\(∀b∈fp,H' b=none)/\W i m σ' H':=λ{σ7 H7} I7 n7=>by
   let⟨m',hm,w7⟩:=hN σ7 H7 n7;refine⟨m',hm,i+1,σ7,H7,I7.jg,T.keep _ _ _ st5 λb hb o e=>(I7.pin (b,o) (aaA _ (aaA _ (dB hb e)))).1,λb hb=> ?_,w7⟩;let⟨o,e,d⟩:=T.obj _ _ st5 b hb;exact(I7.pin (b,o) (aaA _ (aaA _ (dB hb e)))).2.1
  cases f with
  |next=>let⟨σ7,H7,I7,n7⟩:=q7;exact again I7 n7
  |cont=>let⟨σ7,H7,I7,n7⟩:=q7;exact again I7 n7
  |brk=>let⟨σ7,H7,I7,q7⟩:=q7;exact⟨σ7,H7,I7.jg,q7⟩
  |ret v=>let⟨x7,σ7,H7,I7,r7,q7⟩:=q7;exact⟨x7,σ7,H7,I7.jg,r7,q7⟩
end
abbrev R2:=V->V->Hp->VK->Prop
def aF (X:Cx) (f:Value->Value->Sem Value) (r:R2):Prop:=
 ∀(pins:List (Addr×Obj)) (s:Shared) (σ:St) (H:Hp) (x y:V) (v u:Value) (Q:VK),Inv X pins σ H s->RelV x v->RelV y u->r x y H Q->
  wpAny (model X.prog X.w) X.A (f v u) (EP X pins σ Q) X.xe s
def Gy (X:Cx) (f:Value->Sem Value) (r:V->Hp->VK->Prop):Prop:=
 ∀(pins:List (Addr×Obj)) (s:Shared) (σ:St) (H:Hp) (x:V) (v:Value) (Q:VK),Inv X pins σ H s->RelV x v->r x H Q->
  wpAny (model X.prog X.w) X.A (f v) (EP X pins σ Q) X.xe s
def ar (X:Cx) (f:Value) (r:List V->Hp->VK->Prop):Prop:=
 ∀(pins:List (Addr×Obj)) (s:Shared) (σ:St) (H:Hp) (xs:List V) (us:List Value) (Q:VK),Inv X pins σ H s->Vals xs us->r xs H Q->
  wpAny (model X.prog X.w) X.A (call f us) (EP X pins σ Q) X.xe s
def LJ (X:Cx) (r:V->Hp->(Bool->Hp->Prop)->Prop):Prop:=
 ∀(pins:List (Addr×Obj)) (s:Shared) (σ:St) (H:Hp) (x:V) (v:Value) (Q:Bool->Hp->Prop),Inv X pins σ H s->RelV x v->r x H Q->
  wpAny (model X.prog X.w) X.A (truthy v) (TP X pins σ Q) X.xe s
def Ck (r:R2) (ta tb:TE):TE:=λσ H Q=>ta σ H λx H1=>tb σ H1 λy H2=>r x y H2 Q
def tUn (r:V->Hp->VK->Prop) (ta:TE):TE:=λσ H Q=>ta σ H λx H1=>r x H1 Q
def rI (C:Int->Int->Prop) (g:Int->Int->V):R2:=λx y H Q=>∃i j,x= .int i/\y= .int j/\C i j/\Q (g i j) H
def kL (g:Int->Int->V):R2:=λx y H Q=>∃i j,x= .int i/\y= .int j/\Q (g i j) H
def rU (g:Int->V):V->Hp->VK->Prop:=λx H Q=>∃i,x= .int i/\Q (g i) H
section
variable {X:Cx} {a b c:Expr} {ta tb tc:TE} {pos:Pos}
theorem zH (ha:PE X a ta) (hb:PE X b tb) {s:Shared} {σ:St} {H:Hp} {R:V->V->Hp->Prop} (I:Inv X pins σ H s)
  (h:ta σ H λx H1=>tb σ H1 λy H2=>R x y H2) {Q:Value->Shared->Prop} {f:Value->Value->Sem Value}
  (hf:∀v u s2 x y H2,Inv X pins σ H2 s2->RelV x v->RelV y u->R x y H2->wpAny (model X.prog X.w) X.A (f v u) Q X.xe s2):
  wpAny (model X.prog X.w) X.A (eval a X.env) (λv s₁=>wpAny (model X.prog X.w) X.A (eval b X.env) (λu s₂=>wpAny (model X.prog X.w) X.A (f v u) Q X.xe s₂) X.xe s₁) X.xe s:=by
 refine aw (ha pins s σ H _ I h) λv s1 z902=> ?_;let⟨x,H1,I1,r1,q1⟩:=z902;refine aw (hb pins s1 σ H1 _ I1 q1) λu s2 z902=> ?_;let⟨y,H2,I2,r2,q2⟩:=z902;exact hf v u s2 x y H2 I2 r1 r2 q2
theorem HN {op:Operator} {r:R2} (ho:aF X (binaryOp op) r) (ha:PE X a ta) (hb:PE X b tb):PE X (.BinOp a op b pos) (Ck r ta tb):=by
 intro pins s σ H Q I h;exact wpAny_BinOp (zH ha hb I h λv u s2 x y H2 I2 rx ry q=>ho pins s2 σ H2 x y v u Q I2 rx ry q)
theorem IH {op:UnaryOp} {r:V->Hp->VK->Prop} (ho:Gy X (unaryOp op) r) (ha:PE X a ta):PE X (.UnaryOp op a pos) (tUn r ta):=by
 intro pins s σ H Q I h;exact UnaryOp_ (aw (ha pins s σ H _ I h) λv s1 z902=>by let⟨x,H1,I1,r1,q1⟩:=z902;exact ho pins s1 σ H1 x v Q I1 r1 q1)
theorem B4 {f:Value->Value->Sem Value} {C:Int->Int->Prop} {g:Int->Int->Int}
  (rule:∀(i j:Int) (t u:Tok) (s:Shared) (Q:Value->Shared->Prop) (E:Value->Shared->Prop),C i j->Q (.int (g i j) s.toks) {s with toks:=s.toks+1}->wpAny (model X.prog X.w) X.A (f (.int i t) (.int j u)) Q E s):
  aF X f (rI C λi j=> .int (g i j)):=by
 intro pins s σ H x y v u Q I rx ry h;let⟨i,j,rfl,rfl,hc,q⟩:=h;let⟨t,rfl⟩:=rx;let⟨t',rfl⟩:=ry;exact rule i j t t' s _ _ hc ⟨.int (g i j),H,I.tok _,⟨_,rfl⟩,q⟩
theorem Ha {f:Value->Value->Sem Value} {g:Int->Int->Int}
  (rule:∀(i j:Int) (t u:Tok) (s:Shared) (Q:Value->Shared->Prop) (E:Value->Shared->Prop),Q (.int (g i j) s.toks) {s with toks:=s.toks+1}->wpAny (model X.prog X.w) X.A (f (.int i t) (.int j u)) Q E s):
  aF X f (kL λi j=> .int (g i j)):=by
 intro pins s σ H x y v u Q I rx ry h;let⟨i,j,rfl,rfl,q⟩:=h;let⟨t,rfl⟩:=rx;let⟨t',rfl⟩:=ry;exact rule i j t t' s _ _ ⟨.int (g i j),H,I.tok _,⟨_,rfl⟩,q⟩
theorem wc {f:Value->Value->Sem Value} {g:Int->Int->Bool}
  (rule:∀(i j:Int) (t u:Tok) (s:Shared) (Q:Value->Shared->Prop) (E:Value->Shared->Prop),Q (.bool (g i j)) s->wpAny (model X.prog X.w) X.A (f (.int i t) (.int j u)) Q E s):
  aF X f (kL λi j=> .bl (g i j)):=by
 intro pins s σ H x y v u Q I rx ry h;let⟨i,j,rfl,rfl,q⟩:=h;let⟨t,rfl⟩:=rx;let⟨t',rfl⟩:=ry;exact rule i j t t' s _ _ ⟨.bl (g i j),H,I,rfl,q⟩
def L9 (i j:Int):Prop:=0<=j/\j<=1000000/\i.natAbs<2^64
theorem FF:aF X (binaryOp .Add) (kL λi j=> .int (i+j)):=Ha λ_ _ _ _ _ _ _ q=>add_int q
theorem Ht:aF X (binaryOp .Sub) (kL λi j=> .int (i-j)):=Ha λ_ _ _ _ _ _ _ q=>sub_int q
theorem Dv:aF X (binaryOp .Mod) (rI (λ_ j=>j≠0) λi j=> .int (i.fmod j)):=B4 λ_ _ _ _ _ _ _ hc q=>mod_int' hc q
theorem Fl:aF X (binaryOp .Pow) (rI L9 λi j=> .int (i^j.toNat)):=B4 λ_ _ _ _ _ _ _ hc q=>pow_int_small hc.1 hc.2.1 hc.2.2 q
theorem unI {f:Value->Sem Value} {g:Int->Int}
  (rule:∀(i:Int) (t:Tok) (s:Shared) (Q:Value->Shared->Prop) (E:Value->Shared->Prop),Q (.int (g i) s.toks) {s with toks:=s.toks+1}->wpAny (model X.prog X.w) X.A (f (.int i t)) Q E s):
  Gy X f (rU λi=> .int (g i)):=by
 intro pins s σ H x v Q I rx h;let⟨i,rfl,q⟩:=h;let⟨t,rfl⟩:=rx;exact rule i t s _ _ ⟨.int (g i),H,I.tok _,⟨_,rfl⟩,q⟩
theorem Gu:Gy X (unaryOp .USub) (rU λi=> .int (-i)):=unI λ_ _ _ _ _ q=>neg_int q
end
noncomputable def Bq:V->V->Bool
 | .non, .non=>true| .non, .int _=>true| .int _, .non=>true| .non, .bl _=>true| .bl _, .non=>true| .non, .str _=>true| .str _, .non=>true
 | .int _, .int _=>true| .bl _, .bl _=>true| .str _, .str _=>true| .byt _, .byt _=>true
 | .int _, .str _=>true| .str _, .int _=>true| .bl _, .str _=>true| .str _, .bl _=>true
 |_,_=>false
def rEq:R2:=λx y H Q=>Bq x y=true/\Q (.bl (decide (x=y))) H
def rNe:R2:=λx y H Q=>Bq x y=true/\Q (.bl (!decide (x=y))) H
theorem uf {i j:Int}:decide (V.int i=V.int j)=(i==j):=by
 rw[aaS];simp
theorem xT {i j:Bool}:decide (V.bl i=V.bl j)=(i==j):=by
 rw[aaS];simp
theorem uw {i j:Str}:decide (V.str i=V.str j)=(i==j):=by
 rw[aaS];simp
theorem vt {i j:Array UInt8}:decide (V.byt i=V.byt j)=(i.toList==j.toList):=by
 rw[aaS];cases i;cases j;simp
section
variable {X:Cx} {a b c:Expr} {ta tb tc:TE} {pos:Pos}
theorem aH {σ:St} {H:Hp} {s:Shared} {Q:VK} {k k':Bool} (I:Inv X pins σ H s) (q:Q (.bl k) H) (e:k=k'):EP X pins σ Q (.bool k') s:=by
 subst e;exact⟨.bl k,H,I,rfl,q⟩
theorem Jk:aF X (compareOp .Eq) rEq:=by
 intro pins s σ H x y v u Q I rx ry h;let⟨hs,q⟩:=h
 cases x with
 |non=>
  cases rx
  cases y with
  |non=>cases ry;exact PySem.EqNone.eq_none_none (aH I q (by simp))
  |bl j=>cases ry;exact PySem.EqNone.eq_none_bool (aH I q (by simp))
  |int j=>let⟨t',rfl⟩:=ry;exact PySem.EqNone.eq_none_int (aH I q (by simp))
  |str j=>let⟨t',rfl⟩:=ry;exact PySem.EqNone.eq_none_str (aH I q (by simp))
  |_=>exact absurd (show false=true from hs) aaq
 |bl i=>
  cases rx
  cases y with
  |non=>cases ry;exact PySem.EqNone.eq_bool_none (aH I q (by simp))
  |bl j=>cases ry;exact eq_bool (aH I q xT)
  |str j=>let⟨t',rfl⟩:=ry;exact PySem.EqMixed.eq_bool_str (aH I q (by simp))
  |_=>exact absurd (show false=true from hs) aaq
 |int i=>
  let⟨t,rfl⟩:=rx
  cases y with
  |non=>cases ry;exact PySem.EqNone.eq_int_none (aH I q (by simp))
  |int j=>let⟨t',rfl⟩:=ry;exact eq_int (aH I q uf)
  |str j=>let⟨t',rfl⟩:=ry;exact PySem.EqMixed.eq_int_str (aH I q (by simp))
  |_=>exact absurd (show false=true from hs) aaq
 |str i=>
  let⟨t,rfl⟩:=rx
  cases y with
  |non=>cases ry;exact PySem.EqNone.eq_str_none (aH I q (by simp))
  |bl j=>cases ry;exact PySem.EqMixed.eq_str_bool (aH I q (by simp))
  |int j=>let⟨t',rfl⟩:=ry;exact PySem.EqMixed.eq_str_int (aH I q (by simp))
  |str j=>let⟨t',rfl⟩:=ry;exact eq_str (aH I q uw)
  |_=>exact absurd (show false=true from hs) aaq
 |byt i=>
  let⟨t,rfl⟩:=rx
  cases y with
  |byt j=>let⟨t',rfl⟩:=ry;exact PySem.W.eq_bytes (aH I q vt)
  |_=>exact absurd (show false=true from hs) aaq
 |_=>cases y<;>exact absurd (show false=true from hs) aaq
theorem Ju:aF X (compareOp .NotEq) rNe:=by
 intro pins s σ H x y v u Q I rx ry h;let⟨hs,q⟩:=h
 cases x with
 |non=>
  cases rx
  cases y with
  |non=>cases ry;exact PySem.EqNone.ne_none_none (aH I q (by simp))
  |bl j=>cases ry;exact PySem.EqNone.ne_none_bool (aH I q (by simp))
  |int j=>let⟨t',rfl⟩:=ry;exact PySem.EqNone.ne_none_int (aH I q (by simp))
  |str j=>let⟨t',rfl⟩:=ry;exact PySem.EqNone.ne_none_str (aH I q (by simp))
  |_=>exact absurd (show false=true from hs) aaq
 |bl i=>
  cases rx
  cases y with
  |non=>cases ry;exact PySem.EqNone.ne_bool_none (aH I q (by simp))
  |bl j=>cases ry;exact ne_bool (aH I q (congrArg not xT))
  |str j=>let⟨t',rfl⟩:=ry;exact PySem.EqMixed.ne_bool_str (aH I q (by simp))
  |_=>exact absurd (show false=true from hs) aaq
 |int i=>
  let⟨t,rfl⟩:=rx
  cases y with
  |non=>cases ry;exact PySem.EqNone.ne_int_none (aH I q (by simp))
  |int j=>let⟨t',rfl⟩:=ry;exact ne_int (aH I q (congrArg not uf))
  |str j=>let⟨t',rfl⟩:=ry;exact PySem.EqMixed.ne_int_str (aH I q (by simp))
  |_=>exact absurd (show false=true from hs) aaq
 |str i=>
  let⟨t,rfl⟩:=rx
  cases y with
  |non=>cases ry;exact PySem.EqNone.ne_str_none (aH I q (by simp))
  |bl j=>cases ry;exact PySem.EqMixed.ne_str_bool (aH I q (by simp))
  |int j=>let⟨t',rfl⟩:=ry;exact PySem.EqMixed.ne_str_int (aH I q (by simp))
  |str j=>let⟨t',rfl⟩:=ry;exact ne_str (aH I q (congrArg not uw))
  |_=>exact absurd (show false=true from hs) aaq
 |byt i=>
  let⟨t,rfl⟩:=rx
  cases y with
  |byt j=>let⟨t',rfl⟩:=ry;exact PySem.W.ne_bytes (aH I q (congrArg not vt))
  |_=>exact absurd (show false=true from hs) aaq
 |_=>cases y<;>exact absurd (show false=true from hs) aaq
theorem HK:aF X (compareOp .Lt) (kL λi j=> .bl (decide (i<j))):=wc λ_ _ _ _ _ _ _ q=>lt_int q
theorem Jq:aF X (compareOp .LtE) (kL λi j=> .bl (decide (i<=j))):=wc λ_ _ _ _ _ _ _ q=>le_int q
theorem JF:aF X (compareOp .Gt) (kL λi j=> .bl (decide (j<i))):=wc λ_ _ _ _ _ _ _ q=>gt_int q
theorem IT:aF X (compareOp .GtE) (kL λi j=> .bl (decide (j<=i))):=wc λ_ _ _ _ _ _ _ q=>ge_int q
theorem E4:aF X (compareOp .Is) (λx y H Q=>y= .non/\Q (.bl (decide (x= .non))) H):=by
 intro pins s σ H x y v u Q I rx ry h;let⟨rfl,q⟩:=h;cases ry;refine is_none_gen (aH I q ?_)
 cases x<;>first
  |(cases rx;rfl)
  |(let⟨t,rfl⟩:=rx;rfl)
theorem Dz:aF X (compareOp .IsNot) (λx y H Q=>y= .non/\Q (.bl (!decide (x= .non))) H):=by
 intro pins s σ H x y v u Q I rx ry h;let⟨rfl,q⟩:=h;cases ry;refine isnot_none_gen (aH I q ?_)
 cases x<;>first
  |(cases rx;rfl)
  |(let⟨t,rfl⟩:=rx;rfl)
theorem aF.or {f:Value->Value->Sem Value} {r r':R2} (h:aF X f r) (h':aF X f r'):aF X f (λx y H Q=>r x y H Q∨r' x y H Q):=by
 intro pins s σ H x y v u Q I rx ry q
 rcases q with q|q
 ·exact h pins s σ H x y v u Q I rx ry q
 ·exact h' pins s σ H x y v u Q I rx ry q
theorem CQ {op:CmpOp} {r:R2} (ho:aF X (compareOp op) r) (ha:PE X a ta) (hb:PE X b tb) (hm:behindInMarks op b=false):PE X (.Compare a [op] [b] pos) (Ck r ta tb):=by
 intro pins s σ H Q I h;exact wpAny_Compare1 (zH ha hb I h λv u s2 x y H2 I2 rx ry q=>ho pins s2 σ H2 x y v u Q I2 rx ry q) hm
def Jy (t:TE):TT:=λσ H Q=>t σ H λx H'=>∃k,x= .bl k/\Q k H'
theorem Dw {op:CmpOp} {r:R2} (ho:aF X (compareOp op) r) (ha:PE X a ta) (hb:PE X b tb) (hm:behindInMarks op b=false):PT X (.Compare a [op] [b] pos) (Jy (Ck r ta tb)):=by
 intro pins s σ H Q I h;refine wpAny_isTrue_Compare1 (aw (ha pins s σ H _ I h) λv s1 zq0=> ?_) hm;let⟨x,H1,I1,r1,q1⟩:=zq0;refine aw (hb pins s1 σ H1 _ I1 q1) λu s2 zq1=> ?_;let⟨y,H2,I2,r2,q2⟩:=zq1;refine aw (ho pins s2 σ H2 x y v u _ I2 r1 r2 q2) λc s3 zq2=> ?_;let⟨z,H3,I3,r3,k,e,q3⟩:=zq2;subst e;cases r3;exact abx ⟨H3,I3,q3⟩
def Ak (K:PySem.W.Frag) (x:V) (H:Hp) (k:Bool):Prop:=
 match x with
 | .non=>k=false
 | .bl b=>k=b
 | .int i=>k=(i !=0)
 | .str y=>y.length<=sizeLine/\k=((y.length:Int) !=0)
 | .byt y=>y.size<=sizeLine/\k=((y.size:Int) !=0)
 | .ref p=>(∃xs,bK K H p xs/\k= !xs.isEmpty)∨(∃xs,cO K H p xs/\k= !xs.isEmpty)∨∃kvs,H p=some (.dK kvs)/\k= !kvs.isEmpty
 |_=>False
theorem vQ {κ:Type} {kvs:List (κ×V)} {vs:List (κ×Value)} (r:KV kvs vs):(!vs.isEmpty)= !kvs.isEmpty:=by
 cases r<;>rfl
theorem mP {xs:List V} {its:List Value} (r:Vals xs its):(!its.toArray.isEmpty)= !xs.isEmpty:=by
 cases r<;>simp
theorem gu:(sizeLine:Nat)<2^63:=by rw[abE];decide
theorem FD:LJ X (λx H Q=>∃k,Ak X.K x H k/\Q k H):=by
 intro pins s σ H x v Q I rx h;let⟨k,e,q⟩:=h;have hl:=gu;have hs:sizeLine=16777216:=abE
 cases x with
 |non=>
  cases rx;have e':k=false:=e;subst e';exact truthy_none ⟨H,I,q⟩
 |bl b=>
  cases rx;have e':k=b:=e;subst e';exact abx ⟨H,I,q⟩
 |int i=>
  let⟨t,rfl⟩:=rx;have e':k=(i !=0):=e;subst e';exact PySem.P.truthy_int ⟨H,I,q⟩
 |str y=>
  let⟨t,rfl⟩:=rx;obtain⟨hy,e'⟩:y.length<=sizeLine/\k=((y.length:Int) !=0):=e;subst e';exact PySem.P.truthy_str (by lia) ⟨H,I.tok _,q⟩
 |byt y=>
  let⟨t,rfl⟩:=rx;obtain⟨hy,e'⟩:y.size<=sizeLine/\k=((y.size:Int) !=0):=e;subst e';exact PySem.W.truthy_bytes (by lia) ⟨H,I.tok _,q⟩
 |ref p=>
  cases rx;have e':(∃xs,bK X.K H p xs/\k= !xs.isEmpty)∨(∃xs,cO X.K H p xs/\k= !xs.isEmpty)∨∃kvs,H p=some (.dK kvs)/\k= !kvs.isEmpty:=e
  rcases e' with⟨xs,hx,e'⟩|⟨xs,hx,e'⟩|⟨kvs,hx,e'⟩
  ·subst e';let⟨its,r,pl,hz⟩:=I.list hx;have hlen:=r.length;exact wpAny_truthy_list pl.isList (by simp only[aak];lia) ⟨H,I.tok _,by rw[mP r];exact q⟩
  ·subst e';let⟨its,r,pl,hz⟩:=I.tuple hx;have hlen:=r.length;exact truthy_tuple pl (by simp only[aak];lia) ⟨H,I.tok _,by rw[mP r];exact q⟩
  ·subst e';obtain⟨hz,hS,vs,r,m⟩:kvs.length<=sizeLine/\(p==sysModules)=false/\∃vs,KV kvs vs/\s.heap.DictOf (aJ X.prog X.w) p vs:=I.ah p _ hx;have hlen:kvs.length=vs.length:=abg r;exact wpAny_truthy_dict hS m (by lia) ⟨H,I.tok _,by rw[vQ r];exact q⟩
 |_=>exact(show False from e).elim
theorem zN (ha:PE X a ta) (he:∀whole,isTrue a X.env whole=(do let v←whole;standAt a.pos;holding [v] (truthy v))):
  PT X a (λσ H Q=>ta σ H λx H'=>∃k,Ak X.K x H' k/\Q k H'):=by
 intro pins s σ H Q I h;exact isTrue_plain (aw (ha pins s σ H _ I h) λv s1 z902=>by let⟨x,H1,I1,r1,q1⟩:=z902;exact FD pins s1 σ H1 x v Q I1 r1 q1) (he _)
theorem vB:aF X (binaryOp .Add) (λx y H Q=>∃i j,x= .str i/\y= .str j/\i.length+j.length<=sizeLine/\Q (.str (i++j)) H):=by
 intro pins s σ H x y v u Q I rx ry h;let⟨i,j,rfl,rfl,hz,q⟩:=h;let⟨t,rfl⟩:=rx;let⟨t',rfl⟩:=ry;exact add_str (λt' tk=>⟨.str (i++j),H,I.tok _,⟨_,rfl⟩,q⟩) hz
theorem vals1 {x:V} {us:List Value} (r:Vals [x] us):∃u,us=[u]/\RelV x u:=by
 cases r with
 |cons r1 r2=>cases r2;exact⟨_,rfl,r1⟩
theorem vals2 {x y:V} {us:List Value} (r:Vals [x,y] us):∃u w',us=[u,w']/\RelV x u/\RelV y w':=by
 cases r with
 |cons r1 r2=>
  cases r2 with
  |cons r3 r4=>cases r4;exact⟨_,_,rfl,r1,r3⟩
theorem Av:ar X (.builtin "abs") (λxs H Q=>∃i,xs=[.int i]/\Q (.int (if i<0 then-i else i)) H):=by
 intro pins s σ H xs us Q I r h;let⟨i,rfl,q⟩:=h;let⟨u,rfl,t,rfl⟩:=vals1 r;exact call_abs_int λu tk=>⟨.int (if i<0 then-i else i),H,I.tok _,⟨_,rfl⟩,q⟩
theorem yr (hc:X.calm=true):ar X (.builtin "max") (λxs H Q=>∃i j,xs=[.int i, .int j]/\Q (.int (if j>i then j else i)) H):=by
 intro pins s σ H xs us Q I r h;let⟨i,j,rfl,q⟩:=h;let⟨u,w',rfl,⟨t,rfl⟩,⟨t',rfl⟩⟩:=vals2 r;refine max_two_ints (I.ok.hd hc) λh' tk k=>⟨_,H,I.kept k, ?_,q⟩
 by_cases hj:j>i
 ·rw[if_pos hj,if_pos hj];exact⟨_,rfl⟩
 ·rw[if_neg hj,if_neg hj];exact⟨_,rfl⟩
theorem xZ (hc:X.calm=true):ar X (.builtin "min") (λxs H Q=>∃i j,xs=[.int i, .int j]/\Q (.int (if j<i then j else i)) H):=by
 intro pins s σ H xs us Q I r h;let⟨i,j,rfl,q⟩:=h;let⟨u,w',rfl,⟨t,rfl⟩,⟨t',rfl⟩⟩:=vals2 r;refine min_two_ints (I.ok.hd hc) λh' tk k=>⟨_,H,I.kept k, ?_,q⟩
 by_cases hj:j<i
 ·rw[if_pos hj,if_pos hj];exact⟨_,rfl⟩
 ·rw[if_neg hj,if_neg hj];exact⟨_,rfl⟩
theorem yg:ar X (.type "int") (λxs H Q=>(∃i,xs=[.int i]/\Q (.int i) H)∨∃k,xs=[.bl k]/\Q (.int (if k then 1 else 0)) H):=by
 intro pins s σ H xs us Q I r h
 rcases h with⟨i,rfl,q⟩|⟨k,rfl,q⟩
 ·let⟨u,rfl,t,rfl⟩:=vals1 r;exact call_int_int ⟨.int i,H,I,⟨_,rfl⟩,q⟩
 ·let⟨u,rfl,r1⟩:=vals1 r;cases r1;exact call_int_bool ⟨.int (if k then 1 else 0),H,I.tok _,⟨_,rfl⟩,q⟩
end
structure ObjM (h:Heap) (x dx C:Addr) (mA:Str->Option Value):Prop where
 obj:h.get? x=some (PySem.W.instObj C dx)
 ns:h.Ns1 dx mA
 ne:dx≠x
theorem yp {h:Heap} {mA:Str->Option Value} (n:h.Ns1 dx mA):∃od,h.get? dx=some od/\∀name,PySem.W.lookIn name od=some (mA name):=by
 let⟨o,es,ep,ho,hd,hk,_,hm⟩:=n;refine⟨o,ho,λname=> ?_⟩;have e:=hm name;unfold nsFind findBy at e;rw[←Array.find?_toList] at e;unfold PySem.W.lookIn;rw[hd];dsimp only;split
 ·rename_i y q;rw[q] at e;exact congrArg some e
 ·rename_i q;rw[q] at e
  have a:es.toList.any (·.refKey)=false:=by
   rw[List.any_eq_false];intro y hy;let⟨z,t,hkey⟩:=hk y (Array.mem_toList_iff.mp hy);simp[DictEntry.refKey,hkey]
  have a':¬es.toList.any (·.refKey)=true:=by rw[a];exact aaq
  rw[if_neg a'];exact congrArg some e
theorem ObjM.look {x C:Addr} {mA:Str->Option Value} (I:ObjM h x dx C mA):∃od,PySem.W.InstAt h x (PySem.W.instObj C dx) C (some od)/\∀name,PySem.W.lookIn name od=some (mA name):=
 let ⟨od,ho,hl⟩:=yp I.ns
 ⟨od,⟨I.obj,rfl,rfl,ho⟩,hl⟩
section
variable {prog:Program} {w:World} {A:Around} {E:Value->Shared->Prop} {s:Shared} {K:PySem.W.Frag} {x dx C f:Addr} {mA:Str->Option Value} {name:Str} {v:Value}
theorem get_map {expr:Bool} {Q:Value->Shared->Prop} (X:K.In s.heap) (I:ObjM s.heap x dx C mA) (hg:PySem.W.plainGet K C name=true) (hh:PySem.W.hasDictIn K C=true)
  (ha:PySem.W.findIn K (.ref C) name=some none) (hv:mA name=some v) (hv':PySem.W.handedIn v=true) (h:Q v {s with toks:=s.toks+1}):
  wpAny (model prog w) A (getAttr (.ref x) name expr) Q E s:=by
 let⟨od,J,hl⟩:=I.look;exact PySem.W.get_value X J (PySem.W.plainGet_of hg).1 (PySem.W.findObj_own hh ha rfl (by rw[hl,hv])) hv' h
theorem Di {ns:List Str} {Q:Unit->Shared->Prop} (X:K.In s.heap) (I:ObjM s.heap x dx C mA)
  (hs:PySem.W.findIn K (.ref C) "__setattr__"=some (some (.builtin "object.__setattr__"))) (hp:PySem.W.plainOver K C=true) (ht:PySem.W.takerIn K C name=some none) (hh:PySem.W.hasDictIn K C=true)
  (hw:PySem.Within mA ns) (hsz:ns.length<=sizeLine)
  (h:∀h',ObjM h' x dx C (λy=>if y=name then some v else mA y)->Heap.SameBut dx s.heap h'->Q () {s with heap:=h',toks:=s.toks+2}):
  wpAny (model prog w) A (setAttr (.ref x) name v) Q E s:=by
 let⟨od,J,hl⟩:=I.look;refine PySem.W.set_plain X J hs (PySem.W.osa_open (s:={s with toks:=s.toks+1}) (r:=none) X J hp ht λb=> ?_);let⟨cd,hc,hd'⟩:=PySem.W.any_some hh;have hx:s.heap.get? x=some ⟨.ref C,some dx, .plain,#[]⟩:=I.obj;refine aaa (aaf (aaa (aaa (wpAny_loadPart hx (aaa (PySem.W.Looks.here (s:={s with toks:=s.toks+1}) (PySem.W.looks_clsIn X hc) ?_))))));rw[hd'];refine aaf (a:=some dx) (aaa (aaf (aaa ?_)));refine wpAny_nsSet1 (s:={s with toks:=s.toks+1}) I.ns λh' hn2 hs2=> ?_;let⟨oD,esD,epD,hoD,hdD,hcD⟩:=hn2.count (PySem.Within.cons name v hw);refine aaa (wpAny_lookBehind hoD (by rw[hdD];exact pastItsLine_dict (aaL hcD (by rw[aaw];lia))) ?_);exact aaf (h _ ⟨(hs2.2 _ (Ne.symm I.ne)).trans I.obj,hn2,I.ne⟩ hs2)
theorem zS {R:Result->Shared->Prop} {vs:List Value} {kw:List (Str×Value)} (X:K.In s.heap) (hm:PySem.W.makesIn K C=true)
  (hi:PySem.W.findIn K (.ref C) "__init__"=some (some (.ref f))) (hf:PySem.W.typeIn K (.ref f)=some (.type "function"))
  (h:codeAny (model prog w) (A.under (.builtin "type.__call__" ⟨.ref C::vs,kw⟩)) (.call (.ref f) ⟨.ref (s.heap.objs.size+1)::vs,kw⟩) (PySem.W.InitBack (s.heap.objs.size+1) R)
   {s with heap:=(s.heap.push PySem.W.emptyDict).push (PySem.W.instObj C s.heap.objs.size)}):
  codeAny (model prog w) A (.call (.ref C) ⟨vs,kw⟩) R s:=by
 let⟨hh,g,d,t,os⟩:=s;exact PySem.W.make_core (PySem.W.makes_of X hm) (PySem.W.looks_findIn X hi) (λself=>PySem.W.bind_fn X self hf) (.inl rfl) h
end
noncomputable def aU (f:Str) (v:V):List (Str×V)->List (Str×V)
 |[]=>[(f,v)]
 |(g,x)::r=>if g=f then (g,v)::r else (g,x)::aU f v r
theorem kK (f g:Str) (v:V):∀fs:List (Str×V),(aU f v fs).lookup g=if g=f then some v else fs.lookup g
 |[]=>by
  show List.lookup g [(f,v)]=_
  by_cases h:g=f
  ·have hb:(g==f)=true:=beq_iff_eq.mpr h;simp only[List.lookup,hb,if_pos h]
  ·have hb:(g==f)=false:=beq_eq_false_iff_ne.mpr h;simp only[List.lookup,hb,if_neg h]
 |(k,x)::r=>by
  have ih:=kK f g v r;rw[show aU f v ((k,x)::r)=(if k=f then (k,v)::r else (k,x)::aU f v r) from rfl]
  by_cases hk:k=f
  ·rw[if_pos hk]
   by_cases h:g=k
   ·have hb:(g==k)=true:=beq_iff_eq.mpr h;simp only[List.lookup,hb,if_pos (h.trans hk)]
   ·have hb:(g==k)=false:=beq_eq_false_iff_ne.mpr h;simp only[List.lookup,hb,if_neg (λe:g=f=>h (e.trans hk.symm))]
  ·rw[if_neg hk]
   by_cases h:g=k
   ·have hb:(g==k)=true:=beq_iff_eq.mpr h;simp only[List.lookup,hb,if_neg (λe:g=f=>hk (h.symm.trans e))]
   ·have hb:(g==k)=false:=beq_eq_false_iff_ne.mpr h;simp only[List.lookup,hb];exact ih
theorem jw (f:Str) (v:V):∀fs:List (Str×V),f∈(aU f v fs).map (·.1)/\∀g,g∈fs.map (·.1)->g∈(aU f v fs).map (·.1)
 |[]=>⟨by simp[aU],λg h=>by simp at h⟩
 |(k,x)::r=>by
  let⟨i1,i2⟩:=jw f v r;rw[show aU f v ((k,x)::r)=(if k=f then (k,v)::r else (k,x)::aU f v r) from rfl]
  by_cases hk:k=f
  ·rw[if_pos hk];subst hk;exact⟨by simp,λg h=>by simpa using h⟩
  ·rw[if_neg hk];refine⟨?_,λg h=> ?_⟩
   ·rw[aay];exact aat _ i1
   ·rw[aay] at h⊢
    rcases aap.mp h with e|e
    ·exact aap.mpr (.inl e)
    ·exact aat _ (i2 g e)
theorem kU (f:Str) (v:V):∀fs:List (Str×V),(aU f v fs).length<=fs.length+1
 |[]=>by simp[aU]
 |(k,x)::r=>by
  have ih:=kU f v r;rw[show aU f v ((k,x)::r)=(if k=f then (k,v)::r else (k,x)::aU f v r) from rfl]
  by_cases hk:k=f
  ·rw[if_pos hk,aaw,aaw];lia
  ·rw[if_neg hk,aaw,aaw];lia
theorem dP.some_of {v:V} {o:Option Value} (r:dP (some v) o):∃u,o=some u/\RelV v u:=by
 cases o with
 |none=>exact(show False from r).elim
 |some u=>exact⟨u,rfl,r⟩
theorem xM {v:V} {u:Value} (r:RelV v u):PySem.W.handedIn u=true:=by
 cases v with
 |non=>cases (show u=Value.none from r);rfl
 |bl b=>cases (show u=Value.bool b from r);rfl
 |int i=>let⟨t,e⟩:=(show∃t,u=Value.int i t from r);cases e;rfl
 |str x=>let⟨t,e⟩:=(show∃t,u=Value.str x t from r);cases e;rfl
 |byt b=>let⟨t,e⟩:=(show∃t,u=Value.bytes b t from r);cases e;rfl
 |flt b=>let⟨t,e⟩:=(show∃t,u=Value.float b t from r);cases e;rfl
 |ref a=>cases (show u=Value.ref a from r);rfl
 |ty n=>cases (show u=Value.type n from r);rfl
section
variable {P:Program} {w:World} {H H':Hp} {h h':Heap} {a C dx:Addr} {fs fs':List (Str×V)}
theorem oh (ah:bH P w H h) (e:H a=some (.ins C dx fs)):∃mA,ObjM h a dx C mA/\(∀f,dP (fs.lookup f) (mA f))/\PySem.Within mA (fs.map (·.1))/\fs.length<=1000/\H dx=some (.own a):=by
 let⟨d,z,ne,ob,mA,n,r,q⟩:=(show aL P w H h a (.ins C dx fs) from ah a _ e);exact⟨mA,⟨ob,n,ne⟩,r,q,z,d⟩
end
structure Cls (K:PySem.W.Frag) (C:Addr):Prop where
 pg:PySem.W.plainGet K C Str.empty=true
 hd:PySem.W.hasDictIn K C=true
 po:PySem.W.plainOver K C=true
 sa:PySem.W.findIn K (.ref C) "__setattr__"=some (some (.builtin "object.__setattr__"))
theorem Cls.get {K:PySem.W.Frag} {C:Addr} (c:Cls K C) (f:Str):PySem.W.plainGet K C f=true:=c.pg
def dZ (K:PySem.W.Frag) (C:Addr) (f:Str):Prop:=PySem.W.findIn K (.ref C) f=some none
theorem dZ.IF {K:PySem.W.Frag} {C:Addr} {f:Str} (n:dZ K C f):PySem.W.takerIn K C f=some none:=by
 unfold PySem.W.takerIn;rw[show PySem.W.findIn K (.ref C) f=some none from n];rfl
structure Con (K:PySem.W.Frag) (C:Addr) (f:Str) (v:V) (u:Value):Prop where
 at_:PySem.W.findIn K (.ref C) f=some (some u)
 rel:RelV v u
 get:PySem.W.specialIn K u "__get__"=some none
 cp:PySem.W.copiedNames.contains f=false
structure Meth (K:PySem.W.Frag) (C:Addr) (m:Str) (f:Addr):Prop where
 at_:PySem.W.findIn K (.ref C) m=some (some (.ref f))
 fn:PySem.W.isFn K (.ref f)=true
 kp:PySem.W.keepIn K (.ref f)=true
section
variable {X:Cx} {pins:List (Addr×Obj)} {σ:St} {H:Hp} {s:Shared} {a C dx:Addr} {fs:List (Str×V)} {f:Str} {v:V} {A:Around} {E:Value->Shared->Prop}
theorem wI {b:Bool} {Q:Value->Shared->Prop} (I:Inv X pins σ H s) (e:H a=some (.ins C dx fs)) (c:Cls X.K C) (n:dZ X.K C f) (l:fs.lookup f=some v)
  (h:∀u s',Inv X pins σ H s'->RelV v u->Q u s'):wpAny (model X.prog X.w) A (getAttr (.ref a) f b) Q E s:=by
 let⟨mA,O,r,_,_,_⟩:=oh I.ah e;let⟨u,hu,ru⟩:=dP.some_of (v:=v) (o:=mA f) (by rw[←l];exact r f);exact get_map I.cB O (c.get f) c.hd n hu (xM ru) (h u _ (I.tok _) ru)
theorem vZ {y:V} {u:Value} {Q:Unit->Shared->Prop} (I:Inv X pins σ H s) (e:H a=some (.ins C dx fs)) (c:Cls X.K C) (n:dZ X.K C f) (hl:fs.length<1000) (ry:RelV y u)
  (h:∀s',Inv X pins σ (upd H a (.ins C dx (aU f y fs))) s'->Q () s'):wpAny (model X.prog X.w) A (setAttr (.ref a) f u) Q E s:=by
 let⟨mA,O,r,wi,_,ho⟩:=oh I.ah e
 have hz:(fs.map (·.1)).length<=sizeLine:=by rw[List.length_map,abE];lia
 refine Di I.cB O c.sa c.po n.IF c.hd wi hz λh' O' sb=>h _ ?_
 have hd:∃o,h'.get? dx=some o:=let ⟨o,_,_,e',_⟩:=O'.ns;⟨o,e'⟩
 refine I.write (x:=a) (e:=dx) (by rw[e];exact True.intro) (.inr ho) (λb q hb z=>(sb.2 b hb).trans z) hd ?_;refine⟨by rw[aq O.ne];exact ho, ?_,O.ne,O'.obj,_,O'.ns,λg=> ?_,λg hg=> ?_⟩
 ·have:=kU f y fs;lia
 ·show dP ((aU f y fs).lookup g) (if g=f then some u else mA g);rw[kK]
  by_cases q:g=f
  ·rw[if_pos q,if_pos q];exact ry
  ·rw[if_neg q,if_neg q];exact r g
 ·by_cases q:g=f
  ·rw[q];exact(jw f y fs).1
  ·refine(jw f y fs).2 g (wi g λz=>hg ?_);show (if g=f then some u else mA g)=none;rw[if_neg q];exact z
theorem Inv.made (I:Inv X pins σ H s):Inv X pins σ (upd (upd H s.heap.objs.size (.own (s.heap.objs.size+1))) (s.heap.objs.size+1) (.ins C s.heap.objs.size []))
  {s with heap:=(s.heap.push PySem.W.emptyDict).push (PySem.W.instObj C s.heap.objs.size)}:=by
 have e1:(s.heap.push PySem.W.emptyDict).get? s.heap.objs.size=some PySem.W.emptyDict:=aai s.heap rfl
 have e2:((s.heap.push PySem.W.emptyDict).push (PySem.W.instObj C s.heap.objs.size)).get? (s.heap.objs.size+1)=some (PySem.W.instObj C s.heap.objs.size):=by
  have:=aai (s.heap.push PySem.W.emptyDict) (o:=PySem.W.instObj C s.heap.objs.size) rfl;rwa[aaN] at this
 have e3:(s.heap.push PySem.W.emptyDict).Ns s.heap.objs.size (λ_=>none):=⟨PySem.W.emptyDict,#[],_,e1,rfl,(λe he=>absurd he (by simp)),λ_=>rfl⟩;have I1:=I.laid (a:=s.heap.objs.size) (o:= .own (s.heap.objs.size+1)) (h':=s.heap.push PySem.W.emptyDict) (t':=s.toks) (λb u q=>aad _ q) (aah _) ⟨_,e1⟩;refine I1.laid (a:=s.heap.objs.size+1) (o:= .ins C s.heap.objs.size []) (t':=s.toks) (λb u q=>aad _ q) (ac4 (aaN _ _)) ?_;have ne:s.heap.objs.size≠s.heap.objs.size+1:=aau (acb _);refine⟨by rw[aq ne,ak],aaV _,ne,e2,λ_=>none,(Heap.Ns1.of_empty e3).at λo q=>aad _ q,λ_=>True.intro,λy hy=>absurd rfl hy⟩
theorem D5 {w:World} {env:Env} {e:Expr} {f:Str} {s:Shared} {Q:Value->Shared->Prop} (hb:attributeBase e f env (eval e env)=eval e env)
  (h:wpAny (model prog w) A (eval e env) (λo s₁=>wpAny (model prog w) A (getAttr o f true) Q E s₁) E s):wpAny (model prog w) A (eval (.Attribute e f pos) env) Q E s:=
 Attribute_any_ h (by rw[arm_eval_Attribute,hb])
end
def L8 (K:PySem.W.Frag) (ta:TE) (f:Str):TE:=λσ H Q=>ta σ H λx H1=>∃a C dx fs v,x= .ref a/\H1 a=some (.ins C dx fs)/\Cls K C/\dZ K C f/\fs.lookup f=some v/\Q v H1
def L5 (K:PySem.W.Frag) (ta tv:TE) (f:Str):TS:=λD σ H=>tv σ H λy H1=>ta σ H1 λx H2=>∃a C dx fs,x= .ref a/\H2 a=some (.ins C dx fs)/\Cls K C/\dZ K C f/\fs.length<1000/\
 D.nx σ (upd H2 a (.ins C dx (aU f y fs)))
section
variable {X:Cx} {o e value:Expr} {f:Str} {pos pos' tpos:Pos} {ta tv:TE}
theorem EG (he:PE X e ta) (hb:attributeBase e f X.env (eval e X.env)=eval e X.env):PE X (.Attribute e f pos) (L8 X.K ta f):=by
 intro pins s σ H Q I h;refine D5 hb (aw (he pins s σ H _ I h) λu s1 z902=> ?_);let⟨x,H1,I1,rx,a,C,dx,fs,v,ex,ea,c,n,l,q⟩:=z902;subst ex;obtain rfl:u=Value.ref a:=rx;exact wI I1 ea c n l λu' s2 I2 ru=>⟨v,H1,I2,ru,q⟩
theorem EI (ha:PE X o ta) (hv:PE X value tv) (hs:swapsWith value (some (.Attribute o f pos')) pos.line X.env=pure false):PS X (.Assign [.Attribute o f pos'] value pos) (L5 X.K ta tv f):=by
 intro pins s σ H D I h;refine plainObj_wpAny_Assign_Attribute (aw (hv pins s σ H _ I h) λu s1 zq3=> ?_) hs;let⟨y,H1,I1,ry,q⟩:=zq3;refine aw (ha pins s1 σ H1 _ I1 q) λov s2 zq4=> ?_;let⟨x,H2,I2,rx,a,C,dx,fs,ex,ea,c,n,l,q2⟩:=zq4;subst ex;obtain rfl:ov=Value.ref a:=rx;exact vZ I2 ea c n l ry λs3 I3=>⟨σ,_,I3,q2⟩
end
section
variable {X:Cx} {pins:List (Addr×Obj)} {σ:St} {H:Hp} {s:Shared} {A:Around} {E:Value->Shared->Prop} {Q:Value->Shared->Prop} {c:Value} {b:Bool}
inductive eP (K:PySem.W.Frag) (H:Hp):V->Value->Prop where
 |non:eP K H .non (.type "NoneType")
 |bl (x:Bool):eP K H (.bl x) (.type "bool")
 |int (i:Int):eP K H (.int i) (.type "int")
 |str (x:Str):eP K H (.str x) (.type "str")
 |flt (x:UInt64):eP K H (.flt x) (.type "float")
 |lst {a:Addr} {xs:List V} (e:H a=some (.lst xs)):eP K H (.ref a) (.type "list")
 |aD {a:Addr} {o:Obj} {xs:List V} (e:H a=some (.aD o (.lst xs))):eP K H (.ref a) (.type "list")
 |tup {a:Addr} {xs:List V} (e:H a=some (.tup xs)):eP K H (.ref a) (.type "tuple")
 |dK {a:Addr} {kvs:List (Key×V)} (e:H a=some (.dK kvs)):eP K H (.ref a) (.type "dict")
 |dT {a:Addr} {kvs:List (List Key×V)} (e:H a=some (.dT kvs)):eP K H (.ref a) (.type "dict")
 |ins {a C dx:Addr} {fs:List (Str×V)} (e:H a=some (.ins C dx fs)) (cl:Cls K C) (ha:PySem.W.findIn K (.ref C) "__class__"=some (some (.builtin "object.__class__")))
  (hn:PySem.W.specialIn K (.builtin "object.__class__") "__get__"=some (some (.builtin "getset_descriptor.__get__"))) (htk:PySem.W.takesIn K (.builtin "object.__class__")=some true)
  (hm:PySem.W.mroIn K C (.type "object")=some true):eP K H (.ref a) (.ref C)
theorem yZ {x:V} {u t:Value} (I:Inv X pins σ H s) (rx:RelV x u) (ty:eP X.K H x t) (e:PySem.W.kitOne X.K t c=some b) (h:∀tk,Q (.bool b) {s with toks:=tk}):
  wpAny (model X.prog X.w) A (call (.builtin "isinstance") [u,c]) Q E s:=by
 cases ty with
 |non=>cases (show u=Value.none from rx);exact aaM PySem.W.kitx_none I.cB True.intro e (λz=>nomatch z) h
 |bl y=>cases (show u=Value.bool y from rx);exact aaM PySem.W.kitx_bool I.cB True.intro e (λz=>nomatch z) h
 |int i=>let⟨t,q⟩:=(show∃t,u=Value.int i t from rx);cases q;exact aaM PySem.W.kitx_int I.cB True.intro e (λz=>nomatch z) h
 |str y=>let⟨t,q⟩:=(show∃t,u=Value.str y t from rx);cases q;exact aaM PySem.W.kitx_str I.cB True.intro e (λz=>nomatch z) h
 |flt y=>let⟨t,q⟩:=(show∃t,u=Value.float y t from rx);cases q;exact aaM PySem.W.kitx_float I.cB True.intro e (λz=>nomatch z) h
 | @lst a xs ea=>
  cases (show u=Value.ref a from rx);let⟨_,_,n,_,h1⟩:=(show aL X.prog X.w H s.heap a (.lst xs) from I.ah a _ ea);exact aaM acY I.cB ⟨_,h1,rfl⟩ e (λz=>nomatch z) h
 | @aD a ob xs ea=>
  cases (show u=Value.ref a from rx);let⟨_,_,_,n,_,h1⟩:=(show aL X.prog X.w H s.heap a (.aD ob (.lst xs)) from I.ah a _ ea);exact aaM acY I.cB ⟨_,h1,rfl⟩ e (λz=>nomatch z) h
 | @tup a xs ea=>
  cases (show u=Value.ref a from rx);let⟨_,_,_,p⟩:=(show aL X.prog X.w H s.heap a (.tup xs) from I.ah a _ ea);let⟨o,h1,h2,_⟩:=p;exact aaM PySem.W.kitx_tuple I.cB ⟨o,h1,h2⟩ e (λz=>nomatch z) h
 | @dK a kvs ea=>
  cases (show u=Value.ref a from rx);let⟨_,_,vs,_,p⟩:=(show aL X.prog X.w H s.heap a (.dK kvs) from I.ah a _ ea);let⟨o,es,ep,h1,h2,_⟩:=p;exact aaM acr I.cB ⟨o,h1,h2.1⟩ e (λz=>nomatch z) h
 | @dT a kvs ea=>
  cases (show u=Value.ref a from rx);let⟨_,_,xs,_,o,es,ep,h1,h2,_⟩:=(show aL X.prog X.w H s.heap a (.dT kvs) from I.ah a _ ea);exact aaM acr I.cB ⟨o,h1,h2.1⟩ e (λz=>nomatch z) h
 | @ins a C dx fs ea cl ha hn htk hm=>
  cases (show u=Value.ref a from rx);let⟨mA,O,_⟩:=oh I.ah ea;let⟨od,J,_⟩:=O.look;exact aaM (PySem.W.kitx_own (cl.get _) cl.hd ha hn htk hm) I.cB J e (λz=>nomatch z) h
end
structure Room (k:Nat) (A:Around):Prop where
 hd:A.handled=none
 dp:A.depth+3*k+5<recursionLimit
 un:A.units+16*k+200<cLine
theorem Room.mono {j k:Nat} {A:Around} (r:Room k A) (h:j<=k):Room j A:=⟨r.hd,by have:=r.dp;lia,by have:=r.un;lia⟩
theorem Room.deeper {k:Nat} {A:Around} (r:Room (k+1) A) (env:Env):Room k (A.deeper env):=
 ⟨r.hd,by have:=r.dp;show A.depth+1+3*k+5<_;lia,by have:=r.un;show A.units+3+16*k+200<_;lia⟩
theorem Room.in1 {k:Nat} {A:Around} (r:Room (k+1) A):Room k A.in1:=
 ⟨r.hd,by have:=r.dp;show A.depth+3*k+5<_;lia,by have:=r.un;show A.units+1+16*k+200<_;lia⟩
theorem wm {A:Around} {C:Addr} {us:List Value} {kw:List (Str×Value)}:(A.under (.builtin "type.__call__" ⟨.ref C::us,kw⟩)).depth=A.depth+1:=by
 first|rfl|simp[Around.under,Code.weight,Code.isCreation,Code.isGuard,Code.isCaller,Code.frames,Code.isFrame,guardIds]
theorem wy {A:Around} {C:Addr} {us:List Value} {kw:List (Str×Value)}:(A.under (.builtin "type.__call__" ⟨.ref C::us,kw⟩)).units=A.units+1:=by
 first|rfl|simp[Around.under,Code.cUnits,Code.frames,Code.isFrame]
theorem Room.make {k:Nat} {A:Around} (r:Room (k+1) A) (C:Addr) (us:List Value) (kw:List (Str×Value)):Room k (A.under (.builtin "type.__call__" ⟨.ref C::us,kw⟩)):=
 ⟨r.hd,by have:=r.dp;rw[wm];lia,by have:=r.un;rw[wy];lia⟩
theorem Room.depth {k:Nat} {A:Around} (r:Room k A):A.depth<recursionLimit:=by have:=r.dp;lia
def wB:TA:=λ_ H Q=>Q [] H
def qj (ta:TE) (tr:TA):TA:=λσ H Q=>ta σ H λx H1=>tr σ H1 λxs H2=>Q (x::xs) H2
section
variable {X:Cx} {e:Expr} {es:List Expr} {te:TE} {t:TA} {pos:Pos}
theorem jR:PA X [] wB:=λ_ _ _ _ H Q I h=>acZ ⟨[],H,I, .nil,h⟩
theorem fY (ha:PE X e te) (hr:PA X es t) (hs:starEach (e::es) X.env=(false,eval e X.env)::starEach es X.env:=by rfl):PA X (e::es) (qj te t):=by
 intro pos pins s σ H Q I h;rw[hs];show wpAny _ _ (spliced ((false,eval e X.env)::backTo pos (starEach es X.env))) _ _ s;refine ack (aw (ha pins s σ H _ I h) λu s1 z902=> ?_);let⟨x,H1,I1,r1,q1⟩:=z902
 exact aw (hr pos pins s1 σ H1 _ I1 q1) λus s2 z902=>by let⟨xs,H2,I2,r2,q2⟩:=z902;exact⟨x::xs,H2,I2, .cons r1 r2,q2⟩
def Lx (t:TA):TE:=λσ H Q=>t σ H λxs H1=>xs.length<=sizeLine/\∀p,H1 p=none->Q (.ref p) (upd H1 p (.tup xs))
def KS (t:TA):TE:=λσ H Q=>t σ H λxs H1=>xs.length<=sizeLine/\∀p,H1 p=none->Q (.ref p) (upd H1 p (.lst xs))
theorem GD {x1} (h:PA X es t):PE X (.Tuple es x1 pos) (Lx t):=by
 intro pins s σ H Q I hq;refine wpAny_Tuple_spliced (aw (h pos pins s σ H _ I hq) λus s1 zq5=> ?_);let⟨xs,H1,I1,r,z,q⟩:=zq5;refine⟨by rw[←r.length];exact z, ?_⟩;have hf:H1 s1.heap.objs.size=none:=I1.ah.fresh (aah _);refine⟨.ref s1.heap.objs.size,upd H1 s1.heap.objs.size (.tup xs),I1.laid (t':=s1.toks) (λb u e=>aad _ e) (aah _) ?_,rfl,q _ hf⟩;exact⟨z,us,r,⟨_,aai _ rfl,rfl,_,rfl⟩⟩
theorem EO (h:PA X es t):PE X (.List es pos) (KS t):=by
 intro pins s σ H Q I hq;refine wpAny_List_spliced (aw (h pos pins s σ H _ I hq) λus s1 zq6=> ?_);let⟨xs,H1,I1,r,z,q⟩:=zq6;refine⟨by rw[←r.length];exact z, ?_⟩;have hf:H1 s1.heap.objs.size=none:=I1.ah.fresh (aah _);refine⟨.ref s1.heap.objs.size,upd H1 s1.heap.objs.size (.lst xs),I1.laid (t':=s1.toks) (λb u e=>aad _ e) (aah _) ?_,rfl,q _ hf⟩;exact⟨z,us,0,r,aai _ rfl⟩
end
abbrev Sp:=List V->Hp->VK->XK->Prop
abbrev k6:=List Env->Hp->Shared->XK->Value->Shared->Prop
structure Env0 (P:Program) (w:World) (K:PySem.W.Frag) (mg:Str->Option Value) (base:Heap) (A:Around) (outer:List Env) (s:Shared) (H:Hp):Prop where
 frames:A.frames=some outer
 mod:Mod K mg base
 bs:∀b o,base.get? b=some o->s.heap.get? b=some o/\H b=none
 bsz:base.objs.size<=s.heap.objs.size
 cW:s.heap.FunFrames base outer
 frf:∀b∈cM outer,H b=none
 ah:bH P w H s.heap
 bare:AllBare s.gens
def CE (outer:List Env) (P:Program) (w:World) (H:Hp) (s:Shared) (Q:VK) (u:Value) (s':Shared):Prop:=
 ∃v H',s'.os=s.os/\AllBare s'.gens/\Un (cM outer) [] H H' s.heap s'.heap/\bH P w H' s'.heap/\RelV v u/\Q v H'
def CR (CX:k6) (outer:List Env) (P:Program) (w:World) (H:Hp) (s:Shared) (Q:VK) (E:XK) (r:Result) (s':Shared):Prop:=
 match r with
 | .ok (.ret u)=>CE outer P w H s Q u s'
 | .ok _=>False
 | .error e=>CX outer H s E e s'
structure FnOk (P:Program) (w:World) (K:PySem.W.Frag) (mg:Str->Option Value) (base:Heap) (CX:k6) (k:Nat) (f:Addr) (fd:FuncData) (ps:List Str) (sp:Sp):Prop where
 len:∀vs H Q E,sp vs H Q E->vs.length=ps.length
 run:∀(A:Around) (outer:List Env) (s:Shared) (H:Hp) (args:Args) (us:List Value) (vs:List V) (Q:VK) (E:XK),Room k A->Env0 P w K mg base A outer s H->BindsTo s fd args (ps.zip us)->Vals vs us->sp vs H Q E->
  codeAny (model P w) A (.call (.ref f) args) (CR CX outer P w H s Q E) s
theorem Env0.make {P:Program} {w:World} {K:PySem.W.Frag} {mg:Str->Option Value} {A:Around} {outer:List Env} {s:Shared} {H:Hp} (e:Env0 P w K mg base A outer s H) (C:Addr) (us:List Value) (kw:List (Str×Value)):
  Env0 P w K mg base (A.under (.builtin "type.__call__" ⟨.ref C::us,kw⟩)) outer s H:=⟨by first|exact e.frames|(simpa[Around.under,Code.envs,Code.isFrame,pushEnvs] using e.frames),e.mod,e.bs,e.bsz,e.cW,e.frf,e.ah,e.bare⟩
theorem Env0.in1 {P:Program} {w:World} {K:PySem.W.Frag} {mg:Str->Option Value} {A:Around} {outer:List Env} {s:Shared} {H:Hp} (e:Env0 P w K mg base A outer s H):
  Env0 P w K mg base A.in1 outer s H:=⟨e.frames,e.mod,e.bs,e.bsz,e.cW,e.frf,e.ah,e.bare⟩
section
variable {X:Cx} {pins:List (Addr×Obj)} {σ:St} {H:Hp} {s s':Shared}
theorem Inv.AE (I:Inv X pins σ H s):Env0 X.prog X.w X.K X.mg X.base X.A X.stack s H:=
 ⟨I.ok.frames,I.ok.mod,I.bs,aaL I.ok.bsz I.sz,I.stack,I.ke,I.ah,I.bare⟩
theorem Inv.after {Q:VK} {u:Value} (I:Inv X pins σ H s) (h:CE X.stack X.prog X.w H s Q u s'):EP X pins σ Q u s':=by
 let⟨v,H',os,bare,un,ah,r,q⟩:=h;let⟨hh,g,d,t,os'⟩:=s';obtain rfl:os'=s.os:=os;exact⟨v,H',I.call (h':=hh) (g':=g) (d':=d) (t':=t) (ch:=[]) un ah bare (λb z=>absurd z (by simp)),r,q⟩
end
def Binds (K:PySem.W.Frag) (fd:FuncData) (ps:List Str) (ds:List Value):Prop:=
 ∀(s:Shared) (us:List Value),K.In s.heap->(us++ds).length=ps.length->BindsTo s fd ⟨us,[]⟩ (ps.zip (us++ds))
theorem Binds.all {K:PySem.W.Frag} {ps:List Str} (h:∀us:List Value,us.length=ps.length->bindArgs fd ⟨us,[]⟩=pure (ps.zip us)):Binds K fd ps []:=λs us _ hl=>by
 rw[abc] at hl⊢;exact .of_eq (h us hl)
section
variable {X:Cx} {CX:k6} {k:Nat} {f C:Addr} {fd:FuncData} {ps:List Str} {sp:Sp} {dvs:List V} {ds:List Value} {E:XK} {x m:Str} {p pos apos:Pos} {e o:Expr} {es:List Expr} {ta:TE} {t:TA}
structure Mk (K:PySem.W.Frag) (C f:Addr):Prop where
 makes:PySem.W.makesIn K C=true
 init:PySem.W.findIn K (.ref C) "__init__"=some (some (.ref f))
 fn:PySem.W.isFn K (.ref f)=true
 kp:PySem.W.keepIn K (.ref C)=true
end
def PK (X:Cx) (kws:List Keyword) (t:TA):Prop:=
 ∀(pos:Pos) (pins:List (Addr×Obj)) (s:Shared) (σ:St) (H:Hp) (Q:List V->Hp->Prop),Inv X pins σ H s->t σ H Q->wpAny (model X.prog X.w) X.A (evalAll ((backToKw pos (keywordEach kws X.env)).map (·.2))) (AP X pins σ Q) X.xe s
section
variable {X:Cx} {CX:k6} {k:Nat} {f C:Addr} {fd:FuncData} {ps ks:List Str} {sp:Sp} {E:XK} {x m:Str} {p pos apos kpos:Pos} {e o:Expr} {es:List Expr} {kws:List Keyword} {te ta:TE} {t tk:TA} {nm:Option Str}
theorem yx:PK X [] wB:=λ_ _ _ _ H Q I h=>wpAny_evalAll_nil ⟨[],H,I, .nil,h⟩
theorem uP (ha:PE X e te) (hr:PK X kws t):PK X (⟨nm,e,kpos⟩::kws) (qj te t):=by
 intro pos pins s σ H Q I h
 show wpAny _ _ (evalAll ((do let v←eval e X.env;standAt pos;pure v)::(backToKw pos (keywordEach kws X.env)).map (·.2))) _ _ s
 refine wpAny_evalAll_cons (aaa (aw (ha pins s σ H _ I h) λu s1 zq7=> ?_));let⟨x,H1,I1,r1,q1⟩:=zq7;refine aaa (acW (aaf ?_))
 exact aw (hr pos pins s1 σ H1 _ I1 q1) λus s2 z902=>by let⟨xs,H2,I2,r2,q2⟩:=z902;exact⟨x::xs,H2,I2, .cons r1 r2,q2⟩
structure KBinds (K:PySem.W.Frag) (fd:FuncData) (ps ks:List Str) (g:List Value->List Value->List Value) (gV:List V->List V->List V):Prop where
 to:∀(s:Shared) (us ws:List Value),K.In s.heap->(g us ws).length=ps.length->BindsTo s fd ⟨us,ks.zip ws⟩ (ps.zip (g us ws))
 rel:∀{vs:List V} {us:List Value} {zs:List V} {ws:List Value},Vals vs us->Vals zs ws->Vals (gV vs zs) (g us ws)
variable {g:List Value->List Value->List Value} {gV:List V->List V->List V}
end
structure FnScope (N P:List Str) (sc:Scope):Prop where
 kind:sc.kind= .function
 co:sc.isCoroutine=false
 gen:sc.isGenerator=false
 nd:N.Nodup
 pre:N.take P.length=P
 par:∀x∈P,sc.names.lookup x=some .local∨sc.names.lookup x=some .cell
 nofree:∀y∈sc.names,y.2≠ .free
theorem oM {kindOf:Str->Option NameKind} {x:Str}:∀{binds:List (Str×Value)} {m:Str->Option Value},(∀v,(x,v)∉binds)->bindL kindOf binds m x=m x
 |[],_,_=>rfl
 |(n,v)::r,m,h=>by
  unfold bindL;rw[oM λw hw=>h w (aat _ hw)];split
  ·have:x≠n:=by rintro rfl;exact h v aaC
   simp[this]
  ·rfl
theorem oC {kindOf:Str->Option NameKind} {x:Str}:∀{binds:List (Str×Value)} {m:Str->Option Value},(∀v,(x,v)∉binds)->bindC kindOf binds m x=m x
 |[],_,_=>rfl
 |(n,v)::r,m,h=>by
  unfold bindC;rw[oC λw hw=>h w (aat _ hw)];split
  ·rfl
  ·have:x≠n:=by rintro rfl;exact h v aaC
   simp[this]
theorem pb {kindOf:Str->Option NameKind} {x:Str} {v:Value}:∀{P:List Str} {vs:List Value} {i:Nat} {m:Str->Option Value},P.Nodup->P[i]?=some x->vs[i]?=some v->kindOf x=some .local->
  bindL kindOf (P.zip vs) m x=some v
 |[],_,_,_,_,h,_,_=>by simp at h
 |_::_,[],_,_,_,_,h,_=>by simp at h
 |p::P,w::vs,0,m,nd,h1,h2,hk=>by
  simp at h1 h2;subst h1;subst h2;show bindL kindOf ((p,w)::P.zip vs) m p=_;unfold bindL;rw[oM λv hv=>(abt.mp nd).1 (acJ hv).1,if_pos hk];simp
 |p::P,w::vs,i+1,m,nd,h1,h2,hk=>by
  show bindL kindOf ((p,w)::P.zip vs) m x=_;unfold bindL;exact pb (i:=i) (abt.mp nd).2 (by simpa using h1) (by simpa using h2) hk
theorem pK {kindOf:Str->Option NameKind} {x:Str} {v:Value}:∀{P:List Str} {vs:List Value} {i:Nat} {m:Str->Option Value},P.Nodup->P[i]?=some x->vs[i]?=some v->kindOf x≠some .local->
  bindC kindOf (P.zip vs) m x=some v
 |[],_,_,_,_,h,_,_=>by simp at h
 |_::_,[],_,_,_,_,h,_=>by simp at h
 |p::P,w::vs,0,m,nd,h1,h2,hk=>by
  simp at h1 h2;subst h1;subst h2;show bindC kindOf ((p,w)::P.zip vs) m p=_;unfold bindC;rw[oC λv hv=>(abt.mp nd).1 (acJ hv).1,if_neg hk];simp
 |p::P,w::vs,i+1,m,nd,h1,h2,hk=>by
  show bindC kindOf ((p,w)::P.zip vs) m x=_;unfold bindC;exact pK (i:=i) (abt.mp nd).2 (by simpa using h1) (by simpa using h2) hk
noncomputable def start (N:List Str) (vs:List V):St:=vs.map some++List.replicate (N.length-vs.length) none
noncomputable def nZ (CX:k6) (P:Program) (w:World) (K:PySem.W.Frag) (mg:Str->Option Value) (base:Heap) (N:List Str) (qual:Str) (scope:Scope) (f:Addr) (cd:Value) (A:Around) (outer:List Env) (s:Shared) (H:Hp) (E:XK):Cx where
 prog:=P
 w:=w
 K:=K
 mg:=mg
 base:=base
 A:=A.deeper (envOfC qual scope s.heap.objs.size f cd)
 N:=N
 s₀:=s
 H₀:=H
 env:=envOfC qual scope s.heap.objs.size f cd
 outer:=outer
 stack:=envOfC qual scope s.heap.objs.size f cd::outer
 ex:=[]
 calm:=true
 fn:=λ_=>true
 pn:=[]
 xe:=λe s'=>wpAny (model P w) (A.deeper (envOfC qual scope s.heap.objs.size f cd)) (leaving (envOfC qual scope s.heap.objs.size f cd) e) (λ_ s''=>CX outer H s E e s'') (λe' s''=>CX outer H s E e' s'') s'
theorem tw {sc:Scope} {n:Nat} {x:Str} (h:sc.names.lookup x=some .cell):∃c,(cellsFrom n sc.names []).lookup x=some c:=by
 have q:=PySem.W.cellsFrom_some sc.names n [] (.inl h);exact aa1.mp q
theorem ye {CX:k6} {P:Program} {w:World} {K:PySem.W.Frag} {mg:Str->Option Value} {N ps:List Str} {qual:Str} {scope:Scope} {f:Addr} {cd:Value} {A:Around} {outer:List Env} {s:Shared} {H:Hp} {E:XK} {us:List Value} {vs:List V}
  (S:FnScope N ps scope) (hd:A.handled=none) (e0:Env0 P w K mg base A outer s H) (hl:vs.length=ps.length) (r:Vals vs us)
  (x:InCallC s s.heap.objs.size (bindL (envOfC qual scope s.heap.objs.size f cd).kindOf (ps.zip us) λ_=>none) (cellsFrom (s.heap.objs.size+1) scope.names []) (bindC (envOfC qual scope s.heap.objs.size f cd).kindOf (ps.zip us) λ_=>none) s1):
  Inv (nZ CX P w K mg base N qual scope f cd A outer s H E) [] (start N vs) H s1:=by
 have hpl:ps.length<=N.length:=by have:=congrArg List.length S.pre;rw[aa8] at this;lia
 let⟨h1,tk,rfl,hk⟩:=x.done;have noA:∀b:Addr,b∉(nZ CX P w K mg base N qual scope f cd A outer s H E).ex:=λb z=>absurd (show b∈([]:List Addr) from z) (by simp)
 refine⟨⟨e0.mod,S.kind,rfl,rfl,aah _,λy z c h1 h2=> ?_,λy hy=> ?_,λy c _ h=> ?_,λ_=>hd,Around.frames_deeper e0.frames, .inr ⟨rfl,rfl⟩,λb z=>absurd z (noA b),e0.bs,e0.bsz,λb _ _=>noA b,λb z=>absurd z (noA b),e0.cW,e0.frf⟩,
  rfl,e0.bare,Un.kept hk,⟨_,x.toInCall.ns,λi y v h1 h2 h3=> ?_⟩,λy c h=>⟨_,x.cell y c h⟩,e0.ah.fresh (aah _),λy c h=> ?_,λp hp=>absurd (show p∈([]:List (Addr×Obj)) from hp) (by simp),e0.ah.kept hk, ?_⟩
 ·exact name_of_addr x.apart (aaH h1) (aaH h2)
 ·have hy:scope.names.lookup y=some .cell∨scope.names.lookup y=some .free:=hy
  rcases hy with hy|hy
  ·exact tw hy
  ·exact absurd rfl (S.nofree _ (aaH hy))
 ·exact abf (x.above y c (aaH h))
 ·have hi:i<vs.length:=by
   unfold start at h2
   by_cases hi:i<vs.length
   ·exact hi
   ·rw[aam (by simpa using hi)] at h2;rw[abU] at h2;split at h2<;>cases h2
  have ha:vs[i]?=some v:=by
   unfold start at h2;rw[aar (by simpa using hi),aaP] at h2
   cases e:vs[i]? with
   |none=>rw[e] at h2;cases h2
   |some a=>rw[e] at h2;cases h2;rfl
  let⟨u,hu,rv⟩:=r.get ha
  have hp:ps[i]?=some y:=by
   rw[←S.pre,aa2 (by lia)];exact h1
  have ndP:ps.Nodup:=by rw[←S.pre];exact S.nd.sublist (List.take_sublist _ _)
  refine⟨u,rv, ?_⟩
  rcases S.par y (aas hp) with k|k
  ·exact .inl ⟨k,pb ndP hp hu k⟩
  ·let⟨c,e⟩:=tw (n:=s.heap.objs.size+1) k;refine .inr ⟨.inl k,c,e, ?_⟩;have q:=x.cell y c e;rw[pK ndP hp hu (by show scope.names.lookup y≠_;rw[k];decide)] at q;exact q
 ·exact e0.ah.fresh (abf (x.above y c (aaH h)))
 ·unfold start;show _=N.length;rw[aaZ,List.length_map,List.length_replicate];lia
theorem IX {CX:k6} {P:Program} {w:World} {K:PySem.W.Frag} {mg:Str->Option Value} {k:Nat} {f:Addr} {name qual:Str} {params:Arguments} {dV kV doc pm cdv ct oc:Value} {an od:Option Addr}
  {osl:Array (Option Value)} {N ps:List Str} {sp:Sp} (lk:K.lookup f=some ⟨oc,od, .func (PySem.W.fnOf name qual params body scope dV kV doc pm an cdv ct),osl⟩) (hcd:PySem.W.codeIn K cdv qual=true) (S:FnScope N ps scope)
  (len:∀vs H Q E,sp vs H Q E->vs.length=ps.length)
  (hbody:∀(A:Around) (outer:List Env) (s:Shared) (H:Hp) (vs:List V) (Q:VK) (E:XK),Room k (A.deeper (envOfC qual scope s.heap.objs.size f cdv))->sp vs H Q E->
   ∃t,cu (nZ CX P w K mg base N qual scope f cdv A outer s H E) body t/\t {nx:=λ_ H'=>Q .non H',rt:=Q} (start N vs) H):
  FnOk P w K mg base CX (k+1) f (PySem.W.fnOf name qual params body scope dV kV doc pm an cdv ct) ps sp:=by
 refine⟨len,λA outer s H args us vs Q E hr e0 hb r hsp=> ?_⟩;have hl:=len _ _ _ _ hsp;have KX:K.In s.heap:=e0.mod.kin.keeps λb o e=>(e0.bs b o e).1;have lim:s.heap.NoLimit:=e0.mod.nolimit.keeps λb o e=>(e0.bs b o e).1
 have hkind:∀y∈ps.zip us,scope.names.lookup y.1=some .local∨(scope.names.lookup y.1=some .cell/\((cellsFrom (s.heap.objs.size+1) scope.names []).lookup y.1).isSome=true):=λz900 hy=>by
  let⟨n,v⟩:=z900
  rcases S.par n (acJ hy).1 with q|q
  ·exact .inl q
  ·exact .inr ⟨q,PySem.W.cellsFrom_some _ _ _ (.inl q)⟩
 refine codeAny_call_function hr.depth (KX _ _ lk) rfl S.co S.gen rfl (PySem.W.codeRec_of KX hcd) (hb _ _ _ _ ?_);refine wpAny_newFunctionEnv_cells S.kind hkind λenv he s1 x=> ?_;subst he;refine⟨lim.keeps x.toInCall.keep,codeAny_func ?_⟩;let⟨t,ht,hq⟩:=hbody A outer s H vs Q E (hr.deeper _) hsp;have I:Inv (nZ CX P w K mg base N qual scope f cdv A outer s H E) [] (start N vs) H s1:=ye S hr.hd e0 hl r x;refine aaQ (ht [] s1 (start N vs) H _ I hq) (λfl s' hs=> ?_) λe s' hs=>hs
 have fin:∀{σ':St} {H':Hp} {v:V} {u:Value},Inv (nZ CX P w K mg base N qual scope f cdv A outer s H E) [] σ' H' s'->RelV v u->Q v H'->CE outer P w H s Q u s':=
  λ{σ' H' v u} J rv q=>⟨v,H',J.os,J.bare,J.base,J.ah,rv,q⟩
 cases fl with
 |ret u=>
  let⟨v,σ',H',J,rv,q⟩:=hs;exact fin J rv q
 |next=>
  let⟨σ',H',J,q⟩:=hs;exact fin (v:=V.non) (u:=Value.none) J rfl q
 |brk=>
  let⟨_,_,_,q⟩:=hs;exact False.elim q
 |cont=>
  let⟨_,_,_,q⟩:=hs;exact False.elim q
section
variable {X:Cx} {x:Str} {p pos:Pos} {e:Expr} {es:List Expr} {t:TA} {id T:String} {r:List V->Hp->VK->Prop}
def tCB (r:List V->Hp->VK->Prop) (t:TA):TE:=λσ H Q=>t σ H λvs H1=>r vs H1 Q
theorem q0 (hc:ar X (.builtin id) r) (hg:Gl X x) (hm:X.mg x=none) (hv:bootBuiltins x=some (.builtin id)) (ha:PA X (e::es) t) (hn:x≠"__name__":=by decide) (hdb:(x==("__debug__":Str))=false:=by decide)
  (he:starEach (e::es) X.env=(false,eval e X.env)::starEach es X.env:=by rfl) (hpl:(backTo pos (starEach es X.env)).any (·.1)=false:=by rfl):PE X (.Call (.Name x p) (e::es) [] pos) (tCB r t):=by
 intro pins s σ H Q I h;refine abm (gq I hg hm hv ?_ hn hdb);exact PyProof.Rows.callWith_builtin1 (aw (ha pos pins s σ H _ I h) λus s1 z902=>by let⟨vs,H1,I1,r1,q1⟩:=z902;exact hc pins s1 σ H1 vs us Q I1 r1 q1) he hpl
theorem oZ (hc:ar X (.type T) r) (hg:Gl X x) (hm:X.mg x=none) (hv:bootBuiltins x=some (.type T)) (ha:PA X (e::es) t) (hn:x≠"__name__":=by decide) (hdb:(x==("__debug__":Str))=false:=by decide)
  (he:starEach (e::es) X.env=(false,eval e X.env)::starEach es X.env:=by rfl) (hpl:(backTo pos (starEach es X.env)).any (·.1)=false:=by rfl):PE X (.Call (.Name x p) (e::es) [] pos) (tCB r t):=by
 intro pins s σ H Q I h;refine abm (gq I hg hm hv ?_ hn hdb);exact aca (aw (ha pos pins s σ H _ I h) λus s1 z902=>by let⟨vs,H1,I1,r1,q1⟩:=z902;exact hc pins s1 σ H1 vs us Q I1 r1 q1) he hpl
end
end L2
namespace HT
open PySem PyProof.Rows
noncomputable def lexLt:List Int->List Int->Bool
 |[],[]=>false
 |[],_::_=>true
 |_::_,[]=>false
 |x::xs,y::ys=>if x=y then lexLt xs ys else decide (x<y)
theorem eh (x y:Int) (xs ys:List Int):lexLt (x::xs) (y::ys)=if x=y then lexLt xs ys else decide (x<y):=rfl
section
open PySem.SeqAt
open PySem.AutoSeq1 (wpAny_loadPart')
open PySem.MeetsSeq PySem.MeetsSeq2 PySem.MeetsSeq3
end
section
variable {prog:Program} {w:World} {A:Around} {E:Value->Shared->Prop} {s:Shared}
theorem DC {t b:Addr} {vs ws:List Value} {Q:Value->Shared->Prop} (ht:IsTup s.heap t vs.toArray) (hb:IsTup s.heap b ws.toArray) (hv:vs≠[])
  (h1:ws=[]->Q (.ref t) s) (h2:ws≠[]->Q (.ref s.heap.objs.size) {s with heap:=s.heap.push {cls:= .type "tuple",data:= .seq (vs++ws).toArray}})
  (hsz:vs.length+ws.length<=sizeLine):wpAny (model prog w) A (binaryOp .Add (.ref t) (.ref b)) Q E s:=by
 let⟨⟨cls,dd,data,sl⟩,ho,hc,n,hd⟩:=id ht;let⟨⟨cls2,dd2,data2,sl2⟩,ho2,hc2,n2,hd2⟩:=id hb;simp only at hc hd hc2 hd2;subst hc hd hc2 hd2
 have e:vs.toArray++ws.toArray=(vs++ws).toArray:=by simp
 by_cases hw:ws=[]
 ·exact concat_meets ⟨_,ho,rfl⟩ ⟨_,ho2,rfl⟩ noFill_tuple_add seq_tuple_add PySem.F.slot_tuple_add PySem.F.entry_tuple_add (PySem.F.args_tuple_add_2 _ _)
   (tuple_addW1 t b vs.toArray ws.toArray n n2 dd dd2 sl sl2 (by simpa using hv) (by simp[hw])) ⟨ho,ho2,h1 hw⟩
 ·refine concat_meets ⟨_,ho,rfl⟩ ⟨_,ho2,rfl⟩ noFill_tuple_add seq_tuple_add PySem.F.slot_tuple_add PySem.F.entry_tuple_add (PySem.F.args_tuple_add_2 _ _)
   (tuple_addW2 t b vs.toArray ws.toArray n n2 dd dd2 sl sl2 (by simpa using hv) (by simpa using hw) (by rw[aak,aak];exact hsz)) ⟨ho,ho2, ?_⟩
  rw[e];exact h2 hw
noncomputable def aV (n d:Nat):Option Int->Nat
 |none=>d
 |some v=>if v<0 then (v+(n:Int)).toNat else min v.toNat n
theorem Gh (n d:Nat) (hd:d<=n) (o:Option Int):aV n d o<=n:=by
 cases o with
 |none=>exact hd
 |some v=>
  show (if v<0 then (v+(n:Int)).toNat else min v.toNat n)<=n
  by_cases hv:v<0
  ·rw[if_pos hv];lia
  ·rw[if_neg hv];exact Nat.min_le_right _ _
theorem vk (v:Int) (n d:Nat):(if v<0 then max (v+(n:Int)) 0 else min v (n:Int))=((aV n d (some v):Nat):Int):=by
 show (if v<0 then max (v+(n:Int)) 0 else min v (n:Int))=(((if v<0 then (v+(n:Int)).toNat else min v.toNat n):Nat):Int)
 by_cases hv:v<0
 ·simp only[if_pos hv];lia
 ·simp only[if_neg hv];lia
theorem wA (lo hi:Option Int) (n:Nat):Builtin.Slice.sliceAdjust lo hi 1 (n:Int)=(((aV n 0 lo:Nat):Int),((aV n n hi:Nat):Int)):=by
 have h1:¬((1:Int)<0):=by lia
 unfold Builtin.Slice.sliceAdjust;simp only[h1,abi];refine Prod.ext ?_ ?_
 ·cases lo with
  |none=>rfl
  |some v=>exact vk v n 0
 ·cases hi with
  |none=>rfl
  |some v=>exact vk v n n
theorem wC (i j:Nat):Builtin.Slice.slicePlaces (i:Int) (j:Int) 1=j-i:=by
 unfold Builtin.Slice.slicePlaces
 have h1:(1:Int)>0:=by lia
 simp only[h1,abQ,Int.ediv_one];split<;>lia
theorem ni {v:Value} {o:Option Int} {Q:Option Int->Shared->Prop} (p:IsPart v o) (h:Q o s):wpAny (model prog w) A (Builtin.Slice.slicePartIndex v) Q E s:=by
 cases p with
 |none=>exact slicePart_none h
 |int i t=>exact slicePart_int h
theorem lr {vl vu:Value} {lo hi:Option Int} {n:Nat} {Q:Int×Int×Nat->Shared->Prop} (hs:s.heap.IsSliceOf sl vl vu .none) (pl:IsPart vl lo) (pu:IsPart vu hi)
  (h:Q (((aV n 0 lo:Nat):Int),1,aV n n hi-aV n 0 lo) s):wpAny (model prog w) A (Builtin.Slice.sliceApplied (.ref sl) (pure (n:Int))) Q E s:=by
 let⟨os,hos,hcs,hds⟩:=id hs;unfold Builtin.Slice.sliceApplied Builtin.Slice.sliceFields;refine aaa (aaa (aaE hos hds (x:=vl) rfl (aaa (aaE hos hds (x:=vu) rfl (aaa (aaE hos hds (x:= .none) rfl (aaf ?_)))))));refine aaa (slicePart_none ?_);show wpAny _ _ (if ((1:Int)==0)=true then _ else _) _ _ s;rw[if_neg (by decide)];refine aaa (ni pl (aaa (ni pu (aaa (aaf ?_)))))
 show wpAny _ _ (match Builtin.Slice.sliceAdjust lo hi 1 (n:Int) with|(lo,hi)=>pure (lo,(1:Int),Builtin.Slice.slicePlaces lo hi 1)) _ _ s
 rw[wA lo hi n];show wpAny _ _ (pure (((aV n 0 lo:Nat):Int),(1:Int),Builtin.Slice.slicePlaces ((aV n 0 lo:Nat):Int) ((aV n n hi:Nat):Int) 1)) _ _ s;rw[wC];exact aaf h
theorem AS (xs:Array Value) (i k:Nat):((List.range k).filterMap λ(m:Nat)=>xs[((i:Int)+(m:Int)*1).toNat]?).toArray=((xs.toList.drop i).take k).toArray:=by
 have e:(λ(m:Nat)=>xs[((i:Int)+(m:Int)*1).toNat]?)=λm=>xs[i+m]?:=by
  funext m
  have:((i:Int)+(m:Int)*1).toNat=i+m:=by lia
  rw[this]
 rw[e];have:=pick_run xs i k;rw[acT] at this;have e2:((λx=>xs[x]?)∘λx=>i+x)=λm=>xs[i+m]?:=rfl;rw[e2] at this;rw[this]
theorem kG {t:Addr} {items:Array Value} {vl vu:Value} {lo hi:Option Int} {Q:Value->Shared->Prop} (ht:IsTup s.heap t items) (hs:s.heap.IsSliceOf sl vl vu .none) (pl:IsPart vl lo) (pu:IsPart vu hi)
  (hw:¬(aV items.size 0 lo=0/\aV items.size items.size hi=items.size))
  (h:Q (.ref s.heap.objs.size) {s with heap:=s.heap.push {cls:= .type "tuple",data:= .seq ((items.toList.drop (aV items.size 0 lo)).take (aV items.size items.size hi-aV items.size 0 lo)).toArray}})
  (hsz:items.size<=sizeLine):wpAny (model prog w) A (getItem (.ref t) (.ref sl)) Q E s:=by
 have htake:sizeOk (.seq ((items.toList.drop (aV items.size 0 lo)).take (aV items.size items.size hi-aV items.size 0 lo)).toArray):=by
  show ((items.toList.drop (aV items.size 0 lo)).take (aV items.size items.size hi-aV items.size 0 lo)).toArray.size<=sizeLine;rw[aak,aa8,acz,aaU];lia
 have hj:aV items.size items.size hi<=items.size:=Gh _ _ (aah _) hi;let⟨os,hos,hcs,hds⟩:=id hs;have hTs:s.TypeIs (.ref sl) "slice":=⟨os,hos,hcs⟩;unfold getItem
 try with_reducible refine aa7 ?_
 first|refine aaa (aaf ?_)|skip
 refine aaa (wpAny_sequenceKey ht.typeIs (by decide) ?_)
 refine aaa (aaW (name:=Str.ofString "__getitem__") ht.typeIs acI
  (aba acI ht.typeIs entry_tuple_getitem ?_ (args_tuple_getitem _ _)))
 show wpAny _ _ (Builtin.Tuple.tupleItemsOf (.ref t)>>=_) _ _ s;refine aaa (tupleItemsOf_ ht ?_);refine aaa (wpAny_typeOf hTs ?_);rw[if_pos (by decide)];refine aaa (lr hs pl pu ?_)
 have hno:¬((((aV items.size 0 lo:Nat):Int)==0&&(1:Int)==1&&(aV items.size items.size hi-aV items.size 0 lo)==items.size)=true):=by
  intro q;rw[aag,aag] at q;have q1:((aV items.size 0 lo:Nat):Int)=0:=eq_of_beq q.1.1;have q2:aV items.size items.size hi-aV items.size 0 lo=items.size:=eq_of_beq q.2;exact hw ⟨by lia,by lia⟩
 show wpAny _ _ (if (((aV items.size 0 lo:Nat):Int)==0&&(1:Int)==1&&(aV items.size items.size hi-aV items.size 0 lo)==items.size)=true then _ else _) _ _ s;rw[if_neg hno,AS]
 first
  |exact aaa (m:=Builtin.Tuple.tupleExact _) (aaK (aaf ⟨_,rfl,aaf h⟩) htake)
  |exact aaa (m:=Builtin.Tuple.tupleExact _) (aaK (aaa (aaf (aaf ⟨_,rfl,aaf h⟩))) htake)
  |exact aaa (aaa (m:=Builtin.Tuple.tupleExact _) (aaK (aaf (aaf ⟨_,rfl,aaf h⟩)) htake))
  |exact aaa (aaa (m:=Builtin.Tuple.tupleExact _) (aaK (aaf ⟨_,rfl,aaf h⟩) htake))
end
end HT
namespace L2
open PySem PySem.Spec PyProof.Rows
abbrev TO:=St->Hp->(Option Int->Hp->Prop)->Prop
def PO (X:Cx) (e:Option Expr) (t:TO):Prop:=
 ∀(pins:List (Addr×Obj)) (s:Shared) (σ:St) (H:Hp) (Q:Option Int->Hp->Prop),Inv X pins σ H s->t σ H Q->
  wpAny (model X.prog X.w) X.A (evalPart e X.env) (λu s'=>∃o H',Inv X pins σ H' s'/\IsPart u o/\Q o H') X.xe s
def C9:TO:=λ_ H Q=>Q none H
def HD (t:TE):TO:=λσ H Q=>t σ H λx H1=>∃i,x= .int i/\Q (some i) H1
theorem intsAre_of {ns:List Int}:∀{us:List Value},Vals (ns.map V.int) us->IntsAre us ns:=by
 induction ns with
 |nil=>intro us r;rw[acK] at r;cases r;exact .nil
 |cons n ns ih=>
  intro us r;rw[aay] at r
  cases r with
  |cons r1 r2=>
   let⟨t,e⟩:=r1;subst e;exact .cons n t (ih r2)
section
variable {X:Cx} {e:Expr} {te:TE} {lo hi:Option Expr} {tl th:TO} {pos p2:Pos}
theorem CY:PO X none C9:=by
 intro pins s σ H Q I h;rw[evalPart_none];exact aaf ⟨none,H,I, .none,h⟩
theorem El (h:PE X e te):PO X (some e) (HD te):=by
 intro pins s σ H Q I hw;rw[evalPart_some];refine aw (h pins s σ H _ I hw) λu s1 z902=> ?_;let⟨x,H1,I1,r1,q1⟩:=z902;let⟨i,rfl,q⟩:=q1;let⟨t,rfl⟩:=r1;exact⟨some i,H1,I1, .int i t,q⟩
def pO (X:Cx) (r:V->Option Int->Option Int->Hp->VK->Prop):Prop:=
 ∀(pins:List (Addr×Obj)) (s:Shared) (σ:St) (H:Hp) (x:V) (v vl vu:Value) (lo hi:Option Int) (sl:Addr) (Q:VK),Inv X pins σ H s->RelV x v->s.heap.IsSliceOf sl vl vu .none->IsPart vl lo->IsPart vu hi->r x lo hi H Q->
  ∃T id,typeLookup (.type T) "__getitem__"=pure (some (.builtin id))/\s.TypeIs v T/\wpAny (model X.prog X.w) X.A (getItem v (.ref sl)) (EP X pins σ Q) X.xe s
theorem pO.or {r r':V->Option Int->Option Int->Hp->VK->Prop} (h:pO X r) (h':pO X r'):pO X (λx lo hi H Q=>r x lo hi H Q∨r' x lo hi H Q):=by
 intro pins s σ H x v vl vu lo hi sl Q I rx hs pl pu q
 rcases q with q|q
 ·exact h pins s σ H x v vl vu lo hi sl Q I rx hs pl pu q
 ·exact h' pins s σ H x v vl vu lo hi sl Q I rx hs pl pu q
def tSl (r:V->Option Int->Option Int->Hp->VK->Prop) (te:TE) (tl th:TO):TE:=λσ H Q=>te σ H λx H1=>tl σ H1 λl H2=>th σ H2 λu H3=>r x l u H3 Q
theorem Az {r:V->Option Int->Option Int->Hp->VK->Prop} (hr:pO X r) (he:PE X e te) (hl:PO X lo tl) (hu:PO X hi th):PE X (.Subscript e (.Slice lo hi none p2) pos) (tSl r te tl th):=by
 intro pins s σ H Q I h;refine Subscript_ (aw (he pins s σ H _ I h) λv s1 z902=> ?_);let⟨x,H1,I1,r1,q1⟩:=z902;refine wpAny_Slice (aw (hl pins s1 σ H1 _ I1 q1) λvl s2 zq8=> ?_);let⟨l,H2,I2,pl,q2⟩:=zq8;refine aw (hu pins s2 σ H2 _ I2 q2) λvu s3 zq9=> ?_;let⟨u,H3,I3,pu,q3⟩:=zq9;rw[evalPart_none];refine aaf ?_;have I4:Inv X pins σ H3 {s3 with heap:=s3.heap.push {cls:= .type "slice",data:= .fields #[vl,vu, .none]}}:=I3.kept (t':=s3.toks) λb ob q=>aad _ q;let⟨T,id,hT,ht,hg⟩:=hr pins {s3 with heap:=s3.heap.push {cls:= .type "slice",data:= .fields #[vl,vu, .none]}} σ H3 x v vl vu l u s3.heap.objs.size Q I4 r1 (Heap.IsSliceOf.new ..) pl pu q3;show wpAny (model X.prog X.w) X.A (subscriptTail e (.Slice lo hi none p2) v (.ref s3.heap.objs.size)) (EP X pins σ Q) X.xe {s3 with heap:=s3.heap.push {cls:= .type "slice",data:= .fields #[vl,vu, .none]}};exact tail_any (ops:=[.ref s3.heap.objs.size,v]) ht hT hg (by with_unfolding_all rfl)
def jz (xs:List V) (lo hi:Option Int):List V:=(xs.drop (HT.aV xs.length 0 lo)).take (HT.aV xs.length xs.length hi-HT.aV xs.length 0 lo)
theorem kM (xs:List V) (lo hi:Option Int):(jz xs lo hi).length<=xs.length:=by
 unfold jz;rw[aa8,acz];lia
def Ms (K:PySem.W.Frag):V->Option Int->Option Int->Hp->VK->Prop:=λx lo hi H Q=>∃a xs,x= .ref a/\cO K H a xs/\
 ¬(HT.aV xs.length 0 lo=0/\HT.aV xs.length xs.length hi=xs.length)/\∀p,H p=none->Q (.ref p) (upd H p (.tup (jz xs lo hi)))
theorem GU:pO X (Ms X.K):=by
 intro pins s σ H x v vl vu lo hi sl Q I rx hs pl pu h;let⟨a,xs,rfl,hx,hw,q⟩:=h;cases rx;let⟨its,r,ht,hz⟩:=I.tuple hx
 have hlen:its.toArray.size=xs.length:=by rw[aak];exact r.length.symm
 refine⟨"tuple",_,acI.lookup,ht.typeIs, ?_⟩;refine HT.kG ht hs pl pu (by rw[hlen];exact hw) ?_ (by rw[hlen];exact hz);rw[hlen];refine⟨.ref s.heap.objs.size,_,I.laid (t':=s.toks) (o:= .tup (jz xs lo hi)) (λb ob q=>aad _ q) (aah _) ?_,rfl,q _ (I.ah.fresh (aah _))⟩;exact⟨aaL (kM xs lo hi) hz,_,(r.drop (HT.aV xs.length 0 lo)).take (HT.aV xs.length xs.length hi-HT.aV xs.length 0 lo),IsTup.new _ _⟩
def HC (K:PySem.W.Frag):R2:=λx y H Q=>∃a b xs ys,x= .ref a/\y= .ref b/\cO K H a xs/\cO K H b ys/\xs≠[]/\xs.length+ys.length<=sizeLine/\
 (ys=[]->Q (.ref a) H)/\(ys≠[]->∀p,H p=none->Q (.ref p) (upd H p (.tup (xs++ys))))
theorem Vals.nY {xs:List V} {us:List Value} (r:Vals xs us):us=[]↔xs=[]:=by
 cases r with
 |nil=>simp
 |cons _ _=>simp
theorem Ep:aF X (binaryOp .Add) (HC X.K):=by
 intro pins s σ H x y v u Q I rx ry h;let⟨a,b,xs,ys,rfl,rfl,ha,hb,hx,hz,q1,q2⟩:=h;cases rx;cases ry;let⟨its,r1,p1,_⟩:=I.tuple ha;let⟨its2,r2,p2,_⟩:=I.tuple hb;refine HT.DC p1 p2 (λz=>hx (r1.nY.mp z)) (λz=>⟨.ref a,H,I,rfl,q1 (r2.nY.mp z)⟩) (λz=> ?_) (by rw[←r1.length,←r2.length];exact hz);refine⟨.ref s.heap.objs.size,_,I.laid (t':=s.toks) (o:= .tup (xs++ys)) (λb ob q=>aad _ q) (aah _) ?_,rfl,q2 (λw=>z (r2.nY.mpr w)) _ (I.ah.fresh (aah _))⟩;exact⟨by rw[aaZ];exact hz,_,r1.append r2,IsTup.new _ _⟩
end
noncomputable def uY (n:Nat) (i:Int):Option Nat:=if 0<=i then (if i<n then some i.toNat else none) else if-(n:Int)<=i then some (i+n).toNat else none
def pR {α:Type} (xs:List α) (i:Int):Option α:=(uY xs.length i).bind λj=>xs[j]?
theorem vn {n:Nat} {i:Int} {j:Nat} (h:uY n i=some j):seqIndex? i n=some j/\j<n/\ -(n:Int)<=i/\i<n:=by
 unfold uY at h
 by_cases h0:0<=i
 ·rw[if_pos h0] at h
  by_cases h1:i<n
  ·rw[if_pos h1] at h;have e:i.toNat=j:=Option.some.inj h;exact⟨by rw[seqIndex_of h0 h1,e],by lia,by lia,h1⟩
  ·rw[if_neg h1] at h;cases h
 ·rw[if_neg h0] at h
  by_cases h1: -(n:Int)<=i
  ·rw[if_pos h1] at h;have e:(i+n).toNat=j:=Option.some.inj h;exact⟨by rw[seqIndex_neg (by lia) h1,e],by lia,h1,by lia⟩
  ·rw[if_neg h1] at h;cases h
theorem oj {α:Type} {xs:List α} {i:Int} {v:α} (h:pR xs i=some v):∃j,seqIndex? i xs.length=some j/\xs[j]?=some v/\j<xs.length/\ -(xs.length:Int)<=i/\i<xs.length:=by
 unfold pR at h
 cases e:uY xs.length i with
 |none=>rw[e] at h;cases h
 |some j=>
  rw[e] at h;let⟨h1,h2,h3,h4⟩:=vn e;exact⟨j,h1,h,h2,h3,h4⟩
def nI (b:Expr):Prop:=∀o i,subscripted b false o i=operate [o,i] (getItem o i)
def kP (X:Cx) (r:R2):Prop:=
 ∀(value slice:Expr) (pins:List (Addr×Obj)) (s:Shared) (σ:St) (H:Hp) (x y:V) (v u:Value) (Q:VK),Inv X pins σ H s->RelV x v->RelV y u->r x y H Q->
  subscripted slice false v u=operate [v,u] (getItem v u)->wpAny (model X.prog X.w) X.A (subscriptTail value slice v u) (EP X pins σ Q) X.xe s
def qx (X:Cx) (id:String) (r:V->List V->Hp->VK->Prop):Prop:=
 ∀(pins:List (Addr×Obj)) (s:Shared) (σ:St) (H:Hp) (x:V) (xs:List V) (v:Value) (us:List Value) (Q:VK),Inv X pins σ H s->RelV x v->Vals xs us->r x xs H Q->
  wpAny (model X.prog X.w) X.A (call (.builtin id) (v::us)) (EP X pins σ Q) X.xe s
section
variable {X:Cx} {a b:Expr} {ta tb:TE} {pos:Pos}
theorem kP.or {r r':R2} (h:kP X r) (h':kP X r'):kP X (λx y H Q=>r x y H Q∨r' x y H Q):=by
 intro value slice pins s σ H x y v u Q I rx ry q hs
 rcases q with q|q
 ·exact h value slice pins s σ H x y v u Q I rx ry q hs
 ·exact h' value slice pins s σ H x y v u Q I rx ry q hs
theorem Ic {r:R2} (hr:kP X r) (ha:PE X a ta) (hb:PE X b tb) (hs:nI b):PE X (.Subscript a b pos) (Ck r ta tb):=by
 intro pins s σ H Q I h;exact Subscript_ (zH ha hb I h λv u s2 x y H2 I2 rx ry q=>hr a b pins s2 σ H2 x y v u Q I2 rx ry q (hs _ _))
def G7 (K:PySem.W.Frag):R2:=λx y H Q=>∃p xs i v,x= .ref p/\y= .int i/\bK K H p xs/\pR xs i=some v/\Q v H
def Hm (K:PySem.W.Frag):R2:=λx y H Q=>∃p xs i v,x= .ref p/\y= .int i/\cO K H p xs/\pR xs i=some v/\Q v H
def EC:R2:=λx y H Q=>∃z i c,x= .str z/\y= .int i/\z.length<=sizeLine/\pR z.cps.toList i=some c/\Q (.str ⟨#[c]⟩) H
theorem Ej:kP X (G7 X.K):=by
 intro value slice pins s σ H x y v u Q I rx ry h hs;let⟨p,xs,i,z,rfl,rfl,hq,he,q⟩:=h;cases rx;let⟨t,rfl⟩:=ry;let⟨its,r,pl,hz⟩:=I.list hq;let⟨j,h1,h2,h3,h4,h5⟩:=oj he;let⟨w,ew,rw'⟩:=r.get h2;have hl:=r.length;have hn:=gu;have fin:EP X pins σ Q w s:=⟨z,H,I,rw',q⟩
 by_cases h0:0<=i
 ·have hj:i.toNat=j:=by
   rw[seqIndex_of h0 h5] at h1;exact Option.some.inj h1
  exact item_listR pl.isList h0 (by lia) (by rw[hj];simpa using ew) fin hs
 ·have hj:(i+(its.toArray.size:Int)).toNat=j:=by
   rw[seqIndex_neg (by lia) h4] at h1;rw[aak,←hl];exact Option.some.inj h1
  exact subscriptTail_builtinR (x:=w) pl.isList.typeIs slot_list_getitem.lookup
   (wpAny_getItem_list_neg (Q:=λr s'=>r=w/\EP X pins σ Q r s') pl.isList (by lia) (by rw[aak]<;>lia) (by lia) (by rw[hj];simpa using ew) ⟨rfl,fin⟩) hs
theorem FE:kP X (Hm X.K):=by
 intro value slice pins s σ H x y v u Q I rx ry h hs;let⟨p,xs,i,z,rfl,rfl,hq,he,q⟩:=h;cases rx;let⟨t,rfl⟩:=ry;let⟨its,r,pl,hz⟩:=I.tuple hq;let⟨j,h1,h2,h3,h4,h5⟩:=oj he;let⟨w,ew,rw'⟩:=r.get h2;have hl:=r.length;have hn:=gu;have fin:EP X pins σ Q w s:=⟨z,H,I,rw',q⟩
 exact subscriptTail_builtinR (x:=w) pl.typeIs slot_tuple_getitem.lookup
  (getItem_tuple (j:=j) (Q:=λr s'=>r=w/\EP X pins σ Q r s') pl (by lia) (by lia) (by rw[aak,←hl];exact h1) (by simpa using ew) ⟨rfl,fin⟩) hs
theorem Fu:kP X EC:=by
 intro value slice pins s σ H x y v u Q I rx ry h hs;let⟨z,i,c,rfl,rfl,hz,he,q⟩:=h;let⟨t,rfl⟩:=rx;let⟨t',rfl⟩:=ry;let⟨j,h1,h2,h3,h4,h5⟩:=oj he
 have hl:z.cps.toList.length=z.length:=by simp[Str.length]
 rw[hl] at h1 h4 h5;have hn:=gu
 exact tail_any (typeIs_str s z t) slot_str_getitem.lookup (getItem_str (c:=c) (by
  have e1:decide (i< -(2^63:Int))=false:=aaB (by lia);have e2:decide (i≥2^63)=false:=aaB (by lia)
  rw[e1,e2,Bool.or_false]) (by rw[h1];simpa using h2) ⟨.str ⟨#[c]⟩,H,I.tok _,⟨_,rfl⟩,q⟩) hs
def rIx (K:PySem.W.Frag):R2:=λx y H Q=>G7 K x y H Q∨Hm K x y H Q∨EC x y H Q
theorem F3:kP X (rIx X.K):=Ej.or (FE.or Fu)
theorem vH (its:List Value) (n j:Nat) (u:Value):Obj.mapSeq (·.setIfInBounds j u) {cls:= .type "list",data:= .seq its.toArray n}={cls:= .type "list",data:= .seq (its.set j u).toArray n}:=by
 simp[Obj.mapSeq]
theorem Inv.lst {pins:List (Addr×Obj)} {σ:St} {H:Hp} {s:Shared} {p:Addr} {xs:List V} (I:Inv X pins σ H s) (h:H p=some (.lst xs)):
  ∃(its:List Value) (n:Nat),Vals xs its/\s.heap.get? p=some {cls:= .type "list",data:= .seq its.toArray n}/\xs.length<=sizeLine:=by
 let⟨z,its,n,r,e⟩:=I.ah p _ h;exact⟨its,n,r,e,z⟩
theorem Inv.GW {σ:St} {H:Hp} {s:Shared} {p:Addr} {xs ys:List V} {its its':List Value} {n n':Nat} {f:Obj->Obj} (I:Inv X pins σ H s) (h:H p=some (.lst xs))
  (ho:s.heap.get? p=some {cls:= .type "list",data:= .seq its.toArray n}) (hf:f {cls:= .type "list",data:= .seq its.toArray n}={cls:= .type "list",data:= .seq its'.toArray n'}) (r:Vals ys its') (hz:ys.length<=sizeLine) (t:Nat):
  Inv X pins σ (upd H p (.lst ys)) {s with heap:=s.heap.update p f,toks:=t}:=by
 have e:(s.heap.update p f).get? p=some {cls:= .type "list",data:= .seq its'.toArray n'}:=by
  rw[aa3 f ho (by rw[hf]<;>rfl),hf]
 refine I.write (x:=p) (e:=p) (by rw[h];trivial) (.inl rfl) (λb u hb q=>(aaF _ _ (Ne.symm hb)).trans q) ⟨_,e⟩ ?_;exact⟨hz,its',n',r,e⟩
def Jb:V->V->V->Hp->(Hp->Prop)->Prop:=λo i v H Q=>∃p xs k j,o= .ref p/\i= .int k/\H p=some (.lst xs)/\uY xs.length k=some j/\Q (upd H p (.lst (xs.set j v)))
theorem set_list:jZ X Jb:=by
 intro pins s σ H o i v ov iv u Q I ro ri rv h;let⟨p,xs,k,j,rfl,rfl,hp,hj,q⟩:=h;cases ro;let⟨t,rfl⟩:=ri;let⟨its,n,r,ho,hz⟩:=I.lst hp;let⟨h1,h2,h3,h4⟩:=vn hj;have hl:=r.length;have hn:=gu
 have I':Inv X pins σ (upd H p (.lst (xs.set j v))) {s with heap:=s.heap.update p (Obj.mapSeq (·.setIfInBounds j u))}:=
  I.GW hp ho (vH its n j u) (r.set rv j) (by rw[List.length_set];exact hz) s.toks
 by_cases h0:0<=k
 ·have hk:k.toNat=j:=by
   rw[seqIndex_of h0 h4] at h1;exact Option.some.inj h1
  exact PySem.W.ki_setAt ho h0 (by lia) (by rw[aak,←hl];exact h4) (by rw[hk];exact⟨_,I',q⟩)
 ·have hk:(k+(its.toArray.size:Int)).toNat=j:=by
   rw[seqIndex_neg (by lia) h3] at h1;rw[aak,←hl];exact Option.some.inj h1
  exact PySem.W.ki_setBack ho (by lia) (by rw[aak,←hl];exact h3) (by lia) (by rw[hk];exact⟨_,I',q⟩)
theorem sd (lo hi:Option Int) (n:Nat):(sliceBounds lo hi none n).1=((HT.aV n 0 lo:Nat):Int)/\(sliceBounds lo hi none n).2.1=((HT.aV n n hi:Nat):Int)/\(sliceBounds lo hi none n).2.2=1:=by
 refine⟨?_, ?_,rfl⟩
 ·cases lo with
  |none=>simp[sliceBounds,HT.aV]
  |some i=>
   simp only[sliceBounds,HT.aV,Option.getD_none,show (1:Int)>0 by decide,abQ]
   by_cases h:i<0
   ·simp only[h,abQ]<;>lia
   ·simp only[h,abi]<;>lia
 ·cases hi with
  |none=>simp[sliceBounds,HT.aV]
  |some i=>
   simp only[sliceBounds,HT.aV,Option.getD_none,show (1:Int)>0 by decide,abQ]
   by_cases h:i<0
   ·simp only[h,abQ]<;>lia
   ·simp only[h,abi]<;>lia
theorem pX (its:List Value) (lo hi:Option Int):slicePick its.toArray lo hi none=((its.drop (HT.aV its.length 0 lo)).take (HT.aV its.length its.length hi-HT.aV its.length 0 lo)).toArray:=by
 let⟨h1,h2,h3⟩:=sd lo hi its.toArray.size;unfold slicePick;rw[h1,h2,h3];simp only[sliceRange_one,pick_run,aak]<;>rfl
def Mw (K:PySem.W.Frag):V->Option Int->Option Int->Hp->VK->Prop:=λx lo hi H Q=>∃a xs,x= .ref a/\bK K H a xs/\∀p,H p=none->Q (.ref p) (upd H p (.lst (jz xs lo hi)))
theorem C8:pO X (Mw X.K):=by
 intro pins s σ H x v vl vu lo hi sl Q I rx hs pl pu h;let⟨a,xs,rfl,hx,q⟩:=h;cases rx;let⟨its,r,ht,hz⟩:=I.list hx;have hlen:=r.length;refine⟨"list",_,slot_list_getitem.lookup,ht.isList.typeIs, ?_⟩;refine wpAny_getItem_list_slice ht.isList hs pl pu .none (by simp) ?_ (by rw[aak]<;>lia);rw[pX,←hlen];refine⟨.ref s.heap.objs.size,_,I.laid (t':=s.toks) (o:= .lst (jz xs lo hi)) (λb ob q=>aad _ q) (aah _) ?_,rfl,q _ (I.ah.fresh (aah _))⟩;exact⟨aaL (kM xs lo hi) hz,_,0,(r.drop (HT.aV xs.length 0 lo)).take (HT.aV xs.length xs.length hi-HT.aV xs.length 0 lo),aai _ rfl⟩
noncomputable def fW:V->Bool
 | .non=>true
 | .bl _=>true
 | .int _=>true
 | .str _=>true
 |_=>false
noncomputable def pJ:V->V->Bool
 | .non, .non=>true
 | .bl a, .bl b=>a==b
 | .bl a, .int b=>(if a then 1 else 0)==b
 | .int a, .bl b=>a==(if b then 1 else 0)
 | .int a, .int b=>a==b
 | .str a, .str b=>a==b
 |_,_=>false
theorem GR {A:Around} {s:Shared} {y x:V} {u v:Value} (ry:RelV y u) (rx:RelV x v) (fy:fW y=true) (fx:fW x=true):SeqAt.EqAt A s u v (pJ y x):=by
 cases y with
 |non=>
  cases ry
  cases x with
  |non=>cases rx;exact SeqAt.EqAt.same _
  |bl b=>cases rx;exact SeqAt.EqAt.none_bool b
  |int b=>let⟨t,rfl⟩:=rx;exact SeqAt.EqAt.none_int b t
  |str b=>let⟨t,rfl⟩:=rx;exact SeqAt.EqAt.none_str b t
  |_=>exact absurd (show false=true from fx) aaq
 |bl a=>
  cases ry
  cases x with
  |non=>cases rx;exact SeqAt.EqAt.bool_none a
  |bl b=>cases rx;exact SeqAt.EqAt.bool_bool a b
  |int b=>let⟨t,rfl⟩:=rx;exact SeqAt.EqAt.bool_int a b t
  |str b=>let⟨t,rfl⟩:=rx;exact SeqAt.EqAt.bool_str a b t
  |_=>exact absurd (show false=true from fx) aaq
 |int a=>
  let⟨t',rfl⟩:=ry
  cases x with
  |non=>cases rx;exact SeqAt.EqAt.int_none a t'
  |bl b=>cases rx;exact SeqAt.EqAt.int_bool a t' b
  |int b=>let⟨t,rfl⟩:=rx;exact SeqAt.EqAt.int_int a t' b t
  |str b=>let⟨t,rfl⟩:=rx;exact SeqAt.EqAt.int_str a t' b t
  |_=>exact absurd (show false=true from fx) aaq
 |str a=>
  let⟨t',rfl⟩:=ry
  cases x with
  |non=>cases rx;exact SeqAt.EqAt.str_none a t'
  |bl b=>cases rx;exact SeqAt.EqAt.str_bool a t' b
  |int b=>let⟨t,rfl⟩:=rx;exact SeqAt.EqAt.str_int a t' b t
  |str b=>let⟨t,rfl⟩:=rx;exact SeqAt.EqAt.str_str a t' b t
  |_=>exact absurd (show false=true from fx) aaq
 |_=>exact absurd (show false=true from fy) aaq
def mT (x:V) (u:Value):Bool:=match u with
 | .none=>pJ .non x
 | .bool b=>pJ (.bl b) x
 | .int i _=>pJ (.int i) x
 | .str z _=>pJ (.str z) x
 |_=>false
theorem xO {x y:V} {u:Value} (r:RelV y u) (f:fW y=true):mT x u=pJ y x:=by
 cases y with
 |non=>cases r;rfl
 |bl b=>cases r;rfl
 |int i=>let⟨t,rfl⟩:=r;rfl
 |str z=>let⟨t,rfl⟩:=r;rfl
 |_=>exact absurd (show false=true from f) aaq
theorem oy {x:V}:∀{xs:List V} {us:List Value},Vals xs us->xs.all fW=true->us.any (mT x)=xs.any λy=>pJ y x
 |_,_, .nil,_=>rfl
 |y::xs,u::us, .cons r t,f=>by
  rw[aaI,aag] at f;rw[abY,abY,xO r f.1,oy t f.2]
theorem lM {A:Around} {s:Shared} {x:V} {v:Value} (rx:RelV x v) (fx:fW x=true):∀{xs:List V} {us:List Value},Vals xs us->xs.all fW=true->∀u∈us,SeqAt.EqAt A s u v (mT x u)
 |_,_, .nil,_=>λu hu=>by cases hu
 |y::xs,u::us, .cons r t,f=>λu' hu=>by
  rw[aaI,aag] at f
  rcases aap.mp hu with rfl|hu
  ·rw[xO r f.1];exact GR r rx f.1 fx
  ·exact lM rx fx t f.2 u' hu
def uq (x:V) (xs:List V):Bool:=xs.any λy=>pJ y x
def rIn (K:PySem.W.Frag) (neg:Bool):R2:=λx y H Q=>∃p xs,y= .ref p/\(bK K H p xs∨cO K H p xs)/\fW x=true/\xs.all fW=true/\Q (.bl (if neg then !uq x xs else uq x xs)) H
theorem xI:aF X (compareOp .In) (rIn X.K false):=by
 intro pins s σ H x y v u Q I rx ry h;let⟨p,xs,rfl,hq,fx,fs,q⟩:=h;cases ry
 rcases hq with hq|hq
 ·let⟨its,r,pl,hz⟩:=I.list hq;refine SeqAt.in_listAt (mT x) pl.isList (λw hw=>lM rx fx r fs w (by simpa using hw)) ⟨.bl _,H,I,rfl, ?_⟩;rw[show its.toArray.any (mT x)=its.any (mT x) by simp,oy r fs];exact q
 ·let⟨its,r,pl,hz⟩:=I.tuple hq;refine SeqAt.in_tupleAt (mT x) pl (λw hw=>lM rx fx r fs w (by simpa using hw)) ⟨.bl _,H,I,rfl, ?_⟩;rw[show its.toArray.any (mT x)=its.any (mT x) by simp,oy r fs];exact q
theorem qP:ar X (.builtin "len") (λxs H Q=>∃p ys,xs=[.ref p]/\(bK X.K H p ys∨cO X.K H p ys)/\Q (.int ys.length) H):=by
 intro pins s σ H xs us Q I r h;let⟨p,ys,rfl,hq,q⟩:=h;let⟨u,rfl,rx⟩:=vals1 r;cases rx;have hn:=gu
 rcases hq with hq|hq
 ·let⟨its,r',pl,hz⟩:=I.list hq;have hlen:=r'.length;exact Calls.call_len_list pl.isList (by simp only[aak]<;>lia) ⟨.int ys.length,H,I.tok _,⟨s.toks+1,by rw[aak,hlen]⟩,q⟩
 ·let⟨its,r',pl,hz⟩:=I.tuple hq;have hlen:=r'.length;exact len_tuple pl (by simp only[aak]<;>lia) ⟨.int ys.length,H,I.tok _,⟨s.toks+1,by rw[aak,hlen]⟩,q⟩
theorem rm:ar X (.builtin "len") (λxs H Q=>∃z,xs=[.str z]/\z.length<=sizeLine/\Q (.int z.length) H):=by
 intro pins s σ H xs us Q I r h;let⟨z,rfl,hz,q⟩:=h;let⟨u,rfl,t,rfl⟩:=vals1 r;have hn:=gu;exact len_str (by lia) ⟨.int z.length,H,I.tok _,⟨_,rfl⟩,q⟩
theorem ar.or {f:Value} {r r':List V->Hp->VK->Prop} (h:ar X f r) (h':ar X f r'):ar X f (λxs H Q=>r xs H Q∨r' xs H Q):=by
 intro pins s σ H xs us Q I rs q
 rcases q with q|q
 ·exact h pins s σ H xs us Q I rs q
 ·exact h' pins s σ H xs us Q I rs q
theorem qA:ar X (.type "list") (λxs H Q=>∃p ys,xs=[.ref p]/\(bK X.K H p ys∨cO X.K H p ys)/\∀l,H l=none->Q (.ref l) (upd H l (.lst ys))):=by
 intro pins s σ H xs us Q I r h;let⟨p,ys,rfl,hq,q⟩:=h;let⟨u,rfl,rx⟩:=vals1 r;cases rx
 have fin:∀(its:List Value),Vals ys its->ys.length<=sizeLine->∀(h':Heap) (c':Nat),(∀b o',s.heap.get? b=some o'->h'.get? b=some o')->
   h'.get? s.heap.objs.size=some {cls:= .type "list",dict:=none,data:= .seq its.toArray c',slots:=#[]}->EP X pins σ Q (.ref s.heap.objs.size) {s with heap:=h'}:=λits r' hz h' c' kp e=>
  ⟨.ref s.heap.objs.size,_,I.laid (t':=s.toks) kp (aah _) (show aL X.prog X.w _ h' _ (.lst ys) from ⟨hz,its,c',r',e⟩),rfl,q _ (I.ah.fresh (aah _))⟩
 rcases hq with hq|hq
 ·let⟨its,r',pl,hz⟩:=I.list hq;have hlen:=r'.length;let⟨o,ho,hc,n,hd⟩:=pl.isList;exact call_list_seq p (.inl rfl) ho hc hd (λh' c' kp e=>fin its r' hz h' c' kp e) (by simp only[aak]<;>lia)
 ·let⟨its,r',pl,hz⟩:=I.tuple hq;have hlen:=r'.length;let⟨o,ho,hc,n,hd⟩:=pl;exact call_list_seq p (.inr rfl) ho hc hd (λh' c' kp e=>fin its r' hz h' c' kp e) (by simp only[aak]<;>lia)
theorem pZ:ar X (.type "tuple") (λxs H Q=>∃p ys,xs=[.ref p]/\((bK X.K H p ys/\∀l,H l=none->Q (.ref l) (upd H l (.tup ys)))∨(cO X.K H p ys/\Q (.ref p) H))):=by
 intro pins s σ H xs us Q I r h;let⟨p,ys,rfl,h⟩:=h;let⟨u,rfl,rx⟩:=vals1 r;cases rx
 rcases h with⟨hq,q⟩|⟨hq,q⟩
 ·let⟨its,r',pl,hz⟩:=I.list hq;have hlen:=r'.length;refine call_tuple_list pl.isList (λh' kp=> ?_) (by simp only[aak]<;>lia);have I1:Inv X pins σ H {s with heap:=h'}:=I.kept (t':=s.toks) kp
  have I2:Inv X pins σ (upd H h'.objs.size (.tup ys)) {s with heap:=h'.push {cls:= .type "tuple",data:= .seq its.toArray}}:=
   I1.laid (t':=s.toks) (λb o e=>aad _ e) (aah _) (show aL X.prog X.w _ _ _ (.tup ys) from ⟨hz,its,r',IsTup.new _ _⟩)
  exact⟨.ref h'.objs.size,_,I2,rfl,q _ (I1.ah.fresh (aah _))⟩
 ·let⟨its,r',pl,hz⟩:=I.tuple hq;exact call_tuple_same pl ⟨.ref p,H,I,rfl,q⟩
def E5 (K:PySem.W.Frag) (T:String) (x:V) (H:Hp):Prop:=match x with
 | .str _=>T="str"
 | .int _=>T="int"
 | .ref p=>(T="list"/\∃xs,bK K H p xs)∨(T="tuple"/\∃o,K.lookup p=some o/\o.cls= .type "tuple"/\o.dict=none)∨
   (T="dict"/\((∃kvs,H p=some (.dK kvs))∨∃kvs,H p=some (.dT kvs)))∨(T="set"/\∃S n,H p=some (.set S n))
 |_=>False
theorem yP {σ:St} {H:Hp} {s:Shared} {T:String} {x:V} {v:Value} (I:Inv X pins σ H s) (r:RelV x v) (ty:E5 X.K T x H):
  s.TypeIs v T/\∀a,v= .ref a->∃ob,s.heap.get? a=some ob/\ob.dict=none:=by
 cases x with
 |str z=>
  let⟨t,rfl⟩:=r;cases (show T="str" from ty);exact⟨typeIs_str s z t,λ_ e=>nomatch e⟩
 |int i=>
  let⟨t,rfl⟩:=r;cases (show T="int" from ty);exact⟨typeIs_int s i t,λ_ e=>nomatch e⟩
 |ref p=>
  cases r
  rcases ty with⟨rfl,xs,hq⟩|⟨rfl,o,hk,hc,hd⟩|⟨rfl,hk⟩|⟨rfl,S,n,hk⟩
  ·let⟨its,_,pl,_⟩:=I.list hq;refine⟨pl.isList.typeIs,λa e=> ?_⟩;cases e;let⟨o,n,e,c,hd,_⟩:=pl;exact⟨o,e,hd⟩
  ·refine⟨⟨o,I.cB p o hk,hc⟩,λa e=> ?_⟩;cases e;exact⟨o,I.cB _ o hk,hd⟩
  ·have z:∃o,s.heap.get? p=some o/\o.ExactDict:=by
    rcases hk with⟨kvs,hk⟩|⟨kvs,hk⟩
    ·let⟨_,_,_,_,o,_,_,e,ex,_⟩:=I.ah p _ hk;exact⟨o,e,ex⟩
    ·let⟨_,_,_,_,o,_,_,e,ex,_⟩:=I.ah p _ hk;exact⟨o,e,ex⟩
   let⟨o,e,ex⟩:=z;refine⟨⟨o,e,ex.1⟩,λa e2=> ?_⟩;cases e2;exact⟨o,e,ex.2.1⟩
  ·let⟨o,_,_,_,e,ex,_⟩:=I.ah p _ hk;refine⟨⟨o,e,ex.1⟩,λa e2=> ?_⟩;cases e2;exact⟨o,e,ex.2.1⟩
 |_=>exact False.elim ty
def Ky (K:PySem.W.Frag) (T:String) (r:V->List V->Hp->VK->Prop) (to:TE):TE:=λσ H Q=>to σ H λx H1=>E5 K T x H1/\r x [] H1 Q
def tBM (K:PySem.W.Frag) (T:String) (r:V->List V->Hp->VK->Prop) (to:TE) (t:TA):TE:=λσ H Q=>to σ H λx H1=>E5 K T x H1/\t σ H1 λxs H2=>r x xs H2 Q
variable {o e:Expr} {es:List Expr} {to:TE} {t:TA} {name:Str} {apos cpos:Pos} {T id:String} {r:V->List V->Hp->VK->Prop}
theorem GG (pa:PlainAttrs T) (slot:Slot T name id) (hty:typeOf (.builtin id)=pure (.type "method_descriptor")) (hm:qx X id r) (ho:PE X o to)
  (hbase:attributeBase o name X.env (eval o X.env)=eval o X.env:=by rfl) (hline:(apos.endLine==cpos.line)=true:=by rfl):PE X (.Call (.Attribute o name apos) [] [] cpos) (Ky X.K T r to):=by
 intro pins s σ H Q I h;refine wpAny_Call_method0_late hbase hline (aw (ho pins s σ H _ I h) λv s1 z902=> ?_);let⟨x,H1,I1,r1,ty,q1⟩:=z902;let⟨h1,h2⟩:=yP I1 r1 ty;exact⟨T,id,pa,slot,hty,h1,h2,ab2 rfl (PySem.evalArgs_none (hm pins s1 σ H1 x [] v [] Q I1 r1 .nil q1))⟩
theorem Iq (pa:PlainAttrs T) (slot:Slot T name id) (hty:typeOf (.builtin id)=pure (.type "method_descriptor")) (hm:qx X id r) (ho:PE X o to) (ha:PA X (e::es) t)
  (hbase:attributeBase o name X.env (eval o X.env)=eval o X.env:=by rfl)
  (hfew:((backTo cpos (starEach (e::es) X.env)).all (λx=> !x.1)&&(backToKw cpos (keywordEach [] X.env)).all (λx=>x.1.isSome)
   &&decide ((e::es).length+([]:List Keyword).length+(if ([]:List Keyword).isEmpty then 0 else 1)<30))=true:=by rfl)
  (hline:(apos.endLine==cpos.line)=true:=by rfl) (hs:starEach (e::es) X.env=(false,eval e X.env)::starEach es X.env:=by rfl) (hplain:(backTo cpos (starEach es X.env)).any (·.1)=false:=by rfl):
  PE X (.Call (.Attribute o name apos) (e::es) [] cpos) (tBM X.K T r to t):=by
 intro pins s σ H Q I h;refine wpAny_Call_method_late hbase hfew hline rfl (aw (ho pins s σ H _ I h) λv s1 z902=> ?_);let⟨x,H1,I1,r1,ty,q1⟩:=z902;let⟨h1,h2⟩:=yP I1 r1 ty;refine⟨T,id,pa,slot,hty,h1,h2, ?_⟩;have hA:=ha cpos pins s1 σ H1 _ I1 q1;rw[hs] at hA⊢;refine ab2 (by show (false||(backTo cpos (starEach es X.env)).any (·.1))=false;rw[hplain]<;>rfl) (acd ?_)
 exact aw hA λus s2 z902=>by let⟨vs,H2,I2,r2,q2⟩:=z902;exact hm pins s2 σ H2 x vs v us Q I2 r1 r2 q2
end
def MtM (X:Cx) (id:String) (r:V->List V->Hp->VK->Prop):Prop:=
 ∀(pins:List (Addr×Obj)) (s:Shared) (σ:St) (H:Hp) (x:V) (xs:List V) (v:Value) (us:List Value) (Q:VK),Inv X pins σ H s->RelV x v->Vals xs us->r x xs H Q->
  wpAny (model X.prog X.w) X.A (call (.builtin id) (v::us)) (EP X pins σ Q) X.xe s
theorem Vals.one:∀{x:V} {us:List Value},Vals [x] us->∃u,us=[u]/\RelV x u:=λh=>by
 cases h with|cons r t=>cases t;exact⟨_,rfl,r⟩
theorem Vals.two:∀{x y:V} {us:List Value},Vals [x,y] us->∃u v,us=[u,v]/\RelV x u/\RelV y v:=λh=>by
 cases h with|cons r t=>cases t with|cons q t=>cases t;exact⟨_,_,rfl,r,q⟩
section
variable {X:Cx} {pins:List (Addr×Obj)} {σ:St} {H:Hp} {s:Shared} {l b:Addr} {xs ys zs:List V}
theorem Inv.we {its its':List Value} {n:Nat} {f:Array Value->Array Value} {t':Nat} (I:Inv X pins σ H s) (hH:H l=some (.lst xs))
  (e:s.heap.get? l=some {cls:= .type "list",data:= .seq its.toArray n}) (hf:f its.toArray=its'.toArray) (hv:Vals ys its') (hz:ys.length<=sizeLine):
  Inv X pins σ (upd H l (.lst ys)) {s with heap:=s.heap.update l (Obj.mapSeq f),toks:=t'}:=by
 have q:=PySem.IsL.update e f;rw[hf] at q;refine I.write (x:=l) (e:=l) (by rw[hH];exact trivial) (.inl rfl) (λb' u hb hu=>(aaF s.heap (Obj.mapSeq f) (Ne.symm hb)).trans hu) ⟨_,q⟩ ?_;exact⟨hz,its',_,hv,q⟩
theorem Inv.Ly {its:List Value} {t':Nat} (I:Inv X pins σ H s) (hv:Vals ys its) (hz:ys.length<=sizeLine):
  Inv X pins σ (upd H s.heap.objs.size (.lst ys)) {s with heap:=s.heap.push {cls:= .type "list",data:= .seq its.toArray},toks:=t'}:=
 I.laid (λ_ _ q=>aad _ q) (aah _) ⟨hz,its,0,hv,aai _ rfl⟩
theorem Inv.fresh (I:Inv X pins σ H s):H s.heap.objs.size=none:=I.ah.fresh (aah _)
theorem Inv.lT (I:Inv X pins σ H s) (hH:H l=some (.lst xs)):xs.length<=sizeLine/\∃(its:List Value) (n:Nat),Vals xs its/\xs.length=its.length/\s.heap.get? l=some {cls:= .type "list",data:= .seq its.toArray n}:=by
 let⟨z,its,n,r,e⟩:=I.ah l _ hH;exact⟨z,its,n,r,r.length,e⟩
theorem Ab {n:Nat} (h:n<=sizeLine):Builtin.List.listTooLong n=false:=by
 unfold Builtin.List.listTooLong;exact aaB (by lia)
end
section
variable {X:Cx}
def Eo:V->List V->Hp->VK->Prop:=λx vs H Q=>∃l xs y,x= .ref l/\vs=[y]/\H l=some (.lst xs)/\xs.length<sizeLine/\Q .non (upd H l (.lst (xs++[y])))
theorem pV:MtM X "list.append" Eo:=by
 intro pins s σ H x vs v us Q I rx rv h;let⟨l,xs,y,rfl,rfl,hH,hz,q⟩:=h;cases rx;let⟨u,rfl,ru⟩:=rv.one;let⟨z,its,n,r,hl,e⟩:=I.lT hH;refine call_meets F.slot_list_append ⟨_,e,rfl⟩ F.entry_list_append (F.args_list_append_2 _ _) (PySem.list_append l its.toArray n u (by rw[aak];lia)) ⟨e, ?_⟩;refine⟨.non,_,I.we (its':=its++[u]) hH e (by simp) (r.append (.cons ru .nil)) ?_,rfl,q⟩;rw[aaZ,ab6];lia
def CK:V->List V->Hp->VK->Prop:=λx vs H Q=>∃l b xs zs,x= .ref l/\vs=[.ref b]/\H l=some (.lst xs)/\H b=some (.lst zs)/\xs.length+zs.length<=sizeLine/\Q .non (upd H l (.lst (xs++zs)))
theorem zi:MtM X "list.extend" CK:=by
 intro pins s σ H x vs v us Q I rx rv h;let⟨l,b,xs,zs,rfl,rfl,hH,hB,hz,q⟩:=h;cases rx;let⟨u,rfl,ru⟩:=rv.one;cases ru;let⟨z,its,n,r,hl,e⟩:=I.lT hH;let⟨z2,its2,n2,r2,hl2,e2⟩:=I.lT hB
 have hsz:its.toArray.size+its2.toArray.size<=sizeLine:=by rw[aak,aak];lia
 have hlong:¬(!its.toArray.isEmpty&&Builtin.List.listTooLong (its.toArray.size+its2.toArray.size))=true:=by
  rw[Ab hsz,Bool.and_false];exact aaq
 refine call_meets F.slot_list_extend ⟨_,e,rfl⟩ F.entry_list_extend (F.args_list_extend_2 _ _)
  (AutoSeq1.list_extend_list_list_0 l its.toArray n b its2.toArray n2 hlong (by rw[aak];lia) (by lia)) ⟨e,e2, ?_⟩
 refine⟨.non,_,I.we (its':=its++its2) hH e (by simp) (r.append r2) ?_,rfl,q⟩;rw[aaZ];lia
end
section
variable {prog:Program} {w:World} {A:Around} {E:Value->Shared->Prop} {s:Shared}
end
section
variable {X:Cx}
end
end L2
namespace Att
open PySem PySem.W PySem.Calls PyProof.Rows
theorem nz {P:Params}:∀(ns:List Int) (vs:List Value),WellAll P h vs (ns.map WData.int)->IntsAre vs ns:=by
 intro ns
 induction ns with
 |nil=>
  intro vs w;rw[acK] at w;cases w;exact .nil
 |cons n ns ih=>
  intro vs w;rw[aay] at w
  cases w with
  |cons a b=>
   cases a;exact .cons _ _ (ih _ b)
theorem yK {l:OpenLaw} {n:Nat} (hn:l.most=some n) {P:Params} {h:Heap} {args:List WData} {vals:List Value}
  (hpre:l.row.toRowW.claim.pre args=true) (hwl:WellAll P h vals args):
  ∃a vs ns,vals=[Value.ref a]/\args=[WData.list (ns.map WData.int)]/\h.get? a=some {cls:= .type "list",data:= .seq vs.toArray}/\IntsAre vs ns/\ns.length<=n:=by
 have hsh:WShape.hasAll [] args [.list .int]=true:=(pre_splitW hpre).1;have hc:l.pre.holds [] {args:=args}=true:=(pre_splitW hpre).2;let⟨d,r,rfl,h1,h2⟩:=hasAllW_cons hsh;obtain rfl:=hasAllW_nil h2;let⟨xs,rfl,h3⟩:=hasW_list h1;let⟨ns,rfl⟩:=items_int h3
 have hlen:ns.length<=n:=by
  unfold OpenLaw.pre at hc
  have h4:(WTm.not (.lt (.lit (.int (n:Int))) (.len (.arg 0)))).holds [] {args:=[.list (ns.map .int)]}=true:=by
   have h4:=(holds_andW hc).1;rw[hn] at h4;exact h4
  have h5:=condW_of h4 (w_not (w_lt w_lit (w_len_list (w_arg rfl))));rw[List.length_map] at h5;refine Nat.le_of_not_lt λq=> ?_
  have q':(n:Int)<((ns.length:Nat):Int):=by lia
  first
   |(rw[abB q'] at h5;exact absurd h5 (by decide))
   |(simp at h5;lia)
 cases hwl with
 |cons w1 w2=>
  cases w2
  cases w1 with
  |list ho hall=>exact⟨_,_,ns,rfl,rfl,ho,nz ns _ hall,hlen⟩
theorem zh (l:OpenLaw) (args:List WData):l.row.toRowW.claim.post args (.bool true) args=true:=
 postW_of (r:=l.row.toRowW) (X:=(true==true))
  (show WShape.has [] (.bool true) .bool=true by first|rfl|decide|simp[WShape.has,WShape.arms,WShape.armsAll])
  (show (WTm.eq .res (.lit (.bool true))).value [] {args:=args,res:=some (.bool true),after:=args}=some (.bool (true==true)) from w_eq_bool (w_res rfl) w_lit) rfl
theorem tI {l:OpenLaw} {n:Nat} {loose:List Str} {XP:(Str->Option Value)->Heap->Prop} {YP:World->Heap->Prop} {d:DefRec}
  (hn:l.most=some n) (hdf:d.params.defaults=[])
  (call:∀(w:World) (s₀ s₁:Shared) (mg mb:Str->Option Value) (fa:Addr) (o:Obj) (pm cd doc:Value) (a:Addr) (vs:List Value) (ns:List Int),
   Ground q loose [] XP w s₀ mg mb s₁.heap->YP w s₁.heap->
   s₁.heap.get? fa=some o->o.data= .func (docDef d.name d.params d.body d.scope pm cd doc)->s₁.heap.CodeRec cd d.name->mg d.name=some (.ref fa)->
   s₁.heap.get? a=some {cls:= .type "list",data:= .seq vs.toArray}->IntsAre vs ns->ns.length<=n->s₁.gens=#[]->
   codeAny (model l.prog w) callerA (.call (.ref fa) ⟨[.ref a],[]⟩) (λr s'=>r= .ok (.ret (.bool true))/\OldK s₁.heap s'.heap/\s'.os=s₁.os/\AllBare s'.gens) s₁):
  WalkO q loose XP YP l.row.toRowW d [] (λf vs=>PySem.call f vs):=by
 intro w s₀ s₁ mg mb G Y fa o pm cd doc dV kV ho hd hcd hD hmg hg args vals as hpre hlay hrd hwl hlo;obtain rfl:dV= .none:=Dflts.none hD hdf;obtain rfl:kV= .none:=Dflts.noKw hD;let⟨a,vs,ns,rfl,rfl,hobj,hints,hlen⟩:=yK hn hpre hwl;refine enter_call (acN (call w s₀ s₁ mg mb fa o pm cd doc a vs ns G Y ho (fd_plain hd) hcd hmg hobj hints hlen hg) λr s' hq=> ?_);let⟨rfl,h2,h3,h4⟩:=hq;exact⟨.inl ⟨.bool true, .bool true,[],rfl,λ_=>rfl, .bool true,zh l _,λ_=>⟨List.Pairwise.nil,λ_ hm=>(nomatch hm)⟩⟩,h2,h3,h4⟩
section
variable {prog:Program} {w:World} {A:Around} {E:Value->Shared->Prop} {s:Shared} {K:Frag}
end
end Att
namespace L2
open PySem PySem.Spec PyProof.Rows
theorem pe:∀{vs:List Value} {ns:List Int},IntsAre vs ns->Vals (ns.map V.int) vs
 |_,_, .nil=> .nil
 |_,_, .cons n t h=> .cons ⟨t,rfl⟩ (pe h)
def Ba (H:Hp):Prop:=∀b,H b=none∨∃o xs,H b=some (.aD o (.lst xs))
theorem A7 {P:Program} {w:World} {K:PySem.W.Frag} {mg mb:Str->Option Value} {CX:k6} {k:Nat} {a:Addr} {x:Str} {sp:Sp} {s₁:Shared} {vs:List Value} {ns:List Int}
  (KX:K.In s₁.heap) (hns:s₁.heap.Ns mainGlobals mg) (hb:s₁.heap.Ns builtinsNs mb) (hbb:∀x:Str,x≠"__name__"->mb x=bootBuiltins x) (hlim:s₁.heap.NoLimit) (hg:s₁.gens=#[])
  (ha:s₁.heap.get? a=some {cls:= .type "list",data:= .seq vs.toArray}) (hi:IntsAre vs ns) (hl:ns.length<=sizeLine) (hr:Room k callerA)
  (F:∀base:Heap,K.In base->base.Ns mainGlobals mg->FnOk P w K mg base CX k fa fd [x] sp) (hbind:∀(s:Shared) (u:Value),BindsTo s fd ⟨[u],[]⟩ [(x,u)])
  (hsp:∀H:Hp,Ba H->bK K H a (ns.map V.int)->sp [.ref a] H (λv _=>v= .bl true) λ_ _ _=>False)
  (hCX:∀H e s',CX [] H s₁ (λ_ _ _=>False) e s'->False):
  codeAny (model P w) callerA (.call (.ref fa) ⟨[.ref a],[]⟩) (λr s'=>r= .ok (.ret (.bool true))/\OldK s₁.heap s'.heap/\s'.os=s₁.os/\AllBare s'.gens) s₁:=by
 have rv:=pe hi;have iu:=hi.length
 have core:∀H:Hp,Ba H->bK K H a (ns.map V.int)->bH P w H s₁.heap->(∀b,H b≠none->b=a)->(H a≠none->K.lookup a=none)->
   codeAny (model P w) callerA (.call (.ref fa) ⟨[.ref a],[]⟩) (λr s'=>r= .ok (.ret (.bool true))/\OldK s₁.heap s'.heap/\s'.os=s₁.os/\AllBare s'.gens) s₁:=by
  intro H hO hS ah hA hK;have base_of:∀{b:Addr} {o:Obj},s₁.heap.get? b=some o->H b=none->(iS s₁.heap H).get? b=some o:=λe n=>AH e n
  have noA:∀{b:Addr} {o:Obj} {es:Array DictEntry} {ep:Nat},s₁.heap.get? b=some o->o.data= .dict es ep->H b=none:=λ{b o es ep} e d=>by
   cases q:H b with
   |none=>rfl
   |some u=>
    have e':b=a:=hA b (by rw[q];simp);subst e';rw[ha] at e;cases e;have d':Data.seq vs.toArray _=Data.dict es ep:=d;cases d'
  have nsK:∀{b:Addr} {m:Str->Option Value},s₁.heap.Ns b m->(iS s₁.heap H).Ns b m:=λ{b m} z901=>by let⟨o,es,ep,e,d,r⟩:=z901;exact⟨o,es,ep,base_of e (noA e d),d,r⟩
  have hKb:K.In (iS s₁.heap H):=λb o e=>base_of (KX b o e) (by
   cases q:H b with
   |none=>rfl
   |some u=>
    have e':b=a:=hA b (by rw[q];simp);subst e'
    rw[hK (by rw[q];simp)] at e;cases e)
  have hM:Mod K mg (iS s₁.heap H):=⟨hKb,nsK hns,⟨mb,nsK hb,hbb⟩,let ⟨mc,h1,h2⟩:=hlim;⟨mc,nsK h1,h2⟩⟩
  have e0:Env0 P w K mg (iS s₁.heap H) callerA [] s₁ H:=⟨rfl,hM,λb o e=>D4 e,ac4 (yG _ _),trivial,λb hb=>absurd (show b∈([]:List Addr) from hb) (by simp),ah, .of_eq hg⟩;refine acN ((F _ hKb (nsK hns)).run callerA [] s₁ H ⟨[.ref a],[]⟩ [.ref a] [.ref a] _ _ hr e0 (hbind s₁ (.ref a)) (.cons rfl .nil) (hsp H hO hS)) λr s' h=> ?_
  cases r with
  |error e=>exact(hCX H e s' h).elim
  |ok fl=>
   cases fl with
   |next=>exact False.elim h
   |brk=>exact False.elim h
   |cont=>exact False.elim h
   |ret u=>
    let⟨v,H',os,bare,un,hok',r',q⟩:=h;have q':v= .bl true:=q;subst q';obtain rfl:u=Value.bool true:=r';refine⟨rfl,OldK.of_keep λb o e=> ?_,os,bare⟩
    cases q:H b with
    |none=>exact un.keep b o e q (by intro z;exact absurd (show b∈([]:List Addr) from z) (by simp)) (by simp)
    |some u=>
     rcases hO b with z|⟨ob,xs,z⟩
     ·rw[q] at z;cases z
     ·have z2:=un.aS b ob _ z;let⟨e1,_⟩:=ah b _ z;let⟨e2,_⟩:=hok' b _ z2;rw[e] at e1;cases e1;exact e2
 cases hk:K.lookup a with
 |some o=>
  have e:=KX a o hk;rw[ha] at e;cases e;refine core (λ_=>none) (λ_=> .inl rfl) (.inr ⟨_,vs.toArray,_,hk,rfl,rfl,rfl,by rw[aak,iu];exact hl,by simpa using rv⟩) (λb u z=>by have z':(none:Option HO)=some u:=z;cases z') (λb z=>absurd rfl z) λz=>absurd rfl z
 |none=>
  refine core (λb=>if b=a then some (.aD {cls:= .type "list",data:= .seq vs.toArray} (.lst (ns.map V.int))) else none) (λb=> ?_) (.inl (.inr ⟨{cls:= .type "list",data:= .seq vs.toArray},if_pos rfl⟩)) (λb u z=> ?_) (λb z=> ?_) λ_=>hk
  ·by_cases hb:b=a
   ·exact .inr ⟨_,_,if_pos hb⟩
   ·exact .inl (if_neg hb)
  ·by_cases hb:b=a
   ·have z':=(if_pos hb).symm.trans z;cases z';subst hb;exact⟨ha,by rw[List.length_map];exact hl,vs,_,rv,ha⟩
   ·have z':=(if_neg hb).symm.trans z;cases z'
  ·by_cases hb:b=a
   ·exact hb
   ·exact absurd (if_neg hb) z
theorem CJ {l:PySem.W.OpenLaw} {n k:Nat} {loose:List Str} {XP:(Str->Option Value)->Heap->Prop} {YP:World->Heap->Prop} {d:DefRec} {K:Params->PySem.W.Frag} {CX:World->k6} {sp:World->Sp} {x:Str}
  (hn:l.most=some n) (hn2:n<=sizeLine) (hdf:d.params.defaults=[]) (hr:Room k callerA)
  (hY:∀(w:World) (h:Heap),YP w h->(K w.params).In h)
  (F:∀(w:World) (mg:Str->Option Value) (fa:Addr) (h:Heap),(K w.params).In h->h.Ns mainGlobals mg->mg d.name=some (.ref fa)->
   ∃fd:FuncData,(∀(s:Shared) (u:Value),BindsTo s fd ⟨[u],[]⟩ [(x,u)])/\
    ∀base:Heap,(K w.params).In base->base.Ns mainGlobals mg->FnOk l.prog w (K w.params) mg base (CX w) k fa fd [x] (sp w))
  (hsp:∀(w:World) (H:Hp) (a:Addr) (ns:List Int),ns.length<=n->Ba H->bK (K w.params) H a (ns.map V.int)->sp w [.ref a] H (λv _=>v= .bl true) λ_ _ _=>False)
  (hCX:∀(w:World) (H:Hp) (s:Shared) (e:Value) (s':Shared),CX w [] H s (λ_ _ _=>False) e s'->False):
  PySem.W.WalkO q loose XP YP l.row.toRowW d [] (λf vs=>PySem.call f vs):=by
 refine Att.tI hn hdf λw s₀ s₁ mg mb fa o pm cd doc a vs ns G Y ho hd hcd hmg hobj hints hlen hg=> ?_;have KX:=hY w _ Y;let⟨fd,hb,hF⟩:=F w mg fa _ KX G.T.g hmg;exact A7 KX G.T.g G.T.b G.T.builtins G.T.nolimit hg hobj hints (aaL hlen hn2) hr hF hb (λH hO hS=>hsp w H a ns hlen hO hS) λH e s'=>hCX w H s₁ e s'
noncomputable def inClass (s:Stmt) (j:Nat):Stmt:=match s with
 | .ClassDef _ _ _ body _ _ _ _ _ _ _=>body.getD j (.Pass ⟨0,0,0,0⟩)
 |_=> .Pass ⟨0,0,0,0⟩
noncomputable def dD (s:Stmt):Arguments:=match s with
 | .FunctionDef _ a _ _ _ _ _ _ _ _=>a
 |_=>{posonlyargs:=[],args:=[],vararg:=none,kwonlyargs:=[],kw_defaults:=[],kwarg:=none,defaults:=[]}
noncomputable def bB (s:Stmt):List Stmt:=match s with
 | .FunctionDef _ _ b _ _ _ _ _ _ _=>b
 |_=>[]
noncomputable def ay (s:Stmt):Scope:=match s with
 | .FunctionDef _ _ _ _ _ _ sc _ _ _=>sc
 |_=>{kind:= .function,names:=[],isGenerator:=false,isCoroutine:=false}
structure Fun (K:PySem.W.Frag) (x qual:Str) (st:Stmt) (f:Addr) (fd:FuncData):Prop where
 ex:∃(oc:Value) (od:Option Addr) (kV doc pm:Value) (an:Option Addr) (cdv ct:Value) (osl:Array (Option Value)),
  fd=PySem.W.fnOf x qual (dD st) (bB st) (ay st) .none kV doc pm an cdv ct/\K.lookup f=some ⟨oc,od, .func fd,osl⟩/\PySem.W.codeIn K cdv qual=true
 kp:PySem.W.keepIn K (.ref f)=true
section
variable {P:Program} {w:World} {K:PySem.W.Frag} {mg:Str->Option Value} {base:Heap}
theorem Fun.binds {x qual:Str} {st:Stmt} {f:Addr} {ps:List Str} (F:Fun K x qual st f fd)
  (h:∀(kV doc pm:Value) (an:Option Addr) (cdv ct:Value) (us:List Value),us.length=ps.length->bindArgs (PySem.W.fnOf x qual (dD st) (bB st) (ay st) .none kV doc pm an cdv ct) ⟨us,[]⟩=pure (ps.zip us)):Binds K fd ps []:=by
 let⟨oc,od,kV,doc,pm,an,cdv,ct,osl,rfl,lk,hcd⟩:=F.ex;exact .all (h kV doc pm an cdv ct)
theorem Fg {x qual:Str} {st:Stmt} {f:Addr} {oc:Value} {od an:Option Addr} {osl:Array (Option Value)} {kV doc pm cdv ct:Value} (l:K.lookup f=some ⟨oc,od, .func (PySem.W.fnOf x qual (dD st) (bB st) (ay st) .none kV doc pm an cdv ct),osl⟩)
  (c:PySem.W.codeIn K cdv qual=true) (k:PySem.W.keepIn K (.ref f)=true):Fun K x qual st f (PySem.W.fnOf x qual (dD st) (bB st) (ay st) .none kV doc pm an cdv ct):=⟨⟨oc,od,kV,doc,pm,an,cdv,ct,osl,rfl,l,c⟩,k⟩
end
theorem gP {n:Nat} (h:n<=1000):n<sizeLine:=ab0 h (by decide)
section
variable {X:Cx}
end
theorem lN {A B:Prop} (h:B):if false=true then A else B:=by
 rw[if_neg aaq];exact h
theorem lU {A B:Prop} (h:A):if true=true then A else B:=by
 rw[if_pos rfl];exact h
end L2
namespace L2.L3
open PySem PySem.Spec PyProof.Rows
section
variable {P:Program} {w:World} {H:Hp} {h:Heap} {a:Addr} {o:HO}
theorem xP (x:aL P w H h a o):∃ob,h.get? a=some ob:=by
 cases o with
 |lst xs=>exact let ⟨_,_,_,_,e⟩:=x;⟨_,e⟩
 |tup xs=>exact let ⟨_,_,_,ob,e,_⟩:=x;⟨ob,e⟩
 |dK kvs=>exact let ⟨_,_,_,_,ob,_,_,e,_⟩:=x;⟨ob,e⟩
 |dT kvs=>exact let ⟨_,_,_,_,ob,_,_,e,_⟩:=x;⟨ob,e⟩
 |set S n=>exact let ⟨ob,_,_,_,e,_⟩:=x;⟨ob,e⟩
 |ins C dx fs=>exact let ⟨_,_,_,e,_⟩:=x;⟨_,e⟩
 |own y=>exact x
 |xd fs=>exact let ⟨_,⟨ob,_,_,e,_⟩,_⟩:=x;⟨ob,e⟩
 |rng lo hi=>exact let ⟨_,_,_,e⟩:=x;⟨_,e⟩
 |aD ob u=>exact⟨ob,x.1⟩
 |tbl ps=>exact⟨_,(show h.get? a=some _ from x)⟩
 |met f y=>exact⟨_,(show h.get? a=some _ from x)⟩
 |ext φ=>exact x.2.1
theorem BA (x:bH P w H h) (e:h.get? a=none):H a=none:=by
 cases q:H a with
 |none=>rfl
 |some u=>
  let⟨ob,z⟩:=xP (x a u q);rw[e] at z;cases z
end
def wide (X:Cx) (ch:List Addr):Cx:={X with ex:=ch++X.ex}
section
variable {X:Cx} {pins:List (Addr×Obj)} {σ:St} {H H':Hp} {s s':Shared} {ch:List Addr}
theorem widen (I:Inv X pins σ H s) (hc:∀b∈ch,X.s₀.heap.get? b=none/\b≠X.env.locals/\(∀x c,X.env.cells.lookup x=some c->c≠b)/\b∉X.fs):Inv (wide X ch) pins σ H s:=by
 have ok:(wide X ch).Ok:=by
  refine⟨I.ok.mod,I.ok.kind,I.ok.glob,I.ok.blt,I.ok.above,I.ok.inj,I.ok.has,I.ok.cab,I.ok.hd,I.ok.frames,I.ok.stk, ?_,I.ok.bs,I.ok.bsz, ?_, ?_,I.ok.cW,I.ok.frf⟩
  ·intro b hb
   rcases aaz.mp hb with z|z
   ·exact⟨(hc b z).2.1,(hc b z).2.2.1⟩
   ·exact I.ok.exf b z
  ·intro b o e hb
   rcases aaz.mp hb with z|z
   ·have q:=(I.ok.bs b o e).1;rw[(hc b z).1] at q;cases q
   ·exact I.ok.noex b o e z
  ·intro b hb
   rcases aaz.mp hb with z|z
   ·exact(hc b z).2.2.2
   ·exact I.ok.exfs b z
 have un:Un X.fs (ch++X.ex) X.H₀ H X.s₀.heap s.heap:=I.base.mono (λ_ z=>z) λ_ z=>aaA _ z;exact⟨ok,I.os,I.bare,un,I.loc,I.cell,I.free,I.freeC,I.pin,I.ah,I.len⟩
theorem narrow (I:Inv (wide X ch) pins σ H s) (ok:X.Ok) (hc:∀b∈ch,X.s₀.heap.get? b=none):Inv X pins σ H s:=by
 have nc:∀b o,X.s₀.heap.get? b=some o->b∉X.ex->b∉ch++X.ex:=λb o e nx z=>by
  rcases aaz.mp z with z|z
  ·rw[hc b z] at e;cases e
  ·exact nx z
 have B:Un X.fs (ch++X.ex) X.H₀ H X.s₀.heap s.heap:=I.base
 have un:Un X.fs X.ex X.H₀ H X.s₀.heap s.heap:=
  ⟨λb o e n f x=>B.keep b o e n f (nc b o e x),λb o e n f x=>B.slot b o e n f (nc b o e x),λb o e n x=>B.free b o e n (nc b o e x),λb o e x=>B.there b o e (nc b o e x),B.tups,B.aS,B.tbls⟩
 exact⟨ok,I.os,I.bare,un,I.loc,I.cell,I.free,I.freeC,I.pin,I.ah,I.len⟩
theorem Ce (I:Inv X pins σ H s) (ho:s'.os=s.os) (u:Un (cM X.stack) ch H H' s.heap s'.heap) (ah:bH X.prog X.w H' s'.heap) (hg:AllBare s'.gens)
  (hc:∀b∈ch,X.s₀.heap.get? b=none/\b≠X.env.locals/\(∀x c,X.env.cells.lookup x=some c->c≠b)/\b∉X.fs/\∀p∈X.pn++pins,p.1≠b):Inv X pins σ H' s':=by
 have J:Inv (wide X ch) pins σ H s:=widen I λb hb=>⟨(hc b hb).1,(hc b hb).2.1,(hc b hb).2.2.1,(hc b hb).2.2.2.1⟩;have J':Inv (wide X ch) pins σ H' s':=J.wo (ch:=ch) ho u ah hg λb hb=>⟨.inl (aaY _ hb),(hc b hb).2.1,(hc b hb).2.2.1,(hc b hb).2.2.2.2⟩;exact narrow J' I.ok λb hb=>(hc b hb).1
theorem kh {a:Addr} {o:HO} (I:Inv X pins σ H s) (hn:H a=none) (hy:X.s₀.heap.get? a=none) (h1:a≠X.env.locals) (h2:∀x c,X.env.cells.lookup x=some c->c≠a) (h3:∀p∈X.pn++pins,p.1≠a)
  (new:aL X.prog X.w (upd H a o) s.heap a o):Inv X pins σ (upd H a o) s:=by
 have ne:∀b u,X.s₀.heap.get? b=some u->b≠a:=λb u e z=>by
  rw[z,hy] at e;cases e
 have up:∀b u,H b=some u->upd H a o b=some u:=λb u q=>by
  rw[aq (bE q hn)];exact q
 have un:Un X.fs X.ex X.H₀ (upd H a o) X.s₀.heap s.heap:=by
  refine⟨I.base.keep,I.base.slot,λb u e n x=> ?_,I.base.there,λb xs q=>up _ _ (I.base.tups b xs q),λb u v q=>up _ _ (I.base.aS b u v q),λb ps q=> ?_⟩
  ·rw[aq (ne b u e)];exact I.base.free b u e n x
  ·let⟨more,z⟩:=I.base.tbls b ps q;exact⟨more,up _ _ z⟩
 refine⟨I.ok,I.os,I.bare,un,I.loc,I.cell, ?_,λx c e=> ?_,λp hp=> ?_,λb u e=> ?_,I.len⟩
 ·rw[aq h1.symm];exact I.free
 ·rw[aq (h2 x c e)];exact I.freeC x c e
 ·let⟨p1,p2,p3⟩:=I.pin p hp;exact⟨p1,by rw[aq (h3 p hp)];exact p2,p3⟩
 ·by_cases hb:b=a
  ·subst hb;rw[ak] at e;cases e;exact new
  ·rw[aq hb] at e;exact(I.ah b u e).jh (λ_ _ _ q=>q) (λc q=>up _ _ q) λc xs q=>up _ _ q
theorem nA {b:Addr} {o:Obj} {vs:Array Value} (I:Inv X pins σ H s) (e:s.heap.get? b=some o) (d:o.data= .fields vs):
  b≠X.env.locals/\(∀x c,X.env.cells.lookup x=some c->c≠b)/\b∉X.fs/\b∉cM X.stack:=by
 refine⟨λz=> ?_,λx c q z=> ?_,λz=> ?_,λz=> ?_⟩
 ·let⟨m,⟨o',es,ep,ho,hd,_⟩,_⟩:=I.loc;rw[z,ho] at e;cases e;rw[hd] at d;cases d
 ·let⟨v,o',ho,hd⟩:=I.cell x c q;rw[z,e] at ho;cases ho;rw[d] at hd;cases hd
 ·let⟨_,o',ho,hd⟩:=I.cW.mem z;rw[e] at ho;cases ho;exact hd vs d
 ·let⟨_,o',ho,hd⟩:=I.stack.mem z;rw[e] at ho;cases ho;exact hd vs d
end
def ExcAt (h:Heap) (e:Addr) (cls:Value) (dx:Option Addr) (tb:Option (Addr×Value)):Prop:=
 ∃oe vs,h.get? e=some oe/\oe.cls=cls/\oe.dict=dx/\oe.data= .fields vs/\1<vs.size/\
  match tb with
  |none=>vs[1]?=some .none
  |some p=>vs[1]?=some (.ref p.1)/\p.1≠e/\∃oT ts,h.get? p.1=some oT/\oT.data= .fields ts/\ts[3]?=some p.2
theorem nJ (o:Obj) (f:Array Value->Array Value):(o.mapFields f).dict=o.dict:=by
 let⟨c,d,dt,sl⟩:=o;cases dt<;>rfl
theorem pY {e:Value} {a b:Env} (q:a.frame=b.frame):noteFrame e a=noteFrame e b:=by
 unfold noteFrame PySem.frameOf;rw[q]
structure Moved (fs ch:List Addr) (h h':Heap):Prop where
 keep:∀b o,b∉fs->b∉ch->h.get? b=some o->h'.get? b=some o
 slot:∀b o,b∉ch->h.get? b=some o->∃sl,h'.get? b=some {o with slots:=sl}
theorem Moved.refl {fs:List Addr} (h:Heap):Moved fs ch h h:=⟨λ_ _ _ _ e=>e,λ_ o _ e=>⟨o.slots,e⟩⟩
theorem Moved.trans {fs:List Addr} (x:Moved fs ch h h1) (y:Moved fs ch h1 h2):Moved fs ch h h2:=
 ⟨λb o f c e=>y.keep b o f c (x.keep b o f c e),λb o c e=>let ⟨_,e1⟩:=x.slot b o c e;let ⟨sl,e2⟩:=y.slot b _ c e1;⟨sl,e2⟩⟩
theorem Moved.mono {fs ch:List Addr} (x:Moved fs ch h h') (k:∀b∈ch,b∈ch'):Moved fs ch' h h':=
 ⟨λb o f c e=>x.keep b o f (λz=>c (k b z)) e,λb o c e=>x.slot b o (λz=>c (k b z)) e⟩
theorem Moved.un {fs:List Addr} {H:Hp} (x:Moved fs ch h h'):Un fs ch H H h h':=
 ⟨λb o e _ f c=>x.keep b o f c e,λb o e _ _ c=>x.slot b o c e,λ_ _ _ n _=>n,λb o e c=>let ⟨sl,z⟩:=x.slot b o c e;⟨_,z⟩,λ_ _ q=>q,λ_ _ _ q=>q,λ_ ps q=>⟨#[],by rw[q];simp⟩⟩
theorem Moved.ah {fs ch:List Addr} {P:Program} {w:World} {H:Hp} (x:Moved fs ch h h') (k:bH P w H h) (hf:∀b∈fs,H b=none) (hc:∀b∈ch,H b=none):bH P w H h':=λa o e=>by
 have nn:∀b u,H b=some u->b∉fs/\b∉ch:=λb u q=>⟨λz=>(by rw[hf b z] at q;cases q),λz=>(by rw[hc b z] at q;cases q)⟩;refine(k a o e).jh (λb u hb q=> ?_) (λ_ q=>q) λ_ _ q=>q
 rcases hb with rfl|hb
 ·exact x.keep b u (nn b _ e).1 (nn b _ e).2 q
 ·exact x.keep b u (nn b _ hb).1 (nn b _ hb).2 q
section
variable {M:Model} {A:Around} {E:Value->Shared->Prop} {s:Shared} {F env:Env} {rest:List Env} {L e:Addr} {bs:Heap} {oe:Obj} {vs:Array Value} {head:Value} {Q:Unit->Shared->Prop}
theorem A3 {had:Bool} (hA:A.frames=some (F::rest)) (hF:F.frame=some L) (hl:s.heap.FunFrames bs (F::rest)) (he:s.heap.get? e=some oe) (hd:oe.data= .fields vs) (hz:1<vs.size)
  (h:∀h' T,Moved (cM (F::rest)) [e] s.heap h'->s.heap.get? T=none->h'.get? e=some (oe.mapFields (·.setIfInBounds 1 (.ref T)))->
   (∃oT ts,h'.get? T=some oT/\oT.data= .fields ts/\ts[3]?=some (rawInt L))->Q () {s with heap:=h'}):
  wpAny M A (do let a←PySem.frameOf F;let pl←entryPlaceOf L had;let b←EntryCells.newEntry head a .none (rawInt L) .none pl;setField (.ref e) 1 b) Q E s:=by
 have ne:e∉cM (F::rest):=λz=>by
  let⟨_,o',q,nf⟩:=hl.mem z;rw[he] at q;cases q;exact nf vs hd
 refine aaa (wpAny_frameOf_fun hA hl hF λg1 so=> ?_);have e1:g1.get? e=some oe:=(so.2.1 e ne).trans he;refine aaa (wpAny_entryPlaceOf λpl ip=> ?_);unfold EntryCells.newEntry newFields;refine aaa (aaK ?_ (ip.sizeOk5 _ _ _ _ _));generalize hob:({cls:= .type "traceback",dict:=none,data:= .fields ([head, .ref L, .none,rawInt L, .none]++(if pl.isEmpty then List.replicate 6 Value.none else pl)).toArray}:Obj)=ob
 have obd:∃ts,ob.data= .fields ts/\ts[3]?=some (rawInt L):=by
  rw[←hob];exact⟨_,rfl,by simp⟩
 let⟨ts,od,o3⟩:=obd;have e2:=aad (h:=g1) ob e1;refine abR e2 hd hz ?_;have nT:g1.objs.size≠e:=abr (aal e1);have dd:=aa9 hd (·.setIfInBounds 1 (Value.ref g1.objs.size))
 have oth:∀b o,b≠e->g1.get? b=some o->((g1.push ob).update e (Obj.mapFields (·.setIfInBounds 1 (Value.ref g1.objs.size)))).get? b=some o:=λb o nb q=>by
  rw[aaF _ _ (Ne.symm nb)];exact aad _ q
 refine h _ g1.objs.size ⟨λb o f c q=> ?_,λb o c q=> ?_⟩ (abb (by rw[so.1];exact aah _)) (aa3 _ e2 (abG dd)) ⟨ob,ts, ?_,od,o3⟩
 ·exact oth b o (by simpa using c) ((so.2.1 b f).trans q)
 ·let⟨sl,z⟩:=so.2.2 b o q;exact⟨sl,oth b _ (by simpa using c) z⟩
 ·rw[aaF _ _ (Ne.symm nT)];refine aai g1 ?_;rw[←hob];rfl
theorem Dd {cls:Value} {dx:Option Addr} {tb:Option (Addr×Value)} (hA:A.frames=some (F::rest)) (hF:F.frame=some L) (hv:env.frame=some L) (hl:s.heap.FunFrames bs (F::rest)) (x:ExcAt s.heap e cls dx tb)
  (h:∀h' T,Moved (cM (F::rest)) (e::(tb.map (·.1)).toList) s.heap h'->(s.heap.get? T=none∨tb.map (·.1)=some T)->ExcAt h' e cls dx (some (T,rawInt L))->Q () {s with heap:=h'}):
  wpAny M A (noteFrame (.ref e) env) Q E s:=by
 rw[pY (hv.trans hF.symm)];let⟨oe,vs,he,hc,hx,hd,hz,x⟩:=x
 have tail:∀(s1:Shared) (head:Value) (had:Bool),s1={s with heap:=s1.heap}->Moved (cM (F::rest)) (e::(tb.map (·.1)).toList) s.heap s1.heap->(∀b,s1.heap.get? b=none->s.heap.get? b=none)->s1.heap.FunFrames bs (F::rest)->s1.heap.get? e=some oe->
   wpAny M A (do let a←PySem.frameOf F;let pl←entryPlaceOf L had;let b←EntryCells.newEntry head a .none (rawInt L) .none pl;setField (.ref e) 1 b) Q E s1:=by
  intro s1 head had es mv new hl1 he1;refine A3 hA hF hl1 he1 hd hz λh' T m1 nT e1 z905=> ?_;let⟨oT,ts,q1,q2,q3⟩:=z905;have dd:=aa9 hd (·.setIfInBounds 1 (Value.ref T))
  have r:Q () {s with heap:=h'}:=by
   refine h h' T (mv.trans (m1.mono λb hb=>by simp only[aaD] at hb;simp[hb])) (.inl (new T nT)) ⟨_,_,e1,(ac0 _ _).trans hc,(nJ _ _).trans hx,dd,by simpa using hz,by simp[hz], ?_,oT,ts,q1,q2,q3⟩
   rintro rfl
   rw[he1] at nT;cases nT
  rw[es];exact r
 unfold noteFrame;simp only[hF]
 cases tb with
 |none=>
  refine aaa (aaE he hd x ?_);rw[if_neg (by decide)];exact tail s .none _ rfl (Moved.refl _) (λ_ q=>q) hl he
 |some p=>
  let⟨T,fl⟩:=p;let⟨x1,x2,oT,ts,x3,x4,x5⟩:=x;refine aaa (aaE he hd x1 ?_);rw[if_pos (show (Value.ref T !=Value.none)=true from by simp)];refine aaa (aaE x3 x4 x5 ?_)
  by_cases z:(fl==rawInt L)=true
  rotate_left
  ·rw[if_neg z];refine aaa (abR x3 x4 (Array.getElem?_eq_some_iff.mp x5).1 ?_);have oth:∀b,b≠T->(s.heap.update T (Obj.mapFields (·.setIfInBounds 3 Value.none))).get? b=s.heap.get? b:=λb hb=>aaF _ _ (Ne.symm hb);have tT:=aa3 (Obj.mapFields (·.setIfInBounds 3 Value.none)) x3 (abG (aa9 x4 _));refine tail {s with heap:=s.heap.update T (Obj.mapFields (·.setIfInBounds 3 Value.none))} (.ref T) _ rfl ⟨λb o f c q=> ?_,λb o c q=> ?_⟩ (λb q=> ?_) ?_ ((oth e (Ne.symm x2)).trans he)
   ·exact(oth b (λz=>c (by simp[z]))).trans q
   ·exact⟨o.slots,(oth b (λz=>c (by simp[z]))).trans q⟩
   ·by_cases hb:b=T
    ·subst hb;have q':(s.heap.update b (Obj.mapFields (·.setIfInBounds 3 Value.none))).get? b=none:=q;rw[tT] at q';cases q'
    ·exact(oth b hb).symm.trans q
   ·refine hl.of_keeps λb o q nf=>⟨o,(oth b λz=> ?_).trans q,rfl⟩;rw[z,x3] at q;cases q;exact nf ts x4
  ·obtain rfl:fl=rawInt L:=beq_iff_eq.mp z;rw[if_pos (show (rawInt L==rawInt L)=true from beq_self_eq_true _)];exact aaf (h s.heap T (Moved.refl _) (.inr rfl) ⟨oe,vs,he,hc,hx,hd,hz,x1,x2,oT,ts,x3,x4,x5⟩)
theorem oO {cls:Value} {dx:Option Addr} {T:Addr} {fl:Value} {fr:Option Addr} (x:ExcAt s.heap e cls dx (some (T,fl)))
  (h:∀h',Moved [] [T] s.heap h'->ExcAt h' e cls dx (some (T,fr.elim .none λf=>rawInt f))->Q () {s with heap:=h'}):wpAny M A (setFlight (.ref e) fr) Q E s:=by
 let⟨oe,vs,he,hc,hx,hd,hz,x1,x2,oT,ts,x3,x4,x5⟩:=x;have z3:=(Array.getElem?_eq_some_iff.mp x5).1;unfold setFlight;refine aaa (aaE he hd x1 ?_);rw[if_pos (show (Value.ref T !=Value.none)=true from by simp)];refine abR x3 x4 z3 ?_;have oth:∀b,b≠T->(s.heap.update T (Obj.mapFields (·.setIfInBounds 3 (fr.elim Value.none λf=>rawInt f)))).get? b=s.heap.get? b:=λb hb=>aaF _ _ (Ne.symm hb);have dd:=aa9 x4 (·.setIfInBounds 3 (fr.elim Value.none λf=>rawInt f));refine h _ ⟨λb o _ c q=>(oth b (by simpa using c)).trans q,λb o c q=>⟨o.slots,(oth b (by simpa using c)).trans q⟩⟩ ⟨oe,vs,(oth e (Ne.symm x2)).trans he,hc,hx,hd,hz,x1,x2,_,_,aa3 _ x3 (abG dd),dd,by simp[z3]⟩
end
structure Young (X:Cx) (H:Hp) (b:Addr):Prop where
 new:X.s₀.heap.get? b=none
 npn:∀p∈X.pn,p.1≠b
 free:H b=none
def cx (X:Cx):Prop:=∀b∈X.ex,∃o,(b,o)∈X.pn
def Framed (X:Cx):Prop:=∃(F:Env) (rest:List Env) (L:Addr),X.stack=F::rest/\F.frame=some L/\X.env.frame=some L
def mK (X:Cx) (E:XK) (mk:Option (Addr×Value)->Prop):Value->Shared->Prop:=λe s=>
 ∃(σ:St) (H:Hp) (ea:Addr) (cls:Value) (dx:Option Addr) (tb:Option (Addr×Value)),e= .ref ea/\Inv X.gH [] σ H s/\ExcAt s.heap ea cls dx tb/\Young X H ea/\
  (∀p,tb=some p->Young X H p.1)/\mk tb/\E cls dx H
abbrev XE (X:Cx) (E:XK):Value->Shared->Prop:=mK X E λ_=>True
abbrev XT (X:Cx) (E:XK):Value->Shared->Prop:=mK X E λtb=>∃p,tb=some p
abbrev XL (X:Cx) (E:XK):Value->Shared->Prop:=mK X E λtb=>∃T,tb=some (T, .none)
section
variable {X:Cx} {pins:List (Addr×Obj)} {σ:St} {H:Hp} {s s':Shared} {E:XK} {e:Value}
theorem jA {ch:List Addr} (I:Inv X pins σ H s) (m:Moved (cM X.stack) ch s.heap h')
  (hc:∀b∈ch,X.s₀.heap.get? b=none/\(∀p∈X.pn++pins,p.1≠b)/\H b=none/\∃o vs,s.heap.get? b=some o/\o.data= .fields vs):Inv X pins σ H {s with heap:=h'}:=by
 refine Ce (s':={s with heap:=h'}) I rfl m.un (m.ah I.ah I.ke λb hb=>(hc b hb).2.2.1) I.bare λb hb=> ?_;let⟨h1,h2,h3,o,vs,h4,h5⟩:=hc b hb;let⟨r1,r2,r3,_⟩:=nA I h4 h5;exact⟨h1,r1,r2,r3,h2⟩
theorem jK (hx:cx X) (I:Inv X pins σ H s) {T:Addr} (n:s.heap.get? T=none):X.s₀.heap.get? T=none/\(∀p∈X.pn,p.1≠T)/\H T=none:=by
 have pn:∀p∈X.pn,p.1≠T:=λp hp z=>by
  have q:=(I.pin p (aaY _ hp)).1;rw[z,n] at q;cases q
 refine⟨?_,pn,BA I.ah n⟩
 cases q:X.s₀.heap.get? T with
 |none=>rfl
 |some o=>
  exfalso
  by_cases hb:T∈X.ex
  ·let⟨o',m⟩:=hx T hb;exact pn _ m rfl
  ·let⟨o',z⟩:=I.base.there T o q hb;rw[n] at z;cases z
theorem fX {h:Heap} {cls:Value} {dx:Option Addr} {tb:Option (Addr×Value)} (x:ExcAt h ea cls dx tb):(∃o vs,h.get? ea=some o/\o.data= .fields vs)/\∀p,tb=some p->∃o vs,h.get? p.1=some o/\o.data= .fields vs:=by
 let⟨oe,vs,he,_,_,hd,_,x⟩:=x;refine⟨⟨oe,vs,he,hd⟩,λp hp=> ?_⟩;subst hp;let⟨_,_,oT,ts,q1,q2,_⟩:=x;exact⟨oT,ts,q1,q2⟩
end
def dz (P:Program) (w:World):k6:=λouter H s E e s'=>
 ∃(ea:Addr) (cls:Value) (dx:Option Addr) (T:Addr) (H':Hp),e= .ref ea/\s'.os=s.os/\AllBare s'.gens/\Un (cM outer) [] H H' s.heap s'.heap/\bH P w H' s'.heap/\ExcAt s'.heap ea cls dx (some (T, .none))/\
  s.heap.get? ea=none/\s.heap.get? T=none/\H' ea=none/\H' T=none/\E cls dx H'
noncomputable def bf (env:Env):List (Str×NameKind)->List (Str×Addr)->List (Str×Addr)
 |[],cs=>cs
 |(n,k)::r,cs=>bf env r (if k== .free then (n,(env.cells.lookup n).getD 0)::cs else cs)
theorem ju {scope:Scope} {env:Env} (h:∀x∈scope.names,x.2= .free->∃c,env.cells.lookup x.1=some c):closureFor scope env=pure (bf env scope.names []):=by
 simp only[closureFor];generalize scope.names=l at h⊢;generalize ([]:List (Str×Addr))=cs
 induction l generalizing cs with
 |nil=>rfl
 |cons x r ih=>
  let⟨n,k⟩:=x;rw[acg];have hr:=λy hy=>h y (aat _ hy)
  by_cases hk:k= .free
  ·subst hk;let⟨c,hc⟩:=h (n, .free) aaC rfl;have hc':List.lookup n env.cells=some c:=hc
   have e:cellOf env n=pure c:=by
    unfold cellOf;rw[hc']
   have q:=ih hr ((n,c)::cs);show (((cellOf env n>>=λd=>pure (ForInStep.yield ((n,d)::cs)))>>=_)>>=_)=pure (bf env r ((n,(List.lookup n env.cells).getD 0)::cs));rw[e,hc'];exact q
  ·have hb:(k==NameKind.free)=false:=by simpa using hk
   have q:=ih hr cs;show ((((if (k==NameKind.free)=true then _ else _):Sem _)>>=_)>>=_)=pure (bf env r (if (k==NameKind.free)=true then _ else cs));rw[hb];exact q
theorem mI {env:Env} {x:Str} {c:Addr}:∀(l:List (Str×NameKind)) (cs:List (Str×Addr)),(∀y∈l,y.2= .free->∃d,env.cells.lookup y.1=some d)->(∀y d,cs.lookup y=some d->env.cells.lookup y=some d)->(bf env l cs).lookup x=some c->env.cells.lookup x=some c
 |[],cs,_,k,e=>k x c e
 |(n,q)::r,cs,h,k,e=>by
  refine mI r _ (λy hy=>h y (aat _ hy)) (λy d hd=> ?_) e;split at hd
  ·rename_i hq;rw[aaJ] at hd;split at hd
   ·rename_i hy;let⟨d',hd'⟩:=h (n,q) aaC (by simpa using hq);have hd'':List.lookup n env.cells=some d':=hd';rw[hd''] at hd;cases hd;rw[beq_iff_eq.mp hy];exact hd''
   ·exact k y d hd
  ·exact k y d hd
theorem jY {env:Env} {x:Str}:∀(l:List (Str×NameKind)) (cs:List (Str×Addr)),((x,NameKind.free)∈l∨(cs.lookup x).isSome=true)->((bf env l cs).lookup x).isSome=true
 |[],cs,h=>h.elim (λz=>by cases z) λz=>z
 |(n,q)::r,cs,h=>by
  refine jY r _ ?_
  rcases h with h|h
  ·rcases aap.mp h with e|h
   ·cases e;right;simp
   ·exact .inl h
  ·right;split
   ·rw[aaJ];split
    ·rfl
    ·exact h
   ·exact h
theorem gr {env:Env} {x:Str}:∀(l:List (Str×NameKind)),(l.map λ(n,k)=>if (k==NameKind.free&&env.scope.kind== .function&&env.kindOf n==some .cell) then (n,NameKind.cell) else (n,k)).lookup x=
  (l.lookup x).map λk=>if (k==NameKind.free&&env.scope.kind== .function&&env.kindOf x==some .cell) then NameKind.cell else k
 |[]=>rfl
 |(n,k)::r=>by
  have ih:=gr (env:=env) (x:=x) r;show List.lookup x ((if (k==NameKind.free&&env.scope.kind== .function&&env.kindOf n==some .cell)=true then (n,NameKind.cell) else (n,k))::_)=_
  cases hx:x==n with
  |true=>
   have e:x=n:=beq_iff_eq.mp hx;subst e
   by_cases hc:(k==NameKind.free&&env.scope.kind== .function&&env.kindOf x==some .cell)=true
   ·rw[if_pos hc,aaJ,aaJ];simp only[hx];show some NameKind.cell=some (if (k==NameKind.free&&env.scope.kind== .function&&env.kindOf x==some .cell)=true then NameKind.cell else k);rw[if_pos hc]
   ·rw[if_neg hc,aaJ,aaJ];simp only[hx];show some k=some (if (k==NameKind.free&&env.scope.kind== .function&&env.kindOf x==some .cell)=true then NameKind.cell else k);rw[if_neg hc]
  |false=>
   by_cases hc:(k==NameKind.free&&env.scope.kind== .function&&env.kindOf n==some .cell)=true
   ·rw[if_pos hc];simp only[aaJ,hx];exact ih
   ·rw[if_neg hc];simp only[aaJ,hx];exact ih
structure BlockOk (S sc:Scope):Prop where
 kind:sc.kind= .function
 cell:∀y∈sc.names,y.2≠ .cell
 names:∀y∈sc.names,y.2= .local->sc.names.lookup y.1=some .local
 free:∀y∈sc.names,y.2= .free->S.names.lookup y.1=some .cell∨S.names.lookup y.1=some .free
def BN (X:Cx) (ws:List Str) (caps:List Nat) (sc:Scope) (C:Addr) (fp:List Addr) (pn:List (Addr×Obj)) (s:Shared) (H:Hp):Cx:=
 {X with
  N:=ws++caps.map λi=>X.N.getD i Str.empty
  s₀:=s
  H₀:=H
  env:=compEnvC sc (bf X.env sc.names []) C X.env
  outer:=X.stack
  ex:=fp
  fn:=λ_=>false
  pn:=pn
  xe:=λ_ _=>False}
noncomputable def stC (ws:List Str) (caps:List Nat) (σ:St):St:=ws.map (λ_=>none)++caps.map λi=>(σ[i]?).getD none
section
variable {X:Cx} {pins:List (Addr×Obj)} {σ:St} {H:Hp} {s:Shared} {ws:List Str} {caps:List Nat} {sc:Scope} {C:Addr} {fp:List Addr} {pn:List (Addr×Obj)}
theorem qN (I:Inv X pins σ H s) {b:Addr} (f:cH X pins H b):b∉cM X.stack:=λz=>by
 let⟨_,f1,f2,_⟩:=f
 rcases aap.mp (I.qT b z) with q|q
 ·exact f1 q
 ·exact f2 q
end
def kN (X:Cx) (ifs:List Expr) (t:TT):Prop:=
 ∀(pins:List (Addr×Obj)) (s:Shared) (σ:St) (H:Hp) (Q:Bool->Hp->Prop),Inv X pins σ H s->t σ H Q->
  wpAny (model X.prog X.w) X.A (forIn ifs true λc r=>if r=true then do let ok←isTrue c X.env (eval c X.env);pure (ForInStep.yield ok) else pure (ForInStep.yield r)) (TP X pins σ Q) X.xe s
def Kz:TT:=λ_ H Q=>Q true H
theorem Es {X:Cx}:kN X [] Kz:=λpins s σ H Q I h=>aaf (show TP X pins σ Q true s from ⟨H,I,h⟩)
theorem CH {X:Cx} {c:Expr} {t:TT} (hc:PT X c t):kN X [c] t:=λpins s σ H Q I h=>wpAny_tests_one (hc pins s σ H Q I h)
section
variable {prog:Program} {w:World} {A:Around} {R:Result->Shared->Prop} {s:Shared}
theorem wQ {it acc:Value} {env:Env} (J:Nat->Shared->Prop)
  (turn:∀n s,J n s->wpAny (model prog w) A (pyNext it) (λr s1=>match r with
   |none=>R (.ok .next) s1
   |some v=>wpAny (model prog w) A (letOwnedTupleGo tg it v) (λ_ s2=>wpAny (model prog w) A (assign tg env v) (λ_ s3=>
    wpAny (model prog w) A (forIn ifs true λc r=>if r=true then do let ok←isTrue c env (eval c env);pure (ForInStep.yield ok) else pure (ForInStep.yield r)) (λok s4=>
     if ok=true then wpAny (model prog w) A (eval elt env) (λx s5=>
      wpAny (model prog w) A (call (.builtin "list.append") [acc,x]) (λ_ s6=>∃m,m<n/\J m s6) (notedBy (model prog w) A env λe s'=>R (.error e) s') s5) (notedBy (model prog w) A env λe s'=>R (.error e) s') s4
     else∃m,m<n/\J m s4) (notedBy (model prog w) A env λe s'=>R (.error e) s') s3) (notedBy (model prog w) A env λe s'=>R (.error e) s') s2) (notedBy (model prog w) A env λe s'=>R (.error e) s') s1)
   (notedBy (model prog w) A env λe s'=>R (.error e) s') s)
  (n:Nat) (h:J n s):codeAny (model prog w) A (.compLoop (.ListComp elt [⟨tg,iter,ifs,0⟩] sc pos) 0 it acc env) R s:=by
 refine codeAny_loop rfl J (λn s hJ=> ?_) n h
 show wpAny _ A ((compTurn (.ListComp elt [⟨tg,iter,ifs,0⟩] sc pos) 0 it acc env).onRaise (λx=>do noteFrame x env;theTreesLotGoes x)) _ _ s
 refine wpAny_noted ?_;rw[compTurn_list];refine aaa (acW (aaa (aw (turn n s hJ) λr s1 q1=> ?_)))
 cases r with
 |none=>exact aaf q1
 |some v=>
  refine aaa (aw q1 λ_ s2 q2=>aaa (aw q2 λ_ s3 q3=>aaa (aw q3 λok s4 q4=> ?_)))
  cases ok with
  |false=>exact aaf ⟨rfl,q4⟩
  |true=>exact aaa (aaa (aw q4 λx s5 q5=>aaa (aw q5 λ_ s6 q6=>aaf (aaf ⟨rfl,q6⟩))))
end
def cc (X:Cx) (pn:List (Addr×Obj)):Cx:={X with pn:=pn}
section
variable {X:Cx} {pins:List (Addr×Obj)} {σ:St} {H:Hp} {s:Shared}
theorem CO (ok:X.Ok) (pn:List (Addr×Obj)):(cc X pn).Ok:=
 ⟨ok.mod,ok.kind,ok.glob,ok.blt,ok.above,ok.inj,ok.has,ok.cab,ok.hd,ok.frames,ok.stk,ok.exf,ok.bs,ok.bsz,ok.noex,ok.exfs,ok.cW,ok.frf⟩
theorem gF {qn q:List (Addr×Obj)} (I:Inv X pins σ H s) (k:∀p∈qn++q,p∈X.pn++pins):Inv (cc X qn) q σ H s:=
 ⟨CO I.ok qn,I.os,I.bare,I.base,I.loc,I.cell,I.free,I.freeC,λp hp=>I.pin p (k p hp),I.ah,I.len⟩
theorem DD {a:Addr} {xs:List V} (I:Inv X pins σ (upd H a (.lst xs)) s) (hn:H a=none):Inv X pins σ H s:=by
 have dn:∀b u,upd H a (.lst xs) b=some u->(∀ys,u≠ .lst ys)->H b=some u:=λb u q nl=>by
  by_cases hb:b=a
  ·subst hb;rw[ak] at q;cases q;exact absurd rfl (nl xs)
  ·rw[aq hb] at q;exact q
 have fn:∀b,upd H a (.lst xs) b=none->H b=none:=λb q=>by
  by_cases hb:b=a
  ·rw[hb];exact hn
  ·rw[aq hb] at q;exact q
 refine⟨I.ok,I.os,I.bare,⟨I.base.keep,I.base.slot,λb o e n x=>fn b (I.base.free b o e n x),I.base.there,λb ys q=>dn b _ (I.base.tups b ys q) λ_ z=>(by cases z),λb o u q=>dn b _ (I.base.aS b o u q) λ_ z=>(by cases z),λb ps q=> ?_⟩,
  I.loc,I.cell,fn _ I.free,λx c e=>fn c (I.freeC x c e),λp hp=> ?_,λb u e=> ?_,I.len⟩
 ·let⟨more,z⟩:=I.base.tbls b ps q;exact⟨more,dn b _ z λ_ z=>by cases z⟩
 ·let⟨p1,p2,p3⟩:=I.pin p hp;exact⟨p1,fn _ p2,p3⟩
 ·have hb:b≠a:=λz=>by
   rw[z,hn] at e;cases e
  have e':upd H a (.lst xs) b=some u:=by
   rw[aq hb];exact e
  exact(I.ah b u e').jh (λ_ _ _ q=>q) (λc q=>dn c _ q λ_ z=>(by cases z)) λc ys q=>dn c _ q λ_ z=>(by cases z)
end
def runC (g:TG) (tt:TT) (te:TE) (J:It) (σ:St) (H:Hp) (Z:List V->Hp->Prop):Prop:=
 ∃W:Nat->Nat->List V->St->Hp->Prop,(∃m,W 0 m [] σ H)/\∀i m ys σ H,W i m ys σ H->
  (J.stop i H/\Z ys H)∨(J.go i H/\∃N:List V->St->Hp->Prop,(∀ys' σ' H',N ys' σ' H'->∃m',m'<m/\W (i+1) m' ys' σ' H')/\∀x H2,J.yld i H x H2->g x σ H2 λσ3 H3=>tt σ3 H3 λok H4=>
   if ok=true then te σ3 H4 λv H5=>ys.length<sizeLine/\N (ys++[v]) σ3 H5 else N ys σ3 H4)
noncomputable def lobj (its:List Value) (n:Nat):Obj:={cls:= .type "list",data:= .seq its.toArray n}
section
variable {X:Cx} {E:XK} {pins:List (Addr×Obj)} {σ:St} {H:Hp} {s:Shared} {ws:List Str} {caps:List Nat} {sc:Scope} {tg iter elt:Expr} {ifs:List Expr} {pos:Pos} {g:TG} {tt:TT} {te:TE} {it:Addr} {fp:List Addr} {tn:Nat->Heap->Prop} {J:It} {Z:List V->Hp->Prop}
 {RR:Value->Addr->Result->Shared->Prop} {E':Value->Shared->Prop}
end
section
variable {K:PySem.W.Frag} {a:Addr} {xs:List V} {g:TG} {tt:TT} {te:TE} {σ:St} {H:Hp} {Z:List V->Hp->Prop}
end
def Cu (ws:List Str) (caps:List Nat) (wi:TI) (g:TG) (tt:TT) (te:TE):TE:=λσ H Q=>wi σ H λJ H1=>runC g tt te J (stC ws caps σ) H1 λys H'=>∀D,H' D=none->Q (.ref D) (upd H' D (.lst ys))
def BL (i:Nat) (ws:List Str) (caps:List Nat) (wi:TI) (g:TG) (tt:TT) (te:TE):TS:=λD σ H=>wi σ H λJ H1=>runC g tt te J (stC ws caps σ) H1 λys H'=>∀a,H' a=none->D.nx (σ.set i (some (.ref a))) (upd H' a (.lst ys))
section
variable {X:Cx} {E:XK} {ws:List Str} {caps:List Nat} {sc:Scope} {tg iter elt:Expr} {ifs:List Expr} {pos py spos:Pos} {wi:TI} {g:TG} {tt:TT} {te:TE}
end
abbrev uE (P:Program) (w:World) (K:PySem.W.Frag) (mg:Str->Option Value) (base:Heap) (N:List Str) (qual:Str) (sc:Scope) (f:Addr) (cd:Value) (A:Around) (outer:List Env) (s:Shared) (H:Hp) (E:XK):Cx:=nZ (dz P w) P w K mg base N qual sc f cd A outer s H E
section
variable {P:Program} {w:World} {K:PySem.W.Frag} {mg:Str->Option Value} {base:Heap} {N:List Str} {qual:Str} {sc:Scope} {f:Addr} {cd:Value} {A:Around} {outer:List Env} {s:Shared} {H:Hp} {E:XK}
theorem fmD:Framed (uE P w K mg base N qual sc f cd A outer s H E):=⟨_,_,_,rfl,rfl,rfl⟩
theorem hxD:cx (uE P w K mg base N qual sc f cd A outer s H E):=λb hb=>by cases hb
end
theorem DR {K:PySem.W.Frag} {h:Heap} {C:Addr} {bmB:List Value} {newId:String} (x:K.In h) (q:PySem.W.excIn K C bmB newId=true):
  ∃bm N nm qn bs hdct sn sub ab col dd k0 k1 k2 k3 k5 mN,h.get? C=some (excClassObj nm qn C N bs bm hdct sn sub ab col dd k0 k1 k2 k3 k5 newId)/\h.Ns N mN/\mN "__init__"=none/\OwnTail h bmB bm:=by
 unfold PySem.W.excIn at q;split at q
 case h_2=>cases q
 case h_1 d0 cd0 sl0 ho=>
  split at q
  case h_2=>cases q
  case h_1 C1 bm1 a0 a1 a2 a3 n1 a5 hm hs=>
   simp only[aag,abw,ac1] at q;let⟨⟨⟨⟨⟨e1,e2⟩,e3⟩,e4⟩,e5⟩,e6⟩:=q;let⟨nm,bs,mro,ns,qn,hd,sn,sub,ab,col,del⟩:=cd0;dsimp only at hm e3 e5 e6;subst hm e3 e1 e2;let⟨l⟩:=sl0;simp only at hs;subst hs;exact⟨bm1,ns,nm,qn,bs,hd,sn,sub,ab,col,d0,a0,a1,a2,a3,a5,_,x _ _ ho, .of_isNs (PySem.W.isNs_of_in x e5),PySem.W.nsMap_none_of_in x e5 e6,PySem.W.tail_of_in x e4⟩
abbrev uT:List Value:=[.type "ValueError", .type "Exception", .type "BaseException", .type "object"]
section
variable {X:Cx} {E:XK} {C:Addr} {x:Str} {np cpos pos:Pos} {e:Expr} {es:List Expr} {t:TA}
end
def gS (ea C:Addr) (dx:Option Addr):Heap->Prop:=λh=>∃o vs,h.get? ea=some o/\o.cls= .ref C/\o.dict=dx/\o.data= .fields vs
theorem GH {P:Program} {w:World} {H:Hp} {C:Addr} {dx:Option Addr} (x:gS ea C dx h):aL P w H h ea (.ext (gS ea C dx)):=by
 refine⟨x, ?_,λh1 h2 z902 k=>by let⟨o,vs,e1,e2⟩:=z902;exact⟨o,vs,k o e1,e2⟩⟩;let⟨o,vs,e,_⟩:=x;exact⟨o,e⟩
def jv (X:Cx) (ea:Addr) (pn:List (Addr×Obj)):Cx:={X with A:=X.A.mark (some (.ref ea)),calm:=false,xe:=λ_ _=>False,pn:=pn}
section
variable {X:Cx} {pins:List (Addr×Obj)} {σ:St} {H:Hp} {s:Shared} {ea:Addr}
theorem kD (ok:X.Ok) (pn:List (Addr×Obj)):(jv X ea pn).Ok:=
 ⟨ok.mod,ok.kind,ok.glob,ok.blt,ok.above,ok.inj,ok.has,ok.cab,λz=>(by cases z),ok.frames,ok.stk,ok.exf,ok.bs,ok.bsz,ok.noex,ok.exfs,ok.cW,ok.frf⟩
theorem rj {pn q:List (Addr×Obj)} (I:Inv X pins σ H s) (k:∀p∈pn++q,p∈X.pn++pins):Inv (jv X ea pn) q σ H s:=
 ⟨kD I.ok pn,I.os,I.bare,I.base,I.loc,I.cell,I.free,I.freeC,λp hp=>I.pin p (k p hp),I.ah,I.len⟩
theorem vW (ok:X.Ok) (I:Inv (jv X ea pn) q σ H s) (k:∀p∈X.pn++pins,p∈pn++q):Inv X pins σ H s:=
 ⟨ok,I.os,I.bare,I.base,I.loc,I.cell,I.free,I.freeC,λp hp=>I.pin p (k p hp),I.ah,I.len⟩
end
section
variable {X:Cx} {E:XK} {B:Addr} {cn x:Str} {i:Nat} {np pos hpos:Pos} {body:List Stmt} {st:Stmt} {suite:List Stmt} {tb:XK->TS} {th:TS}
end
structure Mv (N:Addr->Prop) (H H':Hp):Prop where
 tup:∀b xs,H b=some (.tup xs)->H' b=some (.tup xs)
 lst:∀b xs,N b->H b=some (.lst xs)->H' b=some (.lst xs)
section
variable {N M:Addr->Prop} {H H' H2:Hp} {a:Addr} {xs:List V}
end
def Ks (K:PySem.W.Frag):List V->Hp->VK->Prop:=λxs H Q=>∃p ys,xs=[.ref p]/\((bK K H p ys/\∀l,H l=none->Q (.ref l) (upd H l (.tup ys)))∨(cO K H p ys/\Q (.ref p) H))
theorem Ar {X:Cx}:ar X (.type "tuple") (Ks X.K):=pZ
def LD (K:PySem.W.Frag):List V->Hp->VK->Prop:=λxs H Q=>∃p ys,xs=[.ref p]/\(bK K H p ys∨cO K H p ys)/\∀l,H l=none->Q (.ref l) (upd H l (.lst ys))
theorem Aj {X:Cx}:ar X (.type "list") (LD X.K):=qA
section
variable {N:Addr->Prop} {K:PySem.W.Frag} {a:Addr} {xs:List V} {σ:St} {H:Hp}
end
section
variable {prog:Program} {w:World} {A:Around} {E:Value->Shared->Prop} {s:Shared}
theorem zO {l:Addr} {k:Nat} {xs:Array Value} {x:Value} {Q:Value->Shared->Prop} (gi:s.heap.IsTupleIter it l k) (gl:s.heap.IsTuple l xs) (gx:xs[k]?=some x)
  (q:∀h1,h1.IsTupleIter it l (k+1)->Heap.SameBut it s.heap h1->Q x {s with heap:=h1}):wpAny (model prog w) A (Builtin.SmallTypes.nextOf (.ref it)) Q E s:=by
 let⟨oi,goi,gci,gdi⟩:=id gi;let⟨ol,gol,_,nl,gdl⟩:=gl;unfold Builtin.SmallTypes.nextOf;refine aaa (aaW (name:=Str.ofString "__next__") gi.typeIs abK (aba abK gi.typeIs F.entry_tuple_iterator_next ?_ (F.args_tuple_iterator_next_1 _)));show wpAny _ _ (field (.ref it) 0>>=_) _ _ s;refine aaa (aaE goi gdi (x:= .ref l) rfl ?_);show wpAny _ _ (if (Value.ref l==Value.none)=true then _ else _) _ _ s;rw[if_neg (show¬((Value.ref l==Value.none)=true) from aaq)];show wpAny _ _ (field (.ref it) 1>>=_) _ _ s;refine aaa (aaE goi gdi (x:= .int k 0) rfl ?_);show wpAny _ _ (seqItems? (.ref l)>>=_) _ _ s;refine aaa (aaX gol gdl ?_);simp only[acs,gx];refine aaa (abR goi gdi (by simp) (aaf ⟨x,rfl,aaf (q _ ?_ (acf ..))⟩));refine⟨_,aa3 _ goi (abG (aa9 gdi _)),(ac0 ..).trans gci, ?_⟩;rw[aa9 gdi];simp[rawInt]
theorem Ds {l:Addr} {k:Nat} {xs:Array Value} {Q:Value->Shared->Prop} (hh:A.handled=none) (gi:s.heap.IsTupleIter it l k) (gl:s.heap.IsTuple l xs) (gx:xs[k]?=none)
  (q:∀h1 e,Heap.ExtBut it s.heap h1->(∃o,h1.get? e=some o/\o.cls= .type "StopIteration")->E (.ref e) {s with heap:=h1}):wpAny (model prog w) A (Builtin.SmallTypes.nextOf (.ref it)) Q E s:=by
 let⟨oi,goi,gci,gdi⟩:=id gi;let⟨ol,gol,_,nl,gdl⟩:=gl;unfold Builtin.SmallTypes.nextOf;refine aaa (aaW (name:=Str.ofString "__next__") gi.typeIs abK (aba abK gi.typeIs F.entry_tuple_iterator_next ?_ (F.args_tuple_iterator_next_1 _)));show wpAny _ _ (field (.ref it) 0>>=_) _ _ s;refine aaa (aaE goi gdi (x:= .ref l) rfl ?_);show wpAny _ _ (if (Value.ref l==Value.none)=true then _ else _) _ _ s;rw[if_neg (show¬((Value.ref l==Value.none)=true) from aaq)];show wpAny _ _ (field (.ref it) 1>>=_) _ _ s;refine aaa (aaE goi gdi (x:= .int k 0) rfl ?_);show wpAny _ _ (seqItems? (.ref l)>>=_) _ _ s;refine aaa (aaX gol gdl ?_);simp only[acs,gx];refine aaa (acq (aaa (abR goi gdi (by simp) ?_)));show wpAny _ _ (newExc (.type "StopIteration") []>>=_) _ _ _;refine aaa ?_;simp only[newExc,newTuple];refine aaa (aaK ?_ (by size_fits));refine aaa (m:=firstArgMember _ _) (wpAny_of_eq (a:=Value.none) (by first|rfl|(simp only[firstArgMember];rfl)) ?_);refine aaK ?_ (by size_fits);simp only[raiseNew]
 refine aaa (wpAny_handled ?_);first|rw[show A.in1.handled=none from hh]|rw[hh]
 refine aaa (aaf (wpAny_throw ?_));exact q _ _ (((acf ..).extBut.push _).push _) ⟨_,aai _ rfl,rfl⟩
end
def dW (b:Bool) (h:Heap) (it a:Addr) (i:Nat):Prop:=cond b (h.IsListIter it a i) (h.IsTupleIter it a i)
def cR (b:Bool) (h:Heap) (a:Addr) (xs:Array Value):Prop:=cond b (h.IsList a xs) (h.IsTuple a xs)
def fK (b:Bool) (K:PySem.W.Frag) (H:Hp) (a:Addr) (xs:List V):Prop:=cond b (bK K H a xs) (cO K H a xs)
theorem dW.at {b:Bool} {h h1:Heap} {a:Addr} {i:Nat} (x:dW b h it a i) (k:∀o,h.get? it=some o->h1.get? it=some o):dW b h1 it a i:=by
 cases b
 ·let⟨o,h0,r⟩:=(show h.IsTupleIter it a i from x);exact⟨o,k o h0,r⟩
 ·let⟨o,h0,r⟩:=(show h.IsListIter it a i from x);exact⟨o,k o h0,r⟩
theorem dW.live {b:Bool} {h:Heap} {a:Addr} {i:Nat} (x:dW b h it a i):∃o,h.get? it=some o/\∀v,o.data≠ .cell v:=by
 cases b
 ·let⟨o,h0,_,d⟩:=(show h.IsTupleIter it a i from x);exact⟨o,h0,λv z=>by rw[d] at z;cases z⟩
 ·let⟨o,h0,_,d⟩:=(show h.IsListIter it a i from x);exact⟨o,h0,λv z=>by rw[d] at z;cases z⟩
theorem cR.at {b:Bool} {h h1:Heap} {a:Addr} {xs:Array Value} (x:cR b h a xs) (k:∀o,h.get? a=some o->h1.get? a=some o):cR b h1 a xs:=by
 cases b
 ·let⟨o,h0,r⟩:=(show h.IsTuple a xs from x);exact⟨o,k o h0,r⟩
 ·let⟨o,h0,r⟩:=(show h.IsList a xs from x);exact⟨o,k o h0,r⟩
theorem iZ {b:Bool} {a:Addr} {i:Nat} {xs:Array Value} (hi:dW b h it a i) (p:cR b h a xs):a≠it:=λz=>by
 cases b
 ·let⟨o,e1,e2,_⟩:=(show h.IsTuple a xs from p);let⟨o',e3,e4,_⟩:=(show h.IsTupleIter it a i from hi);rw[z,e3] at e1;cases e1;rw[e2] at e4;exact absurd e4 (by decide)
 ·let⟨o,e1,e2,_⟩:=(show h.IsList a xs from p);let⟨o',e3,e4,_⟩:=(show h.IsListIter it a i from hi);rw[z,e3] at e1;cases e1;rw[e2] at e4;exact absurd e4 (by decide)
theorem gX {w:World} {A:Around} (b:Bool) (hh:A.handled=none) (it l:Addr) (ne:l≠it) (xs:Array Value):
  Draws prog w A it [it,l] xs.size (λi v=>xs[i]?=some v) (λi h=>dW b h it l i/\cR b h l xs):=by
 cases b
 ·exact⟨λ_ _ st=>let ⟨o,h0,_⟩:=st.1.live;⟨o,h0⟩,λ_ _ _ st hk=>⟨st.1.at λo e=>hk it (by simp) o e,st.2.at λo e=>hk l (by simp) o e⟩,
   λi s Q E hi st hQ=>zO st.1 st.2 (x:=xs[i]) (by simp[hi]) λh1 a1 a2=>hQ _ h1 s.toks (by simp[hi]) ⟨a1,st.2.at λo e=>a2.extBut _ _ ne e⟩ a2,λs Q E st hE=>Ds hh st.1 st.2 (by simp) hE⟩
 ·exact Draws.list hh it l ne xs
theorem Ae {w:World} {A:Around} {E:Value->Shared->Prop} {s:Shared} {b:Bool} {l:Addr} {xs:Array Value} {Q:Value->Shared->Prop} (hl:cR b s.heap l xs)
  (q:∀h1,dW b h1 s.heap.objs.size l 0->(∀c o,s.heap.get? c=some o->h1.get? c=some o)->h1.objs.size=s.heap.objs.size+1->Q (.ref s.heap.objs.size) {s with heap:=h1}):wpAny (model prog w) A (pyIter (.ref l)) Q E s:=by
 cases b
 ·exact acn hl (q _ ⟨_,aai _ rfl,rfl,rfl⟩ (λc o e=>aad _ e) (aaN ..))
 ·exact ab4 hl (q _ ⟨_,aai _ rfl,rfl,rfl⟩ (λc o e=>aad _ e) (aaN ..))
section
variable {X:Cx} {pins:List (Addr×Obj)} {σ:St} {H:Hp} {s:Shared} {a:Addr} {xs ys:List V} {b:Bool}
theorem cq (I:Inv X pins σ H s) (h:fK b X.K H a xs):∃its:List Value,Vals xs its/\cR b s.heap a its.toArray/\xs.length<=sizeLine:=by
 cases b
 ·exact I.tuple h
 ·let⟨its,r,p,z⟩:=I.list h;exact⟨its,r,p.isList,z⟩
theorem uD (I:Inv X pins σ H s) (h:fK b X.K H a xs) (h':fK b X.K H a ys):xs=ys:=by
 cases b
 ·exact I.o5 h h'
 ·exact I.qR h h'
theorem kq {h':Heap} {t':Nat} {ch:List Addr} (I:Inv X pins σ H s) (hf:∀b∈ch,cH X pins H b) (k:∀b o,b∉ch->s.heap.get? b=some o->h'.get? b=some o):Inv X pins σ H {s with heap:=h',toks:=t'}:=by
 have nit:∀b u,H b=some u->b∉ch:=λb u e z=>by
  rw[(hf b z).1] at e;cases e
 refine I.step (g':=s.gens) (d':=s.drawn) (ch:=ch) (λb hb=>⟨(hf b hb).2.2.2.1,(hf b hb).2.1,(hf b hb).2.2.2.2.1,(hf b hb).2.2.2.2.2⟩) (λb o _ _ hc e _=>k b o hc e) (λb o _ _ hc e _=>⟨o.slots,k b o hc e⟩) (λ_ _ _ _ n=>n)
  (λb o hc e=>⟨o,k b o hc e⟩) (λ_ _ e=>e) (λ_ _ _ e=>e) (λb ps e=>⟨#[],by rw[e];simp⟩) (λm hm=> ?_) (λb u e=> ?_) I.bare
 ·let⟨o,es,ep,ho,r⟩:=hm;exact⟨o,es,ep,k _ o (λz=>(hf _ z).2.1 rfl) ho,r⟩
 ·refine(I.ah b u e).jh (λc v hc q=>k c v ?_ q) (λ_ q=>q) λ_ _ q=>q
  rcases hc with z|z
  ·rw[z];exact nit b u e
  ·exact nit c _ z
theorem zj {h':Heap} {t':Nat} {T:Addr} {ch:List Addr} {x y:V} {u v:Value} (I:Inv X pins σ H s) (hf:∀b∈ch,cH X pins H b) (k:∀b o,b∉ch->s.heap.get? b=some o->h'.get? b=some o) (hT:s.heap.objs.size<=T)
  (hp:h'.get? T=some {cls:= .type "tuple",data:= .seq #[u,v]}) (rx:RelV x u) (ry:RelV y v):Inv X pins σ (upd H T (.tup [x,y])) {s with heap:=h',toks:=t'}:=by
 have f:=I.lX hT (I.ah.fresh hT);exact kh (kq (t':=t') I hf k) f.1 (abb (aaL I.sz hT)) f.2.1 f.2.2.2.2.1 f.2.2.2.2.2 ⟨by show 2<=sizeLine;decide,[u,v], .cons rx (.cons ry .nil),⟨_,hp,rfl,_,rfl⟩⟩
end
structure ZApart (z TI TO i1 i2:Addr) (f1 f2:List Addr):Prop where
 TIz:TI≠z
 TOz:TO≠z
 i1z:i1≠z
 i2z:i2≠z
 TIO:TI≠TO
 TI1:TI≠i1
 TI2:TI≠i2
 TO1:TO≠i1
 TO2:TO≠i2
 i12:i1≠i2
 z1:z∉f1
 o1:TO∉f1
 j1:i2∉f1
 z2:z∉f2
 o2:TO∉f2
 j2:i1∉f2
section
variable {prog:Program} {w:World} {A:Around} {E:Value->Shared->Prop} {s:Shared} {z TI TO i1 i2:Addr} {f1 f2:List Addr} {n1 n2 k:Nat} {P1 P2:Nat->Value->Prop} {S1 S2:Nat->Heap->Prop} {a b:Value}
theorem bo {n i:Nat} {P:Nat->Value->Prop} {S:Nat->Heap->Prop} {c:Addr} (D:Draws prog w A it fp n P S) (st:S i h) (hs:Heap.ExtBut c h h1) (hc:c∉fp):S i h1:=
 D.frame _ _ _ st λd hd o e=>hs d o (λq=>hc (q▸hd)) e
theorem yB {Q:Value->Shared->Prop} (D1:Draws prog w A i1 f1 n1 P1 S1) (D2:Draws prog w A i2 f2 n2 P2 S2) (Z:ZApart z TI TO i1 i2 f1 f2) (gz:IsZip s.heap z TI TO .none) (gI:IsPair s.heap TI (.ref i1) (.ref i2)) (gO:IsPair s.heap TO a b)
  (s1:S1 k s.heap) (s2:S2 k s.heap) (k1:k<n1) (k2:k<n2)
  (q:∀x y h1 tk,P1 k x->P2 k y->IsZip h1 z TI TO (rawInt s.heap.objs.size)->IsPair h1 TO x y->S1 (k+1) h1->S2 (k+1) h1->IsPair h1 s.heap.objs.size x y->
   (∀c o,c≠z->c≠TO->c≠i1->c≠i2->s.heap.get? c=some o->h1.get? c=some o)->Q (.ref s.heap.objs.size) {s with heap:=h1,toks:=tk}):
  wpAny (model prog w) A (Builtin.«zip.__next__» ⟨[.ref z],[]⟩) (λfin t=>∃v,fin= .done (.ret v)/\Q v t) E s:=by
 show wpAny _ _ (field (.ref z) 2>>=_) _ _ _;refine aaa (aaE gz rfl (x:= .bool false) rfl ?_);show wpAny _ _ (field (.ref z) 3>>=_) _ _ _;refine aaa (aaE gz rfl (x:= .ref TI) rfl ?_);refine aaa (aaX gI rfl ?_);show wpAny _ _ (Builtin.SmallTypes.ownedTupleIsFree (.ref z)>>=_) _ _ _;refine aaa ?_;unfold Builtin.SmallTypes.ownedTupleIsFree;refine aaa (aaE gz rfl (x:= .none) rfl (aaf ?_));simp only[abQ];refine aaa (acq ?_);refine aaa (aaE gz rfl (x:= .ref TO) rfl ?_);refine aaa (abn gz (by simp) λh1 gz1 e1=> ?_);replace gz1:IsZip h1 z TI TO .ellipsis:=gz1;replace e1:Heap.SameBut z s.heap h1:=e1;refine aaa ?_;simp only[ac5,ac9,acg,aco];refine aaa (aaa (acx ?_));show wpAny _ _ (Builtin.SmallTypes.nextOf (.ref i1)>>=_) _ _ _;refine aaa (D1.item k _ _ _ k1 (bo D1 s1 e1.extBut Z.z1) λx h2 t2 px s12 e2=>aaf ?_);replace e2:Heap.SameBut i1 h1 h2:=e2;have gO2:IsPair h2 TO a b:=e2.extBut _ _ Z.TO1 (e1.extBut _ _ Z.TOz gO);refine aaa (aaX (s:={s with heap:=h2,toks:=t2}) gO2 rfl ?_);refine aaa (acO (s:={s with heap:=h2,toks:=t2}) gO2 λh3 gO3 e3=> ?_);replace gO3:IsPair h3 TO x b:=gO3;replace e3:Heap.SameBut TO h2 h3:=e3;refine aaa (abO (aaf ?_));refine aaa (aaa (acx ?_));show wpAny _ _ (Builtin.SmallTypes.nextOf (.ref i2)>>=_) _ _ _;have s23:S2 k h3:=bo D2 (bo D2 (bo D2 s2 e1.extBut Z.z2) e2.extBut Z.j2) e3.extBut Z.o2;refine aaa (D2.item k _ _ _ k2 s23 λy h4 t4 py s24 e4=>aaf ?_);replace e4:Heap.SameBut i2 h3 h4:=e4;have gO4:IsPair h4 TO x b:=e4.extBut _ _ Z.TO2 gO3;refine aaa (aaX (s:={s with heap:=h4,toks:=t4}) gO4 rfl ?_);refine aaa (acO (s:={s with heap:=h4,toks:=t4}) gO4 λh5 gO5 e5=> ?_);replace gO5:IsPair h5 TO x y:=gO5
 replace e5:Heap.SameBut TO h4 h5:=e5;refine aaa (abO (aaf (aaf ?_)));refine aaa (aaX (s:={s with heap:=h5,toks:=t4}) gO5 rfl ?_);refine aaa (wpAny_newTuple ?_)
 have sz:h5.objs.size=s.heap.objs.size:=by rw[e5.1,e4.1,e3.1,e2.1,e1.1]
 have gz5:IsZip h5 z TI TO .ellipsis:=e5.extBut _ _ Z.TOz.symm (e4.extBut _ _ Z.i2z.symm (e3.extBut _ _ Z.TOz.symm (e2.extBut _ _ Z.i1z.symm gz1)));have k5:∀c o,c≠z->c≠TO->c≠i1->c≠i2->s.heap.get? c=some o->h5.get? c=some o:=λc o c1 c2 c3 c4 e=>e5.extBut _ _ c2 (e4.extBut _ _ c4 (e3.extBut _ _ c2 (e2.extBut _ _ c3 (e1.extBut _ _ c1 e))));have s15:S1 (k+1) h5:=bo D1 (bo D1 (bo D1 s12 e3.extBut Z.o1) e4.extBut Z.j1) e5.extBut Z.o1;have s25:S2 (k+1) h5:=bo D2 s24 e5.extBut Z.o2;have zlt:z<h5.objs.size:=aal gz5;show wpAny _ _ (Builtin.SmallTypes.ownedTupleHandOut (.ref z) (.ref h5.objs.size)>>=_) _ _ _;refine aaa ?_;unfold Builtin.SmallTypes.ownedTupleHandOut;have gz6:IsZip (h5.push {cls:= .type "tuple",data:= .seq #[x,y]}) z TI TO .ellipsis:=aad _ gz5;refine aaa (abn gz6 (by simp) λh7 gz7 e7=> ?_);replace gz7:IsZip h7 z TI TO (rawInt h5.objs.size):=gz7;refine abn gz7 (by simp) λh8 gz8 e8=> ?_;replace gz8:IsZip h8 z TI TO (rawInt h5.objs.size):=gz8;have up:∀c o,c≠z->h5.get? c=some o->h8.get? c=some o:=λc o c1 e=>e8.extBut _ _ c1 (e7.extBut _ _ c1 (aad _ e));have gT:IsPair h8 h5.objs.size x y:=e8.extBut _ _ (abr zlt) (e7.extBut _ _ (abr zlt) (aai _ rfl));rw[sz] at gz8 gT;refine aaf ⟨_,rfl, ?_⟩;show Q (.ref h5.objs.size) _;rw[sz];exact q x y h8 t4 px py gz8 (up _ _ Z.TOz gO5) (D1.frame _ _ _ s15 λd hd o e=>up d o (λq=>Z.z1 (q▸hd)) e) (D2.frame _ _ _ s25 λd hd o e=>up d o (λq=>Z.z2 (q▸hd)) e) gT λc o c1 c2 c3 c4 e=>up c o c1 (k5 c o c1 c2 c3 c4 e)
theorem An {Q:Fin->Shared->Prop} (D1:Draws prog w A i1 f1 n1 P1 S1) (Z:ZApart z TI TO i1 i2 f1 f2) (gz:IsZip s.heap z TI TO .none) (gI:IsPair s.heap TI (.ref i1) (.ref i2)) (s1:S1 n1 s.heap)
  (q:∀h1 e,(∀c o,c≠z->c≠i1->s.heap.get? c=some o->h1.get? c=some o)->(∃o,h1.get? e=some o/\o.cls= .type "StopIteration")->E (.ref e) {s with heap:=h1}):
  wpAny (model prog w) A (Builtin.«zip.__next__» ⟨[.ref z],[]⟩) Q E s:=by
 show wpAny _ _ (field (.ref z) 2>>=_) _ _ _;refine aaa (aaE gz rfl (x:= .bool false) rfl ?_);show wpAny _ _ (field (.ref z) 3>>=_) _ _ _;refine aaa (aaE gz rfl (x:= .ref TI) rfl ?_);refine aaa (aaX gI rfl ?_);show wpAny _ _ (Builtin.SmallTypes.ownedTupleIsFree (.ref z)>>=_) _ _ _;refine aaa ?_;unfold Builtin.SmallTypes.ownedTupleIsFree;refine aaa (aaE gz rfl (x:= .none) rfl (aaf ?_));simp only[abQ];refine aaa (acq ?_);refine aaa (aaE gz rfl (x:= .ref TO) rfl ?_);refine aaa (abn gz (by simp) λh1 gz1 e1=> ?_);replace gz1:IsZip h1 z TI TO .ellipsis:=gz1;replace e1:Heap.SameBut z s.heap h1:=e1;refine aaa ?_;simp only[ac5,ac9,acg,aco];refine aaa (aaa (acx ?_));show wpAny _ _ (Builtin.SmallTypes.nextOf (.ref i1)>>=_) _ _ _;refine aaa (D1.done _ _ _ (bo D1 s1 e1.extBut Z.z1) λh2 e e2 he=> ?_);let⟨oe,hoe,hce⟩:=he;replace e2:Heap.ExtBut i1 h1 h2:=e2;have gz2:IsZip h2 z TI TO .ellipsis:=e2 _ _ Z.i1z.symm gz1
 have ez:e≠z:=λq=>by
  subst q;replace hoe:h2.get? e=some oe:=hoe;rw[gz2] at hoe;cases hoe;exact absurd hce (by show Value.type "zip"≠Value.type "StopIteration";decide)
 refine abn (s:={s with heap:=h2}) gz2 (by simp) λh3 _ e3=>q h3 e (λc o c1 c2 x=>e3.extBut _ _ c1 (e2 _ _ c2 (e1.extBut _ _ c1 x))) ⟨oe,e3.extBut _ _ ez hoe,hce⟩
theorem wU {Q:Fin->Shared->Prop} (D1:Draws prog w A i1 f1 n1 P1 S1) (D2:Draws prog w A i2 f2 n2 P2 S2) (Z:ZApart z TI TO i1 i2 f1 f2) (gz:IsZip s.heap z TI TO .none) (gI:IsPair s.heap TI (.ref i1) (.ref i2)) (gO:IsPair s.heap TO a b) (s1:S1 k s.heap) (k1:k<n1) (s2:S2 n2 s.heap)
  (q:∀h1 tk e,(∀c o,c≠z->c≠TO->c≠i1->c≠i2->s.heap.get? c=some o->h1.get? c=some o)->(∃o,h1.get? e=some o/\o.cls= .type "StopIteration")->E (.ref e) {s with heap:=h1,toks:=tk}):
  wpAny (model prog w) A (Builtin.«zip.__next__» ⟨[.ref z],[]⟩) Q E s:=by
 show wpAny _ _ (field (.ref z) 2>>=_) _ _ _;refine aaa (aaE gz rfl (x:= .bool false) rfl ?_);show wpAny _ _ (field (.ref z) 3>>=_) _ _ _;refine aaa (aaE gz rfl (x:= .ref TI) rfl ?_);refine aaa (aaX gI rfl ?_);show wpAny _ _ (Builtin.SmallTypes.ownedTupleIsFree (.ref z)>>=_) _ _ _;refine aaa ?_;unfold Builtin.SmallTypes.ownedTupleIsFree;refine aaa (aaE gz rfl (x:= .none) rfl (aaf ?_));simp only[abQ];refine aaa (acq ?_);refine aaa (aaE gz rfl (x:= .ref TO) rfl ?_);refine aaa (abn gz (by simp) λh1 gz1 e1=> ?_);replace gz1:IsZip h1 z TI TO .ellipsis:=gz1;replace e1:Heap.SameBut z s.heap h1:=e1;refine aaa ?_;simp only[ac5,ac9,acg,aco];refine aaa (aaa (acx ?_));show wpAny _ _ (Builtin.SmallTypes.nextOf (.ref i1)>>=_) _ _ _;refine aaa (D1.item k _ _ _ k1 (bo D1 s1 e1.extBut Z.z1) λx h2 t2 px s12 e2=>aaf ?_);replace e2:Heap.SameBut i1 h1 h2:=e2;have gO2:IsPair h2 TO a b:=e2.extBut _ _ Z.TO1 (e1.extBut _ _ Z.TOz gO);refine aaa (aaX (s:={s with heap:=h2,toks:=t2}) gO2 rfl ?_);refine aaa (acO (s:={s with heap:=h2,toks:=t2}) gO2 λh3 gO3 e3=> ?_);replace e3:Heap.SameBut TO h2 h3:=e3;refine aaa (abO (aaf ?_));refine aaa (aaa (acx ?_));show wpAny _ _ (Builtin.SmallTypes.nextOf (.ref i2)>>=_) _ _ _;refine aaa (D2.done _ _ _ (bo D2 (bo D2 (bo D2 s2 e1.extBut Z.z2) e2.extBut Z.j2) e3.extBut Z.o2) λh4 e e4 he=> ?_);let⟨oe,hoe,hce⟩:=he;replace e4:Heap.ExtBut i2 h3 h4:=e4;have gz4:IsZip h4 z TI TO .ellipsis:=e4 _ _ Z.i2z.symm (e3.extBut _ _ Z.TOz.symm (e2.extBut _ _ Z.i1z.symm gz1))
 have ez:e≠z:=λq=>by
  subst q;replace hoe:h4.get? e=some oe:=hoe;rw[gz4] at hoe;cases hoe;exact absurd hce (by show Value.type "zip"≠Value.type "StopIteration";decide)
 exact abn (s:={s with heap:=h4,toks:=t2}) gz4 (by simp) λh5 _ e5=>q h5 t2 e (λc o c1 c2 c3 c4 x=>e5.extBut _ _ c1 (e4 _ _ c4 (e3.extBut _ _ c2 (e2.extBut _ _ c3 (e1.extBut _ _ c1 x))))) ⟨oe,e5.extBut _ _ ez hoe,hce⟩
end
noncomputable def itN (b:Bool):String:=cond b "list_iterator" "tuple_iterator"
def iH (b:Bool) (l:Addr):Obj:={cls:= .type (itN b),data:= .fields #[.ref l, .int 0 0]}
theorem dW.of {b:Bool} {h:Heap} {l:Addr} (e:h.get? it=some (iH b l)):dW b h it l 0:=by
 cases b
 ·exact⟨_,e,rfl,rfl⟩
 ·exact⟨_,e,rfl,rfl⟩
theorem cR.push {b:Bool} {h:Heap} {l:Addr} {xs:Array Value} (x:cR b h l xs) (o:Obj):cR b (h.push o) l xs:=x.at λ_ e=>aad _ e
theorem cR.lt {b:Bool} {h:Heap} {l:Addr} {xs:Array Value} (x:cR b h l xs):l<h.objs.size:=by
 cases b
 ·let⟨o,e,_⟩:=(show h.IsTuple l xs from x);exact aal e
 ·let⟨o,e,_⟩:=(show h.IsList l xs from x);exact aal e
section
variable {prog:Program} {w:World} {A:Around} {E:Value->Shared->Prop} {s:Shared}
theorem oJ {b:Bool} {l:Addr} {xs:Array Value} {Q:Value->Shared->Prop} (hl:cR b s.heap l xs) (q:Q (.ref s.heap.objs.size) {s with heap:=s.heap.push (iH b l)}):wpAny (model prog w) A (pyIter (.ref l)) Q E s:=by
 cases b
 ·exact acn hl q
 ·exact ab4 hl q
end
abbrev Ct (b1:Bool) (h:Heap) (l1:Addr):Heap:=h.push (iH b1 l1)
abbrev BM (b1 b2:Bool) (h:Heap) (l1 l2:Addr):Heap:=(Ct b1 h l1).push (iH b2 l2)
abbrev B9 (b1 b2:Bool) (h:Heap) (l1 l2:Addr):Heap:=(BM b1 b2 h l1 l2).push {cls:= .type "tuple",data:= .seq #[.ref h.objs.size, .ref (Ct b1 h l1).objs.size]}
abbrev BZ (b1 b2:Bool) (h:Heap) (l1 l2:Addr):Heap:=(B9 b1 b2 h l1 l2).push {cls:= .type "tuple",data:= .seq #[.none, .none]}
abbrev vd (b1 b2:Bool) (h:Heap) (l1 l2:Addr):Heap:=(BZ b1 b2 h l1 l2).push {cls:= .type "zip",data:= .fields #[.none, .bool false, .bool false, .ref (BM b1 b2 h l1 l2).objs.size, .ref (B9 b1 b2 h l1 l2).objs.size]}
theorem xw (b1 b2:Bool) (l1 l2:Addr) (xs ys:Array Value):Meets (Builtin.«zip.__new__» ⟨[.type "zip", .ref l1, .ref l2],[]⟩)
  (λ_ R s=>cR b1 s.heap l1 xs/\cR b2 s.heap l2 ys/\R (.ok (.ret (.ref (BZ b1 b2 s.heap l1 l2).objs.size))) {s with heap:=vd b1 b2 s.heap l1 l2}):=
 .of_wp λprog w A R s h=>by
  let⟨hp,g,d,tk,os⟩:=s;let⟨g1,g2,h⟩:=h;have hsub:=sub_zip;have k1:cR b1 (Shared.heap ⟨hp,g,d,tk,os⟩) l1 xs:=g1;have k2:cR b2 (Shared.heap ⟨hp.push (iH b1 l1),g,d,tk,os⟩) l2 ys:=cR.push g2 _
  wp_walk using oJ k1,oJ k2
  exact⟨_,rfl,h⟩
theorem Aw {w:World} {A:Around} {E:Value->Shared->Prop} {s:Shared} {b1 b2:Bool} {xs ys:Array Value} {Q:Value->Shared->Prop} (g1:cR b1 s.heap l1 xs) (g2:cR b2 s.heap l2 ys)
  (q:∀h1,IsZip h1 (s.heap.objs.size+4) (s.heap.objs.size+2) (s.heap.objs.size+3) .none->IsPair h1 (s.heap.objs.size+2) (.ref s.heap.objs.size) (.ref (s.heap.objs.size+1))->IsPair h1 (s.heap.objs.size+3) .none .none->
   dW b1 h1 s.heap.objs.size l1 0->dW b2 h1 (s.heap.objs.size+1) l2 0->(∀c o,s.heap.get? c=some o->h1.get? c=some o)->Q (.ref (s.heap.objs.size+4)) {s with heap:=h1}):
  wpAny (model prog w) A (call (.type "zip") [.ref l1, .ref l2]) Q E s:=by
 refine callType_new F.called_zip (by decide) (F.typeCall_zip_2 _ _) (F.newCall_zip_2 _ _) (λobj=>F.args_object_init_3 obj _ _) F.entry_zip_new (xw b1 b2 l1 l2 xs ys) ⟨g1,g2, ?_⟩;have z1:(Ct b1 s.heap l1).objs.size=s.heap.objs.size+1:=aaN ..
 have z2:(BM b1 b2 s.heap l1 l2).objs.size=s.heap.objs.size+2:=by rw[aaN,z1]
 have z3:(B9 b1 b2 s.heap l1 l2).objs.size=s.heap.objs.size+3:=by rw[aaN,z2]
 have z4:(BZ b1 b2 s.heap l1 l2).objs.size=s.heap.objs.size+4:=by rw[aaN,z3]
 have y5:(vd b1 b2 s.heap l1 l2).get? (BZ b1 b2 s.heap l1 l2).objs.size=some _:=aai _ rfl;have y4:(vd b1 b2 s.heap l1 l2).get? (B9 b1 b2 s.heap l1 l2).objs.size=some _:=aad _ (aai _ rfl);have y3:(vd b1 b2 s.heap l1 l2).get? (BM b1 b2 s.heap l1 l2).objs.size=some _:=aad _ (aad _ (aai _ rfl));have y2:(vd b1 b2 s.heap l1 l2).get? (Ct b1 s.heap l1).objs.size=some _:=aad _ (aad _ (aad _ (aai _ rfl)));have y1:(vd b1 b2 s.heap l1 l2).get? s.heap.objs.size=some _:=aad _ (aad _ (aad _ (aad _ (aai _ rfl))));show _/\_;rw[z2,z3,z4] at y5;rw[z1,z2] at y3;rw[z3] at y4;rw[z1] at y2;rw[z4];exact⟨⟨_,y5,rfl⟩,q _ y5 y3 y4 (dW.of y1) (dW.of y2) λc o x=>aad _ (aad _ (aad _ (aad _ (aad _ x))))⟩
def CB (K:PySem.W.Frag) (b1:Bool) (l1:Addr) (b2:Bool) (l2:Addr):It:=
 ⟨λi H=>∃xs ys x y,fK b1 K H l1 xs/\fK b2 K H l2 ys/\xs[i]?=some x/\ys[i]?=some y,
 λi H x H'=>∃T u v,x= .ref T/\H T=none/\H'=upd H T (.tup [u,v])/\(∀xs,fK b1 K H l1 xs->xs[i]?=some u)/\∀ys,fK b2 K H l2 ys->ys[i]?=some v,
 λi H=>∃xs,fK b1 K H l1 xs/\(xs.length=i∨i<xs.length/\∃ys,fK b2 K H l2 ys/\ys.length=i)⟩
theorem zQ {P:Program} {w:World} {K:PySem.W.Frag} {x1} (b1 b2:Bool) (l1 l2 z TI TO i1 i2:Addr) (Z:ZApart z TI TO i1 i2 [i1,l1] [i2,l2]):
  Turn P w K (.Tuple elts x1 pos) (CB K b1 l1 b2 l2) [z,TI,TO,i1,i2] z (λi h=>IsZip h z TI TO .none/\IsPair h TI (.ref i1) (.ref i2)/\(∃a b,IsPair h TO a b)/\dW b1 h i1 l1 i/\dW b2 h i2 l2 i) where
 mem:=by simp
 obj:=λi h st c hc=>by
  let⟨g1,g2,⟨a,b,g3⟩,g4,g5⟩:=st;simp only[aap,abh,acE] at hc
  rcases hc with rfl|rfl|rfl|rfl|rfl
  ·exact⟨_,g1,λv q=>by cases q⟩
  ·exact⟨_,g2,λv q=>by cases q⟩
  ·exact⟨_,g3,λv q=>by cases q⟩
  ·exact g4.live
  ·exact g5.live
 keep:=λi h h' st k=>by
  let⟨g1,g2,⟨a,b,g3⟩,g4,g5⟩:=st;exact⟨k z (by simp) _ g1,k TI (by simp) _ g2,⟨a,b,k TO (by simp) _ g3⟩,g4.at λo q=>k i1 (by simp) o q,g5.at λo q=>k i2 (by simp) o q⟩
 item:=by
  intro X hP hw hK hc i pins s σ H E I hf st hg;subst hP hw hK;let⟨g1,g2,⟨a,b,g3⟩,g4,g5⟩:=st;let⟨xs,ys,x,y,hx,hy,ex,ey⟩:=hg;let⟨its,rv,p,_⟩:=cq I hx;let⟨jts,rw',p',_⟩:=cq I hy;let⟨u,hu,ru⟩:=rv.get ex;let⟨v,hv,rv'⟩:=rw'.get ey;have D1:=gX (prog:=X.prog) (w:=X.w) (A:=X.A.in1) b1 (I.ok.hd hc) i1 l1 (iZ g4 p) its.toArray;have D2:=gX (prog:=X.prog) (w:=X.w) (A:=X.A.in1) b2 (I.ok.hd hc) i2 l2 (iZ g5 p') jts.toArray
  have q1:i<its.toArray.size:=by
   have:=(aac.mp hu).1;simpa using this
  have q2:i<jts.toArray.size:=by
   have:=(aac.mp hv).1;simpa using this
  have hT:s.TypeIs (.ref z) "zip":=⟨_,g1,rfl⟩;unfold pyNext
  refine aaa (acy (aaW (name:=Str.ofString "__next__") hT acL (aba acL hT F.entry_zip_next
   (yB D1 D2 Z g1 g2 g3 ⟨g4,p⟩ ⟨g5,p'⟩ q1 q2 λu' v' h1 tk pu pv z1 z2 z3 z4 z5 hk=>aaf ?_) (F.args_zip_next_1 _))))
  have eu:u'=u:=by
   have h0:its[i]?=some u':=by simpa using pu
   rw[hu] at h0;exact(Option.some.inj h0).symm
  have ev:v'=v:=by
   have h0:jts[i]?=some v':=by simpa using pv
   rw[hv] at h0;exact(Option.some.inj h0).symm
  subst eu ev
  have lt:∀c∈[z,TI,TO,i1,i2],c<s.heap.objs.size:=λc hc=>by
   simp only[aap,abh,acE] at hc
   rcases hc with rfl|rfl|rfl|rfl|rfl
   ·exact aal g1
   ·exact aal g2
   ·exact aal g3
   ·let⟨o,q,_⟩:=g4.live;exact aal q
   ·let⟨o,q,_⟩:=g5.live;exact aal q
  refine⟨_,rfl,wpAny_letOwnedTupleGo_zip (s:={s with heap:=h1,toks:=tk}) z1 λh2 y1 y2=> ?_⟩;replace y2:Heap.SameBut z h1 h2:=y2;have hT2:h2.get? s.heap.objs.size=some {cls:= .type "tuple",data:= .seq #[u',v']}:=(y2.2 _ (abr (lt z (by simp)))).trans z5;refine⟨.ref s.heap.objs.size,upd H s.heap.objs.size (.tup [x,y]),zj (s:=s) (h':=h2) (t':=tk) I hf (λc o hc q=> ?_) (aah _) hT2 ru rv',rfl,⟨_,x,y,rfl,I.fresh,rfl,λzs hz=> ?_,λzs hz=> ?_⟩,⟨y1, ?_,⟨_,_,(y2.2 _ Z.TOz).trans z2⟩,z3.1.at λo q=>(y2.2 _ Z.i1z).trans q,z4.1.at λo q=>(y2.2 _ Z.i2z).trans q⟩,λc hc=> ?_⟩
  ·have c1:c≠z:=λq=>hc (by simp[q]);exact(y2.2 c c1).trans (hk c o c1 (λq=>hc (by simp[q])) (λq=>hc (by simp[q])) (λq=>hc (by simp[q])) q)
  ·rw[uD I hz hx];exact ex
  ·rw[uD I hz hy];exact ey
  ·exact(y2.2 _ Z.TIz).trans (hk _ _ Z.TIz Z.TIO Z.TI1 Z.TI2 g2)
  ·rw[aq (aau (lt c hc))];exact(hf c hc).1
 done:=by
  intro X hP hw hK hc i pins s σ H E I hf st hg;subst hP hw hK;let⟨g1,g2,⟨a,b,g3⟩,g4,g5⟩:=st;let⟨xs,hx,ex⟩:=hg;let⟨its,rv,p,_⟩:=cq I hx;have D1:=gX (prog:=X.prog) (w:=X.w) (A:=X.A.in1) b1 (I.ok.hd hc) i1 l1 (iZ g4 p) its.toArray;have ln:=rv.length;have hT:s.TypeIs (.ref z) "zip":=⟨_,g1,rfl⟩;unfold pyNext;refine aaa (acy (aaW (name:=Str.ofString "__next__") hT acL (aba acL hT F.entry_zip_next ?_ (F.args_zip_next_1 _))))
  rcases ex with ex|⟨ex,ys,hy,ey⟩
  ·have en:i=its.toArray.size:=by
    simp;lia
   refine An D1 Z g1 g2 (by rw[←en];exact⟨g4,p⟩) λh1 e hk he=> ?_;let⟨oe,h0,h2⟩:=he;refine aaa (wpAny_isInstance (T:="StopIteration") (b:=true) ⟨oe,h0,h2⟩ isSubtype_stop ?_);exact aaf ⟨rfl,kq (t':=s.toks) I hf λc o hc q=>hk c o (λq=>hc (by simp[q])) (λq=>hc (by simp[q])) q⟩
  ·let⟨jts,rw',p',_⟩:=cq I hy;have D2:=gX (prog:=X.prog) (w:=X.w) (A:=X.A.in1) b2 (I.ok.hd hc) i2 l2 (iZ g5 p') jts.toArray;have ln2:=rw'.length
   have en:i=jts.toArray.size:=by
    simp;lia
   refine wU D1 D2 Z g1 g2 g3 ⟨g4,p⟩ (by simp;lia) (by rw[←en];exact⟨g5,p'⟩) λh1 tk e hk he=> ?_;let⟨oe,h0,h2⟩:=he;refine aaa (wpAny_isInstance (T:="StopIteration") (b:=true) ⟨oe,h0,h2⟩ isSubtype_stop ?_);exact aaf ⟨rfl,kq (t':=tk) I hf λc o hc q=>hk c o (λq=>hc (by simp[q])) (λq=>hc (by simp[q])) (λq=>hc (by simp[q])) (λq=>hc (by simp[q])) q⟩
 self:=λ_ _ _ _ _ st h=>wpAny_pyIter_zip st.1 h
theorem zap {n l1 l2:Nat} (h1:l1<n) (h2:l2<n):ZApart (n+4) (n+2) (n+3) n (n+1) [n,l1] [n+1,l2]:=by
 constructor
 all_goals
  intro q
  try simp only[aap,abh,acE] at q
  have q':_:=q
  first|(exact absurd q (by show¬(_:Nat)=_;lia))|(rcases q with q|q<;>exact absurd q (by show¬(_:Nat)=_;lia))
def KI (K:PySem.W.Frag) (ta:TA):TI:=λσ H R=>ta σ H λvs H1=>∃a c b1 b2,vs=[.ref a, .ref c]/\(∃xs,fK b1 K H1 a xs)/\(∃ys,fK b2 K H1 c ys)/\R (CB K b1 a b2 c) H1
theorem E3 {X:Cx} {a c:Expr} {x1} {tp:Pos} {ta:TA} {p:Pos} (hg:Gl X "zip") (hm:X.mg "zip"=none) (ha:PA X [a,c] ta) (hs:starEach [a,c] X.env=[(false,eval a X.env),(false,eval c X.env)]:=by rfl) (hs2:starEach [c] X.env=[(false,eval c X.env)]:=by rfl):
  PI X (.Tuple elts x1 tp) (.Call (.Name "zip" p) [a,c] [] pos) (KI X.K ta):=by
 intro pins s σ H R I h;refine Call_ (gq I hg hm PyProof.Rows.Boot.«zip» (aca (aw (ha pos pins s σ H _ I h) λus s1 z902=> ?_) (by rw[hs,hs2]) (by rw[hs2];rfl)));let⟨vs,H1,I1,r1,q1⟩:=z902;let⟨l1,l2,b1,b2,e,⟨xs,hx⟩,⟨ys,hy⟩,q⟩:=q1;subst e
 cases r1 with
 |cons r rr=>
  cases rr with
  |cons r' rr=>
   cases rr;cases r;cases r';let⟨its,rv,g1,_⟩:=cq I1 hx;let⟨jts,rw',g2,_⟩:=cq I1 hy;have lt1:=g1.lt;have lt2:=g2.lt;refine Aw g1 g2 λh1 z1 z2 z3 z4 z5 hk=>wpAny_pyIter_zip (s:={s1 with heap:=h1}) z1 ?_;refine⟨s1.heap.objs.size+4,[s1.heap.objs.size+4,s1.heap.objs.size+2,s1.heap.objs.size+3,s1.heap.objs.size,s1.heap.objs.size+1],_,_,H1,rfl,I1.kept (t':=s1.toks) hk,zQ b1 b2 l1 l2 _ _ _ _ _ (zap lt1 lt2),⟨z1,z2,⟨_,_,z3⟩,z4,z5⟩,λb hb=> ?_,q⟩
   have le:s1.heap.objs.size<=b:=by
    simp only[aap,abh,acE] at hb
    rcases hb with rfl|rfl|rfl|rfl|rfl
    ·exact acA _ _
    ·exact acA _ _
    ·exact acA _ _
    ·exact aah _
    ·exact acA _ _
   exact I1.lX le (I1.ah.fresh le)
def BS (K:PySem.W.Frag):List V->Hp->VK->Prop:=λxs H Q=>∃x t n b,xs=[x, .ty n]/\eP K H x t/\PySem.W.kitOne K t (.type n)=some b/\Q (.bl b) H
theorem xR {X:Cx}:ar X (.builtin "isinstance") (BS X.K):=by
 intro pins s σ H xs us Q I r h;let⟨x,t,n,b,rfl,ty,kb,q⟩:=h;let⟨u,v,rfl,r1,r2⟩:=Vals.two r;cases r2;exact yZ I r1 ty kb λtk=>⟨.bl b,H,I.tok tk,rfl,q⟩
def KL (K:PySem.W.Frag):List V->Hp->VK->Prop:=λxs H Q=>∃p,∃ys:List Bool,xs=[.ref p]/\bK K H p (ys.map V.bl)/\Q (.bl (ys.all id)) H
theorem range_all (ys:List Bool):(List.range ys.length).all (λi=>(ys[i]?).getD true)=ys.all id:=by
 rw[aaS,ace,ace];constructor
 ·intro h y hy;let⟨i,hi,e⟩:=List.getElem_of_mem hy;have:=h i (abP.mpr hi);rw[aae hi,e] at this;exact this
 ·intro h i hi;have hi':=abP.mp hi;rw[aae hi'];exact h _ (List.getElem_mem hi')
theorem Bk {X:Cx} (hc:X.calm=true):ar X (.builtin "all") (KL X.K):=by
 intro pins s σ H xs us Q I r h;let⟨p,ys,rfl,hp,q⟩:=h;let⟨u,rfl,r1⟩:=Vals.one r;cases r1;let⟨its,rv,g,hz⟩:=I.list hp
 have lt:p<s.heap.objs.size:=by
  let⟨o,n,e,_⟩:=g;exact aal e
 have hl:its.length=ys.length:=by rw[←rv.length,List.length_map]
 have hsz:its.toArray.size=ys.length:=by rw[aak,hl]
 refine call_all_walk (ab4 g.isList ⟨s.heap.objs.size,[s.heap.objs.size,p],[s.heap.objs.size],its.toArray.size,_,_,λi=>(ys[i]?).getD true,rfl,Walks.list (A:=X.A.in1) (I.ok.hd hc) s.heap.objs.size p (aau lt) its.toArray,
  ⟨⟨_,aai _ rfl,rfl,rfl⟩,g.isList.push _⟩,λi v s1 Q1 E1 hv hq=> ?_,λh' tk hk=> ?_⟩)
 ·have hv':its[i]?=some v:=by simpa using hv
  have hi:i<ys.length:=by
   have:=(aac.mp hv').1;lia
  let⟨w',hw,rw'⟩:=rv.get (i:=i) (x:=V.bl ys[i]) (by rw[aaP,aae hi];rfl);rw[hv'] at hw;cases hw;cases rw';replace hq:Q1 ((ys[i]?).getD true) s1:=hq;rw[aae hi] at hq;exact abx hq
 ·refine⟨.bl (ys.all id),H,I.kept (t':=tk) λb o e=>hk b o (λz=> ?_) (aad _ e), ?_,q⟩
  ·rw[aaD.mp z] at e;exact absurd (aal e) (aa5 _)
  ·show Value.bool _=_;rw[hsz,range_all]
section
variable {prog:Program} {w:World} {A:Around} {E:Value->Shared->Prop} {s:Shared}
theorem qY {xs:Array (Int×Tok)} {v:Value} (hn:0<xs.size) (h:(intItems xs)[argBest (λi j=>decide (numAt xs i>numAt xs j)) (xs.size-1)]?=some v):∃m t,v= .int m t/\(xs.toList.map (·.1)).max?=some m:=by
 let⟨t,rfl⟩:=intItems_at h;let⟨h1,h2⟩:=argBest_gt (numAt xs) (xs.size-1);refine⟨_,t,rfl,abH.mpr ⟨?_,λb hb=> ?_⟩⟩
 ·rw[numAt_eq];exact PySem.getD_mem (by rw[List.length_map,aaU];lia)
 ·let⟨j,hj,rfl⟩:=mem_getD hb;rw[←numAt_eq];exact h2 j (by simp at hj;lia)
theorem rB {xs:Array (Int×Tok)} {v:Value} (hn:0<xs.size) (h:(intItems xs)[argBest (λi j=>decide (numAt xs i<numAt xs j)) (xs.size-1)]?=some v):∃m t,v= .int m t/\(xs.toList.map (·.1)).min?=some m:=by
 let⟨t,rfl⟩:=intItems_at h;let⟨h1,h2⟩:=argBest_lt (numAt xs) (xs.size-1);refine⟨_,t,rfl,abj.mpr ⟨?_,λb hb=> ?_⟩⟩
 ·rw[numAt_eq];exact PySem.getD_mem (by rw[List.length_map,aaU];lia)
 ·let⟨j,hj,rfl⟩:=mem_getD hb;rw[←numAt_eq];exact h2 j (by simp at hj;lia)
theorem args_max3 (a b c:Value):argsOk "max" ⟨[a,b,c],[]⟩:=by unfold argsOk;kernel_rfl
theorem Kr {a b c:Int} {t u v:Tok} {Q:Value->Shared->Prop} (hh:A.handled=none) (h:∀m t h' tk,[a,b,c].max?=some m->(∀c o,s.heap.get? c=some o->h'.get? c=some o)->Q (.int m t) {s with heap:=h',toks:=tk}):
  wpAny (model prog w) A (call (.builtin "max") [.int a t, .int b u, .int c v]) Q E s:=by
 have hn:(toString "max"++toString ".loop":String)="max.loop":=by decide
 have hT:(s.heap.push {cls:= .type "tuple",data:= .seq #[.int a t, .int b u, .int c v]}).IsTuple s.heap.objs.size (intItems #[(a,t),(b,u),(c,v)]):=⟨_,aai _ rfl,rfl,0,by simp[intItems]⟩;have z1:(s.heap.push {cls:= .type "tuple",data:= .seq #[.int a t, .int b u, .int c v]}).objs.size=s.heap.objs.size+1:=aaN ..;refine call_function_tree F.kind_max F.plain_max F.entry_max (args_max3 _ _ _) ?_;show wpAny _ A.in1 (Builtin.Builtins.bindParams "max" ["key","default"] 0 ⟨[],[]⟩>>=λx=>_) _ _ s;refine aaa (wpAny_of_eq (show Builtin.Builtins.bindParams "max" ["key","default"] 0 ⟨[],[]⟩=pure [none,none] from rfl) ?_);show wpAny _ A.in1 (newTuple [.int a t, .int b u, .int c v]>>=λx=>_) _ _ s;refine aaa (aaK (aaa (acn hT (aaa (aaK ?_)))));rw[hn]
 have z2:((s.heap.push {cls:= .type "tuple",data:= .seq #[.int a t, .int b u, .int c v]}).push {cls:= .type "tuple_iterator",data:= .fields #[.ref s.heap.objs.size, .int 0 0]}).objs.size=s.heap.objs.size+2:=by rw[aaN,z1]
 generalize eA:(s.heap.push {cls:= .type "tuple",data:= .seq #[.int a t, .int b u, .int c v]})=hA at*;have W:=PySem.Walks.tuple (prog:=prog) (w:=w) (A:=A.in1) hh hA.objs.size s.heap.objs.size (by rw[z1];exact aau (acb _)) (intItems #[(a,t),(b,u),(c,v)]);have hst:_:=And.intro (show ((hA.push {cls:= .type "tuple_iterator",data:= .fields #[.ref s.heap.objs.size, .int 0 0]}).IsTupleIter hA.objs.size s.heap.objs.size 0) from ⟨_,aai _ rfl,rfl,rfl⟩) (hT.push {cls:= .type "tuple_iterator",data:= .fields #[.ref s.heap.objs.size, .int 0 0]});refine aaf ⟨abZ F.plain_max_loop _,codeAny_max_loop_first W _ (CmpOf.ints_gt (numAt #[(a,t),(b,u),(c,v)]) (λ_ _=>intItems_at)) _ ?_ (by simp[intItems]) (W.frame _ _ _ hst λd _ o e=>aad _ e) (aai _ rfl) λx h' tk hP hk=> ?_⟩
 ·show¬_∈[_,_];simp only[aap,abh,acE];show¬((Heap.push _ _).objs.size=_∨(Heap.push _ _).objs.size=_);rw[z2,z1];lia
 ·let⟨m,r,rfl,e⟩:=qY (xs:=#[(a,t),(b,u),(c,v)]) (by simp) (by simpa[intItems] using hP);refine h m r h' tk e λd o q=> ?_;have lt:=aal q
  have l1:d≠hA.objs.size:=by rw[z1];exact aau (abL lt)
  have l2:=z2▸(show d≠s.heap.objs.size+2 from aau (abL (abL lt)))
  have q2:hA.get? d=some o:=by rw[←eA];exact aad _ q
  exact hk d o (λhm=>l1 (aaD.mp hm)) l2 (aad _ (aad _ q2))
noncomputable abbrev oN:List (Str×Value):=[(Str.ofString "default", .none)]
theorem yX (a:Value):argsOk "min" ⟨[a],oN⟩:=by unfold argsOk;kernel_rfl
section
variable {R:Result->Shared->Prop} {I:Addr} {fp wr:List Addr} {n:Nat} {P:Nat->Value->Prop} {St:Nat->Heap->Prop}
theorem zt (W:PySem.Walks prog w A.in1 I fp wr n P St) (bt:Nat->Nat->Bool) (hcmp:CmpOf prog w A.in1 .Lt P bt) (S:Addr) (hSf:S∉fp):∀(k j:Nat) (s:Shared) (vb:Value) (c:Nat),n=j+1+k->St (j+1) s.heap->P (argBest bt j) vb->
  s.heap.get? S=some {cls:= .type "list",dict:=none,data:= .seq #[vb,vb] c,slots:=#[]}->(∀v h' tk,P (argBest bt (n-1)) v->(∀b o,b∉wr->b≠S->s.heap.get? b=some o->h'.get? b=some o)->R (.ok (.ret v)) {s with heap:=h',toks:=tk})->
  codeAny (model prog w) A (.builtin "min.loop" ⟨[.ref I, .none, .ref S],oN⟩) R s:=by
 have hw:S∉wr:=λh=>hSf (W.sub _ h)
 have hn:(toString "min"++toString ".loop":String)="min.loop":=by decide
 intro k
 induction k with
 |zero=>
  intro j s vb c hk hst hP hS hR;refine acj F.entry_min_loop ?_;rw[abN abz _];show wpAny _ A.in1 (seqItems? (.ref S)>>=λx=>_) _ _ s;refine aaa (aaX hS rfl ?_);show wpAny _ A.in1 (tryCatch (pyNext (.ref I)) _>>=λx=>_) _ _ s;refine aaa (ab9 (W.done s _ _ ((show j+1=n by lia)▸hst) λh' tk k1=> ?_));show wpAny _ A.in1 (updateSeq S (λ_=>#[])>>=λx=>_) _ _ _;refine aaa (wpAny_updateSeq (k1 S _ hw hS) rfl (aaa (abO (aaf ?_))));exact hR vb _ tk (by rw[hk];exact hP) λb o b1 b2 e=>(aaF _ _ (Ne.symm b2)).trans (k1 b o b1 e)
 |succ k ih=>
  intro j s vb c hk hst hP hS hR;refine acj F.entry_min_loop ?_;rw[abN abz _];show wpAny _ A.in1 (seqItems? (.ref S)>>=λx=>_) _ _ s;refine aaa (aaX hS rfl ?_);show wpAny _ A.in1 (tryCatch (pyNext (.ref I)) _>>=λx=>_) _ _ s;refine aaa (ab9 (W.item (j+1) s _ _ (by lia) hst λv h' tk hv st' k1=> ?_));have hS':=k1 S _ hw hS;show wpAny _ A.in1 (tryCatch (holding [v,v] (richCompare .Lt v vb>>=_)) _>>=λx=>_) _ _ _;refine aaa (ab9 (aa7 (aaa (hcmp (j+1) (argBest bt j) v vb _ _ _ hv hP (aaa (aa7 (abx (aaa (abO (aaf ?_))))))))))
  cases hb:bt (j+1) (argBest bt j) with
  |true=>
   simp only[abQ];refine aaa (wpAny_updateSeq hS' rfl (aaa (abO ?_)));rw[hn]
   exact aaf ⟨abZ abz _,ih (j+1) _ v _ (by lia) (W.frame _ _ _ st' λb hbf o e=>(aaF _ _ (λh:S=b=>hSf (by rw[h];exact hbf))).trans e) (by simp only[argBest,hb,abQ];exact hv) (aa3 _ hS' rfl)
    λv' h2 t2 hp k2=>hR v' h2 t2 hp λb o b1 b2 e=>k2 b o b1 b2 ((aaF _ _ (Ne.symm b2)).trans (k1 b o b1 e))⟩
  |false=>
   simp only[abk,abi];refine aaa (abO ?_);rw[hn];exact aaf ⟨abZ abz _,ih (j+1) _ vb c (by lia) st' (by simp only[argBest,hb,abk,abi];exact hP) hS' λv' h2 t2 hp k2=>hR v' h2 t2 hp λb o b1 b2 e=>k2 b o b1 b2 (k1 b o b1 e)⟩
theorem wx (W:PySem.Walks prog w A.in1 I fp wr n P St) (bt:Nat->Nat->Bool) (hcmp:CmpOf prog w A.in1 .Lt P bt) (S:Addr) (hSf:S∉fp) {c:Nat} (hst:St 0 s.heap) (hS:s.heap.get? S=some {cls:= .type "list",dict:=none,data:= .seq #[] c,slots:=#[]})
  (hR:∀v h' tk,(if n=0 then v= .none else P (argBest bt (n-1)) v)->(∀b o,b∉wr->b≠S->s.heap.get? b=some o->h'.get? b=some o)->R (.ok (.ret v)) {s with heap:=h',toks:=tk}):
  codeAny (model prog w) A (.builtin "min.loop" ⟨[.ref I, .none, .ref S],oN⟩) R s:=by
 have hw:S∉wr:=λh=>hSf (W.sub _ h)
 have hn:(toString "min"++toString ".loop":String)="min.loop":=by decide
 refine acj F.entry_min_loop ?_;rw[abN abz _];show wpAny _ A.in1 (seqItems? (.ref S)>>=λx=>_) _ _ s;refine aaa (aaX hS rfl ?_);show wpAny _ A.in1 (tryCatch (pyNext (.ref I)) _>>=λx=>_) _ _ s
 by_cases h0:n=0
 ·refine aaa (ab9 (W.done s _ _ (h0▸hst) λh' tk k1=> ?_));show wpAny _ A.in1 (rule _>>=λx=>_) _ _ _;exact aaa (acq (aaf (hR .none h' tk (by rw[if_pos h0]) λb o b1 b2 e=>k1 b o b1 e)))
 ·refine aaa (ab9 (W.item 0 s _ _ (by lia) hst λv h' tk hv st' k1=> ?_));have hS':=k1 S _ hw hS;show wpAny _ A.in1 (updateSeq S (λ_=>#[v,v])>>=λx=>_) _ _ _;refine aaa (wpAny_updateSeq hS' rfl ?_);rw[hn]
  exact aaf ⟨abZ abz _,zt W bt hcmp S hSf (n-1) 0 _ v _ (by lia) (W.frame _ _ _ st' λb hbf o e=>(aaF _ _ (λh:S=b=>hSf (by rw[h];exact hbf))).trans e) hv (aa3 _ hS' rfl)
   λv' h2 t2 hp k2=>hR v' h2 t2 (by rw[if_neg h0];exact hp) λb o b1 b2 e=>k2 b o b1 b2 ((aaF _ _ (Ne.symm b2)).trans (k1 b o b1 e))⟩
end
end
noncomputable def sv (ns:List Int):V:=(ns.min?.map V.int).getD .non
variable {X:Cx} {pins:List (Addr×Obj)} {σ:St} {H:Hp}
theorem zp {a:Addr} {ns:List Int} {Q:VK} (hc:X.calm=true) (I:Inv X pins σ H s) (ha:bK X.K H a (ns.map V.int)) (q:Q (sv ns) H):wpAny (model X.prog X.w) X.A (call (.builtin "min") [.ref a] oN) (EP X pins σ Q) E s:=by
 have hn:(toString "min"++toString ".loop":String)="min.loop":=by decide
 let⟨its,rv,g,hz⟩:=I.list ha;have hi:=intsAre_of rv;let⟨xs,hx⟩:=hi.allInts.items;have hl:s.heap.IsList a (intItems xs):=hx▸g.isList
 have e1:ns=xs.toList.map (·.1):=by
  rw[←nums_intItems,←hx];exact(show numsOf its.toArray.toList=ns from hi.numsOf).symm
 have lt:a<s.heap.objs.size:=by
  let⟨o,e,_⟩:=hl;exact aal e
 refine wpAny_call (codeAny_call_builtin F.plain_min F.entry_min ?_);simp only[checkBuiltinCall,F.kind_min]
 have hb:wpAny (model X.prog X.w) X.A.in1 (Builtin.«min» ⟨[.ref a],oN⟩) (λfin s'=>match fin with
   | .done f=>(match (Except.ok f:Result) with| .ok (.ret v)=>EP X pins σ Q v s'| .ok _=>False| .error e=>E e s')
   | .again c'=>c'.quiet=true/\codeAny (model X.prog X.w) X.A c' (λr s'=>match r with| .ok (.ret v)=>EP X pins σ Q v s'| .ok _=>False| .error e=>E e s') s') E s:=by
  show wpAny _ X.A.in1 (Builtin.Builtins.bindParams "min" ["key","default"] 0 ⟨[],oN⟩>>=λx=>_) _ _ s;refine aaa (wpAny_of_eq (show Builtin.Builtins.bindParams "min" ["key","default"] 0 ⟨[],oN⟩=pure [none,some .none] from rfl) ?_);refine aaa (aaf (aaa (ab4 hl (aaa (aaK ?_)))));rw[hn];have W:=PySem.Walks.list (prog:=X.prog) (w:=X.w) (A:=X.A.in1) (I.ok.hd hc) s.heap.objs.size a (aau lt) (intItems xs);have z1:(s.heap.push {cls:= .type "list_iterator",data:= .fields #[.ref a, .int 0 0]}).objs.size=s.heap.objs.size+1:=aaN ..;refine aaf ⟨abZ abz _,wx W _ (CmpOf.ints_lt (numAt xs) (λ_ _=>intItems_at)) _ ?_ (W.frame _ _ _ ⟨⟨_,aai _ rfl,rfl,rfl⟩,hl.push _⟩ λd _ o e=>aad _ e) (aai _ rfl) λx h' tk hP hk=> ?_⟩
  ·show¬_∈[_,_];simp only[aap,abh,acE];show¬((Heap.push _ _).objs.size=_∨(Heap.push _ _).objs.size=_);rw[z1];exact λh=>h.elim (λh=>absurd h (abr (acb _))) λh=>absurd h (abr (abL lt))
  ·refine⟨sv ns,H,I.kept (t':=tk) λd o e=> ?_, ?_,q⟩
   ·have ld:d<s.heap.objs.size:=aal e;exact hk d o (λhm=>aau ld (aaD.mp hm)) (z1▸aau (abL ld)) (aad _ (aad _ e))
   ·have sz:(intItems xs).size=xs.size:=by simp[intItems]
    rw[sz] at hP
    by_cases h0:xs.size=0
    ·rw[if_pos h0] at hP;subst hP;have:xs.toList=[]:=aa4.mp (by simpa using h0);rw[e1,this];rfl
    ·rw[if_neg h0] at hP;let⟨m,t,rfl,e2⟩:=rB (acV h0) hP;rw[e1];unfold sv;rw[e2];exact⟨t,rfl⟩
 cases hsig:Manifest.signature? "min" with
 |none=>exact aaf hb
 |some sig=>
  have ha':Bind.checkArgs "min" sig ⟨[.ref a],oN⟩=pure ():=by simpa only[argsOk,hsig] using yX (.ref a)
  simp only[ha'];exact aaf hb
section
variable {X:Cx}
theorem zo (hc:X.calm=true):ar X (.builtin "max") (λxs H Q=>∃i j k,xs=[.int i, .int j, .int k]/\Q (.int (max i (max j k))) H):=by
 intro pins s σ H xs us Q I r h;let⟨i,j,k,rfl,q⟩:=h
 cases r with
 |cons a r=>cases r with
  |cons b r=>cases r with
   |cons c r=>
    cases r;let⟨t,rfl⟩:=a;let⟨t',rfl⟩:=b;let⟨t'',rfl⟩:=c;refine Kr (I.ok.hd hc) λm z h' tk e kp=>⟨.int (max i (max j k)),H,I.kept kp,⟨z, ?_⟩,q⟩;rw[show m=max i (max j k) from Option.some.inj (e.symm.trans (by simp[Int.max_assoc]))]
theorem vm {σ:St} {H:Hp} {s:Shared} {p:Addr} {ns:List Int} (I:Inv X pins σ H s) (hp:bK X.K H p (ns.map V.int)):∃xs,s.heap.IsList p (intItems xs)/\ns=xs.toList.map (·.1):=by
 let⟨its,rv,g,hz⟩:=I.list hp;have hi:=intsAre_of rv;let⟨xs,hx⟩:=hi.allInts.items;refine⟨xs,hx▸g.isList, ?_⟩;rw[←nums_intItems,←hx];exact(show numsOf its.toArray.toList=ns from hi.numsOf).symm
theorem xo (hc:X.calm=true):ar X (.builtin "max") (λxs H Q=>∃p,∃ns:List Int,∃m,xs=[.ref p]/\bK X.K H p (ns.map V.int)/\ns.max?=some m/\Q (.int m) H):=by
 intro pins s σ H xs us Q I r h;let⟨p,ns,m,rfl,hp,hm,q⟩:=h;let⟨u,rfl,r1⟩:=Vals.one r;cases r1;let⟨xs,hl,rfl⟩:=vm I hp
 have h0:0<xs.size:=acV λz=>by
  have:xs.toList=[]:=aa4.mp (by simpa using z);rw[this] at hm;cases hm
 refine max_intList (I.ok.hd hc) hl h0 λv h' tk hv hk=> ?_;let⟨m',t,rfl,e⟩:=qY h0 hv;rw[hm] at e;cases e;exact⟨.int m,H,I.kept (t':=tk) hk,⟨t,rfl⟩,q⟩
theorem wX (hc:X.calm=true):ar X (.builtin "min") (λxs H Q=>∃p,∃ns:List Int,∃m,xs=[.ref p]/\bK X.K H p (ns.map V.int)/\ns.min?=some m/\Q (.int m) H):=by
 intro pins s σ H xs us Q I r h;let⟨p,ns,m,rfl,hp,hm,q⟩:=h;let⟨u,rfl,r1⟩:=Vals.one r;cases r1;let⟨xs,hl,rfl⟩:=vm I hp
 have h0:0<xs.size:=acV λz=>by
  have:xs.toList=[]:=aa4.mp (by simpa using z);rw[this] at hm;cases hm
 refine min_intList (I.ok.hd hc) hl h0 λv h' tk hv hk=> ?_;let⟨m',t,rfl,e⟩:=rB h0 hv;rw[hm] at e;cases e;exact⟨.int m,H,I.kept (t':=tk) hk,⟨t,rfl⟩,q⟩
def IM (K:PySem.W.Frag) (t:TA):TE:=λσ H Q=>t σ H λvs H1=>∃a,∃ns:List Int,vs=[.ref a]/\bK K H1 a (ns.map V.int)/\Q (sv ns) H1
theorem DF {e:Expr} {t:TA} {p:Pos} {kd:Nat} (hc:X.calm=true) (hg:Gl X "min") (hm:X.mg "min"=none) (ha:PA X [e] t) (he:backTo pos (starEach [e] X.env)=(false,eval e X.env)::backTo pos (starEach [] X.env)) (hpl:(backTo pos (starEach [e] X.env)).any (·.1)=false):
  PE X (.Call (.Name "min" p) [e] [⟨some (Str.ofString "default"), .Constant .none kd p2,kpos⟩] pos) (IM X.K t):=by
 intro pins s σ H Q I h;refine abm (gq I hg hm PyProof.Rows.Boot.«min» ?_);refine callWith_kw (aw (ha pos pins s σ H _ I h) λus s1 z902=> ?_) he hpl;let⟨vs,H1,I1,r1,q1⟩:=z902;have hk:PK X [⟨some (Str.ofString "default"), .Constant .none kd p2,kpos⟩] (qj (tC .non) wB):=uP yQ yx;refine aw (hk pos pins s1 σ H1 (λzs H2=>zs=[.non]/\H2=H1) I1 ⟨rfl,rfl⟩) λws s2 z902=> ?_;let⟨zs,H2,I2,rz,e1,e2⟩:=z902;subst e1 e2;let⟨w',rfl,rw'⟩:=Vals.one rz;cases rw';let⟨a,ns,rfl,ha',q⟩:=q1;let⟨u,rfl,ru⟩:=Vals.one r1;cases ru;exact zp hc I2 ha' q
end
end L2.L3
namespace L2
open PySem PySem.Spec PyProof.Rows
section
variable {κ:Type} [DecidableEq κ]
noncomputable def fH (kvs:List (κ×V)) (k:κ):Option V:=(kvs.find? λkv=>decide (kv.1=k)).map (·.2)
noncomputable def putK (kvs:List (κ×V)) (k:κ) (v:V):List (κ×V):=
 if (kvs.any λkv=>decide (kv.1=k))=true then kvs.map (λkv=>if kv.1=k then (kv.1,v) else kv) else kvs++[(k,v)]
theorem gG {p:κ×V} {r:List (κ×V)} {k:κ} (e:p.1=k):fH (p::r) k=some p.2:=by simp[fH,abu,e]
theorem gB {p:κ×V} {r:List (κ×V)} {k:κ} (e:¬p.1=k):fH (p::r) k=fH r k:=by simp[fH,abu,e]
theorem rD (k:κ):∀kvs:List (κ×V),(kvs.any λkv=>decide (kv.1=k))=(fH kvs k).isSome
 |[]=>rfl
 |p::r=>by
  rw[abY]
  by_cases e:p.1=k
  ·simp only[gG e,abB e,Bool.true_or,Option.isSome_some]
  ·rw[gB e,aaB e,Bool.false_or];exact rD k r
theorem eY (kvs:List (κ×V)) (k:κ) (v:V):(putK kvs k v).length<=kvs.length+1:=by
 unfold putK;split
 ·rw[List.length_map];lia
 ·rw[aaZ,aaw,ada];lia
theorem dP.xr {o:Option V} {u:Option Value} (r:dP o u):o.isSome=u.isSome:=by
 cases o with
 |none=>cases u with
  |none=>rfl
  |some _=>exact(show False from r).elim
 |some _=>cases u with
  |none=>exact(show False from r).elim
  |some _=>rfl
theorem dP.getD {o:Option V} {u:Option Value} {d:V} {d':Value} (r:dP o u) (rd:RelV d d'):RelV (o.getD d) (u.getD d'):=by
 cases o with
 |none=>cases u with
  |none=>exact rd
  |some _=>exact(show False from r).elim
 |some _=>cases u with
  |none=>exact(show False from r).elim
  |some _=>exact r
theorem KV.val {kvs:List (κ×V)} {vs:List (κ×Value)} (r:KV kvs vs) (k:κ):dP (fH kvs k) (valueAt vs k):=by
 unfold KV at r
 induction r with
 |nil=>exact True.intro
 | @cons p q ps qs h t ih=>
  let⟨h1,h2⟩:=h
  by_cases e:p.1=k
  ·have e':q.1=k:=h1.symm.trans e
   have b:valueAt (q::qs) k=some q.2:=by simp[valueAt,abu,e']
   rw[gG e,b];exact h2
  ·have e':¬q.1=k:=λz=>e (h1.trans z)
   have b:valueAt (q::qs) k=valueAt qs k:=by simp[valueAt,abu,e']
   rw[gB e,b];exact ih
theorem KV.any {kvs:List (κ×V)} {vs:List (κ×Value)} (r:KV kvs vs) (k:κ):(kvs.any λkv=>decide (kv.1=k))=vs.any λkv=>decide (kv.1=k):=by
 unfold KV at r
 induction r with
 |nil=>rfl
 |cons h t ih=>rw[abY,abY,ih,h.1]
theorem KV.zK {kvs:List (κ×V)} {vs:List (κ×Value)} (r:KV kvs vs) (k:κ) {y:V} {u:Value} (ry:RelV y u):
  KV (kvs.map λkv=>if kv.1=k then (kv.1,y) else kv) (vs.map λkv=>if kv.1=k then (kv.1,u) else kv):=by
 unfold KV at r⊢
 induction r with
 |nil=>exact .nil
 | @cons p q ps qs h t ih=>
  rw[aay,aay];refine .cons ?_ ih;let⟨h1,h2⟩:=h
  by_cases e:p.1=k
  ·rw[if_pos e,if_pos (h1.symm.trans e)];exact⟨h1,ry⟩
  ·rw[if_neg e,if_neg (λz=>e (h1.trans z))];exact⟨h1,h2⟩
theorem KV.put {kvs:List (κ×V)} {vs:List (κ×Value)} (r:KV kvs vs) (k:κ) {y:V} {u:Value} (ry:RelV y u):KV (putK kvs k y) (stored vs k u):=by
 unfold putK stored;rw[r.any k]
 by_cases e:(vs.any λkv=>decide (kv.1=k))=true
 ·rw[if_pos e,if_pos e];exact r.zK k ry
 ·rw[if_neg e,if_neg e];exact Paired.snoc r ⟨rfl,ry⟩
theorem KV.length {kvs:List (κ×V)} {vs:List (κ×Value)} (r:KV kvs vs):kvs.length=vs.length:=abg r
end
theorem gN {P:Program} {w:World} {k:Key} {u:Value} (r:RelV (kV k) u):(aJ P w).is k u=true:=by
 cases k with
 |inl i=>let⟨t,e⟩:=(show∃t,u=Value.int i t from r);subst e;exact tU P w i t
 |inr x=>let⟨t,e⟩:=(show∃t,u=Value.str x t from r);subst e;exact tR P w x t
theorem o8 {P:Program} {w:World}:∀{ks:List Key} {us:List Value},Vals (ks.map kV) us->ItemsAre (aJ P w) ks us
 |[],_,r=>by rw[acK] at r;cases r;exact .nil
 |k::ks,_,r=>by
  rw[aay] at r
  cases r with
  |cons h t=>exact .cons (gN h) (o8 t)
abbrev KT (H:Hp):List (List Key×V)->List (List Key×Addr×Value)->Prop:=Paired λp q=>p.1=q.1/\H q.2.1=some (.tup (p.1.map kV))/\RelV p.2 q.2.2
theorem KT.val {H:Hp} {kvs:List (List Key×V)} {xs:List (List Key×Addr×Value)} (r:KT H kvs xs) (k:List Key):dP (fH kvs k) ((atKey xs k).map (·.2)):=by
 induction r with
 |nil=>exact True.intro
 | @cons p q ps qs h t ih=>
  let⟨h1,_,h2⟩:=h
  by_cases e:p.1=k
  ·have e':q.1=k:=h1.symm.trans e
   have b:atKey (q::qs) k=some q.2:=by simp[atKey,abu,e']
   rw[gG e,b];exact h2
  ·have e':¬q.1=k:=λz=>e (h1.trans z)
   have b:atKey (q::qs) k=atKey qs k:=by simp[atKey,abu,e']
   rw[gB e,b];exact ih
theorem KT.zK {H:Hp} {kvs:List (List Key×V)} {xs:List (List Key×Addr×Value)} (r:KT H kvs xs) (k:List Key) {y:V} {u:Value} (ry:RelV y u):
  KT H (kvs.map λkv=>if kv.1=k then (kv.1,y) else kv) (xs.map (putAt k u)):=by
 induction r with
 |nil=>exact .nil
 | @cons p q ps qs h t ih=>
  rw[aay,aay];refine .cons ?_ ih;let⟨h1,h2,h3⟩:=h;unfold putAt
  by_cases e:p.1=k
  ·rw[if_pos e,if_pos (h1.symm.trans e)];exact⟨h1,h2,ry⟩
  ·rw[if_neg e,if_neg (λz=>e (h1.trans z))];exact⟨h1,h2,h3⟩
theorem KT.put {H:Hp} {kvs:List (List Key×V)} {xs:List (List Key×Addr×Value)} (r:KT H kvs xs) (k:List Key) {b:Addr} {y:V} {u:Value} (hb:H b=some (.tup (k.map kV))) (ry:RelV y u):
  KT H (putK kvs k y) (storedH xs k b u):=by
 have e:(kvs.any λkv=>decide (kv.1=k))=(atKey xs k).isSome:=by
  rw[rD,(r.val k).xr,Option.isSome_map]
 unfold putK storedH;rw[e]
 by_cases q:(atKey xs k).isSome=true
 ·rw[if_pos q,if_pos q];exact r.zK k ry
 ·rw[if_neg q,if_neg q];exact Paired.snoc r ⟨rfl,hb,ry⟩
theorem KT.keeps {H H':Hp} {kvs:List (List Key×V)} {xs:List (List Key×Addr×Value)} (r:KT H kvs xs) (ht:∀b ys,H b=some (.tup ys)->H' b=some (.tup ys)):KT H' kvs xs:=
 Paired.wj r λ_ _ z=>⟨z.1,ht _ _ z.2.1,z.2.2⟩
section
variable {P:Program} {w:World} {H:Hp} {h:Heap} {a:Addr}
theorem BI {u:HO} (ok:bH P w H h) (e:Rd H a u):aL P w H h a u:=e.ok ok
theorem fQ {kvs:List (Key×V)} (ok:bH P w H h) (e:Rd H a (.dK kvs)):kvs.length<=sizeLine/\(a==sysModules)=false/\∃vs,KV kvs vs/\h.DictOf (aJ P w) a vs:=
 show aL P w H h a (.dK kvs) from BI ok e
theorem Cw {kvs:List (Key×V)} (ok:bH P w H h) (e:H a=some (.dK kvs)):kvs.length<=sizeLine/\(a==sysModules)=false/\∃vs,KV kvs vs/\h.DictOf (aJ P w) a vs:=fQ ok (.inl e)
theorem fF {ks:List Key} (ok:bH P w H h) (e:H a=some (.tup (ks.map kV))):(tupleKind (aJ P w)).is h ks a:=by
 let⟨_,its,r,o,h1,h2,n,h3⟩:=(show aL P w H h a (.tup (ks.map kV)) from ok a _ e);exact⟨o,its.toArray,n,h1,h2,h3,by simpa using o8 r⟩
theorem fS {kvs:List (List Key×V)} (ok:bH P w H h) (e:Rd H a (.dT kvs)):kvs.length<=sizeLine/\(a==sysModules)=false/\
  ∃xs,KT H kvs xs/\h.DictOfH (tupleKind (aJ P w)) a xs:=by
 let⟨z,y,xs,r,o,es,ep,h1,h2,h3,h4,h5⟩:=(show aL P w H h a (.dT kvs) from BI ok e);refine⟨z,y,xs,r,o,es,ep,h1,h2,h3,h4,λx hx=> ?_,h5⟩
 have all:∀{l:List (List Key×V)} {m:List (List Key×Addr×Value)},KT H l m->∀x∈m,(tupleKind (aJ P w)).is h x.1 x.2.1:=by
  intro l m q
  induction q with
  |nil=>intro x hx;exact nomatch hx
  | @cons p q ps qs hq t ih=>
   intro x hx
   rcases aap.mp hx with e|hx
   ·subst e;exact fF ok (by rw[←hq.1];exact hq.2.1)
   ·exact ih x hx
 exact all r x hx
theorem BV {kvs:List (List Key×V)} (ok:bH P w H h) (e:H a=some (.dT kvs)):kvs.length<=sizeLine/\(a==sysModules)=false/\
  ∃xs,KT H kvs xs/\h.DictOfH (tupleKind (aJ P w)) a xs:=fS ok (.inl e)
end
def nS (H:Hp) (a:Addr) (y:V) (r:Option V):Prop:=
 (∃kvs k,Rd H a (.dK kvs)/\y=kV k/\r=fH kvs k)∨∃kvs k b,Rd H a (.dT kvs)/\y= .ref b/\H b=some (.tup (k.map kV))/\r=fH kvs k
def fI (H:Hp) (a:Addr) (y v:V) (H':Hp):Prop:=
 (∃kvs k,H a=some (.dK kvs)/\y=kV k/\kvs.length<sizeLine/\H'=upd H a (.dK (putK kvs k v)))∨
 ∃kvs k b,H a=some (.dT kvs)/\y= .ref b/\H b=some (.tup (k.map kV))/\kvs.length<sizeLine/\H'=upd H a (.dT (putK kvs k v))
theorem fI.k {H:Hp} {a:Addr} {kvs:List (Key×V)} {k:Key} {v:V} (e:H a=some (.dK kvs)) (hl:kvs.length<sizeLine):fI H a (kV k) v (upd H a (.dK (putK kvs k v))):= .inl ⟨kvs,k,e,rfl,hl,rfl⟩
theorem fI.t {H:Hp} {a b:Addr} {kvs:List (List Key×V)} {k:List Key} {v:V} (e:H a=some (.dT kvs)) (eb:H b=some (.tup (k.map kV))) (hl:kvs.length<sizeLine):
  fI H a (.ref b) v (upd H a (.dT (putK kvs k v))):= .inr ⟨kvs,k,b,e,rfl,eb,hl,rfl⟩
section
variable {X:Cx} {pins:List (Addr×Obj)} {σ:St} {H:Hp} {s:Shared} {a:Addr} {y v:V} {u r:Value} {o:Option V} {A:Around} {E:Value->Shared->Prop}
theorem Inv.big (I:Inv X pins σ H s):sysModules<s.heap.objs.size:=by
 have h:mainGlobals<s.heap.objs.size:=(I.mod.glob.keeps I.bk).lt;exact Nat.lt_trans (by decide) h
theorem ya {Q:Value->Shared->Prop} (hu:A.units+1<cLine) (I:Inv X pins σ H s) (g:nS H a y (some v)) (ry:RelV y u) (h:∀w' s',Inv X pins σ H s'->RelV v w'->Q w' s'):
  wpAny (model X.prog X.w) A (getItem (.ref a) u) Q E s:=by
 rcases g with⟨kvs,k,e,ey,l⟩|⟨kvs,k,b,e,ey,eb,l⟩
 ·subst ey;let⟨z,hd,vs,rel,dd⟩:=fQ I.ah e;let⟨w',hw,rw'⟩:=dP.some_of (v:=v) (o:=valueAt vs k) (by rw[l];exact rel.val k);exact wpAny_getItem_of (gN ry) dd.mapOf hw (h w' _ (I.tok _) rw')
 ·subst ey;cases (show u=Value.ref b from ry);let⟨z,hd,xs,rel,dd⟩:=fS I.ah e;let⟨w',hw,rw'⟩:=dP.some_of (v:=v) (o:=(atKey xs k).map (·.2)) (by rw[l];exact rel.val k);let⟨p,hp,hp2⟩:=aab.mp hw;refine wpAny_getItem_heap (abF hu) (fF I.ah eb) dd hp ?_;rw[hp2];exact h w' _ (I.tok _) rw'
theorem ki {h':Heap} {t':Nat} {ob:HO} (I:Inv X pins σ H s) (mu:xp (H a)) (hs:Heap.SameBut a s.heap h') (he:∃q,h'.get? a=some q) (new:aL X.prog X.w (upd H a ob) h' a ob):
  Inv X pins σ (upd H a ob) {s with heap:=h',toks:=t'}:=
 I.write (x:=a) (e:=a) mu (.inl rfl) (λb q hb z=>(hs.2 b hb).trans z) he new
theorem yk {P:Program} {w:World} {H':Hp} {h':Heap} {kvs:List (Key×V)} {vs:List (Key×Value)} (z:kvs.length<=sizeLine) (hd:(a==sysModules)=false) (rel:KV kvs vs) (dd:h'.DictOf (aJ P w) a vs):
  aL P w H' h' a (.dK kvs):=⟨z,hd,vs,rel,dd⟩
theorem jP {H':Hp} {Q:Unit->Shared->Prop} (hu:A.units+1<cLine) (I:Inv X pins σ H s) (g:fI H a y v H') (ry:RelV y u) (rv:RelV v r) (h:∀s',Inv X pins σ H' s'->Q () s'):
  wpAny (model X.prog X.w) A (setItem (.ref a) u r) Q E s:=by
 rcases g with⟨kvs,k,e,ey,l,eH⟩|⟨kvs,k,b,e,ey,eb,l,eH⟩
 ·subst ey eH;let⟨z,hd,vs,rel,dd⟩:=Cw I.ah e
  have hz:vs.length<=sizeLine:=by rw[←rel.length];exact z
  have hl:(putK kvs k v).length<=sizeLine:=by have:=eY kvs k v;lia
  refine wpAny_setItem_pairs (hsz:=hz) (gN ry) dd λh' dd' hs=>h _ ?_
  have he:∃q,h'.get? a=some q:=let ⟨q,_,_,hq,_⟩:=dd';⟨q,hq⟩
  exact ki I (by rw[e];exact True.intro) hs he (yk hl hd (rel.put k rv) dd')
 ·subst ey eH;cases (show u=Value.ref b from ry);let⟨z,hd,xs,rel,dd⟩:=BV I.ah e
  have hz:xs.length<=sizeLine:=by rw[←abg rel];exact z
  have hl:(putK kvs k v).length<=sizeLine:=by have:=eY kvs k v;lia
  refine wpAny_setItem_heap (hsz:=hz) (abF hu) (fF I.ah eb) dd λh' dd' hs=>h _ ?_;let⟨q,es,ep,hq,h2,h3,h4,_,h5⟩:=dd';refine ki I (by rw[e];exact True.intro) hs ⟨q,hq⟩ ⟨hl,hd,_,(rel.put k eb rv).keeps λc ys ec=> ?_,q,es,ep,hq,h2,h3,h4,h5⟩;rw[aq (qp ec e (λz=>nomatch z))];exact ec
end
section
variable {X:Cx} {pins:List (Addr×Obj)} {σ:St} {H:Hp} {s:Shared} {a:Addr} {kvs:List (Key×V)} {k:Key} {u:Value} {A:Around} {E:Value->Shared->Prop}
theorem JA {Q:Value->Shared->Prop} (I:Inv X pins σ H s) (e:Rd H a (.dK kvs)) (h:∀t s',Inv X pins σ H s'->Q (.int kvs.length t) s'):wpAny (model X.prog X.w) A (call (.builtin "len") [.ref a]) Q E s:=by
 let⟨z,hd,vs,rel,dd⟩:=fQ I.ah e;refine call_len_dict hd dd (by rw[←rel.length];rw[abE] at z;lia) ?_;rw[←rel.length];exact h _ _ (I.tok _)
end
theorem tP {X:Cx} {σ:St} {H:Hp} {s:Shared} {a:Addr} {y:V} {o:Option V} (I:Inv X pins σ H s) (g:nS H a y o):s.TypeIs (.ref a) "dict":=by
 rcases g with⟨kvs,k,e,_,_⟩|⟨kvs,k,b,e,_,_,_⟩
 ·let⟨_,_,vs,_,dd⟩:=fQ I.ah e;exact dd.typeIs
 ·let⟨_,_,xs,_,dd⟩:=fS I.ah e;exact dd.typeIs
section
variable {X:Cx} {o i e value:Expr} {pos pos' tpos:Pos} {td ty tv:TE}
end
theorem sU {P:Program} {w:World} {H:Hp} (h:Heap) (hb:sysModules<h.objs.size):aL P w H (h.push {cls:= .type "dict",data:= .dict #[]}) h.objs.size (.dK []):=
 ⟨aaV _,beq_eq_false_iff_ne.mpr (Ne.symm (aau hb)),[], .nil,Heap.DictOf.new h⟩
theorem zR {P:Program} {w:World} {H:Hp} (h:Heap) (hb:sysModules<h.objs.size):aL P w H (h.push {cls:= .type "dict",data:= .dict #[]}) h.objs.size (.dT []):=
 ⟨aaV _,beq_eq_false_iff_ne.mpr (Ne.symm (aau hb)),[], .nil,_,#[],0,aai _ rfl,⟨rfl,rfl,rfl⟩,rfl,rfl,acp⟩
def ET:TE:=λ_ H Q=>∀p,H p=none->Q (.ref p) (upd H p (.dK []))
section
variable {X:Cx} {pos:Pos}
theorem zw:PE X (.Dict [] [] pos) ET:=λpins s σ H Q I h=>
 wpAny_Dict_empty ⟨.ref s.heap.objs.size,_,I.laid (a:=s.heap.objs.size) (o:= .dK []) (t':=s.toks) (λ_ _ q=>aad _ q) (aah _) (sU s.heap I.big),rfl,h _ (I.ah.fresh (aah _))⟩
end
structure M1 (X:Cx) (o:Expr) (m:Str) (apos:Pos) (e:Expr) (cpos:Pos):Prop where
 base:attributeBase o m X.env (eval o X.env)=eval o X.env
 few:((backTo cpos (starEach [e] X.env)).all (λx=> !x.1)&&(backToKw cpos (keywordEach [] X.env)).all (λx=>x.1.isSome)
  &&decide (([e]:List Expr).length+([]:List Keyword).length+(if ([]:List Keyword).isEmpty then 0 else 1)<30))=true
 line:(apos.endLine==cpos.line)=true
 trees:backTo cpos (starEach [e] X.env)=[(false,eval e X.env)]
structure M2 (X:Cx) (o:Expr) (m:Str) (apos:Pos) (e f:Expr) (cpos:Pos):Prop where
 base:attributeBase o m X.env (eval o X.env)=eval o X.env
 few:((backTo cpos (starEach [e,f] X.env)).all (λx=> !x.1)&&(backToKw cpos (keywordEach [] X.env)).all (λx=>x.1.isSome)
  &&decide (([e,f]:List Expr).length+([]:List Keyword).length+(if ([]:List Keyword).isEmpty then 0 else 1)<30))=true
 line:(apos.endLine==cpos.line)=true
 trees:backTo cpos (starEach [e,f] X.env)=[(false,eval e X.env),(false,eval f X.env)]
def BQ (H:Hp) (a:Addr):Prop:=(∃kvs,Rd H a (.dK kvs))∨∃kvs,Rd H a (.dT kvs)
theorem wR {X:Cx} {σ:St} {H:Hp} {s:Shared} {a:Addr} (I:Inv X pins σ H s) (d:BQ H a):
  s.TypeIs (.ref a) "dict"/\(∀b,Value.ref a= .ref b->∃ob,s.heap.get? b=some ob/\ob.dict=none)/\(a==sysModules)=false:=by
 rcases d with⟨kvs,e⟩|⟨kvs,e⟩
 ·let⟨_,hd,vs,_,dd⟩:=fQ I.ah e;refine⟨dd.typeIs,λb q=> ?_,hd⟩;cases q;let⟨ob,_,_,h1,h2,_⟩:=dd;exact⟨ob,h1,h2.2.1⟩
 ·let⟨_,hd,xs,_,dd⟩:=fS I.ah e;refine⟨dd.typeIs,λb q=> ?_,hd⟩;cases q;let⟨ob,_,_,h1,h2,_⟩:=dd;exact⟨ob,h1,h2.2.1⟩
section
variable {X:Cx} {pins:List (Addr×Obj)} {σ:St} {H:Hp} {s:Shared} {a:Addr} {y d:V} {u r:Value} {o:Option V} {A:Around} {E:Value->Shared->Prop}
theorem E9 {Q:Value->Shared->Prop} (hu:A.units+1<cLine) (I:Inv X pins σ H s) (g:nS H a y o) (ry:RelV y u) (h:∀w' s',Inv X pins σ H s'->RelV (o.getD .non) w'->Q w' s'):
  wpAny (model X.prog X.w) A (call (.builtin "dict.get") [.ref a,u]) Q E s:=by
 rcases g with⟨kvs,k,e,ey,l⟩|⟨kvs,k,b,e,ey,eb,l⟩
 ·subst ey;let⟨z,hd,vs,rel,dd⟩:=fQ I.ah e;refine abS aaO dd.typeIs aa0 (abV _ _) (meets_dict_get (aJ X.prog X.w) a (gN ry) hd) ⟨_,dd.mapOf,h _ _ (I.tok _) ?_⟩;rw[l];exact(rel.val k).getD rfl
 ·subst ey;cases (show u=Value.ref b from ry);let⟨z,hd,xs,rel,dd⟩:=fS I.ah e;refine abS aaO dd.typeIs aa0 (abV _ _) (meetsH_dict_get (tupleKind (aJ X.prog X.w)) a b hd) ⟨abF hu,k,xs,fF I.ah eb,dd,h _ _ (I.tok _) ?_⟩;rw[l];exact(rel.val k).getD rfl
theorem Hl {Q:Value->Shared->Prop} (hu:A.units+1<cLine) (I:Inv X pins σ H s) (g:nS H a y o) (ry:RelV y u) (rd:RelV d r) (h:∀w' s',Inv X pins σ H s'->RelV (o.getD d) w'->Q w' s'):
  wpAny (model X.prog X.w) A (call (.builtin "dict.get") [.ref a,u,r]) Q E s:=by
 rcases g with⟨kvs,k,e,ey,l⟩|⟨kvs,k,b,e,ey,eb,l⟩
 ·subst ey;let⟨z,hd,vs,rel,dd⟩:=fQ I.ah e;refine abS aaO dd.typeIs aa0 (abW _ _ _) (meets_dict_get_default (aJ X.prog X.w) a (gN ry) hd r) ⟨_,dd.mapOf,h _ _ (I.tok _) ?_⟩;rw[l];exact(rel.val k).getD rd
 ·subst ey;cases (show u=Value.ref b from ry);let⟨z,hd,xs,rel,dd⟩:=fS I.ah e;refine abS aaO dd.typeIs aa0 (abW _ _ _) (meetsH_dict_get_default (tupleKind (aJ X.prog X.w)) a b hd r) ⟨abF hu,k,xs,fF I.ah eb,dd,h _ _ (I.tok _) ?_⟩;rw[l];exact(rel.val k).getD rd
end
section
variable {X:Cx} {o e f:Expr} {apos cpos:Pos} {td ty tx:TE}
end
section
variable {X:Cx} {pins:List (Addr×Obj)} {σ:St} {H:Hp} {s:Shared} {a:Addr} {kvs:List (Key×V)} {A:Around} {E:Value->Shared->Prop}
end
section
variable {X:Cx} {pins:List (Addr×Obj)} {σ:St} {H:Hp} {s:Shared} {a:Addr} {y:V} {u:Value} {A:Around} {E:Value->Shared->Prop}
end
end L2
namespace SortT
open PySem PySem.W PyProof.Rows
noncomputable def ai {α:Type} (lt:Nat->Nat->Bool):KasT α->α
 | .ret a=>a
 | .ask i j k=>ai lt (k (lt i j))
theorem dY {α β:Type} (lt:Nat->Nat->Bool) (f:α->KasT β):∀t:KasT α,ai lt (t.bind f)=ai lt (f (ai lt t))
 | .ret _=>rfl
 | .ask i j k=>dY lt f (k (lt i j))
def bM {α:Type} (lt:Nat->Nat->Bool) (n:Nat):KasT α->Prop
 | .ret _=>True
 | .ask i j k=>i<n/\j<n/\bM lt n (k (lt i j))
theorem bM.bind {α β:Type} {lt:Nat->Nat->Bool} {n:Nat} {f:α->KasT β}:∀{t:KasT α},bM lt n t->bM lt n (f (ai lt t))->bM lt n (t.bind f)
 | .ret a,_,hf=>hf
 | .ask i j k,h,hf=>⟨h.1,h.2.1,bM.bind h.2.2 hf⟩
theorem wp_run {α:Type} {n:Nat} {lt:Nat->Nat->Bool} {cmp:Nat->Nat->(Bool->Shared->Prop)->Shared->Prop} {s:Shared} (hc:∀i j C,i<n->j<n->C (lt i j) s->cmp i j C s) {Q:α->Shared->Prop}:∀{t:KasT α},bM lt n t->Q (ai lt t) s->t.kasWp cmp Q s
 | .ret _,_,q=>q
 | .ask i j k,h,q=>hc i j _ h.1 h.2.1 (wp_run hc h.2.2 q)
noncomputable abbrev g (p:Array Nat) (i:Nat):Nat:=p.getD i 0
theorem jq {p:Array Nat} {i:Nat}:g p i=(p[i]?).getD 0:=by
 unfold g;rw[Array.getD_eq_getD_getElem?]
def j9 (N:Nat) (p:Array Nat):Prop:=∀i,g p i<N
theorem j9.of {N:Nat} {p:Array Nat} (h0:0<N) (h:∀x∈p,x<N):j9 N p:=λi=>by
 rw[jq]
 cases e:p[i]? with
 |none=>exact h0
 |some x=>exact h x (Array.mem_of_getElem? e)
theorem j9.perm {N:Nat} {p q:Array Nat} (h0:0<N) (h:∀x∈p,x<N) (pm:q.Perm p):j9 N q:=j9.of h0 λx hx=>h x (pm.mem_iff.mp hx)
theorem eZ {p:Array Nat} {i j:Nat} (hj:j<=p.size) (k:Nat):g (kas_rev p i j) k=if i<=k/\k<j then g p (i+j-1-k) else g p k:=by
 rw[jq];unfold kas_rev;rw[getElem?_mirror_all hj];split
 ·rw[jq]
 ·rw[jq]
theorem Ia {p:Array Nat} {s d:Nat} (hs:s<p.size) (hd:d<=s) (k:Nat):g (bubble p s d) k=if k=s-d then g p s else if s-d<k/\k<=s then g p (k-1) else g p k:=by
 have e:(bubble p s d)[k]?=_:=getElem?_bubble hs d hd k;have a1:g (bubble p s d) k=((bubble p s d)[k]?).getD 0:=jq;have a2:g p s=(p[s]?).getD 0:=jq;have a3:g p (k-1)=(p[k-1]?).getD 0:=jq;have a4:g p k=(p[k]?).getD 0:=jq;rw[a1,e,a2,a3,a4]
 by_cases c:k=s-d
 ·rw[if_pos c,if_pos c]
 ·rw[if_neg c,if_neg c]
  by_cases c2:s-d<k/\k<=s
  ·rw[if_pos c2,if_pos c2]
  ·rw[if_neg c2,if_neg c2]
theorem ji {p:Array Nat} {i j:Nat}:(kas_rev p i j).size=p.size:=mirror_size ..
theorem di {p:Array Nat} {i j:Nat}:(kas_rev p i j).Perm p:=mirror_perm ..
structure Ord (lt:Nat->Nat->Bool):Prop where
 tr:∀a b c,lt b a=false->lt c b=false->lt c a=false
 as:∀a b,lt a b=true->lt b a=false
section
variable {lt:Nat->Nat->Bool} (O:Ord lt)
include O
theorem Ord.rf (a:Nat):lt a a=false:=by
 cases e:lt a a with
 |false=>rfl
 |true=>exact(O.as a a e).symm.trans e|>.symm▸rfl
omit O
def dS (lt:Nat->Nat->Bool) (p:Array Nat) (m:Nat):Prop:=∀i j,i<=j->j<m->lt (g p j) (g p i)=false
def dE (lt:Nat->Nat->Bool) (p:Array Nat) (m:Nat):Prop:=∀i j,i<=j->j<m->lt (g p i) (g p j)=false
def xJ (lt:Nat->Nat->Bool) (p:Array Nat) (a b:Nat):Prop:=∀i j,a<=i->i<b->a<=j->j<b->lt (g p i) (g p j)=false
include O
theorem dS.one {p:Array Nat}:dS lt p 1:=λi j h1 h2=>by
 have:i=j:=by lia
 rw[this];exact O.rf _
theorem dS.up {p:Array Nat} {m:Nat} (h:dS lt p m) (hm:1<=m) (c:lt (g p m) (g p (m-1))=false):dS lt p (m+1):=λi j h1 h2=>by
 by_cases e:j=m
 ·subst e
  by_cases e2:i=j
  ·rw[e2];exact O.rf _
  ·exact O.tr _ _ _ (h i (j-1) (by lia) (by lia)) c
 ·exact h i j h1 (by lia)
theorem sj {p:Array Nat}:∀(f n:Nat),1<=n->dS lt p n->n<=ai lt (kas_asc p f n)/\ai lt (kas_asc p f n)<=n+f/\dS lt p (ai lt (kas_asc p f n))/\(ai lt (kas_asc p f n)=n+f∨lt (g p (ai lt (kas_asc p f n))) (g p (ai lt (kas_asc p f n)-1))=true)
 |0,n,_,h=>⟨aah _,aah _,h, .inl rfl⟩
 |f+1,n,h1,h=>by
  have e:ai lt (kas_asc p (f+1) n)=ai lt (if lt (g p n) (g p (n-1))=true then .ret n else kas_asc p f (n+1)):=rfl;rw[e]
  by_cases c:lt (g p n) (g p (n-1))=true
  ·rw[if_pos c];exact⟨aah _,by show n<=n+(f+1);lia,h, .inr c⟩
  ·rw[if_neg c];let⟨a1,a2,a3,a4⟩:=sj f (n+1) (by lia) (dS.up O h h1 (by simpa using c));exact⟨by lia,by lia,a3,a4.imp (λz=>by lia) id⟩
omit O in
theorem ot {p:Array Nat} {N:Nat} (b:j9 N p):∀(f n:Nat),bM lt N (kas_asc p f n)
 |0,n=>trivial
 |f+1,n=>⟨b _,b _,by
  show bM lt N (if lt (g p n) (g p (n-1))=true then .ret n else kas_asc p f (n+1));split
  ·trivial
  ·exact ot b f (n+1)⟩
theorem dE.up {p:Array Nat} {m:Nat} (h:dE lt p m) (hm:1<=m) (c:lt (g p (m-1)) (g p m)=false):dE lt p (m+1):=λi j h1 h2=>by
 by_cases e:j=m
 ·subst e
  by_cases e2:i=j
  ·rw[e2];exact O.rf _
  ·exact O.tr _ _ _ c (h i (j-1) (by lia) (by lia))
 ·exact h i j h1 (by lia)
theorem dE.turn {p:Array Nat} {a m:Nat} (hm:m<=p.size) (h:dE lt p m) (q:xJ lt p a m):dE lt (kas_rev p a m) m:=λi j h1 h2=>by
 rw[eZ hm,eZ hm]
 by_cases ci:a<=i
 ·rw[if_pos ⟨ci,by lia⟩,if_pos ⟨by lia,h2⟩];exact q _ _ (by lia) (by lia) (by lia) (by lia)
 ·rw[if_neg (by lia)]
  by_cases cj:a<=j
  ·rw[if_pos ⟨cj,h2⟩];exact h _ _ (by lia) (by lia)
  ·rw[if_neg (by lia)];exact h _ _ h1 h2
theorem iL:∀(f:Nat) (p:Array Nat) (n q:Nat),n+f<=p.size->q+1<=n->dE lt p n->xJ lt p (n-(q+1)) n->
  (ai lt (kas_desc f p n q)).1.Perm p/\n<=(ai lt (kas_desc f p n q)).2.1/\(ai lt (kas_desc f p n q)).2.1<=n+f/\(ai lt (kas_desc f p n q)).2.2+1<=(ai lt (kas_desc f p n q)).2.1/\dE lt (ai lt (kas_desc f p n q)).1 (ai lt (kas_desc f p n q)).2.1/\
   xJ lt (ai lt (kas_desc f p n q)).1 ((ai lt (kas_desc f p n q)).2.1-((ai lt (kas_desc f p n q)).2.2+1)) (ai lt (kas_desc f p n q)).2.1
 |0,p,n,q,hz,hq,h,he=>⟨.refl _,aah _,aah _,hq,h,he⟩
 |f+1,p,n,q,hz,hq,h,he=>by
  have one:∀(p:Array Nat),xJ lt p (n+1-(0+1)) (n+1):=λp i j a1 a2 a3 a4=>by
   have e1:i=n:=by lia
   have e2:j=n:=by lia
   rw[e1,e2];exact O.rf _
  have e:ai lt (kas_desc (f+1) p n q)=ai lt (if lt (g p n) (g p (n-1))=true then (if q>0 then kas_desc f (kas_rev p (n-(q+1)) n) (n+1) 0 else kas_desc f p (n+1) 0)
    else .ask (g p (n-1)) (g p n) λd=>if d=true then .ret (p,n,q) else kas_desc f p (n+1) (q+1)):=rfl
  rw[e]
  by_cases c:lt (g p n) (g p (n-1))=true
  ·rw[if_pos c];have c':=O.as _ _ c
   by_cases c2:q>0
   ·rw[if_pos c2]
    have hn:n<=p.size:=by lia
    have d1:=dE.turn O hn h he
    have gn:g (kas_rev p (n-(q+1)) n) n=g p n:=by
     rw[eZ hn,if_neg (by lia)]
    have gm:g (kas_rev p (n-(q+1)) n) (n-1)=g p (n-(q+1)):=by
     rw[eZ hn,if_pos (by lia)];congr 1;lia
    have d2:dE lt (kas_rev p (n-(q+1)) n) (n+1):=dE.up O d1 (by lia) (by
     rw[gn,gm]
     exact O.tr _ _ _ c' (he _ _ (by lia) (by lia) (by lia) (by lia)))
    let⟨a1,a2,a3,a4,a5,a6⟩:=iL f (kas_rev p (n-(q+1)) n) (n+1) 0 (by rw[ji];lia) (by lia) d2 (one _);exact⟨a1.trans di,by lia,by lia,a4,a5,a6⟩
   ·rw[if_neg c2];let⟨a1,a2,a3,a4,a5,a6⟩:=iL f p (n+1) 0 (by lia) (by lia) (dE.up O h (by lia) c') (one _);exact⟨a1,by lia,by lia,a4,a5,a6⟩
  ·rw[if_neg c]
   have c0:lt (g p n) (g p (n-1))=false:=by simpa using c
   show (ai lt (if lt (g p (n-1)) (g p n)=true then .ret (p,n,q) else kas_desc f p (n+1) (q+1))).1.Perm p/\_;have e3:ai lt (KasT.ask (g p (n-1)) (g p n) λd=>if d=true then KasT.ret (p,n,q) else kas_desc f p (n+1) (q+1))=ai lt (if lt (g p (n-1)) (g p n)=true then .ret (p,n,q) else kas_desc f p (n+1) (q+1)):=rfl;rw[e3]
   by_cases d:lt (g p (n-1)) (g p n)=true
   ·rw[if_pos d];exact⟨.refl _,aah _,by show n<=n+(f+1);lia,hq,h,he⟩
   ·rw[if_neg d]
    have d0:lt (g p (n-1)) (g p n)=false:=by simpa using d
    let⟨a1,a2,a3,a4,a5,a6⟩:=iL f p (n+1) (q+1) (by lia) (by lia) (dE.up O h (by lia) d0) (λi j b1 b2 b3 b4=>by
     by_cases ei:i=n
     ·by_cases ej:j=n
      ·rw[ei,ej];exact O.rf _
      ·rw[ei];exact O.tr _ _ _ (he j (n-1) (by lia) (by lia) (by lia) (by lia)|>λ_=>he (n-1) j (by lia) (by lia) (by lia) (by lia)) c0
     ·by_cases ej:j=n
      ·rw[ej];exact O.tr _ _ _ d0 (he i (n-1) (by lia) (by lia) (by lia) (by lia))
      ·exact he i j (by lia) (by lia) (by lia) (by lia))
    exact⟨a1,by lia,by lia,a4,a5,a6⟩
omit O in
theorem jd {N:Nat} (h0:0<N):∀(f:Nat) (p:Array Nat) (n q:Nat),(∀x∈p,x<N)->bM lt N (kas_desc f p n q)
 |0,p,n,q,_=>trivial
 |f+1,p,n,q,hb=>by
  have b:=j9.of h0 hb;refine⟨b _,b _, ?_⟩
  show bM lt N (if lt (g p n) (g p (n-1))=true then (if q>0 then kas_desc f (kas_rev p (n-(q+1)) n) (n+1) 0 else kas_desc f p (n+1) 0)
    else .ask (g p (n-1)) (g p n) λd=>if d=true then .ret (p,n,q) else kas_desc f p (n+1) (q+1))
  split
  ·split
   ·exact jd h0 f _ _ _ λx hx=>hb x (di.mem_iff.mp hx)
   ·exact jd h0 f _ _ _ hb
  ·refine⟨b _,b _, ?_⟩;show bM lt N (if lt (g p (n-1)) (g p n)=true then .ret (p,n,q) else kas_desc f p (n+1) (q+1));split
   ·trivial
   ·exact jd h0 f _ _ _ hb
theorem ve {p:Array Nat} {n nrem:Nat} (h1:1<=n) (hn:n<=nrem) (hz:nrem<=p.size) (h:dE lt p n):(ai lt (kas_tail3 n nrem p)).2.Perm p/\1<=(ai lt (kas_tail3 n nrem p)).1/\(ai lt (kas_tail3 n nrem p)).1<=nrem/\dS lt (ai lt (kas_tail3 n nrem p)).2 (ai lt (kas_tail3 n nrem p)).1:=by
 unfold kas_tail3;rw[dY]
 have s:dS lt (kas_rev p 0 n) n:=λi j a1 a2=>by
  rw[eZ (by lia),eZ (by lia),if_pos ⟨by lia,a2⟩,if_pos ⟨by lia,by lia⟩];exact h _ _ (by lia) (by lia)
 let⟨a1,a2,a3,_⟩:=sj O (p:=kas_rev p 0 n) (nrem-n) n h1 s;exact⟨di,by show 1<=ai lt (kas_asc (kas_rev p 0 n) (nrem-n) n);lia,by show ai lt (kas_asc (kas_rev p 0 n) (nrem-n) n)<=nrem;lia,a3⟩
theorem kO {p:Array Nat} {n nrem:Nat} (h1:1<=n) (hn:n+1<=nrem) (hz:nrem<=p.size) (h:dE lt p (n+1)):
  (ai lt (kas_descPart n nrem p)).2.Perm p/\1<=(ai lt (kas_descPart n nrem p)).1/\(ai lt (kas_descPart n nrem p)).1<=nrem/\dS lt (ai lt (kas_descPart n nrem p)).2 (ai lt (kas_descPart n nrem p)).1:=by
 unfold kas_descPart;rw[dY]
 let⟨a1,a2,a3,a4,a5,a6⟩:=iL O (nrem-(n+1)) p (n+1) 0 (by lia) (by lia) h (λi j b1 b2 b3 b4=>by
  have e1:i=n:=by lia
  have e2:j=n:=by lia
  rw[e1,e2]
  exact O.rf _)
 generalize ai lt (kas_desc (nrem-(n+1)) p (n+1) 0)=r at a1 a2 a3 a4 a5 a6⊢;have sz:r.1.size=p.size:=a1.size_eq;split
 ·let⟨c1,c2,c3,c4⟩:=ve O (p:=kas_rev r.1 (r.2.1-(r.2.2+1)) r.2.1) (n:=r.2.1) (nrem:=nrem) (by lia) (by lia) (by rw[ji];lia) (dE.turn O (by lia) a5 a6);exact⟨c1.trans (di.trans a1),c2,c3,c4⟩
 ·let⟨c1,c2,c3,c4⟩:=ve O (p:=r.1) (n:=r.2.1) (nrem:=nrem) (by lia) (by lia) (by lia) a5;exact⟨c1.trans a1,c2,c3,c4⟩
omit O in
theorem tD {p:Array Nat} {n nrem N:Nat} (h0:0<N) (hb:∀x∈p,x<N):bM lt N (kas_tail3 n nrem p):=bM.bind (ot (j9.perm h0 hb di) _ _) trivial
theorem jF {p:Array Nat} {n nrem N:Nat} (h0:0<N) (hb:∀x∈p,x<N) (h1:1<=n) (hn:n+1<=nrem) (hz:nrem<=p.size) (h:dE lt p (n+1)):bM lt N (kas_descPart n nrem p):=by
 unfold kas_descPart;refine bM.bind (jd h0 _ _ _ _ hb) ?_
 let⟨a1,_⟩:=iL O (nrem-(n+1)) p (n+1) 0 (by lia) (by lia) h (λi j b1 b2 b3 b4=>by
  have e1:i=n:=by lia
  have e2:j=n:=by lia
  rw[e1,e2]
  exact O.rf _)
 split
 ·exact tD h0 λx hx=>hb x (a1.mem_iff.mp (di.mem_iff.mp hx))
 ·exact tD h0 λx hx=>hb x (a1.mem_iff.mp hx)
theorem AA {p:Array Nat} {nrem N:Nat} (h0:0<N) (hb:∀x∈p,x<N) (h1:1<=nrem) (hz:nrem<=p.size):bM lt N (kas_count nrem p)/\(ai lt (kas_count nrem p)).2.Perm p/\1<=(ai lt (kas_count nrem p)).1/\(ai lt (kas_count nrem p)).1<=nrem/\dS lt (ai lt (kas_count nrem p)).2 (ai lt (kas_count nrem p)).1:=by
 have b:=j9.of h0 hb;let⟨a1,a2,a3,a4⟩:=sj O (p:=p) (nrem-1) 1 (aah _) (dS.one O)
 have key:bM lt N (if (ai lt (kas_asc p (nrem-1) 1)==nrem)=true then KasT.ret (ai lt (kas_asc p (nrem-1) 1),p) else if ai lt (kas_asc p (nrem-1) 1)>1 then KasT.ask (g p 0) (g p (ai lt (kas_asc p (nrem-1) 1)-1)) λc=>if c=true then .ret (ai lt (kas_asc p (nrem-1) 1),p) else kas_descPart (ai lt (kas_asc p (nrem-1) 1)) nrem (kas_rev p 0 (ai lt (kas_asc p (nrem-1) 1)))
   else kas_descPart (ai lt (kas_asc p (nrem-1) 1)) nrem p)/\∀r,r=ai lt (if (ai lt (kas_asc p (nrem-1) 1)==nrem)=true then KasT.ret (ai lt (kas_asc p (nrem-1) 1),p) else if ai lt (kas_asc p (nrem-1) 1)>1 then KasT.ask (g p 0) (g p (ai lt (kas_asc p (nrem-1) 1)-1)) λc=>if c=true then .ret (ai lt (kas_asc p (nrem-1) 1),p) else kas_descPart (ai lt (kas_asc p (nrem-1) 1)) nrem (kas_rev p 0 (ai lt (kas_asc p (nrem-1) 1)))
   else kas_descPart (ai lt (kas_asc p (nrem-1) 1)) nrem p)->r.2.Perm p/\1<=r.1/\r.1<=nrem/\dS lt r.2 r.1:=by
  generalize ai lt (kas_asc p (nrem-1) 1)=m at a1 a2 a3 a4⊢;split
  ·exact⟨trivial,λr hr=>by subst hr;exact⟨.refl _,a1,by show m<=nrem;lia,a3⟩⟩
  ·rename_i hne;have hm:m≠nrem:=λe=>hne (by simpa using e);have hlt:lt (g p m) (g p (m-1))=true:=a4.resolve_left (by lia);split
   ·by_cases c:lt (g p 0) (g p (m-1))=true
    ·refine⟨⟨b _,b _,by show bM lt N (if lt (g p 0) (g p (m-1))=true then _ else _);rw[if_pos c];trivial⟩,λr hr=> ?_⟩;have e:r=ai lt (if lt (g p 0) (g p (m-1))=true then KasT.ret (m,p) else kas_descPart m nrem (kas_rev p 0 m)):=hr;rw[if_pos c] at e;subst e;exact⟨.refl _,a1,by show m<=nrem;lia,a3⟩
    ·have c0:lt (g p 0) (g p (m-1))=false:=by simpa using c
     have hmz:m<=p.size:=by lia
     have eqs:xJ lt p 0 m:=λi j _ b2 _ b4=>by
      have x1:lt (g p (m-1)) (g p i)=false:=a3 i (m-1) (by lia) (by lia);have x2:lt (g p j) (g p 0)=false:=a3 0 j (by lia) b4;have y1:lt (g p 0) (g p j)=false:=O.tr _ _ _ (a3 j (m-1) (by lia) (by lia)) c0;have y2:lt (g p i) (g p 0)=false:=a3 0 i (by lia) b2;exact O.tr _ _ _ y1 y2
     have d1:dE lt (kas_rev p 0 m) m:=λi j b1 b2=>by
      rw[eZ hmz,eZ hmz,if_pos ⟨by lia,by lia⟩,if_pos ⟨by lia,b2⟩];exact eqs _ _ (by lia) (by lia) (by lia) (by lia)
     have d2:dE lt (kas_rev p 0 m) (m+1):=dE.up O d1 (by lia) (by
      rw[eZ hmz,eZ hmz,if_pos ⟨by lia,by lia⟩,if_neg (by lia)]
      exact O.tr _ _ _ (O.as _ _ hlt) (eqs _ _ (by lia) (by lia) (by lia) (by lia)))
     have hb':∀x∈kas_rev p 0 m,x<N:=λx hx=>hb x (di.mem_iff.mp hx);refine⟨⟨b _,b _,by show bM lt N (if lt (g p 0) (g p (m-1))=true then _ else _);rw[if_neg c];exact jF O h0 hb' (by lia) (by lia) (by rw[ji];lia) d2⟩,λr hr=> ?_⟩;have e:r=ai lt (if lt (g p 0) (g p (m-1))=true then KasT.ret (m,p) else kas_descPart m nrem (kas_rev p 0 m)):=hr;rw[if_neg c] at e;subst e;let⟨z1,z2,z3,z4⟩:=kO O (p:=kas_rev p 0 m) (n:=m) (nrem:=nrem) (by lia) (by lia) (by rw[ji];lia) d2;exact⟨z1.trans di,z2,z3,z4⟩
   ·have m1:m=1:=by lia
    have d2:dE lt p (m+1):=by
     subst m1
     exact dE.up O (λi j b1 b2=>by
      have:i=j:=by lia
      rw[this]
      exact O.rf _) (aah _) (O.as _ _ hlt)
    refine⟨jF O h0 hb (by lia) (by lia) hz d2,λr hr=> ?_⟩;subst hr;exact kO O (by lia) (by lia) hz d2
 have e:ai lt (kas_count nrem p)=_:=dY lt _ (kas_asc p (nrem-1) 1);refine⟨bM.bind (ot b _ _) key.1, ?_⟩;rw[e];exact key.2 _ rfl
theorem l9 {p:Array Nat} {k N:Nat} (b:j9 N p) (s:dS lt p k):∀(f l r:Nat),l<=r->r<=k->r-l<=f->(∀i,i<l->lt (g p k) (g p i)=false)->(∀i,r<=i->i<k->lt (g p k) (g p i)=true)->
  bM lt N (kas_place p k f l r)/\ai lt (kas_place p k f l r)<=k/\(∀i,i<ai lt (kas_place p k f l r)->lt (g p k) (g p i)=false)/\∀i,ai lt (kas_place p k f l r)<=i->i<k->lt (g p k) (g p i)=true
 |0,l,r,h1,h2,h3,h4,h5=>by
  have:l=r:=by lia
  subst this;exact⟨trivial,h2,h4,h5⟩
 |f+1,l,r,h1,h2,h3,h4,h5=>by
  unfold kas_place
  by_cases c:l≥r
  ·rw[if_pos c]
   have:l=r:=by lia
   subst this;exact⟨trivial,h2,h4,h5⟩
  ·rw[if_neg c];have e:ai lt (KasT.ask (g p k) (g p ((l+r)/2)) λc=>if c=true then kas_place p k f l ((l+r)/2) else kas_place p k f ((l+r)/2+1) r)=ai lt (if lt (g p k) (g p ((l+r)/2))=true then kas_place p k f l ((l+r)/2) else kas_place p k f ((l+r)/2+1) r):=rfl;have e2:bM lt N (KasT.ask (g p k) (g p ((l+r)/2)) λc=>if c=true then kas_place p k f l ((l+r)/2) else kas_place p k f ((l+r)/2+1) r)=(g p k<N/\g p ((l+r)/2)<N/\bM lt N (if lt (g p k) (g p ((l+r)/2))=true then kas_place p k f l ((l+r)/2) else kas_place p k f ((l+r)/2+1) r)):=rfl;rw[e,e2]
   by_cases d:lt (g p k) (g p ((l+r)/2))=true
   ·rw[if_pos d]
    let⟨z1,z2,z3,z4⟩:=l9 b s f l ((l+r)/2) (by lia) (by lia) (by lia) h4 (λi b1 b2=>by
     cases q:lt (g p k) (g p i) with
     |true=>rfl
     |false=>
      have x:=s ((l+r)/2) i b1 b2;have y:=O.tr _ _ _ x q;rw[d] at y
      cases y)
    exact⟨⟨b _,b _,z1⟩,z2,z3,z4⟩
   ·rw[if_neg d]
    have d0:lt (g p k) (g p ((l+r)/2))=false:=by simpa using d
    let⟨z1,z2,z3,z4⟩:=l9 b s f ((l+r)/2+1) r (by lia) h2 (by lia) (λi b1=>O.tr _ _ _ (s i ((l+r)/2) (by lia) (by lia)) d0) h5;exact⟨⟨b _,b _,z1⟩,z2,z3,z4⟩
theorem wV {N:Nat} (h0:0<N):∀(f:Nat) (p:Array Nat) (k:Nat),(∀x∈p,x<N)->k+f<=p.size->dS lt p k->bM lt N (kas_bin f p k)/\(ai lt (kas_bin f p k)).Perm p/\dS lt (ai lt (kas_bin f p k)) (k+f)
 |0,p,k,_,_,h=>⟨trivial, .refl _,h⟩
 |f+1,p,k,hb,hz,h=>by
  let⟨z1,z2,z3,z4⟩:=l9 O (j9.of h0 hb) h k 0 k (by lia) (aah _) (by lia) (λi hi=>by lia) (λi b1 b2=>by lia);generalize el:ai lt (kas_place p k k 0 k)=l at z2 z3 z4
  have ks:k<p.size:=by lia
  have kl:k-(k-l)=l:=by lia
  have gb:=Ia (p:=p) (s:=k) (d:=k-l) ks (by lia);rw[kl] at gb
  have s2:dS lt (bubble p k (k-l)) (k+1):=λi j b1 b2=>by
   rw[gb,gb]
   by_cases ej:j=l
   ·rw[if_pos ej]
    by_cases ei:i=l
    ·rw[if_pos ei];exact O.rf _
    ·rw[if_neg ei,if_neg (by lia)];exact z3 i (by lia)
   ·rw[if_neg ej]
    by_cases cj:l<j/\j<=k
    ·rw[if_pos cj]
     by_cases ei:i=l
     ·rw[if_pos ei];exact O.as _ _ (z4 (j-1) (by lia) (by lia))
     ·rw[if_neg ei]
      by_cases ci:l<i/\i<=k
      ·rw[if_pos ci];exact h _ _ (by lia) (by lia)
      ·rw[if_neg ci];exact h _ _ (by lia) (by lia)
    ·rw[if_neg cj,if_neg (by lia),if_neg (by lia)];exact h _ _ b1 (by lia)
  have hb':∀x∈bubble p k (k-l),x<N:=λx hx=>hb x ((bubble_perm p k (k-l)).mem_iff.mp hx);let⟨y1,y2,y3⟩:=wV h0 f (bubble p k (k-l)) (k+1) hb' (by rw[bubble_size];lia) s2
  have e:ai lt (kas_bin (f+1) p k)=ai lt (kas_bin f (bubble p k (k-l)) (k+1)):=by
   show ai lt ((kas_place p k k 0 k).bind λl=>kas_bin f (bubble p k (k-l)) (k+1))=_;rw[dY,el]
  refine⟨bM.bind z1 (by rw[el];exact y1), ?_, ?_⟩
  ·rw[e];exact y2.trans (bubble_perm ..)
  ·rw[e,show k+(f+1)=k+1+f by lia];exact y3
theorem om {n:Nat} (hn:1<=n):bM lt n (kas_sort n)/\(ai lt (kas_sort n)).toList.Perm (List.range n)/\dS lt (ai lt (kas_sort n)) n:=by
 have hb:∀x∈List.toArray (List.range n),x<n:=λx hx=>by simpa using hx
 let⟨a1,a2,a3,a4,a5⟩:=AA O (p:=List.toArray (List.range n)) (nrem:=n) hn hb hn (by simp)
 have key:bM lt n (if (ai lt (kas_count n (List.toArray (List.range n)))).1<n then kas_bin (n-max (ai lt (kas_count n (List.toArray (List.range n)))).1 1) (ai lt (kas_count n (List.toArray (List.range n)))).2 (max (ai lt (kas_count n (List.toArray (List.range n)))).1 1) else .ret (ai lt (kas_count n (List.toArray (List.range n)))).2)/\
   ∀q,q=ai lt (if (ai lt (kas_count n (List.toArray (List.range n)))).1<n then kas_bin (n-max (ai lt (kas_count n (List.toArray (List.range n)))).1 1) (ai lt (kas_count n (List.toArray (List.range n)))).2 (max (ai lt (kas_count n (List.toArray (List.range n)))).1 1) else .ret (ai lt (kas_count n (List.toArray (List.range n)))).2)->q.toList.Perm (List.range n)/\dS lt q n:=by
  generalize ai lt (kas_count n (List.toArray (List.range n)))=r at a2 a3 a4 a5⊢;have hbr:∀x∈r.2,x<n:=λx hx=>hb x (a2.mem_iff.mp hx)
  have sz:r.2.size=n:=by
   rw[a2.size_eq];simp
  have pm:r.2.toList.Perm (List.range n):=by
   have:=Array.perm_iff_toList_perm.mp a2;simpa using this
  by_cases c:r.1<n
  ·rw[if_pos c]
   have e:max r.1 1=r.1:=by lia
   rw[e];let⟨y1,y2,y3⟩:=wV O hn (n-r.1) r.2 r.1 hbr (by lia) a5;refine⟨y1,λq hq=> ?_⟩;subst hq
   have:r.1+(n-r.1)=n:=by lia
   rw[this] at y3;exact⟨(Array.perm_iff_toList_perm.mp y2).trans pm,y3⟩
  ·rw[if_neg c]
   have e:r.1=n:=by lia
   rw[e] at a5;exact⟨trivial,λq hq=>by subst hq;exact⟨pm,a5⟩⟩
 refine⟨bM.bind a1 key.1, ?_⟩;have e:ai lt (kas_sort n)=_:=dY lt _ (kas_count n (List.toArray (List.range n)));rw[e];exact key.2 _ rfl
end
end SortT
namespace L2.L3
open PySem PySem.Spec PyProof.Rows PySem.W
theorem mr:∀{x y:List Int},HT.lexLt x y=true->HT.lexLt y x=false
 |[],[],h=>rfl
 |[],_::_,h=>rfl
 |_::_,[],h=>by cases h
 |a::r,b::t,h=>by
  rw[HT.eh] at h⊢
  by_cases c:a=b
  ·rw[if_pos c] at h;rw[if_pos c.symm];exact mr h
  ·rw[if_neg c] at h;rw[if_neg (λz=>c z.symm)];have:=ac3 h;exact aaB (by lia)
theorem qQ:∀{x y z:List Int},HT.lexLt y x=false->HT.lexLt z y=false->HT.lexLt z x=false
 |[],[],z,_,h2=>h2
 |[],_::_,[],_,h2=>by cases h2
 |[],_::_,_::_,_,_=>rfl
 |_::_,[],z,h1,_=>by cases h1
 |a::r,b::t,[],_,h2=>by cases h2
 |a::r,b::t,c::u,h1,h2=>by
  rw[HT.eh] at h1 h2⊢
  by_cases e1:b=a
  ·rw[if_pos e1] at h1
   by_cases e2:c=b
   ·rw[if_pos e2] at h2;rw[if_pos (e2.trans e1)];exact qQ h1 h2
   ·rw[if_neg e2] at h2;rw[if_neg (λz=>e2 (z.trans e1.symm))];have:=ab1 h2;exact aaB (by lia)
  ·rw[if_neg e1] at h1;have k1:=ab1 h1
   by_cases e2:c=b
   ·rw[if_pos e2] at h2;rw[if_neg (λz=>e1 (e2.symm.trans z))];exact aaB (by lia)
   ·rw[if_neg e2] at h2;have k2:=ab1 h2;rw[if_neg (by lia)];exact aaB (by lia)
section
variable {prog:Program} {w:World} {A:Around} {s:Shared}
theorem qV {b:Bool} {Q:Bool->Shared->Prop}:∀{xs ys:List Value} {ns ms:List Int} (i:Nat) {fin:Bool},Vals (ns.map V.int) xs->Vals (ms.map V.int) ys->ns.length=ms.length->fin=false->
  Q (HT.lexLt ns ms) s->KatLex prog w A b fin Q (xs.zip ys) i s
 |_,_,[],[],i,_, .nil, .nil,_,hf,q=>by
  rw[hf];exact q
 |_,_,[],_::_,i,_, .nil, .cons _ _,hl,_,_=>by simp at hl
 |_,_,_::_,[],i,_, .cons _ _, .nil,hl,_,_=>by simp at hl
 |u::us,v::vs,n::ns,m::ms,i,fin, .cons r1 h1, .cons r2 h2,hl,hf,q=>by
  let⟨t,rfl⟩:=r1;let⟨t',rfl⟩:=r2;refine kat_cons (wpAny_eqBool_int ?_);rw[HT.eh] at q
  by_cases c:n=m
  ·rw[if_pos c] at q
   have e:(n==m)=true:=by simpa using c
   rw[e];exact kat_yes (qV (i+1) h1 h2 (by simpa using hl) hf q)
  ·rw[if_neg c] at q
   have e:(n==m)=false:=by simpa using c
   rw[e];refine kat_no ?_
   cases hb':(b&&i==0) with
   |true=>exact oneLt_int q
   |false=>exact kat_one _ _ (lt_int (show PySem.W.BoolBack Q (.bool (decide (n<m))) s from q))
end
def fT (H:Hp) (v:V) (k:List Int):Prop:=∃p,v= .ref p/\H p=some (.tup (k.map V.int))
section
variable {X:Cx} {pins:List (Addr×Obj)} {σ:St} {H:Hp} {s:Shared} {k:Nat} {f:Addr} {fd:FuncData} {ps:List Str} {sp:Sp}
theorem zJ {Q:VK} {v:V} {u:Value} (F:FnOk X.prog X.w X.K X.mg X.base (dz X.prog X.w) k f fd ps sp) (hr:Room k X.A.in1.in1) (hb:Binds X.K fd ps []) (I:Inv X pins σ H s) (r:RelV v u) (h:sp [v] H Q (λ_ _ _=>False)):
  wpAny (model X.prog X.w) X.A.in1.in1 (call (.ref f) [u]) (EP X pins σ Q) (λ_ _=>False) s:=by
 have r2:Vals [v] [u]:= .cons r .nil;have hl:([u]++([]:List Value)).length=ps.length:=F.len _ _ _ _ h;refine wpAny_call (acN (F.run X.A.in1.in1 X.stack s H ⟨[u],[]⟩ [u] [v] Q _ hr I.AE.in1.in1 (hb s [u] I.cB hl) r2 h) λr s' hq=> ?_)
 cases r with
 |error e=>
  let⟨_,_,_,_,_,_,_,_,_,_,_,_,_,_,_,z⟩:=hq;exact z
 |ok fl=>
  cases fl with
  |ret u=>exact I.after hq
  |next=>exact False.elim hq
  |brk=>exact False.elim hq
  |cont=>exact False.elim hq
end
section
variable {X:Cx} {pins:List (Addr×Obj)} {σ:St} {H H1:Hp} {s:Shared} {D kS:Addr} {e1:Nat} {zs kv:List V} {ws:List Value} {E:Value->Shared->Prop} {A:Around}
structure Place (X:Cx) (pins:List (Addr×Obj)) (D:Addr):Prop where
 fp:∀H:Hp,H D=none->cH X pins H D
 nw:X.s₀.heap.get? D=none
end
theorem range_getD {α:Type} (l:List α) (d:α):(List.range l.length).map (λi=>l.getD i d)=l:=by
 refine List.ext_getElem (by simp) λi h1 h2=> ?_;rw[List.getElem_map,List.getElem_range,aav,aae h2];rfl
theorem yl {ys:List V} {us:List Value} (h:Vals ys us):∀i,i<ys.length->RelV (ys.getD i .non) (us.getD i .none):=λi hi=>by
 let⟨u,hu,ru⟩:=h.get (aae hi);rw[aav,aae hi,aav,hu];exact ru
theorem pC {ys:List V} {us:List Value} (h:Vals ys us):∀{p:List Nat},(∀i∈p,i<ys.length)->Vals (p.map λi=>ys.getD i .non) (p.map λi=>us.getD i Value.none)
 |[],_=> .nil
 |i::r,hp=> .cons (yl h i (hp i aaC)) (pC h λj hj=>hp j (aat _ hj))
section
variable {X:Cx} {pins:List (Addr×Obj)} {σ:St} {H H1:Hp} {s:Shared} {D kS:Addr} {e1 m:Nat} {ys kv:List V} {us its:List Value} {keys:List (List Int)} {E:Value->Shared->Prop} {A:Around}
theorem ub (I:Inv X pins σ H s) {v:V} {u:Value} {k:List Int} (r:RelV v u) (h:fT H v k):∃a o xs n,u= .ref a/\s.heap.get? a=some o/\o.cls= .type "tuple"/\o.data= .seq xs n/\Vals (k.map V.int) xs.toList:=by
 let⟨p,rfl,h⟩:=h;cases r;let⟨_,its,rt,o,g1,g2,n,g3⟩:=I.ah p _ h;exact⟨p,o,_,n,rfl,g1,g2,g3,by simpa using rt⟩
theorem sT (I:Inv X pins σ H s) (hm:0<m):∀{kv:List V} {its:List Value} {keys:List (List Int)},Vals kv its->Paired (fT H) kv keys->(∀k∈keys,k.length=m)->∃fs:List Value,fs.length=kv.length/\KatTups s.heap its fs/\∀v∈fs,∃i t,v= .int i t
 |_,_,_, .nil, .nil,_=>⟨[],rfl,KatTups.nil,λv hv=>by cases hv⟩
 |_,_,_, .cons r rr, .cons (b:=k) q qq,hl=>by
  let⟨fs,f1,f2,f3⟩:=sT I hm rr qq λk hk=>hl k (aat _ hk);let⟨a,o,xs,n,rfl,g1,g2,g3,g4⟩:=ub I r q;have hk:=hl k aaC
  cases k with
  |nil=>
   rw[show ([]:List Int).length=0 from rfl] at hk;lia
  |cons i kr=>
   have g4':Vals (V.int i::kr.map V.int) xs.toList:=g4
   cases ex:xs.toList with
   |nil=>
    rw[ex] at g4';cases g4'
   |cons u0 ur=>
    rw[ex] at g4'
    cases g4' with
    |cons h0 _=>
     let⟨t,rfl⟩:=h0;refine⟨.int i t::fs,by rw[aaw,aaw,f1],KatTups.cons g1 g2 g3 ?_ f2,λv hv=> ?_⟩
     ·rw[←Array.getElem?_toList,ex];rfl
     ·rcases aap.mp hv with rfl|hv
      ·exact⟨i,t,rfl⟩
      ·exact f3 v hv
theorem vy (I:Inv X pins σ H s) (hv:Vals kv its) (hk:Paired (fT H) kv keys) {i:Nat} (hi:i<kv.length):∃a o xs n,its.getD i .none= .ref a/\s.heap.get? a=some o/\o.data= .seq xs n/\Vals ((keys.getD i []).map V.int) xs.toList/\keys.getD i []∈keys:=by
 let⟨u,hu,ru⟩:=hv.get (aae hi);have hl:=abg hk
 obtain⟨y,hy,q⟩:∃y,keys[i]?=some y/\fT H kv[i] y:=by
  have:∀{l:List V} {r:List (List Int)} {i:Nat} {x:V},Paired (fT H) l r->l[i]?=some x->∃y,r[i]?=some y/\fT H x y:=λ{l r i x} h=>by
   induction h generalizing i with
   |nil=>intro e;simp at e
   |cons h _ ih=>
    intro e
    cases i with
    |zero=>
     simp at e;subst e;exact⟨_,rfl,h⟩
    |succ i=>
     let⟨y,h1,h2⟩:=ih (i:=i) (by simpa using e);exact⟨y,by simpa using h1,h2⟩
  exact this hk (aae hi)
 let⟨a,o,xs,n,rfl,g1,g2,g3,g4⟩:=ub I ru q;refine⟨a,o,xs,n, ?_,g1,g3, ?_, ?_⟩
 ·rw[aav,hu];rfl
 ·rw[aav,hy];exact g4
 ·rw[aav,hy];exact aas hy
def mY (keys:List (List Int)) (p:List Nat):Prop:=p.Pairwise λi j=>HT.lexLt (keys.getD j []) (keys.getD i [])=false
end
section
variable {X:Cx} {pins:List (Addr×Obj)} {σ:St} {H:Hp} {s:Shared} {k m:Nat} {f a:Addr} {fd:FuncData} {ps:List Str} {sp:Sp} {ys:List V} {keys:List (List Int)} {Q:VK} {E:Value->Shared->Prop}
end
section
variable {X:Cx} {pins:List (Addr×Obj)} {σ:St} {H:Hp} {s:Shared} {a:Addr} {y v:V} {u r:Value} {A:Around} {E:Value->Shared->Prop}
theorem IP {H':Hp} {Q:Unit->Shared->Prop} (hu:A.units<cLine) (I:Inv X pins σ H s) (g:fI H a y v H') (ry:RelV y u) (rv:RelV v r) (h:∀s',Inv X pins σ H' s'->Q () s'):
  wpAny (model X.prog X.w) A (dictSet a u r) Q E s:=by
 rcases g with⟨kvs,k,e,ey,l,eH⟩|⟨kvs,k,b,e,ey,eb,l,eH⟩
 ·subst ey eH;let⟨z,hd,vs,rel,dd⟩:=Cw I.ah e
  have hz:vs.length<=sizeLine:=by rw[←rel.length];exact z
  have hl:(putK kvs k v).length<=sizeLine:=by have:=eY kvs k v;lia
  refine wpAny_dictSet_pairs (hsz:=hz) (gN ry) dd λh' dd' hs=>h _ ?_
  have he:∃q,h'.get? a=some q:=let ⟨q,_,_,hq,_⟩:=dd';⟨q,hq⟩
  exact ki I (by rw[e];exact True.intro) hs he (yk hl hd (rel.put k rv) dd')
 ·subst ey eH;cases (show u=Value.ref b from ry);let⟨z,hd,xs,rel,dd⟩:=BV I.ah e
  have hz:xs.length<=sizeLine:=by rw[←abg rel];exact z
  have hl:(putK kvs k v).length<=sizeLine:=by have:=eY kvs k v;lia
  refine wpAny_dictSet_heap (hsz:=hz) (show (tupleKind (aJ X.prog X.w)).room A from hu) (fF I.ah eb) dd λh' dd' hs=>h _ ?_;let⟨q,es,ep,hq,h2,h3,h4,_,h5⟩:=dd';refine ki I (by rw[e];exact True.intro) hs ⟨q,hq⟩ ⟨hl,hd,_,(rel.put k eb rv).keeps λc ys ec=> ?_,q,es,ep,hq,h2,h3,h4,h5⟩;rw[aq (qp ec e (λz=>nomatch z))];exact ec
end
theorem iq:plainId "dict.update.loop"=true:=by decide+kernel
theorem pL:entryFor table "dict.update.loop"=some Builtin.«dict.update.loop»:=entryFor_of_fast (by kernel_rfl)
theorem D7 {w:World} {A:Around} {E:Value->Shared->Prop} {s:Shared} {b:Bool} {l:Addr} {k:Nat} {xs:Array Value} {x:Value} {Q:Option Value->Shared->Prop} (gi:dW b s.heap it l k) (gl:cR b s.heap l xs) (gx:xs[k]?=some x)
  (q:∀h1,dW b h1 it l (k+1)->Heap.SameBut it s.heap h1->Q (some x) {s with heap:=h1}):wpAny (model prog w) A (pyNext (.ref it)) Q E s:=by
 cases b
 ·exact wpAny_pyNext_tuple_item gi gl gx λh' a1 a2=>q h' a1 a2
 ·exact wpAny_pyNext_list_item gi gl gx λh' a1 a2=>q h' a1 a2
theorem Ho {w:World} {A:Around} {E:Value->Shared->Prop} {s:Shared} {b:Bool} {l:Addr} {k:Nat} {xs:Array Value} {Q:Option Value->Shared->Prop} (hh:A.handled=none) (gi:dW b s.heap it l k) (gl:cR b s.heap l xs) (gx:xs[k]?=none)
  (q:∀h1,(∀b o,b≠it->s.heap.get? b=some o->h1.get? b=some o)->Q none {s with heap:=h1}):wpAny (model prog w) A (pyNext (.ref it)) Q E s:=by
 cases b
 ·exact wpAny_pyNext_tuple_end hh gi gl gx λh' a1=>q h' λb o hb e=>a1 b o hb e
 ·exact wpAny_pyNext_list_end hh gi gl gx λh' a1=>q h' λb o hb e=>a1 b o hb e
section
variable {X:Cx} {pins:List (Addr×Obj)} {σ:St} {A:Around}
def Puts (d:Addr) (ys:List V) (HH:Nat->Hp):Prop:=∀i,i<ys.length->∃p y v,ys[i]?=some (.ref p)/\HH i p=some (.tup [y,v])/\fI (HH i) d y v (HH (i+1))
theorem Ap {R:Result->Shared->Prop} {b:Bool} {d l:Addr} {ys:List V} {HH:Nat->Hp} {res:Value} (hh:A.in1.handled=none) (hu:A.in1.units<cLine) (hq:∀i,i<=ys.length->fK b X.K (HH i) l ys) (hp:Puts d ys HH) (hf:∀i,i<=ys.length->cH X pins (HH i) it)
  (fin:∀s',Inv X pins σ (HH ys.length) s'->R (.ok (.ret res)) s'):
  ∀(k i:Nat) (s:Shared) (n:Int) (tk:Tok),ys.length-i=k->i<=ys.length->Inv X pins σ (HH i) s->dW b s.heap it l i->codeAny (model X.prog X.w) A (.builtin "dict.update.loop" ⟨[.ref d, .ref it, .int n tk,res],[]⟩) R s:=by
 intro k
 induction k with
 |zero=>
  intro i s n tk hk hi I st
  have hin:i=ys.length:=by lia
  subst hin;refine acj pL ?_;rw[abN iq _];let⟨its,rv,p,hz⟩:=cq I (hq _ hi);let⟨f0,f1,f2,f3,f4,f5⟩:=hf _ hi;have hl:=rv.length;show wpAny _ A.in1 (pyNext (.ref it)>>=_) _ _ s;refine aaa (Ho hh st p (by simp;lia) λh' eb=> ?_);refine aaa (m:=Builtin.Dict.addKeywords d []) (aaf (aaf (fin _ (I.turned (t':=s.toks) (λb o hb e=>eb b o hb e) f0 f1 f3 f4 f5))))
 |succ k ih=>
  intro i s n tk hk hi I st
  have hlt:i<ys.length:=by lia
  refine acj pL ?_;rw[abN iq _];let⟨its,rv,p,hz⟩:=cq I (hq _ hi);let⟨q,y,v,hy,hqp,dp⟩:=hp i hlt;let⟨u,hu',ru⟩:=rv.get hy;cases (show u=Value.ref q from ru);have fi:=hf i hi;let⟨f0,f1,f2,f3,f4,f5⟩:=hf _ hi;show wpAny _ A.in1 (pyNext (.ref it)>>=_) _ _ s;refine aaa (D7 st p (x:= .ref q) (by simpa using hu') λh1 st1 sb=> ?_);have I1:Inv X pins σ (HH i) {s with heap:=h1}:=I.turned (t':=s.toks) (λb o hb e=>(sb.2 b hb).trans e) f0 f1 f3 f4 f5;let⟨_,its2,r2,o,e1,e2,n2,e3⟩:=(show aL X.prog X.w (HH i) h1 q (.tup [y,v]) from I1.ah q _ hqp);let⟨uy,uv,rfl,ry,rv2⟩:=Vals.two r2;have tT:Shared.TypeIs {s with heap:=h1} (.ref q) "tuple":=⟨o,e1,e2⟩;refine aaa (aa7 ?_);refine aaa (ab9 ?_);unfold Builtin.Dict.pairItems;refine aaa (wpAny_typeOf tT ?_);rw[if_pos (by decide)];refine aaa (aaX e1 e3 ?_);refine aaf ?_;show wpAny _ A.in1 (holding [uy,uv] (dictSet d uy uv)) _ _ _;refine aa7 ?_
  have fo:∀b∈[it],∃o,h1.get? b=some o/\∀v,o.data≠ .cell v:=λb hb=>by
   rw[aaD.mp hb];exact st1.live
  have f1':∀b∈[it],cH X pins (HH i) b:=λb hb=>by
   rw[aaD.mp hb];exact fi
  have I2:=I1.pinned f1' fo;refine IP hu I2 dp ry rv2 λs' I3=> ?_;refine aaf ⟨abZ iq _,ih (i+1) s' _ _ (by lia) hlt I3.jg (st1.at λo e=> ?_)⟩
  have pm:(it,o)∈bP [it] h1:=by
   unfold bP;simp[e]
  exact(I3.pin (it,o) (aaA _ (aaA _ pm))).1
end
theorem rW:typeLookup (.type "list") "keys"=pure none:=by rw[typeLookup_type,builtinLookup_eq_fast];kernel_rfl
theorem qc:typeLookup (.type "tuple") "keys"=pure none:=by rw[typeLookup_type,builtinLookup_eq_fast];kernel_rfl
theorem se {w:World} {A:Around} {E:Value->Shared->Prop} {s:Shared} {a:Addr} {o:Obj} {xs:Array Value} {k:Nat} {Q:Option Value->Shared->Prop}
  (hx:s.heap.get? a=some o) (hc:o.cls= .type "list") (hdat:o.data= .seq xs k) (hd:o.dict=none) (hA:A.handled=none)
  (h:∀h' tk e,Heap.NewExcOf s.heap h' e "AttributeError"->Q none {s with heap:=h',toks:=tk}):
  wpAny (model prog w) A (getAttr? (.ref a) "keys") Q E s:=by
 let⟨c,dct,dat,sl⟩:=o;simp only at hc hdat hd;subst hc hdat hd;let⟨hp,g,d,tk,os⟩:=s;have hT:∀tk',(⟨hp,g,d,tk',os⟩:Shared).TypeIs (.ref a) "list":=λ_=>⟨_,hx,rfl⟩;have f1:=sub_AttributeError;have f3:=F.slot_list_getattribute.lookup;have f4:=F.slot_list_getattribute.bind (.ref a);have f5:=am_list_getattr_none;unfold getAttr? getAttrBy? getAttrBy
 repeat (any_goals (first|assumption|exact hT _|((with_reducible show wpAny _ _ (call (Value.builtin "list.__getattribute__") _ _) _ _ _);refine call_meets F.slot_list_getattribute (hT _) am_entry_list_getattribute (F.args_list_getattribute_2 _ _) (meets_getattribute_miss_list a xs k sl "keys" _ rW (by decide+kernel)) ⟨hx,hA,λh' tk' e hx'=> ?_⟩)|wp_step))
 let⟨t',u',he⟩:=hx'.there;show wpAny _ _ (getattributeRaised _ _ _ _ _ _ _) _ _ _;unfold getattributeRaised
 repeat (any_goals (first|assumption|wp_step))
 exact h _ _ _ hx'.of
theorem p7 {w:World} {A:Around} {E:Value->Shared->Prop} {s:Shared} {a:Addr} {o:Obj} {xs:Array Value} {k:Nat} {Q:Option Value->Shared->Prop}
  (hx:s.heap.get? a=some o) (hc:o.cls= .type "tuple") (hdat:o.data= .seq xs k) (hd:o.dict=none) (hA:A.handled=none)
  (h:∀h' tk e,Heap.NewExcOf s.heap h' e "AttributeError"->Q none {s with heap:=h',toks:=tk}):
  wpAny (model prog w) A (getAttr? (.ref a) "keys") Q E s:=by
 let⟨c,dct,dat,sl⟩:=o;simp only at hc hdat hd;subst hc hdat hd;let⟨hp,g,d,tk,os⟩:=s;have hT:∀tk',(⟨hp,g,d,tk',os⟩:Shared).TypeIs (.ref a) "tuple":=λ_=>⟨_,hx,rfl⟩;have f1:=sub_AttributeError;have f3:=F.slot_tuple_getattribute.lookup;have f4:=F.slot_tuple_getattribute.bind (.ref a);have f5:=am_tuple_getattr_none;unfold getAttr? getAttrBy? getAttrBy
 repeat (any_goals (first|assumption|exact hT _|((with_reducible show wpAny _ _ (call (Value.builtin "tuple.__getattribute__") _ _) _ _ _);refine call_meets F.slot_tuple_getattribute (hT _) am_entry_tuple_getattribute (F.args_tuple_getattribute_2 _ _) (meets_getattribute_miss_tuple a xs k sl "keys" _ qc (by decide+kernel)) ⟨hx,hA,λh' tk' e hx'=> ?_⟩)|wp_step))
 let⟨t',u',he⟩:=hx'.there;show wpAny _ _ (getattributeRaised _ _ _ _ _ _ _) _ _ _;unfold getattributeRaised
 repeat (any_goals (first|assumption|wp_step))
 exact h _ _ _ hx'.of
theorem cR.keys {b:Bool} {w:World} {A:Around} {E:Value->Shared->Prop} {s:Shared} {l:Addr} {xs:Array Value} {Q:Option Value->Shared->Prop} (hl:cR b s.heap l xs) (hd:∀o,s.heap.get? l=some o->o.dict=none) (hA:A.handled=none)
  (h:∀h' tk e,Heap.NewExcOf s.heap h' e "AttributeError"->Q none {s with heap:=h',toks:=tk}):wpAny (model prog w) A (getAttr? (.ref l) "keys") Q E s:=by
 cases b
 ·let⟨o,e1,e2,n,e3⟩:=(show s.heap.IsTuple l xs from hl);exact p7 e1 e2 e3 (hd o e1) hA h
 ·let⟨o,e1,e2,n,e3⟩:=(show s.heap.IsList l xs from hl);exact se e1 e2 e3 (hd o e1) hA h
def Plain (b:Bool) (H:Hp) (a:Addr) (ys:List V):Prop:=cond b (H a=some (.lst ys)) (∃o:Obj,H a=some (.aD o (.tup ys))/\o.dict=none)
theorem Plain.sq {b:Bool} {K:PySem.W.Frag} {H:Hp} {a:Addr} {ys:List V} (h:Plain b H a ys):fK b K H a ys:=by
 cases b
 ·let⟨o,e,_⟩:=h;exact .inl (.inr ⟨o,e⟩)
 ·exact .inl (.inl h)
theorem Plain.is {b:Bool} {H:Hp} {a:Addr} {ys:List V} (h:Plain b H a ys):H a≠none:=by
 cases b
 ·let⟨o,e,_⟩:=h;rw[e]
  exact λz=>nomatch z
 ·rw[show H a=_ from h]
  exact λz=>nomatch z
theorem Plain.keep {b:Bool} {H H':Hp} {a:Addr} {ys:List V} (h:Plain b H a ys) (e:H' a=H a):Plain b H' a ys:=by
 cases b
 ·let⟨o,e1,e2⟩:=h;exact⟨o,e.trans e1,e2⟩
 ·exact e.trans h
theorem Plain.nodict {b:Bool} {X:Cx} {σ:St} {H:Hp} {s:Shared} {a:Addr} {ys:List V} (h:Plain b H a ys) (I:Inv X pins σ H s) (o:Obj) (e:s.heap.get? a=some o):o.dict=none:=by
 cases b
 ·let⟨o',e1,e2⟩:=h;let⟨z,_⟩:=(show aL X.prog X.w H s.heap a (.aD o' (.tup ys)) from I.ah a _ e1);rw[e] at z;cases z;exact e2
 ·let⟨_,its,n,_,z⟩:=(show aL X.prog X.w H s.heap a (.lst ys) from I.ah a _ h);rw[e] at z;cases z;rfl
def Jl (b:Bool) (ob0:HO):List V->Hp->VK->Prop:=λxs H Q=>∃l ys,xs=[.ref l]/\Plain b H l ys/\∀p,H p=none->∃ob:Nat->HO,ob 0=ob0/\Puts p ys (λi=>upd H p (ob i))/\Q (.ref p) (upd H p (ob ys.length))
theorem nu {X:Cx} (hc:X.calm=true) (hu:X.A.units+2<cLine) {b:Bool} {ob0:HO} (h0:ob0= .dK []∨ob0= .dT []):ar X (.type "dict") (Jl b ob0):=by
 intro pins s σ H xs us Q I r h;let⟨l,ys,rfl,hl,q⟩:=h;let⟨u,rfl,rx⟩:=vals1 r;cases (show u=Value.ref l from rx);have fr:=I.ah.fresh (aah s.heap.objs.size);let⟨ob,e0,hp,hq⟩:=q s.heap.objs.size fr;have hA:X.A.handled=none:=I.ok.hd hc;have nl:l≠s.heap.objs.size:=λz=>hl.is (by rw[z];exact fr);refine callType_codes (Q₁:=λobj s₁=>obj= .ref s.heap.objs.size/\s₁={s with heap:=s.heap.push {cls:= .type "dict",data:= .dict #[]}}) F.kt_called_dict (F.kt_typeCall_dict_1 _) F.entry_dict_init (kt_code_dict_new _ ⟨rfl,rfl⟩) ?_
 rintro obj s₁ ⟨rfl,rfl⟩
 have I1:Inv X pins σ (upd H s.heap.objs.size (ob 0)) {s with heap:=s.heap.push {cls:= .type "dict",data:= .dict #[]}}:=by
  rw[e0]
  rcases h0 with rfl|rfl
  ·exact I.laid (a:=s.heap.objs.size) (o:= .dK []) (t':=s.toks) (λ_ _ q=>aad _ q) (aah _) (sU s.heap I.big)
  ·exact I.laid (a:=s.heap.objs.size) (o:= .dT []) (t':=s.toks) (λ_ _ q=>aad _ q) (aah _) (zR s.heap I.big)
 have hnew:Shared.TypeIs {s with heap:=s.heap.push {cls:= .type "dict",data:= .dict #[]}} (.ref s.heap.objs.size) "dict":=⟨_,aai _ rfl,rfl⟩;have hl1:∀i,Plain b (upd H s.heap.objs.size (ob i)) l ys:=λi=>hl.keep (aq nl);let⟨its,rv,p,hz⟩:=cq (b:=b) I1 (hl1 0).sq
 have hT:Shared.TypeIs {s with heap:=s.heap.push {cls:= .type "dict",data:= .dict #[]}} (.ref l) (cond b "list" "tuple"):=by
  cases b
  ·let⟨o,e1,e2,_⟩:=(show Heap.IsTuple _ l its.toArray from p);exact⟨o,e1,e2⟩
  ·let⟨o,e1,e2,_⟩:=(show Heap.IsList _ l its.toArray from p);exact⟨o,e1,e2⟩
 refine⟨hnew,F.args_dict_init_2 _ _, ?_⟩;unfold Builtin.«dict.__init__»;refine aaa ?_;unfold Builtin.Dict.selfAndRest;refine aaa (acH hnew ?_);show wpAny _ _ (pure (s.heap.objs.size,[Value.ref l])) _ _ _;refine aaf ?_;show wpAny _ _ (Builtin.Dict.updateFrom "dict.__init__" s.heap.objs.size (.ref l) [] .none) _ _ _;unfold Builtin.Dict.updateFrom;refine aaa (wpAny_typeOf hT ?_);rw[if_pos (by cases b<;>decide)];refine aaa (cR.keys p ((hl1 0).nodict I1) hA λh' tk e hx=> ?_);rw[if_pos (show (none:Option Value).isNone=true from rfl)];have I2:Inv X pins σ (upd H s.heap.objs.size (ob 0)) {s with heap:=h',toks:=tk}:=I1.kept (t':=tk) hx.keeps;refine aaa (acq (aaa (Ae (b:=b) (s:={s with heap:=h',toks:=tk}) (p.at λo e=>hx.keeps _ _ e) λh1 st kp sz=> ?_)));have I3:Inv X pins σ (upd H s.heap.objs.size (ob 0)) {s with heap:=h1,toks:=tk}:=I2.kept (t':=tk) kp;refine aaf ⟨abZ iq _, ?_⟩
 have fp:∀i,i<=ys.length->cH X pins (upd H s.heap.objs.size (ob i)) h'.objs.size:=λi _=>by
  have lt:s.heap.objs.size<h'.objs.size:=aal (hx.keeps _ _ (aai (h:=s.heap) (o:={cls:= .type "dict",data:= .dict #[]}) rfl));refine I2.lX (aah _) ?_;rw[aq (Ne.symm (aau lt))];exact I.ah.fresh (abf lt)
 refine Ap (A:=X.A.in1) (b:=b) (l:=l) (ys:=ys) (HH:=λi=>upd H s.heap.objs.size (ob i)) hA hu (λi _=>(hl1 i).sq) hp fp (λs' I4=> ?_) ys.length 0 _ _ _ (by lia) (aaV _) I3 st;exact⟨rfl, .ref s.heap.objs.size,_,I4,rfl,hq⟩
section
variable {κ:Type} [DecidableEq κ]
def putAll (acc:List (κ×V)) (ps:List (κ×V)):List (κ×V):=ps.foldl (λa p=>putK a p.1 p.2) acc
theorem zE (kvs:List (κ×V)) (k:κ) (v:V):(putK kvs k v).map (·.1)=if k∈kvs.map (·.1) then kvs.map (·.1) else kvs.map (·.1)++[k]:=by
 have q:((kvs.any λkv=>decide (kv.1=k))=true)↔k∈kvs.map (·.1):=by
  simp[List.any_eq_true,aaT]
 unfold putK
 by_cases h:k∈kvs.map (·.1)
 ·rw[if_pos (q.mpr h),if_pos h,aa6];apply List.map_congr_left;intro x _
  by_cases e:x.1=k<;>simp[e]
 ·rw[if_neg (λz=>h (q.mp z)),if_neg h,abd];rfl
theorem ml:∀(ps acc:List (κ×V)),(putAll acc ps).length<=acc.length+ps.length
 |[],acc=>by simp[putAll]
 |p::ps,acc=>by
  have h:=ml ps (putK acc p.1 p.2)
  have l:(putK acc p.1 p.2).length<=acc.length+1:=by
   have:=congrArg List.length (zE acc p.1 p.2);rw[List.length_map] at this;rw[this];split<;>simp
  show (putAll (putK acc p.1 p.2) ps).length<=_;rw[aaw];lia
theorem k8 (ps:List (κ×V)) {i:Nat} {p:κ×V} (h:ps[i]?=some p):putAll [] (ps.take (i+1))=putK (putAll [] (ps.take i)) p.1 p.2:=by
 rw[List.take_succ,h];simp[putAll]
end
def BX (H:Hp) (y:V) (kv:List Key×V):Prop:=∃q c,y= .ref q/\H q=some (.tup [.ref c,kv.2])/\H c=some (.tup (kv.1.map kV))
def B2 (H:Hp) (y:V) (kv:Key×V):Prop:=∃q,y= .ref q/\H q=some (.tup [kV kv.1,kv.2])
def wN (b:Bool):List V->Hp->VK->Prop:=λxs H Q=>∃l ys kvs,xs=[.ref l]/\Plain b H l ys/\Paired (BX H) ys kvs/\kvs.length<=1000/\∀p,H p=none->Q (.ref p) (upd H p (.dT (putAll [] kvs)))
def yW (b:Bool):List V->Hp->VK->Prop:=λxs H Q=>∃l ys kvs,xs=[.ref l]/\Plain b H l ys/\Paired (B2 H) ys kvs/\kvs.length<=1000/\∀p,H p=none->Q (.ref p) (upd H p (.dK (putAll [] kvs)))
theorem jB {α β:Type} {F:α->β->Prop}:∀{l:List α} {r:List β},Paired F l r->∀i,i<l.length->∃x y,l[i]?=some x/\r[i]?=some y/\F x y
 |_,_, .cons h _,0,_=>⟨_,_,rfl,rfl,h⟩
 |_,_, .cons _ t,i+1,hi=>by
  let⟨x,y,a,b,c⟩:=jB t i (by simpa using hi);exact⟨x,y,by simpa using a,by simpa using b,c⟩
theorem pj {κ:Type} [DecidableEq κ] {kvs:List (κ×V)} (h:kvs.length<=1000) (i:Nat):(putAll [] (kvs.take i)).length<sizeLine:=by
 have:=ml (kvs.take i) ([]:List (κ×V));rw[ada,acm,aa8] at this;exact gP (by lia)
theorem me {X:Cx} (hc:X.calm=true) (hu:X.A.units+2<cLine) {b:Bool}:ar X (.type "dict") (wN b):=by
 intro pins s σ H xs us Q I r h;let⟨l,ys,kvs,rfl,hl,hp,hz,q⟩:=h;refine nu hc hu (b:=b) (ob0:= .dT []) (.inr rfl) pins s σ H _ us Q I r ⟨l,ys,rfl,hl,λp np=>⟨λi=> .dT (putAll [] (kvs.take i)),rfl,λi hi=> ?_, ?_⟩⟩
 ·let⟨x,kv,e1,e2,qq,c,rfl,h1,h2⟩:=jB hp i hi;have n1:=bE h1 np;have n2:=bE h2 np;refine⟨qq, .ref c,kv.2,e1,(aq n1).trans h1, ?_⟩;have:=fI.t (H:=upd H p (.dT (putAll [] (kvs.take i)))) (a:=p) (b:=c) (k:=kv.1) (v:=kv.2) ak (by rw[aq n2];exact h2) (pj hz i);rw[iF,←k8 kvs e2] at this;exact this
 ·have el:=abg hp;show Q (.ref p) (upd H p (.dT (putAll [] (kvs.take ys.length))));rw[el,List.take_length];exact q p np
theorem mW {X:Cx} (hc:X.calm=true) (hu:X.A.units+2<cLine) {b:Bool}:ar X (.type "dict") (yW b):=by
 intro pins s σ H xs us Q I r h;let⟨l,ys,kvs,rfl,hl,hp,hz,q⟩:=h;refine nu hc hu (b:=b) (ob0:= .dK []) (.inl rfl) pins s σ H _ us Q I r ⟨l,ys,rfl,hl,λp np=>⟨λi=> .dK (putAll [] (kvs.take i)),rfl,λi hi=> ?_, ?_⟩⟩
 ·let⟨x,kv,e1,e2,qq,rfl,h1⟩:=jB hp i hi;have n1:=bE h1 np;refine⟨qq,kV kv.1,kv.2,e1,(aq n1).trans h1, ?_⟩;have:=fI.k (H:=upd H p (.dK (putAll [] (kvs.take i)))) (a:=p) (k:=kv.1) (v:=kv.2) ak (pj hz i);rw[iF,←k8 kvs e2] at this;exact this
 ·have el:=abg hp;show Q (.ref p) (upd H p (.dK (putAll [] (kvs.take ys.length))));rw[el,List.take_length];exact q p np
def HQ (K:PySem.W.Frag):List V->Hp->VK->Prop:=λxs H Q=>∃p ys,xs=[.ref p]/\bK K H p ys/\∀l o,H l=none->o.dict=none->Q (.ref l) (upd H l (.aD o (.tup ys)))
theorem yu {X:Cx}:ar X (.type "tuple") (HQ X.K):=by
 intro pins s σ H xs us Q I r h;let⟨p,ys,rfl,hq,q⟩:=h;let⟨u,rfl,rx⟩:=vals1 r;cases (show u=Value.ref p from rx);let⟨its,r',pl,hz⟩:=I.list hq;have hlen:=r'.length;refine call_tuple_list pl.isList (λh' kp=> ?_) (by simp only[aak]<;>lia);have I1:Inv X pins σ H {s with heap:=h'}:=I.kept (t':=s.toks) kp
 have I2:Inv X pins σ (upd H h'.objs.size (.aD {cls:= .type "tuple",data:= .seq its.toArray} (.tup ys))) {s with heap:=h'.push {cls:= .type "tuple",data:= .seq its.toArray}}:=
  I1.laid (t':=s.toks) (λb o e=>aad _ e) (aah _) (show aL X.prog X.w _ _ _ (.aD _ (.tup ys)) from ⟨aai _ rfl,hz,its,r',IsTup.new _ _⟩)
 exact⟨.ref h'.objs.size,_,I2,rfl,q _ _ (I1.ah.fresh (aah _)) rfl⟩
end L2.L3
namespace L2.L3
open PySem PySem.Spec PyProof.Rows PySem.W PySem.Builtin.Str
noncomputable def jD (x:Str) (lo hi:Option Int):Str:=if (strSliceIndices lo hi 1 x.length).length==x.length then x else ⟨((strSliceIndices lo hi 1 x.length).filterMap (x.cps[·]?)).toArray⟩
def Ls:V->Option Int->Option Int->Hp->VK->Prop:=λx lo hi H Q=>∃z:Str,x= .str z/\z.length<=1000/\(jD z lo hi).length<=1000/\Q (.str (jD z lo hi)) H
theorem part_of {v:Value} {lo:Option Int} (h:IsPart v lo):∃l:Option (Int×Tok),v=partValue l/\l.map (·.1)=lo:=by
 cases h with
 |none=>exact⟨none,rfl,rfl⟩
 |int i t=>exact⟨some (i,t),rfl,rfl⟩
theorem ES {X:Cx}:pO X Ls:=by
 intro pins s σ H x v vl vu lo hi sl Q I rx hs pl pu h;let⟨z,rfl,hz,hz2,q⟩:=h;let⟨t,rfl⟩:=(show∃t,v=Value.str z t from rx);let⟨l,rfl,el⟩:=part_of pl;let⟨u,rfl,eu⟩:=part_of pu;refine⟨"str",_,F.slot_str_getitem.lookup,typeIs_str _ _ _,wpAny_getItem_str_slice (l:=l) (u:=u) (st:=none) hs rfl ?_⟩
 have e:slicePicked z l u none=strSliceIndices lo hi 1 z.length:=by
  unfold slicePicked;rw[el,eu];rfl
 unfold sliceMade;rw[e];unfold jD at q hz2
 by_cases w:((strSliceIndices lo hi 1 z.length).length==z.length)=true
 ·rw[if_pos w] at q;rw[if_pos (by simpa using w)];exact⟨.str z,H,I,⟨t,rfl⟩,q⟩
 ·rw[if_neg w] at q hz2;rw[if_neg (by simpa using w)];exact⟨abf (gP hz2), .str _,H,I.tok _,⟨_,rfl⟩,q⟩
def Ji:R2:=λx y H Q=>∃(z:Str) (k:Int),x= .str z/\y= .int k/\0<=k/\k<=1000/\z.length<=1000/\Q (.str (Txt.mul z k)) H
theorem CZ {X:Cx}:aF X (binaryOp .Mult) Ji:=by
 intro pins s σ H x y u v Q I rx ry h;let⟨z,k,rfl,rfl,k0,k1,hz,q⟩:=h;let⟨t,rfl⟩:=(show∃t,u=Value.str z t from rx);let⟨t',rfl⟩:=(show∃t,v=Value.int k t from ry);refine SB.mul ⟨?_,λh1 _=> ?_,λ_ _=> ?_⟩ λt2 k2=>⟨.str _,H,I.tok _,⟨_,rfl⟩,q⟩
 ·rw[aaB (by lia),aaB (by lia)];rfl
 ·have hk:(2^63-1)/(1000:Int)<=(2^63-1)/k:=by
   rw[abD (by lia)];have:(2^63-1)/(1000:Int)*k<=(2^63-1)/(1000:Int)*1000:=Int.mul_le_mul_of_nonneg_left k1 (by decide)
   have h2:(2^63-1)/(1000:Int)*1000<=2^63-1:=by decide
   lia
  have h3:(1000:Int)<(2^63-1)/(1000:Int):=by decide
  lia
 ·unfold tooLong;have:z.length*k.toNat<=1000*1000:=Nat.mul_le_mul hz (by lia);apply aaB
  have h4:1000*1000<=sizeLine:=by decide
  lia
end L2.L3
namespace L2.L3
open PySem PySem.Spec PyProof.Rows PySem.W
def jy (h:Heap) (d:Addr) (es:Array DictEntry) (ep:Nat):Prop:=∃o,h.get? d=some o/\o.ExactDict/\o.data= .dict es ep
theorem jy.ty {s:Shared} {d:Addr} {es:Array DictEntry} {ep:Nat} (x:jy s.heap d es ep):s.TypeIs (.ref d) "dict":=let ⟨o,e,c,_⟩:=x;⟨o,e,c.1⟩
section
variable {prog:Program} {w:World} {A:Around} {E:Value->Shared->Prop} {s:Shared} {d:Addr} {es:Array DictEntry} {ep:Nat}
theorem Ef {Q:Value->Shared->Prop} (hd:(d==sysModules)=false) (x:jy s.heap d es ep) (hf:(es.size:Int)<2^63) (h:∀t k,Q (.int es.size t) {s with toks:=k}):
  wpAny (model prog w) A (call (.builtin "len") [.ref d]) Q E s:=by
 refine Calls.call_function_entry kind_len plain_len entry_len (args_len1 _) ?_;unfold Builtin.«len»;refine aaa (m:=oneArg "len" _) (aaf ?_);refine aaa (m:=callSpecial? (.ref d) (Str.ofString "__len__")) (aaW (name:=Str.ofString "__len__") x.ty F.slot_dict_len (aba F.slot_dict_len x.ty F.entry_dict_len ?_ (F.args_dict_len_1 _)));let⟨o,ho,hc,hdat⟩:=id x;unfold Builtin.«dict.__len__»;refine aaa (aaa (acH x.ty (aaf ?_)));show wpAny _ _ (dictSize d>>=_) _ _ s;unfold dictSize;refine aaa (aaa (acu ho hdat (aaf ?_)));show wpAny _ _ (Builtin.Dict.pendingCount d>>=_) _ _ s;refine aaa (wpAny_pendingCount_other hd ?_);refine aaa (wpAny_mkInt (aaf ⟨_,rfl, ?_⟩));show wpAny _ _ (holding [Value.int ((es.size:Int)+(0:Nat)) s.toks] (asIndex _)>>=_) _ _ _;refine aaa (aa7 (aaf ?_));refine aaa (abO ?_)
 have e:((es.size:Int)+((0:Nat):Int))=es.size:=by lia
 rw[e];rw[if_neg (by lia)];show wpAny _ _ (if ((es.size:Nat):Int)≥2^63 then _ else _) _ _ _;rw[if_neg (by lia)];refine aaa (wpAny_mkInt (aaf ⟨_,rfl,h _ _⟩))
theorem sg {Q:Value->Shared->Prop} (hd:(d==sysModules)=false) (x:jy s.heap d es ep) (q:∀h1,h1.IsKeyIter s.heap.objs.size d 0 es.size ep->(∀c o,s.heap.get? c=some o->h1.get? c=some o)->Q (.ref s.heap.objs.size) {s with heap:=h1}):
  wpAny (model prog w) A (pyIter (.ref d)) Q E s:=by
 let⟨o,ho,hc,hdat⟩:=id x;refine wpAny_pyIter_slot x.ty F.slot_dict_iter (aba F.slot_dict_iter x.ty F.entry_dict_iter ?_ (F.args_dict_iter_1 _));unfold Builtin.«dict.__iter__»;refine aaa (aaa (acH x.ty (aaf ?_)));show wpAny _ _ (Builtin.Dict.showsAll d>>=_) _ _ s;unfold Builtin.Dict.showsAll;rw[if_neg (by rw[hd];exact aaq)];refine aaa (aaf (aaa (acu ho hdat (aaa (wpAny_dictEpoch ho hdat ?_)))));refine aaa (aaK (aaf ⟨_,rfl,"dict_keyiterator",_,⟨_,aai _ rfl,rfl⟩,abA.lookup, ?_⟩));exact q _ ⟨_,aai _ rfl,rfl,rfl⟩ λc o e=>aad _ e
theorem sM {i:Nat} {Q:Option Value->Shared->Prop} (hit:s.heap.IsKeyIter it d i es.size ep) (x:jy s.heap d es ep) (lt:i<es.size)
  (q:∀h',h'.IsKeyIter it d (i+1) es.size ep->Heap.SameBut it s.heap h'->Q (some es[i].key) {s with heap:=h'}):wpAny (model prog w) A (pyNext (.ref it)) Q E s:=by
 let⟨o,ho,hc,hd⟩:=id hit;let⟨od,hod,hcd,hdd⟩:=id x;unfold pyNext;refine aaa (acy (aaW (name:=Str.ofString "__next__") hit.typeIs abA (aba abA hit.typeIs F.entry_dict_keyiterator_next ?_ (acM _))));refine aaa (aaf (aaa (aaa ?_)));refine aaa (aby hit.typeIs (aaf (aaa (wpAny_fieldsOf ho hd ?_))));simp only[show Builtin.Dict_items.ownsTuple "dict_keyiterator"=false by decide,abk,abi];show wpAny _ _ (if (Value.ref d==Value.none)=true then _ else _) _ _ s;rw[if_neg (show¬((Value.ref d==Value.none)=true) from λz=>aaq z)];refine aaa (aaf (aaa (acu hod hdd ?_)));rw[if_neg (by simp)];refine aaa (aaf (aaa (wpAny_dictEpoch hod hdd ?_)));rw[if_neg (by simp)];refine aaf ?_;simp only[show¬((i:Int)<0) from by lia,abi,acs,Array.getElem?_eq_getElem lt];refine aaa (aaa (aby hit.typeIs (aaf ?_)));refine aaa (wpAny_isOneOf_keyiter hit.typeIs ?_);show wpAny _ _ (setField (.ref it) 1 (rawInt ((i:Int)+1))>>=_) _ _ s;refine aaa (abR ho hd (by simp) ?_);have hit':(s.heap.update it (Obj.mapFields (·.setIfInBounds 1 (rawInt ((i:Int)+1))))).IsKeyIter it d (i+1) es.size ep:=⟨_,aa3 _ ho (abG (aa9 hd _)),(ac0 ..).trans hc,by rw[aa9 hd];simp[rawInt]⟩;refine aaa (aa7 (aaa (wpAny_isOneOf_keyiter (s:={s with heap:=s.heap.update it (Obj.mapFields (·.setIfInBounds 1 (rawInt ((i:Int)+1))))}) hit'.typeIs ?_)));show wpAny _ _ (pure es[i].key) _ _ _;exact aaf (aaf ⟨_,rfl,aaf (q _ hit' (acf ..))⟩)
theorem u6 {i:Nat} {Q:Option Value->Shared->Prop} (hh:A.handled=none) (hit:s.heap.IsKeyIter it d i es.size ep) (x:jy s.heap d es ep) (ge:es.size<=i)
  (q:∀h',Heap.ExtBut it s.heap h'->Q none {s with heap:=h'}):wpAny (model prog w) A (pyNext (.ref it)) Q E s:=by
 let⟨o,ho,hc,hd⟩:=id hit;let⟨od,hod,hcd,hdd⟩:=id x;unfold pyNext;refine aaa (acy (aaW (name:=Str.ofString "__next__") hit.typeIs abA (aba abA hit.typeIs F.entry_dict_keyiterator_next ?_ (acM _))));refine aaa (aaf (aaa (aaa ?_)));refine aaa (aby hit.typeIs (aaf (aaa (wpAny_fieldsOf ho hd ?_))));simp only[show Builtin.Dict_items.ownsTuple "dict_keyiterator"=false by decide,abk,abi];show wpAny _ _ (if (Value.ref d==Value.none)=true then _ else _) _ _ s;rw[if_neg (show¬((Value.ref d==Value.none)=true) from λz=>aaq z)];refine aaa (aaf (aaa (acu hod hdd ?_)));rw[if_neg (by simp)];refine aaa (aaf (aaa (wpAny_dictEpoch hod hdd ?_)));rw[if_neg (by simp)];refine aaf ?_;simp only[show¬((i:Int)<0) from by lia,abi,acs,Array.getElem?_eq_none ge];refine aaa (aaa (aby hit.typeIs (aaf ?_)));show wpAny _ _ (setField (.ref it) 0 .none>>=_) _ _ s;refine aaa (abR ho hd (by simp) ?_);show wpAny _ _ (newExc (.type "StopIteration") []>>=_) _ _ _;refine aaa ?_;simp only[newExc,newTuple];refine aaa (aaK ?_ (by size_fits));refine aaa (m:=firstArgMember _ _) (wpAny_of_eq (a:=Value.none) (by first|rfl|(simp only[firstArgMember];rfl)) ?_);refine aaK ?_ (by size_fits);simp only[raiseNew];refine aaa (wpAny_handled ?_);rw[show A.in1.handled=none from hh];refine aaa (aaf (wpAny_throw ?_));refine aaa (wpAny_isInstance (T:="StopIteration") (b:=true) ⟨_,aai _ rfl,rfl⟩ isSubtype_stop (aaf (q _ (((acf ..).extBut.push _).push _))))
end
section
variable {X:Cx} {pins:List (Addr×Obj)} {σ:St} {H:Hp} {s:Shared} {a:Addr}
theorem Inv.C7 {kvs:List (List Key×V)} (I:Inv X pins σ H s) (e:H a=some (.dT kvs)):∃o,Inv X pins σ (upd H a (.aD o (.dT kvs))) s:=by
 let⟨z,y,xs,r,o,es,ep,h1,h2,h3,h4,h5⟩:=(show aL X.prog X.w H s.heap a (.dT kvs) from I.ah a _ e);refine⟨o,I.write (x:=a) (e:=a) (t':=s.toks) (by rw[e];exact True.intro) (.inl rfl) (λb q hb z=>z) ⟨o,h1⟩ ⟨h1,z,y,xs,Paired.wj r λ_ _ w=>⟨w.1, ?_,w.2.2⟩,o,es,ep,h1,h2,h3,h4,h5⟩⟩;rw[aq (qp w.2.1 e (λz=>nomatch z))];exact w.2.1
theorem Inv.CV {kvs:List (Key×V)} (I:Inv X pins σ H s) (e:H a=some (.dK kvs)):∃o,Inv X pins σ (upd H a (.aD o (.dK kvs))) s:=by
 let⟨z,y,vs,r,o,es,ep,h1,h2⟩:=(show aL X.prog X.w H s.heap a (.dK kvs) from I.ah a _ e);exact⟨o,I.write (x:=a) (e:=a) (t':=s.toks) (by rw[e];exact True.intro) (.inl rfl) (λb q hb z=>z) ⟨o,h1⟩ ⟨h1,z,y,vs,r,o,es,ep,h1,h2⟩⟩
end
def Hz:List V->Hp->VK->Prop:=λxs H Q=>∃a,xs=[.ref a]/\((∃kvs,Rd H a (.dT kvs)/\Q (.int kvs.length) H)∨∃kvs,Rd H a (.dK kvs)/\Q (.int kvs.length) H)
theorem xN {X:Cx}:ar X (.builtin "len") Hz:=by
 intro pins s σ H xs us Q I r h;let⟨a,rfl,h⟩:=h;let⟨u,rfl,rx⟩:=vals1 r;cases (show u=Value.ref a from rx)
 rcases h with⟨kvs,e,q⟩|⟨kvs,e,q⟩
 ·let⟨z,hd,xs,rel,o,es,ep,h1,h2,h3,h4,_⟩:=fS I.ah e
  have hz:es.size=kvs.length:=by
   rw[abg rel,←aaU,h4,List.length_map]
  refine Ef hd ⟨o,h1,h2,h3⟩ (by rw[hz];rw[abE] at z;lia) λt k=>⟨.int kvs.length,H,I.tok k,⟨t,by rw[hz]⟩,q⟩
 ·exact JA I e λt s' I'=>⟨.int kvs.length,H,I',⟨t,rfl⟩,q⟩
def CA (o:Obj) (h:Heap) (it d:Addr) (i:Nat):Prop:=∃es ep,o.data= .dict es ep/\h.IsKeyIter it d i es.size ep
def Et (d:Addr) (o:Obj) (kvs:List (List Key×V)):It:=
 ⟨λi H=>H d=some (.aD o (.dT kvs))/\i<kvs.length,λi H x H'=>H'=H/\∃c k v,x= .ref c/\kvs[i]?=some (k,v)/\H c=some (.tup (k.map kV)),λi H=>H d=some (.aD o (.dT kvs))/\kvs.length<=i⟩
theorem rp {P:Program} {w:World} {H:Hp} {d:Addr} {o:Obj} {kvs:List (List Key×V)} (ok:bH P w H h) (e:H d=some (.aD o (.dT kvs))):∃es ep xs,o.data= .dict es ep/\jy h d es ep/\es.toList=xs.map (entryOfKey (tupleKind (aJ P w)))/\KT H kvs xs/\es.size=kvs.length/\(d==sysModules)=false:=by
 let⟨h0,z,y,xs,r,o',es,ep,h1,h2,h3,h4,h5⟩:=(show aL P w H h d (.aD o (.dT kvs)) from ok d _ e);rw[h0] at h1;cases h1;exact⟨es,ep,xs,h3,⟨o,h0,h2,h3⟩,h4,r,by rw[abg r,←aaU,h4,List.length_map],y⟩
theorem yn {P:Program} {w:World} {K:PySem.W.Frag} (d it:Addr) (o:Obj) (kvs:List (List Key×V)):Turn P w K tg (Et d o kvs) [it] it (λi h=>CA o h it d i) where
 mem:=by simp
 obj:=λi h st b hb=>by
  let⟨es,ep,_,u,h1,h2,h3⟩:=st;rw[aaD.mp hb];exact⟨u,h1,λv z=>by rw[h3] at z;cases z⟩
 keep:=λi h h' st k=>by
  let⟨es,ep,hd,x⟩:=st;exact⟨es,ep,hd,x.at λo e=>k it (by simp) o e⟩
 item:=by
  intro X hP hw hK hc i pins s σ H E I hf st hg;subst hP hw hK;let⟨es,ep,hdat,hit⟩:=st;let⟨e,lt⟩:=hg;let⟨es',ep',xs,hdat',raw,hes,rel,hsz,_⟩:=rp I.ah e;rw[hdat] at hdat';cases hdat'
  have lt':i<es.size:=by lia
  let⟨f0,f1,f2,f3,f4,f5⟩:=hf it (by simp);refine sM hit raw lt' λh' st' sb=> ?_;have I1:Inv X pins σ H {s with heap:=h'}:=I.turned (t':=s.toks) (λb o hb e=>(sb.2 b hb).trans e) f0 f1 f3 f4 f5;let⟨kv,x,e1,e2,h1,h2,h3⟩:=jB rel i lt
  have ek:es[i].key= .ref x.2.1:=by
   have q:es.toList[i]?=some es[i]:=by simp[lt']
   rw[hes,aaP,e2] at q;have q':entryOfKey (tupleKind (aJ X.prog X.w)) x=es[i]:=Option.some.inj q;rw[←q'];rfl
  let⟨u,v1,v2,v3⟩:=id st';refine⟨es[i].key,rfl,mS (s:={s with heap:=h'}) v1 v2 v3 (by decide) ⟨.ref x.2.1,H,I1,ek,⟨rfl,x.2.1,kv.1,kv.2,rfl,e1,h2⟩,⟨es,ep,hdat,st'⟩,λb hb=>(hf b hb).1⟩⟩
 done:=by
  intro X hP hw hK hc i pins s σ H E I hf st hg;subst hP hw hK;let⟨es,ep,hdat,hit⟩:=st;let⟨e,ge⟩:=hg;let⟨es',ep',xs,hdat',raw,hes,rel,hsz,_⟩:=rp I.ah e;rw[hdat] at hdat';cases hdat';let⟨f0,f1,f2,f3,f4,f5⟩:=hf it (by simp);exact u6 (I.ok.hd hc) hit raw (by lia) λh' eb=>⟨rfl,I.turned (t':=s.toks) (λb o hb e=>eb b o hb e) f0 f1 f3 f4 f5⟩
 self:=λ_ _ _ _ _ st h=>by
  let⟨es,ep,_,hit⟩:=st;exact wpAny_pyIter_keyiter hit h
end L2.L3
namespace L2.L3
open PySem PySem.Spec PyProof.Rows
structure BlockOkC (S sc:Scope):Prop where
 kind:sc.kind= .function
 names:∀y∈sc.names,y.2= .local->sc.names.lookup y.1=some .local
 free:∀y∈sc.names,y.2= .free->S.names.lookup y.1=some .cell∨S.names.lookup y.1=some .free
 cells:∀y∈sc.names,y.2= .cell->sc.names.lookup y.1=some .cell
theorem rA {a b c:Nat} (h:b<a) (k:a<=c):c≠b:=λe=>aa5 _ (aan h (e▸k))
def cF (X:Cx) (own:List (Str×Addr)) (ws:List Str) (caps:List Nat) (sc:Scope) (C:Addr) (fp:List Addr) (pn:List (Addr×Obj)) (s:Shared) (H:Hp):Cx:={BN X ws caps sc C fp pn s H with env:=compEnvC sc (own++bf X.env sc.names []) C X.env,fn:=λx=>sc.names.lookup x==some .cell}
abbrev cX (X:Cx) (E:XK) (own:List (Str×Addr)) (ws:List Str) (caps:List Nat) (sc:Scope) (C:Addr) (fp:List Addr) (pn:List (Addr×Obj)) (s:Shared) (H:Hp):Cx:=
 (cF X own ws caps sc C fp pn s H).af (XE (cF X own ws caps sc C fp pn s H) E)
structure OwnOk (sc:Scope) (own:List (Str×Addr)) (s:Shared) (C:Addr):Prop where
 pl:∀x c,own.lookup x=some c->s.heap.objs.size<=c/\c≠C/\sc.names.lookup x=some .cell
 inj:∀x y c,own.lookup x=some c->own.lookup y=some c->x=y
 has:∀x,sc.names.lookup x=some .cell->(own.lookup x).isSome=true
section
variable {X:Cx} {pins:List (Addr×Obj)} {σ:St} {H:Hp} {s:Shared} {ws:List Str} {caps:List Nat} {sc:Scope} {C:Addr} {fp:List Addr} {pn:List (Addr×Obj)} {own:List (Str×Addr)}
theorem iw (I:Inv X pins σ H s) (B:BlockOkC X.env.scope sc):∀x∈sc.names,x.2= .free->∃c,X.env.cells.lookup x.1=some c:=λx hx hf=>I.ok.has x.1 (B.free x hx hf)
theorem oE (I:Inv X pins σ H s) (B:BlockOkC X.env.scope sc) {x:Str} {c:Addr} (e:(bf X.env sc.names []).lookup x=some c):X.env.cells.lookup x=some c:=
 mI sc.names [] (iw I B) (λ_ _ z=>by cases z) e
theorem iU {l l':List (Str×Addr)} {x:Str}:(l++l').lookup x=(l.lookup x).or (l'.lookup x):=by
 induction l with
 |nil=>rfl
 |cons a t ih=>
  rw[acB,aaJ,aaJ]
  cases x==a.1 with
  |true=>rfl
  |false=>exact ih
theorem lZ (I:Inv X pins σ H s) (B:BlockOkC X.env.scope sc) {x:Str} {c:Addr} (e:(own++bf X.env sc.names []).lookup x=some c):own.lookup x=some c∨X.env.cells.lookup x=some c:=by
 rw[iU] at e
 cases q:own.lookup x with
 |some d=>
  rw[q] at e;exact .inl e
 |none=>
  rw[q] at e;exact .inr (oE I B e)
theorem Cm (O:OwnOk sc own s C) {x:Str} {c:Addr} (fr:sc.names.lookup x=some .free) (e:(bf X.env sc.names []).lookup x=some c):(own++bf X.env sc.names []).lookup x=some c:=by
 rw[iU]
 cases q:own.lookup x with
 |some d=>
  have:=(O.pl x d q).2.2;rw[fr] at this;cases this
 |none=>exact e
theorem DH (O:OwnOk sc own s C) {x:Str} {c:Addr} (z:(sc.names.lookup x==some NameKind.cell)=true) (e:(own++bf X.env sc.names []).lookup x=some c):s.heap.objs.size<=c:=by
 have z':sc.names.lookup x=some NameKind.cell:=beq_iff_eq.mp z;let⟨d,hd⟩:=aa1.mp (O.has x z');rw[iU,hd] at e;cases e;exact(O.pl x _ hd).1
theorem xC (I:Inv X pins σ H s) (O:OwnOk sc own s C) (B:BlockOkC X.env.scope sc) {x y:Str} {c:Addr} (e1:(own++bf X.env sc.names []).lookup x=some c) (e2:(own++bf X.env sc.names []).lookup y=some c):x=y:=by
 have old:∀z,X.env.cells.lookup z=some c->c<s.heap.objs.size:=λz h=>let ⟨v,q⟩:=I.cell z c h;q.lt
 rcases lZ I B e1 with a|a<;>rcases lZ I B e2 with b|b
 ·exact O.inj x y c a b
 ·exact absurd (old y b) (Nat.not_lt.mpr (O.pl x c a).1)
 ·exact absurd (old x a) (Nat.not_lt.mpr (O.pl y c b).1)
 ·exact I.ok.inj x y c a b
theorem yI (O:OwnOk sc own s C) (B:BlockOkC X.env.scope sc) {x:Str} (h:(compEnvC sc (own++bf X.env sc.names []) C X.env).kindOf x=some .cell∨(compEnvC sc (own++bf X.env sc.names []) C X.env).kindOf x=some .free):
  ∃c,(own++bf X.env sc.names []).lookup x=some c:=by
 have e:(compEnvC sc (own++bf X.env sc.names []) C X.env).kindOf x=(sc.names.lookup x).map λk=>if (k==NameKind.free&&X.env.scope.kind== .function&&X.env.kindOf x==some .cell) then NameKind.cell else k:=gr sc.names
 rw[e] at h
 cases q:sc.names.lookup x with
 |none=>
  rw[q] at h
  rcases h with h|h<;>cases h
 |some k=>
  have mem:=aaH q;rw[q] at h
  by_cases hk:k= .free
  ·subst hk;let⟨c,hc⟩:=aa1.mp (jY (env:=X.env) sc.names [] (.inl mem));exact⟨c,Cm O q hc⟩
  ·have hb:(k==NameKind.free)=false:=by simpa using hk
   simp only[ach,hb,Bool.false_and,abk,abi,Option.some.injEq] at h
   rcases h with h|h
   ·subst h;let⟨c,hc⟩:=aa1.mp (O.has x q);refine⟨c, ?_⟩;rw[iU,hc];rfl
   ·exact absurd h hk
theorem E2 (I:Inv X pins σ H s) (O:OwnOk sc own s C) (B:BlockOkC X.env.scope sc) (hf:∀b∈fp,cH X pins H b) (ho:∀b∈fp,∃o,s.heap.get? b=some o) (hC:s.heap.objs.size<=C):(cF X own ws caps sc C fp pn s H).Ok where
 mod:=I.ok.mod
 kind:=B.kind
 glob:=I.ok.glob
 blt:=I.ok.blt
 above:=hC
 inj:=λx y c e1 e2=>xC I O B e1 e2
 has:=λx hx=>yI O B hx
 cab:=λx c z e=>DH O z e
 hd:=I.ok.hd
 frames:=I.ok.frames
 stk:= .inl rfl
 exf:=λb hb=>by
  let⟨o,e⟩:=ho b hb;let⟨_,_,_,_,f4,_⟩:=hf b hb;exact⟨aau (aan (aal e) hC),λx c q=>(lZ I B q).elim (λz=>rA (aal e) (O.pl x c z).1) (f4 x c)⟩
 bs:=I.bs
 bsz:=aaL I.ok.bsz I.sz
 noex:=λb o e hb=>by
  let⟨_,_,_,f3,_⟩:=hf b hb
  rcases f3 with z|z
  ·exact I.ok.noex b o e z
  ·exact absurd (aan (aal e) (aaL I.ok.bsz z)) (aa5 _)
 exfs:=λb hb=>qN I (hf b hb)
 cW:=I.stack
 frf:=I.ke
theorem qC {h1:Heap} {m:Str->Option Value} {t:Nat} (I:Inv X pins σ H s) (O:OwnOk sc own s C) (B:BlockOkC X.env.scope sc) (hf:∀b∈fp,cH X pins H b) (ho:∀b∈fp,∃o,s.heap.get? b=some o) (hC:s.heap.objs.size<=C)
  (hcap:∀k∈caps,sc.names.lookup (X.N.getD k Str.empty)=some .free) (k:∀b o,s.heap.get? b=some o->h1.get? b=some o) (hn:h1.Ns C m) (hw:∀x c,own.lookup x=some c->∃v,h1.IsCell c v):
  Inv (cF X own ws caps sc C fp [] s H) [] (stC ws caps σ) H {s with heap:=h1,toks:=t}:=by
 refine⟨E2 I O B hf ho hC,rfl,I.bare,Un.kept k,⟨m,hn,λi x v e1 e2 e3=> ?_⟩,λx c e=> ?_,I.ah.fresh hC,λx c e=>(lZ I B e).elim (λz=>I.ah.fresh (O.pl x c z).1) (I.freeC x c),λp hp=>absurd (show p∈([]:List (Addr×Obj)) from hp) (by simp),I.ah.kept k, ?_⟩
 ·have e1':(ws++caps.map λi=>X.N.getD i Str.empty)[i]?=some x:=e1;have e2':(ws.map (λ_=>(none:Option V))++caps.map λi=>(σ[i]?).getD none)[i]?=some (some v):=e2
  by_cases hi:i<ws.length
  ·rw[aar (by simpa using hi),aaP] at e2'
   cases q:ws[i]? with
   |none=>
    rw[q] at e2';cases e2'
   |some y=>
    rw[q] at e2';cases e2'
  ·rw[aam (by lia)] at e1';rw[aam (by simp;lia),List.length_map] at e2';rw[aaP] at e1' e2'
   cases q:caps[i-ws.length]? with
   |none=>
    rw[q] at e1';cases e1'
   |some j=>
    rw[q] at e1' e2';have x1:X.N.getD j Str.empty=x:=Option.some.inj e1';have x2:(σ[j]?).getD none=some v:=Option.some.inj e2'
    have x3:σ[j]?=some (some v):=by
     cases z:σ[j]? with
     |none=>
      rw[z] at x2;cases x2
     |some u=>
      rw[z] at x2;exact congrArg some x2
    have hj:j<X.N.length:=by
     rw[←I.len];exact(aac.mp x3).1
    have x4:X.N[j]?=some x:=by
     rw[←x1,aav,aae hj];rfl
    have fr:sc.names.lookup x=some .free:=by
     rw[←x1];exact hcap j (aas q)
    have out:=B.free _ (aaH fr) rfl;have vis:yU X.env.scope x:= .inr out;let⟨m',hn',hl⟩:=I.loc;let⟨u,r,lk⟩:=hl j x v x4 x3 vis;refine⟨u,r, ?_⟩
    rcases lk with⟨hk,_⟩|⟨_,c,hc,hcell⟩
    ·exfalso;have hk':X.env.scope.names.lookup x=some .local:=hk
     rcases out with z|z
     ·have z':X.env.scope.names.lookup x=some .cell:=z;rw[hk'] at z';cases z'
     ·have z':X.env.scope.names.lookup x=some .free:=z;rw[hk'] at z';cases z'
    ·let⟨c',hc'⟩:=aa1.mp (jY (env:=X.env) sc.names [] (.inl (aaH fr)));have ec:=oE I B hc';rw[hc] at ec;cases ec;refine .inr ⟨?_,c,Cm O fr hc', ?_⟩
     ·have e:(compEnvC sc (own++bf X.env sc.names []) C X.env).kindOf x=(sc.names.lookup x).map λk=>if (k==NameKind.free&&X.env.scope.kind== .function&&X.env.kindOf x==some .cell) then NameKind.cell else k:=gr sc.names
      show (compEnvC sc (own++bf X.env sc.names []) C X.env).kindOf x=some .cell∨(compEnvC sc (own++bf X.env sc.names []) C X.env).kindOf x=some .free;rw[e,fr];simp only[ach];split
      ·exact .inl rfl
      ·exact .inr rfl
     ·let⟨o,z1,z2⟩:=hcell;exact⟨o,k _ _ z1,z2⟩
 ·rcases lZ I B e with z|z
  ·exact hw x c z
  ·let⟨v,o,z1,z2⟩:=I.cell x c z;exact⟨v,o,k _ _ z1,z2⟩
 ·show (stC ws caps σ).length=(ws++caps.map λi=>X.N.getD i Str.empty).length;unfold stC;simp
theorem mM {σ':St} {H' H2:Hp} {s':Shared} (I:Inv X pins σ H s) (hf:∀b∈fp,cH X pins H b) (J:Inv (cF X own ws caps sc C fp pn s H) pins' σ' H' s')
  (sb:Heap.SameBut C s'.heap h') (fr:∀b o,s.heap.get? b=some o->H b=none->b∉fp->H2 b=none) (tu:∀b xs,H' b=some (.tup xs)->H2 b=some (.tup xs)) (fz:∀b o u,H' b=some (.aD o u)->H2 b=some (.aD o u)) (tb:∀b ps,H' b=some (.tbl ps)->H2 b=some (.tbl ps))
  (ah:bH X.prog X.w H2 h'):Inv X pins σ H2 {s' with heap:=h'}:=by
 have B:Un (cM X.stack) fp H H' s.heap s'.heap:=J.base;have nC:∀b o,s.heap.get? b=some o->b≠C:=λb o e=>aau (aan (aal e) J.ok.above)
 have un:Un (cM X.stack) fp H H2 s.heap h':=by
  refine⟨λb o e n f c=> ?_,λb o e n f c=> ?_,λb o e n c=>fr b o e n c,λb o e c=> ?_,λb xs q=>tu b xs (B.tups b xs q),λb o u q=>fz b o u (B.aS b o u q),λb ps q=> ?_⟩
  ·exact(sb.2 b (nC b o e)).trans (B.keep b o e n f c)
  ·let⟨sl,z⟩:=B.slot b o e n f c;exact⟨sl,(sb.2 b (nC b o e)).trans z⟩
  ·let⟨o',z⟩:=B.there b o e c;exact⟨o',(sb.2 b (nC b o e)).trans z⟩
  ·let⟨more,z⟩:=B.tbls b ps q;exact⟨more,tb b _ z⟩
 exact I.wo (s':={s' with heap:=h'}) (ch:=fp) J.os un ah J.bare λb hb=>by
  let⟨_,f1,_,f3,f4,f5⟩:=hf b hb;exact⟨f3,f1,f4,f5⟩
end
theorem gQ:∀(l:List (Str×NameKind)) (n:Nat) (acc:List (Str×Addr)),cellsFrom n l acc=cellsFrom n l []++acc
 |[],_,_=>rfl
 |(x,k)::r,n,acc=>by
  unfold cellsFrom;split
  ·rw[gQ r _ ((x,n)::acc),gQ r _ [(x,n)],List.append_assoc];rfl
  ·exact gQ r n acc
theorem j0 {x:Str} {c:Addr}:∀(l:List (Str×NameKind)) (n:Nat) (acc:List (Str×Addr)),(x,c)∈cellsFrom n l acc->(x,c)∈acc∨(x,NameKind.cell)∈l
 |[],_,_,h=> .inl h
 |(y,k)::r,n,acc,h=>by
  unfold cellsFrom at h;split at h
  ·rename_i hk
   rcases j0 r _ _ h with z|z
   ·rcases aap.mp z with e|z
    ·cases e;rw[show k= .cell by simpa using hk];exact .inr aaC
    ·exact .inl z
   ·exact .inr (aat _ z)
  ·exact(j0 r _ _ h).imp id (aat _)
theorem j4 {x:Str}:∀(l:List (Str×NameKind)) (n:Nat) (acc:List (Str×Addr)),((x,NameKind.cell)∈l∨(acc.lookup x).isSome=true)->((cellsFrom n l acc).lookup x).isSome=true
 |[],_,_,h=>h.elim (λz=>by cases z) id
 |(y,k)::r,n,acc,h=>by
  unfold cellsFrom;split
  ·refine j4 r _ _ ?_
   rcases h with h|h
   ·rcases aap.mp h with e|h
    ·cases e;right;simp
    ·exact .inl h
   ·right;rw[aaJ];split
    ·rfl
    ·exact h
  ·rename_i hk;refine j4 r _ _ ?_
   rcases h with h|h
   ·rcases aap.mp h with e|h
    ·cases e;exact absurd rfl hk
    ·exact .inl h
   ·exact .inr h
theorem Du {M:Model} {A:Around} {E:Value->Shared->Prop} {s:Shared} {sc:Scope} {closure:List (Str×Addr)} {qual:Str} {outer:Env} {Q:Env->Shared->Prop}
  (hQ:∀h1 own,h1.Ns s.heap.objs.size (λ_=>none)->(∀b o,s.heap.get? b=some o->h1.get? b=some o)->
   ((∀x c,own.lookup x=some c->h1.IsCell c none/\s.heap.objs.size<c)/\(∀x c,own.lookup x=some c->(x,NameKind.cell)∈sc.names)/\(∀x y c,own.lookup x=some c->own.lookup y=some c->x=y)/\∀x,sc.names.lookup x=some .cell->(own.lookup x).isSome=true)->
   Q (newEnv sc s.heap.objs.size globals (own++closure) qual none .none (some outer) builtinsNs) {s with heap:=h1}):
  wpAny M A (newFunctionEnv sc globals closure [] qual none .none (some outer)) Q E s:=by
 simp only[newFunctionEnv,Option.isSome_some,abQ];refine aaa (wpAny_alloc ?_);refine aaa (wpAny_layCells _ (λname kind cells=>by cases hkc:kind==NameKind.cell<;>simp[hkc]) _ _ _ _ ?_);have ok:=cellsFrom_ok sc.names (s.heap.push {cls:= .type "dict",data:= .dict #[]}) (s.heap.objs.size+1) [] ⟨λ_ _ hm=>(nomatch hm),List.Pairwise.nil⟩ (by rw[aaN];exact aah _);rw[aaN] at ok;rw[show ({s with heap:=s.heap.push {cls:= .type "dict",data:= .dict #[]}}:Shared).heap.objs.size=s.heap.objs.size+1 from aaN ..];refine aaa ?_;rw[aco];refine aaf (aaf ?_);rw[gQ]
 have q:=hQ (pushCells (s.heap.push {cls:= .type "dict",data:= .dict #[]}) sc.names) (cellsFrom (s.heap.objs.size+1) sc.names [])
  ((Heap.Ns.new s.heap (.type "dict")).keeps (pushCells_keeps _ _)) (λb o e=>pushCells_keeps _ _ b o (aad _ e))
  ⟨λx c e=>ok.empty x c (aaH e),λx c e=>(j0 _ _ _ (aaH e)).elim (λz=>by cases z) id,λx y c e1 e2=>name_of_addr ok.apart (aaH e1) (aaH e2),λx e=>j4 _ _ _ (.inl (aaH e))⟩
 exact q
section
variable {X:Cx} {E:XK} {pins:List (Addr×Obj)} {σ:St} {H:Hp} {s:Shared} {ws:List Str} {caps:List Nat} {sc:Scope} {tg iter elt:Expr} {ifs:List Expr} {pos:Pos} {g:TG} {tt:TT} {te:TE} {it:Addr} {fp:List Addr} {tn:Nat->Heap->Prop} {J:It} {Z:List V->Hp->Prop}
 {RR:Value->Addr->Result->Shared->Prop} {E':Value->Shared->Prop}
end
section
variable {X:Cx} {E:XK} {ws:List Str} {caps:List Nat} {sc:Scope} {tg iter elt:Expr} {ifs:List Expr} {pos py spos:Pos} {wi:TI} {g:TG} {tt:TT} {te:TE}
end
end L2.L3
namespace L2.L4
open PySem PySem.Spec L2.L3
open PyProof.Rows hiding lobj
def mK (X:Cx) (E:St->XK) (mk:Option (Addr×Value)->Prop):Value->Shared->Prop:=λe s=>
 ∃(σ:St) (H:Hp) (ea:Addr) (cls:Value) (dx:Option Addr) (tb:Option (Addr×Value)),e= .ref ea/\Inv X.gH [] σ H s/\ExcAt s.heap ea cls dx tb/\Young X H ea/\
  (∀p,tb=some p->Young X H p.1)/\mk tb/\E σ cls dx H
abbrev XE (X:Cx) (E:St->XK):Value->Shared->Prop:=mK X E λ_=>True
abbrev XT (X:Cx) (E:St->XK):Value->Shared->Prop:=mK X E λtb=>∃p,tb=some p
abbrev XL (X:Cx) (E:St->XK):Value->Shared->Prop:=mK X E λtb=>∃T,tb=some (T, .none)
section
variable {X:Cx} {pins:List (Addr×Obj)} {σ:St} {H:Hp} {s s':Shared} {E:St->XK} {e:Value}
theorem nE {M:Model} {E':Value->Shared->Prop} {mk:Option (Addr×Value)->Prop} (fr:Framed X) (hx:cx X) (h:mK X E mk e s):wpAny M X.A (noteFrame e X.env) (λ_ s'=>XT X E e s') E' s:=by
 let⟨F,rest,L,hst,hF,hv⟩:=fr;let⟨σ,H,ea,cls,dx,tb,rfl,I,x,y,yt,_,q⟩:=h
 have fr':X.A.frames=some (F::rest):=by
  rw[←hst];exact I.ok.frames
 have fl:s.heap.FunFrames X.base (F::rest):=by
  rw[←hst];exact I.stack
 refine Dd (bs:=X.base) fr' hF hv fl x λh' T m n x'=> ?_;rw[←hst] at m
 have yT:Young X H T:=by
  rcases n with n|n
  ·let⟨a,b,c⟩:=jK (X:=X.gH) hx I n;exact⟨a,b,c⟩
  ·cases tb with
   |none=>cases n
   |some p=>
    cases n;exact yt p rfl
 have I':Inv X.gH [] σ H {s with heap:=h'}:=by
  refine jA I m λb hb=> ?_
  rcases aap.mp hb with z|z
  ·subst z;exact⟨y.new,(by rw[abc];exact y.npn),y.free,(fX x).1⟩
  ·cases tb with
   |none=>cases z
   |some p=>
    have z':b=p.1:=by simpa using z
    subst z';exact⟨(yt p rfl).new,(by rw[abc];exact(yt p rfl).npn),(yt p rfl).free,(fX x).2 p rfl⟩
 exact⟨σ,H,ea,cls,dx,some (T,rawInt L),rfl,I',x',y,λp hp=>(by cases hp;exact yT),⟨_,rfl⟩,q⟩
theorem je {M:Model} {E':Value->Shared->Prop} {fr:Option Addr} (h:XT X E e s):
  wpAny M X.A (setFlight e fr) (λ_ s'=>mK X E (λtb=>∃T,tb=some (T,fr.elim .none λf=>rawInt f)) e s') E' s:=by
 let⟨σ,H,ea,cls,dx,tb,rfl,I,x,y,yt,⟨⟨T,fl⟩,rfl⟩,q⟩:=h;refine oO x λh' m x'=> ?_;have m':Moved (cM X.gH.stack) [T] s.heap h':=⟨λb o _ c e=>m.keep b o (by simp) c e,m.slot⟩;have yT:=yt _ rfl
 have I':Inv X.gH [] σ H {s with heap:=h'}:=by
  refine jA I m' λb hb=> ?_
  have z:b=T:=by simpa using hb
  subst z;exact⟨yT.new,(by rw[abc];exact yT.npn),yT.free,(fX x).2 _ rfl⟩
 refine⟨σ,H,ea,cls,dx,_,rfl,I',x',y,λp hp=> ?_,⟨_,rfl⟩,q⟩;cases hp;exact yT
theorem GF {M:Model} (h:XT X E e s):cameBackBy M X.A X.env (XE X E) e s:=by
 have h0:=h;let⟨σ,H,ea,cls,dx,tb,rfl,I,x,y,yt,⟨⟨T,fl⟩,rfl⟩,q⟩:=h;let⟨oe,vs,he,hc,hx,hd,hz,x1,x2⟩:=x;unfold cameBackBy;refine aaa (aaE he hd x1 ?_);rw[if_neg (show¬((Value.ref T==Value.none)=true) from by simp)]
 exact aw (je h0) λ_ s1 z902=>by let⟨σ1,H1,e1,c1,d1,t1,a1,a2,a3,a4,a5,_,a6⟩:=z902;exact⟨σ1,H1,e1,c1,d1,t1,a1,a2,a3,a4,a5,trivial,a6⟩
theorem JC {M:Model} (fr:Framed X) (hx:cx X):PassesOwn M X.A X.env (XE X E):=λe s h=>aw (nE fr hx h) λ_ s1 h1=>GF h1
theorem oF {α:Type} {M:Model} {what:String} {cenv:Env} {Q:α->Shared->Prop} (h:XT X E e s):wpAny M X.A (PySem.passOn what e cenv:Sem α) Q (XE X E) s:=by
 have h0:=h;let⟨σ,H,ea,cls,dx,tb,rfl,I,x,y,yt,⟨⟨T,fl⟩,rfl⟩,q⟩:=h;let⟨oe,vs,he,hc,hx,hd,hz,x1,x2⟩:=x;unfold PySem.passOn;refine aaa (aaE he hd x1 ?_);rw[if_neg (show¬((Value.ref T==Value.none)=true) from by simp)];exact aaa (aw (je h0) λ_ s1 z902=>by let⟨σ1,H1,e1,c1,d1,t1,a1,a2,a3,a4,a5,_,a6⟩:=z902;exact wpAny_throw ⟨σ1,H1,e1,c1,d1,t1,a1,a2,a3,a4,a5,trivial,a6⟩)
end
theorem DI {X:Cx} {E:XK} {e:Value} {s:Shared} {E':Value->Shared->Prop} {M:Model} (fr:Framed X) (hex:X.ex=[]) (h:XE X (λ_=>E) e s):wpAny M X.A (leaving X.env e) (λ_ s'=>dz X.prog X.w X.outer X.H₀ X.s₀ E e s') E' s:=by
 have hx:cx X:=λb hb=>by
  rw[hex] at hb;cases hb
 unfold leaving;refine aaa (aw (nE fr hx h) λ_ s1 h1=>aw (je (fr:=none) h1) λ_ s2 h2=> ?_);let⟨σ,H,ea,cls,dx,tb,rfl,I,x,y,yt,⟨T,rfl⟩,q⟩:=h2;have B:Un X.fs X.ex X.H₀ H X.s₀.heap s2.heap:=I.base;rw[hex] at B;exact⟨ea,cls,dx,T,H,rfl,I.os,I.bare,B,I.ah,x,y.new,(yt _ rfl).new,y.free,(yt _ rfl).free,q⟩
theorem yF {X:Cx} {E:St->XK} (hx:cx X) {σ:St} {H:Hp} {s:Shared} {e:Value} (I:Inv (X.af (XE X E)) pins σ H s) (h:dz X.prog X.w X.stack H s (E σ) e s'):XE X E e s':=by
 let⟨ea,cls,dx,T,H',rfl,h1,h2,h3,h4,h5,h6,h7,h8,h9,q⟩:=h;have I1:Inv (X.af (XE X E)) pins σ H' s':=I.wo (ch:=[]) h1 h3 h4 h2 λb z=>absurd z (by simp);have I2:Inv X.gH [] σ H' s':=(I1.aY.af λ_ _=>False).cI λp hp=>absurd hp (by simp);let⟨a1,a2,_⟩:=jK (X:=X.af (XE X E)) hx I h6;let⟨b1,b2,_⟩:=jK (X:=X.af (XE X E)) hx I h7;exact⟨σ,H',ea,cls,dx,_,rfl,I2,h5,⟨a1,a2,h8⟩,λp hp=>(by cases hp;exact⟨b1,b2,h9⟩),trivial,q⟩
abbrev cX (X:Cx) (E:St->XK) (own:List (Str×Addr)) (ws:List Str) (caps:List Nat) (sc:Scope) (C:Addr) (fp:List Addr) (pn:List (Addr×Obj)) (s:Shared) (H:Hp):Cx:=
 (cF X own ws caps sc C fp pn s H).af (XE (cF X own ws caps sc C fp pn s H) E)
section
variable {X:Cx} {E:St->XK} {pins:List (Addr×Obj)} {σ:St} {H:Hp} {s:Shared} {ws:List Str} {caps:List Nat} {sc:Scope} {tg iter elt:Expr} {ifs:List Expr} {pos:Pos} {g:TG} {tt:TT} {te:TE} {it:Addr} {fp:List Addr} {tn:Nat->Heap->Prop} {J:It} {Z:List V->Hp->Prop}
 {RR:Value->Addr->Result->Shared->Prop} {E':Value->Shared->Prop}
theorem ph (fm:Framed X) (hx:cx X) (B:BlockOkC X.env.scope sc) (hc:X.calm=true) (hcap:∀k∈caps,sc.names.lookup (X.N.getD k Str.empty)=some .free)
  (hg:∀own C pn s H,(∀b∈fp,∃o,(b,o)∈pn)->PG (cX X (λ_=>E σ) own ws caps sc C fp pn s H) tg g) (ht:∀own C pn s H,(∀b∈fp,∃o,(b,o)∈pn)->kN (cX X (λ_=>E σ) own ws caps sc C fp pn s H) ifs tt) (he:∀own C pn s H,(∀b∈fp,∃o,(b,o)∈pn)->PE (cX X (λ_=>E σ) own ws caps sc C fp pn s H) elt te)
  (I:Inv (X.af (XE X E)) pins σ H s) (T:Turn X.prog X.w X.K tg J fp it tn) (st:tn 0 s.heap) (hf:∀b∈fp,cH (X.af (XE X E)) pins H b) (h:runC g tt te J (stC ws caps σ) H Z)
  (hdone:∀D C s' H' ys,H' D=none->H' C=none->D≠C->Z ys H'->(∃m,s'.heap.Ns C m)->s.heap.objs.size<=C->(∀h',Heap.SameBut C s'.heap h'->Inv (X.af (XE X E)) pins σ (upd H' D (.lst ys)) {s' with heap:=h'})->RR (.ref D) C (.ok .next) s')
  (herr:∀D C e s',(∃m,s'.heap.Ns C m)->(∀h',Heap.SameBut C s'.heap h'->XT X E e {s' with heap:=h'})->RR (.ref D) C (.error e) s'):
  wpAny (model X.prog X.w) X.A (newList []) (λacc s3=>wpAny (model X.prog X.w) X.A (newFunctionEnv sc X.env.globals (bf X.env sc.names []) [] X.env.qual none .none (some X.env)) (λcenv s4=>
   codeAny (model X.prog X.w) X.A (.compStart (.ListComp elt [⟨tg,iter,ifs,0⟩] sc pos) 0 (.ref it) acc {cenv with scope:=relabel sc X.env}) (RR acc cenv.locals) s4) E' s3) E' s:=by
 refine aaK (Du (λh1 own hns hsb hw0=> ?_));dsimp only at hns hsb hw0⊢;generalize hP:s.heap.push {cls:= .type "list",dict:=none,data:= .seq ([]:List Value).toArray}=P2 at hns hsb hw0⊢
 have zC:P2.objs.size=s.heap.objs.size+1:=by rw[←hP,aaN]
 have leC:s.heap.objs.size<=P2.objs.size:=by rw[zC];exact Nat.le_succ _
 have nDC:s.heap.objs.size≠P2.objs.size:=by rw[zC];exact aau (acb _)
 have old:∀b o,s.heap.get? b=some o->h1.get? b=some o:=λb o e=>
  hsb _ _ (hP▸aad _ e)
 have acc0:h1.get? s.heap.objs.size=some (lobj [] 0):=hsb _ _ (hP▸aai _ rfl);have OO:OwnOk sc own s P2.objs.size:=⟨λx c e=>⟨aaL leC (abf (hw0.1 x c e).2),abr (hw0.1 x c e).2,B.cells _ (hw0.2.1 x c e) rfl⟩,hw0.2.2.1,hw0.2.2.2⟩;have hw:∀x c,own.lookup x=some c->∃v,h1.IsCell c v:=λx c e=>⟨none,(hw0.1 x c e).1⟩;have abv:∀x c,own.lookup x=some c->s.heap.objs.size<c:=λx c e=>ab0 leC (hw0.1 x c e).2;clear hw0
 have there:∀b∈fp,∃o,s.heap.get? b=some o:=λb hb=>let ⟨o,e,_⟩:=T.obj 0 s.heap st b hb;⟨o,e⟩
 generalize hD:s.heap.objs.size=D at*;generalize hCC:P2.objs.size=C at*;have I0:Inv X pins σ H s:=I.aY;have hf0:∀b∈fp,cH X pins H b:=hf;have st1:tn 0 h1:=T.keep 0 s.heap h1 st λb _ o e=>old b o e;have J0:Inv (cF X own ws caps sc C fp [] s H) [] (stC ws caps σ) H {s with heap:=h1}:=qC (t:=s.toks) I0 OO B hf0 there (by lia) hcap old hns hw;have D0:H D=none:=I0.ah.fresh (by lia);have nD1:D≠C:=nDC
 have nDc:∀x c,(own++bf X.env sc.names []).lookup x=some c->c≠D:=λx c e z=>by
  rcases lZ I0 B e with w|w
  ·exact absurd (abv x c w) (by rw[z];exact aa5 _)
  let⟨v,q⟩:=I0.cell x c w;have lt:=q.lt;rw[z,hD] at lt;exact aa5 _ lt
 have nDs:D∉cM X.stack:=λz=>by
  let⟨_,o,e,_⟩:=I0.stack.mem z;have lt:=aal e;rw[hD] at lt;exact aa5 _ lt
 have nDf:D∉fp:=λz=>by
  let⟨o,e⟩:=there D z;have lt:=aal e;rw[hD] at lt;exact aa5 _ lt
 have sD:s.heap.get? D=none:=abb (by lia)
 have stat:∀{H':Hp} {p:List (Addr×Obj)},(∀b∈fp,H' b=none)->(∀q∈p,q.1∉fp)->∀b∈fp,cH (cF X own ws caps sc C fp [] s H) p H' b:=λ{H' p} hn hp b hb=>by
  let⟨o,e⟩:=there b hb;have lt:=aal e;let⟨_,_,_,_,f4,_⟩:=hf0 b hb;exact⟨hn b hb,(by rw[hD] at lt;exact aau (aan lt leC)),qN I0 (hf0 b hb), .inl hb,λx c q=>(lZ I0 B q).elim (λz=>rA lt (OO.pl x c z).1) (f4 x c),λq hq z=>hp q hq (by rw[z];exact hb)⟩
 have err:∀{pn:List (Addr×Obj)} {e:Value} {s':Shared},(∀b∈fp,∃o,(b,o)∈pn)->XE (cF X own ws caps sc C fp pn s H) (λ_=>E σ) e s'->
   notedBy (model X.prog X.w) X.A (compEnvC sc (own++bf X.env sc.names []) C X.env) (λe s'=>RR (.ref D) C (.error e) s') e s':=λ{pn e s'} hh x=>by
  have fm':Framed (cF X own ws caps sc C fp pn s H):=fm;refine aw (nE (X:=cF X own ws caps sc C fp pn s H) fm' hh x) λ_ s2 x2=> ?_;let⟨σ2,H2,ea,cls,dx,tb,rfl,K2,y2,y3,y4,⟨p,rfl⟩,q2⟩:=x2;let⟨mC,nC,_⟩:=K2.loc;have K3:Inv (cF X own ws caps sc C fp pn s H) [] σ2 H2 s2:=K2;refine herr D C _ s2 ⟨mC,nC⟩ λh' sb=> ?_;have r1:=(fX y2).1;have r2:=(fX y2).2 p rfl
  have ne1:ea≠C:=by let⟨o,vs,e1,e2⟩:=r1;exact(nA K2 e1 e2).1
  have ne2:p.1≠C:=by let⟨o,vs,e1,e2⟩:=r2;exact(nA K2 e1 e2).1
  have hk:bH X.prog X.w H2 h':=by
   refine(Moved.ah (fs:=[]) (ch:=[C]) ⟨λb o _ c e=>(sb.2 b (by simpa using c)).trans e,λb o c e=>⟨o.slots,(sb.2 b (by simpa using c)).trans e⟩⟩ K2.ah (λb hb=>absurd hb (by simp)) λb hb=> ?_)
   have z:b=C:=by simpa using hb
   rw[z];exact K2.free
  have I3:Inv X pins σ H2 {s2 with heap:=h'}:=mM I0 hf0 K3 sb (λb o e n c=>K3.base.free b o e n c) (λ_ _ q=>q) (λ_ _ _ q=>q) (λ_ _ q=>q) hk;have I4:Inv X.gH [] σ H2 {s2 with heap:=h'}:=(I3.af λ_ _=>False).cI λp hp=>absurd hp (by simp)
  have yo:∀b,Young (cF X own ws caps sc C fp pn s H) H2 b->Young X H2 b:=λb y=>by
   let⟨a1,a2,_⟩:=jK hx I0 y.new;exact⟨a1,a2,y.free⟩
  refine⟨σ,H2,ea,cls,dx,some p,rfl,I4, ?_,yo _ y3,λp' hp'=>(by cases hp';exact yo _ (y4 p rfl)),⟨p,rfl⟩,q2⟩;let⟨oe,vs,e1,e2,e3,e4,e5,e6,e7,oT,ts,e8,e9,e10⟩:=y2;exact⟨oe,vs,(sb.2 _ ne1).trans e1,e2,e3,e4,e5,e6,e7,oT,ts,(sb.2 _ ne2).trans e8,e9,e10⟩
 let⟨W,⟨m0,w0⟩,turn⟩:=h
 have loop:codeAny (model X.prog X.w) X.A (.compLoop (.ListComp elt [⟨tg,iter,ifs,0⟩] sc pos) 0 (.ref it) (.ref D) (compEnvC sc (own++bf X.env sc.names []) C X.env)) (RR (.ref D) C) {s with heap:=h1}:=by
  refine wQ (λn s'=>∃i ys its k σ' H',Inv (cF X own ws caps sc C fp [] s H) [(D,lobj its k)] σ' H' s'/\Vals ys its/\ys.length<=sizeLine/\tn i s'.heap/\(∀b∈fp,H' b=none)/\W i n ys σ' H') ?_ m0
   ⟨0,[],[],0,stC ws caps σ,H,J0.cI λp hp=> ?_, .nil,aaV _,st1,λb hb=>(hf0 b hb).1,w0⟩
  rotate_left
  ·have z:p=(D,lobj [] 0):=by simpa using hp
   subst z;exact⟨acc0,D0,nD1,nDs,λv z=>by cases z⟩
  rintro n s1 ⟨i,ys,its,k,σ1,H1,I1,rv,hz,st1',fr1,w1⟩
  have nq:∀q∈[(D,lobj its k)],q.1∉fp:=λq hq=>by
   have z:q=(D,lobj its k):=by simpa using hq
   rw[z];exact nDf
  rcases turn i n ys σ1 H1 w1 with⟨stop,zq⟩|⟨go,N,hN,step⟩
  ·refine aaQ (T.done (cF X own ws caps sc C fp [] s H) rfl rfl rfl hc i [(D,lobj its k)] s1 σ1 H1 (λ_ _=>False) I1 (stat fr1 nq) st1' stop) (λr s2 z902=> ?_) λ_ _ z=>z.elim;let⟨hr,I2⟩:=z902;subst hr;let⟨mC,nC,_⟩:=I2.loc;have p2:=I2.pin (D,lobj its k) (by simp);refine hdone D C s2 H1 ys p2.2.1 I2.free nD1 zq ⟨mC,nC⟩ (by lia) λh' sb=> ?_
   have hk:bH X.prog X.w (upd H1 D (.lst ys)) h':=by
    have t1:Inv (cF X own ws caps sc C fp [] s H) [] σ1 (upd H1 D (.lst ys)) s2:=kh (o:= .lst ys) (I2.cI (pins':=[]) λp hp=>absurd hp (by simp)) p2.2.1 sD nD1 nDc (λp hp=>absurd (show p∈([]:List (Addr×Obj)) from hp) (by simp)) ⟨hz,its,k,rv,p2.1⟩;refine(Moved.ah (fs:=[]) (ch:=[C]) ⟨λb o _ c e=>(sb.2 b (by simpa using c)).trans e,λb o c e=>⟨o.slots,(sb.2 b (by simpa using c)).trans e⟩⟩ t1.ah (λb hb=>absurd hb (by simp)) λb hb=> ?_)
    have z:b=C:=by simpa using hb
    rw[z];exact t1.free
   have nn:∀b u,H1 b=some u->upd H1 D (.lst ys) b=some u:=λb u q=>by
    rw[aq (bE q p2.2.1)];exact q
   exact(mM I0 hf0 I2 sb (λb o e nb c=>by
    have hb:b≠D:=λz=>by rw[z,sD] at e;cases e
    rw[aq hb]
    exact I2.base.free b o e nb c) (λb xs q=>nn _ _ q) (λb o u q=>nn _ _ q) (λb ps q=>nn _ _ q) hk).af _
  ·refine aaQ (T.item (cF X own ws caps sc C fp [] s H) rfl rfl rfl hc i [(D,lobj its k)] s1 σ1 H1 (λ_ _=>False) I1 (stat fr1 nq) st1' go) (λr s2 z902=> ?_) λ_ _ z=>z.elim;let⟨u,hr,h2⟩:=z902;subst hr;refine aaQ h2 (λ_ s3 z902=> ?_) λ_ _ z=>z.elim;let⟨x,H3,I3,r3,y3,st3,fr3⟩:=z902;have p3:=I3.pin (D,lobj its k) (by simp)
   have hh:∀b∈fp,∃o,(b,o)∈(D,lobj its k)::bP fp s3.heap:=λb hb=>by
    let⟨o,e,_⟩:=T.obj _ _ st3 b hb;exact⟨o,aat _ (dB hb e)⟩
   have I3':Inv (cX X (λ_=>E σ) own ws caps sc C fp ((D,lobj its k)::bP fp s3.heap) s H) [] σ1 H3 s3:=by
    have q:Inv (cF X own ws caps sc C fp ((D,lobj its k)::bP fp s3.heap) s H) [] σ1 H3 s3:=by
     have i4:=I3.pinned (stat fr3 nq) (T.obj _ _ st3)
     exact gF (qn:=(D,lobj its k)::bP fp s3.heap) (q:=[]) i4 λp hp=>by simpa[cF,BN] using hp
    exact q.af _
   refine aaQ (hg own C ((D,lobj its k)::bP fp s3.heap) s H hh [] s3 σ1 H3 x u _ I3' r3 (step x H3 y3)) (λ_ s4 z902=> ?_) λe s' z=>err hh z;let⟨σ4,H4,I4,q4⟩:=z902;refine aaQ (ht own C ((D,lobj its k)::bP fp s3.heap) s H hh [] s4 σ4 H4 _ I4 q4) (λok s5 z902=> ?_) λe s' z=>err hh z;let⟨H5,I5,q5⟩:=z902
   have back:∀{σ9:St} {H9:Hp} {s9:Shared},Inv (cX X (λ_=>E σ) own ws caps sc C fp ((D,lobj its k)::bP fp s3.heap) s H) [] σ9 H9 s9->Inv (cF X own ws caps sc C fp [] s H) [(D,lobj its k)] σ9 H9 s9/\tn (i+1) s9.heap/\∀b∈fp,H9 b=none:=λ{σ9 H9 s9} I9=>by
    have i1:Inv (cF X own ws caps sc C fp ((D,lobj its k)::bP fp s3.heap) s H) [] σ9 H9 s9:=I9.aY;refine⟨gF (qn:=[]) (q:=[(D,lobj its k)]) i1 λp hp=> ?_,T.keep _ _ _ st3 λb hb o e=> ?_,λb hb=> ?_⟩
    ·have z:p=(D,lobj its k):=by simpa using hp
     subst z;simp[cF,BN]
    ·exact(i1.pin (b,o) (aaY _ (aat _ (dB hb e)))).1
    ·let⟨o,e,_⟩:=T.obj _ _ st3 b hb;exact(i1.pin (b,o) (aaY _ (aat _ (dB hb e)))).2.1
   cases ok with
   |false=>
    rw[if_neg aaq] at q5⊢;let⟨m',hm,w5⟩:=hN _ _ _ q5;let⟨b1,b2,b3⟩:=back I5;exact⟨m',hm,i+1,ys,its,k,σ4,H5,b1,rv,hz,b2,b3,w5⟩
   |true=>
    rw[if_pos rfl] at q5⊢;refine aaQ (he own C ((D,lobj its k)::bP fp s3.heap) s H hh [] s5 σ4 H5 _ I5 q5) (λv s6 z902=> ?_) λe s' z=>err hh z;let⟨xv,H6,I6,r6,hlt,nq⟩:=z902;let⟨m',hm,w6⟩:=hN _ _ _ nq;let⟨b1,b2,b3⟩:=back I6;have p6:=b1.pin (D,lobj its k) (by simp)
    have t1:Inv (cF X own ws caps sc C fp [] s H) (bP fp s6.heap) σ4 (upd H6 D (.lst ys)) s6:=by
     have c1:=(b1.cI (pins':=[]) λp hp=>absurd hp (by simp)).pinned (fp:=fp) (stat b3 λq hq=>absurd hq (by simp)) (T.obj _ _ b2);refine kh (o:= .lst ys) c1 p6.2.1 sD nD1 nDc (λp hp=> ?_) ⟨hz,its,k,rv,p6.1⟩
     have hp':p∈bP fp s6.heap:=by simpa[cF,BN] using hp
     intro z;exact nDf (z▸(pQ hp').1)
    refine aaQ (pV (X:=cF X own ws caps sc C fp [] s H) (bP fp s6.heap) s6 σ4 (upd H6 D (.lst ys)) (.ref D) [xv] (.ref D) [v] (λ_ H7=>H7=upd (upd H6 D (.lst ys)) D (.lst (ys++[xv]))) t1 rfl (.cons r6 .nil) ⟨D,ys,xv,rfl,rfl,ak,hlt,rfl⟩) (λ_ s7 z902=> ?_) λ_ _ z=>z.elim;let⟨_,H7,I7,_,q7⟩:=z902;subst q7;rw[iF] at I7;let⟨z7,its7,n7,v7,l7,e7⟩:=I7.lT ak;have I8:=DD I7 p6.2.1;refine⟨m',hm,i+1,ys++[xv],its7,n7,σ4,H6, ?_,v7,z7,T.keep _ _ _ b2 λb hb o e=> ?_,b3,w6⟩
    ·refine I8.cI λp hp=> ?_
     have z:p=(D,lobj its7 n7):=by simpa using hp
     subst z;exact⟨e7,p6.2.1,nD1,nDs,λv z=>by cases z⟩
    ·exact(I8.pin (b,o) (aaA _ (dB hb e))).1
 exact codeAny_compStart_list loop (T.self _ 0 _ _ _ st1 loop)
end
def Cu (ws:List Str) (caps:List Nat) (wi:TI) (g:TG) (tt:St->TT) (te:St->TE):TE:=λσ H Q=>wi σ H λJ H1=>runC g (tt σ) (te σ) J (stC ws caps σ) H1 λys H'=>∀D,H' D=none->Q (.ref D) (upd H' D (.lst ys))
def BL (i:Nat) (ws:List Str) (caps:List Nat) (wi:TI) (g:TG) (tt:St->TT) (te:St->TE):TS:=λD σ H=>wi σ H λJ H1=>runC g (tt σ) (te σ) J (stC ws caps σ) H1 λys H'=>∀a,H' a=none->D.nx (σ.set i (some (.ref a))) (upd H' a (.lst ys))
section
variable {X:Cx} {E:St->XK} {ws:List Str} {caps:List Nat} {sc:Scope} {tg iter elt:Expr} {ifs:List Expr} {pos py spos:Pos} {wi:TI} {g:TG} {tt:St->TT} {te:St->TE}
theorem zG (fm:Framed X) (hx:cx X) (B:BlockOkC X.env.scope sc) (hc:X.calm=true) (hcap:∀k∈caps,sc.names.lookup (X.N.getD k Str.empty)=some .free) (hi:PI (X.af (XE X E)) tg iter wi)
  (hg:∀σ own C fp pn s H,(∀b∈fp,∃o,(b,o)∈pn)->PG (cX X (λ_=>E σ) own ws caps sc C fp pn s H) tg g) (ht:∀σ own C fp pn s H,(∀b∈fp,∃o,(b,o)∈pn)->kN (cX X (λ_=>E σ) own ws caps sc C fp pn s H) ifs (tt σ))
  (he:∀σ own C fp pn s H,(∀b∈fp,∃o,(b,o)∈pn)->PE (cX X (λ_=>E σ) own ws caps sc C fp pn s H) elt (te σ)) (hs:∀x,foldedSetIterable iter X.env x=pure x:=by intro _;rfl):
  PE (X.af (XE X E)) (.ListComp elt [⟨tg,iter,ifs,0⟩] sc pos) (Cu ws caps wi g tt te):=by
 intro pins s σ H Q I h;have fc:=iw I.aY B;show wpAny (model X.prog X.w) X.A (eval (.ListComp elt [⟨tg,iter,ifs,0⟩] sc pos) X.env) _ (XE X E) s;rw[eval_ListComp];refine wpAny_comprehension_free (use:=none) (cl:=bf X.env sc.names []) rfl hs (ju fc) B.kind B.names (aw (hi pins s σ H _ I h) λv s1 h1=>aw h1 λitv s2 h2=> ?_);let⟨it,fp,tn,J,H2,e,I2,T,st,f2,q⟩:=h2;subst e
 refine ph (RR:=λacc C=>compPost (model X.prog X.w) X.A (XE X E) none (EP (X.af (XE X E)) pins σ Q) acc C) fm hx B hc hcap (λown C pn s H=>hg σ own C fp pn s H) (λown C pn s H=>ht σ own C fp pn s H) (λown C pn s H=>he σ own C fp pn s H) I2 T st f2 q
  (λD C s' H' ys hD _ _ z z909 _ k=>by let⟨m,hn⟩:=z909;exact⟨m,hn,λh' sb=>⟨.ref D,_,k h' sb,rfl,z D hD⟩⟩) λD C e s' z904 k=>by let⟨m,hn⟩:=z904;exact⟨m,hn,λh' sb cenv _=>oF (k h' sb)⟩
theorem zW {i:Nat} {y:Str} (fm:Framed X) (hx:cx X) (B:BlockOkC X.env.scope sc) (hc:X.calm=true) (hcap:∀k∈caps,sc.names.lookup (X.N.getD k Str.empty)=some .free) (hN:X.N.Nodup) (hy:X.N[i]?=some y) (hl:X.env.scope.names.lookup y=some .local)
  (hi:PI (X.af (XE X E)) tg iter wi)
  (hg:∀σ own C fp pn s H,(∀b∈fp,∃o,(b,o)∈pn)->PG (cX X (λ_=>E σ) own ws caps sc C fp pn s H) tg g) (ht:∀σ own C fp pn s H,(∀b∈fp,∃o,(b,o)∈pn)->kN (cX X (λ_=>E σ) own ws caps sc C fp pn s H) ifs (tt σ))
  (he:∀σ own C fp pn s H,(∀b∈fp,∃o,(b,o)∈pn)->PE (cX X (λ_=>E σ) own ws caps sc C fp pn s H) elt (te σ))
  (hsw:swapsWith (.ListComp elt [⟨tg,iter,ifs,0⟩] sc pos) (some (.Name y py)) spos.line X.env=pure true:=by rfl) (hs:∀x,foldedSetIterable iter X.env x=pure x:=by intro _;rfl):
  PS (X.af (XE X E)) (.Assign [.Name y py] (.ListComp elt [⟨tg,iter,ifs,0⟩] sc pos) spos) (BL i ws caps wi g tt te):=by
 intro pins s σ H D I h;show wpAny (model X.prog X.w) X.A (exec (.Assign [.Name y py] (.ListComp elt [⟨tg,iter,ifs,0⟩] sc pos) spos) X.env) _ _ s;rw[exec_Assign_Name_used _ _ _ _ hsw];refine aaa (acW (aaa ?_))
 show wpAny _ X.A (do let _←comprehension (.ListComp elt [⟨tg,iter,ifs,0⟩] sc pos) sc X.env _ (newList []) false (eval iter X.env) (some (assign (.Name y py) X.env))) _ _ s
 refine aaa (aw (wpAny_comprehension_free (use:=some (assign (.Name y py) X.env)) (cl:=bf X.env sc.names []) (Q:=λ_ s'=>SP (X.af (XE X E)) pins D .next s') rfl hs (ju (iw I.aY B)) B.kind B.names
  (aw (hi pins s σ H _ I h) λv s1 h1=>aw h1 λitv s2 h2=> ?_)) λ_ s' q=>aaf (aaf q))
 let⟨it,fp,tn,J,H2,e,I2,T,st,f2,q⟩:=h2;subst e
 refine ph (RR:=λacc C=>compPost (model X.prog X.w) X.A (XE X E) (some (assign (.Name y py) X.env)) (λ_ s'=>SP (X.af (XE X E)) pins D .next s') acc C) fm hx B hc hcap (λown C pn s H=>hg σ own C fp pn s H) (λown C pn s H=>ht σ own C fp pn s H) (λown C pn s H=>he σ own C fp pn s H) I2 T st f2 q
  (λa C s' H' ys hD fC naC z ⟨m,hn⟩ hC k=> ?_) λD C e s' z904 k=>by let⟨m,hn⟩:=z904;exact⟨m,hn,λh' sb cenv _=>oF (k h' sb)⟩
 have k0:=k s'.heap (.refl ..);have I3:Inv X pins σ (upd H' a (.lst ys)) s':=Inv.aY k0;show wpAny (model X.prog X.w) X.A (assign (.Name y py) X.env (.ref a)) _ _ s';have nL:X.env.locals≠C:=aau (aan I2.aY.lt hC)
 have nC:∀x c,X.env.cells.lookup x=some c->c≠C:=λx c e=>by
  let⟨v,q⟩:=I2.aY.cell x c e;exact aau (aan q.lt hC)
 refine wpAny_assign_Name (pU (X:=X) I3 hN hy (.inl hl) (show RelV (.ref a) (.ref a) from rfl) (λs3 I4 z902=> ?_) (.inr hl));let⟨b,sb,hb⟩:=z902
 have nb:C≠b:=by
  rcases hb with rfl|hb
  ·exact nL.symm
  ·exact(nC _ _ hb).symm
 refine⟨m,hn.sameBut sb nb,λh' sb'=> ?_⟩;have mv:Moved (cM X.stack) [C] s3.heap h':=⟨λb o _ c e=>(sb'.2 b (by simpa using c)).trans e,λb o c e=>⟨o.slots,(sb'.2 b (by simpa using c)).trans e⟩⟩
 have uC:upd H' a (.lst ys) C=none:=by
  rw[aq naC.symm];exact fC
 have I5:Inv X pins (σ.set i (some (.ref a))) (upd H' a (.lst ys)) {s3 with heap:=h'}:=by
  refine Ce (s':={s3 with heap:=h'}) (ch:=[C]) I4 rfl mv.un (mv.ah I4.ah I4.ke λb hb=> ?_) I4.bare λb hb=> ?_
  ·have e:b=C:=by simpa using hb
   rw[e];exact uC
  ·have e:b=C:=by simpa using hb
   subst e;refine⟨abb (aaL I2.aY.sz hC),nL.symm,nC,I2.aY.Fp hC,λp hp=> ?_⟩;exact aau (aan (aal (I2.aY.pin p hp).1) hC)
 exact⟨_,_,I5.af _,z a hD⟩
end
end L2.L4
namespace L2.L3
open PySem PySem.Spec PyProof.Rows PySem.W
abbrev SW:=List V->List V->Hp->Prop
def qt (sp:Sp) (kS:Addr) (W:SW):Prop:=∀y rest kv H',W (y::rest) kv H'->sp [y] H' (λv H2=>∃kv2,kv2.length=kv.length/\H2 kS=some (.lst kv2)/\W rest (kv2++[v]) (upd H2 kS (.lst (kv2++[v])))) (λ_ _ _=>False)
section
variable {X:Cx} {pins:List (Addr×Obj)} {σ:St} {H:Hp} {s:Shared} {k:Nat} {f:Addr} {fd:FuncData} {ps:List Str} {sp:Sp}
theorem mX {W:SW} {E:Value->Shared->Prop} {R:Shared->Prop} (F:FnOk X.prog X.w X.K X.mg X.base (dz X.prog X.w) k f fd ps sp) (hr:Room k X.A.in1.in1) (hb:Binds X.K fd ps []) (hW:qt sp kS W) {body:Value->PUnit->Sem (ForInStep PUnit)}
  (hbody:∀x (s:Shared) (C:Shared->Prop),wpAny (model X.prog X.w) X.A.in1.in1 (call (.ref f) [x]) (λu s'=>wpAny (model X.prog X.w) X.A.in1.in1 (Builtin.List.listUpdate (.ref kS) (·.push u)) (λ_ s''=>C s'') E s') (λ_ _=>False) s->
   wpAny (model X.prog X.w) X.A.in1.in1 (body x ⟨⟩) (λr s''=>r= .yield ⟨⟩/\C s'') E s):
  ∀{ys:List V} {us:List Value},Vals ys us->∀(kv:List V) (H':Hp) (s:Shared),Inv X pins σ H' s->H' kS=some (.lst kv)->W ys kv H'->kv.length+ys.length<64->
   (∀kv' H'' s'',Inv X pins σ H'' s''->H'' kS=some (.lst kv')->W [] kv' H''->kv'.length=kv.length+ys.length->R s'')->wpAny (model X.prog X.w) X.A.in1.in1 (forIn us PUnit.unit body) (λ_ s''=>R s'') E s
 |_,_, .nil,kv,H',s,I,hk,hw,hl,fin=>by
  rw[aco];exact aaf (fin kv H' s I hk hw rfl)
 |y::ys,u::us, .cons r rr,kv,H',s,I,hk,hw,hl,fin=>by
  rw[acg];rw[aaw] at hl;refine aaa (aaQ (hbody u s (λs''=>wpAny (model X.prog X.w) X.A.in1.in1 (forIn us PUnit.unit body) (λ_ s''=>R s'') E s'') ?_) (λr' s'' h=> ?_) λ_ _ e=>e)
  ·refine aw (zJ F hr hb I r (hW y ys kv H' hw)) λw s1 zq10=> ?_;let⟨v,H2,I2,rv,kv2,l2,hk2,w2⟩:=zq10;let⟨z,its,n,rt,hlen,e⟩:=I2.lT hk2;refine listUpdate_at e rfl ?_ (by rw[aak];lia) (by rw[Array.size_push,aak];lia)
   have hz:(kv2++[v]).length<=sizeLine:=by
    rw[aaZ,ab6];exact abf (gP (by lia))
   have I3:=I2.we (f:=(·.push w)) (its':=its++[w]) (t':=s1.toks) hk2 e (by simp) (rt.append (.cons rv .nil)) hz
   exact mX F hr hb hW hbody rr (kv2++[v]) _ _ I3 ak w2 (by rw[aaZ,ab6];lia) (λkv' H'' s'' a1 a2 a3 a4=>fin kv' H'' s'' a1 a2 a3 (by
    rw[a4,aaZ,ab6,aaw]
    lia))
  ·let⟨rfl,h⟩:=h;exact h
end
section
variable {X:Cx} {pins:List (Addr×Obj)} {σ:St} {H:Hp} {s:Shared} {D kS:Addr} {e1:Nat} {zs kv:List V} {ws:List Value} {E:Value->Shared->Prop} {A:Around}
def B3 (X:Cx) (pins:List (Addr×Obj)) (σ:St) (H:Hp) (kS D:Addr) (zs:List V) (s':Shared):Prop:=Inv X pins σ (upd (upd H kS (.lst [])) D (.lst zs)) s'/\upd H kS (.lst []) D=none
theorem mQ {st:SortSt} (I:Inv X ((D,seqObj "list" #[] e1)::pins) σ H s) (hk:H kS=some (.lst kv)) (pD:Place X pins D) (hv:Vals zs ws) (hz:zs.length<64) (hout:(arrOf st).map (·.2)=ws.toArray) (hf:failedOf st=none):
  wpAny (model X.prog X.w) A (ksk_tail D false e1 (.ref kS) st) (λfin s'=>fin= .done (.ret .none)/\B3 X pins σ H kS D zs s') E s:=by
 let⟨z,its,n,rt,hlen,e⟩:=I.lT hk;have hws:ws.length=zs.length:=hv.length.symm;unfold ksk_tail
 try dsimp only
 rw[hout];refine aaa (listUpdate_at e rfl ?_ (by rw[aak];lia) (aaV _));refine aaa (abO ?_);have I1:=I.we (f:=λ_=>#[]) (its':=[]) (ys:=[]) (t':=s.toks) hk e rfl .nil (aaV _);have pD1:=I1.pin (D,seqObj "list" #[] e1) (aaA _ aaC);have gD:(s.heap.update kS (Obj.mapSeq λ_=>(#[]:Array Value))).get? D=some (seqObj "list" #[] e1):=pD1.1;refine aaa (seqEpoch_at gD rfl ?_);refine aaa (listUpdate_at gD rfl ?_ (aaV _) (by show (if false=true then _ else ws.toArray).size<=_;rw[if_neg (by decide),aak,abE];lia));rw[hf];simp only[bne_self_eq_false,abk,abi];refine aaf ⟨rfl, ?_,pD1.2.1⟩;have I2:Inv X pins σ (upd H kS (.lst [])) {s with heap:=s.heap.update kS (Obj.mapSeq λ_=>(#[]:Array Value))}:=I1.cI λp hp=>I1.pin p (aaA _ (aat _ hp));have fD:=pD.fp (upd H kS (.lst [])) pD1.2.1
 have I3:Inv X pins σ (upd H kS (.lst [])) {s with heap:=(s.heap.update kS (Obj.mapSeq λ_=>(#[]:Array Value))).update D (Obj.mapSeq λ_=>ws.toArray)}:=
  kq (s:={s with heap:=s.heap.update kS (Obj.mapSeq λ_=>(#[]:Array Value))}) (h':=(s.heap.update kS (Obj.mapSeq λ_=>(#[]:Array Value))).update D (Obj.mapSeq λ_=>ws.toArray)) (ch:=[D]) (t':=s.toks) I2 (λb hb=>by rw[aaD.mp hb];exact fD) λb o hb q=>(aaF _ _ (λz=>hb (by simp[z]))).trans q
 have q:=PySem.IsL.update (items:=#[]) gD (λ_=>ws.toArray);exact kh I3 pD1.2.1 pD.nw fD.2.1 fD.2.2.2.2.1 fD.2.2.2.2.2 ⟨abf (gP (by lia)),ws,_,hv,q⟩
end
section
variable {X:Cx} {pins:List (Addr×Obj)} {σ:St} {H:Hp} {s:Shared} {D kS:Addr} {e1 m:Nat} {ys kv:List V} {us its:List Value} {keys:List (List Int)} {E:Value->Shared->Prop} {A:Around}
theorem zk (I:Inv X ((D,seqObj "list" #[] e1)::pins) σ H s) (hk:H kS=some (.lst kv)) (pD:Place X pins D) (hi:Vals kv its) (hkeys:Paired (fT H) kv keys) (hy:Vals ys us) (hl:kv.length=ys.length) (h64:ys.length<64) (hm:0<m) (hkm:∀k∈keys,k.length=m):
  wpAny (model X.prog X.w) A (ksk_end D false us.toArray e1 (.ref kS) its.toArray) (λfin s'=>fin= .done (.ret .none)/\∃p:List Nat,p.Perm (List.range ys.length)/\mY keys p/\B3 X pins σ H kS D (p.map λi=>ys.getD i .non) s') E s:=by
 have lu:us.length=ys.length:=hy.length.symm
 have li:its.length=us.length:=by rw[←hi.length,hl,lu]
 unfold ksk_end
 try dsimp only
 simp only[abk,abi]
 by_cases h2:us.toArray.size<2
 ·rw[if_pos h2,if_pos h2];refine aaa (aaf ?_)
  have hout:(arrOf (SortSt.mk' general' (its.toArray.zip us.toArray) #[] 7 none)).map (·.2)=us.toArray:=by
   show (its.toArray.zip us.toArray).map (·.2)=us.toArray;apply acC.mp;rw[Array.toList_map,ksk_zip];show (its.zip us).map Prod.snd=us;exact List.map_snd_zip (by lia)
  have T:=mQ (E:=E) (A:=A) (st:=SortSt.mk' general' (its.toArray.zip us.toArray) #[] 7 none) I hk pD hy h64 hout rfl;refine aaa (aaf ?_);refine aaQ T (λfin s' zq11=> ?_) λ_ _ e=>e;let⟨a,b⟩:=zq11;refine⟨a,List.range ys.length, .refl _, ?_,by rw[range_getD];exact b⟩
  have hn:ys.length<2:=by
   rw[aak] at h2;lia
  have:ys.length=0∨ys.length=1:=by lia
  rcases this with h|h
  ·rw[h];exact List.Pairwise.nil
  ·rw[h];exact List.Pairwise.cons (λ_ h=>by cases h) List.Pairwise.nil
 ·rw[if_neg h2,if_neg h2]
  have hn:2<=ys.length:=by
   rw[aak] at h2;lia
  let⟨fs,f1,f2,f3⟩:=sT I hm hi hkeys hkm;refine aaa (kat_kind (T:= .type "int") f2 (by lia) (λv hv=> ?_) (by decide) ?_)
  ·let⟨i,t,rfl⟩:=f3 v hv;exact PySem.W.Looks.now
  have O:SortT.Ord (λi j=>HT.lexLt (keys.getD i []) (keys.getD j [])):=⟨λa b c x y=>qQ x y,λa b x=>mr x⟩;let⟨o1,o2,o3⟩:=SortT.om O (n:=us.length) (by lia)
  refine aaa (aaQ (kat_run (E:=E) (Q:=λst' s'=>s'=s/\∃p:Array Nat,arrOf st'=p.map (kas_item (its.toArray.zip us.toArray))/\failedOf st'=none/\p=SortT.ai (λi j=>HT.lexLt (keys.getD i []) (keys.getD j [])) (kas_sort us.length)) (G:=λp s'=>s'=s/\p=SortT.ai (λi j=>HT.lexLt (keys.getD i []) (keys.getD j [])) (kas_sort us.length))
   li (by lia) (by lia) (λp st' s' _ b1 b2 b3=>⟨b3.1,p,b1,b2,b3.2⟩) ?_) ?_ λ_ _ e=>e)
  ·refine SortT.wp_run (n:=us.length) (λi j C hi' hj' hC=> ?_) o1 ⟨rfl,rfl⟩;let⟨a,oa,xs,n,ea,ga,da,va,ma⟩:=vy I hi hkeys (i:=i) (by lia);let⟨b,ob,xb,nb,eb,gb,db,vb,mb⟩:=vy I hi hkeys (i:=j) (by lia);unfold kas_ask;rw[ea,eb];refine kat_lt ga da gb db (qV 0 va vb (by rw[hkm _ ma,hkm _ mb]) ?_ hC);have l1:=va.length;have l2:=vb.length;rw[List.length_map,hkm _ ma,aaU] at l1;rw[List.length_map,hkm _ mb,aaU] at l2;exact aaB (by lia)
  ·rintro ⟨⟨⟩,st'⟩ s' ⟨rfl,p,har,hf,rfl⟩
   try dsimp only
   have hp:∀i∈(SortT.ai (λi j=>HT.lexLt (keys.getD i []) (keys.getD j [])) (kas_sort us.length)).toList,i<ys.length:=λi hi=>by
    have:=abP.mp (o2.mem_iff.mp hi);lia
   have T:=mQ (E:=E) (A:=A) (st:=st') I hk pD (pC hy hp) (by rw[List.length_map,o2.length_eq,ac2];lia) (kat_snds li har) hf;refine aaQ T (λfin s' zq12=> ?_) λ_ _ e=>e;let⟨a,b⟩:=zq12;refine⟨a,_,by rw[←lu];exact o2, ?_,b⟩;refine List.pairwise_iff_getElem.mpr λi j h1 h2 hij=> ?_
   have sz:(SortT.ai (λi j=>HT.lexLt (keys.getD i []) (keys.getD j [])) (kas_sort us.length)).toList.length=us.length:=by rw[o2.length_eq,ac2]
   have z:=o3 i j (abf hij) (by lia)
   have gi:∀k (hk:k<(SortT.ai (λi j=>HT.lexLt (keys.getD i []) (keys.getD j [])) (kas_sort us.length)).toList.length),SortT.g (SortT.ai (λi j=>HT.lexLt (keys.getD i []) (keys.getD j [])) (kas_sort us.length)) k=(SortT.ai (λi j=>HT.lexLt (keys.getD i []) (keys.getD j [])) (kas_sort us.length)).toList[k]:=λk hk=>by
    rw[SortT.jq,←Array.getElem?_toList,aae hk];rfl
   rw[gi j h2,gi i h1] at z;exact z
end
section
variable {X:Cx} {pins:List (Addr×Obj)} {σ:St} {H:Hp} {s:Shared} {k:Nat} {f a:Addr} {fd:FuncData} {ps:List Str} {sp:Sp} {ys:List V} {Q:VK} {E:Value->Shared->Prop}
def Bf (ys:List V) (Q:VK) (kS:Addr) (kv:List V) (H2:Hp):Prop:=∃keys m,Paired (fT H2) kv keys/\0<m/\(∀k∈keys,k.length=m)/\
 ∀D p,upd H2 kS (.lst []) D=none->p.Perm (List.range ys.length)->mY keys p->Q (.ref D) (upd (upd H2 kS (.lst [])) D (.lst (p.map λi=>ys.getD i .non)))
theorem vM (F:FnOk X.prog X.w X.K X.mg X.base (dz X.prog X.w) k f fd ps sp) (hr:Room k X.A.in1.in1) (hb:Binds X.K fd ps []) (I:Inv X pins σ H s) (ha:bK X.K H a ys) (h64:ys.length<64)
  (q:∀kS,H kS=none->∃W:SW,qt sp kS W/\W ys [] (upd H kS (.lst []))/\∀kv H2,H2 kS=some (.lst kv)->kv.length=ys.length->W [] kv H2->Bf ys Q kS kv H2):
  wpAny (model X.prog X.w) X.A (call (.builtin "sorted") [.ref a] [(Str.ofString "key", .ref f)]) (EP X pins σ Q) E s:=by
 let⟨us,hv,g,hz⟩:=I.list ha;have lu:us.length=ys.length:=hv.length.symm;refine call_function_entry_kw kind_sorted plain_sorted entry_sorted (ksk_s1 _ _) ?_;unfold Builtin.«sorted»;refine aaa (m:=checkCount "sorted" 1 1 _) (aaf ?_);refine aaa (collect_list g.isList ?_ (by rw[abE];lia));refine aaa (wpAny_newList ?_ (by rw[abE];lia))
 have hsz:((s.heap.push (seqObj "list" #[] 0)).update s.heap.objs.size (Obj.mapSeq (· ++us.toArray))).objs.size=s.heap.objs.size+1:=by
  rw[Heap.size_update,size_push']
 have keep:∀b o,s.heap.get? b=some o->(((s.heap.push (seqObj "list" #[] 0)).update s.heap.objs.size (Obj.mapSeq (· ++us.toArray))).push (seqObj "list" us.toArray 0)).get? b=some o:=λb o q=>by
  have hlt:b<s.heap.objs.size:=aal q;rw[Heap.get?_push_ne _ _ _ (by rw[hsz];exact aau (abL hlt)),Heap.get?_update_ne _ _ _ _ (aau hlt),Heap.get?_push_ne _ _ _ (aau hlt)];exact q
 have hoL:(((s.heap.push (seqObj "list" #[] 0)).update s.heap.objs.size (Obj.mapSeq (· ++us.toArray))).push (seqObj "list" us.toArray 0)).get? (s.heap.objs.size+1)=some (seqObj "list" us.toArray 0):=by
  rw[←hsz];exact aai _ rfl
 have zA:(((s.heap.push (seqObj "list" #[] 0)).update s.heap.objs.size (Obj.mapSeq (· ++us.toArray))).push (seqObj "list" us.toArray 0)).objs.size=s.heap.objs.size+2:=by rw[size_push',hsz]
 show wpAny _ _ _ _ _ {s with heap:=((s.heap.push (seqObj "list" #[] 0)).update s.heap.objs.size (Obj.mapSeq (· ++us.toArray))).push (seqObj "list" us.toArray 0)};rw[hsz];generalize ((s.heap.push (seqObj "list" #[] 0)).update s.heap.objs.size (Obj.mapSeq (· ++us.toArray))).push (seqObj "list" us.toArray 0)=hA at keep hoL zA⊢;generalize hD:s.heap.objs.size+1=D at hoL⊢
 have nD:s.heap.objs.size<=D:=by lia
 refine aaa (aa7 (wpAny_call_entry_kw slot_list_sort ⟨_,hoL,rfl⟩ entry_list_sort ?body (ksk_l1 _ _)))
 case body=>
  show wpAny (model X.prog X.w) X.A.in1.in1 (Builtin.«list.sort» ⟨[.ref D],[(Str.ofString "key", .ref f)]⟩) _ _ _;rw[ksk_t1];unfold ksk_tree;refine aaa (listItems_at hoL rfl ?_);refine aaa (listUpdate_at hoL rfl ?_ (by rw[aak,abE];lia) (aaV _));obtain⟨e1,ho1⟩:∃e1,(hA.update D (Obj.mapSeq λ_=>(#[]:Array Value))).get? D=some (seqObj "list" #[] e1):=⟨_,get?_update_seq hoL λ_=>#[]⟩;refine aaa (seqEpoch_at ho1 rfl ?_);refine aaa (wpAny_newTuple ?_ (by show us.length<=_;rw[abE];lia));refine aaa (wpAny_newList ?_ (aaV _));refine aa7 ?_
  have zB:((hA.update D (Obj.mapSeq λ_=>(#[]:Array Value))).push (seqObj "tuple" us.toArray 0)).objs.size=s.heap.objs.size+3:=by rw[size_push',Heap.size_update,zA]
  have keepB:∀b o,s.heap.get? b=some o->(((hA.update D (Obj.mapSeq λ_=>(#[]:Array Value))).push (seqObj "tuple" us.toArray 0)).push (seqObj "list" #[] 0)).get? b=some o:=λb o q=>by
   have hlt:b<s.heap.objs.size:=aal q;refine aad _ (aad _ ?_);rw[Heap.get?_update_ne _ _ _ _ (aau (aan hlt nD))];exact keep b o q
  have gD:(((hA.update D (Obj.mapSeq λ_=>(#[]:Array Value))).push (seqObj "tuple" us.toArray 0)).push (seqObj "list" #[] 0)).get? D=some (seqObj "list" #[] e1):=aad _ (aad _ ho1)
  have gK:(((hA.update D (Obj.mapSeq λ_=>(#[]:Array Value))).push (seqObj "tuple" us.toArray 0)).push (seqObj "list" #[] 0)).get? (s.heap.objs.size+3)=some (seqObj "list" #[] 0):=by
   rw[←zB];exact aai _ rfl
  show wpAny _ _ (ksk_rest D (.ref f) false us.toArray e1 (.ref ((hA.update D (Obj.mapSeq λ_=>(#[]:Array Value))).push (seqObj "tuple" us.toArray 0)).objs.size)) _ _ {s with heap:=((hA.update D (Obj.mapSeq λ_=>(#[]:Array Value))).push (seqObj "tuple" us.toArray 0)).push (seqObj "list" #[] 0)};rw[zB];generalize ((hA.update D (Obj.mapSeq λ_=>(#[]:Array Value))).push (seqObj "tuple" us.toArray 0)).push (seqObj "list" #[] 0)=hB at keepB gD gK⊢;generalize hKS:s.heap.objs.size+3=kS at gK⊢
  have nK:s.heap.objs.size<=kS:=by lia
  have I1:Inv X pins σ H {s with heap:=hB}:=I.kept (t':=s.toks) keepB;have frD:=I.ah.fresh nD;have frK:=I.ah.fresh nK;have fpD:=I.lX nD frD;have fpK:=I.lX nK frK;have pD:Place X pins D:=⟨λH' hn=>⟨hn,fpD.2⟩,abb (aaL I.sz nD)⟩
  have I2:Inv X ((D,seqObj "list" #[] e1)::pins) σ H {s with heap:=hB}:=I1.cI λp hp=>by
   rcases aap.mp hp with rfl|hp
   ·exact⟨gD,frD,fpD.2.1,fpD.2.2.1,λv z=>by cases z⟩
   ·exact I1.pin p (aaA _ hp)
  have dk:D≠kS:=by lia
  have I3:Inv X ((D,seqObj "list" #[] e1)::pins) σ (upd H kS (.lst [])) {s with heap:=hB}:=kh I2 frK (abb (aaL I.sz nK)) fpK.2.1 fpK.2.2.2.2.1 (λp hp=>by
   rcases aaz.mp hp with hp|hp
   ·exact fpK.2.2.2.2.2 p (aaY _ hp)
   ·rcases aap.mp hp with rfl|hp
    ·exact dk
    ·exact fpK.2.2.2.2.2 p (aaA _ hp)) ⟨aaV _,[],0, .nil,gK⟩
  let⟨W,hW,w0,wEnd⟩:=q kS frK;unfold ksk_rest;refine aaa (acq ?_)
  first
   |rw[List.forIn_toArray]
   |(rw[←Array.forIn_toList];simp only[List.toList_toArray])
  refine aaa (aw (mX (R:=λs''=>∃kv' H'',Inv X ((D,seqObj "list" #[] e1)::pins) σ H'' s''/\H'' kS=some (.lst kv')/\W [] kv' H''/\kv'.length=0+ys.length) F hr hb hW (λx s' C hx=> ?_) hv [] _ _ I3 ak w0 (by rw[ada];lia) (λkv' H'' s'' b1 b2 b3 b4=>⟨kv',H'',b1,b2,b3,b4⟩)) λ_ s'' hs=> ?_)
  ·refine aaa (acy (aaQ hx (λu s'' hu=> ?_) λ_ _ hF=>hF.elim))
   try dsimp only
   exact aaa (aw hu λ_ s3 h3=>aaf ⟨rfl,h3⟩)
  ·let⟨kv,H2,J,hkv,hw,lk⟩:=hs;rw[acm] at lk;let⟨keys,m,hks,hm,hkm,q⟩:=wEnd kv H2 hkv lk hw;let⟨_,its,n,rt,hlen,e⟩:=J.lT hkv;refine aaa (listItems_at e rfl ?_);refine aaQ (zk J hkv pD rt hks hv lk h64 hm hkm) (λfin s3 h3=> ?_) λ_ _ e=>e;let⟨rfl,p,p1,p2,J3,d3⟩:=h3;exact⟨_,rfl,aaf ⟨_,rfl, .ref D,_,J3,rfl,q D p d3 p1 p2⟩⟩
end
def Fx (K:PySem.W.Frag) (sp:Sp) (t:TA):TE:=λσ H Q=>t σ H λvs H1=>∃a ys,vs=[.ref a]/\bK K H1 a ys/\ys.length<64/\
 ∀kS,H1 kS=none->∃W:SW,qt sp kS W/\W ys [] (upd H1 kS (.lst []))/\∀kv H2,H2 kS=some (.lst kv)->kv.length=ys.length->W [] kv H2->Bf ys Q kS kv H2
theorem Bu {X:Cx} {k:Nat} {f:Addr} {ps:List Str} {sp:Sp} {fn:Str} {e:Expr} {t:TA} {p:Pos} (F:FnOk X.prog X.w X.K X.mg X.base (dz X.prog X.w) k f fd ps sp) (hr:Room (k+2) X.A) (hb:Binds X.K fd ps []) (hg:Gl X "sorted") (hm:X.mg "sorted"=none)
  (hgf:Gl X fn) (hmf:X.mg fn=some (.ref f)) (ha:PA X [e] t) (hdf:(fn==("__debug__":Str))=false)
  (he:backTo pos (starEach [e] X.env)=(false,eval e X.env)::backTo pos (starEach [] X.env)) (hpl:(backTo pos (starEach [e] X.env)).any (·.1)=false):
  PE X (.Call (.Name "sorted" p) [e] [⟨some (Str.ofString "key"), .Name fn p2,kpos⟩] pos) (Fx X.K sp t):=by
 intro pins s σ H Q I h;refine abm (gq I hg hm boot_sorted ?_);refine callWith_kw (aw (ha pos pins s σ H _ I h) λus s1 z902=> ?_) he hpl;let⟨vs,H1,I1,r1,q1⟩:=z902;have hk:PK X [⟨some (Str.ofString "key"), .Name fn p2,kpos⟩] (qj (tC (.ref f)) wB):=uP (uc (v:= .ref f) hgf hmf rfl hdf) yx;refine aw (hk pos pins s1 σ H1 (λzs H2=>zs=[.ref f]/\H2=H1) I1 ⟨rfl,rfl⟩) λws s2 z902=> ?_;let⟨zs,H2,I2,rz,e1,e2⟩:=z902;subst e1 e2;let⟨w',rfl,rw'⟩:=Vals.one rz;cases rw';let⟨a,ys,rfl,ha',h64,q⟩:=q1;let⟨u,rfl,ru⟩:=Vals.one r1;cases ru;exact vM F hr.in1.in1 hb I2 ha' h64 q
theorem FA {k:Key} {v:Value} (h:gR k v=true):RelV (kV k) v:=by
 cases k with
 |inl i=>
  cases v<;>simp[gR,Value.isInt] at h;subst h;exact⟨_,rfl⟩
 |inr x=>
  let⟨t,e⟩:=Value.isStrOf_shape (x:=x) (v:=v) h;exact⟨t,e⟩
def A1 (d:Addr) (o:Obj) (kvs:List (Key×V)):It:=
 ⟨λi H=>H d=some (.aD o (.dK kvs))/\i<kvs.length,λi H x H'=>H'=H/\∃k v,x=kV k/\kvs[i]?=some (k,v),λi H=>H d=some (.aD o (.dK kvs))/\kvs.length<=i⟩
theorem pA {prog:Program} {w:World} {K:Type} [DecidableEq K] {knd:KeyKind prog w K}:∀{es:List DictEntry} {kvs:List (K×Value)} {i:Nat} {e:DictEntry},Pairs knd es kvs->es[i]?=some e->∃kv,kvs[i]?=some kv/\knd.is kv.1 e.key=true
 |_,_,_,_, .nil,h=>by simp at h
 |_,_,0,_, .cons a b r,h=>by
  simp at h;subst h;exact⟨_,rfl,a⟩
 |_,_,i+1,_, .cons a b r,h=>by
  let⟨kv,h1,h2⟩:=pA r (i:=i) (by simpa using h);exact⟨kv,by simpa using h1,h2⟩
theorem nU {P:Program} {w:World} {H:Hp} {d:Addr} {o:Obj} {kvs:List (Key×V)} (ok:bH P w H h) (e:H d=some (.aD o (.dK kvs))):
  ∃es ep vs,o.data= .dict es ep/\jy h d es ep/\Pairs (aJ P w) es.toList vs/\KV kvs vs/\es.size=kvs.length/\(d==sysModules)=false:=by
 let⟨h0,z,y,vs,r,o',es,ep,h1,h2,h3,h4,h5,h6⟩:=(show aL P w H h d (.aD o (.dK kvs)) from ok d _ e);rw[h0] at h1;cases h1;exact⟨es,ep,vs,h3,⟨o,h0,h2,h3⟩,h5,r,by rw[r.length,←aaU,h5.length],y⟩
theorem wb {P:Program} {w:World} {K:PySem.W.Frag} (d it:Addr) (o:Obj) (kvs:List (Key×V)):Turn P w K tg (A1 d o kvs) [it] it (λi h=>CA o h it d i) where
 mem:=by simp
 obj:=λi h st b hb=>by
  let⟨es,ep,_,u,h1,h2,h3⟩:=st;rw[aaD.mp hb];exact⟨u,h1,λv z=>by rw[h3] at z;cases z⟩
 keep:=λi h h' st k=>by
  let⟨es,ep,hd,x⟩:=st;exact⟨es,ep,hd,x.at λo e=>k it (by simp) o e⟩
 item:=by
  intro X hP hw hK hc i pins s σ H E I hf st hg;subst hP hw hK;let⟨es,ep,hdat,hit⟩:=st;let⟨e,lt⟩:=hg;let⟨es',ep',vs,hdat',raw,hes,rel,hsz,_⟩:=nU I.ah e;rw[hdat] at hdat';cases hdat'
  have lt':i<es.size:=by lia
  let⟨f0,f1,f2,f3,f4,f5⟩:=hf it (by simp);refine sM hit raw lt' λh' st' sb=> ?_;have I1:Inv X pins σ H {s with heap:=h'}:=I.turned (t':=s.toks) (λb o hb e=>(sb.2 b hb).trans e) f0 f1 f3 f4 f5
  have q:es.toList[i]?=some es[i]:=by simp[lt']
  let⟨kv,e1,e2⟩:=pA hes q;let⟨kv',x,e3,e4,h1,h2⟩:=jB rel i lt;rw[e1] at e4;cases e4;let⟨u,v1,v2,v3⟩:=id st';refine⟨es[i].key,rfl,mS (s:={s with heap:=h'}) v1 v2 v3 (by decide) ⟨kV kv'.1,H,I1, ?_,⟨rfl,kv'.1,kv'.2,rfl,e3⟩,⟨es,ep,hdat,st'⟩,λb hb=>(hf b hb).1⟩⟩;rw[h1];exact FA e2
 done:=by
  intro X hP hw hK hc i pins s σ H E I hf st hg;subst hP hw hK;let⟨es,ep,hdat,hit⟩:=st;let⟨e,ge⟩:=hg;let⟨es',ep',vs,hdat',raw,hes,rel,hsz,_⟩:=nU I.ah e;rw[hdat] at hdat';cases hdat';let⟨f0,f1,f2,f3,f4,f5⟩:=hf it (by simp);exact u6 (I.ok.hd hc) hit raw (by lia) λh' eb=>⟨rfl,I.turned (t':=s.toks) (λb o hb e=>eb b o hb e) f0 f1 f3 f4 f5⟩
 self:=λ_ _ _ _ _ st h=>by
  let⟨es,ep,_,hit⟩:=st;exact wpAny_pyIter_keyiter hit h
def LR (K:PySem.W.Frag) (tl:TE):TI:=λσ H R=>tl σ H λx H1=>∃a,x= .ref a/\(((∃xs,bK K H1 a xs)/\R (Gx K a) H1)∨((∃xs,cO K H1 a xs)/\R (Fv K a) H1)∨
 (∃kvs,Rd H1 a (.dT kvs)/\∀o,(H1 a=some (.dT kvs)∨H1 a=some (.aD o (.dT kvs)))->R (Et a o kvs) (upd H1 a (.aD o (.dT kvs))))∨
 (∃kvs,Rd H1 a (.dK kvs)/\∀o,(H1 a=some (.dK kvs)∨H1 a=some (.aD o (.dK kvs)))->R (A1 a o kvs) (upd H1 a (.aD o (.dK kvs)))))
theorem zl {H:Hp} {a:Addr} {o:HO} (e:H a=some o):upd H a o=H:=by
 funext b;unfold upd;split
 ·rename_i z;rw[z,e]
 ·rfl
theorem Hg {X:Cx} {l:Expr} {tl:TE} (hl:PE X l tl):PI X tg l (LR X.K tl):=by
 intro pins s σ H R I h;refine aw (hl pins s σ H _ I h) λv s1 z902=> ?_;let⟨x,H1,I1,r1,q1⟩:=z902;let⟨a,e,q⟩:=q1;subst e;cases r1
 have fp:∀{H1:Hp},Inv X pins σ H1 s1->∀b∈[s1.heap.objs.size],cH X pins H1 b:=λ{H1} I1 b hb=>by
  have e:b=s1.heap.objs.size:=by simpa using hb
  subst e;exact I1.lX (aah _) (I1.ah.fresh (aah _))
 rcases q with⟨⟨xs,hq⟩,q⟩|⟨⟨xs,hq⟩,q⟩|⟨kvs,hq,q⟩|⟨kvs,hq,q⟩
 ·let⟨its,rv,p,hz⟩:=I1.list hq;refine ab4 p.isList ?_;exact⟨s1.heap.objs.size,[s1.heap.objs.size],_,_,H1,rfl,I1.kept (t':=s1.toks) λb o e=>aad _ e,yD a _,⟨_,aai _ rfl,rfl,rfl⟩,fp I1,q⟩
 ·let⟨its,rv,p,hz⟩:=I1.tuple hq;refine acn (show s1.heap.IsTuple a its.toArray from p) ?_;exact⟨s1.heap.objs.size,[s1.heap.objs.size],_,_,H1,rfl,I1.kept (t':=s1.toks) λb o e=>aad _ e,wg a _,⟨_,aai _ rfl,rfl,rfl⟩,fp I1,q⟩
 ·obtain⟨o,I2,qo⟩:∃o,Inv X pins σ (upd H1 a (.aD o (.dT kvs))) s1/\(H1 a=some (.dT kvs)∨H1 a=some (.aD o (.dT kvs))):=by
   rcases hq with e|⟨o,e⟩
   ·let⟨o,I2⟩:=Inv.C7 I1 e;exact⟨o,I2, .inl e⟩
   ·exact⟨o,by rw[zl e];exact I1, .inr e⟩
  let⟨es,ep,xs,hdat,raw,_,_,_,hd⟩:=rp I2.ah ak;refine sg hd raw λh1 st kp=> ?_;exact⟨s1.heap.objs.size,[s1.heap.objs.size],_,_,_,rfl,I2.kept (t':=s1.toks) kp,yn a _ o kvs,⟨es,ep,hdat,st⟩,fp I2,q o qo⟩
 ·obtain⟨o,I2,qo⟩:∃o,Inv X pins σ (upd H1 a (.aD o (.dK kvs))) s1/\(H1 a=some (.dK kvs)∨H1 a=some (.aD o (.dK kvs))):=by
   rcases hq with e|⟨o,e⟩
   ·let⟨o,I2⟩:=Inv.CV I1 e;exact⟨o,I2, .inl e⟩
   ·exact⟨o,by rw[zl e];exact I1, .inr e⟩
  let⟨es,ep,xs,hdat,raw,_,_,_,hd⟩:=nU I2.ah ak;refine sg hd raw λh1 st kp=> ?_;exact⟨s1.heap.objs.size,[s1.heap.objs.size],_,_,_,rfl,I2.kept (t':=s1.toks) kp,wb a _ o kvs,⟨es,ep,hdat,st⟩,fp I2,q o qo⟩
end L2.L3
namespace L2.L4
open PySem PySem.Spec L2.L3
open PyProof.Rows hiding lobj
def FZ (K:PySem.W.Frag) (B:Addr) (tb:(St->XK)->TS) (th:TS):TS:=λD σ H=>∃Eb:St->XK,tb Eb D σ H/\∀σ' cls dx H',Eb σ' cls dx H'->∃C,cls= .ref C/\PySem.W.exmOne K (.ref C) (.ref B)=some true/\
 ∀ea,H' ea=none->th D σ' (upd H' ea (.ext (gS ea C dx)))
section
variable {X:Cx} {E:St->XK} {B:Addr} {cn x:Str} {i:Nat} {np pos hpos:Pos} {body:List Stmt} {st:Stmt} {suite:List Stmt} {tb:(St->XK)->TS} {th:TS}
theorem Er {σ:St} {H:Hp} {s:Shared} {C T:Addr} {dx:Option Addr} {fl:Value} (I:Inv X.gH pins σ H s) (x3:ExcAt s.heap ea (.ref C) dx (some (T,fl))) (y:Young (cc X (X.pn++pins)) H ea) (yT:Young (cc X (X.pn++pins)) H T)
  (m:Moved [] [T] s.heap h') (x':ExcAt h' ea (.ref C) dx (some (T, .none))):Inv (jv X ea X.pn) pins σ (upd H ea (.ext (gS ea C dx))) {s with heap:=h'}:=by
 have m':Moved (cM X.gH.stack) [T] s.heap h':=⟨λb o _ c e=>m.keep b o (by simp) c e,m.slot⟩
 have I1:Inv X.gH pins σ H {s with heap:=h'}:=jA I m' λb hb=>by
  have z:b=T:=by simpa using hb
  subst z;exact⟨yT.new,yT.npn,yT.free,(fX x3).2 _ rfl⟩
 let⟨oe,vs,e1,e2,e3,e4,_⟩:=id x';let⟨r1,r2,_,_⟩:=nA I1 e1 e4;have I3:=kh (o:= .ext (gS ea C dx)) I1 y.free y.new r1 r2 y.npn (GH ⟨oe,vs,e1,e2,e3,e4⟩);exact rj (X:=X.gH) I3 λp hp=>hp
theorem z9 (fm:Framed X) (hx:cx X) (hg:Gl X cn) (hm:X.mg cn=some (.ref B))
  (hb:∀Eb pn,(∀b∈X.ex,∃o,(b,o)∈pn)->cu ((cc X pn).af (XE (cc X pn) Eb)) body (tb Eb)) (hs:∀ea,cu (jv X ea X.pn) (st::suite) th) (hdb:(cn==("__debug__":Str))=false):
  PS (X.af (XE X E)) (.Try body [.ExceptHandler (some (.Name cn np)) none (st::suite) hpos] [] [] pos) (FZ X.K B tb th):=by
 intro pins s σ H D I h;let⟨Eb,h1,h2⟩:=h
 have hx':∀b∈X.ex,∃o,(b,o)∈X.pn++pins:=λb hb=>let ⟨o,m⟩:=hx b hb;⟨o,aaY _ m⟩
 have I':Inv ((cc X (X.pn++pins)).af (XE (cc X (X.pn++pins)) Eb)) [] σ H s:=(gF (qn:=X.pn++pins) (q:=[]) I.aY λp hp=>by simpa using hp).af _
 have un:∀{σ2:St} {H2:Hp} {s2:Shared},Inv ((cc X (X.pn++pins)).af (XE (cc X (X.pn++pins)) Eb)) [] σ2 H2 s2->Inv (X.af (XE X E)) pins σ2 H2 s2:=λ{σ2 H2 s2} J=>by
  have J1:Inv (cc X (X.pn++pins)) [] σ2 H2 s2:=J.aY
  have J2:Inv (cc (cc X (X.pn++pins)) X.pn) pins σ2 H2 s2:=gF (qn:=X.pn) (q:=pins) J1 λp hp=>by simpa[cc] using hp
  exact(show Inv X pins σ2 H2 s2 from J2).af _
 refine wpAny_Try_except (aaQ (hb Eb (X.pn++pins) hx' [] s σ H D I' h1) (λf s1 q=> ?_) λe s1 q=> ?_)
 ·cases f with
  |next=>exact wpAny_execs_nil (let ⟨σ2,H2,J,z⟩:=q;⟨σ2,H2,un J,z⟩)
  |ret v=>exact(let ⟨v2,σ2,H2,J,r,z⟩:=q;⟨v2,σ2,H2,un J,r,z⟩)
  |brk=>exact(let ⟨σ2,H2,J,z⟩:=q;⟨σ2,H2,un J,z⟩)
  |cont=>exact(let ⟨σ2,H2,J,z⟩:=q;⟨σ2,H2,un J,z⟩)
 ·have fm':Framed (cc X (X.pn++pins)):=fm;refine aw (nE (X:=cc X (X.pn++pins)) fm' hx' q) λ_ s2 q2=>aw (je (X:=cc X (X.pn++pins)) (fr:=none) q2) λ_ s3 q3=> ?_;let⟨σ3,H3,ea,cls,dx,tbk,rfl,I3,x3,y3,yt,⟨T,rfl⟩,qE⟩:=q3;let⟨C,rfl,hmt,k⟩:=h2 σ3 cls dx H3 qE;have I3':Inv X.gH pins σ3 H3 s3:=(gF (X:=(cc X (X.pn++pins)).gH) (qn:=X.pn) (q:=pins) I3 λp hp=>by simpa[cc] using hp);have Im:Inv (jv X ea X.pn) pins σ3 H3 s3:=rj (X:=X.gH) I3' λp hp=>hp;refine wpAny_handleBy_cons (codeAny_handlers_test (gg (X:=jv X ea X.pn) Im hg hm ?_ hdb)) (by intro q;cases q);let⟨oe,vs,e1,e2,e3,e4,_⟩:=id x3;have LT:PySem.W.Looks (model X.prog X.w) s3.heap (typeOf (.ref ea)) (.ref C):=e2▸(PySem.W.Looks.ld e1).andThen .now;refine PySem.W.exm_one I3'.cB LT hmt _ _ _ _ (λ_ _ e=>e) ?_;refine codeAny_handlers_suite ?_;refine oO x3 λh' mv x'=> ?_;have I4:=Er I3' x3 y3 (yt _ rfl) mv x';refine aaQ (hs ea pins _ _ _ _ I4 (k ea y3.free)) (λf s6 q6=> ?_) λ_ _ z=>z.elim;have fin:∀{σ6:St} {H6:Hp},Inv (jv X ea X.pn) pins σ6 H6 s6->Inv (X.af (XE X E)) pins σ6 H6 s6:=λ{σ6 H6} J=>(vW I.aY.ok J λp hp=>hp).af _
  cases f with
  |next=>exact(let ⟨σ6,H6,J,z⟩:=q6;⟨σ6,H6,fin J,z⟩)
  |ret v=>exact(let ⟨v6,σ6,H6,J,r,z⟩:=q6;⟨v6,σ6,H6,fin J,r,z⟩)
  |brk=>exact(let ⟨σ6,H6,J,z⟩:=q6;⟨σ6,H6,fin J,z⟩)
  |cont=>exact(let ⟨σ6,H6,J,z⟩:=q6;⟨σ6,H6,fin J,z⟩)
end
end L2.L4
namespace PI
open PySem
noncomputable section
inductive Val where
 |non|bl (b:Bool)|int (i:Int)|str (x:Str)|tup (f:Bool) (xs:List Val)|lst (xs:List Val)|dct (ks vs:List Val)|obj (c:Nat) (ns:List Str) (vs:List Val)|ref (n:Nat)
deriving Inhabited
inductive Ob where
 |lst (xs:List Val)|dct (ks vs:List Val)|ins (c:Nat) (ns:List Str) (vs:List Val)
abbrev aa:=List Ob
abbrev Env:=List (Option Val)
structure Exn where
 c:Nat
 ns:List Str
 vs:List Val
inductive R (α:Type) where
 |ok (a:α) (st:aa)|exc (x:Exn) (st:aa)|stuck
namespace R
noncomputable def bind {α β:Type} (r:R α) (f:α->aa->R β):R β:=match r with
 | .ok a st=>f a st
 | .exc x st=> .exc x st
 | .stuck=> .stuck
@[simp]theorem iG {α β:Type} (a:α) (st:aa) (f:α->aa->R β):(R.ok a st).bind f=f a st:=rfl
@[simp]theorem Mh {α β:Type} (x:Exn) (st:aa) (f:α->aa->R β):(R.exc x st:R α).bind f= .exc x st:=rfl
@[simp]theorem ID {α β:Type} (f:α->aa->R β):(R.stuck:R α).bind f= .stuck:=rfl
noncomputable def ao {α:Type} (o:Option α) (st:aa):R α:=match o with
 |some a=> .ok a st
 |none=> .stuck
@[simp]theorem Li {α:Type} (a:α) (st:aa):ao (some a) st= .ok a st:=rfl
@[simp]theorem KH {α:Type} (st:aa):(ao none st:R α)= .stuck:=rfl
end R
mutual
noncomputable def Val.bd (n:Nat):Val->Bool
 | .tup _ xs=>dg n xs
 | .lst xs=>dg n xs
 | .dct ks vs=>dg n ks&&dg n vs
 | .obj _ _ vs=>dg n vs
 | .ref k=>decide (k<n)
 |_=>true
noncomputable def dg (n:Nat):List Val->Bool
 |[]=>true
 |v::r=>v.bd n&&dg n r
end
def Ob.bd (n:Nat):Ob->Bool
 | .lst xs=>dg n xs
 | .dct ks vs=>dg n ks&&dg n vs
 | .ins _ _ vs=>dg n vs
mutual
noncomputable def Val.sub (f:Nat->Option Val):Val->Option Val
 | .tup g xs=>(subs f xs).map λxs=> .tup g xs
 | .lst xs=>(subs f xs).map .lst
 | .dct ks vs=>(subs f vs).map λvs=> .dct ks vs
 | .obj c ns vs=>(subs f vs).map λvs=> .obj c ns vs
 | .ref k=>f k
 |v=>some v
noncomputable def subs (f:Nat->Option Val):List Val->Option (List Val)
 |[]=>some []
 |v::r=>(v.sub f).bind λv=>(subs f r).map λr=>v::r
end
noncomputable def iD (st:aa) (n x:Nat):Nat->Nat->Option Val
 |0,k=>if k<n then some (.ref k) else none
 |d+1,k=>if k<n then some (.ref k) else if k=x then none else match st[k]? with
  |some (.lst xs)=>(subs (iD st n x d) xs).map .lst
  |some (.dct ks vs)=>(subs (iD st n x d) vs).map λvs=> .dct ks vs
  |some (.ins c ns vs)=>(subs (iD st n x d) vs).map λvs=> .obj c ns vs
  |none=>none
def Val.aD (st:aa) (n x:Nat) (v:Val):Option Val:=v.sub (iD st n x 6)
def aS (st:aa) (n x:Nat) (vs:List Val):Option (List Val):=subs (iD st n x 6) vs
def Old (st st':aa):Prop:=st.length<=st'.length/\∀(i:Nat) o,i<st.length->st'[i]?=some o->st[i]?=some o∨o.bd st.length=true
set_option genInjectivity false
inductive Bi where
 |len|tuple|list|dict|abs|sum|all|any|min|max|minD|int|str|bool|sorted|bZ (n:String)
inductive Bm where
 |append|extend|insert|pop|clear|reverse|remove|get|join|split|isdigit|count|index|keys|values
inductive T where
 |var (i:Nat)|tup (ts:List T)
mutual
inductive E where
 |const (v:Val)|var (i:Nat)
 |bin (op:Operator) (a b:E)|neg (a:E)|cmp (op:CmpOp) (a b:E)|cmp2 (op op':CmpOp) (a b c:E)
 |and (a b:E)|or (a b:E)|not (a:E)|ite (c a b:E)
 |tup (es:List E)|lst (es:List E)|dct (ks vs:List E)
 |fld (o:E) (f:Str)|idx (o i:E)|slc (o:E) (lo hi:Option E)
 |call (f:Nat) (es:List E)|make (c:Nat) (es:List E)|meth (o:E) (m:Str) (es:List E)
 |bi (b:Bi) (es:List E)|bm (m:Bm) (o:E) (es:List E)|isI (e:E) (c:Nat)|isM (e:E) (cs:List Nat)
 |comp (nw:Nat) (caps:List Nat) (t:T) (q:Q) (c:Option E) (e:E)
 |sortK (q:E) (f:Nat)|fz (e:E)|dOf (e:E)
inductive Q where
 |val (e:E)|rng1 (a:E)|rng2 (a b:E)|zip (a b:E)|enm (a:E)|items (a:E)|rev (a:E)
end
abbrev E.ci (n:Int):E:= .const (.int n)
inductive S where
 |set (t:T) (e:E)|fG (o i e:E)|dh (o:E) (f:Str) (e:E)
 |aug (i:Nat) (op:Operator) (e:E)|augI (o i:E) (op:Operator) (e:E)|augF (o:E) (f:Str) (op:Operator) (e:E)
 |expr (e:E)|ret (e:E)|retN|pass|brk|cont
 |ife (c:E) (a b:List S)|whl (c:E) (b:List S)|for (t:T) (q:Q) (b:List S)
 |raise (c:Nat) (es:List E)|try_ (b:List S) (c:Nat) (x:Option Nat) (h:List S)
set_option genInjectivity true
structure Fn where
 np:Nat
 ns:Nat
 body:List S
structure Cl where
 flds:List Str
 init:Option Nat
 meths:List (Str×Nat)
 sup:List Nat
 exc:Bool
 chg:Bool
structure Pg where
 fns:List (Nat×Fn)
 cls:List (Nat×Cl)
 w:Nat
def Pg.fn (P:Pg) (i:Nat):Option Fn:=P.fns.lookup i
def Pg.cl (P:Pg) (i:Nat):Option Cl:=P.cls.lookup i
noncomputable def de (ns:List Str) (vs:List Val) (f:Str):Option Val:=match ns,vs with
 |n::ns,v::vs=>if n=f then some v else de ns vs f
 |_,_=>none
noncomputable def aU (ns:List Str) (vs:List Val) (f:Str) (x:Val):List Str×List Val:=match ns,vs with
 |n::ns,v::vs=>if n=f then (n::ns,x::vs) else let r:=aU ns vs f x;(n::r.1,v::r.2)
 |_,_=>([f],[x])
noncomputable def lJ (k:Nat):Option Ob->Val
 |some (.lst xs)=> .lst xs
 |some (.dct ks vs)=> .dct ks vs
 |some (.ins c ns vs)=> .obj c ns vs
 |none=> .ref k
def res (st:aa):Val->Val
 | .ref k=>lJ k st[k]?
 | .non=> .non
 | .bl b=> .bl b
 | .int i=> .int i
 | .str x=> .str x
 | .tup f xs=> .tup f xs
 | .lst xs=> .lst xs
 | .dct ks vs=> .dct ks vs
 | .obj c ns vs=> .obj c ns vs
noncomputable def new (o:Ob) (st:aa):R Val:= .ok (.ref st.length) (st++[o])
noncomputable def jS (f:Val->Val->Option Bool):List Val->List Val->Option Bool
 |[],[]=>some true
 |[],_::_=>some false
 |_::_,[]=>some false
 |x::xs,y::ys=>(f x y).bind λa=>(jS f xs ys).map λb=>a&&b
noncomputable def eqN:Val->Option Bool
 | .non=>some true
 |_=>none
noncomputable def eqB (a:Bool):Val->Option Bool
 | .bl b=>some (a==b)
 |_=>none
noncomputable def eqI (a:Int):Val->Option Bool
 | .int b=>some (a==b)
 | .str _=>some false
 |_=>none
noncomputable def eqS (a:Str):Val->Option Bool
 | .str b=>some (decide (a=b))
 | .int _=>some false
 |_=>none
noncomputable def eqT (f:List Val->Option Bool):Val->Option Bool
 | .tup _ ys=>f ys
 |_=>none
noncomputable def eqL (f:List Val->Option Bool):Val->Option Bool
 | .lst ys=>f ys
 |_=>none
def eqF (f:List Val->List Val->Option Bool) (v w:Val):Option Bool:=match v with
 | .non=>eqN w
 | .bl a=>eqB a w
 | .int a=>eqI a w
 | .str a=>eqS a w
 | .tup _ xs=>eqT (f xs) w
 | .lst xs=>eqL (f xs) w
 |_=>none
noncomputable def eqv:Nat->Val->Val->Option Bool
 |0=>eqF λ_ _=>none
 |d+1=>eqF (jS (eqv d))
noncomputable def zY (x:Val):List Val->Option Bool
 |[]=>some false
 |y::ys=>(eqv 8 y x).bind λa=>(zY x ys).map λb=>a||b
noncomputable def wz:Val->Bool
 | .int _=>true
 | .str _=>true
 |_=>false
def dv:Val->Bool
 | .int _=>true
 | .str _=>true
 | .tup f xs=> !f&&xs.all wz
 |_=>false
noncomputable def iY:Val->Val
 | .tup _ xs=> .tup false xs
 | .non=> .non
 | .bl b=> .bl b
 | .int i=> .int i
 | .str x=> .str x
 | .lst xs=> .lst xs
 | .dct ks vs=> .dct ks vs
 | .obj c ns vs=> .obj c ns vs
 | .ref k=> .ref k
noncomputable def kT:Val->Bool
 | .tup _ _=>true
 |_=>false
noncomputable def getD (k:Val):List Val->List Val->Option (Option Val)
 |a::ks,v::vs=>if kT a=kT k then (eqv 8 a k).bind λb=>if b=true then some (some v) else getD k ks vs else none
 |_,_=>some none
noncomputable def memD (k:Val):List Val->Option Bool
 |[]=>some false
 |a::ks=>if kT a=kT k then (eqv 8 a k).bind λb=>(memD k ks).map λc=>b||c else none
noncomputable def lV (k x:Val):List Val->List Val->List Val
 |a::ks,v::vs=>(if eqv 8 a k=some true then x else v)::lV k x ks vs
 |_,_=>[]
def putD (k x:Val) (ks vs:List Val):Option (List Val×List Val):=(memD k ks).map λb=>if b=true then (ks,lV k x ks vs) else (ks++[k],vs++[x])
noncomputable def pairD:List Val->List Val->List Val->Option (List Val×List Val)
 |[],ks,vs=>some (ks,vs)
 | .tup false [k,v]::r,ks,vs=>if dv k=true then (putD k v ks vs).bind λp=>pairD r p.1 p.2 else none
 |_,_,_=>none
noncomputable def truth:Val->Option Bool
 | .non=>some false
 | .bl b=>some b
 | .int i=>some (i !=0)
 | .str x=>if x.length<=1000 then some ((x.length:Int) !=0) else none
 | .tup _ xs=>some !xs.isEmpty
 | .lst xs=>some !xs.isEmpty
 |_=>none
noncomputable def iu:Val->Option Int
 | .tup _ xs=>some xs.length
 | .lst xs=>some xs.length
 | .dct ks _=>some ks.length
 | .str x=>if x.length<=1000 then some (x.length:Int) else none
 |_=>none
noncomputable def iV (n:Nat) (i:Int):Option Nat:=if 0<=i then (if i<n then some i.toNat else none) else if-(n:Int)<=i then some (i+n).toNat else none
def kZ (xs:List Val) (i:Int):Option Val:=(iV xs.length i).bind λj=>xs[j]?
noncomputable def bY (n d:Nat):Option Int->Nat
 |none=>d
 |some v=>if v<0 then (v+(n:Int)).toNat else min v.toNat n
def cut {α:Type} (xs:List α) (lo hi:Option Int):List α:=(xs.drop (bY xs.length 0 lo)).take (bY xs.length xs.length hi-bY xs.length 0 lo)
def big (i:Int):Prop:=i.natAbs<2^1000
def B7 (i j:Int):Prop:=i.natAbs<2^64∨j.natAbs<2^64∨(big i/\big j)
noncomputable def iff {α:Type} (c:Prop) (r:R α):R α:= @ite _ c (Classical.propDecidable c) r .stuck
theorem bL {α:Type} {c:Prop} {r:R α} (h:c):iff c r=r:=if_pos h
noncomputable def lK {α:Type} (f:Int->Int->aa->R α) (i:Int):Val->aa->R α
 | .int j,st=>f i j st
 |_,_=> .stuck
def cg {α:Type} (f:Int->Int->aa->R α):Val->Val->aa->R α
 | .int i,y,st=>lK f i y st
 |_,_,_=> .stuck
def A5 (i:Str):Val->aa->R Val
 | .str j,st=>iff (i.length+j.length<=100000) (.ok (.str (i++j)) st)
 |_,_=> .stuck
def Bd (xs:List Val):Val->aa->R Val
 | .tup _ ys,st=>iff (xs≠[]/\ys≠[]/\xs.length+ys.length<=10000) (.ok (.tup false (xs++ys)) st)
 |_,_=> .stuck
def zy (xs:List Val):Val->aa->R Val
 | .lst ys,st=>iff (xs.length+ys.length<=10000) (new (.lst (xs++ys)) st)
 |_,_=> .stuck
def jn:Val->Val->aa->R Val
 | .int i,y,st=>lK (λi j st=> .ok (.int (i+j)) st) i y st
 | .str i,y,st=>A5 i y st
 | .tup _ xs,y,st=>Bd xs y st
 | .lst xs,y,st=>zy xs y st
 |_,_,_=> .stuck
def oB (i j:Int) (st:aa):R Val:=iff (B7 i j) (.ok (.int (i*j)) st)
def lY (i j:Int) (st:aa):R Val:=iff (j≠0/\big j) (.ok (.int (i.fdiv j)) st)
def ra (i j:Int) (st:aa):R Val:=iff (j≠0) (.ok (.int (i.fmod j)) st)
def vL (i j:Int) (st:aa):R Val:=iff (0<=j/\j<=1000/\i.natAbs<2^64) (.ok (.int (i^j.toNat)) st)
noncomputable def jN (z:Str) (n:Nat):Str:=⟨(List.replicate n z.cps.toList).flatten.toArray⟩
def wD:Val->Val->aa->R Val
 | .str z, .int k,st=>iff (0<=k/\k<=1000/\z.length<=1000) (.ok (.str (jN z k.toNat)) st)
 | .int i,y,st=>lK oB i y st
 |_,_,_=> .stuck
def eO:Operator->Val->Val->aa->R Val
 | .Add,x,y,st=>jn x y st
 | .Sub,x,y,st=>cg (λi j st=> .ok (.int (i-j)) st) x y st
 | .Mult,x,y,st=>wD x y st
 | .FloorDiv,x,y,st=>cg lY x y st
 | .Mod,x,y,st=>cg ra x y st
 | .Pow,x,y,st=>cg vL x y st
 |_,_,_,_=> .stuck
noncomputable def fP:Val->Bool
 | .non=>true
 | .bl _=>false
 | .int _=>false
 | .str _=>false
 | .tup _ _=>false
 | .lst _=>false
 | .dct _ _=>false
 | .obj _ _ _=>false
 | .ref _=>false
noncomputable def F6 (neg b:Bool):Val->aa->R Bool
 | .bl a,st=> .ok (if neg=true then !(a==b) else a==b) st
 |_,_=> .stuck
def t7 (neg:Bool) (x:Val):Val->aa->R Bool
 | .non,st=> .ok (if neg=true then !fP x else fP x) st
 | .bl b,st=>F6 neg b x st
 |_,_=> .stuck
def uq (neg:Bool) (x:Val):Val->aa->R Bool
 | .tup _ ys,st=>R.ao ((zY x ys).map λb=>if neg=true then !b else b) st
 | .lst ys,st=>R.ao ((zY x ys).map λb=>if neg=true then !b else b) st
 | .dct ks vs,st=>iff (dv x=true) (R.ao ((getD x ks vs).map λo=>if neg=true then o.isNone else o.isSome) st)
 |_,_=> .stuck
noncomputable def nr:Val->Val->Option Bool
 | .non, .non=>some true
 | .bl a, .bl b=>some (a==b)
 | .int a, .int b=>some (a==b)
 | .str a, .str b=>some (decide (a=b))
 |_,_=>none
noncomputable def jI (i:Int):List Val->Option Bool
 |[]=>some false
 | .int j::r=>(jI i r).map λb=>(j==i)||b
 |_=>none
def BO:Val->Val->Option Bool
 | .int i, .tup _ ys=>jI i ys
 |_,_=>none
def bF:CmpOp->Val->Val->aa->R Bool
 | .Eq,x,y,st=>R.ao (nr x y) st
 | .NotEq,x,y,st=>R.ao ((nr x y).map λb=> !b) st
 | .Lt,x,y,st=>cg (λi j st=> .ok (decide (i<j)) st) x y st
 | .LtE,x,y,st=>cg (λi j st=> .ok (decide (i<=j)) st) x y st
 | .Gt,x,y,st=>cg (λi j st=> .ok (decide (j<i)) st) x y st
 | .GtE,x,y,st=>cg (λi j st=> .ok (decide (j<=i)) st) x y st
 | .Is,x,y,st=>t7 false x y st
 | .IsNot,x,y,st=>t7 true x y st
 | .In,x,y,st=>R.ao (BO x y) st
 | .NotIn,_,_,_=> .stuck
def dJ (r:R Bool):R Val:=r.bind λb st=> .ok (.bl b) st
def eS:Val->Val->aa->R Val
 | .tup _ xs, .int k,st=>R.ao (kZ xs k) st
 | .lst xs, .int k,st=>R.ao (kZ xs k) st
 | .str x, .int k,st=>iff (x.length<=1000) (R.ao (((iV x.length k).bind λj=>x.cps.toList[j]?).map λc=> .str ⟨#[c]⟩) st)
 | .dct ks vs,k,st=>iff (dv k=true) (R.ao ((getD k ks vs).bind id) st)
 |_,_,_=> .stuck
def qy:Val->Option Int->Option Int->aa->R Val
 | .tup _ xs,lo,hi,st=>iff (¬(bY xs.length 0 lo=0/\bY xs.length xs.length hi=xs.length)) (.ok (.tup false (cut xs lo hi)) st)
 | .lst xs,lo,hi,st=>new (.lst (cut xs lo hi)) st
 | .str x,lo,hi,st=>iff (x.length<=1000) (.ok (.str ⟨(cut x.cps.toList lo hi).toArray⟩) st)
 |_,_,_,_=> .stuck
noncomputable def allB:List Val->Option Bool
 |[]=>some true
 | .bl b::r=>(allB r).map λc=>b&&c
 |_=>none
noncomputable def anyB:List Val->Option Bool
 |[]=>some false
 | .bl b::r=>(anyB r).map λc=>b||c
 |_=>none
noncomputable def iz:Int->List Val->Option Int
 |a,[]=>some a
 |a, .int i::r=>iz (a+i) r
 |_,_=>none
noncomputable def bZ (n:String):Val->Option Bool
 | .non=>some false
 | .bl _=>some (n=="bool"||n=="int")
 | .int _=>some (n=="int")
 | .str _=>some (n=="str")
 | .tup _ _=>some (n=="tuple")
 | .lst _=>some (n=="list")
 | .dct _ _=>some (n=="dict")
 | .obj _ _ _=>none
 | .ref _=>none
noncomputable def cw:List Val->Option (List Int)
 |[]=>some []
 | .int i::r=>(cw r).map λr=>i::r
 |_=>none
def hU:Bi->Val->aa->R Val
 | .len,x,st=>R.ao ((iu x).map .int) st
 | .tuple, .tup f xs,st=> .ok (.tup f xs) st
 | .tuple, .lst xs,st=> .ok (.tup true xs) st
 | .list, .tup _ xs,st=>new (.lst xs) st
 | .list, .lst xs,st=>new (.lst xs) st
 | .abs, .int i,st=> .ok (.int i.natAbs) st
 | .all, .lst xs,st=>R.ao ((allB xs).map .bl) st
 | .any, .lst xs,st=>R.ao ((anyB xs).map .bl) st
 | .sum, .lst xs,st=>R.ao ((iz 0 xs).map .int) st
 | .max, .lst xs,st=>R.ao ((cw xs).bind λl=>l.max?.map .int) st
 | .min, .lst xs,st=>R.ao ((cw xs).bind λl=>l.min?.map .int) st
 | .minD, .lst xs,st=>R.ao ((cw xs).map λl=>(l.min?.map .int).getD .non) st
 | .int, .bl b,st=> .ok (.int (if b=true then 1 else 0)) st
 | .int, .int i,st=> .ok (.int i) st
 | .bZ n,x,st=>R.ao ((bZ n x).map .bl) st
 |_,_,_=> .stuck
noncomputable def zr:Bi->Val->Val->aa->R Val
 | .max, .int i, .int j,st=> .ok (.int (if j>i then j else i)) st
 | .min, .int i, .int j,st=> .ok (.int (if j<i then j else i)) st
 |_,_,_,_=> .stuck
noncomputable def yA:Bi->Val->Val->Val->aa->R Val
 | .max, .int i, .int j, .int k,st=> .ok (.int (max i (max j k))) st
 |_,_,_,_,_=> .stuck
def o6 (b:Bi):List Val->aa->R Val
 |[x],st=>hU b x st
 |[x,y],st=>zr b x y st
 |[x,y,z],st=>yA b x y z st
 |_,_=> .stuck
def lmV:Bm->Nat->List Val->List Val->aa->R Val
 | .append,k,ys,[x],st=>iff (ys.length<10000) (.ok .non (st.set k (.lst (ys++[x]))))
 | .insert,k,ys,[.int i,x],st=>iff (0<=i/\i<=ys.length/\ys.length<=1000) (.ok .non (st.set k (.lst (ys.take i.toNat++[x]++ys.drop i.toNat))))
 | .clear,k,_,[],st=> .ok .non (st.set k (.lst []))
 | .reverse,k,ys,[],st=> .ok .non (st.set k (.lst ys.reverse))
 | .pop,k,ys,[],st=>(R.ao ys.getLast? st).bind λy st=> .ok y (st.set k (.lst ys.dropLast))
 |_,_,_,_,_=> .stuck
def BW (k:Nat) (ys:List Val) (st:aa):Option Ob->R Val
 |some (.lst zs)=>iff (ys.length+zs.length<=10000) (.ok .non (st.set k (.lst (ys++zs))))
 |_=> .stuck
def pq (m:Bm) (k:Nat) (xs:List Val) (st:aa):Option Ob->R Val
 |some (.lst ys)=>match m,xs with
  | .extend,[.ref j]=>BW k ys st st[j]?
  |m,xs=>lmV m k ys xs st
 |_=> .stuck
def qX:Val->List Val->aa->R Val
 | .dct ks vs,[k],st=>iff (dv k=true) (R.ao ((getD k ks vs).map λo=>o.getD .non) st)
 | .dct ks vs,[k,d],st=>iff (dv k=true) (R.ao ((getD k ks vs).map λo=>o.getD d) st)
 |_,_,_=> .stuck
def kJ:Bm->Val->List Val->aa->R Val
 | .get,o,xs,st=>qX (res st o) xs st
 |m, .ref k,xs,st=>pq m k xs st st[k]?
 |_,_,_,_=> .stuck
mutual
noncomputable def T.put (v:Val) (env:Env):T->Option Env
 | .var i=>if i<env.length then some (env.set i (some v)) else none
 | .tup ts=>match v with
  | .tup _ xs=>bQ xs env ts
  |_=>none
noncomputable def bQ (vs:List Val) (env:Env):List T->Option Env
 |[]=>match vs with
  |[]=>some env
  |_=>none
 |t::ts=>match vs with
  |v::vs=>(t.put v env).bind λenv=>bQ vs env ts
  |[]=>none
end
mutual
noncomputable def T.low (n:Nat):T->Bool
 | .var i=>decide (i<n)
 | .tup ts=>lows n ts
noncomputable def lows (n:Nat):List T->Bool
 |[]=>true
 |t::ts=>t.low n&&lows n ts
end
noncomputable def yj:List Int->List Int->Bool
 |[],[]=>false
 |[],_::_=>true
 |_::_,[]=>false
 |a::r,b::t=>if a=b then yj r t else decide (a<b)
noncomputable def du {α:Type} (k:List Int) (y:α):List (List Int×α)->List (List Int×α)
 |[]=>[(k,y)]
 |z::r=>if yj k z.1=true then (k,y)::z::r else z::du k y r
noncomputable def bO {α:Type}:List (List Int×α)->List (List Int×α)
 |[]=>[]
 |z::r=>du z.1 z.2 (bO r)
def GS:Val->Option (List Int)
 | .tup false xs=>cw xs
 |_=>none
noncomputable def dN:List Val->Option (List (List Int))
 |[]=>some []
 |v::r=>(GS v).bind λk=>(dN r).map λr=>k::r
def Kept (chk:List (Nat×Ob)) (st:aa):Prop:=∀p∈chk,st[p.1]?=some p.2
end
noncomputable section
def qW (P:Pg) (c:Nat):Bool:=(((P.cl c)).map (·.chg)).getD false
def sN (P:Pg) (n:Nat) (k:Nat) (st':aa):Option Ob->R Val
 |some (.lst xs)=>(R.ao (aS st' n k xs) st').bind λys st'=> .ok (.ref n) (st'.take n++[.lst ys])
 |some (.dct ks vs)=>(R.ao (aS st' n k vs) st').bind λvs st'=> .ok (.ref n) (st'.take n++[.dct ks vs])
 |some (.ins c ns vs)=>if qW P c=true then .ok (.ref k) st' else (R.ao (aS st' n st'.length vs) st').bind λvs st'=> .ok (.obj c ns vs) (st'.take n)
 |none=> .stuck
noncomputable def isRef:Val->Option Nat
 | .ref k=>some k
 | .non=>none
 | .bl _=>none
 | .int _=>none
 | .str _=>none
 | .tup _ _=>none
 | .lst _=>none
 | .dct _ _=>none
 | .obj _ _ _=>none
def Br (P:Pg) (n:Nat) (v:Val) (st':aa):Option Nat->R Val
 |some k=>if k<n then .ok v (st'.take n) else sN P n k st' st'[k]?
 |none=>(R.ao (v.aD st' n st'.length) st').bind λv st'=> .ok v (st'.take n)
open Classical in
def fin (P:Pg) (st:aa) (v:Val) (st':aa):R Val:=if Old st st' then Br P st.length v st' (isRef v) else .ok v st'
open Classical in
def lp (st:aa) (x:Exn) (st':aa):R Val:=
 if Old st st' then (R.ao (aS st' st.length st'.length x.vs) st').bind λvs st'=> .exc {x with vs:=vs} (st'.take st.length) else .exc x st'
open Classical in
def tY (st:aa) (v:Val) (st':aa):R Val:=
 if Old st st' then (R.ao (v.aD st' st.length st'.length) st').bind λv st'=> .ok v (st'.take st.length) else .ok v st'
inductive F where
 |next (env:Env) (st:aa)|ret (v:Val) (st:aa)|brk (env:Env) (st:aa)|cont (env:Env) (st:aa)|exc (x:Exn) (env:Env) (st:aa)|stuck
noncomputable def F.bind:F->(Env->aa->F)->F
 | .next env st,k=>k env st
 | .ret v st,_=> .ret v st
 | .brk env st,_=> .brk env st
 | .cont env st,_=> .cont env st
 | .exc x env st,_=> .exc x env st
 | .stuck,_=> .stuck
noncomputable def F.of {α:Type} (env:Env):R α->(α->aa->F)->F
 | .ok a st,k=>k a st
 | .exc x st,_=> .exc x env st
 | .stuck,_=> .stuck
noncomputable def F.ao (st:aa):Option Env->F
 |some env=> .next env st
 |none=> .stuck
abbrev au:=Nat->List Val->aa->R Val
noncomputable def iH (k:Nat):Option Ob->Option (List Val×List (Nat×Ob))
 |some (.lst xs)=>some (xs,[(k, .lst xs)])
 |some (.dct _ _)=>none
 |some (.ins _ _ _)=>none
 |none=>none
def itemsOf (st:aa):Val->Option (List Val×List (Nat×Ob))
 | .tup _ xs=>some (xs,[])
 | .lst xs=>some (xs,[])
 | .dct _ _=>none
 | .ref k=>iH k st[k]?
 | .non=>none
 | .bl _=>none
 | .int _=>none
 | .str _=>none
 | .obj _ _ _=>none
def gC (st:aa):Val->Option (List Val×List (Nat×Ob))
 | .tup _ xs=>some (xs,[])
 | .lst xs=>some (xs,[])
 | .dct ks _=>some (ks.map iY,[])
 | .ref k=>iH k st[k]?
 | .non=>none
 | .bl _=>none
 | .int _=>none
 | .str _=>none
 | .obj _ _ _=>none
def newD (xs:List Val) (st:aa):R Val:=iff (xs.length<=1000) ((R.ao (pairD xs [] []) st).bind λp st=>new (.dct p.1 p.2) st)
def vC (st:aa):Option Ob->R Val
 |some (.lst xs)=>newD xs st
 |_=> .stuck
def rl (st:aa):Val->R Val
 | .tup true xs=>newD xs st
 | .ref k=>vC st st[k]?
 |_=> .stuck
noncomputable def Cv:Val->Bool
 | .lst _=>true
 |_=>false
noncomputable def eD:List Val->List Val->List Val
 |x::xs,y::ys=> .tup false [x,y]::eD xs ys
 |_,_=>[]
noncomputable def Fc:Int->List Val->List Val
 |i,x::xs=> .tup false [.int i,x]::Fc (i+1) xs
 |_,[]=>[]
noncomputable def bu (lo:Int):Nat->List Val
 |0=>[]
 |n+1=> .int lo::bu (lo+1) n
def wt:Val->aa->R (List Val×List (Nat×Ob))
 | .int n,st=>iff (-(2^60)<n/\n<2^24) (.ok (bu 0 n.toNat,[]) st)
 |_,_=> .stuck
def Jt (a:Int):Val->aa->R (List Val×List (Nat×Ob))
 | .int b,st=>iff (b-a<2^24/\ -(2^60)<a/\a<2^60/\ -(2^60)<b) (.ok (bu a (b-a).toNat,[]) st)
 |_,_=> .stuck
def IC:Val->Val->aa->R (List Val×List (Nat×Ob))
 | .int a,y,st=>Jt a y st
 |_,_,_=> .stuck
noncomputable def fb:Option Val->List Val->List Val
 |some x,r=>x::r
 |none,r=>r
open Classical in
noncomputable def aB (f:Val->aa->R (Option Val)) (chk:List (Nat×Ob)):List Val->aa->R (List Val)
 |[],st=>iff (Kept chk st) (.ok [] st)
 |v::vs,st=>iff (Kept chk st) ((f v st).bind λo st=>(aB f chk vs st).bind λr st=> .ok (fb o r) st)
noncomputable def av (nw:Nat) (caps:List Nat) (env:Env):Env:=List.replicate nw none++caps.map λi=>(env[i]?).bind id
noncomputable def ir:Val->aa->R Bool
 | .bl b,st=> .ok b st
 |_,_=> .stuck
noncomputable def cV:Bm->Bool
 | .get=>true
 | .keys=>true
 | .values=>true
 |_=>false
def ze (m:Bm):Val->Bool
 | .lst _=> !cV m
 | .dct _ _=>cV m
 |_=>false
noncomputable def Ah:Val->aa->R Val
 | .int i,st=> .ok (.int (-i)) st
 |_,_=> .stuck
noncomputable def jO:Option Val->aa->R (Option Int)
 |none,st=> .ok none st
 |some (.int i),st=> .ok (some i) st
 |_,_=> .stuck
def et (P:Pg) (c:Nat) (f:Str):Bool:=(((P.cl c)).map λk=>k.flds.contains f).getD false
def gw (P:Pg) (f:Str):Val->aa->R Val
 | .obj c ns vs,st=>iff (et P c f=true) (R.ao (de ns vs f) st)
 |_,_=> .stuck
def Lg (P:Pg) (c:Nat):Val->aa->R Val
 | .obj k _ _,st=>R.ao (((P.cl k)).map λk=> .bl (k.sup.contains c)) st
 | .non,_=> .stuck
 | .bl _,_=> .stuck
 | .int _,_=> .stuck
 | .str _,_=> .stuck
 | .tup _ _,_=> .stuck
 | .lst _,_=> .stuck
 | .dct _ _,_=> .stuck
 | .ref _,_=> .stuck
def Mj (P:Pg) (cs:List Nat):Val->aa->R Val
 | .obj k _ _,st=>R.ao (((P.cl k)).bind λk=>if k.exc=true then some (.bl (cs.any λc=>k.sup.contains c)) else none) st
 |_,_=> .stuck
noncomputable def rP {α:Type}:Val->R α->R α
 | .non,r=>r
 |_,_=> .stuck
def kB (P:Pg) (cl:au) (c:Nat) (xs:List Val) (st:aa):Option (Option Nat)->R Val
 |some (some f)=>(cl f (.ref st.length::xs) (st++[.ins c [] []])).bind λv st'=>rP v (fin P st (.ref st.length) st')
 |some none=>if xs.isEmpty then fin P st (.ref st.length) (st++[.ins c [] []]) else .stuck
 |none=> .stuck
def GX (P:Pg) (m:Str):Val->Option Nat
 | .obj c ns _=>if ns.contains m=true then none else (P.cl c).bind λk=>k.meths.lookup m
 |_=>none
noncomputable def fL {α:Type}:Bool->R α->R α->R α
 |true,a,_=>a
 |false,_,b=>b
def aO (o:Option Env) (c:Env->aa->R Bool) (e:Env->aa->R Val) (st:aa):R (Option Val):=(R.ao o st).bind λenv st=>
 (c env st).bind λb st=>fL b ((e env st).bind λx st=> .ok (some x) st) (.ok none st)
def Au:Option (List Val×List (Nat×Ob))->Option (List Val×List (Nat×Ob))->aa->R (List Val×List (Nat×Ob))
 |some (xs,c),some (ys,d),st=>iff (ys.length<=xs.length) (.ok (eD xs ys,c++d) st)
 |_,_,_=> .stuck
noncomputable def noX:R Val->R Val
 | .ok a st=> .ok a st
 | .exc _ _=> .stuck
 | .stuck=> .stuck
noncomputable def eX (cl:au) (f:Nat) (st:aa):List Val->List Val->R (List Val)
 |[],dn=> .ok dn (st++[.lst dn])
 |y::ys,dn=>(noX (cl f [y] (st++[.lst dn]))).bind λv st'=>iff (st'=st++[.lst dn]) (eX cl f st ys (dn++[v]))
def i8 (ys:List Val) (ks:List (List Int)) (st:aa):R Val:=iff (ys.length<64/\ks.Nodup/\∃m,0<m/\∀k∈ks,k.length=m) (new (.lst ((bO (ks.zip ys)).map λz=>z.2)) (st++[.lst []]))
def qi (cl:au) (f:Nat) (st:aa):Val->R Val
 | .lst ys=>iff (ys.length<64) ((eX cl f st ys []).bind λks _=>(R.ao (dN ks) st).bind λks st=>i8 ys ks st)
 |_=> .stuck
mutual
noncomputable def E.run (P:Pg) (cl:au):E->Env->aa->R Val
 | .const v,_,st=> .ok v st
 | .var i,env,st=>R.ao ((env[i]?).bind id) st
 | .bin op a b,env,st=>(a.run P cl env st).bind λx st=>(b.run P cl env st).bind λy st=>eO op (res st x) (res st y) st
 | .neg a,env,st=>(a.run P cl env st).bind λx st=>Ah x st
 | .cmp op a b,env,st=>(a.run P cl env st).bind λx st=>(b.run P cl env st).bind λy st=>dJ (bF op (res st x) (res st y) st)
 | .cmp2 op op' a b c,env,st=>(a.run P cl env st).bind λx st=>(b.run P cl env st).bind λy st=>(bF op (res st x) (res st y) st).bind λz st=>fL z ((c.run P cl env st).bind λw st=>dJ (bF op' (res st y) (res st w) st)) (.ok (.bl false) st)
 | .and a b,env,st=>(a.run P cl env st).bind λx st=>(ir x st).bind λt st=>fL t (b.run P cl env st) (.ok (.bl false) st)
 | .or a b,env,st=>(a.run P cl env st).bind λx st=>(ir x st).bind λt st=>fL t (.ok (.bl true) st) (b.run P cl env st)
 | .not a,env,st=>(a.run P cl env st).bind λx st=>(ir x st).bind λt st=> .ok (.bl !t) st
 | .ite c a b,env,st=>(c.run P cl env st).bind λx st=>(R.ao (truth (res st x)) st).bind λt st=>fL t (a.run P cl env st) (b.run P cl env st)
 | .tup es,env,st=>(aM P cl es env st).bind λxs st=>iff (xs.length<=1000) (.ok (.tup false xs) st)
 | .lst es,env,st=>(aM P cl es env st).bind λxs st=>iff (xs.length<=1000) (new (.lst xs) st)
 | .dct [] [],_,st=>new (.dct [] []) st
 | .dct _ _,_,_=> .stuck
 | .fld o f,env,st=>(o.run P cl env st).bind λx st=>gw P f (res st x) st
 | .idx o i,env,st=>(o.run P cl env st).bind λx st=>(i.run P cl env st).bind λy st=>eS (res st x) y st
 | .slc o lo hi,env,st=>(o.run P cl env st).bind λx st=>((iR P cl lo env st).bind λa st=>jO a st).bind λa st=>((iR P cl hi env st).bind λb st=>jO b st).bind λb st=>qy (res st x) a b st
 | .call f es,env,st=>(aM P cl es env st).bind λxs st=>cl f xs st
 | .make c es,env,st=>(aM P cl es env st).bind λxs st=>kB P cl c xs st (((P.cl c)).map (·.init))
 | .meth o m es,env,st=>(o.run P cl env st).bind λx st=>(R.ao (GX P m (res st x)) st).bind λf st=>(aM P cl es env st).bind λxs st=>cl f (x::xs) st
 | .bi b es,env,st=>(aM P cl es env st).bind λxs st=>o6 b (xs.map (res st)) st
 | .bm m o es,env,st=>(o.run P cl env st).bind λx st=>iff (ze m (res st x)=true) ((aM P cl es env st).bind λxs st=>kJ m x xs st)
 | .isI e c,env,st=>(e.run P cl env st).bind λx st=>Lg P c (res st x) st
 | .isM e cs,env,st=>(e.run P cl env st).bind λx st=>Mj P cs (res st x) st
 | .comp nw caps t q c e,env,st=>(q.run P cl env st).bind λit st=>iff (t.low nw=true/\it.1.length<=10000) ((aB (λv st=>aO (t.put v (av nw caps env)) (runC P cl c) (e.run P cl) st) it.2 it.1 st).bind λxs st=>new (.lst xs) st)
 | .sortK q f,env,st=>(q.run P cl env st).bind λx st=>qi cl f st (res st x)
 | .dOf e,env,st=>(e.run P cl env st).bind λx st=>rl st x
 | .fz e,env,st=>(e.run P cl env st).bind λv st'=>tY st v st'
noncomputable def aM (P:Pg) (cl:au):List E->Env->aa->R (List Val)
 |[],_,st=> .ok [] st
 |e::es,env,st=>(e.run P cl env st).bind λx st=>(aM P cl es env st).bind λxs st=> .ok (x::xs) st
noncomputable def iR (P:Pg) (cl:au):Option E->Env->aa->R (Option Val)
 |none,_,st=> .ok none st
 |some e,env,st=>(e.run P cl env st).bind λx st=> .ok (some x) st
noncomputable def runC (P:Pg) (cl:au):Option E->Env->aa->R Bool
 |none,_,st=> .ok true st
 |some e,env,st=>(e.run P cl env st).bind λx st=>R.ao (truth (res st x)) st
noncomputable def Q.run (P:Pg) (cl:au):Q->Env->aa->R (List Val×List (Nat×Ob))
 | .val e,env,st=>(e.run P cl env st).bind λx st=>R.ao (gC st x) st
 | .rng1 a,env,st=>(a.run P cl env st).bind λx st=>wt x st
 | .rng2 a b,env,st=>(a.run P cl env st).bind λx st=>(b.run P cl env st).bind λy st=>IC x y st
 | .zip a b,env,st=>(a.run P cl env st).bind λx st=>(b.run P cl env st).bind λy st=>Au (itemsOf st x) (itemsOf st y) st
 | .enm a,env,st=>(a.run P cl env st).bind λx st=>iff (Cv (res st x)=true) ((R.ao (itemsOf st x) st).bind λp st=> .ok (Fc 0 p.1,p.2) st)
 | .items _,_,_=> .stuck
 | .rev _,_,_=> .stuck
end
noncomputable def F.turn:F->(Env->aa->F)->F
 | .next env st,k=>k env st
 | .cont env st,k=>k env st
 | .brk env st,_=> .next env st
 | .ret v st,_=> .ret v st
 | .exc x env st,_=> .exc x env st
 | .stuck,_=> .stuck
noncomputable def jV (c:Prop) (r:F):F:= @ite _ c (Classical.propDecidable c) r .stuck
theorem iO {c:Prop} {r:F} (h:c):jV c r=r:=if_pos h
open Classical in
noncomputable def forL (t:T) (body:Env->aa->F) (chk:List (Nat×Ob)):List Val->Env->aa->F
 |[],env,st=>jV (Kept chk st) (.next env st)
 |v::vs,env,st=>jV (Kept chk st) ((F.ao st (t.put v env)).bind λenv st=>(body env st).turn λenv st=>forL t body chk vs env st)
noncomputable def sY:Bool->F->F->F
 |true,a,_=>a
 |false,_,b=>b
noncomputable def FN (test:Env->aa->R Bool) (body:Env->aa->F):Nat->Env->aa->F
 |0,_,_=> .stuck
 |n+1,env,st=>F.of env (test env st) λb st=>sY b ((body env st).turn λenv st=>FN test body n env st) (.next env st)
def qw (P:Pg) (k:Nat) (f:Str) (x:Val) (st:aa):Option Ob->R Unit
 |some (.ins c ns vs)=>iff (et P c f=true/\ns.length<100) (.ok () (st.set k (.ins c (aU ns vs f x).1 (aU ns vs f x).2)))
 |_=> .stuck
def dh (P:Pg) (f:Str) (x:Val):Val->aa->R Unit
 | .ref k,st=>qw P k f x st st[k]?
 |_,_=> .stuck
def mm (k:Nat) (x:Val) (st:aa):Option Ob->Val->R Unit
 |some (.lst xs), .int j=>(R.ao (iV xs.length j) st).bind λj st=> .ok () (st.set k (.lst (xs.set j x)))
 |some (.dct ks vs),i=>iff (dv i=true/\ks.length<10000) ((R.ao (putD i x ks vs) st).bind λr st=> .ok () (st.set k (.dct r.1 r.2)))
 |_,_=> .stuck
def fG (i x:Val):Val->aa->R Unit
 | .ref k,st=>mm k x st st[k]? i
 |_,_=> .stuck
def jL (P:Pg) (c k:Nat):Bool:=(((P.cl k)).map λk=>k.sup.contains c).getD false
noncomputable def unset (x:Option Nat) (env:Env):Env:=match x with
 |some i=>env.set i none
 |none=>env
def F.unset (x:Option Nat):F->F
 | .next env st=> .next (PI.unset x env) st
 | .brk env st=> .brk (PI.unset x env) st
 | .cont env st=> .cont (PI.unset x env) st
 | .exc _ _ _=> .stuck
 | .ret v st=> .ret v st
 | .stuck=> .stuck
def BD (x:Option Nat) (y:Exn) (env:Env):Env:=match x with
 |some i=>env.set i (some (.obj y.c y.ns y.vs))
 |none=>env
def F.vX (P:Pg) (c:Nat) (x:Option Nat) (h:Env->aa->F):F->F
 | .exc y env st=>sY (jL P c y.c) ((h (BD x y env) st).unset x) .stuck
 | .next env st=> .next env st
 | .brk env st=> .brk env st
 | .cont env st=> .cont env st
 | .ret v st=> .ret v st
 | .stuck=> .stuck
noncomputable def F8 (env:Env) (st:aa):Val->F
 | .obj c ns vs=> .exc ⟨c,ns,vs⟩ env st
 |_=> .stuck
def yc (P:Pg) (cl:au) (c:Nat) (xs:List Val) (env:Env) (st:aa):Option (Option Nat)->F
 |some (some f)=>F.of env ((cl f (.ref st.length::xs) (st++[.ins c [] []])).bind λ_ st'=>fin P st (.ref st.length) st') λv st=>F8 env st v
 |some none=> .exc ⟨c,[],[]⟩ env st
 |none=> .stuck
mutual
noncomputable def S.run (P:Pg) (cl:au):S->Env->aa->F
 | .set t e,env,st=>F.of env (e.run P cl env st) λx st=>F.ao st (t.put x env)
 | .fG o i e,env,st=>F.of env ((e.run P cl env st).bind λx st=>(o.run P cl env st).bind λy st=>(i.run P cl env st).bind λz st=>fG z x y st) λ_ st=> .next env st
 | .dh o f e,env,st=>F.of env ((e.run P cl env st).bind λx st=>(o.run P cl env st).bind λy st=>dh P f x y st) λ_ st=> .next env st
 | .aug i op e,env,st=>F.of env ((R.ao ((env[i]?).bind id) st).bind λx st=>(e.run P cl env st).bind λy st=>eO op x (res st y) st) λx st=> .next (env.set i (some x)) st
 | .augI _ _ _ _,_,_=> .stuck
 | .augF _ _ _ _,_,_=> .stuck
 | .expr e,env,st=>F.of env (e.run P cl env st) λ_ st=> .next env st
 | .ret e,env,st=>F.of env (e.run P cl env st) λx st=> .ret x st
 | .retN,_,st=> .ret .non st
 | .pass,env,st=> .next env st
 | .brk,env,st=> .brk env st
 | .cont,env,st=> .cont env st
 | .ife c a b,env,st=>F.of env (runC P cl (some c) env st) λt st=>sY t (aN P cl a env st) (aN P cl b env st)
 | .whl c b,env,st=>FN (λenv st=>runC P cl (some c) env st) (λenv st=>aN P cl b env st) P.w env st
 | .for t q b,env,st=>F.of env (q.run P cl env st) λit st=>forL t (λenv st=>aN P cl b env st) it.2 it.1 env st
 | .raise c es,env,st=>F.of env (aM P cl es env st) λxs st=>yc P cl c xs env st (((P.cl c)).map (·.init))
 | .try_ b c x h,env,st=>(aN P cl b env st).vX P c x λenv st=>aN P cl h env st
noncomputable def aN (P:Pg) (cl:au):List S->Env->aa->F
 |[],env,st=> .next env st
 |s::ss,env,st=>(s.run P cl env st).bind λenv st=>aN P cl ss env st
end
def F.fin (P:Pg) (st:aa):F->R Val
 | .next _ st'=>PI.fin P st .non st'
 | .ret v st'=>PI.fin P st v st'
 | .exc x _ st'=>lp st x st'
 | .brk _ _=> .stuck
 | .cont _ _=> .stuck
 | .stuck=> .stuck
def BH (P:Pg) (cl:au) (xs:List Val) (st:aa):Option Fn->R Val
 |some d=>iff (xs.length=d.np) ((aN P cl d.body (xs.map some++List.replicate (d.ns-d.np) none) st).fin P st)
 |none=> .stuck
noncomputable def call (P:Pg):Nat->au
 |0,_,_,_=> .stuck
 |n+1,f,xs,st=>BH P (call P n) xs st (P.fn f)
end
theorem lH (st:aa):Old st st:=⟨aah _,λ_ _ _ h=> .inl h⟩
theorem gc (st g:aa):Old st (st++g):=⟨by simp,λi o h e=> .inl (by rwa[aar h] at e)⟩
theorem vx (st g:aa) (k:Nat) (o:Ob) (h:o.bd st.length=true):Old st (st.set k o++g):=⟨by simp,λi u hi e=>by
 rw[aar (by simpa using hi),List.getElem?_set] at e;split at e
 ·split at e
  ·exact .inr (by cases e;exact h)
  ·cases e
 ·exact .inl e⟩
end PI
set_option autoImplicit true
set_option relaxedAutoImplicit true
namespace PI
open PySem
@[simp]theorem MD (k:Nat):lJ k (some (.lst xs))= .lst xs:=rfl
@[simp]theorem NS (k:Nat):lJ k (some (.dct ks vs))= .dct ks vs:=rfl
@[simp]theorem Nt (k:Nat):lJ k (some (.ins c ns vs))= .obj c ns vs:=rfl
@[simp]theorem Oe (k:Nat):lJ k none= .ref k:=rfl
@[simp]theorem Om (st:aa):res st (.ref k)=lJ k st[k]?:=rfl
@[simp]theorem Ol (st:aa):res st (.tup f xs)= .tup f xs:=rfl
@[simp]theorem OR (st:aa):res st (.lst xs)= .lst xs:=rfl
@[simp]theorem OY (st:aa):res st (.dct ks vs)= .dct ks vs:=rfl
@[simp]theorem OL (st:aa):res st (.obj c ns vs)= .obj c ns vs:=rfl
@[simp]theorem MU {α:Type} (f:Int->Int->aa->R α) (i:Int):lK f i (.int j) st=f i j st:=rfl
@[simp]theorem Nc {α:Type} (f:Int->Int->aa->R α):cg f (.int i) y st=lK f i y st:=rfl
@[simp]theorem Nb (i:Str):A5 i (.str j) st=iff (i.length+j.length<=100000) (.ok (.str (i++j)) st):=rfl
@[simp]theorem NG (xs:List Val):Bd xs (.tup w1_ ys) st=iff (xs≠[]/\ys≠[]/\xs.length+ys.length<=10000) (.ok (.tup false (xs++ys)) st):=rfl
@[simp]theorem NY (xs:List Val):zy xs (.lst ys) st=iff (xs.length+ys.length<=10000) (new (.lst (xs++ys)) st):=rfl
@[simp]theorem MI :jn (.int i) y st=lK (λi j st=> .ok (.int (i+j)) st) i y st:=rfl
@[simp]theorem NI :jn (.str i) y st=A5 i y st:=rfl
@[simp]theorem M4 :jn (.tup w1_ xs) y st=Bd xs y st:=rfl
@[simp]theorem MS :jn (.lst xs) y st=zy xs y st:=rfl
@[simp]theorem NF :wD (.str z) (.int k) st=iff (0<=k/\k<=1000/\z.length<=1000) (.ok (.str (jN z k.toNat)) st):=rfl
@[simp]theorem M3 :wD (.int i) y st=lK oB i y st:=rfl
@[simp]theorem M0 :eO .Add x y st=jn x y st:=rfl
@[simp]theorem N6 :eO .Sub x y st=cg (λi j st=> .ok (.int (i-j)) st) x y st:=rfl
@[simp]theorem NX :eO .Mult x y st=wD x y st:=rfl
@[simp]theorem MM :eO .FloorDiv x y st=cg lY x y st:=rfl
@[simp]theorem NT :eO .Mod x y st=cg ra x y st:=rfl
@[simp]theorem Oc :eO .Pow x y st=cg vL x y st:=rfl
@[simp]theorem Oq (neg b:Bool):F6 neg b (.bl a) st= .ok (if neg=true then !(a==b) else a==b) st:=rfl
@[simp]theorem OT (neg:Bool) (x:Val):t7 neg x .non st= .ok (if neg=true then !fP x else fP x) st:=rfl
@[simp]theorem Ov (neg:Bool) (x:Val):t7 neg x (.bl b) st=F6 neg b x st:=rfl
@[simp]theorem Nq :bF .Eq x y st=R.ao (nr x y) st:=rfl
@[simp]theorem NV :bF .NotEq x y st=R.ao ((nr x y).map λb=> !b) st:=rfl
@[simp]theorem MC :bF .Lt x y st=cg (λi j st=> .ok (decide (i<j)) st) x y st:=rfl
@[simp]theorem MP :bF .LtE x y st=cg (λi j st=> .ok (decide (i<=j)) st) x y st:=rfl
@[simp]theorem NQ :bF .Gt x y st=cg (λi j st=> .ok (decide (j<i)) st) x y st:=rfl
@[simp]theorem Np :bF .GtE x y st=cg (λi j st=> .ok (decide (j<=i)) st) x y st:=rfl
@[simp]theorem NO :bF .Is x y st=t7 false x y st:=rfl
@[simp]theorem N5 :bF .IsNot x y st=t7 true x y st:=rfl
@[simp]theorem MY :bF .In x y st=R.ao (BO x y) st:=rfl
@[simp]theorem LY :fP .non=true:=rfl
@[simp]theorem Kw :fP (.int w1_)=false:=rfl
@[simp]theorem Ln :fP (.tup w1_ w2_)=false:=rfl
@[simp]theorem Og :eS (.tup w1_ xs) (.int k) st=R.ao (kZ xs k) st:=rfl
@[simp]theorem ow :eS (.lst xs) (.int k) st=R.ao (kZ xs k) st:=rfl
@[simp]theorem kg :eS (.str x) (.int k) st=iff (x.length<=1000) (R.ao (((iV x.length k).bind λj=>x.cps.toList[j]?).map λc=> .str ⟨#[c]⟩) st):=rfl
@[simp]theorem Nd :qy (.tup w1_ xs) lo hi st=iff (¬(bY xs.length 0 lo=0/\bY xs.length xs.length hi=xs.length)) (.ok (.tup false (cut xs lo hi)) st):=rfl
@[simp]theorem NW :qy (.lst xs) lo hi st=new (.lst (cut xs lo hi)) st:=rfl
@[simp]theorem MR :qy (.str x) lo hi st=iff (x.length<=1000) (.ok (.str ⟨(cut x.cps.toList lo hi).toArray⟩) st):=rfl
@[simp]theorem Mt :truth (.bl b)=some b:=rfl
@[simp]theorem Ni :iu (.tup w1_ xs)=some xs.length:=rfl
@[simp]theorem NN :iu (.lst xs)=some xs.length:=rfl
@[simp]theorem ME :iu (.dct ks w1_)=some ks.length:=rfl
@[simp]theorem Ot :hU .len x st=R.ao ((iu x).map .int) st:=rfl
@[simp]theorem OX :hU .tuple (.tup f xs) st= .ok (.tup f xs) st:=rfl
@[simp]theorem Oi :hU .tuple (.lst xs) st= .ok (.tup true xs) st:=rfl
@[simp]theorem OK :hU .list (.tup w1_ xs) st=new (.lst xs) st:=rfl
@[simp]theorem OW :hU .abs (.int i) st= .ok (.int i.natAbs) st:=rfl
@[simp]theorem MG :hU .max (.lst xs) st=R.ao ((cw xs).bind λl=>l.max?.map .int) st:=rfl
@[simp]theorem NL :hU .min (.lst xs) st=R.ao ((cw xs).bind λl=>l.min?.map .int) st:=rfl
@[simp]theorem N3 :hU .minD (.lst xs) st=R.ao ((cw xs).map λl=>(l.min?.map .int).getD .non) st:=rfl
@[simp]theorem MX :hU .int (.bl b) st= .ok (.int (if b=true then 1 else 0)) st:=rfl
@[simp]theorem Nu :hU (.bZ n) x st=R.ao ((bZ n x).map .bl) st:=rfl
@[simp]theorem Oy :zr .max (.int i) (.int j) st= .ok (.int (if j>i then j else i)) st:=rfl
@[simp]theorem OQ :yA .max (.int i) (.int j) (.int k) st= .ok (.int (max i (max j k))) st:=rfl
@[simp]theorem Oj (b:Bi):o6 b [x] st=hU b x st:=rfl
@[simp]theorem OJ (b:Bi):o6 b [x,y] st=zr b x y st:=rfl
@[simp]theorem OB (b:Bi):o6 b [x,y,z] st=yA b x y z st:=rfl
@[simp]theorem OF (k:Nat) (ys:List Val) (st:aa):BW k ys st (some (.lst zs))=iff (ys.length+zs.length<=10000) (.ok .non (st.set k (.lst (ys++zs)))):=rfl
@[simp]theorem Ou :qX (.dct ks vs) [k] st=iff (dv k=true) (R.ao ((getD k ks vs).map λo=>o.getD .non) st):=rfl
@[simp]theorem tj :qX (.dct ks vs) [k,d] st=iff (dv k=true) (R.ao ((getD k ks vs).map λo=>o.getD d) st):=rfl
@[simp]theorem Kf :isRef (.ref k)=some k:=by simp only[isRef]
@[simp]theorem MA :isRef .non=none:=by simp only[isRef]
@[simp]theorem Lm :isRef (.bl w1_)=none:=by simp only[isRef]
@[simp]theorem Lw :isRef (.tup w1_ w2_)=none:=by simp only[isRef]
@[simp]theorem ND (P:Pg) (n:Nat) (k:Nat) (st':aa):sN P n k st' (some (.lst xs))=(R.ao (aS st' n k xs) st').bind λys st'=> .ok (.ref n) (st'.take n++[.lst ys]):=rfl
@[simp]theorem MH (P:Pg) (n:Nat) (k:Nat) (st':aa):sN P n k st' (some (.ins c ns vs))=if qW P c=true then .ok (.ref k) st' else (R.ao (aS st' n st'.length vs) st').bind λvs st'=> .ok (.obj c ns vs) (st'.take n):=rfl
@[simp]theorem Na (P:Pg) (n:Nat) (v:Val) (st':aa):Br P n v st' (some k)=if k<n then .ok v (st'.take n) else sN P n k st' st'[k]?:=rfl
@[simp]theorem j3 :F.bind (.next env st) k=k env st:=rfl
@[simp]theorem JQ :F.bind (.ret v st) w1_= .ret v st:=rfl
@[simp]theorem J6 :F.bind (.exc x env st) w1_= .exc x env st:=rfl
@[simp]theorem Nm {α:Type} (env:Env):F.of env (.ok a st) k=k a st:=rfl
@[simp]theorem Nz {α:Type} (env:Env):F.of env (.exc x st) w1_= .exc x env st:=rfl
@[simp]theorem k9 (st:aa):F.ao st (some env)= .next env st:=rfl
@[simp]theorem OG (k:Nat):iH k (some (.lst xs))=some (xs,[(k, .lst xs)]):=rfl
@[simp]theorem Js (st:aa):itemsOf st (.tup w1_ xs)=some (xs,[]):=rfl
@[simp]theorem Jf (st:aa):itemsOf st (.lst xs)=some (xs,[]):=rfl
@[simp]theorem IW (st:aa):itemsOf st (.ref k)=iH k st[k]?:=rfl
@[simp]theorem JO (st:aa):gC st (.tup w1_ xs)=some (xs,[]):=rfl
@[simp]theorem J5 (st:aa):gC st (.dct ks w1_)=some (ks.map iY,[]):=rfl
@[simp]theorem JV (st:aa):gC st (.ref k)=iH k st[k]?:=rfl
@[simp]theorem NU (st:aa):vC st (some (.lst xs))=newD xs st:=rfl
@[simp]theorem Nw (st:aa):rl st (.tup true xs)=newD xs st:=rfl
@[simp]theorem Oa (st:aa):rl st (.ref k)=vC st st[k]?:=rfl
@[simp]theorem Kb :fb (some x) r=x::r:=rfl
@[simp]theorem MT :Ah (.int i) st= .ok (.int (-i)) st:=rfl
@[simp]theorem Lc :ir (.bl b) st= .ok b st:=rfl
@[simp]theorem N9 :jO none st= .ok none st:=rfl
@[simp]theorem NZ :jO (some (.int i)) st= .ok (some i) st:=rfl
@[simp]theorem Nj (P:Pg) (f:Str):gw P f (.obj c ns vs) st=iff (et P c f=true) (R.ao (de ns vs f) st):=rfl
@[simp]theorem M6 {α:Type}:rP .non r=r:=rfl
@[simp]theorem KY (P:Pg) (cl:au) (c:Nat) (xs:List Val) (st:aa):kB P cl c xs st (some (some f))=(cl f (.ref st.length::xs) (st++[.ins c [] []])).bind λv st'=>rP v (fin P st (.ref st.length) st'):=rfl
@[simp]theorem Oh {α:Type}:fL true a w1_=a:=rfl
@[simp]theorem OD {α:Type}:fL false w1_ b=b:=rfl
@[simp]theorem MK :Au (some (xs,c)) (some (ys,d)) st=iff (ys.length<=xs.length) (.ok (eD xs ys,c++d) st):=rfl
@[simp]theorem jX :F.turn (.next env st) k=k env st:=rfl
@[simp]theorem OE :sY true a w1_=a:=rfl
@[simp]theorem Lz (P:Pg) (k:Nat) (f:Str) (x:Val) (st:aa):qw P k f x st (some (.ins c ns vs))=iff (et P c f=true/\ns.length<100) (.ok () (st.set k (.ins c (aU ns vs f x).1 (aU ns vs f x).2))):=rfl
@[simp]theorem ML (P:Pg) (f:Str) (x:Val):dh P f x (.ref k) st=qw P k f x st st[k]?:=rfl
@[simp]theorem L1 (k:Nat) (x:Val) (st:aa):mm k x st (some (.lst xs)) (.int j)=(R.ao (iV xs.length j) st).bind λj st=> .ok () (st.set k (.lst (xs.set j x))):=rfl
@[simp]theorem Lj (k:Nat) (x:Val) (st:aa):mm k x st (some (.dct ks vs)) i=iff (dv i=true/\ks.length<10000) ((R.ao (putD i x ks vs) st).bind λr st=> .ok () (st.set k (.dct r.1 r.2))):=rfl
@[simp]theorem Nr (i x:Val):fG i x (.ref k) st=mm k x st st[k]? i:=rfl
@[simp]theorem Ik (x:Option Nat):F.unset x (.next env st)= .next (PI.unset x env) st:=rfl
@[simp]theorem IB (P:Pg) (c:Nat) (x:Option Nat) (h:Env->aa->F):F.vX P c x h (.exc y env st)=sY (jL P c y.c) ((h (BD x y env) st).unset x) .stuck:=rfl
@[simp]theorem JG (P:Pg) (cl:au) (c:Nat) (xs:List Val) (env:Env) (st:aa):yc P cl c xs env st (some none)= .exc ⟨c,[],[]⟩ env st:=rfl
@[simp]theorem Kx (P:Pg) (st:aa):F.fin P st (.next w1_ st')=PI.fin P st .non st':=rfl
@[simp]theorem KO (P:Pg) (st:aa):F.fin P st (.ret v st')=PI.fin P st v st':=rfl
@[simp]theorem Kp (P:Pg) (st:aa):F.fin P st (.exc x w1_ st')=lp st x st':=rfl
@[simp]theorem Ng :allB []=some true:=rfl
@[simp]theorem MF :allB (.bl b::r)=(allB r).map λc=>b&&c:=rfl
@[simp]theorem NJ :iz a []=some a:=rfl
@[simp]theorem Nn :iz a (.int i::r)=iz (a+i) r:=rfl
@[simp]theorem Mq :cw []=some []:=rfl
@[simp]theorem K4 :cw (.int i::r)=(cw r).map λr=>i::r:=rfl
@[simp]theorem NK (n:String):bZ n .non=some false:=rfl
@[simp]theorem N4 (n:String):bZ n (.bl w1_)=some (n=="bool"||n=="int"):=rfl
@[simp]theorem N7 (n:String):bZ n (.int w1_)=some (n=="int"):=rfl
@[simp]theorem N8 (n:String):bZ n (.tup w1_ w2_)=some (n=="tuple"):=rfl
@[simp]theorem ON (m:Bm):ze m (.lst w1_)= !cV m:=rfl
@[simp]theorem OP (m:Bm):ze m (.dct w1_ w2_)=cV m:=rfl
@[simp]theorem OA :noX (.ok a st)= .ok a st:=rfl
@[simp]theorem Lb (cl:au) (f:Nat) (st:aa):qi cl f st (.lst ys)=iff (ys.length<64) ((eX cl f st ys []).bind λks _=>(R.ao (dN ks) st).bind λks st=>i8 ys ks st):=rfl
@[simp]theorem AB (P:Pg) (cl:au):E.run P cl (.const v) w1_ st= .ok v st:=rfl
@[simp]theorem A4 (P:Pg) (cl:au):E.run P cl (.var i) env st=R.ao ((env[i]?).bind id) st:=rfl
@[simp]theorem Ld (P:Pg) (cl:au):E.run P cl (.bin op a b) env st=(a.run P cl env st).bind λx st=>(b.run P cl env st).bind λy st=>eO op (res st x) (res st y) st:=rfl
@[simp]theorem LH (P:Pg) (cl:au):E.run P cl (.neg a) env st=(a.run P cl env st).bind λx st=>Ah x st:=rfl
@[simp]theorem Mr (P:Pg) (cl:au):E.run P cl (.cmp op a b) env st=(a.run P cl env st).bind λx st=>(b.run P cl env st).bind λy st=>dJ (bF op (res st x) (res st y) st):=rfl
@[simp]theorem Mn (P:Pg) (cl:au):E.run P cl (.cmp2 op op' a b c) env st=(a.run P cl env st).bind λx st=>(b.run P cl env st).bind λy st=>(bF op (res st x) (res st y) st).bind λz st=>fL z ((c.run P cl env st).bind λw st=>dJ (bF op' (res st y) (res st w) st)) (.ok (.bl false) st):=rfl
@[simp]theorem Kk (P:Pg) (cl:au):E.run P cl (.and a b) env st=(a.run P cl env st).bind λx st=>(ir x st).bind λt st=>fL t (b.run P cl env st) (.ok (.bl false) st):=rfl
@[simp]theorem K7 (P:Pg) (cl:au):E.run P cl (.or a b) env st=(a.run P cl env st).bind λx st=>(ir x st).bind λt st=>fL t (.ok (.bl true) st) (b.run P cl env st):=rfl
@[simp]theorem LG (P:Pg) (cl:au):E.run P cl (.not a) env st=(a.run P cl env st).bind λx st=>(ir x st).bind λt st=> .ok (.bl !t) st:=rfl
@[simp]theorem pH (P:Pg) (cl:au):E.run P cl (.ite c a b) env st=(c.run P cl env st).bind λx st=>(R.ao (truth (res st x)) st).bind λt st=>fL t (a.run P cl env st) (b.run P cl env st):=rfl
@[simp]theorem Ka (P:Pg) (cl:au):E.run P cl (.tup es) env st=(aM P cl es env st).bind λxs st=>iff (xs.length<=1000) (.ok (.tup false xs) st):=rfl
@[simp]theorem JX (P:Pg) (cl:au):E.run P cl (.lst es) env st=(aM P cl es env st).bind λxs st=>iff (xs.length<=1000) (new (.lst xs) st):=rfl
@[simp]theorem JW (P:Pg) (cl:au):E.run P cl (.dct [] []) w1_ st=new (.dct [] []) st:=rfl
@[simp]theorem JI (P:Pg) (cl:au):E.run P cl (.fld o f) env st=(o.run P cl env st).bind λx st=>gw P f (res st x) st:=rfl
@[simp]theorem JH (P:Pg) (cl:au):E.run P cl (.idx o i) env st=(o.run P cl env st).bind λx st=>(i.run P cl env st).bind λy st=>eS (res st x) y st:=rfl
@[simp]theorem JK (P:Pg) (cl:au):E.run P cl (.slc o lo hi) env st=(o.run P cl env st).bind λx st=>((iR P cl lo env st).bind λa st=>jO a st).bind λa st=>((iR P cl hi env st).bind λb st=>jO b st).bind λb st=>qy (res st x) a b st:=rfl
@[simp]theorem JS (P:Pg) (cl:au):E.run P cl (.call f es) env st=(aM P cl es env st).bind λxs st=>cl f xs st:=rfl
@[simp]theorem JR (P:Pg) (cl:au):E.run P cl (.make c es) env st=(aM P cl es env st).bind λxs st=>kB P cl c xs st (((P.cl c)).map (·.init)):=rfl
@[simp]theorem yR (P:Pg) (cl:au):E.run P cl (.bi b es) env st=(aM P cl es env st).bind λxs st=>o6 b (xs.map (res st)) st:=rfl
@[simp]theorem JN (P:Pg) (cl:au):E.run P cl (.bm m o es) env st=(o.run P cl env st).bind λx st=>iff (ze m (res st x)=true) ((aM P cl es env st).bind λxs st=>kJ m x xs st):=rfl
@[simp]theorem J9 (P:Pg) (cl:au):E.run P cl (.sortK q f) env st=(q.run P cl env st).bind λx st=>qi cl f st (res st x):=rfl
@[simp]theorem JP (P:Pg) (cl:au):E.run P cl (.dOf e) env st=(e.run P cl env st).bind λx st=>rl st x:=rfl
@[simp]theorem J7 (P:Pg) (cl:au):E.run P cl (.fz e) env st=(e.run P cl env st).bind λv st'=>tY st v st':=rfl
@[simp]theorem zM (P:Pg) (cl:au):aM P cl [] w1_ st= .ok [] st:=rfl
@[simp]theorem AZ (P:Pg) (cl:au):aM P cl (e::es) env st=(e.run P cl env st).bind λx st=>(aM P cl es env st).bind λxs st=> .ok (x::xs) st:=rfl
@[simp]theorem NM (P:Pg) (cl:au):iR P cl none w1_ st= .ok none st:=rfl
@[simp]theorem NP (P:Pg) (cl:au):iR P cl (some e) env st=(e.run P cl env st).bind λx st=> .ok (some x) st:=rfl
@[simp]theorem MZ (P:Pg) (cl:au):runC P cl none w1_ st= .ok true st:=rfl
@[simp]theorem NB (P:Pg) (cl:au):runC P cl (some e) env st=(e.run P cl env st).bind λx st=>R.ao (truth (res st x)) st:=rfl
@[simp]theorem K9 (P:Pg) (cl:au):Q.run P cl (.val e) env st=(e.run P cl env st).bind λx st=>R.ao (gC st x) st:=rfl
@[simp]theorem LK (P:Pg) (cl:au):Q.run P cl (.rng1 a) env st=(a.run P cl env st).bind λx st=>wt x st:=rfl
@[simp]theorem LM (P:Pg) (cl:au):Q.run P cl (.zip a b) env st=(a.run P cl env st).bind λx st=>(b.run P cl env st).bind λy st=>Au (itemsOf st x) (itemsOf st y) st:=rfl
@[simp]theorem Ny (f:Val->Val->Option Bool):jS f [] []=some true:=rfl
@[simp]theorem MJ (f:Val->Val->Option Bool):jS f (x::xs) (y::ys)=(f x y).bind λa=>(jS f xs ys).map λb=>a&&b:=rfl
@[simp]theorem NH (v:Val) (env:Env) (i:Nat):T.put v env (.var i)=if i<env.length then some (env.set i (some v)) else none:=by simp only[T.put]
@[simp]theorem NA (f:Bool) (xs:List Val) (env:Env) (ts:List T):T.put (.tup f xs) env (.tup ts)=bQ xs env ts:=by simp only[T.put]
@[simp]theorem Ll (env:Env):bQ [] env []=some env:=by simp only[bQ]
@[simp]theorem JZ (v:Val) (vs:List Val) (env:Env) (t:T) (ts:List T):bQ (v::vs) env (t::ts)=(t.put v env).bind λenv=>bQ vs env ts:=by simp only[bQ]
@[simp]theorem Ox (xs:List Val) (i:Int):kZ xs i=(iV xs.length i).bind λj=>xs[j]?:=rfl
@[simp]theorem MW (n:Nat) (i:Int):iV n i=if 0<=i then (if i<n then some i.toNat else none) else if-(n:Int)<=i then some (i+n).toNat else none:=rfl
@[simp]theorem OS (r:R Bool):dJ r=r.bind λb st=> .ok (.bl b) st:=rfl
@[simp]theorem N2 (d:Nat) (a b:Int):eqv d (.int a) (.int b)=some (a==b):=by cases d<;>rfl
@[simp]theorem Of (d:Nat) (a b:Str):eqv d (.str a) (.str b)=some (decide (a=b)):=by cases d<;>rfl
@[simp]theorem Nl (d:Nat) (f g:Bool) (xs ys:List Val):eqv (d+1) (.tup f xs) (.tup g ys)=jS (eqv d) xs ys:=rfl
@[simp]theorem OV (a b:Bool):nr (.bl a) (.bl b)=some (a==b):=rfl
@[simp]theorem M9 (a b:Int):nr (.int a) (.int b)=some (a==b):=rfl
@[simp]theorem inI_q (i:Int) (f:Bool) (ys:List Val):BO (.int i) (.tup f ys)=jI i ys:=rfl
@[simp]theorem Mz (i:Int):jI i []=some false:=rfl
@[simp]theorem JJ (i j:Int) (r:List Val):jI i (.int j::r)=(jI i r).map λb=>(j==i)||b:=rfl
inductive Gv where
 |fn (i:Nat)|cls (i:Nat) (ini:Bool)|err (i:Nat)|val (v:Val)
structure Dt where
 gl:List (Str×Gv)
 fr:List Str
 fx:List Str
 is:List Str
 ff:List Str
structure Gm where
 N:List Str
 sc:Scope
 fn:Str->Bool
 cm:Bool
def Gm.gl (g:Gm) (x:Str):Bool:=g.sc.names.lookup x==some .globalImplicit
noncomputable def ER (sc:Scope) (x:Str):Bool:=sc.names.lookup x==some .local||sc.names.lookup x==some .cell||sc.names.lookup x==some .free
noncomputable def vP (sc:Scope) (x:Str):Bool:=sc.names.lookup x==some .local||sc.names.lookup x==some .cell
def Gm.ix (g:Gm) (x:Str):Option Nat:=if (x==("__debug__":Str))||(x==("__classdict__":Str)) then none else (g.N.idxOf? x).bind λi=>if ER g.sc x then some i else none
def Gm.lx (g:Gm) (x:Str):Option Nat:=(g.N.idxOf? x).bind λi=>if vP g.sc x&&(g.fn x||g.sc.names.lookup x==some .local) then some i else none
def Gm.gb (g:Gm) (x:Str):Bool:=g.gl x&& !(x==("__debug__":Str))&& !(x==("__name__":Str))
def Gm.gv (D:Dt) (g:Gm) (x:Str):Option Gv:=if g.gb x then D.gl.lookup x else none
noncomputable def Bn (x:Str):Option Bi:=if x="len" then some .len else if x="abs" then some .abs else if x="int" then some .int else if x="tuple" then some .tuple else if x="list" then some .list else if x="all" then some .all else if x="sum" then some .sum else if x="max" then some .max else if x="min" then some .min else none
noncomputable def Cr (S sc:Scope):Scope:={sc with names:=sc.names.map λ(n,k)=>if (k== .free&&S.kind== .function&&S.names.lookup n==some .cell) then (n, .cell) else (n,k)}
noncomputable def jC:List Str->Bool
 |[]=>true
 |x::r=> !r.contains x&&jC r
noncomputable def Ax (S sc:Scope):Bool:=(sc.kind== .function)&&(sc.names.all λy=> !(y.2== .local)||sc.names.lookup y.1==some .local)
 &&(sc.names.all λy=> !(y.2== .free)||S.names.lookup y.1==some .cell||S.names.lookup y.1==some .free)&&(sc.names.all λy=> !(y.2== .cell)||sc.names.lookup y.1==some .cell)
noncomputable def rJ (sc:Scope):List Str:=(sc.names.filter λy=>(y.2== .local||y.2== .cell)&& !(y.1==(".0":Str))).map (·.1)
noncomputable def iP (N:List Str) (sc:Scope):List Nat:=(sc.names.filter λy=>y.2== .free).filterMap λy=>N.idxOf? y.1
def Gm.block (g:Gm) (sc:Scope):Option Gm:=let ws:=rJ sc;let caps:=iP g.N sc;let N:=ws++caps.map λi=>g.N.getD i Str.empty
 if Ax g.sc sc&&jC N&&(caps.all λk=>sc.names.lookup (g.N.getD k Str.empty)==some .free)&&g.cm then some ⟨N,Cr g.sc sc,λx=>sc.names.lookup x==some .cell,true⟩ else none
noncomputable def cC:Const->Option E
 | .none=>some (.const .non)
 | .bool b=>some (.const (.bl b))
 | .int i=>some (.const (.int i))
 | .str s=>some (.const (.str s))
 |_=>none
noncomputable def Ao:Operator->Bool
 | .Add=>true
 | .Sub=>true
 | .Mult=>true
 | .FloorDiv=>true
 | .Mod=>true
 | .Pow=>true
 |_=>false
noncomputable def cUn:UnaryOp->E->Option E
 | .USub,a=>some (.neg a)
 | .Not,a=>some (.not a)
 |_,_=>none
noncomputable def cL {α β:Type} (f:α->Option β):List α->Option (List β)
 |[]=>some []
 |a::r=>(f a).bind λb=>(cL f r).map λr=>b::r
noncomputable def bop:BoolOp->E->E->E
 | .And,x,y=> .and x y
 | .Or,x,y=> .or x y
noncomputable def cBool (op:BoolOp) (f:Expr->Option E):List Expr->Option E
 |[]=>none
 |[a]=>f a
 |a::r=>(f a).bind λx=>(cBool op f r).map λy=>bop op x y
noncomputable def notStar:Expr->Bool
 | .Starred _ _=>false
 |_=>true
noncomputable def eI:Expr->Bool
 | .Set _ _ _=>false
 |_=>true
noncomputable def eQ:Expr->Bool
 | .Slice _ _ _ _=>false
 |_=>true
noncomputable def dX:Expr->Bool
 | .ListComp _ _ _ _=>false
 | .SetComp _ _ _ _=>false
 | .DictComp _ _ _ _ _=>false
 |_=>true
noncomputable def cP:Expr->Bool
 | .IfExp _ _ _ _=>false
 |_=>true
noncomputable def jc:Expr->Bool
 | .Call (.Name _ _) [] [] _=>false
 |_=>true
noncomputable def AF (m:Str) (n:Nat):Option Bm:=
 if m="append" then (if n=1 then some .append else none) else if m="extend" then (if n=1 then some .extend else none) else none
noncomputable def jW (m:Str):Bool:=(["append","extend","insert","reverse","clear","get","pop","remove","join","split","isdigit","count","index","keys","values","items","copy","sort"]:List Str).contains m
def Ci (D:Dt) (g:Gm) (x:Str):Option E:=match g.gv D x with
 |some (.val v)=>some (.const v)
 |_=>none
noncomputable def mE (x:Str):Option String:=
 if x="bool" then some "bool" else if x="int" then some "int" else if x="str" then some "str" else if x="tuple" then some "tuple" else if x="list" then some "list" else if x="dict" then some "dict" else none
def qr (D:Dt) (g:Gm) (x:Str) (es:List Expr) (f:Expr->Option E):Option E:=match g.gv D x with
 |some (.fn i)=>if es.all notStar then (cL f es).map λes=> .call i es else none
 |some (.cls c ini)=>if es.all notStar&&(ini== !es.isEmpty)&& !es.isEmpty then (cL f es).map λes=> .make c es else none
 |some (.err _)=>none
 |some (.val _)=>none
 |none=>if g.gb x&&D.fr.contains x&&es.all notStar&& !es.isEmpty&&g.cm then (Bn x).bind λb=>(cL f es).map λes=> .bi b es else none
def qd (m:Str) (ap pos:Pos) (o:Expr) (es:List Expr) (f:Expr->Option E):Option E:=
 if jc o&&es.all notStar&&(ap.endLine==pos.line)&&decide (es.length<30) then (f o).bind λo=>(cL f es).bind λes=>
  if jW m then (if m="get" then (match es with
   |[k]=>some (.bm .get o [k])
   |[k,d]=>some (.bm .get o [k,d])
   |_=>none) else (AF m es.length).map λb=> .bm b o es) else none else none
noncomputable def k7 (g:Gm):Nat->Expr->Option T
 |0,_=>none
 |n+1,e=>match e with
  | .Name x _=>(g.lx x).map .var
  | .Tuple es _ _=>if es.all notStar&&g.cm then (cL (k7 g n) es).map .tup else none
  |_=>none
def Hb (f:Expr->Option E) (o:Expr):Expr->Option E
 | .Slice lo hi none _=>(f o).bind λo=>match lo,hi with
  |none,none=>some (.slc o none none)
  |some a,none=>(f a).map λa=> .slc o (some a) none
  |none,some b=>(f b).map λb=> .slc o none (some b)
  |some a,some b=>(f a).bind λa=>(f b).map λb=> .slc o (some a) (some b)
 |i=>if eQ i then (f o).bind λo=>(f i).map λi=> .idx o i else none
noncomputable def nB (x:Str):Bool:=x==("isinstance":Str)
def CC (D:Dt) (g:Gm) (x:Str) (f:Expr->Option E):List Expr->Option E
 |[a, .Name y _]=>if notStar a&&g.gb x&&D.fr.contains x&&g.gb y&&D.fr.contains y then (mE y).bind λn=>(f a).map λa=> .bi (.bZ n) [a] else none
 |_=>none
noncomputable def isSort (x:Str):Bool:=x==("sorted":Str)
def vz (D:Dt) (g:Gm) (x:Str) (f:Expr->Option E) (es:List Expr) (ks:List Keyword):Option E:=match es,ks with
 |[a],[⟨some kn, .Name y _,_⟩]=>if isSort x&&(kn==("key":Str))&&notStar a&&g.gb x&&D.fr.contains x&&g.cm then (match g.gv D y with
  |some (.fn i)=>(f a).map λa=> .sortK a i
  |_=>none) else none
 |_,_=>none
def wa (D:Dt) (g:Gm) (x:Str) (f:Expr->Option E) (es:List Expr) (ks:List Keyword):Option E:=match es,ks with
 |[a],[⟨some kn, .Constant .none _ _,_⟩]=>if (x==("min":Str))&&(kn==("default":Str))&&notStar a&&g.gb x&&D.fr.contains x&&g.cm then (f a).map λa=> .bi .minD [a] else none
 |es,ks=>vz D g x f es ks
noncomputable def sx (x:Str):Bool:=x==("dict":Str)
def Co (D:Dt) (g:Gm) (x:Str) (f:Expr->Option E):List Expr->Option E
 |[a]=>if notStar a&&g.gb x&&D.fr.contains x&&g.cm then (f a).map .dOf else none
 |_=>none
noncomputable def ko (x:Str):Bool:=x==("range":Str)
noncomputable def sS:List Comprehension->Option Comprehension
 |[c]=>some c
 |_=>none
def Aa (f:Expr->Option E):List Expr->Option (Option E)
 |[]=>some none
 |[c]=>if cP c then (f c).map some else none
 |_=>none
def Hu (D:Dt) (g:Gm) (x:Str) (f:Expr->Option E):List Expr->Option Q
 |[a]=>if g.gb x&&D.fr.contains x&&notStar a then (f a).map .rng1 else none
 |_=>none
noncomputable def qm (x:Str):Bool:=x==("zip":Str)
def Gp (D:Dt) (g:Gm) (x:Str) (f:Expr->Option E):List Expr->Option Q
 |[a,b]=>if g.gb x&&D.fr.contains x&&notStar a&&notStar b then (f a).bind λa=>(f b).map λb=> .zip a b else none
 |_=>none
noncomputable def Jm:Q->Bool
 | .enm _=>true
 | .zip _ _=>true
 |_=>false
noncomputable def isTup:Expr->Bool
 | .Tuple _ _ _=>true
 |_=>false
def u9 (q:Q) (tg:Expr):Bool:= !Jm q||isTup tg
mutual
noncomputable def cE (D:Dt):Nat->Gm->Expr->Option E
 |0,_,_=>none
 |n+1,g,e=>match e with
  | .Constant c _ _=>cC c
  | .Name x _=>match g.ix x with
   |some i=>some (.var i)
   |none=>Ci D g x
  | .Dict [] [] _=>some (.dct [] [])
  | .Call (.Attribute o m ap) es [] pos=>if g.cm||jW m then qd m ap pos o es (cE D n g) else none
  | .BinOp a op b _=>if Ao op then (cE D n g a).bind λa=>(cE D n g b).map λb=> .bin op a b else none
  | .UnaryOp op a _=>if cP a then (cE D n g a).bind λa=>cUn op a else none
  | .BoolOp op vs _=>if vs.all cP then cBool op (cE D n g) vs else none
  | .Compare a [op] [b] _=>if eI b then (cE D n g a).bind λa=>(cE D n g b).map λb=> .cmp op a b else none
  | .IfExp c a b _=>if cP c then (cE D n g c).bind λc=>(cE D n g a).bind λa=>(cE D n g b).map λb=> .ite c a b else none
  | .Tuple es _ _=>if es.all notStar then (cL (cE D n g) es).map .tup else none
  | .List es _=>if es.all notStar then (cL (cE D n g) es).map .lst else none
  | .Attribute o f _=>if jc o&&D.fx.contains f then (cE D n g o).map λo=> .fld o f else none
  | .Subscript o i _=>Hb (cE D n g) o i
  | .Call (.Name x _) es [] _=>if nB x then CC D g x (cE D n g) es else if sx x then Co D g x (cE D n g) es else if g.cm then qr D g x es (cE D n g) else none
  | .Call (.Name x _) es (k::ks) _=>wa D g x (cE D n g) es (k::ks)
  | .ListComp elt gens sc _=>(sS gens).bind λc=>if c.is_async==0&&eI c.iter then (g.block sc).bind λh=>(cQ D n g c.iter).bind λq=>(if u9 q c.target then k7 h n c.target else none).bind λt=>(cE D n h elt).bind λe=>(Aa (cE D n h) c.ifs).map λc=> .comp (rJ sc).length (iP g.N sc) t q c e else none
  |_=>none
noncomputable def cQ (D:Dt):Nat->Gm->Expr->Option Q
 |0,_,_=>none
 |n+1,g,e=>match e with
  | .Call (.Name x _) es [] _=>if ko x then Hu D g x (cE D n g) es else if qm x then Gp D g x (cE D n g) es else (cE D n g e).map .val
  |_=>(cE D n g e).map .val
end
noncomputable def xW:Expr->Bool
 | .Tuple _ _ _=>false
 |_=>true
def sJ (D:Dt) (g:Gm) (x:Str) (es:List Expr) (f:Expr->Option E):Option S:=match g.gv D x with
 |some (.err c)=>if es.all notStar&& !es.isEmpty&&decide (es.length<=100)&&g.cm then (cL f es).map λes=> .raise c es else none
 |_=>none
def wJ (D:Dt) (g:Gm) (cn:Str):Option Nat:=if D.is.contains cn then (match g.gv D cn with
 |some (.err c)=>some c
 |_=>none) else none
noncomputable def AN (g:Gm):Option Str->Option (Option Nat)
 |none=>some none
 |some _=>none
noncomputable def G6:Bool->E->E
 |true,e=> .fz e
 |false,e=>e
mutual
noncomputable def cS (D:Dt):Nat->Gm->Stmt->Option S
 |0,_,_=>none
 |n+1,g,s=>match s with
  | .Return none _=>some .retN
  | .Return (some e) _=>(cE D n g e).map .ret
  | .Assign [.Name x _] e _=>(g.lx x).bind λi=>(cE D n g e).map λe=> .set (.var i) e
  | .Assign [.Subscript o i _] e _=>if eQ i&&dX e then (cE D n g o).bind λo=>(cE D n g i).bind λi=>(cE D n g e).map λe=> .fG o i e else none
  | .Assign [.Attribute o f _] e _=>if dX e&&D.fx.contains f then (cE D n g o).bind λo=>(cE D n g e).map λe=> .dh o f (G6 (D.ff.contains f) e) else none
  | .Assign [.Tuple es k p] e _=>if xW e then (k7 g n (.Tuple es k p)).bind λt=>(cE D n g e).map λe=> .set t e else none
  | .Raise (some (.Call (.Name x _) es [] _)) none _=>sJ D g x es (cE D n g)
  | .Expr e _=>if dX e then (cE D n g e).map .expr else none
  | .If c a b _=>if cP c then (cE D n g c).bind λc=>(eg D n g a).bind λa=>(eg D n g b).map λb=> .ife c a b else none
  | .For tg it b [] _=>if eI it&&g.cm then (cQ D n g it).bind λq=>(if u9 q tg then k7 g n tg else none).bind λt=>(eg D n g b).map λb=> .for t q b else none
  | .Try b [.ExceptHandler (some (.Name cn _)) x (h::hs) _] [] [] _=>if g.cm then (wJ D g cn).bind λc=>(AN g x).bind λi=>(eg D n g b).bind λb=>(eg D n {g with cm:=false} (h::hs)).map λh=> .try_ b c i h else none
  |_=>none
noncomputable def eg (D:Dt):Nat->Gm->List Stmt->Option (List S)
 |0,_,_=>none
 |n+1,g,ss=>match ss with
  |[]=>some []
  |s::r=>(cS D n g s).bind λs=>(eg D n g r).map λr=>s::r
end
noncomputable def j8 (ps:List Str) (sc:Scope):List Str:=ps++(sc.names.filter λy=>(y.2== .local||y.2== .cell)&& !ps.contains y.1).map (·.1)
def vv (D:Dt) (ps:List Str) (sc:Scope) (body:List Stmt):Option Fn:=let N:=j8 ps sc
 (eg D 400 ⟨N,sc,λ_=>true,true⟩ body).map λb=>⟨ps.length,N.length,b⟩
end PI
namespace PI
open PySem L2 L2.L3
noncomputable def cf:Val->Option Key
 | .int i=>some (.inl i)
 | .str x=>some (.inr x)
 |_=>none
noncomputable def aI:List Val->Option (List Key)
 |[]=>some []
 |v::r=>(cf v).bind λk=>(aI r).map λr=>k::r
def cU:Val->Option (List Key)
 | .tup _ xs=>aI xs
 |_=>none
noncomputable def bj:List Val->Option (List (List Key))
 |[]=>some []
 |v::r=>(cU v).bind λk=>(bj r).map λr=>k::r
def fU (H:Hp) (a:Addr) (ks:List Val) (us:List L2.V):Prop:=
 (∃kk,aI ks=some kk/\kk.length=us.length/\Rd H a (.dK (kk.zip us)))∨(∃kk,bj ks=some kk/\kk.length=us.length/\Rd H a (.dT (kk.zip us)))
def wG (H:Hp) (a:Addr) (ks:List Val) (us:List L2.V):Prop:=
 (∃kk,aI ks=some kk/\kk.length=us.length/\H a=some (.dK (kk.zip us)))∨(∃kk,bj ks=some kk/\kk.length=us.length/\H a=some (.dT (kk.zip us)))
theorem wG.at {H:Hp} {a:Addr} (h:wG H a ks us):fU H a ks us:=h.imp (λz900=>by let⟨k,e,n,r⟩:=z900;exact⟨k,e,n, .inl r⟩) λz900=>by let⟨k,e,n,r⟩:=z900;exact⟨k,e,n, .inl r⟩
structure CT where
 K:PySem.W.Frag
 ca:Nat->Addr
 xc:Nat->Bool
def TupAt (G:Hp) (a:Addr) (f:Bool) (us:List L2.V):Prop:=cond f (∃o:Obj,G a=some (.aD o (.tup us))/\o.dict=none) (G a=some (.tup us))
mutual
noncomputable def Rel (T:CT) (as:List Addr) (G:Hp):Val->L2.V->Prop
 | .non,u=>u= .non
 | .bl b,u=>u= .bl b
 | .int i,u=>u= .int i
 | .str x,u=>u= .str x
 | .tup f xs,u=>∃a us,u= .ref a/\TupAt G a f us/\ag T as G xs us
 | .lst xs,u=>∃a us,u= .ref a/\bK T.K G a us/\ag T as G xs us
 | .dct ks vs,u=>∃a us,u= .ref a/\fU G a ks us/\ag T as G vs us
 | .obj c ns vs,u=>∃a us,u= .ref a/\ns.length=us.length/\ag T as G vs us/\
   if T.xc c=true then∃dx,G a=some (.ext (gS a (T.ca c) dx))/\((dx=none/\ns=[])∨∃d,dx=some d/\G d=some (.xd (ns.zip us)))
   else∃dx,G a=some (.ins (T.ca c) dx (ns.zip us))
 | .ref n,u=>∃a,as[n]?=some a/\u= .ref a
noncomputable def ag (T:CT) (as:List Addr) (G:Hp):List Val->List L2.V->Prop
 |[],us=>us=[]
 |v::r,us=>∃u t,us=u::t/\Rel T as G v u/\ag T as G r t
end
noncomputable def GI:HO->Bool
 | .dK _=>true
 | .dT _=>true
 |_=>false
def Le (G H:Hp):Prop:=∀a o,G a=some o->H a=some o∨(GI o=true/\∃ob,H a=some (.aD ob o))
theorem Le.ex {G H:Hp} (l:Le G H) {a:Addr} {o:HO} (e:G a=some o) (n:GI o=false):H a=some o:=(l a o e).elim id λz=>by rw[n] at z;cases z.1
theorem Le.refl (G:Hp):Le G G:=λ_ _ e=> .inl e
theorem Le.trans {A B C:Hp} (x:Le A B) (y:Le B C):Le A C:=λa o e=>by
 rcases x a o e with q|⟨q,ob,z⟩
 ·exact y a o q
 ·exact .inr ⟨q,ob,y.ex z rfl⟩
theorem Le.new {G:Hp} {a:Addr} {o:HO} (h:G a=none):Le G (upd G a o):=λb u e=>by
 rw[aq (bE e h)];exact .inl e
theorem Rd.le {G H:Hp} {a:Addr} {o:HO} (l:Le G H) (h:Rd G a o):Rd H a o:=h.elim (λe=>(l _ _ e).imp id λz=>z.2) λz900=>by let⟨u,e⟩:=z900;exact .inr ⟨u,l.ex e rfl⟩
theorem rh {G H:Hp} {a:Addr} {f:Bool} (l:Le G H) (h:TupAt G a f xs):TupAt H a f xs:=by
 cases f
 ·exact l.ex h rfl
 ·exact h.imp λo q=>⟨l.ex q.1 rfl,q.2⟩
theorem qB {K:PySem.W.Frag} {G:Hp} {a:Addr} {f:Bool} (h:TupAt G a f xs):cO K G a xs:=by
 cases f
 ·exact .inl (.inl h)
 ·let⟨o,e,_⟩:=h;exact .inl (.inr ⟨o,e⟩)
theorem cK {K:PySem.W.Frag} {G H:Hp} {a:Addr} {f:Bool} (l:Le G H) (h:TupAt G a f xs):cO K H a xs:=qB (rh l h)
theorem Cj {K:PySem.W.Frag} {G H:Hp} {a:Addr} (l:Le G H) (h:cO K G a xs):cO K H a xs:=h.imp (Rd.le l) id
theorem gA {K:PySem.W.Frag} {G H:Hp} {a:Addr} (l:Le G H) (h:bK K G a xs):bK K H a xs:=h.imp (Rd.le l) id
theorem su {G H:Hp} {a:Addr} (l:Le G H) (h:fU G a ks us):fU H a ks us:=
 h.imp (λz900=>by let⟨k,e,n,r⟩:=z900;exact⟨k,e,n,Rd.le l r⟩) λz900=>by let⟨k,e,n,r⟩:=z900;exact⟨k,e,n,Rd.le l r⟩
theorem kj {bs:List Addr} (p:as<+:bs) {n:Nat} {a:Addr} (h:as[n]?=some a):bs[n]?=some a:=by
 let⟨t,rfl⟩:=p;rw[aar (aac.mp h).1];exact h
mutual
theorem Rel.mono {T:CT} {as bs:List Addr} {G H:Hp} (p:as<+:bs) (l:Le G H):∀{v:Val} {u:L2.V},Rel T as G v u->Rel T bs H v u
 | .non,_,h=>h
 | .bl _,_,h=>h
 | .int _,_,h=>h
 | .str _,_,h=>h
 | .tup _ _,_,⟨a,us,e,q,r⟩=>⟨a,us,e,rh l q,ag.mono p l r⟩
 | .lst _,_,⟨a,us,e,q,r⟩=>⟨a,us,e,gA l q,ag.mono p l r⟩
 | .dct _ _,_,⟨a,us,e,q,r⟩=>⟨a,us,e,su l q,ag.mono p l r⟩
 | .obj c ns vs,_,⟨a,us,e,n,r,q⟩=>⟨a,us,e,n,ag.mono p l r,by
  split at q
  ·rename_i h;rw[if_pos h];let⟨dx,q1,q2⟩:=q;exact⟨dx,l.ex q1 rfl,q2.imp id λz=>z.elim λd w=>⟨d,w.1,l.ex w.2 rfl⟩⟩
  ·rename_i h;rw[if_neg h]
   exact q.imp λdx q=>l.ex q rfl⟩
 | .ref _,_,⟨a,e,q⟩=>⟨a,kj p e,q⟩
theorem ag.mono {T:CT} {as bs:List Addr} {G H:Hp} (p:as<+:bs) (l:Le G H):∀{vs:List Val} {us:List L2.V},ag T as G vs us->ag T bs H vs us
 |[],_,h=>h
 |_::_,_,⟨u,t,e,h,r⟩=>⟨u,t,e,Rel.mono p l h,ag.mono p l r⟩
end
def eJ (T:CT) (as:List Addr) (G H:Hp) (a:Addr):Ob->Prop
 | .lst xs=>∃us,H a=some (.lst us)/\ag T as G xs us
 | .dct ks vs=>∃us,wG H a ks us/\ag T as G vs us
 | .ins c ns vs=>∃dx us,T.xc c=false/\H a=some (.ins (T.ca c) dx (ns.zip us))/\ns.length=us.length/\ag T as G vs us
structure Sim (T:CT) (st:aa) (as:List Addr) (G H:Hp):Prop where
 len:as.length=st.length
 nd:as.Nodup
 sub:Le G H
 off:∀a∈as,G a=none
 ob:∀(n:Nat) o a,st[n]?=some o->as[n]?=some a->eJ T as G H a o
abbrev XS:=St->XK
def BJ (T:CT) (as:List Addr) (G:Hp) (x:Exn) (cls:Value) (dx:Option Addr):Prop:=
 cls= .ref (T.ca x.c)/\T.xc x.c=true/\((dx=none/\x.ns=[]/\x.vs=[])∨∃d us,dx=some d/\G d=some (.xd (x.ns.zip us))/\x.ns.length=us.length/\ag T as G x.vs us)
def aG (T:CT) (as:List Addr) (G:Hp) (env:Env) (σ:St):Prop:=env.length=σ.length/\∀(i:Nat) v,env[i]?=some (some v)->∃u,σ[i]?=some (some u)/\Rel T as G v u
theorem aG.mono {T:CT} {bs:List Addr} {G H:Hp} {env:Env} {σ:St} (p:as<+:bs) (l:Le G H) (h:aG T as G env σ):aG T bs H env σ:=
 ⟨h.1,λi v e=>(h.2 i v e).imp λu q=>⟨q.1,q.2.mono p l⟩⟩
def ae {α:Type} (T:CT) (as:List Addr) (G:Hp) (r:R α) (Q:α->aa->List Addr->Hp->Hp->Prop) (X:XK):Prop:=match r with
 | .ok a st=>∀as' G' H',as<+:as'->Le G G'->Sim T st as' G' H'->Q a st as' G' H'
 | .exc x st=>∀as' G' H' cls dx,as<+:as'->Le G G'->Sim T st as' G' H'->BJ T as' G' x cls dx->X cls dx H'
 | .stuck=>False
theorem ae.mono {α:Type} {T:CT} {bs:List Addr} {G G2:Hp} {r:R α} {Q:α->aa->List Addr->Hp->Hp->Prop} {X:XK} (p:as<+:bs) (l:Le G G2) (h:ae T as G r Q X):ae T bs G2 r Q X:=by
 cases r with
 |ok a st=>exact λas' G' H' p' l' s=>h as' G' H' (p.trans p') (l.trans l') s
 |exc x st=>exact λas' G' H' cls dx p' l' s e=>h as' G' H' cls dx (p.trans p') (l.trans l') s e
 |stuck=>exact h
theorem ae.bind {α β:Type} {T:CT} {as:List Addr} {G:Hp} {r:R α} {f:α->aa->R β} {Q:β->aa->List Addr->Hp->Hp->Prop} {X:XK} (h:ae T as G (r.bind f) Q X):
  ae T as G r (λa st as' G' _=>ae T as' G' (f a st) Q X) X:=by
 cases r with
 |ok a st=>exact λas' G' H' p l s=>ae.mono p l h
 |exc x st=>exact h
 |stuck=>exact h
theorem ae.imp {α:Type} {T:CT} {as:List Addr} {G:Hp} {r:R α} {Q Q':α->aa->List Addr->Hp->Hp->Prop} {X:XK} (h:ae T as G r Q X)
  (k:∀a st as' G' H',as<+:as'->Le G G'->Sim T st as' G' H'->Q a st as' G' H'->Q' a st as' G' H'):ae T as G r Q' X:=by
 cases r with
 |ok a st=>exact λas' G' H' p l s=>k a st as' G' H' p l s (h as' G' H' p l s)
 |exc x st=>exact h
 |stuck=>exact h
theorem ae.ok {α:Type} {T:CT} {G H:Hp} {a:α} {st:aa} {Q:α->aa->List Addr->Hp->Hp->Prop} {X:XK} (h:ae T as G (.ok a st) Q X) (s:Sim T st as G H):Q a st as G H:=
 h as G H (aaj _) (Le.refl _) s
def dG (T:CT) (as:List Addr) (G H:Hp):Val->L2.V->Prop
 | .tup f xs,u=>∃a us,u= .ref a/\TupAt G a f us/\ag T as G xs us
 | .lst xs,u=>∃a us,u= .ref a/\bK T.K H a us/\ag T as G xs us
 | .dct ks vs,u=>∃a us,u= .ref a/\fU H a ks us/\ag T as G vs us
 | .obj c ns vs,u=>∃a us,u= .ref a/\ns.length=us.length/\ag T as G vs us/\
   if T.xc c=true then∃dx,H a=some (.ext (gS a (T.ca c) dx))/\((dx=none/\ns=[])∨∃d,dx=some d/\H d=some (.xd (ns.zip us)))
   else∃dx,H a=some (.ins (T.ca c) dx (ns.zip us))
 | .non,u=>u= .non
 | .bl b,u=>u= .bl b
 | .int i,u=>u= .int i
 | .str x,u=>u= .str x
 | .ref _,_=>False
theorem Rel.top {T:CT} {G H:Hp} (l:Le G H):∀{v:Val} {u:L2.V},isRef v=none->Rel T as G v u->dG T as G H v u
 | .non,_,_,h=>h
 | .bl _,_,_,h=>h
 | .int _,_,_,h=>h
 | .str _,_,_,h=>h
 | .tup _ _,_,_,h=>h
 | .lst _,_,_,⟨a,us,e,q,r⟩=>⟨a,us,e,gA l q,r⟩
 | .dct _ _,_,_,⟨a,us,e,q,r⟩=>⟨a,us,e,su l q,r⟩
 | .obj c ns vs,_,_,⟨a,us,e,n,r,q⟩=>⟨a,us,e,n,r,by
  split at q
  ·rename_i h;rw[if_pos h];let⟨dx,q1,q2⟩:=q;exact⟨dx,l.ex q1 rfl,q2.imp id λz=>z.elim λd w=>⟨d,w.1,l.ex w.2 rfl⟩⟩
  ·rename_i h;rw[if_neg h]
   exact q.imp λdx q=>l.ex q rfl⟩
 | .ref _,_,h,_=>by cases h
theorem bc {T:CT} {st:aa} {G H:Hp} (s:Sim T st as G H) {v:Val} {u:L2.V} (h:Rel T as G v u):dG T as G H (res st v) u:=by
 cases v with
 |ref k=>
  let⟨a,e,rfl⟩:=h;have hk:k<as.length:=(aac.mp e).1;rw[s.len] at hk;have ho:st[k]?=some st[k]:=aae hk;have ob:=s.ob k _ a ho e;show dG T as G H (lJ k st[k]?) _;rw[ho]
  cases q:st[k] with
  |lst xs=>
   rw[q] at ob;let⟨us,h1,h2⟩:=ob;exact⟨a,us,rfl, .inl (.inl h1),h2⟩
  |dct ks vs=>
   rw[q] at ob;let⟨us,h1,h2⟩:=ob;exact⟨a,us,rfl,h1.at,h2⟩
  |ins c ns vs=>
   rw[q] at ob;let⟨dx,us,x0,h1,h2,h3⟩:=ob;exact⟨a,us,rfl,h2,h3,by rw[if_neg (by rw[x0];decide)];exact⟨dx,h1⟩⟩
 |non=>exact h
 |bl b=>exact h
 |int i=>exact h
 |str x=>exact h
 |tup xs=>exact Rel.top s.sub rfl h
 |lst xs=>exact Rel.top s.sub rfl h
 |dct ks vs=>exact Rel.top s.sub rfl h
 |obj c ns vs=>exact Rel.top s.sub rfl h
theorem qk {α:Type} {l:List α} (h:l.Nodup) {i j:Nat} {x:α} (a:l[i]?=some x) (b:l[j]?=some x):i=j:=by
 let⟨l1,e1⟩:=aac.mp a;let⟨l2,e2⟩:=aac.mp b;have q:=List.pairwise_iff_getElem.mp h
 rcases Nat.lt_trichotomy i j with z|z|z
 ·exact absurd (e1.trans e2.symm) (q i j l1 l2 z)
 ·exact z
 ·exact absurd (e2.trans e1.symm) (q j i l2 l1 z)
theorem eJ.live {T:CT} {G H:Hp} {a:Addr} {o:Ob} (h:eJ T as G H a o):H a≠none:=by
 intro z
 cases o with
 |lst xs=>
  let⟨us,e,_⟩:=h;rw[z] at e;cases e
 |dct ks vs=>
  let⟨us,e,_⟩:=h
  rcases e with⟨_,_,_,e⟩|⟨_,_,_,e⟩<;>(rw[z] at e;cases e)
 |ins c ns vs=>
  let⟨dx,us,_,e,_⟩:=h;rw[z] at e;cases e
theorem eJ.at {T:CT} {G H H':Hp} {a:Addr} {o:Ob} (e:H' a=H a) (h:eJ T as G H a o):eJ T as G H' a o:=by
 cases o with
 |lst xs=>
  let⟨us,q,r⟩:=h;exact⟨us,e.trans q,r⟩
 |dct ks vs=>
  let⟨us,q,r⟩:=h;refine⟨us, ?_,r⟩;unfold wG at q⊢;rw[e];exact q
 |ins c ns vs=>
  let⟨dx,us,x,q,r⟩:=h;exact⟨dx,us,x,e.trans q,r⟩
theorem eJ.mono {T:CT} {bs:List Addr} {G G' H:Hp} {a:Addr} {o:Ob} (p:as<+:bs) (l:Le G G') (h:eJ T as G H a o):eJ T bs G' H a o:=by
 cases o with
 |lst xs=>
  let⟨us,q,r⟩:=h;exact⟨us,q,r.mono p l⟩
 |dct ks vs=>
  let⟨us,q,r⟩:=h;exact⟨us,q,r.mono p l⟩
 |ins c ns vs=>
  let⟨dx,us,x,q,n,r⟩:=h;exact⟨dx,us,x,q,n,r.mono p l⟩
theorem Sim.live {T:CT} {st:aa} {G H:Hp} (s:Sim T st as G H) {a:Addr} (h:a∈as):H a≠none:=by
 let⟨n,hn⟩:=ab7.mp h;have hk:n<as.length:=(aac.mp hn).1;rw[s.len] at hk;exact(s.ob n _ a (aae hk) hn).live
theorem Sim.fresh {T:CT} {st:aa} {G H:Hp} (s:Sim T st as G H) {p:Addr} (hp:H p=none):p∉as/\G p=none:=by
 refine⟨λh=>s.live h hp, ?_⟩
 cases e:G p with
 |none=>rfl
 |some o=>
  rcases s.sub p o e with z|⟨_,ob,z⟩<;>(rw[z] at hp;cases hp)
theorem Le.up {G H:Hp} {p:Addr} {o:HO} (l:Le G H) (hp:G p=none):Le G (upd H p o):=λb u e=>by
 rw[aq (bE e hp)];exact l b u e
theorem Sim.qv {T:CT} {st:aa} {G H:Hp} (s:Sim T st as G H) {p:Addr} {u:HO} (hp:H p=none):Sim T st as (upd G p u) (upd H p u):=by
 let⟨n1,n2⟩:=s.fresh hp;refine⟨s.len,s.nd,λb o e=> ?_,λa ha=> ?_,λn o a h1 h2=> ?_⟩
 ·by_cases hb:b=p
  ·subst hb;rw[ak] at e⊢;exact .inl e
  ·rw[aq hb] at e⊢;exact s.sub b o e
 ·rw[aq (show a≠p from λz=>n1 (by rw[←z];exact ha))];exact s.off a ha
 ·refine((s.ob n o a h1 h2).at (aq λz=>n1 ?_)).mono (aaj _) (Le.new n2);rw[←z];exact aas h2
theorem Sim.push {T:CT} {st:aa} {G H:Hp} (s:Sim T st as G H) {p:Addr} {u:HO} {o:Ob} (hp:H p=none) (hu:eJ T (as++[p]) G (upd H p u) p o):Sim T (st++[o]) (as++[p]) G (upd H p u):=by
 let⟨n1,n2⟩:=s.fresh hp;refine⟨by simp[s.len], ?_,s.sub.up n2,λa ha=> ?_,λn o' a h1 h2=> ?_⟩
 ·rw[abM];refine⟨s.nd,by simp,λa ha b hb=> ?_⟩;rw[aaD.mp hb];exact λz=>n1 (z▸ha)
 ·rcases aaz.mp ha with h|h
  ·exact s.off a h
  ·rw[aaD.mp h];exact n2
 ·by_cases hn:n<st.length
  ·rw[aar hn] at h1;rw[aar (by rw[s.len];exact hn)] at h2;refine((s.ob n o' a h1 h2).at (aq λz=>n1 ?_)).mono (aax _ _) (Le.refl _);rw[←z];exact aas h2
  ·have z:n=st.length:=by
    have:=(aac.mp h1).1;simp at this;lia
   subst z;rw[aam (aah _)] at h1;rw[←s.len,aam (aah _)] at h2;simp at h1 h2;subst h1 h2;exact hu
theorem Sim.set {T:CT} {st:aa} {G H:Hp} (s:Sim T st as G H) {n:Nat} {a:Addr} {u:HO} {o:Ob} (ha:as[n]?=some a) (hu:eJ T as G (upd H a u) a o):Sim T (st.set n o) as G (upd H a u):=by
 have ma:a∈as:=aas ha;refine⟨by simp[s.len],s.nd,s.sub.up (s.off a ma),s.off,λm o' b h1 h2=> ?_⟩
 by_cases hm:m=n
 ·subst hm;rw[ha] at h2;cases h2
  have hl:m<st.length:=by rw[←s.len];exact(aac.mp ha).1
  rw[abC hl] at h1;cases h1;exact hu
 ·rw[abq (λz=>hm z.symm)] at h1;refine(s.ob m o' b h1 h2).at (aq λz=>hm ?_);subst z;let⟨l1,e1⟩:=aac.mp h2;let⟨l2,e2⟩:=aac.mp ha;exact qk s.nd h2 ha
theorem Sim.F2 {T:CT} {st:aa} {G H:Hp} {a:Addr} {u:HO} (s:Sim T st as G H) (q:Rd G a u) (hd:GI u=true) (ho:H a=some u∨H a=some (.aD o u)):
  Sim T st as (upd G a (.aD o u)) (upd H a (.aD o u))/\Le G (upd G a (.aD o u)):=by
 have l:Le G (upd G a (.aD o u)):=λb v e=>by
  by_cases hb:b=a
  ·subst hb;rw[ak]
   rcases q with q|⟨o',q⟩
   ·rw[e] at q;cases q;exact .inr ⟨hd,o,rfl⟩
   ·rw[e] at q;cases q;have z:=s.sub.ex e rfl
    rcases ho with ho|ho
    ·rw[ho] at z;rw[Option.some.inj z] at hd;cases hd
    ·rw[ho] at z;exact .inl (by rw[z])
  ·rw[aq hb];exact .inl e
 have na:∀{b},b∈as->b≠a:=λhb z=>by
  subst z;have:=s.off _ hb
  rcases q with q|⟨o',q⟩<;>(rw[q] at this;cases this)
 refine⟨⟨s.len,s.nd,λb v e=> ?_,λb hb=> ?_,λn ob b h1 h2=> ?_⟩,l⟩
 ·by_cases hb:b=a
  ·subst hb;rw[ak] at e⊢;exact .inl e
  ·rw[aq hb] at e⊢;exact s.sub b v e
 ·rw[aq (na hb)];exact s.off b hb
 ·exact((s.ob n ob b h1 h2).at (aq (na (aas h2)))).mono (aaj _) l
theorem Sim.Iv {T:CT} {st:aa} {G H:Hp} {c:Addr} (s:Sim T st as G H) (e:H c=some (.tup us)):Sim T st as (upd G c (.tup us)) H/\Le G (upd G c (.tup us)):=by
 have nc:∀{b},b∈as->b≠c:=λhb z=>by
  subst z;let⟨n,hn⟩:=ab7.mp hb;have hk:n<as.length:=(aac.mp hn).1;rw[s.len] at hk;have ob:=s.ob n _ _ (aae hk) hn
  cases q:st[n] with
  |lst xs=>
   rw[q] at ob;let⟨_,z,_⟩:=ob;rw[e] at z;cases z
  |dct ks vs=>
   rw[q] at ob;let⟨_,z,_⟩:=ob
   rcases z with⟨_,_,_,z⟩|⟨_,_,_,z⟩<;>(rw[e] at z;cases z)
  |ins c ns vs=>
   rw[q] at ob;let⟨_,_,_,z,_⟩:=ob;rw[e] at z;cases z
 have l:Le G (upd G c (.tup us)):=λb v h=>by
  by_cases hb:b=c
  ·subst hb;rw[ak]
   rcases s.sub _ _ h with z|⟨_,_,z⟩
   ·rw[e] at z;exact .inl z
   ·rw[e] at z;cases z
  ·rw[aq hb];exact .inl h
 refine⟨⟨s.len,s.nd,λb v h=> ?_,λb hb=> ?_,λn ob b h1 h2=>(s.ob n ob b h1 h2).mono (aaj _) l⟩,l⟩
 ·by_cases hb:b=c
  ·subst hb;rw[ak] at h;exact .inl (e.trans h)
  ·rw[aq hb] at h;exact s.sub b v h
 ·rw[aq (nc hb)];exact s.off b hb
theorem mU {α β:Type} {x:Option α} {y:Option (List α)} {c:List α} (h:(x.bind λa=>y.map λb=>a::b)=some c):∃a b,x=some a/\y=some b/\c=a::b:=by
 let⟨a,e1,e2⟩:=aao.mp h;let⟨b,e3,e4⟩:=aab.mp e2;exact⟨a,b,e1,e3,e4.symm⟩
theorem jM:∀{ks:List Val} {kk:List Key},aI ks=some kk->kk.length=ks.length
 |[],kk,h=>by cases h;rfl
 |v::ks,kk,h=>by
  let⟨a,b,_,e2,rfl⟩:=mU (β:=Nat) (show ((cf v).bind λk=>(aI ks).map λr=>k::r)=some kk from h);simp[jM e2]
theorem jU:∀{ks:List Val} {kk:List (List Key)},bj ks=some kk->kk.length=ks.length
 |[],kk,h=>by cases h;rfl
 |v::ks,kk,h=>by
  let⟨a,b,_,e2,rfl⟩:=mU (β:=Nat) (show ((cU v).bind λk=>(bj ks).map λr=>k::r)=some kk from h);simp[jU e2]
theorem oR:∀{ks:List Val} {kk:List Key} {i:Nat} {v:Val},aI ks=some kk->ks[i]?=some v->∃k,kk[i]?=some k/\cf v=some k
 |[],kk,i,v,_,e=>by simp at e
 |w::ks,kk,i,v,h,e=>by
  let⟨a,b,e1,e2,rfl⟩:=mU (β:=Nat) (show ((cf w).bind λk=>(aI ks).map λr=>k::r)=some kk from h)
  cases i with
  |zero=>
   simp at e;subst e;exact⟨a,rfl,e1⟩
  |succ i=>
   let⟨k,h1,h2⟩:=oR (i:=i) e2 (by simpa using e);exact⟨k,by simpa using h1,h2⟩
theorem pG:∀{ks:List Val} {kk:List (List Key)} {i:Nat} {v:Val},bj ks=some kk->ks[i]?=some v->∃k,kk[i]?=some k/\cU v=some k
 |[],kk,i,v,_,e=>by simp at e
 |w::ks,kk,i,v,h,e=>by
  let⟨a,b,e1,e2,rfl⟩:=mU (β:=Nat) (show ((cU w).bind λk=>(bj ks).map λr=>k::r)=some kk from h)
  cases i with
  |zero=>
   simp at e;subst e;exact⟨a,rfl,e1⟩
  |succ i=>
   let⟨k,h1,h2⟩:=pG (i:=i) e2 (by simpa using e);exact⟨k,by simpa using h1,h2⟩
theorem rR {T:CT} {G:Hp} {v:Val} {k:Key} (h:cf v=some k):Rel T as G v (kV k):=by
 cases v<;>first
  |(cases h;exact rfl)
  |cases h
theorem EE {v:Val} {k:Key} (h:cf v=some k):iY v=v:=by
 cases v<;>first
  |rfl
  |cases h
theorem mB {T:CT} {G:Hp}:∀{xs:List Val} {kk:List Key},aI xs=some kk->ag T as G xs (kk.map kV)
 |[],kk,h=>by cases h;exact rfl
 |v::xs,kk,h=>by
  let⟨a,b,e1,e2,rfl⟩:=mU (β:=Nat) (show ((cf v).bind λk=>(aI xs).map λr=>k::r)=some kk from h);exact⟨kV a,b.map kV,rfl,rR e1,mB e2⟩
theorem Dx {v:Val} {k:List Key} (h:cU v=some k):∃f xs,v= .tup f xs/\aI xs=some k:=by
 cases v<;>first
  |exact⟨_,_,rfl,h⟩
  |cases h
theorem Fd {n:Nat} {v:Val} {k:Key} (h:cf v=some k):v.bd n=true:=by
 cases v<;>first|rfl|(simp[cf] at h)
theorem kC {n:Nat}:∀{vs:List Val} {kk:List Key},aI vs=some kk->dg n vs=true
 |[],_,_=>rfl
 |v::r,kk,h=>by
  unfold aI at h;unfold dg
  cases e:cf v with
  |none=>rw[e] at h;cases h
  |some k=>
   cases e2:aI r with
   |none=>rw[e,e2] at h;cases h
   |some kr=>rw[Fd e,kC e2];rfl
theorem Dg {n:Nat} {v:Val} {k:List Key} (h:cU v=some k):v.bd n=true:=by
 cases v with
 |tup fl xs=>unfold Val.bd;exact kC h
 |_=>cases h
theorem lQ {n:Nat}:∀{vs:List Val} {kk:List (List Key)},bj vs=some kk->dg n vs=true
 |[],_,_=>rfl
 |v::r,kk,h=>by
  unfold bj at h;unfold dg
  cases e:cU v with
  |none=>rw[e] at h;cases h
  |some k=>
   cases e2:bj r with
   |none=>rw[e,e2] at h;cases h
   |some kr=>rw[Dg e,lQ e2];rfl
mutual
theorem Rel.bd {T:CT} {as:List Addr} {G:Hp}:∀{v:Val} {u:L2.V},Rel T as G v u->v.bd as.length=true
 | .non,_,_=>rfl
 | .bl _,_,_=>rfl
 | .int _,_,_=>rfl
 | .str _,_,_=>rfl
 | .tup _ _,_,⟨_,_,_,_,r⟩=>by unfold Val.bd;exact ag.bd r
 | .lst _,_,⟨_,_,_,_,r⟩=>by unfold Val.bd;exact ag.bd r
 | .dct ks _,_,⟨_,us,_,q,r⟩=>by
  unfold Val.bd;rw[ag.bd r,Bool.and_true]
  rcases q with⟨kk,e,_,_⟩|⟨kk,e,_,_⟩
  ·exact kC e
  ·exact lQ e
 | .obj _ _ _,_,⟨_,_,_,_,r,_⟩=>by unfold Val.bd;exact ag.bd r
 | .ref _,_,⟨_,e,_⟩=>by unfold Val.bd;exact abB (aac.mp e).1
theorem ag.bd {T:CT} {as:List Addr} {G:Hp}:∀{vs:List Val} {us:List L2.V},ag T as G vs us->dg as.length vs=true
 |[],_,_=>rfl
 |_::_,_,⟨_,_,_,h,r⟩=>by unfold dg;rw[Rel.bd h,ag.bd r];rfl
end
mutual
theorem Rel.cut {T:CT} {as:List Addr} {G:Hp} {n:Nat}:∀{v:Val} {u:L2.V},v.bd n=true->Rel T as G v u->Rel T (as.take n) G v u
 | .non,_,_,h=>h
 | .bl _,_,_,h=>h
 | .int _,_,_,h=>h
 | .str _,_,_,h=>h
 | .tup _ _,_,b,⟨a,us,e,q,r⟩=>⟨a,us,e,q,ag.cut (by unfold Val.bd at b;exact b) r⟩
 | .lst _,_,b,⟨a,us,e,q,r⟩=>⟨a,us,e,q,ag.cut (by unfold Val.bd at b;exact b) r⟩
 | .dct _ _,_,b,⟨a,us,e,q,r⟩=>⟨a,us,e,q,ag.cut (by unfold Val.bd at b;exact(aag _ _▸b).2) r⟩
 | .obj _ _ _,_,b,⟨a,us,e,n,r,q⟩=>⟨a,us,e,n,ag.cut (by unfold Val.bd at b;exact b) r,q⟩
 | .ref k,_,b,⟨a,e,q⟩=>⟨a,by
  unfold Val.bd at b;rw[aa2 (ac3 b)]
  exact e,q⟩
theorem ag.cut {T:CT} {as:List Addr} {G:Hp} {n:Nat}:∀{vs:List Val} {us:List L2.V},dg n vs=true->ag T as G vs us->ag T (as.take n) G vs us
 |[],_,_,h=>h
 |_::_,_,b,⟨u,t,e,h,r⟩=>⟨u,t,e,Rel.cut (by unfold dg at b;exact(aag _ _▸b).1) h,ag.cut (by unfold dg at b;exact(aag _ _▸b).2) r⟩
end
open Classical in
noncomputable def dF (G H:Hp) (as:List Addr) (n x:Nat):Hp:=λb=>if b∈as.drop n/\as[x]?≠some b then H b else G b
section
variable {T:CT} {st:aa} {as:List Addr} {G H:Hp} {n x:Nat}
theorem uL {a:Addr} {k:Nat} (hk:n<=k) (hx:k≠x) (nd:as.Nodup) (e:as[k]?=some a):dF G H as n x a=H a:=by
 unfold dF;rw[if_pos];refine⟨?_,λz=>hx (qk nd e z)⟩;rw[ab7];exact⟨k-n,by rw[List.getElem?_drop,show n+(k-n)=k by lia];exact e⟩
theorem bD (s:Sim T st as G H):Le G (dF G H as n x):=λa o e=>by
 unfold dF;rw[if_neg]
 ·exact .inl e
 ·rintro ⟨h,_⟩
  rw[s.off a (List.mem_of_mem_drop h)] at e;cases e
theorem Bz (s:Sim T st as G H):Le (dF G H as n x) H:=λa o e=>by
 unfold dF at e;split at e
 ·exact .inl e
 ·exact s.sub a o e
theorem take_drop {α:Type} {l:List α} (nd:l.Nodup) {n:Nat} {a:α} (h1:a∈l.take n) (h2:a∈l.drop n):False:=by
 rw[←List.take_append_drop n l] at nd;exact(abM.mp nd).2.2 a h1 a h2 rfl
theorem AL (s:Sim T st as G H):∀a∈as.take n,dF G H as n x a=none:=λa ha=>by
 unfold dF;rw[if_neg λz=>take_drop s.nd ha z.1];exact s.off a (List.mem_of_mem_take ha)
end
mutual
theorem nH {T:CT} {as bs:List Addr} {G D:Hp} (l:Le G D) {f:Nat->Option Val} (hf:∀k v' u,f k=some v'->Rel T as G (.ref k) u->Rel T bs D v' u):∀{v v':Val} {u:L2.V},v.sub f=some v'->Rel T as G v u->Rel T bs D v' u
 | .non,_,_,e,h=>by cases e;exact h
 | .bl _,_,_,e,h=>by cases e;exact h
 | .int _,_,_,e,h=>by cases e;exact h
 | .str _,_,_,e,h=>by cases e;exact h
 | .tup _ _,_,_,e,⟨a,us,e1,q,r⟩=>by
  unfold Val.sub at e;let⟨ys,e2,rfl⟩:=aab.mp e;exact⟨a,us,e1,rh l q,bX l hf e2 r⟩
 | .lst _,_,_,e,⟨a,us,e1,q,r⟩=>by
  unfold Val.sub at e;let⟨ys,e2,rfl⟩:=aab.mp e;exact⟨a,us,e1,gA l q,bX l hf e2 r⟩
 | .dct _ _,_,_,e,⟨a,us,e1,q,r⟩=>by
  unfold Val.sub at e;let⟨ys,e2,rfl⟩:=aab.mp e;exact⟨a,us,e1,su l q,bX l hf e2 r⟩
 | .obj c _ _,_,_,e,⟨a,us,e1,n,r,q⟩=>by
  unfold Val.sub at e;let⟨ys,e2,rfl⟩:=aab.mp e;refine⟨a,us,e1,n,bX l hf e2 r, ?_⟩;split at q
  ·rename_i h;rw[if_pos h];let⟨dx,q1,q2⟩:=q;exact⟨dx,l.ex q1 rfl,q2.imp id λz900=>by let⟨d,q3,q4⟩:=z900;exact⟨d,q3,l.ex q4 rfl⟩⟩
  ·rename_i h;rw[if_neg h];exact q.imp λdx q=>l.ex q rfl
 | .ref k,_,_,e,h=>by
  unfold Val.sub at e;exact hf k _ _ e h
theorem bX {T:CT} {as bs:List Addr} {G D:Hp} (l:Le G D) {f:Nat->Option Val} (hf:∀k v' u,f k=some v'->Rel T as G (.ref k) u->Rel T bs D v' u):∀{vs vs':List Val} {us:List L2.V},subs f vs=some vs'->ag T as G vs us->ag T bs D vs' us
 |[],_,_,e,h=>by cases e;exact h
 |v::r,_,_,e,⟨u,t,e1,h,q⟩=>by
  unfold subs at e
  cases e2:v.sub f with
  |none=>rw[e2] at e;cases e
  |some v'=>
   cases e3:subs f r with
   |none=>rw[e2,e3] at e;cases e
   |some r'=>
    rw[e2,e3] at e;cases e;exact⟨u,t,e1,nH l hf e2 h,bX l hf e3 q⟩
end
theorem gf {T:CT} {st:aa} {as:List Addr} {G H:Hp} {n x:Nat} (s:Sim T st as G H):∀(d k:Nat) (v':Val) (u:L2.V),iD st n x d k=some v'->Rel T as G (.ref k) u->Rel T (as.take n) (dF G H as n x) v' u:=by
 intro d
 induction d with
 |zero=>
  intro k v' u e ⟨a,ea,eu⟩
  by_cases hk:k<n
  ·cases (show some _=some v' from (if_pos hk).symm.trans e);exact⟨a,by rw[aa2 hk];exact ea,eu⟩
  ·cases (show none=some v' from (if_neg hk).symm.trans e)
 |succ d ih=>
  intro k v' u e ⟨a,ea,eu⟩
  by_cases hk:k<n
  ·cases (show some _=some v' from (if_pos hk).symm.trans e);exact⟨a,by rw[aa2 hk];exact ea,eu⟩
  ·replace e:=(if_neg hk).symm.trans e
   by_cases hx:k=x
   ·cases (show none=some v' from (if_pos hx).symm.trans e)
   replace e:=(if_neg hx).symm.trans e
   have lk:k<st.length:=by rw[←s.len];exact(aac.mp ea).1
   have ho:st[k]?=some st[k]:=aae lk;have ob:=s.ob k _ a ho ea;have ga:dF G H as n x a=H a:=uL (by lia) hx s.nd ea;rw[ho] at e;generalize st[k]=o at e ob;subst eu
   cases o with
   |lst xs=>
    let⟨us,q,r⟩:=ob;let⟨ys,e2,rfl⟩:=aab.mp e;exact⟨a,us,rfl, .inl (.inl (ga.trans q)),bX (bD s) ih e2 r⟩
   |dct ks vs=>
    let⟨us,q,r⟩:=ob;let⟨ys,e2,rfl⟩:=aab.mp e;refine⟨a,us,rfl, ?_,bX (bD s) ih e2 r⟩;have q2:=q.at;unfold fU Rd at q2⊢;rw[ga];exact q2
   |ins c ns vs=>
    let⟨dx,us,x0,q,m,r⟩:=ob;let⟨ys,e2,rfl⟩:=aab.mp e;exact⟨a,us,rfl,m,bX (bD s) ih e2 r,by rw[if_neg (by rw[x0];decide)];exact⟨dx,ga.trans q⟩⟩
theorem GA {T:CT} {as:List Addr} {G D H:Hp} {n:Nat} {a:Addr} {o:Ob} (l:Le G D) (b:o.bd n=true) (h:eJ T as G H a o):eJ T (as.take n) D H a o:=by
 cases o with
 |lst xs=>
  let⟨us,q,r⟩:=h;exact⟨us,q,(ag.cut b r).mono (aaj _) l⟩
 |dct ks vs=>
  let⟨us,q,r⟩:=h;exact⟨us,q,(ag.cut (by unfold Ob.bd at b;exact(aag _ _▸b).2) r).mono (aaj _) l⟩
 |ins c ns vs=>
  let⟨dx,us,x0,q,m,r⟩:=h;exact⟨dx,us,x0,q,m,(ag.cut b r).mono (aaj _) l⟩
theorem eJ.bd {T:CT} {as:List Addr} {G H:Hp} {a:Addr} {o:Ob} (h:eJ T as G H a o):o.bd as.length=true:=by
 cases o with
 |lst xs=>
  let⟨us,q,r⟩:=h;exact r.bd
 |dct ks vs=>
  let⟨us,q,r⟩:=h;show (dg _ ks&&dg _ vs)=true;rw[r.bd,Bool.and_true]
  rcases q with⟨kk,e,_,_⟩|⟨kk,e,_,_⟩
  ·exact kC e
  ·exact lQ e
 |ins c ns vs=>
  let⟨dx,us,x0,q,m,r⟩:=h;exact r.bd
theorem Sim.cut {T:CT} {st st':aa} {as':List Addr} {G G' H H':Hp} (s:Sim T st as G H) (s':Sim T st' as' G' H') (p:as<+:as') (o:Old st st') (x:Nat):as'.take st.length=as/\Sim T (st'.take st.length) as (dF G' H' as' st.length x) H':=by
 have e:as'.take st.length=as:=by
  let⟨t,rfl⟩:=p;rw[←s.len,List.take_left'];rfl
 refine⟨e, ?_,s.nd,Bz s',λa ha=> ?_,λn ob a h1 h2=> ?_⟩
 ·rw[s.len,aa8,Nat.min_eq_left o.1]
 ·rw[←e] at ha;exact AL s' a ha
 ·have hn:n<st.length:=by
   have:=(aac.mp h1).1;rw[aa8] at this;lia
  rw[aa2 hn] at h1
  have b:ob.bd st.length=true:=by
   rcases o.2 n ob hn h1 with z|z
   ·rw[←s.len];exact(s.ob n ob a z h2).bd
   ·exact z
  have:=GA (n:=st.length) (bD (n:=st.length) (x:=x) s') b (s'.ob n ob a h1 (kj p h2));rw[e] at this;exact this
section
variable {T:CT} {P:Pg} {st st':aa} {as as':List Addr} {G G' H H':Hp} {X:XK}
theorem qZ {v:Val} {u:L2.V} {Q:VK} (s:Sim T st as G H) (s':Sim T st' as' G' H') (p:as<+:as') (l:Le G G') (r:Rel T as' G' v u)
  (h:ae T as G (fin P st v st') (λv _ as2 G2 H2=>∀u,Rel T as2 G2 v u->Q u H2) X):Q u H':=by
 unfold fin at h;split at h
 ·rename_i o
  cases e:isRef v with
  |none=>
   rw[e] at h;unfold Br at h
   cases e2:v.aD st' st.length st'.length with
   |none=>rw[e2] at h;exact h.elim
   |some v'=>
    rw[e2] at h;let⟨c1,c2⟩:=Sim.cut s s' p o st'.length;refine h as _ H' (aaj _) (l.trans (bD s')) c2 u ?_;have:=nH (bD s') (gf s' 6) e2 r;rw[c1] at this;exact this
  |some k=>
   have ev:v= .ref k:=by
    cases v<;>first|(cases e;rfl)|cases e
   subst ev;rw[e] at h;replace h:ae T as G (if k<st.length then .ok (.ref k) (st'.take st.length) else sN P st.length k st' st'[k]?) (λv _ as2 G2 H2=>∀u,Rel T as2 G2 v u->Q u H2) X:=h;let⟨a,ea,eu⟩:=r;split at h
   ·rename_i hk;let⟨c1,c2⟩:=Sim.cut s s' p o st'.length;refine h as _ H' (aaj _) (l.trans (bD s')) c2 u ⟨a, ?_,eu⟩;rw[←c1,aa2 hk];exact ea
   ·rename_i hk;let⟨c1,c2⟩:=Sim.cut s s' p o k
    have lk:k<st'.length:=by rw[←s'.len];exact(aac.mp ea).1
    have ho:st'[k]?=some st'[k]:=aae lk;have ob:=s'.ob k _ a ho ea;rw[ho] at h;generalize st'[k]=o' at h ob
    have ga:dF G' H' as' st.length k a=none:=by
     unfold dF;rw[if_neg λz=>z.2 ea];exact s'.off a (aas ea)
    have na:a∉as:=λz=>by
     rw[←c1] at z;let⟨i,hi⟩:=ab7.mp z;have li:=(aac.mp hi).1;rw[aa8] at li;rw[aa2 (by lia)] at hi;have:=qk s'.nd hi ea;lia
    have put:∀{o2:Ob},eJ T (as++[a]) (dF G' H' as' st.length k) H' a o2->Sim T (st'.take st.length++[o2]) (as++[a]) (dF G' H' as' st.length k) H':=λ{o2} q=>by
     refine⟨by simp[c2.len], ?_,c2.sub,λb hb=> ?_,λi ob2 b h1 h2=> ?_⟩
     ·rw[abM];refine⟨s.nd,by simp,λb hb c hc=> ?_⟩;rw[aaD.mp hc];exact λz=>na (z▸hb)
     ·rcases aaz.mp hb with z|z
      ·exact c2.off b z
      ·rw[aaD.mp z];exact ga
     ·by_cases hi:i<(st'.take st.length).length
      ·rw[aar hi] at h1;rw[aar (by rw[c2.len];exact hi)] at h2;exact(c2.ob i ob2 b h1 h2).mono (aax _ _) (Le.refl _)
      ·have z:i=(st'.take st.length).length:=by
        have:=(aac.mp h1).1;rw[aaZ] at this;simp at this hi⊢;lia
       rw[z,aam (aah _)] at h1;rw[z,←c2.len,aam (aah _)] at h2;simp at h1 h2;subst h1 h2;exact q
    have told:Rel T (as++[a]) (dF G' H' as' st.length k) (.ref st.length) u:=⟨a,by
     rw[←s.len,aam (aah _)]
     simp,eu⟩
    cases o' with
    |lst xs=>
     replace h:ae T as G ((R.ao (aS st' st.length k xs) st').bind λys st'=> .ok (.ref st.length) (st'.take st.length++[.lst ys])) (λv _ as2 G2 H2=>∀u,Rel T as2 G2 v u->Q u H2) X:=h
     cases e2:aS st' st.length k xs with
     |none=>rw[e2] at h;exact h.elim
     |some ys=>
      rw[e2] at h;let⟨us,q,r⟩:=ob;have r2:=bX (bD s') (gf s' 6) e2 r;rw[c1] at r2;exact h (as++[a]) _ H' (aax _ _) (l.trans (bD s')) (put ⟨us,q,r2.mono (aax _ _) (Le.refl _)⟩) u told
    |dct ks vs=>
     replace h:ae T as G ((R.ao (aS st' st.length k vs) st').bind λvs st'=> .ok (.ref st.length) (st'.take st.length++[.dct ks vs])) (λv _ as2 G2 H2=>∀u,Rel T as2 G2 v u->Q u H2) X:=h
     cases e2:aS st' st.length k vs with
     |none=>rw[e2] at h;exact h.elim
     |some ys=>
      rw[e2] at h;let⟨us,q,r⟩:=ob;have r2:=bX (bD s') (gf s' 6) e2 r;rw[c1] at r2;exact h (as++[a]) _ H' (aax _ _) (l.trans (bD s')) (put ⟨us,q,r2.mono (aax _ _) (Le.refl _)⟩) u told
    |ins c ns vs=>
     replace h:ae T as G (if qW P c=true then .ok (.ref k) st' else (R.ao (aS st' st.length st'.length vs) st').bind λvs st'=> .ok (.obj c ns vs) (st'.take st.length)) (λv _ as2 G2 H2=>∀u,Rel T as2 G2 v u->Q u H2) X:=h;split at h
     ·exact h as' G' H' p l s' u ⟨a,ea,eu⟩
     ·cases e2:aS st' st.length st'.length vs with
      |none=>rw[e2] at h;exact h.elim
      |some ys=>
       rw[e2] at h;let⟨dx,us,x0,q,m,r⟩:=ob;let⟨d1,d2⟩:=Sim.cut s s' p o st'.length
       have kx:k≠st'.length:=by lia
       have r2:=bX (bD (n:=st.length) (x:=st'.length) s') (gf s' 6) e2 r;rw[d1] at r2;refine h as _ H' (aaj _) (l.trans (bD s')) d2 u ⟨a,us,eu,m,r2, ?_⟩;rw[if_neg (by rw[x0];decide)];exact⟨dx,(uL (by lia) kx s'.nd ea).trans q⟩
 ·exact h as' G' H' p l s' u r
theorem DB {x:Exn} {cls:Value} {dx:Option Addr} {Q:Val->aa->List Addr->Hp->Hp->Prop} (s:Sim T st as G H) (s':Sim T st' as' G' H') (p:as<+:as') (l:Le G G') (r:BJ T as' G' x cls dx)
  (h:ae T as G (lp st x st') Q X):X cls dx H':=by
 unfold lp at h;split at h
 ·rename_i o
  cases e2:aS st' st.length st'.length x.vs with
  |none=>rw[e2] at h;exact h.elim
  |some ys=>
   rw[e2] at h;let⟨d1,d2⟩:=Sim.cut s s' p o st'.length;refine h as _ H' cls dx (aaj _) (l.trans (bD s')) d2 ?_;let⟨r1,r0,r2⟩:=r;refine⟨r1,r0,r2.imp (λ⟨q1,q2,q3⟩=>⟨q1,q2, ?_⟩) λ⟨d,us,q1,q2,q3,q4⟩=>⟨d,us,q1,(bD s').ex q2 rfl,q3, ?_⟩⟩
   ·rw[q3] at e2;cases e2;rfl
   ·have r2:=bX (bD (n:=st.length) (x:=st'.length) s') (gf s' 6) e2 q4;rw[d1] at r2;exact r2
 ·exact h as' G' H' cls dx p l s' r
theorem IU {v:Val} {u:L2.V} {Q:Val->aa->List Addr->Hp->Hp->Prop} (s:Sim T st as G H) (s':Sim T st' as' G' H') (p:as<+:as') (l:Le G G') (r:Rel T as' G' v u) (h:ae T as G (tY st v st') Q X):
  ∃v2 st2 as2 G2,Sim T st2 as2 G2 H'/\Rel T as2 G2 v2 u/\Q v2 st2 as2 G2 H':=by
 unfold tY at h;split at h
 ·rename_i o
  cases e2:v.aD st' st.length st'.length with
  |none=>rw[e2] at h;exact h.elim
  |some v'=>
   rw[e2] at h;let⟨c1,c2⟩:=Sim.cut s s' p o st'.length;have r2:=nH (bD (n:=st.length) (x:=st'.length) s') (gf s' 6) e2 r;rw[c1] at r2;exact⟨v',_,as,_,c2,r2,h as _ H' (aaj _) (l.trans (bD s')) c2⟩
 ·exact⟨v,st',as',G',s',r,h as' G' H' p l s'⟩
end
end PI
namespace PI
open PySem L2 L2.L3 L2.L4
def tE (T:CT) (P:Pg) (cl:au) (E:XS) (e:PI.E):TE:=λσ H Q=>∃env st as G,Sim T st as G H/\aG T as G env σ/\ae T as G (e.run P cl env st) (λv _ as' G' H'=>∀u,Rel T as' G' v u->Q u H') (E σ)
def tT (T:CT) (P:Pg) (cl:au) (E:XS) (e:PI.E):TT:=λσ H Q=>∃env st as G,Sim T st as G H/\aG T as G env σ/\ae T as G (runC P cl (some e) env st) (λb _ _ _ H'=>Q b H') (E σ)
def ft (T:CT) (P:Pg) (cl:au) (E:XS) (es:List PI.E):TA:=λσ H Q=>∃env st as G,Sim T st as G H/\aG T as G env σ/\ae T as G (aM P cl es env st) (λvs _ as' G' H'=>∀us,ag T as' G' vs us->Q us H') (E σ)
theorem PE.mono {X:Cx} {e:Expr} {t t':TE} (h:PE X e t) (k:∀σ H Q,t' σ H Q->t σ H Q):PE X e t':=λpins s σ H Q I q=>h pins s σ H Q I (k σ H Q q)
theorem PT.mono {X:Cx} {e:Expr} {t t':TT} (h:PT X e t) (k:∀σ H Q,t' σ H Q->t σ H Q):PT X e t':=λpins s σ H Q I q=>h pins s σ H Q I (k σ H Q q)
theorem PA.mono {X:Cx} {es:List Expr} {t t':TA} (h:PA X es t) (k:∀σ H Q,t' σ H Q->t σ H Q):PA X es t':=λpos pins s σ H Q I q=>h pos pins s σ H Q I (k σ H Q q)
section
variable {T:CT} {P:Pg} {cl:au} {E:XS} {X:Cx} {pos:Pos}
theorem aA {α:Type} {e:PI.E} {env:Env} {st:aa} {G H:Hp} {σ:St} {f:Val->aa->R α} {Q:α->aa->List Addr->Hp->Hp->Prop} {K:VK} (s:Sim T st as G H) (er:aG T as G env σ)
  (h:ae T as G ((e.run P cl env st).bind f) Q (E σ))
  (k:∀v st1 as1 G1 H1 u,Sim T st1 as1 G1 H1->aG T as1 G1 env σ->Rel T as1 G1 v u->as<+:as1->Le G G1->ae T as1 G1 (f v st1) Q (E σ)->K u H1):tE T P cl E e σ H K:=
 ⟨env,st,as,G,s,er,h.bind.imp λv st1 as1 G1 H1 p l s1 q u r=>k v st1 as1 G1 H1 u s1 (er.mono p l) r p l q⟩
theorem dq {α:Type} {es:List PI.E} {env:Env} {st:aa} {G H:Hp} {σ:St} {f:List Val->aa->R α} {Q:α->aa->List Addr->Hp->Hp->Prop} {K:List L2.V->Hp->Prop} (s:Sim T st as G H) (er:aG T as G env σ)
  (h:ae T as G ((aM P cl es env st).bind f) Q (E σ))
  (k:∀vs st1 as1 G1 H1 us,Sim T st1 as1 G1 H1->aG T as1 G1 env σ->ag T as1 G1 vs us->as<+:as1->Le G G1->ae T as1 G1 (f vs st1) Q (E σ)->K us H1):ft T P cl E es σ H K:=
 ⟨env,st,as,G,s,er,h.bind.imp λv st1 as1 G1 H1 p l s1 q u r=>k v st1 as1 G1 H1 u s1 (er.mono p l) r p l q⟩
theorem C5 {α:Type} {e:PI.E} {env:Env} {st:aa} {G H:Hp} {σ:St} {f:Bool->aa->R α} {Q:α->aa->List Addr->Hp->Hp->Prop} {K:Bool->Hp->Prop} (s:Sim T st as G H) (er:aG T as G env σ)
  (h:ae T as G ((runC P cl (some e) env st).bind f) Q (E σ))
  (k:∀b st1 as1 G1 H1,Sim T st1 as1 G1 H1->aG T as1 G1 env σ->as<+:as1->Le G G1->ae T as1 G1 (f b st1) Q (E σ)->K b H1):tT T P cl E e σ H K:=
 ⟨env,st,as,G,s,er,h.bind.imp λv st1 as1 G1 H1 p l s1 q=>k v st1 as1 G1 H1 s1 (er.mono p l) p l q⟩
theorem ae.ao {α β:Type} {G:Hp} {o:Option α} {st:aa} {f:α->aa->R β} {Q:β->aa->List Addr->Hp->Hp->Prop} {X:XK} (h:ae T as G ((R.ao o st).bind f) Q X):∃a,o=some a/\ae T as G (f a st) Q X:=by
 cases o with
 |none=>exact h.elim
 |some a=>exact⟨a,rfl,h⟩
theorem ae.dj {α:Type} {G:Hp} {o:Option α} {st:aa} {Q:α->aa->List Addr->Hp->Hp->Prop} {X:XK} (h:ae T as G (R.ao o st) Q X):∃a,o=some a/\ae T as G (.ok a st) Q X:=by
 cases o with
 |none=>exact h.elim
 |some a=>exact⟨a,rfl,h⟩
theorem ae.iff {α:Type} {G:Hp} {c:Prop} {r:R α} {Q:α->aa->List Addr->Hp->Hp->Prop} {X:XK} (h:ae T as G (iff c r) Q X):c/\ae T as G r Q X:=by
 unfold PI.iff at h;split at h
 ·rename_i z;exact⟨z,h⟩
 ·exact h.elim
theorem HY {i:Int} {j:Nat}:PE X (.Constant (.int i) j pos) (tE T P cl E (.const (.int i))):=PE.mono EU λσ H Q z903=>by let⟨env,st,as,G,s,er,h⟩:=z903;exact h.ok s _ rfl
theorem LO {i:Bool} {j:Nat}:PE X (.Constant (.bool i) j pos) (tE T P cl E (.const (.bl i))):=PE.mono Io λσ H Q z903=>by let⟨env,st,as,G,s,er,h⟩:=z903;exact h.ok s _ rfl
theorem Jr {i:Str} {j:Nat}:PE X (.Constant (.str i) j pos) (tE T P cl E (.const (.str i))):=PE.mono Ft λσ H Q z903=>by let⟨env,st,as,G,s,er,h⟩:=z903;exact h.ok s _ rfl
theorem Jv {j:Nat}:PE X (.Constant .none j pos) (tE T P cl E (.const .non)):=PE.mono yQ λσ H Q z903=>by let⟨env,st,as,G,s,er,h⟩:=z903;exact h.ok s _ rfl
theorem HJ {i:Nat} {x:Str} (hN:X.N[i]?=some x) (hv:yU X.env.scope x) (hd:(x==("__debug__":Str))=false) (hcd:(x==("__classdict__":Str))=false):PE X (.Name x pos) (tE T P cl E (.var i)):=
 PE.mono (GV hN hv hd hcd) λσ H Q z903=>by
  let⟨env,st,as,G,s,er,h⟩:=z903;let⟨v,e,h⟩:=ae.dj h
  have e':env[i]?=some (some v):=by
   cases q:env[i]? with
   |none=>rw[q] at e;cases e
   |some o=>rw[q] at e;exact congrArg some e
  let⟨u,e1,r⟩:=er.2 i v e';exact⟨u,e1,h.ok s u r⟩
theorem Ip {a b:Expr} {op:Operator} {r:R2} (ho:aF X (binaryOp op) r) (ha:PE X a (tE T P cl E ia)) (hb:PE X b (tE T P cl E ib))
  (k:∀{st as G H x y u w} {Q:VK} {Z:XK},Sim T st as G H->dG T as G H (res st x) u->dG T as G H (res st y) w->ae T as G (eO op (res st x) (res st y) st) (λv _ as' G' H'=>∀u,Rel T as' G' v u->Q u H') Z->r u w H Q):PE X (.BinOp a op b pos) (tE T P cl E (.bin op ia ib)):=
 PE.mono (HN ho ha hb) λσ H Q z903=>by
  let⟨env,st,as,G,s,er,h⟩:=z903;dsimp only[PI.E.run] at h;refine aA s er h λx st1 as1 G1 H1 u s1 er1 r1 p1 l1 h=> ?_;refine aA s1 er1 h λy st2 as2 G2 H2 w s2 er2 r2 p2 l2 h=> ?_;exact k s2 (bc s2 (r1.mono p2 l2)) (bc s2 r2) h
theorem Ja {a b:Expr} {op:CmpOp} {r:R2} (ho:aF X (compareOp op) r) (hm:behindInMarks op b=false) (ha:PE X a (tE T P cl E ia)) (hb:PE X b (tE T P cl E ib))
  (k:∀{st as G H x y u w} {Q:VK} {Z:XK},Sim T st as G H->dG T as G H (res st x) u->dG T as G H (res st y) w->ae T as G (dJ (bF op (res st x) (res st y) st)) (λv _ as' G' H'=>∀u,Rel T as' G' v u->Q u H') Z->r u w H Q):PE X (.Compare a [op] [b] pos) (tE T P cl E (.cmp op ia ib)):=
 PE.mono (CQ ho ha hb hm) λσ H Q z903=>by
  let⟨env,st,as,G,s,er,h⟩:=z903;dsimp only[PI.E.run] at h;refine aA s er h λx st1 as1 G1 H1 u s1 er1 r1 p1 l1 h=> ?_;refine aA s1 er1 h λy st2 as2 G2 H2 w s2 er2 r2 p2 l2 h=> ?_;exact k s2 (bc s2 (r1.mono p2 l2)) (bc s2 r2) h
end
end PI
namespace PI
open PySem L2 L2.L3 L2.L4 PySem.SeqAt
theorem ag.get {T:CT} {G:Hp}:∀{vs:List Val} {us:List L2.V} {j:Nat} {v:Val},ag T as G vs us->vs[j]?=some v->∃u,us[j]?=some u/\Rel T as G v u
 |[],_,_,_,_,e=>by simp at e
 |_::_,_,0,_,⟨u,t,e1,h,r⟩,e=>by
  simp at e;subst e e1;exact⟨u,rfl,h⟩
 |_::_,_,j+1,_,⟨u,t,e1,h,r⟩,e=>by
  subst e1;simpa using ag.get r (by simpa using e)
theorem ag.length {T:CT} {G:Hp}:∀{vs:List Val} {us:List L2.V},ag T as G vs us->vs.length=us.length
 |[],_,h=>by
  cases h;rfl
 |_::_,_,⟨u,t,e1,h,r⟩=>by
  subst e1;rw[aaw,aaw,ag.length r]
section
variable {T:CT} {X:Cx} {pins:List (Addr×Obj)} {σ:St} {as:List Addr} {G H:Hp} {s:Shared}
end
inductive oU (f:List Val->List Val->Option Bool):Val->Val->Bool->Prop
 |non:oU f .non .non true
 |bl (a c:Bool):oU f (.bl a) (.bl c) (a==c)
 |int (a c:Int):oU f (.int a) (.int c) (a==c)
 |str (a c:Str):oU f (.str a) (.str c) (decide (a=c))
 |is (a:Int) (c:Str):oU f (.int a) (.str c) false
 |si (a:Str) (c:Int):oU f (.str a) (.int c) false
 |tup (p q:Bool) (xs ys:List Val) (b:Bool) (h:f xs ys=some b):oU f (.tup p xs) (.tup q ys) b
 |lst (xs ys:List Val) (b:Bool) (h:f xs ys=some b):oU f (.lst xs) (.lst ys) b
section
variable {T:CT} {X:Cx} {pins:List (Addr×Obj)} {σ:St} {as:List Addr} {G H:Hp} {s:Shared}
end
end PI
namespace PI
open PySem L2 L2.L3 L2.L4 PySem.SeqAt PyProof.Rows
abbrev PV (T:CT) (Q:VK):Val->aa->List Addr->Hp->Hp->Prop:=λv _ as' G' H'=>∀u,Rel T as' G' v u->Q u H'
def cZ (T:CT) (f:Val->Val->aa->R Val):R2:=λu w H Q=>∃st as G x y Z,Sim T st as G H/\dG T as G H x u/\dG T as G H y w/\ae T as G (f x y st) (PV T Q) Z
theorem aF.imp {X:Cx} {f:Value->Value->Sem Value} {r r':R2} (h:aF X f r) (k:∀x y H Q,r' x y H Q->r x y H Q):aF X f r':=λpins s σ H x y v u Q I rx ry q=>h pins s σ H x y v u Q I rx ry (k x y H Q q)
section
variable {T:CT} {X:Cx}
theorem jJ {f:Value->Value->Sem Value} {C:Int->Int->Prop} {g:Int->Int->L2.V} {h:Int->Int->aa->R Val} (ho:aF X f (rI C g))
  (k:∀{st as G H Z Q} {i j:Int},Sim T st as G H->ae T as G (h i j st) (PV T Q) Z->C i j/\Q (g i j) H):aF X f (cZ T (cg h)):=
 aF.imp ho λu w H Q z904=>by
  let⟨st,as,G,x,y,Z,s,r1,r2,p⟩:=z904
  cases x with
  |int i=>cases y with
   |int j=>
    cases r1;cases r2;let⟨c,q⟩:=k s p;exact⟨i,j,rfl,rfl,c,q⟩
   |_=>exact p.elim
  |_=>exact p.elim
theorem HZ {g:Int->Int->L2.V} {x y:L2.V} {H:Hp} {Q:VK} (h:rI (λ_ _=>True) g x y H Q):kL g x y H Q:=by
 let⟨i,j,a,b,_,c⟩:=h;exact⟨i,j,a,b,c⟩
theorem Dy:aF X (binaryOp .Sub) (cZ T (cg λi j st=> .ok (.int (i-j)) st)):=jJ (aF.imp Ht λ_ _ _ _=>HZ) λs p=>⟨trivial,p.ok s _ rfl⟩
theorem CI:aF X (binaryOp .Mod) (cZ T (cg ra)):=jJ Dv λs p=>by
 let⟨c,p⟩:=ae.iff p;exact⟨c,p.ok s _ rfl⟩
theorem km {f:Value->Value->Sem Value} {g:Int->Int->Bool} (ho:aF X f (kL λi j=> .bl (g i j))):aF X f (cZ T λx y st=>dJ (cg (λi j st=> .ok (g i j) st) x y st)):=
 aF.imp ho λu w H Q z904=>by
  let⟨st,as,G,x,y,Z,s,r1,r2,p⟩:=z904
  cases x with
  |int i=>cases y with
   |int j=>
    cases r1;cases r2;exact⟨i,j,rfl,rfl,p.ok s _ rfl⟩
   |_=>exact p.elim
  |_=>exact p.elim
theorem GY:aF X (compareOp .Lt) (cZ T λx y st=>dJ (bF .Lt x y st)):=km HK
theorem FU:aF X (compareOp .LtE) (cZ T λx y st=>dJ (bF .LtE x y st)):=km Jq
theorem FO:aF X (compareOp .Gt) (cZ T λx y st=>dJ (bF .Gt x y st)):=km JF
theorem EA:aF X (compareOp .GtE) (cZ T λx y st=>dJ (bF .GtE x y st)):=km IT
theorem qM {i:Int} (h:big i):Builtin.Int.intBits i<=1000:=by
 unfold Builtin.Int.intBits;split
 ·exact aaV _
 ·have:i.natAbs.log2<1000:=by
   rcases Nat.eq_zero_or_pos i.natAbs with h0|hp
   ·rw[h0];decide
   ·exact(Nat.log2_lt (abr hp)).mpr h
  lia
theorem E7 {i j:Int} (h:B7 i j):IntMulOk i j:=by
 rcases h with h|h|⟨h1,h2⟩
 ·exact IntMulOk.of_left (intBits_le_64 (by lia) (by lia))
 ·exact IntMulOk.of_right (intBits_le_64 (by lia) (by lia))
 ·have b1:=qM h1;have b2:=qM h2;unfold IntMulOk
  have:Builtin.Int.intTooBig (Builtin.Int.intBits i+Builtin.Int.intBits j)=false:=by
   unfold Builtin.Int.intTooBig;have z:bitsLine=2^27:=rfl;simp only[decide_eq_false_iff_not,z];lia
  rw[this,Bool.and_false];decide
theorem CN:aF X (binaryOp .Mult) (cZ T (cg oB)):=jJ (B4 (C:=IntMulOk) (g:=λi j=>i*j) λ_ _ _ _ _ _ _ hc q=>mul_int q hc) λs p=>by
 let⟨c,p⟩:=ae.iff p;exact⟨E7 c,p.ok s _ rfl⟩
theorem Gk {i j:Int} (h:big j):Builtin.divisionGoesByPylong i j=false:=by
 unfold Builtin.divisionGoesByPylong
 have:(if (j==0)=true then 0 else j.natAbs.log2/30+1)<=300:=by
  split
  ·lia
  ·have:j.natAbs.log2<1000:=by
    rcases Nat.eq_zero_or_pos j.natAbs with h0|hp
    ·rw[h0];decide
    ·exact(Nat.log2_lt (abr hp)).mpr h
   lia
 simp only[Bool.and_eq_false_iff,decide_eq_false_iff_not];left;lia
theorem Dh:aF X (binaryOp .FloorDiv) (cZ T (cg lY)):=jJ (B4 (C:=λi j=>j≠0/\big j) (g:=λi j=>i.fdiv j) λ_ _ _ _ _ _ _ hc q=>floordiv_int hc.1 q (.inl (Gk hc.2))) λs p=>by
 let⟨c,p⟩:=ae.iff p;exact⟨c,p.ok s _ rfl⟩
theorem CP:aF X (binaryOp .Pow) (cZ T (cg vL)):=jJ Fl λs p=>by
 let⟨c,p⟩:=ae.iff p;exact⟨⟨c.1,by lia,c.2.2⟩,p.ok s _ rfl⟩
def IY (K:PySem.W.Frag):R2:=λx y H Q=>∃l b xs zs,x= .ref l/\y= .ref b/\bK K H l xs/\bK K H b zs/\xs.length+zs.length<=sizeLine/\∀p,H p=none->Q (.ref p) (upd H p (.lst (xs++zs)))
theorem DM:aF X (binaryOp .Add) (IY X.K):=by
 intro pins s σ H x y v u Q I rx ry h;let⟨l,b,xs,zs,rfl,rfl,hH,hB,hz,q⟩:=h;cases rx;cases ry;let⟨vs,r1,hl,_⟩:=cq (b:=true) I hH;let⟨ws,r2,hb,_⟩:=cq (b:=true) I hB;let⟨⟨cls,dd,data,sl⟩,ho,hc,n,hd⟩:=id hl;let⟨⟨cls2,dd2,data2,sl2⟩,ho2,hc2,n2,hd2⟩:=id hb;simp only at hc hd hc2 hd2;subst hc hd hc2 hd2
 have e:vs.toArray++ws.toArray=(vs++ws).toArray:=by simp
 refine concat_meets ⟨_,ho,rfl⟩ ⟨_,ho2,rfl⟩ noFill_list_add seq_list_add PySem.F.slot_list_add PySem.F.entry_list_add (PySem.F.args_list_add_2 _ _) (list_addW l b vs.toArray ws.toArray n n2 dd dd2 sl sl2 (by simpa[r1.length,r2.length] using hz)) ⟨ho,ho2, ?_⟩;rw[e];exact⟨.ref _,_,I.Ly (t':=s.toks) (r1.append r2) (by rw[aaZ];lia),rfl,q _ I.fresh⟩
theorem ag.append {G:Hp}:∀{xs ys:List Val} {us ws:List L2.V},ag T as G xs us->ag T as G ys ws->ag T as G (xs++ys) (us++ws)
 |[],_,_,_,h,r=>by
  cases h;exact r
 |_::_,_,_,_,⟨u,t,e,h,q⟩,r=>by
  subst e;exact⟨u,_,rfl,h,ag.append q r⟩
theorem oo {st:aa} {G H:Hp} {Q:VK} {Z:XK} (s:Sim T st as G H) (r:ag T as G xs us) (p:ae T as G (.ok (.tup false xs) st) (PV T Q) Z) {a:Addr} (ha:H a=none):Q (.ref a) (upd H a (.tup us)):=by
 have l:Le G (upd G a (.tup us)):=Le.new (s.fresh ha).2;exact p as _ _ (aaj _) l (s.qv ha) _ ⟨a,us,rfl,(show upd G a (.tup us) a=_ from ak),r.mono (aaj _) l⟩
theorem AM {st:aa} {G H:Hp} {Q:VK} {Z:XK} (s:Sim T st as G H) (r:ag T as G xs us) (p:ae T as G (.ok (.tup true xs) st) (PV T Q) Z) {a:Addr} {o:Obj} (ha:H a=none) (ho:o.dict=none):Q (.ref a) (upd H a (.aD o (.tup us))):=by
 have l:Le G (upd G a (.aD o (.tup us))):=Le.new (s.fresh ha).2;exact p as _ _ (aaj _) l (s.qv ha) _ ⟨a,us,rfl,⟨o,ak,ho⟩,r.mono (aaj _) l⟩
theorem fZ {st:aa} {G H:Hp} {Q:VK} {Z:XK} (s:Sim T st as G H) (r:ag T as G xs us) (p:ae T as G (new (.lst xs) st) (PV T Q) Z) {a:Addr} (ha:H a=none):Q (.ref a) (upd H a (.lst us)):=by
 refine p (as++[a]) G _ (aax _ _) (Le.refl _) (s.push ha ⟨us,ak,r.mono (aax _ _) (Le.refl _)⟩) _ ⟨a, ?_,rfl⟩;rw[←s.len,aam (aah _)];simp
theorem Dn (hK:T.K=X.K):aF X (binaryOp .Add) (cZ T jn):=by
 refine aF.imp (((FF (X:=X)).or vB).or ((Ep (X:=X)).or DM)) λu w H Q z904=> ?_;let⟨st,as,G,x,y,Z,s,r1,r2,p⟩:=z904
 cases x with
 |int i=>cases y with
  |int j=>
   cases r1;cases r2;exact .inl (.inl ⟨i,j,rfl,rfl,p.ok s _ rfl⟩)
  |_=>exact p.elim
 |str i=>cases y with
  |str j=>
   cases r1;cases r2;let⟨c,p⟩:=ae.iff p;have z:sizeLine=2^24:=rfl;exact .inl (.inr ⟨i,j,rfl,rfl,by lia,p.ok s _ rfl⟩)
  |_=>exact p.elim
 |tup fl xs=>cases y with
  |tup fl ys=>
   let⟨a,us,rfl,q1,s1⟩:=r1;let⟨b,ws,rfl,q2,s2⟩:=r2;let⟨c,p⟩:=ae.iff p;have z:sizeLine=2^24:=rfl;refine .inr (.inl ⟨a,b,us,ws,rfl,rfl,cK s.sub q1,cK s.sub q2,λz=>c.1 ?_,by rw[←s1.length,←s2.length];lia,λz=> ?_,λ_ l hl=>oo s (s1.append s2) p hl⟩)
   ·have:=s1.length;rw[z] at this;exact aaG this
   ·refine absurd ?_ c.2.1;have:=s2.length;rw[z] at this;exact aaG this
  |_=>exact p.elim
 |lst xs=>cases y with
  |lst ys=>
   let⟨a,us,rfl,q1,s1⟩:=r1;let⟨b,ws,rfl,q2,s2⟩:=r2;let⟨c,p⟩:=ae.iff p;have z:sizeLine=2^24:=rfl;exact .inr (.inr ⟨a,b,us,ws,rfl,rfl,hK▸q1,hK▸q2,by rw[←s1.length,←s2.length];lia,λl hl=>fZ s (s1.append s2) p hl⟩)
  |_=>exact p.elim
 |_=>exact p.elim
theorem nzq {α:Type} {a:α} {p:Prop} (h:none=some a):p:=nomatch h
theorem xV {G H:Hp} {x y:Val} {u w:L2.V} {b:Bool} (r1:dG T as G H x u) (r2:dG T as G H y w) (e:nr x y=some b):Bq u w=true/\decide (u=w)=b:=by
 cases x<;>cases y<;>first|exact nzq e|skip
 ·cases r1;cases r2;cases e;exact⟨rfl,rfl⟩
 ·cases r1;cases r2;cases e;exact⟨rfl,by rw[aaS];simp⟩
 ·cases r1;cases r2;cases e;exact⟨rfl,by rw[aaS];simp⟩
 ·cases r1;cases r2;cases e;exact⟨rfl,by rw[aaS];simp⟩
theorem FV (hK:T.K=X.K) (hu:X.A.units+8<cLine):aF X (compareOp .Eq) (cZ T λx y st=>dJ (bF .Eq x y st)):=
 aF.imp Jk λu w H Q z904=>by
  let⟨st,as,G,x,y,Z,s,r1,r2,p⟩:=z904;let⟨b,e,p⟩:=ae.ao (show ae T as G ((R.ao (nr x y) st).bind λb st=> .ok (.bl b) st) (PV T Q) Z from p);let⟨h1,h2⟩:=xV r1 r2 e;exact⟨h1,by rw[h2];exact p.ok s _ rfl⟩
theorem Hv (hK:T.K=X.K) (hu:X.A.units+8<cLine):aF X (compareOp .NotEq) (cZ T λx y st=>dJ (bF .NotEq x y st)):=
 aF.imp Ju λu w H Q z904=>by
  let⟨st,as,G,x,y,Z,s,r1,r2,p⟩:=z904;let⟨c,e,p⟩:=ae.ao (show ae T as G ((R.ao ((nr x y).map λb=> !b) st).bind λb st=> .ok (.bl b) st) (PV T Q) Z from p);let⟨b,e1,e2⟩:=aab.mp e;subst e2;let⟨h1,h2⟩:=xV r1 r2 e1;exact⟨h1,by rw[h2];exact p.ok s _ rfl⟩
theorem tV {G H:Hp} {v:Val} {u:L2.V} (h:dG T as G H v u):decide (u= .non)=fP v:=by
 cases v with
 |non=>cases h;rfl
 |bl b=>cases h;rfl
 |int b=>cases h;rfl
 |str b=>cases h;rfl
 |ref k=>exact h.elim
 |tup fl xs=>let⟨a,us,rfl,_⟩:=h;rfl
 |lst xs=>let⟨a,us,rfl,_⟩:=h;rfl
 |dct ks vs=>let⟨a,us,rfl,_⟩:=h;rfl
 |obj c ns vs=>let⟨a,us,rfl,_⟩:=h;rfl
theorem aF.or {f:Value->Value->Sem Value} {r r':L2.V->L2.V->Hp->VK->Prop} (h:aF X f r) (h':aF X f r'):aF X f (λx y H Q=>r x y H Q∨r' x y H Q):=λpins s σ H x y v u Q I rx ry q=>q.elim (h pins s σ H x y v u Q I rx ry) (h' pins s σ H x y v u Q I rx ry)
theorem bool_beq (a b:Bool):(Value.bool a==Value.bool b)=(a==b):=by cases a<;>cases b<;>decide
theorem Hc:aF X (compareOp .Is) (λx y H Q=>∃a b,x= .bl a/\y= .bl b/\Q (.bl (a==b)) H):=by
 intro pins s σ H x y v u Q I rx ry ⟨a,b,e1,e2,q⟩;subst e1 e2;cases rx;cases ry;exact wpAny_is_plain rfl (L2.aH I q (bool_beq a b).symm)
theorem DE:aF X (compareOp .IsNot) (λx y H Q=>∃a b,x= .bl a/\y= .bl b/\Q (.bl (!(a==b))) H):=by
 intro pins s σ H x y v u Q I rx ry ⟨a,b,e1,e2,q⟩;subst e1 e2;cases rx;cases ry;exact wpAny_isNot_plain rfl (L2.aH I q (by rw[bool_beq]))
theorem Gn:aF X (compareOp .Is) (cZ T λx y st=>dJ (bF .Is x y st)):=
 aF.imp (aF.or E4 Hc) λu w H Q z904=>by
  let⟨st,as,G,x,y,Z,s,r1,r2,p⟩:=z904
  cases y with
  |non=>
   cases r2;refine .inl ⟨rfl, ?_⟩;rw[tV r1];exact p.ok s _ rfl
  |bl b=>cases x with
   |bl a=>
    cases r1;cases r2;exact .inr ⟨a,b,rfl,rfl,p.ok s _ rfl⟩
   |_=>exact p.elim
  |_=>exact p.elim
theorem xa:aF X (compareOp .IsNot) (cZ T λx y st=>dJ (bF .IsNot x y st)):=
 aF.imp (aF.or Dz DE) λu w H Q z904=>by
  let⟨st,as,G,x,y,Z,s,r1,r2,p⟩:=z904
  cases y with
  |non=>
   cases r2;refine .inl ⟨rfl, ?_⟩;rw[tV r1];exact p.ok s _ rfl
  |bl b=>cases x with
   |bl a=>
    cases r1;cases r2;exact .inr ⟨a,b,rfl,rfl,p.ok s _ rfl⟩
   |_=>exact p.elim
  |_=>exact p.elim
end
end PI
namespace PI
open PySem L2 L2.L3 L2.L4 PySem.SeqAt
section
variable {T:CT} {P:Pg} {cl:au} {E:XS} {X:Cx} {pos:Pos}
theorem Ko {a b:Expr} {op:Operator} (ho:aF X (binaryOp op) (cZ T (eO op))) (ha:PE X a (tE T P cl E ia)) (hb:PE X b (tE T P cl E ib)):PE X (.BinOp a op b pos) (tE T P cl E (.bin op ia ib)):=
 Ip ho ha hb λs r1 r2 p=>⟨_,_,_,_,_,_,s,r1,r2,p⟩
theorem KQ {a b:Expr} {op:CmpOp} (ho:aF X (compareOp op) (cZ T λx y st=>dJ (bF op x y st))) (hm:behindInMarks op b=false) (ha:PE X a (tE T P cl E ia)) (hb:PE X b (tE T P cl E ib)):PE X (.Compare a [op] [b] pos) (tE T P cl E (.cmp op ia ib)):=
 Ja ho hm ha hb λs r1 r2 p=>⟨_,_,_,_,_,_,s,r1,r2,p⟩
theorem IZ {a:Expr} (ha:PE X a (tE T P cl E ia)):PE X (.UnaryOp .USub a pos) (tE T P cl E (.neg ia)):=
 PE.mono (IH Gu ha) λσ H Q z903=>by
  let⟨env,st,as,G,s,er,h⟩:=z903;dsimp only[PI.E.run] at h;refine aA s er h λx st1 as1 G1 H1 u s1 er1 r1 p1 l1 h=> ?_
  cases x with
  |int i=>
   cases r1;exact⟨i,rfl,h.ok s1 _ rfl⟩
  |_=>exact h.elim
theorem Jd {a b:Expr} {rest:List Expr} (ha:PE X a (tE T P cl E ia)) (hb:PE X (.BoolOp .And (b::rest) pos) (tE T P cl E ib)):PE X (.BoolOp .And (a::b::rest) pos) (tE T P cl E (.and ia ib)):=
 PE.mono (GN ha hb) λσ H Q z903=>by
  let⟨env,st,as,G,s,er,h⟩:=z903;dsimp only[PI.E.run] at h;refine aA s er h λx st1 as1 G1 H1 u s1 er1 r1 p1 l1 h=> ?_
  cases x with
  |bl t=>
   cases r1;refine⟨t,rfl, ?_⟩
   cases t with
   |true=>exact lU ⟨env,st1,as1,G1,s1,er1,h⟩
   |false=>exact lN (h.ok s1 _ rfl)
  |_=>exact h.elim
theorem My {a b:Expr} {rest:List Expr} (ha:PE X a (tE T P cl E ia)) (hb:PE X (.BoolOp .Or (b::rest) pos) (tE T P cl E ib)):PE X (.BoolOp .Or (a::b::rest) pos) (tE T P cl E (.or ia ib)):=
 PE.mono (Jo ha hb) λσ H Q z903=>by
  let⟨env,st,as,G,s,er,h⟩:=z903;dsimp only[PI.E.run] at h;refine aA s er h λx st1 as1 G1 H1 u s1 er1 r1 p1 l1 h=> ?_
  cases x with
  |bl t=>
   cases r1;refine⟨t,rfl, ?_⟩
   cases t with
   |true=>exact lU (h.ok s1 _ rfl)
   |false=>exact lN ⟨env,st1,as1,G1,s1,er1,h⟩
  |_=>exact h.elim
theorem Jp {a:Expr} (ha:PE X a (tE T P cl E ia)):PE X (.UnaryOp .Not a pos) (tE T P cl E (.not ia)):=
 PE.mono (Hh ha) λσ H Q z903=>by
  let⟨env,st,as,G,s,er,h⟩:=z903;dsimp only[PI.E.run] at h;refine aA s er h λx st1 as1 G1 H1 u s1 er1 r1 p1 l1 h=> ?_
  cases x with
  |bl t=>
   cases r1;exact⟨t,rfl,h.ok s1 _ rfl⟩
  |_=>exact h.elim
theorem Gf {st:aa} {G H:Hp} {x:Val} {u:L2.V} {b:Bool} (hK:T.K=X.K) (s:Sim T st as G H) (r:dG T as G H x u) (e:truth x=some b):Ak X.K u H b:=by
 cases x with
 |non=>cases r;cases e;rfl
 |bl t=>cases r;cases e;rfl
 |int i=>cases r;cases e;rfl
 |str y=>
  cases r;replace e:(if y.length<=1000 then some ((y.length:Int) !=0) else none)=some b:=e;split at e
  ·rename_i c;cases e;have z:sizeLine=2^24:=rfl;exact⟨by lia,rfl⟩
  ·cases e
 |tup fl xs=>
  let⟨a,us,rfl,q,r⟩:=r;cases e;refine .inr (.inl ⟨us,cK s.sub q, ?_⟩)
  cases xs with
  |nil=>cases r;rfl
  |cons x xs=>let⟨_,_,rfl,_⟩:=r;rfl
 |lst xs=>
  let⟨a,us,rfl,q,r⟩:=r;cases e;refine .inl ⟨us,hK▸q, ?_⟩
  cases xs with
  |nil=>cases r;rfl
  |cons x xs=>let⟨_,_,rfl,_⟩:=r;rfl
 |dct ks vs=>cases e
 |obj c ns vs=>cases e
 |ref k=>cases e
theorem Jc {a:Expr} (hK:T.K=X.K) (ha:PE X a (tE T P cl E ia)) (he:∀whole,isTrue a X.env whole=(do let v←whole;standAt a.pos;holding [v] (truthy v))):PT X a (tT T P cl E ia):=
 PT.mono (zN ha he) λσ H Q z903=>by
  let⟨env,st,as,G,s,er,h⟩:=z903;dsimp only[runC] at h;refine aA s er h λx st1 as1 G1 H1 u s1 er1 r1 p1 l1 h=> ?_;let⟨b,e,h⟩:=ae.dj h;exact⟨b,Gf hK s1 (bc s1 r1) e,h.ok s1⟩
theorem Ib {a b:Expr} {op:CmpOp} (ho:aF X (compareOp op) (cZ T λx y st=>dJ (bF op x y st))) (hm:behindInMarks op b=false) (ha:PE X a (tE T P cl E ia)) (hb:PE X b (tE T P cl E ib)):PT X (.Compare a [op] [b] pos) (tT T P cl E (.cmp op ia ib)):=
 PT.mono (Dw ho ha hb hm) λσ H Q z903=>by
  let⟨env,st,as,G,s,er,h⟩:=z903;dsimp only[runC,PI.E.run] at h;have h2:=h.bind;refine aA s er h2 λx st1 as1 G1 H1 u s1 er1 r1 p1 l1 h=> ?_;refine aA s1 er1 h λy st2 as2 G2 H2 w s2 er2 r2 p2 l2 h=> ?_;refine⟨st2,as2,G2,_,_,E σ,s2,bc s2 (r1.mono p2 l2),bc s2 r2, ?_⟩;show ae T as2 G2 (dJ (bF op (res st2 x) (res st2 y) st2)) _ _
  cases e:bF op (res st2 x) (res st2 y) st2 with
  |stuck=>rw[e] at h;exact h.elim
  |exc x st=>rw[e] at h;exact h
  |ok b st3=>
   rw[e] at h;exact λas' G' H' p l s u ru=>⟨b,ru,(h as' G' H' p l s).ok s⟩
theorem rX {e:PI.E} {env:Env} {st:aa} {G H:Hp} {σ:St} {f:Val->aa->R Bool} {Q K:Bool->Hp->Prop} (s:Sim T st as G H) (er:aG T as G env σ)
  (h:ae T as G ((e.run P cl env st).bind f) (λb _ _ _ H'=>Q b H') (E σ))
  (k:∀t st1 as1 G1 H1,Sim T st1 as1 G1 H1->aG T as1 G1 env σ->ae T as1 G1 (f (.bl t) st1) (λb _ _ _ H'=>Q b H') (E σ)->K t H1) (hb:∀v st,(∀t,v≠ .bl t)->f v st= .stuck):tT T P cl E e σ H K:=by
 refine⟨env,st,as,G,s,er, ?_⟩;unfold runC
 cases e1:e.run P cl env st with
 |stuck=>rw[e1] at h;exact h.elim
 |exc x st=>rw[e1] at h;exact h
 |ok v st1=>
  rw[e1] at h;replace h:ae T as G (f v st1) (λb _ _ _ H'=>Q b H') (E σ):=h
  by_cases z:∃t,v= .bl t
  ·let⟨t,rfl⟩:=z;exact λas' G' H' p l s'=>k t st1 as' G' H' s' (er.mono p l) (h.mono p l)
  ·rw[hb v st1 λt q=>z ⟨t,q⟩] at h;exact h.elim
theorem lR {β:Type} {v:Val} {st:aa} {f:Bool->aa->R β} (h:∀t,v≠ .bl t):(ir v st).bind f= .stuck:=by
 cases v with
 |bl t=>exact absurd rfl (h t)
 |_=>rfl
theorem R.bind_assoc {α β γ:Type} (r:R α) (f:α->aa->R β) (g:β->aa->R γ):(r.bind f).bind g=r.bind λa st=>(f a st).bind g:=by
 cases r<;>rfl
theorem H8 {a:Expr} (ha:PT X a (tT T P cl E ia)):PT X (.UnaryOp .Not a pos) (tT T P cl E (.not ia)):=
 PT.mono (Gd ha) λσ H Q z903=>by
  let⟨env,st,as,G,s,er,h⟩:=z903;dsimp only[runC,PI.E.run] at h;rw[R.bind_assoc] at h
  exact rX s er h (λt st1 as1 G1 H1 s1 er1 h=>h.ok s1) λv st n=>by rw[lR n];rfl
theorem HR {a b:Expr} {rest:List Expr} (ha:PT X a (tT T P cl E ia)) (hb:PW X (.BoolOp .And (b::rest) pos) (tT T P cl E ib)):PW X (.BoolOp .And (a::b::rest) pos) (tT T P cl E (.and ia ib)):=λwh pins s0 σ H Q I z907=>by
 let⟨env,st,as,G,s,er,h⟩:=z907;refine Fw ha hb wh pins s0 σ H Q I ?_;dsimp only[runC,PI.E.run] at h;rw[R.bind_assoc] at h
 refine rX s er h (λt st1 as1 G1 H1 s1 er1 h=> ?_) λv st n=>by rw[lR n];rfl
 cases t with
 |true=>exact lU ⟨env,st1,as1,G1,s1,er1,h⟩
 |false=>exact lN (h.ok s1)
theorem Lq {a b:Expr} {rest:List Expr} (ha:PT X a (tT T P cl E ia)) (hb:PW X (.BoolOp .Or (b::rest) pos) (tT T P cl E ib)):PW X (.BoolOp .Or (a::b::rest) pos) (tT T P cl E (.or ia ib)):=λwh pins s0 σ H Q I z907=>by
 let⟨env,st,as,G,s,er,h⟩:=z907;refine IV ha hb wh pins s0 σ H Q I ?_;dsimp only[runC,PI.E.run] at h;rw[R.bind_assoc] at h
 refine rX s er h (λt st1 as1 G1 H1 s1 er1 h=> ?_) λv st n=>by rw[lR n];rfl
 cases t with
 |true=>exact lU (h.ok s1)
 |false=>exact lN ⟨env,st1,as1,G1,s1,er1,h⟩
theorem JE {c a b:Expr} (hc:PT X c (tT T P cl E ic)) (ha:PE X a (tE T P cl E ia)) (hb:PE X b (tE T P cl E ib)):PE X (.IfExp c a b pos) (tE T P cl E (.ite ic ia ib)):=
 PE.mono (zV hc ha hb) λσ H Q z903=>by
  let⟨env,st,as,G,s,er,h⟩:=z903;dsimp only[PI.E.run] at h
  have z:((ic.run P cl env st).bind λx st=>(R.ao (truth (res st x)) st).bind λt st=>fL t (ia.run P cl env st) (ib.run P cl env st))=(runC P cl (some ic) env st).bind λt st=>fL t (ia.run P cl env st) (ib.run P cl env st):=by
   unfold runC;rw[R.bind_assoc]
  rw[z] at h;refine C5 s er h λt st1 as1 G1 H1 s1 er1 p1 l1 h=> ?_
  cases t with
  |true=>exact lU ⟨env,st1,as1,G1,s1,er1,h⟩
  |false=>exact lN ⟨env,st1,as1,G1,s1,er1,h⟩
theorem v8:PA X [] (ft T P cl E []):=PA.mono jR λσ H Q z903=>by let⟨env,st,as,G,s,er,h⟩:=z903;exact h.ok s _ rfl
theorem mF {e:Expr} {es:List Expr} {ies:List PI.E} (ha:PE X e (tE T P cl E ie)) (hr:PA X es (ft T P cl E ies)) (hs:starEach (e::es) X.env=(false,eval e X.env)::starEach es X.env):PA X (e::es) (ft T P cl E (ie::ies)):=
 PA.mono (fY ha hr hs) λσ H Q z903=>by
  let⟨env,st,as,G,s,er,h⟩:=z903;dsimp only[aM] at h;refine aA s er h λx st1 as1 G1 H1 u s1 er1 r1 p1 l1 h=> ?_;refine dq s1 er1 h λxs st2 as2 G2 H2 us s2 er2 r2 p2 l2 h=> ?_;exact h.ok s2 _ ⟨u,us,rfl,r1.mono p2 l2,r2⟩
theorem IJ {es:List Expr} {ies:List PI.E} {k:Nat} (h:PA X es (ft T P cl E ies)):PE X (.Tuple es k pos) (tE T P cl E (.tup ies)):=
 PE.mono (GD h) λσ H Q z903=>by
  let⟨env,st,as,G,s,er,h⟩:=z903;dsimp only[PI.E.run] at h;refine dq s er h λxs st1 as1 G1 H1 us s1 er1 r1 p1 l1 h=> ?_;let⟨c,h⟩:=ae.iff h;have z:sizeLine=2^24:=rfl;exact⟨by rw[←r1.length];lia,λl hl=>oo s1 r1 h hl⟩
theorem Iw {es:List Expr} {ies:List PI.E} (h:PA X es (ft T P cl E ies)):PE X (.List es pos) (tE T P cl E (.lst ies)):=
 PE.mono (EO h) λσ H Q z903=>by
  let⟨env,st,as,G,s,er,h⟩:=z903;dsimp only[PI.E.run] at h;refine dq s er h λxs st1 as1 G1 H1 us s1 er1 r1 p1 l1 h=> ?_;let⟨c,h⟩:=ae.iff h;have z:sizeLine=2^24:=rfl;exact⟨by rw[←r1.length];lia,λl hl=>fZ s1 r1 h hl⟩
end
structure COk (T:CT) (P:Pg):Prop where
 xc:∀(c:Nat) k,(P.cl c)=some k->T.xc c=k.exc
 cl:∀(c:Nat) k,(P.cl c)=some k->k.exc=false->Cls T.K (T.ca c)
 na:∀(c:Nat) k f,(P.cl c)=some k->k.exc=false->f∈k.flds->dZ T.K (T.ca c) f
theorem uK {P:Pg} {c:Nat} {f:Str} (h:et P c f=true):∃k,(P.cl c)=some k/\f∈k.flds:=by
 unfold et at h
 cases e:(P.cl c) with
 |none=>rw[e] at h;cases h
 |some k=>
  rw[e] at h;exact⟨k,rfl,by simpa using h⟩
theorem pI {T:CT} {G:Hp} {f:Str}:∀{ns:List Str} {vs:List Val} {us:List L2.V} {v:Val},ag T as G vs us->de ns vs f=some v->∃u,(ns.zip us).lookup f=some u/\Rel T as G v u
 |[],_,_,_,_,e=>by cases e
 |_::_,[],_,_,_,e=>by cases e
 |n::ns,x::vs,_,v,⟨u,t,rfl,h,r⟩,e=>by
  unfold de at e;rw[aaR,aaJ]
  by_cases z:n=f
  ·rw[if_pos z] at e;cases e;rw[show (f==n)=true by rw[z];simp];exact⟨u,rfl,h⟩
  ·rw[if_neg z] at e;rw[show (f==n)=false by simpa using λq=>z q.symm];exact pI r e
section
variable {T:CT} {P:Pg} {cl:au} {E:XS} {X:Cx} {pos:Pos}
theorem HF {f:Str} (hK:T.K=X.K) (C:COk T P) (ho:PE X o (tE T P cl E io)) (hb:attributeBase o f X.env (eval o X.env)=eval o X.env) (hx:∀(c:Nat) k,(P.cl c)=some k->f∈k.flds->k.exc=false):PE X (.Attribute o f pos) (tE T P cl E (.fld io f)):=
 PE.mono (EG ho hb) λσ H Q z903=>by
  let⟨env,st,as,G,s,er,h⟩:=z903;dsimp only[PI.E.run] at h;refine aA s er h λx st1 as1 G1 H1 u s1 er1 r1 p1 l1 h=> ?_;have r2:=bc s1 r1;generalize res st1 x=y at h r2
  cases y with
  |obj c ns vs=>
   let⟨hc,h⟩:=ae.iff h;let⟨k,e1,e2⟩:=uK hc;have ex:=hx c k e1 e2;let⟨a,us,rfl,n,r,q⟩:=r2;rw[if_neg (by rw[C.xc c k e1,ex];decide)] at q;let⟨dx,q⟩:=q;let⟨v,e3,h⟩:=ae.dj h;let⟨w,e4,r4⟩:=pI r e3;exact⟨a,T.ca c,dx,_,w,rfl,q,hK▸C.cl c k e1 ex,hK▸C.na c k f e1 ex e2,e4,h.ok s1 _ r4⟩
  |_=>exact h.elim
end
end PI
namespace PI
open PySem PySem.Spec L2 L2.L3 L2.L4 PySem.SeqAt
open PyProof.Rows hiding St lobj
def qu (T:CT) (as:List Addr) (G H:Hp):List Val->List L2.V->Prop
 |[],us=>us=[]
 |v::r,us=>∃u t,us=u::t/\dG T as G H v u/\qu T as G H r t
theorem lF {T:CT} {st:aa} {G H:Hp} (s:Sim T st as G H):∀{vs:List Val} {us:List L2.V},ag T as G vs us->qu T as G H (vs.map (res st)) us
 |[],_,h=>h
 |_::_,_,⟨u,t,e,h,r⟩=>⟨u,t,e,bc s h,lF s r⟩
def iK (T:CT) (b:Bi):List L2.V->Hp->VK->Prop:=λus H Q=>∃st as G xs Z,Sim T st as G H/\qu T as G H xs us/\ae T as G (o6 b xs st) (PV T Q) Z
theorem ar.imp {X:Cx} {f:Value} {r r':List L2.V->Hp->VK->Prop} (h:ar X f r) (k:∀xs H Q,r' xs H Q->r xs H Q):ar X f r':=λpins s σ H xs us Q I rv q=>h pins s σ H xs us Q I rv (k xs H Q q)
theorem ar.or {X:Cx} {f:Value} {r r':List L2.V->Hp->VK->Prop} (h:ar X f r) (h':ar X f r'):ar X f (λxs H Q=>r xs H Q∨r' xs H Q):=λpins s σ H xs us Q I rv q=>q.elim (h pins s σ H xs us Q I rv) (h' pins s σ H xs us Q I rv)
section
variable {T:CT} {P:Pg} {cl:au} {E:XS} {X:Cx} {pos:Pos}
theorem IQ {b:Bi} {id:String} {x:Str} {p:Pos} {e:Expr} {es:List Expr} {ies:List PI.E} (hc:ar X (.builtin id) (iK T b)) (hg:Gl X x) (hm:X.mg x=none) (hv:bootBuiltins x=some (.builtin id)) (ha:PA X (e::es) (ft T P cl E ies)) (hn:x≠"__name__") (hdb:(x==("__debug__":Str))=false)
  (he:starEach (e::es) X.env=(false,eval e X.env)::starEach es X.env) (hpl:(backTo pos (starEach es X.env)).any (·.1)=false):PE X (.Call (.Name x p) (e::es) [] pos) (tE T P cl E (.bi b ies)):=
 PE.mono (q0 hc hg hm hv ha hn hdb he hpl) λσ H Q z903=>by
  let⟨env,st,as,G,s,er,h⟩:=z903;dsimp only[PI.E.run] at h;refine dq s er h λxs st1 as1 G1 H1 us s1 er1 r1 p1 l1 h=> ?_;exact⟨st1,as1,G1,_,_,s1,lF s1 r1,h⟩
theorem IL {b:Bi} {id:String} {x:Str} {p:Pos} {e:Expr} {es:List Expr} {ies:List PI.E} (hc:ar X (.type id) (iK T b)) (hg:Gl X x) (hm:X.mg x=none) (hv:bootBuiltins x=some (.type id)) (ha:PA X (e::es) (ft T P cl E ies)) (hn:x≠"__name__") (hdb:(x==("__debug__":Str))=false)
  (he:starEach (e::es) X.env=(false,eval e X.env)::starEach es X.env) (hpl:(backTo pos (starEach es X.env)).any (·.1)=false):PE X (.Call (.Name x p) (e::es) [] pos) (tE T P cl E (.bi b ies)):=
 PE.mono (oZ hc hg hm hv ha hn hdb he hpl) λσ H Q z903=>by
  let⟨env,st,as,G,s,er,h⟩:=z903;dsimp only[PI.E.run] at h;refine dq s er h λxs st1 as1 G1 H1 us s1 er1 r1 p1 l1 h=> ?_;exact⟨st1,as1,G1,_,_,s1,lF s1 r1,h⟩
theorem dC {G H:Hp} {x:Val} (r:qu T as G H [x] us):∃u,us=[u]/\dG T as G H x u:=by
 let⟨u,t,rfl,h,r⟩:=r;cases r;exact⟨u,rfl,h⟩
theorem gL {b:Bi} {st:aa} {G:Hp} {Q:Val->aa->List Addr->Hp->Hp->Prop} {Z:XK} (h:ae T as G (o6 b xs st) Q Z) (n2:∀x y st,zr b x y st= .stuck:=by intros;rfl) (n3:∀x y z st,yA b x y z st= .stuck:=by intros;rfl):∃x,xs=[x]:=by
 match xs with
 |[x]=>exact⟨x,rfl⟩
 |[]=>exact h.elim
 |[x,y]=>
  replace h:ae T as G (zr b x y st) Q Z:=h;rw[n2] at h;exact h.elim
 |[x,y,z]=>
  replace h:ae T as G (yA b x y z st) Q Z:=h;rw[n3] at h;exact h.elim
 |_::_::_::_::_=>exact h.elim
theorem C4 {G H:Hp} {a:Addr} {ks:List Val} (d:fU H a ks us) (r:ag T as G vs us):(∃kvs,Rd H a (.dT kvs)/\kvs.length=ks.length)∨∃kvs,Rd H a (.dK kvs)/\kvs.length=ks.length:=by
 have kl:∀{ks:List Val} {kk:List Key},aI ks=some kk->kk.length=ks.length:=λ{ks}=>by
  induction ks with
  |nil=>intro kk e;cases e;rfl
  |cons k ks ih=>
   intro kk e;unfold aI at e
   cases e1:cf k with
   |none=>rw[e1] at e;cases e
   |some k'=>
    cases e2:aI ks with
    |none=>rw[e1,e2] at e;cases e
    |some r=>rw[e1,e2] at e;cases e;simp[ih e2]
 have tl:∀{ks:List Val} {kk:List (List Key)},bj ks=some kk->kk.length=ks.length:=λ{ks}=>by
  induction ks with
  |nil=>intro kk e;cases e;rfl
  |cons k ks ih=>
   intro kk e;unfold bj at e
   cases e1:cU k with
   |none=>rw[e1] at e;cases e
   |some k'=>
    cases e2:bj ks with
    |none=>rw[e1,e2] at e;cases e
    |some r=>rw[e1,e2] at e;cases e;simp[ih e2]
 rcases d with⟨kk,e,n,h⟩|⟨kk,e,n,h⟩
 ·exact .inr ⟨_,h,by rw[abe,←n,ac7];exact kl e⟩
 ·exact .inl ⟨_,h,by rw[abe,←n,ac7];exact tl e⟩
theorem yE (hK:T.K=X.K):ar X (.builtin "len") (iK T .len):=by
 refine ar.imp (((qP (X:=X)).or rm).or xN) λus H Q z903=> ?_;let⟨st,as,G,xs,Z,s,r0,p0⟩:=z903;let⟨x,rfl⟩:=gL p0;let⟨u,rfl,r⟩:=dC r0;let⟨v,e,p⟩:=ae.dj (show ae T as G (R.ao ((iu x).map .int) st) (PV T Q) Z from p0);clear r0 p0;let⟨n,e1,rfl⟩:=aab.mp e;clear e;have q:=p.ok s _ rfl
 cases x with
 |tup fl xs=>
  let⟨a,us,rfl,h1,h2⟩:=r;cases e1;exact .inl (.inl ⟨a,us,rfl, .inr (cK s.sub h1),by rw[←h2.length];exact q⟩)
 |lst xs=>
  let⟨a,us,rfl,h1,h2⟩:=r;cases e1;exact .inl (.inl ⟨a,us,rfl, .inl (hK▸h1),by rw[←h2.length];exact q⟩)
 |dct ks vs=>
  let⟨a,us,rfl,h1,h2⟩:=r;cases e1;refine .inr ⟨a,rfl, ?_⟩
  rcases C4 h1 h2 with⟨kvs,h,z⟩|⟨kvs,h,z⟩
  ·exact .inl ⟨kvs,h,by rw[z];exact q⟩
  ·exact .inr ⟨kvs,h,by rw[z];exact q⟩
 |str x=>
  cases r;replace e1:(if x.length<=1000 then some (x.length:Int) else none)=some n:=e1;split at e1
  ·cases e1;have z:sizeLine=2^24:=rfl;exact .inl (.inr ⟨x,rfl,by lia,q⟩)
  ·cases e1
 |_=>cases e1
theorem xG:ar X (.builtin "abs") (iK T .abs):=by
 refine ar.imp Av λus H Q z903=> ?_;let⟨st,as,G,xs,Z,s,r0,p0⟩:=z903;let⟨x,rfl⟩:=gL p0;let⟨u,rfl,r⟩:=dC r0
 cases x with
 |int i=>
  cases r;refine⟨i,rfl, ?_⟩;have q:=p0.ok s _ rfl;rw[show (if i<0 then-i else i)=(i.natAbs:Int) by split<;>lia];exact q
 |_=>exact p0.elim
theorem yb:ar X (.type "int") (iK T .int):=by
 refine ar.imp yg λus H Q z903=> ?_;let⟨st,as,G,xs,Z,s,r0,p0⟩:=z903;let⟨x,rfl⟩:=gL p0;let⟨u,rfl,r⟩:=dC r0
 cases x with
 |int i=>
  cases r;exact .inl ⟨i,rfl,p0.ok s _ rfl⟩
 |bl b=>
  cases r;exact .inr ⟨b,rfl,p0.ok s _ rfl⟩
 |_=>exact p0.elim
theorem tN (hK:T.K=X.K):ar X (.type "tuple") (iK T .tuple):=by
 refine ar.imp ((Ar (X:=X)).or yu) λus H Q z903=> ?_;let⟨st,as,G,xs,Z,s,r0,p0⟩:=z903;let⟨x,rfl⟩:=gL p0;let⟨u,rfl,r⟩:=dC r0
 cases x with
 |tup fl xs=>
  have r1:=r;let⟨a,us,rfl,h1,h2⟩:=r;exact .inl ⟨a,us,rfl, .inr ⟨cK s.sub h1,p0.ok s _ r1⟩⟩
 |lst xs=>
  let⟨a,us,rfl,h1,h2⟩:=r;exact .inr ⟨a,us,rfl,hK▸h1,λl o hl ho=>AM s h2 p0 hl ho⟩
 |_=>exact p0.elim
theorem vE (hK:T.K=X.K):ar X (.type "list") (iK T .list):=by
 refine ar.imp Aj λus H Q z903=> ?_;let⟨st,as,G,xs,Z,s,r0,p0⟩:=z903;let⟨x,rfl⟩:=gL p0;let⟨u,rfl,r⟩:=dC r0
 cases x with
 |tup fl xs=>
  let⟨a,us,rfl,h1,h2⟩:=r;exact⟨a,us,rfl, .inr (cK s.sub h1),λl hl=>fZ s h2 p0 hl⟩
 |lst xs=>
  let⟨a,us,rfl,h1,h2⟩:=r;exact⟨a,us,rfl, .inl (hK▸h1),λl hl=>fZ s h2 p0 hl⟩
 |_=>exact p0.elim
theorem all_bools {G:Hp}:∀{xs:List Val} {us:List L2.V} {b:Bool},ag T as G xs us->allB xs=some b->∃ys:List Bool,us=ys.map V.bl/\ys.all id=b
 |[],_,_,h,e=>by
  cases h;cases e;exact⟨[],rfl,rfl⟩
 | .bl c::r,_,b,⟨u,t,z,h,q⟩,e=>by
  unfold allB at e;let⟨d,e1,rfl⟩:=aab.mp e;let⟨ys,e2,e3⟩:=all_bools q e1;cases h;subst z e2;exact⟨c::ys,rfl,by rw[aaI,e3];rfl⟩
 | .non::_,_,_,_,e=>by cases e
 | .int _::_,_,_,_,e=>by cases e
 | .str _::_,_,_,_,e=>by cases e
 | .tup _ _::_,_,_,_,e=>by cases e
 | .lst _::_,_,_,_,e=>by cases e
 | .dct _ _::_,_,_,_,e=>by cases e
 | .obj _ _ _::_,_,_,_,e=>by cases e
 | .ref _::_,_,_,_,e=>by cases e
theorem yS (hK:T.K=X.K) (hc:X.calm=true):ar X (.builtin "all") (iK T .all):=by
 refine ar.imp (Bk hc) λus H Q z903=> ?_;let⟨st,as,G,xs,Z,s,r0,p0⟩:=z903;let⟨x,rfl⟩:=gL p0;let⟨u,rfl,r⟩:=dC r0
 cases x with
 |lst xs=>
  let⟨a,us,rfl,h1,h2⟩:=r;let⟨v,e,p⟩:=ae.dj (show ae T as G (R.ao ((allB xs).map .bl) st) (PV T Q) Z from p0);let⟨b,e1,rfl⟩:=aab.mp e;let⟨ys,e2,e3⟩:=all_bools h2 e1;subst e2;exact⟨a,ys,rfl,hK▸h1,by rw[e3];exact p.ok s _ rfl⟩
 |_=>exact p0.elim
theorem sum_ints {G:Hp}:∀{xs:List Val} {us:List L2.V} {a n:Int},ag T as G xs us->iz a xs=some n->∃ns:List Int,us=ns.map V.int/\a+ns.sum=n
 |[],_,a,n,h,e=>by
  cases h;cases e;exact⟨[],rfl,by simp⟩
 | .int i::r,_,a,n,⟨u,t,z,h,q⟩,e=>by
  let⟨ns,e2,e3⟩:=sum_ints (a:=a+i) q e;cases h;subst z e2;exact⟨i::ns,rfl,by rw[List.sum_cons];lia⟩
 | .non::_,_,_,_,_,e=>by cases e
 | .bl _::_,_,_,_,_,e=>by cases e
 | .str _::_,_,_,_,_,e=>by cases e
 | .tup _ _::_,_,_,_,_,e=>by cases e
 | .lst _::_,_,_,_,_,e=>by cases e
 | .dct _ _::_,_,_,_,_,e=>by cases e
 | .obj _ _ _::_,_,_,_,_,e=>by cases e
 | .ref _::_,_,_,_,_,e=>by cases e
def KG (K:PySem.W.Frag):List L2.V->Hp->VK->Prop:=λxs H Q=>∃p,∃ns:List Int,xs=[.ref p]/\bK K H p (ns.map V.int)/\Q (.int ns.sum) H
theorem yV {X:Cx} (hc:X.calm=true):ar X (.builtin "sum") (KG X.K):=by
 intro pins s σ H xs us Q I r h;let⟨p,ns,rfl,hp,q⟩:=h;let⟨u,rfl,r1⟩:=Vals.one r;cases r1;let⟨its,rv,g,hz⟩:=I.list hp;have hi:=intsAre_of rv;let⟨xs,hx⟩:=hi.allInts.items;have hl':s.heap.IsList p (intItems xs):=hx▸g.isList;refine sum_intListG (I.ok.hd hc) hl' λh' tk t' hk=> ?_
 have e1:ns=xs.toList.map (·.1):=by
  rw[←nums_intItems,←hx];exact(show numsOf its.toArray.toList=ns from hi.numsOf).symm
 have e2:preSum (numAt xs) xs.size=ns.sum:=by
  rw[preSum_eq,acv (by simp),e1]
 rw[e2];exact⟨.int ns.sum,H,I.kept (t':=tk) hk,⟨t',rfl⟩,q⟩
theorem yd (hK:T.K=X.K) (hc:X.calm=true):ar X (.builtin "sum") (iK T .sum):=by
 refine ar.imp (yV hc) λus H Q z903=> ?_;let⟨st,as,G,xs,Z,s,r0,p0⟩:=z903;let⟨x,rfl⟩:=gL p0;let⟨u,rfl,r⟩:=dC r0
 cases x with
 |lst xs=>
  let⟨a,us,rfl,h1,h2⟩:=r;let⟨v,e,p⟩:=ae.dj (show ae T as G (R.ao ((iz 0 xs).map .int) st) (PV T Q) Z from p0);let⟨n,e1,rfl⟩:=aab.mp e;let⟨ns,e2,e3⟩:=sum_ints h2 e1;subst e2;rw[Int.zero_add] at e3;exact⟨a,ns,rfl,hK▸h1,by rw[e3];exact p.ok s _ rfl⟩
 |_=>exact p0.elim
end
end PI
namespace PI
open PySem L2 L2.L3 L2.L4 PySem.SeqAt
def aC (T:CT) (as:List Addr) (G:Hp) (r:F) (D:Ends) (E:XS):Prop:=match r with
 | .next env st=>∀as' G' H' σ',as<+:as'->Le G G'->Sim T st as' G' H'->aG T as' G' env σ'->D.nx σ' H'
 | .brk env st=>∀as' G' H' σ',as<+:as'->Le G G'->Sim T st as' G' H'->aG T as' G' env σ'->D.bk σ' H'
 | .cont env st=>∀as' G' H' σ',as<+:as'->Le G G'->Sim T st as' G' H'->aG T as' G' env σ'->D.ct σ' H'
 | .ret v st=>∀as' G' H' u,as<+:as'->Le G G'->Sim T st as' G' H'->Rel T as' G' v u->D.rt u H'
 | .exc x env st=>∀as' G' H' σ' cls dx,as<+:as'->Le G G'->Sim T st as' G' H'->aG T as' G' env σ'->BJ T as' G' x cls dx->E σ' cls dx H'
 | .stuck=>False
theorem aC.mono {T:CT} {bs:List Addr} {G G2:Hp} {r:F} {D:Ends} {E:XS} (p:as<+:bs) (l:Le G G2) (h:aC T as G r D E):aC T bs G2 r D E:=by
 cases r with
 |next env st=>exact λas' G' H' σ' p' l'=>h as' G' H' σ' (p.trans p') (l.trans l')
 |brk env st=>exact λas' G' H' σ' p' l'=>h as' G' H' σ' (p.trans p') (l.trans l')
 |cont env st=>exact λas' G' H' σ' p' l'=>h as' G' H' σ' (p.trans p') (l.trans l')
 |ret v st=>exact λas' G' H' u p' l'=>h as' G' H' u (p.trans p') (l.trans l')
 |exc x env st=>exact λas' G' H' σ' cls dx p' l'=>h as' G' H' σ' cls dx (p.trans p') (l.trans l')
 |stuck=>exact h
def tS (T:CT) (P:Pg) (cl:au) (E:XS) (s:PI.S):TS:=λD σ H=>∃env st as G,Sim T st as G H/\aG T as G env σ/\aC T as G (s.run P cl env st) D E
def gW (T:CT) (P:Pg) (cl:au) (E:XS) (ss:List PI.S):TS:=λD σ H=>∃env st as G,Sim T st as G H/\aG T as G env σ/\aC T as G (aN P cl ss env st) D E
theorem PS.mono {X:Cx} {e:Stmt} {t t':TS} (h:PS X e t) (k:∀D σ H,t' D σ H->t D σ H):PS X e t':=λpins s σ H D I q=>h pins s σ H D I (k D σ H q)
theorem cu.mono {X:Cx} {e:List Stmt} {t t':TS} (h:cu X e t) (k:∀D σ H,t' D σ H->t D σ H):cu X e t':=λpins s σ H D I q=>h pins s σ H D I (k D σ H q)
theorem aG.set {T:CT} {G:Hp} {env:Env} {σ:St} {v:Val} {u:L2.V} (h:aG T as G env σ) (i:Nat) (r:Rel T as G v u):aG T as G (env.set i (some v)) (σ.set i (some u)):=by
 refine⟨by simp[h.1],λj w e=> ?_⟩
 by_cases hj:j=i
 ·subst hj
  have lj:j<env.length:=by
   have:=(aac.mp e).1;simpa using this
  rw[abC lj] at e;cases e;exact⟨u,by rw[abC (by rw[←h.1];exact lj)],r⟩
 ·rw[abq (λz=>hj z.symm)] at e;rw[abq (λz=>hj z.symm)];exact h.2 j w e
section
variable {T:CT} {P:Pg} {cl:au} {E:XS} {X:Cx} {pos:Pos}
theorem qf {e:PI.E} {env:Env} {st:aa} {G H:Hp} {σ:St} {f:Val->aa->F} {D:Ends} {K:VK} (s:Sim T st as G H) (er:aG T as G env σ)
  (h:aC T as G (F.of env (e.run P cl env st) f) D E)
  (k:∀v st1 as1 G1 H1 u,Sim T st1 as1 G1 H1->aG T as1 G1 env σ->Rel T as1 G1 v u->aC T as1 G1 (f v st1) D E->K u H1):tE T P cl E e σ H K:=by
 refine⟨env,st,as,G,s,er, ?_⟩
 cases e1:e.run P cl env st with
 |ok v st1=>
  rw[e1] at h;exact λas' G' H' p l s' u r=>k v st1 as' G' H' u s' (er.mono p l) r (aC.mono p l h)
 |exc x st1=>
  rw[e1] at h;exact λas' G' H' cls dx p l s' x=>h as' G' H' σ cls dx p l s' (er.mono p l) x
 |stuck=>
  rw[e1] at h;exact h.elim
theorem HA {e:PI.E} {env:Env} {st:aa} {G H:Hp} {σ:St} {f:Bool->aa->F} {D:Ends} {K:Bool->Hp->Prop} (s:Sim T st as G H) (er:aG T as G env σ)
  (h:aC T as G (F.of env (runC P cl (some e) env st) f) D E)
  (k:∀v st1 as1 G1 H1,Sim T st1 as1 G1 H1->aG T as1 G1 env σ->aC T as1 G1 (f v st1) D E->K v H1):tT T P cl E e σ H K:=by
 refine⟨env,st,as,G,s,er, ?_⟩
 cases e1:runC P cl (some e) env st with
 |ok v st1=>
  rw[e1] at h;exact λas' G' H' p l s'=>k v st1 as' G' H' s' (er.mono p l) (aC.mono p l h)
 |exc x st1=>
  rw[e1] at h;exact λas' G' H' cls dx p l s' x=>h as' G' H' σ cls dx p l s' (er.mono p l) x
 |stuck=>
  rw[e1] at h;exact h.elim
theorem Jx {i:Nat} {x:Str} {e:Expr} (hN:X.N.Nodup) (hi:X.N[i]?=some x) (hx:Loc X.env.scope x) (he:PE X e (tE T P cl E ie)) (hs:swapsWith e (some (.Name x pos')) pos.line X.env=pure false) (hf:X.fn x=true∨X.env.scope.names.lookup x=some .local):PS X (.Assign [.Name x pos'] e pos) (tS T P cl E (.set (.var i) ie)):=
 PS.mono (GL hN hi hx he hs hf) λD σ H z903=>by
  let⟨env,st,as,G,s,er,h⟩:=z903;dsimp only[PI.S.run] at h;refine qf s er h λv st1 as1 G1 H1 u s1 er1 r1 h=> ?_;unfold PI.T.put at h;split at h
  ·exact h as1 G1 H1 _ (aaj _) (Le.refl _) s1 (er1.set i r1)
  ·exact h.elim
theorem F0 {e:Expr} (he:PE X e (tE T P cl E ie)) (hs:swapsWith e none pos.line X.env=pure false):PS X (.Expr e pos) (tS T P cl E (.expr ie)):=
 PS.mono (CF he hs) λD σ H z903=>by
  let⟨env,st,as,G,s,er,h⟩:=z903;dsimp only[PI.S.run] at h;exact qf s er h λv st1 as1 G1 H1 u s1 er1 r1 h=>h as1 G1 H1 _ (aaj _) (Le.refl _) s1 er1
theorem Ih {e:Expr} (he:PE X e (tE T P cl E ie)):PS X (.Return (some e) pos) (tS T P cl E (.ret ie)):=
 PS.mono (EZ he) λD σ H z903=>by
  let⟨env,st,as,G,s,er,h⟩:=z903;dsimp only[PI.S.run] at h;exact qf s er h λv st1 as1 G1 H1 u s1 er1 r1 h=>h as1 G1 H1 _ (aaj _) (Le.refl _) s1 r1
theorem Fe:PS X (.Return none pos) (tS T P cl E .retN):=
 PS.mono Dk λD σ H z903=>by let⟨env,st,as,G,s,er,h⟩:=z903;exact h as G H _ (aaj _) (Le.refl _) s rfl
theorem Ki {c:Expr} {a b:List Stmt} {ia ib:List PI.S} (hc:PT X c (tT T P cl E ic)) (ha:cu X a (gW T P cl E ia)) (hb:cu X b (gW T P cl E ib)):PS X (.If c a b pos) (tS T P cl E (.ife ic ia ib)):=
 PS.mono (Hy hc ha hb) λD σ H z903=>by
  let⟨env,st,as,G,s,er,h⟩:=z903;dsimp only[PI.S.run] at h;refine HA s er h λt st1 as1 G1 H1 s1 er1 h=> ?_
  cases t with
  |true=>exact lU ⟨env,st1,as1,G1,s1,er1,h⟩
  |false=>exact lN ⟨env,st1,as1,G1,s1,er1,h⟩
theorem EH:cu X [] (gW T P cl E []):=cu.mono Ee λD σ H z903=>by let⟨env,st,as,G,s,er,h⟩:=z903;exact h as G H σ (aaj _) (Le.refl _) s er
theorem aC.bind {as:List Addr} {G:Hp} {r:F} {k:Env->aa->F} {D:Ends} (h:aC T as G (r.bind k) D E):aC T as G r {D with nx:=λσ' H'=>∃env st as' G',Sim T st as' G' H'/\aG T as' G' env σ'/\aC T as' G' (k env st) D E} E:=by
 cases r with
 |next env st=>exact λas' G' H' σ' p l s er=>⟨env,st,as',G',s,er,aC.mono p l h⟩
 |brk env st=>exact h
 |cont env st=>exact h
 |ret v st=>exact h
 |exc x env st=>exact h
 |stuck=>exact h
theorem Dr {a:Stmt} {b:List Stmt} {ia:PI.S} {ib:List PI.S} (ha:PS X a (tS T P cl E ia)) (hb:cu X b (gW T P cl E ib)):cu X (a::b) (gW T P cl E (ia::ib)):=
 cu.mono (Ay ha hb) λD σ H z903=>by
  let⟨env,st,as,G,s,er,h⟩:=z903;dsimp only[aN] at h;exact⟨env,st,as,G,s,er,h.bind⟩
theorem aC.iff {G:Hp} {c:Prop} {r:F} {D:Ends} (h:aC T as G (jV c r) D E):c/\aC T as G r D E:=by
 unfold jV at h;split at h
 ·rename_i z;exact⟨z,h⟩
 ·exact h.elim
def Src (T:CT) (b:Bool) (a:Addr) (items:List Val) (chk:List (Nat×Ob)) (as:List Addr) (G:Hp):Prop:=(∃us,fK b T.K G a us/\ag T as G items us)∨(b=true/\∃k,(k,Ob.lst items)∈chk/\as[k]?=some a)
theorem Src.mono {b:Bool} {a:Addr} {chk:List (Nat×Ob)} {G G':Hp} (p:as<+:as') (l:Le G G') (h:Src T b a items chk as G):Src T b a items chk as' G':=by
 rcases h with⟨us,h1,h2⟩|⟨rfl,k,h1,h2⟩
 ·refine .inl ⟨us, ?_,h2.mono p l⟩;cases b
  ·exact Cj l h1
  ·exact gA l h1
 ·exact .inr ⟨rfl,k,h1,kj p h2⟩
theorem Src.now {b:Bool} {a:Addr} {chk:List (Nat×Ob)} {st:aa} {G H:Hp} (s:Sim T st as G H) (kp:Kept chk st) (h:Src T b a items chk as G):∃us,fK b T.K H a us/\ag T as G items us:=by
 rcases h with⟨us,h1,h2⟩|⟨rfl,k,h1,h2⟩
 ·refine⟨us, ?_,h2⟩;cases b
  ·exact Cj s.sub h1
  ·exact gA s.sub h1
 ·let⟨us,q,r⟩:=s.ob k _ a (kp _ h1) h2;exact⟨us, .inl (.inl q),r⟩
def B5 (K:PySem.W.Frag) (b:Bool) (a:Addr):It:=cond b (Gx K a) (Fv K a)
end
def tG (T:CT) (t:PI.T):TG:=λu σ H Q=>∃env st as G v env',Sim T st as G H/\aG T as G env σ/\Rel T as G v u/\t.put v env=some env'/\∀σ',aG T as G env' σ'->Q σ' H
def yH (T:CT) (ts:List PI.T):mH:=λus σ H Q=>∃env st as G vs env',Sim T st as G H/\aG T as G env σ/\ag T as G vs us/\bQ vs env ts=some env'/\∀σ',aG T as G env' σ'->Q σ' H
theorem PG.mono {X:Cx} {e:Expr} {t t':TG} (h:PG X e t) (k:∀v σ H Q,t' v σ H Q->t v σ H Q):PG X e t':=λpins s σ H v u Q I r q=>h pins s σ H v u Q I r (k v σ H Q q)
theorem ig.mono {X:Cx} {e:List Expr} {t t':mH} (h:ig X e t) (k:∀v σ H Q,t' v σ H Q->t v σ H Q):ig X e t':=λpins s σ H v u Q I r q=>h pins s σ H v u Q I r (k v σ H Q q)
section
variable {T:CT} {P:Pg} {cl:au} {E:XS} {X:Cx} {pos:Pos}
theorem HW {i:Nat} {x:Str} (hN:X.N.Nodup) (hi:X.N[i]?=some x) (hx:Loc X.env.scope x) (hf:X.fn x=true∨X.env.scope.names.lookup x=some .local):PG X (.Name x pos) (tG T (.var i)):=
 PG.mono (DZ hN hi hx hf) λu σ H Q z904=>by
  let⟨env,st,as,G,v,env',s,er,r,e,k⟩:=z904;unfold PI.T.put at e;split at e
  ·cases e;exact k _ (er.set i r)
  ·cases e
theorem E6:ig X [] (yH T []):=ig.mono C0 λus σ H Q z904=>by
 let⟨env,st,as,G,vs,env',s,er,r,e,k⟩:=z904
 cases vs with
 |nil=>
  cases r;cases e;exact⟨rfl,k σ er⟩
 |cons v vs=>cases e
theorem CM {e:Expr} {es:List Expr} {t:PI.T} {ts:List PI.T} (h1:PG X e (tG T t)) (h2:ig X es (yH T ts)) (hs:(assignEach (e::es) X.env).map (·.2)=assign e X.env::(assignEach es X.env).map (·.2)):ig X (e::es) (yH T (t::ts)):=
 ig.mono (Be h1 h2 hs) λus σ H Q z904=>by
  let⟨env,st,as,G,vs,env',s,er,r,e,k⟩:=z904
  cases vs with
  |nil=>cases e
  |cons v vs=>
   let⟨u,us',rfl,r1,r2⟩:=r
   replace e:(t.put v env).bind (λenv=>bQ vs env ts)=some env':=by unfold bQ at e;exact e
   cases e1:t.put v env with
   |none=>rw[e1] at e;cases e
   |some env1=>
    rw[e1] at e;exact⟨u,us',rfl,env,st,as,G,v,env1,s,er,r1,e1,λσ' er'=>⟨env1,st,as,G,vs,env',s,er',r2,e,k⟩⟩
theorem o9:∀{ts:List PI.T} {vs:List Val} {env env':Env},bQ vs env ts=some env'->vs.length=ts.length
 |[],[],_,_,_=>rfl
 |[],_::_,_,_,e=>by cases e
 |_::_,[],_,_,e=>by cases e
 |t::ts,v::vs,env,env',e=>by
  replace e:(t.put v env).bind (λenv=>bQ vs env ts)=some env':=by unfold bQ at e;exact e
  cases e1:t.put v env with
  |none=>rw[e1] at e;cases e
  |some env1=>
   rw[e1] at e;rw[aaw,aaw,o9 (show bQ vs env1 ts=some env' from e)]
theorem Il {es:List Expr} {ts:List PI.T} {k:Nat} {n:Nat} (hK:T.K=X.K) (hc:X.calm=true) (h:ig X es (yH T ts)) (hl:ts.length=n) (hn:(assignEach es X.env).length=n) (hst:(assignEach es X.env).findIdx? (·.1)=none):PG X (.Tuple es k pos) (tG T (.tup ts)):=
 PG.mono (Gw hc h hn hst) λu σ H Q z904=>by
  let⟨env,st,as,G,v,env',s,er,r,e,k⟩:=z904
  cases v with
  |tup fl xs=>
   let⟨a,us,rfl,q,r⟩:=r
   replace e:bQ xs env ts=some env':=by unfold PI.T.put at e;exact e
   exact⟨a,us,rfl,cK s.sub q,by rw[←r.length,o9 e];exact hl,env,st,as,G,xs,env',s,er,r,e,k⟩
  |_=>(unfold PI.T.put at e;cases e)
structure Walks (T:CT) (J:It) (items:List Val) (chk:List (Nat×Ob)) (src:List Addr->Hp->Prop):Prop where
 mono:∀{as as' G G'},as<+:as'->Le G G'->src as G->src as' G'
 stop:∀{st as G H},Sim T st as G H->Kept chk st->src as G->J.stop items.length H
 go:∀{st as G H} {i:Nat},i<items.length->Sim T st as G H->Kept chk st->src as G->J.go i H
 yld:∀{st as G H x H'} {i:Nat},i<items.length->Sim T st as G H->Kept chk st->src as G->J.yld i H x H'->∃v G',items[i]?=some v/\Le G G'/\Sim T st as G' H'/\Rel T as G' v x
def tQ (T:CT) (P:Pg) (cl:au) (E:XS) (q:PI.Q):TI:=λσ H R=>∃env st as G,Sim T st as G H/\aG T as G env σ/\ae T as G (q.run P cl env st) (λit _ as' G' H'=>∀J src,Walks T J it.1 it.2 src->src as' G'->R J H') (E σ)
theorem PI.mono {X:Cx} {e:Expr} {t t':TI} (h:L2.PI X tg e t) (k:∀σ H R,t' σ H R->t σ H R):L2.PI X tg e t':=λpins s σ H R I q=>h pins s σ H R I (k σ H R q)
theorem jT (b:Bool) (a:Addr) (items:List Val) (chk:List (Nat×Ob)):Walks T (B5 T.K b a) items chk (Src T b a items chk) where
 mono p l h:=h.mono p l
 stop s kp h:=by
  let⟨us,q,r⟩:=h.now s kp;cases b
  ·exact⟨us,q,by rw[r.length];exact aah _⟩
  ·exact⟨us,q,by rw[r.length];exact aah _⟩
 go hi s kp h:=by
  let⟨us,q,r⟩:=h.now s kp;let⟨u,e,_⟩:=r.get (aae hi);cases b
  ·exact⟨us,u,q,e⟩
  ·exact⟨us,u,q,e⟩
 yld hi s kp h y:=by
  let⟨us,q,r⟩:=h.now s kp;let⟨u,e,hr⟩:=r.get (aae hi);cases b
  ·let⟨rfl,z⟩:=y;have:=z us q;rw[e] at this;cases this;exact⟨_,_,aae hi,Le.refl _,s,hr⟩
  ·let⟨rfl,z⟩:=y;have:=z us q;rw[e] at this;cases this;exact⟨_,_,aae hi,Le.refl _,s,hr⟩
theorem Aq {ks:List Val} {kk:List (List Key)} {us:List L2.V} (a:Addr) (o:Obj) (ek:bj ks=some kk) (el:kk.length=us.length):Walks T (Et a o (kk.zip us)) (ks.map iY) [] (λ_ G=>G a=some (.aD o (.dT (kk.zip us)))) where
 mono _ l h:=l.ex h rfl
 stop s _ h:=⟨s.sub.ex h rfl,by rw[abe,List.length_map,←jU ek];lia⟩
 go hi s _ h:=⟨s.sub.ex h rfl,by rw[abe];rw[List.length_map,←jU ek] at hi;lia⟩
 yld {st as G H x H' i} hi s _ h y:=by
  let⟨rfl,c,k,v,rfl,e1,e2⟩:=y;rw[List.length_map] at hi;let⟨k',e3,e4⟩:=pG ek (aae hi)
  have e5:k=k':=by
   have:=(List.getElem?_zip_eq_some.mp e1).1;rw[e3] at this;exact(Option.some.inj this).symm
  subst e5;let⟨s2,l2⟩:=s.Iv e2;let⟨f,xs,e6,e7⟩:=Dx e4;refine⟨.tup false xs,_, ?_,l2,s2,c,k.map kV,rfl,(show upd G c (.tup (k.map kV)) c=_ from ak),mB e7⟩;rw[aaP,aae hi,e6];rfl
theorem AX {ks:List Val} {kk:List Key} {us:List L2.V} (a:Addr) (o:Obj) (ek:aI ks=some kk) (el:kk.length=us.length):Walks T (A1 a o (kk.zip us)) (ks.map iY) [] (λ_ G=>G a=some (.aD o (.dK (kk.zip us)))) where
 mono _ l h:=l.ex h rfl
 stop s _ h:=⟨s.sub.ex h rfl,by rw[abe,List.length_map,←jM ek];lia⟩
 go hi s _ h:=⟨s.sub.ex h rfl,by rw[abe];rw[List.length_map,←jM ek] at hi;lia⟩
 yld {st as G H x H' i} hi s _ h y:=by
  let⟨rfl,k,v,rfl,e1⟩:=y;rw[List.length_map] at hi;let⟨k',e3,e4⟩:=oR ek (aae hi)
  have e5:k=k':=by
   have:=(List.getElem?_zip_eq_some.mp e1).1;rw[e3] at this;exact(Option.some.inj this).symm
  subst e5;refine⟨ks[i],G, ?_,Le.refl _,s,rR e4⟩;rw[aaP,aae hi];exact congrArg some (EE e4)
theorem Jj {e:Expr} (hK:T.K=X.K) (he:PE X e (tE T P cl E ie)):L2.PI X tg e (tQ T P cl E (.val ie)):=
 PI.mono (Hg he) λσ H R z903=>by
  let⟨env,st,as,G,s,er,h⟩:=z903;unfold PI.Q.run at h;refine aA s er h λx st1 as1 G1 H1 u s1 er1 r1 p1 l1 h=> ?_;let⟨it,e,h⟩:=ae.dj h;have k:=h.ok s1
  cases x with
  |tup fl xs=>
   cases e;let⟨a,us,rfl,q,r⟩:=r1;exact⟨a,rfl, .inr (.inl ⟨⟨us,cK s1.sub q⟩,hK▸k (B5 T.K false a) _ (jT false a xs []) (.inl ⟨us,qB q,r⟩)⟩)⟩
  |lst xs=>
   cases e;let⟨a,us,rfl,q,r⟩:=r1;exact⟨a,rfl, .inl ⟨⟨us,hK▸gA s1.sub q⟩,hK▸k (B5 T.K true a) _ (jT true a xs []) (.inl ⟨us,q,r⟩)⟩⟩
  |dct ks vs=>
   cases e;let⟨a,us,rfl,q,r⟩:=r1
   rcases q with⟨kk,ek,el,q⟩|⟨kk,ek,el,q⟩
   ·refine⟨a,rfl, .inr (.inr (.inr ⟨_,Rd.le s1.sub q,λo ho=> ?_⟩))⟩;let⟨s2,l2⟩:=s1.F2 q rfl ho;exact h as1 _ _ (aaj _) l2 s2 _ _ (AX a o ek el) ak
   ·refine⟨a,rfl, .inr (.inr (.inl ⟨_,Rd.le s1.sub q,λo ho=> ?_⟩))⟩;let⟨s2,l2⟩:=s1.F2 q rfl ho;exact h as1 _ _ (aaj _) l2 s2 _ _ (Aq a o ek el) ak
  |ref n=>
   let⟨a,ea,rfl⟩:=r1;replace e:iH n st1[n]?=some it:=e
   cases e1:st1[n]? with
   |none=>rw[e1] at e;cases e
   |some o=>
    rw[e1] at e;have ob:=s1.ob n o a e1 ea
    cases o with
    |lst xs=>
     cases e;let⟨us,q,r⟩:=ob;exact⟨a,rfl, .inl ⟨⟨us, .inl (.inl q)⟩,hK▸k (B5 T.K true a) _ (jT true a xs [(n, .lst xs)]) (.inr ⟨rfl,n,by simp,ea⟩)⟩⟩
    |dct ks vs=>cases e
    |ins c ns vs=>cases e
  |_=>cases e
theorem aC.turn {as:List Addr} {G:Hp} {r:F} {k:Env->aa->F} {D:Ends} {src:List Addr->Hp->Prop} (mo:∀{as as' G G'},as<+:as'->Le G G'->src as G->src as' G') (sr:src as G) (h:aC T as G (r.turn k) D E) {N:St->Hp->Prop}
  (hN:∀env st as' G' σ' H',Sim T st as' G' H'->aG T as' G' env σ'->src as' G'->aC T as' G' (k env st) D E->N σ' H'):aC T as G r {D with nx:=N,ct:=N,bk:=D.nx} E:=by
 cases r with
 |next env st=>exact λas' G' H' σ' p l s er=>hN env st as' G' σ' H' s er (mo p l sr) (aC.mono p l h)
 |cont env st=>exact λas' G' H' σ' p l s er=>hN env st as' G' σ' H' s er (mo p l sr) (aC.mono p l h)
 |brk env st=>exact h
 |ret v st=>exact h
 |exc x env st=>exact h
 |stuck=>exact h
open Classical in
theorem IK {t:PI.T} {q:PI.Q} {ib:List PI.S} (fm:Framed X) (hx:cx X) (hc:X.calm=true) (hi:L2.PI (X.af (L4.XE X E)) tg iter (tQ T P cl E q)) (hg:PG (X.af (L4.XE X E)) tg (tG T t)) (hb:cu (X.af (L4.XE X E)) body (gW T P cl E ib)) (hs:∀x,foldedSetIterable iter X.env x=pure x):
  PS (X.af (L4.XE X E)) (.For tg iter body [] pos) (tS T P cl E (.for t q ib)):=
 PS.mono (Fo (L4.JC fm hx) hc hi hg hb hs) λD σ H z903=>by
  let⟨env,st,as,G,s,er,h⟩:=z903;dsimp only[PI.S.run] at h;refine⟨env,st,as,G,s,er, ?_⟩
  cases e1:q.run P cl env st with
  |stuck=>rw[e1] at h;exact h.elim
  |exc x st1=>
   rw[e1] at h;exact λas' G' H' cls dx p l s' x=>h as' G' H' σ cls dx p l s' (er.mono p l) x
  |ok it st1=>
   rw[e1] at h;replace h:aC T as G (forL t (λenv st=>aN P cl ib env st) it.2 it.1 env st1) D E:=h;intro as0 G0 H0 p0 l0 s0 J src wk sr0
   refine⟨λi m σ H=>m=it.1.length-i/\i<=it.1.length/\∃env st as G,Sim T st as G H/\aG T as G env σ/\src as G/\aC T as G (forL t (λenv st=>aN P cl ib env st) it.2 (it.1.drop i) env st) D E,
    ⟨_,rfl,aaV _,env,st1,as0,G0,s0,er.mono p0 l0,sr0,aC.mono p0 l0 h⟩, ?_⟩
   rintro i m σ H ⟨rfl,hi,env,st,as,G,s,er,sr,h⟩
   by_cases hl:i=it.1.length
   ·subst hl;rw[List.drop_length] at h;let⟨kp,h⟩:=aC.iff (show aC T as G (jV (Kept it.2 st) (.next env st)) D E from h);exact .inl ⟨wk.stop s kp sr,h as G H σ (aaj _) (Le.refl _) s er⟩
   ·have li:i<it.1.length:=by lia
    rw[List.drop_eq_getElem_cons li] at h;let⟨kp,h⟩:=aC.iff (show aC T as G (jV (Kept it.2 st) ((F.ao st (t.put it.1[i] env)).bind λenv st=>(aN P cl ib env st).turn λenv st=>forL t (λenv st=>aN P cl ib env st) it.2 (it.1.drop (i+1)) env st)) D E from h)
    refine .inr ⟨wk.go li s kp sr,λσ' H'=>∃env st as G,Sim T st as G H'/\aG T as G env σ'/\src as G/\aC T as G (forL t (λenv st=>aN P cl ib env st) it.2 (it.1.drop (i+1)) env st) D E,
     λσ' H' w=>⟨it.1.length-(i+1),by lia,rfl,by lia,w⟩,λx H' y=> ?_⟩
    let⟨v,G',e2,l,s',rv⟩:=wk.yld li s kp sr y;rw[aae li] at e2;cases e2
    cases e3:t.put it.1[i] env with
    |none=>rw[e3] at h;exact h.elim
    |some env1=>
     rw[e3] at h;replace h:aC T as G ((aN P cl ib env1 st).turn λenv st=>forL t (λenv st=>aN P cl ib env st) it.2 (it.1.drop (i+1)) env st) D E:=h;refine⟨env,st,as,G',_,env1,s',er.mono (aaj _) l,rv,e3,λσ' er'=>⟨env1,st,as,G',s',er', ?_⟩⟩;exact aC.turn wk.mono (wk.mono (aaj _) l sr) (aC.mono (aaj _) l h) λenv st as G σ' H' s er sr h=>⟨env,st,as,G,s,er,sr,h⟩
end
end PI
namespace PI
open PySem L2 L2.L3 L2.L4 PySem.SeqAt
open PyProof.Rows (envOfC)
def fj (T:CT) (P:Pg) (n fi:Nat):Sp:=λvs H Q E=>∃st as G xs,Sim T st as G H/\ag T as G xs vs/\ae T as G (call P n fi xs st) (PV T Q) E
section
variable {T:CT} {P:Pg} {cl:au} {E:XS} {X:Cx} {pos:Pos}
theorem u3 {k:Nat} {f:Addr} {ps:List Str} {sp:Sp} {σ:St} {H:Hp} {s:Shared} {Q:VK} {us:List Value} (F:FnOk X.prog X.w X.K X.mg X.base (dz X.prog X.w) k f fd ps sp) (hr:Room k X.A) (hb:Binds X.K fd ps []) (hx:cx X)
  (I:Inv (X.af (L4.XE X E)) pins σ H s) (r:Vals vs us) (h:sp vs H Q (E σ)):wpAny (model X.prog X.w) X.A (PySem.call (.ref f) us) (EP (X.af (L4.XE X E)) pins σ Q) (L4.XE X E) s:=by
 have hl:(us++[]).length=ps.length:=by rw[abc,←r.length];exact F.len _ _ _ _ h
 have hb':=hb s us I.cB hl;rw[abc] at hb';refine wpAny_call (acN (F.run X.A X.stack s H ⟨us,[]⟩ us vs Q (E σ) hr I.AE hb' r h) λr s' hq=> ?_)
 cases r with
 |error e=>exact L4.yF hx I hq
 |ok fl=>
  cases fl with
  |ret u=>exact I.after hq
  |next=>exact False.elim hq
  |brk=>exact False.elim hq
  |cont=>exact False.elim hq
theorem s_call {k n fi:Nat} {f:Addr} {ps:List Str} {x:Str} {p:Pos} {e:Expr} {es:List Expr} {ies:List PI.E} (F:FnOk X.prog X.w X.K X.mg X.base (dz X.prog X.w) k f fd ps (fj T P n fi)) (hr:Room k X.A) (hb:Binds X.K fd ps []) (hx:cx X) (hg:Gl X x) (hm:X.mg x=some (.ref f)) (hk:PySem.W.keepIn X.K (.ref f)=true)
  (ha:PA (X.af (L4.XE X E)) (e::es) (ft T P (call P n) E ies)) (hdb:(x==("__debug__":Str))=false) (he:starEach (e::es) X.env=(false,eval e X.env)::starEach es X.env) (hpl:(backTo pos (starEach es X.env)).any (·.1)=false):
  PE (X.af (L4.XE X E)) (.Call (.Name x p) (e::es) [] pos) (tE T P (call P n) E (.call fi ies)):=by
 intro pins s σ H Q I ⟨env,st,as,G,sm,er,h⟩;dsimp only[PI.E.run] at h;have h2:=dq (K:=λus H1=>fj T P n fi us H1 Q (E σ)) sm er h λxs st1 as1 G1 H1 us s1 er1 r1 p1 l1 h=>⟨st1,as1,G1,xs,s1,r1,h⟩;refine abm (gg I hg hm ?_ hdb);refine PySem.W.callWith_K (h₀:=X.base) I.ok.mod.kin hk (aw (ha pos pins s σ H _ I h2) λus s1 zq13=> ?_) he hpl;let⟨vs,H1,I1,r,q⟩:=zq13;refine⟨I1.cB, ?_⟩;exact u3 F hr hb hx I1 r q
theorem D8 {k n fi:Nat} {f:Addr} {ps:List Str} {x:Str} {p:Pos} (F:FnOk X.prog X.w X.K X.mg X.base (dz X.prog X.w) k f fd ps (fj T P n fi)) (hr:Room k X.A) (hb:Binds X.K fd ps []) (hx:cx X) (hg:Gl X x) (hm:X.mg x=some (.ref f)) (hk:PySem.W.keepIn X.K (.ref f)=true)
  (hdb:(x==("__debug__":Str))=false):PE (X.af (L4.XE X E)) (.Call (.Name x p) [] [] pos) (tE T P (call P n) E (.call fi [])):=by
 intro pins s σ H Q I ⟨env,st,as,G,sm,er,h⟩;dsimp only[PI.E.run] at h;refine abm (gg I hg hm ?_ hdb);exact PySem.W.callWith_K0 I.cB hk (u3 (us:=[]) F hr hb hx I .nil ⟨st,as,G,[],sm,rfl,h⟩)
end
section
variable {P':Program} {w:World} {K:PySem.W.Frag} {mg:Str->Option Value} {base:Heap} {N:List Str} {qual:Str} {f:Addr}
theorem B0 {x:Str} {st:Stmt} {ps:List Str} {k:Nat} {sp:Sp} (F:Fun K x qual st f fd) (S:FnScope N ps (ay st)) (len:∀vs H Q E,sp vs H Q E->vs.length=ps.length)
  (hbody:∀(cdv:Value) (A:Around) (outer:List PySem.Env) (s:Shared) (H:Hp) (vs:List L2.V) (Q:VK) (E:XK),Room k (A.deeper (envOfC qual (ay st) s.heap.objs.size f cdv))->sp vs H Q E->
   ∃t,cu ((uE P' w K mg base N qual (ay st) f cdv A outer s H E).af (L4.XE (uE P' w K mg base N qual (ay st) f cdv A outer s H E) λ_=>E)) (bB st) t/\t {nx:=λ_ H'=>Q .non H',rt:=Q} (start N vs) H):
  FnOk P' w K mg base (dz P' w) (k+1) f fd ps sp:=by
 let⟨oc,od,kV,doc,pm,an,cdv,ct,osl,rfl,lk,hcd⟩:=F.ex;refine IX lk hcd S len λA outer s H vs Q E hr hsp=> ?_;let⟨t,h,q⟩:=hbody cdv A outer s H vs Q E hr hsp;refine⟨t,λpins s1 σ1 H1 D I hw=> ?_,q⟩;exact aaQ (h pins s1 σ1 H1 D (I.af _) hw) (λ_ _ z=>z.aY) λe s2 z=>L4.DI fmD rfl z
variable {T:CT} {P:Pg}
theorem HE {x:Str} {st:Stmt} {ps:List Str} {k n fi:Nat} {d:Fn} (F:Fun K x qual st f fd) (S:FnScope N ps (ay st)) (hd:(P.fn fi)=some d) (hp:d.np=ps.length) (hn:d.ns=N.length)
  (body:∀(cdv:Value) (A:Around) (outer:List PySem.Env) (s:Shared) (H:Hp) (E:XK),Room k (A.deeper (envOfC qual (ay st) s.heap.objs.size f cdv))->
   cu ((uE P' w K mg base N qual (ay st) f cdv A outer s H E).af (L4.XE (uE P' w K mg base N qual (ay st) f cdv A outer s H E) λ_=>E)) (bB st) (gW T P (call P n) (λ_=>E) d.body)):
  FnOk P' w K mg base (dz P' w) (k+1) f fd ps (fj T P (n+1) fi):=by
 have arity:∀{as G xs st Q X},ae T as G (call P (n+1) fi xs st) Q X->xs.length=d.np/\ae T as G ((aN P (call P n) d.body (xs.map some++List.replicate (d.ns-d.np) none) st).fin P st) Q X:=λ{as G xs st Q X} h=>by
  unfold call at h;rw[hd] at h;exact ae.iff h
 refine B0 F S (λvs H Q E ⟨st,as,G,xs,s,r,h⟩=> ?_) λcdv A outer s H vs Q E hr ⟨st,as,G,xs,sm,r,h⟩=>⟨_,body cdv A outer s H E hr, ?_⟩
 ·rw[←r.length,(arity h).1,hp]
 ·let⟨la,h⟩:=arity h;refine⟨xs.map some++List.replicate (d.ns-d.np) none,st,as,G,sm, ?_, ?_⟩
  ·have lv:vs.length=xs.length:=r.length.symm;refine⟨by simp[L2.start,lv,la,hn],λi v e=> ?_⟩
   by_cases hi:i<xs.length
   ·rw[aar (by simpa using hi),aaP] at e;let⟨v',e1,e2⟩:=aab.mp e;cases e2;let⟨u,e3,hr⟩:=r.get e1;refine⟨u, ?_,hr⟩;unfold L2.start;rw[aar (by simpa[lv] using hi),aaP,e3];rfl
   ·rw[aam (by simpa using hi),abU] at e;split at e<;>cases e
  ·cases e1:aN P (call P n) d.body (xs.map some++List.replicate (d.ns-d.np) none) st with
   |next env st'=>
    rw[e1] at h;exact λas' G' H' σ' p l s' er=>qZ (v:= .non) (u:= .non) sm s' p l rfl h
   |ret v st'=>
    rw[e1] at h;exact λas' G' H' u p l s' rv=>qZ sm s' p l rv h
   |exc x env st'=>
    rw[e1] at h;exact λas' G' H' σ' cls dx p l s' er ex=>DB sm s' p l ex h
   |brk env st'=>rw[e1] at h;exact h.elim
   |cont env st'=>rw[e1] at h;exact h.elim
   |stuck=>rw[e1] at h;exact h.elim
end
end PI
namespace PI
open PySem L2 L2.L3 L2.L4 PySem.SeqAt
mutual
theorem oX {n:Nat}:∀{t:PI.T} {v:Val} {env env':Env},t.low n=true->t.put v env=some env'->env'.length=env.length/\∀(i:Nat),n<=i->env'[i]?=env[i]?
 | .var k,v,env,env',l,e=>by
  unfold PI.T.put at e;unfold PI.T.low at l;split at e
  ·cases e;refine⟨by simp,λi hi=> ?_⟩;have:=ac3 l;rw[abq (by lia)]
  ·cases e
 | .tup ts,v,env,env',l,e=>by
  unfold PI.T.low at l
  cases v with
  |tup fl xs=>exact mD l (show bQ xs env ts=some env' by unfold PI.T.put at e;exact e)
  |_=>(unfold PI.T.put at e;cases e)
theorem mD {n:Nat}:∀{ts:List PI.T} {vs:List Val} {env env':Env},lows n ts=true->bQ vs env ts=some env'->env'.length=env.length/\∀(i:Nat),n<=i->env'[i]?=env[i]?
 |[],[],_,_,_,e=>by
  cases e;exact⟨rfl,λ_ _=>rfl⟩
 |[],_::_,_,_,_,e=>by cases e
 |_::_,[],_,_,_,e=>by cases e
 |t::ts,v::vs,env,env',l,e=>by
  replace e:(t.put v env).bind (λenv=>bQ vs env ts)=some env':=by unfold bQ at e;exact e
  unfold lows at l;rw[aag] at l
  cases e1:t.put v env with
  |none=>rw[e1] at e;cases e
  |some env1=>
   rw[e1] at e;let⟨a1,a2⟩:=oX l.1 e1;let⟨b1,b2⟩:=mD l.2 (show bQ vs env1 ts=some env' from e);exact⟨b1.trans a1,λi hi=>(b2 i hi).trans (a2 i hi)⟩
end
theorem DK {T:CT} {G:Hp} {env:Env} {σ:St} (ws:List Str) (caps:List Nat) (h:aG T as G env σ):aG T as G (av ws.length caps env) (stC ws caps σ):=by
 refine⟨by simp[av,stC],λi v e=> ?_⟩;unfold av at e
 by_cases hi:i<ws.length
 ·rw[aar (by simpa using hi),abU,if_pos hi] at e;cases e
 ·rw[aam (by simpa using hi),aaP] at e;let⟨c,e1,e2⟩:=aab.mp e
  have e3:env[c]?=some (some v):=by
   cases q:env[c]? with
   |none=>rw[q] at e2;cases e2
   |some o=>rw[q] at e2;exact congrArg some e2
  let⟨u,e4,r⟩:=h.2 c v e3;refine⟨u, ?_,r⟩;unfold stC;rw[aam (by simpa using hi),aaP];rw[show i-(ws.map λ_=>(none:Option L2.V)).length=i-(List.replicate ws.length (none:Option Val)).length by simp,e1];simp[e4]
theorem rg {T:CT} {G:Hp} {env env1:Env} {σ:St} {n:Nat} {caps:List Nat} {t:PI.T} {v:Val} (l:t.low n=true) (e:t.put v (av n caps env)=some env1) (h:aG T as G env1 σ):aG T as G (av n caps env) σ:=by
 let⟨a1,a2⟩:=oX l e;refine⟨by rw[←a1];exact h.1,λi w ew=> ?_⟩
 by_cases hi:i<n
 ·unfold av at ew;rw[aar (by simpa using hi),abU,if_pos hi] at ew;cases ew
 ·exact h.2 i w (by rw[a2 i (by lia)];exact ew)
section
variable {T:CT} {P:Pg} {cl:au} {E:XS} {X:Cx} {pos:Pos}
theorem Kc {e:Expr} (he:PE X e (tE T P cl E ie)):PE X e (tE T P cl E (.fz ie)):=
 PE.mono he λσ H Q z903=>by
  let⟨env,st,as,G,s,er,h⟩:=z903;dsimp only[PI.E.run] at h;refine⟨env,st,as,G,s,er, ?_⟩
  cases e1:ie.run P cl env st with
  |stuck=>rw[e1] at h;exact h.elim
  |exc x st1=>rw[e1] at h;exact h
  |ok v st1=>
   rw[e1] at h;intro as1 G1 H1 p l s1 u r;let⟨v2,st2,as2,G2,s2,r2,q⟩:=IU s s1 p l r h;exact q u r2
def tO (T:CT) (P:Pg) (cl:au) (E:XS) (c:Option PI.E):TT:=λσ H Q=>∃env st as G,Sim T st as G H/\aG T as G env σ/\ae T as G (runC P cl c env st) (λb _ _ _ H'=>Q b H') (E σ)
theorem Gq:kN X [] (tO T P cl E none):=λpins s σ H Q I z906=>by let⟨env,st,as,G,sm,er,h⟩:=z906;exact Es pins s σ H Q I (h.ok sm)
theorem F7 {c:Expr} (hc:PT X c (tT T P cl E ic)):kN X [c] (tO T P cl E (some ic)):=CH hc
open Classical in
theorem oW {σ0:St} {ws:List Str} {caps:List Nat} {t:PI.T} {c:Option PI.E} {ie:PI.E} {it:List Val×List (Nat×Ob)} {env:Env} {st:aa} {as:List Addr} {G H:Hp} {Q:Val->aa->List Addr->Hp->Hp->Prop} {Z:List L2.V->Hp->Prop} {J:It} {src:List Addr->Hp->Prop}
  (s:Sim T st as G H) (er:aG T as G env σ0) (wk:Walks T J it.1 it.2 src) (sr:src as G) (low:t.low ws.length=true) (len:it.1.length<=10000)
  (h:ae T as G ((aB (λv st=>aO (t.put v (av ws.length caps env)) (runC P cl c) (ie.run P cl) st) it.2 it.1 st).bind λxs st=>new (.lst xs) st) Q (E σ0))
  (hZ:∀xs ys st as' G' H',as<+:as'->Le G G'->Sim T st as' G' H'->ag T as' G' xs ys->ae T as' G' (new (.lst xs) st) Q (E σ0)->Z ys H'):
  L3.runC (tG T t) (tO T P cl (λ_=>E σ0) c) (tE T P cl (λ_=>E σ0) ie) J (stC ws caps σ0) H Z:=by
 have sz:sizeLine=2^24:=rfl
 refine⟨λi m ys σ H=>m=it.1.length-i/\i<=it.1.length/\∃st as1 G1 xs,as<+:as1/\Le G G1/\Sim T st as1 G1 H/\aG T as1 G1 (av ws.length caps env) σ/\src as1 G1/\ag T as1 G1 xs ys/\xs.length<=i/\
   ae T as1 G1 ((aB (λv st=>aO (t.put v (av ws.length caps env)) (runC P cl c) (ie.run P cl) st) it.2 (it.1.drop i) st).bind λr st=>new (.lst (xs++r)) st) Q (E σ0),
  ⟨_,rfl,aaV _,st,as,G,[],aaj _,Le.refl _,s,DK ws caps er,sr,rfl,aah _,h⟩, ?_⟩
 rintro i m ys σ H ⟨rfl,hi,st,as1,G1,xs,p1,l1,s,er,sr,rx,lx,h⟩
 by_cases hl:i=it.1.length
 ·subst hl;rw[List.drop_length] at h
  let⟨kp,h⟩:=ae.iff (show ae T as1 G1 (iff (Kept it.2 st) (new (.lst (xs++[])) st)) Q (E σ0) by
   by_cases z:Kept it.2 st
   ·rw[bL z];have:aB (λv st=>aO (t.put v (av ws.length caps env)) (runC P cl c) (ie.run P cl) st) it.2 [] st= .ok [] st:=bL z;rw[this] at h;exact h
   ·have:aB (λv st=>aO (t.put v (av ws.length caps env)) (runC P cl c) (ie.run P cl) st) it.2 [] st= .stuck:=if_neg z;rw[this] at h
    exact h.elim)
  rw[abc] at h;exact .inl ⟨wk.stop s kp sr,hZ xs ys st as1 G1 H p1 l1 s rx h⟩
 ·have li:i<it.1.length:=by lia
  rw[List.drop_eq_getElem_cons li] at h
  have ⟨kp,h⟩:Kept it.2 st/\ae T as1 G1 ((aO (t.put it.1[i] (av ws.length caps env)) (runC P cl c) (ie.run P cl) st).bind λo st=>(aB (λv st=>aO (t.put v (av ws.length caps env)) (runC P cl c) (ie.run P cl) st) it.2 (it.1.drop (i+1)) st).bind λr st=>new (.lst (xs++fb o r)) st) Q (E σ0):=by
   by_cases z:Kept it.2 st
   ·refine⟨z, ?_⟩;have:aB (λv st=>aO (t.put v (av ws.length caps env)) (runC P cl c) (ie.run P cl) st) it.2 (it.1[i]::it.1.drop (i+1)) st=(aO (t.put it.1[i] (av ws.length caps env)) (runC P cl c) (ie.run P cl) st).bind λo st=>(aB (λv st=>aO (t.put v (av ws.length caps env)) (runC P cl c) (ie.run P cl) st) it.2 (it.1.drop (i+1)) st).bind λr st=> .ok (fb o r) st:=bL z;rw[this,R.bind_assoc] at h;simpa only[R.bind_assoc,R.iG] using h
   ·have:aB (λv st=>aO (t.put v (av ws.length caps env)) (runC P cl c) (ie.run P cl) st) it.2 (it.1[i]::it.1.drop (i+1)) st= .stuck:=if_neg z;rw[this] at h;exact h.elim
  refine .inr ⟨wk.go li s kp sr,λys' σ' H'=>∃st as1 G1 xs,as<+:as1/\Le G G1/\Sim T st as1 G1 H'/\aG T as1 G1 (av ws.length caps env) σ'/\src as1 G1/\ag T as1 G1 xs ys'/\xs.length<=i+1/\
    ae T as1 G1 ((aB (λv st=>aO (t.put v (av ws.length caps env)) (runC P cl c) (ie.run P cl) st) it.2 (it.1.drop (i+1)) st).bind λr st=>new (.lst (xs++r)) st) Q (E σ0),
   λys' σ' H' w=>⟨it.1.length-(i+1),by lia,rfl,by lia,w⟩,λx H2 y=> ?_⟩
  let⟨v,G2,e2,l2,s2,rv⟩:=wk.yld li s kp sr y;rw[aae li] at e2;cases e2;unfold aO at h;rw[R.bind_assoc] at h;let⟨env1,e3,h⟩:=ae.ao h;refine⟨av ws.length caps env,st,as1,G2,_,env1,s2,er.mono (aaj _) l2,rv,e3,λσ3 er3=> ?_⟩;rw[R.bind_assoc] at h;refine⟨env1,st,as1,G2,s2,er3,(ae.mono (aaj _) l2 h).bind.imp λb st4 as4 G4 H4 p4 l4 s4 h=> ?_⟩
  cases b with
  |false=>exact lN ⟨st4,as4,G4,xs,p1.trans p4,l1.trans (l2.trans l4),s4,rg low e3 (er3.mono p4 l4),wk.mono p4 (l2.trans l4) sr,rx.mono p4 (l2.trans l4),by lia,h⟩
  |true=>
   refine lU ?_;replace h:ae T as4 G4 (((ie.run P cl env1 st4).bind λx st=> .ok (some x) st).bind λo st=>(aB (λv st=>aO (t.put v (av ws.length caps env)) (runC P cl c) (ie.run P cl) st) it.2 (it.1.drop (i+1)) st).bind λr st=>new (.lst (xs++fb o r)) st) Q (E σ0):=h;rw[R.bind_assoc] at h;refine aA (E:=λ_=>E σ0) (σ:=σ3) s4 (er3.mono p4 l4) h λx st5 as5 G5 H5 u s5 er5 r5 p5 l5 h=> ?_;refine⟨by rw[←rx.length];lia,st5,as5,G5,xs++[x],p1.trans (p4.trans p5),l1.trans (l2.trans (l4.trans l5)),s5,rg low e3 er5,wk.mono (p4.trans p5) (l2.trans (l4.trans l5)) sr,ag.append (rx.mono (p4.trans p5) (l2.trans (l4.trans l5))) ⟨u,[],rfl,r5,rfl⟩,by simp;lia, ?_⟩;simpa[fb] using h
theorem FX {ws:List Str} {caps:List Nat} {sc:Scope} {t:PI.T} {q:PI.Q} {c:Option PI.E} (fm:Framed X) (hx:cx X) (B:BlockOkC X.env.scope sc) (hc:X.calm=true) (hcap:∀k∈caps,sc.names.lookup (X.N.getD k Str.empty)=some .free) (hi:L2.PI (X.af (L4.XE X E)) tg iter (tQ T P cl E q))
  (hg:∀σ own C fp pn s H,(∀b∈fp,∃o,(b,o)∈pn)->PG (L4.cX X (λ_=>E σ) own ws caps sc C fp pn s H) tg (tG T t)) (ht:∀σ own C fp pn s H,(∀b∈fp,∃o,(b,o)∈pn)->kN (L4.cX X (λ_=>E σ) own ws caps sc C fp pn s H) ifs (tO T P cl (λ_=>E σ) c))
  (he:∀σ own C fp pn s H,(∀b∈fp,∃o,(b,o)∈pn)->PE (L4.cX X (λ_=>E σ) own ws caps sc C fp pn s H) elt (tE T P cl (λ_=>E σ) ie)) (hs:∀x,foldedSetIterable iter X.env x=pure x):
  PE (X.af (L4.XE X E)) (.ListComp elt [⟨tg,iter,ifs,0⟩] sc pos) (tE T P cl E (.comp ws.length caps t q c ie)):=
 PE.mono (L4.zG fm hx B hc hcap hi hg ht he hs) λσ H Q z903=>by
  let⟨env,st,as,G,s,er,h⟩:=z903;dsimp only[PI.E.run] at h;refine⟨env,st,as,G,s,er,h.bind.imp λit st1 as1 G1 H1 p l s1 h J src wk sr=> ?_⟩;let⟨⟨low,len⟩,h⟩:=ae.iff h;exact oW s1 (er.mono p l) wk sr low len h λxs ys st as' G' H' p' l' s' r h D hD=>fZ s' r h hD
theorem FR {i:Nat} {y:Str} {ws:List Str} {caps:List Nat} {sc:Scope} {t:PI.T} {q:PI.Q} {c:Option PI.E} (fm:Framed X) (hx:cx X) (B:BlockOkC X.env.scope sc) (hc:X.calm=true) (hcap:∀k∈caps,sc.names.lookup (X.N.getD k Str.empty)=some .free) (hN:X.N.Nodup) (hy:X.N[i]?=some y) (hl:X.env.scope.names.lookup y=some .local) (hi:L2.PI (X.af (L4.XE X E)) tg iter (tQ T P cl E q))
  (hg:∀σ own C fp pn s H,(∀b∈fp,∃o,(b,o)∈pn)->PG (L4.cX X (λ_=>E σ) own ws caps sc C fp pn s H) tg (tG T t)) (ht:∀σ own C fp pn s H,(∀b∈fp,∃o,(b,o)∈pn)->kN (L4.cX X (λ_=>E σ) own ws caps sc C fp pn s H) ifs (tO T P cl (λ_=>E σ) c))
  (he:∀σ own C fp pn s H,(∀b∈fp,∃o,(b,o)∈pn)->PE (L4.cX X (λ_=>E σ) own ws caps sc C fp pn s H) elt (tE T P cl (λ_=>E σ) ie)) (hsw:swapsWith (.ListComp elt [⟨tg,iter,ifs,0⟩] sc cpos) (some (.Name y py)) pos.line X.env=pure true) (hs:∀x,foldedSetIterable iter X.env x=pure x):
  PS (X.af (L4.XE X E)) (.Assign [.Name y py] (.ListComp elt [⟨tg,iter,ifs,0⟩] sc cpos) pos) (tS T P cl E (.set (.var i) (.comp ws.length caps t q c ie))):=
 PS.mono (L4.zW fm hx B hc hcap hN hy hl hi hg ht he hsw hs) λD σ H z903=>by
  let⟨env,st,as,G,s,er,h⟩:=z903;dsimp only[PI.S.run,PI.E.run] at h;refine⟨env,st,as,G,s,er, ?_⟩
  cases e1:q.run P cl env st with
  |stuck=>rw[e1] at h;exact h.elim
  |exc x st1=>
   rw[e1] at h;exact λas' G' H' cls dx p l s' x=>h as' G' H' σ cls dx p l s' (er.mono p l) x
  |ok it st1=>
   rw[e1] at h;intro as1 G1 H1 p1 l1 s1 J src wk sr
   have h2:ae T as G (iff (t.low ws.length=true/\it.1.length<=10000) ((aB (λv st=>aO (t.put v (av ws.length caps env)) (runC P cl c) (ie.run P cl) st) it.2 it.1 st1).bind λxs st=>new (.lst xs) st)) (λv st as' G' H'=>∀u,Rel T as' G' v u->∀σ',aG T as' G' (env.set i (some v)) σ'->D.nx σ' H') (E σ):=by
    replace h:aC T as G (F.of env (iff (t.low ws.length=true/\it.1.length<=10000) ((aB (λv st=>aO (t.put v (av ws.length caps env)) (runC P cl c) (ie.run P cl) st) it.2 it.1 st1).bind λxs st=>new (.lst xs) st)) λx st=>F.ao st ((PI.T.var i).put x env)) D E:=h;generalize iff (t.low ws.length=true/\it.1.length<=10000) ((aB (λv st=>aO (t.put v (av ws.length caps env)) (runC P cl c) (ie.run P cl) st) it.2 it.1 st1).bind λxs st=>new (.lst xs) st)=r at h⊢
    cases r with
    |stuck=>exact h
    |exc x st=>exact λas' G' H' cls dx p l s' x=>h as' G' H' σ cls dx p l s' (er.mono p l) x
    |ok v st=>
     intro as' G' H' p l s' u ru σ' er';replace h:aC T as G (F.ao st ((PI.T.var i).put v env)) D E:=h;unfold PI.T.put at h;split at h
     ·exact h as' G' H' σ' p l s' er'
     ·exact h.elim
   let⟨⟨low,len⟩,h3⟩:=ae.iff h2;refine oW s1 (er.mono p1 l1) wk sr low len (ae.mono p1 l1 h3) λxs ys st as' G' H' p' l' s' r h D' hD=> ?_;have h4:=h (as'++[D']) G' _ (aax _ _) (Le.refl _) (s'.push hD ⟨ys,ak,r.mono (aax _ _) (Le.refl _)⟩) (.ref D');have rn:Rel T (as'++[D']) G' (.ref st.length) (.ref D'):=⟨D',by rw[←s'.len,aam (aah _)];simp,rfl⟩;exact h4 rn _ ((er.mono (p1.trans (p'.trans (aax _ _))) (l1.trans l')).set i rn)
end
theorem kA:∀(n:Nat) (lo:Int),(bu lo n).length=n
 |0,_=>rfl
 |n+1,lo=>by
  unfold bu;rw[aaw,kA n]
theorem uR:∀(n:Nat) (lo:Int) (i:Nat),i<n->(bu lo n)[i]?=some (.int (lo+i))
 |0,_,_,h=>by lia
 |n+1,lo,0,_=>by
  unfold bu;simp
 |n+1,lo,i+1,h=>by
  unfold bu;rw[abX,uR n (lo+1) i (by lia)];congr 2
  push_cast
  lia
section
variable {T:CT} {P:Pg} {cl:au} {E:XS} {X:Cx} {pos:Pos}
theorem yz (lo:Int) (n:Nat):Walks T (Ca lo n) (bu lo n) [] (λ_ _=>True) where
 mono _ _ h:=h
 stop _ _ _:=by rw[kA];exact aah n
 go hi _ _ _:=by rw[kA] at hi;exact hi
 yld hi s _ _ y:=by
  rw[kA] at hi;let⟨rfl,rfl⟩:=y;exact⟨_,_,uR n lo _ hi,Le.refl _,s,rfl⟩
theorem Ek {α:Type} {e:PI.E} {env:Env} {st:aa} {G H:Hp} {σ:St} {f:Val->aa->R α} {Q:α->aa->List Addr->Hp->Hp->Prop} {K:List L2.V->Hp->Prop} (s:Sim T st as G H) (er:aG T as G env σ)
  (h:ae T as G ((e.run P cl env st).bind f) Q (E σ))
  (k:∀v st1 as1 G1 H1 u,Sim T st1 as1 G1 H1->aG T as1 G1 env σ->Rel T as1 G1 v u->ae T as1 G1 (f v st1) Q (E σ)->K [u] H1):ft T P cl E [e] σ H K:=by
 refine⟨env,st,as,G,s,er, ?_⟩;unfold aM
 cases e1:e.run P cl env st with
 |stuck=>rw[e1] at h;exact h.elim
 |exc x st1=>rw[e1] at h;exact h
 |ok v st1=>
  rw[e1] at h;intro as1 G1 H1 p l s1 us r;let⟨u,t,rfl,r1,r2⟩:=r;cases r2;exact k v st1 as1 G1 H1 u s1 (er.mono p l) r1 (ae.mono p l h)
theorem Eh {α:Type} {e e':PI.E} {env:Env} {st:aa} {G H:Hp} {σ:St} {f:Val->Val->aa->R α} {Q:α->aa->List Addr->Hp->Hp->Prop} {K:List L2.V->Hp->Prop} (s:Sim T st as G H) (er:aG T as G env σ)
  (h:ae T as G ((e.run P cl env st).bind λx st=>(e'.run P cl env st).bind λy st=>f x y st) Q (E σ))
  (k:∀v v' st1 as1 G1 H1 u u',Sim T st1 as1 G1 H1->aG T as1 G1 env σ->Rel T as1 G1 v u->Rel T as1 G1 v' u'->ae T as1 G1 (f v v' st1) Q (E σ)->K [u,u'] H1):ft T P cl E [e,e'] σ H K:=by
 refine⟨env,st,as,G,s,er, ?_⟩;unfold aM aM
 cases e1:e.run P cl env st with
 |stuck=>rw[e1] at h;exact h.elim
 |exc x st1=>rw[e1] at h;exact h
 |ok v st1=>
  rw[e1] at h;replace h:ae T as G ((e'.run P cl env st1).bind λy st=>f v y st) Q (E σ):=h;rw[R.iG]
  cases e2:e'.run P cl env st1 with
  |stuck=>rw[e2] at h;exact h.elim
  |exc x st1=>rw[e2] at h;exact h
  |ok v' st2=>
   rw[e2] at h;intro as1 G1 H1 p l s1 us r;let⟨u,t,rfl,r1,u',t',rfl,r2,r3⟩:=r;cases r3;exact k v v' st2 as1 G1 H1 u u' s1 (er.mono p l) r1 r2 (ae.mono p l h)
theorem Hn {a:Expr} {p:Pos} (hg:Gl X "range") (hm:X.mg "range"=none) (ha:PA X [a] (ft T P cl E [ia])) (hs:starEach [a] X.env=[(false,eval a X.env)]):L2.PI X tg (.Call (.Name "range" p) [a] [] pos) (tQ T P cl E (.rng1 ia)):=
 PI.mono (yw hg hm ha hs) λσ H R z903=>by
  let⟨env,st,as,G,s,er,h⟩:=z903;unfold PI.Q.run at h;refine Ek s er h λx st1 as1 G1 H1 u s1 er1 r1 h=> ?_
  cases x with
  |int n=>
   cases r1;let⟨c,h⟩:=ae.iff h;exact⟨n,rfl,by lia,by lia,h.ok s1 _ _ (yz 0 n.toNat) trivial⟩
  |_=>exact h.elim
def Em (C:Addr) (E:XS) (t:TA):TS:=λ_ σ H=>t σ H λvs H1=>vs.length<=sizeLine/\E σ (.ref C) none H1
theorem wY {C:Addr} {x:Str} {e:Expr} {es:List Expr} {t:TA} (hx:cx X) (hc:X.calm=true) (hg:Gl X x) (hm:X.mg x=some (.ref C)) (hq:PySem.W.excIn X.K C uT "ValueError.__new__"=true) (ha:PA (X.af (L4.XE X E)) (e::es) t) (hdb:(x==("__debug__":Str))=false:=by decide)
  (he:starEach (e::es) X.env=(false,eval e X.env)::starEach es X.env:=by rfl) (hpl:(backTo cpos (starEach es X.env)).any (·.1)=false:=by rfl):
  PS (X.af (L4.XE X E)) (.Raise (some (.Call (.Name x np) (e::es) [] cpos)) none pos) (Em C E t):=by
 intro pins s σ H D I h;let⟨bm,N,nm,qn,bs,hdct,sn,sub,ab,col,dd,k0,k1,k2,k3,k5,mN,hC,hN,hni,T⟩:=DR I.mod.kin hq;have up:∀{s2:Shared} {σ2:St} {H2:Hp} {p2:List (Addr×Obj)},Inv (X.af (L4.XE X E)) p2 σ2 H2 s2->∀b o,X.base.get? b=some o->s2.heap.get? b=some o:=λI2 b o e=>I2.bk b o e
 refine wpAny_Raise_call_subT (C:=C) (N:=N) (nm:=nm) (q:=qn) (bs:=bs) (bm:=bm) (hdct:=hdct) (sn:=sn) (sub:=sub) (ab:=ab) (col:=col) (dd:=dd) (k0:=k0) (k1:=k1) (k2:=k2) (k3:=k3) (k5:=k5)
  PySem.F.excBase_ValueError (mN:=mN) (T.hasType PySem.F.excBase_ValueError.hasBase) (I.ok.hd hc) (by rw[show (X.af (L4.XE X E)).env=X.env from rfl,he];show (false||(backTo cpos (starEach es X.env)).any (·.1))=false;rw[hpl];rfl) hni (gg I hg hm ⟨rfl, ?_⟩ hdb)
 have hA:=ha cpos pins s σ H _ I h;rw[show (X.af (L4.XE X E)).env=X.env from rfl,he] at hA⊢;refine acd (aw hA λus s2 z902=> ?_);let⟨vs,H2,I2,r2,hz,q2⟩:=z902;have U:=up I2;refine⟨rfl,by rw[←r2.length];exact hz,U _ _ hC,hN.keeps U,T.keeps U,λh' ea mk=> ?_⟩;let⟨tt,m1,m2,m3⟩:=mk.there;let⟨n1,n2,n3⟩:=jK (X:=X.af (L4.XE X E)) hx I2 mk.new;have I3:Inv (X.af (L4.XE X E)) pins σ H2 {s2 with heap:=h'}:=I2.kept (t':=s2.toks) mk.keeps;refine⟨σ,H2,ea, .ref C,none,none,rfl,(I3.aY.af λ_ _=>False).cI λp hp=>absurd hp (by simp),⟨_,_,m1,rfl,rfl,rfl,by simp,by simp⟩,⟨n1,n2,n3⟩,λp hp=>(by cases hp),trivial,q2⟩
theorem CW {C:Addr} {c:Nat} {k:Cl} {x:Str} {e:Expr} {es:List Expr} {ies:List PI.E} (hk:(P.cl c)=some k) (hi:k.init=none) (hC:T.ca c=C) (hX:T.xc c=true) (hl:ies.length<=100) (hx:cx X) (hc:X.calm=true) (hg:Gl X x) (hm:X.mg x=some (.ref C)) (hq:PySem.W.excIn X.K C uT "ValueError.__new__"=true) (ha:PA (X.af (L4.XE X E)) (e::es) (ft T P cl E ies)) (hdb:(x==("__debug__":Str))=false)
  (he:starEach (e::es) X.env=(false,eval e X.env)::starEach es X.env) (hpl:(backTo cpos (starEach es X.env)).any (·.1)=false):PS (X.af (L4.XE X E)) (.Raise (some (.Call (.Name x np) (e::es) [] cpos)) none pos) (tS T P cl E (.raise c ies)):=
 PS.mono (wY hx hc hg hm hq ha hdb he hpl) λD σ H z903=>by
  let⟨env,st,as,G,s,er,h⟩:=z903;dsimp only[PI.S.run] at h;rw[hk] at h;simp only[ach,hi] at h;refine⟨env,st,as,G,s,er, ?_⟩;have sz:sizeLine=2^24:=rfl
  have len:∀(ies:List PI.E) st xs st',aM P cl ies env st= .ok xs st'->xs.length=ies.length:=by
   intro ies
   induction ies with
   |nil=>intro st xs st' e;cases e;rfl
   |cons i ies ih=>
    intro st xs st' e;unfold aM at e
    cases e1:i.run P cl env st with
    |stuck=>rw[e1] at e;cases e
    |exc x st1=>rw[e1] at e;cases e
    |ok v st1=>
     rw[e1,R.iG] at e
     cases e2:aM P cl ies env st1 with
     |stuck=>rw[e2] at e;cases e
     |exc x st2=>rw[e2] at e;cases e
     |ok vs st2=>rw[e2] at e;cases e;simp[ih _ _ _ e2]
  cases e1:aM P cl ies env st with
  |stuck=>rw[e1] at h;exact h.elim
  |exc x st1=>
   rw[e1] at h;exact λas' G' H' cls dx p l s' x=>h as' G' H' σ cls dx p l s' (er.mono p l) x
  |ok xs st1=>
   rw[e1] at h;intro as' G' H' p l s' us r;refine⟨by rw[←r.length,len _ _ _ _ e1];lia, ?_⟩;exact h as' G' H' σ _ _ p l s' (er.mono p l) ⟨by rw[hC],hX, .inl ⟨rfl,rfl,rfl⟩⟩
theorem r8 {st:aa} {G H:Hp} {k:Nat} {u:L2.V} (s:Sim T st as G H) (r:Rel T as G (.ref k) u) (e:st[k]?=some (.lst ys)):∃a us,u= .ref a/\as[k]?=some a/\H a=some (.lst us)/\ag T as G ys us:=by
 let⟨a,ea,rfl⟩:=r;let⟨us,q,r⟩:=s.ob k _ a e ea;exact⟨a,us,rfl,ea,q,r⟩
def zm (T:CT) (m:Bm):L2.V->List L2.V->Hp->VK->Prop:=λu ws H Q=>∃st as G x xs Z,Sim T st as G H/\Rel T as G x u/\ag T as G xs ws/\ae T as G (kJ m x xs st) (PV T Q) Z
theorem Kg {e:Expr} {es:List Expr} {ies:List PI.E} {m:Bm} {name:Str} {apos:Pos} {id:String} (hd:cV m=false) (hK:T.K=X.K) (slot:Slot "list" name id) (hty:typeOf (.builtin id)=pure (.type "method_descriptor")) (hm:qx X id (zm T m)) (ho:PE X o (tE T P cl E io)) (ha:PA X (e::es) (ft T P cl E ies))
  (hbase:attributeBase o name X.env (eval o X.env)=eval o X.env)
  (hfew:((backTo pos (starEach (e::es) X.env)).all (λx=> !x.1)&&(backToKw pos (keywordEach [] X.env)).all (λx=>x.1.isSome)&&decide ((e::es).length+([]:List Keyword).length+(if ([]:List Keyword).isEmpty then 0 else 1)<30))=true)
  (hline:(apos.endLine==pos.line)=true) (hs:starEach (e::es) X.env=(false,eval e X.env)::starEach es X.env) (hplain:(backTo pos (starEach es X.env)).any (·.1)=false):
  PE X (.Call (.Attribute o name apos) (e::es) [] pos) (tE T P cl E (.bm m io ies)):=
 PE.mono (Iq PySem.F.plainAttrs_list slot hty hm ho ha hbase hfew hline hs hplain) λσ H Q z903=>by
  let⟨env,st,as,G,s,er,h⟩:=z903;dsimp only[PI.E.run] at h;refine aA s er h λx st1 as1 G1 H1 u s1 er1 r1 p1 l1 h=> ?_;let⟨c,h⟩:=ae.iff h;refine⟨?_,dq s1 er1 h λxs st2 as2 G2 H2 us s2 er2 r2 p2 l2 h=>⟨st2,as2,G2,x,xs,_,s2,r1.mono p2 l2,r2,h⟩⟩;have r3:=bc s1 r1;generalize res st1 x=y at c r3
  cases y with
  |lst xs=>
   let⟨a,us,rfl,q,_⟩:=r3;exact .inl ⟨rfl,us,hK▸q⟩
  |dct ks vs=>
   replace c:cV m=true:=c;rw[hd] at c;cases c
  |_=>cases c
theorem xm {m:Bm} {x:Val} {st:aa} {G:Hp} {Q:Val->aa->List Addr->Hp->Hp->Prop} {Z:XK} (hd:m≠ .get) (h:ae T as G (kJ m x xs st) Q Z):∃k ys,x= .ref k/\st[k]?=some (.lst ys)/\ae T as G (pq m k xs st (some (.lst ys))) Q Z:=by
 cases x with
 |ref k=>
  have e:kJ m (.ref k) xs st=pq m k xs st st[k]?:=by cases m<;>first|rfl|exact absurd rfl hd
  rw[e] at h
  cases e2:st[k]? with
  |none=>rw[e2] at h;exact h.elim
  |some o=>
   rw[e2] at h
   cases o with
   |lst ys=>exact⟨k,ys,rfl,e2,h⟩
   |dct ks vs=>exact h.elim
   |ins c ns vs=>exact h.elim
 |_=>
  exfalso
  cases m<;>first|exact absurd rfl hd|exact h
theorem tX {st:aa} {G H:Hp} {k:Nat} {a:Addr} {v:Val} {u:L2.V} {Q:VK} {Z:XK} (s:Sim T st as G H) (ea:as[k]?=some a) (r:ag T as G ys us) (rv:Rel T as G v u) (h:ae T as G (.ok v (st.set k (.lst ys))) (PV T Q) Z):Q u (upd H a (.lst us)):=
 h as G _ (aaj _) (Le.refl _) (s.set ea ⟨us,ak,r⟩) u rv
theorem As:qx X "list.append" (zm T .append):=λpins s0 σ H u ws v vs Q I ru rw' z912=>by
 let⟨st,as,G,x,xs,Z,s,r1,r2,h⟩:=z912;let⟨k,ys,rfl,e,h⟩:=xm (λz=>by cases z) h;let⟨a,us,rfl,ea,q,r⟩:=r8 s r1 e
 match xs,r2,h with
 |[y],⟨w,t,z,r3,r4⟩,h=>
  subst z;cases r4;let⟨c,h⟩:=ae.iff h;have sz:sizeLine=2^24:=rfl;exact pV pins s0 σ H _ _ v vs Q I ru rw' ⟨a,us,w,rfl,rfl,q,by rw[←r.length];lia,tX (v:= .non) s ea (ag.append r (show ag T as G [y] [w] from ⟨w,[],rfl,r3,rfl⟩)) rfl h⟩
 |[],_,h=>exact h.elim
 |_::_::_,_,h=>exact h.elim
theorem Eu {k:Nat} {x y:Val} {st:aa} {G:Hp} {Q:Val->aa->List Addr->Hp->Hp->Prop} {Z:XK} (h:ae T as G (pq .extend k (x::y::r) st (some (.lst ys))) Q Z):False:=by
 cases x<;>exact h
theorem Ag:qx X "list.extend" (zm T .extend):=λpins s0 σ H u ws v vs Q I ru rw' z912=>by
 let⟨st,as,G,x,xs,Z,s,r1,r2,h⟩:=z912;let⟨k,ys,rfl,e,h⟩:=xm (λz=>by cases z) h;let⟨a,us,rfl,ea,q,r⟩:=r8 s r1 e
 match xs,r2,h with
 |[.ref j],⟨w,t,z,r3,r4⟩,h=>
  subst z;cases r4;replace h:ae T as G (BW k ys st st[j]?) (PV T Q) Z:=h
  cases e2:st[j]? with
  |none=>rw[e2] at h;exact h.elim
  |some o=>
   rw[e2] at h
   cases o with
   |lst zs=>
    let⟨b,us2,rfl,eb,q2,rb⟩:=r8 s r3 e2;let⟨c,h⟩:=ae.iff h;have sz:sizeLine=2^24:=rfl;exact zi pins s0 σ H _ _ v vs Q I ru rw' ⟨a,b,us,us2,rfl,rfl,q,q2,by rw[←r.length,←rb.length];lia,tX (v:= .non) s ea (ag.append r rb) rfl h⟩
   |dct ks vs=>exact h.elim
   |ins c ns vs=>exact h.elim
 |[],_,h=>exact h.elim
 |[.non],_,h=>exact h.elim
 |[.bl _],_,h=>exact h.elim
 |[.int _],_,h=>exact h.elim
 |[.str _],_,h=>exact h.elim
 |[.tup _ _],_,h=>exact h.elim
 |[.lst _],_,h=>exact h.elim
 |[.dct _ _],_,h=>exact h.elim
 |[.obj _ _ _],_,h=>exact h.elim
 |_::_::_,_,h=>exact(Eu h).elim
theorem IG {m:Bm} {name:Str} {apos:Pos} {id:String} (hd:cV m=false) (hK:T.K=X.K) (slot:Slot "list" name id) (hty:typeOf (.builtin id)=pure (.type "method_descriptor")) (hm:qx X id (zm T m)) (ho:PE X o (tE T P cl E io))
  (hbase:attributeBase o name X.env (eval o X.env)=eval o X.env) (hline:(apos.endLine==pos.line)=true):PE X (.Call (.Attribute o name apos) [] [] pos) (tE T P cl E (.bm m io [])):=
 PE.mono (GG PySem.F.plainAttrs_list slot hty hm ho hbase hline) λσ H Q z903=>by
  let⟨env,st,as,G,s,er,h⟩:=z903;dsimp only[PI.E.run] at h;refine aA s er h λx st1 as1 G1 H1 u s1 er1 r1 p1 l1 h=> ?_;let⟨c,h⟩:=ae.iff h;refine⟨?_,st1,as1,G1,x,[],_,s1,r1,rfl,h⟩;have r3:=bc s1 r1;generalize res st1 x=y at c r3
  cases y with
  |lst xs=>
   let⟨a,us,rfl,q,_⟩:=r3;exact .inl ⟨rfl,us,hK▸q⟩
  |dct ks vs=>
   replace c:cV m=true:=c;rw[hd] at c;cases c
  |_=>cases c
end
end PI
namespace PI
open PySem PySem.Spec L2 L2.L3 L2.L4 PySem.SeqAt
open PyProof.Rows hiding St lobj
section
variable {T:CT} {P:Pg} {cl:au} {E:XS} {X:Cx} {pos:Pos}
theorem vq {G:Hp} {i:Int} {v:Val} (r:ag T as G xs us) (e:kZ xs i=some v):∃u,pR us i=some u/\Rel T as G v u:=by
 unfold kZ at e
 cases e1:iV xs.length i with
 |none=>rw[e1] at e;cases e
 |some j=>
  rw[e1] at e;let⟨u,e2,h⟩:=r.get (show xs[j]?=some v from e);refine⟨u, ?_,h⟩;unfold pR;rw[←r.length,show uY xs.length i=some j from e1];exact e2
def Ke:R2:=λx y H Q=>∃a v,x= .ref a/\nS H a y (some v)/\Q v H
theorem DL (hu:X.A.units+1<cLine):kP X Ke:=by
 intro value slice pins s σ H x y v u Q I rx ry h hs;let⟨a,w,rfl,g,q⟩:=h;obtain rfl:v=Value.ref a:=rx;have hT:=tP I g;unfold subscriptTail;refine aaa ?_;rw[getitemInPython_of_ne hT.not_modules];refine aaa (wpAny_specialOf hT PySem.F.slot_dict_getitem.lookup ?_)
 have fin:wpAny (model X.prog X.w) X.A (subscripted slice false (.ref a) u) (λr s₃=>wpAny (model X.prog X.w) X.A (letTemporaryGo value (.ref a) r>>=λ_=>pure r) (EP X pins σ Q) X.xe s₃) X.xe s:=by
  rw[hs];exact wpAny_operating (aaQ (ya hu I g ry λw' s3 I3 rw'=>⟨w,H,I3,rw',q⟩) (λr s₃ h₃=>aaa (wpAny_letTemporaryGo (aaf h₃))) λ_ _ x=>x)
 first
  |exact aaf (aaa fin)
  |exact aaa (aaf (aaa fin))
  |exact aaa fin
end
theorem rQ {T:CT} {G:Hp} {v:Val} {k:Key} {u:L2.V} (h:cf v=some k) (r:Rel T as G v u):u=kV k:=by
 cases v<;>first|(cases h;done)|(cases h;exact r)
theorem uI {T:CT} {G:Hp}:∀{vs:List Val} {kk:List Key} {us:List L2.V},aI vs=some kk->ag T as G vs us->us=kk.map kV
 |[],_,_,h,r=>by
  cases h;exact r
 |v::vs,kk,us,h,⟨u,t,e,r1,r2⟩=>by
  unfold aI at h
  cases e1:cf v with
  |none=>rw[e1] at h;cases h
  |some k=>
   cases e2:aI vs with
   |none=>rw[e1,e2] at h;cases h
   |some kr=>
    rw[e1,e2] at h;cases h;rw[e,rQ e1 r1,uI e2 r2];rfl
theorem nV {d:Nat} {v w:Val} {k k':Key} (h:cf v=some k) (h':cf w=some k'):eqv d v w=some (decide (k=k')):=by
 cases v<;>first|(cases h;done)|skip
 ·rename_i a
  cases w<;>first|(cases h';done)|skip
  ·rename_i b;cases h;cases h';rw[yL];cases d<;>rfl
  ·cases h;cases h';cases d<;>rfl
 ·rename_i a
  cases w<;>first|(cases h';done)|skip
  ·cases h;cases h';cases d<;>rfl
  ·rename_i b;cases h;cases h';rw[xD];cases d<;>rfl
end PI
namespace L2.L3
open PySem PySem.Spec PyProof.Rows
def DG (H:Hp) (a:Addr) (y:V) (o:Option V):Prop:=nS H a y o∨(o=none/\((∃b k,y= .ref b/\H b=some (.tup (List.map kV k))/\Rd H a (.dK []))∨∃k,y=kV k/\Rd H a (.dT [])))
section
variable {X:Cx} {pins:List (Addr×Obj)} {σ:St} {H:Hp} {s:Shared} {a:Addr} {y d:V} {u r:Value} {o:Option V} {A:Around} {E:Value->Shared->Prop}
theorem GC (I:Inv X pins σ H s) (e:Rd H a (.dK [])):(a==sysModules)=false/\s.heap.DictOfH (tupleKind (aJ X.prog X.w)) a []:=by
 let⟨_,hd,vs,rel,dd⟩:=fQ I.ah e;cases rel;let⟨ob,es,ep,h1,h2,h3,_,h4,_⟩:=dd
 have e0:es.toList=[]:=by
  generalize es.toList=l at h4;cases h4;rfl
 exact⟨hd,ob,es,ep,h1,h2,h3,e0,λx hx=>(by cases hx),acp⟩
theorem He (I:Inv X pins σ H s) (e:Rd H a (.dT [])):(a==sysModules)=false/\s.heap.DictOf (aJ X.prog X.w) a []:=by
 let⟨_,hd,xs,rel,dd⟩:=fS I.ah e;cases rel;let⟨ob,es,ep,h1,h2,h3,h4,_⟩:=dd;have e0:es=#[]:=acC.mp h4;subst e0;let⟨_,es',_,g1,_,g3,g4,g5,_⟩:=Heap.DictOf.new (knd:=aJ X.prog X.w) s.heap;rw[aai _ rfl] at g1;cases g1;cases g3;exact⟨hd,ob,#[],ep,h1,h2,h3,g4,g5,acp⟩
theorem CD {Q:Value->Shared->Prop} (hu:A.units+1<cLine) (I:Inv X pins σ H s) (g:DG H a y o) (ry:RelV y u) (h:∀w' s',Inv X pins σ H s'->RelV (o.getD .non) w'->Q w' s'):
  wpAny (model X.prog X.w) A (call (.builtin "dict.get") [.ref a,u]) Q E s:=by
 rcases g with g|⟨rfl,⟨b,k,rfl,eb,e⟩|⟨k,rfl,e⟩⟩
 ·exact E9 hu I g ry h
 ·cases (show u=Value.ref b from ry);let⟨hd,dd⟩:=GC I e;exact abS aaO dd.typeIs aa0 (abV _ _) (meetsH_dict_get (tupleKind (aJ X.prog X.w)) a b hd) ⟨abF hu,k,[],fF I.ah eb,dd,h _ _ (I.tok _) rfl⟩
 ·let⟨hd,dd⟩:=He I e;exact abS aaO dd.typeIs aa0 (abV _ _) (meets_dict_get (aJ X.prog X.w) a (gN ry) hd) ⟨_,dd.mapOf,h _ _ (I.tok _) rfl⟩
theorem Ea {Q:Value->Shared->Prop} (hu:A.units+1<cLine) (I:Inv X pins σ H s) (g:DG H a y o) (ry:RelV y u) (rd:RelV d r) (h:∀w' s',Inv X pins σ H s'->RelV (o.getD d) w'->Q w' s'):
  wpAny (model X.prog X.w) A (call (.builtin "dict.get") [.ref a,u,r]) Q E s:=by
 rcases g with g|⟨rfl,⟨b,k,rfl,eb,e⟩|⟨k,rfl,e⟩⟩
 ·exact Hl hu I g ry rd h
 ·cases (show u=Value.ref b from ry);let⟨hd,dd⟩:=GC I e;exact abS aaO dd.typeIs aa0 (abW _ _ _) (meetsH_dict_get_default (tupleKind (aJ X.prog X.w)) a b hd r) ⟨abF hu,k,[],fF I.ah eb,dd,h _ _ (I.tok _) rd⟩
 ·let⟨hd,dd⟩:=He I e;exact abS aaO dd.typeIs aa0 (abW _ _ _) (meets_dict_get_default (aJ X.prog X.w) a (gN ry) hd r) ⟨_,dd.mapOf,h _ _ (I.tok _) rd⟩
end
end L2.L3
namespace PI
open PySem PySem.Spec L2 L2.L3 L2.L4 PySem.SeqAt
open PyProof.Rows hiding St lobj
theorem pd:∀{xs:List Val},xs.all wz=true->∃kk,aI xs=some kk
 |[],_=>⟨[],rfl⟩
 |x::xs,h=>by
  rw[aaI,aag] at h;let⟨kk,e⟩:=pd h.2;have:=h.1
  cases x<;>first|(cases this;done)|skip
  ·rename_i i;exact⟨.inl i::kk,by simp[aI,cf,e]⟩
  ·rename_i i;exact⟨.inr i::kk,by simp[aI,cf,e]⟩
theorem mV {T:CT} {G H:Hp} {k:Val} {w:L2.V} (l:Le G H) (hk:dv k=true) (r:Rel T as G k w):
  (kT k=false/\∃κ,cf k=some κ/\w=kV κ)∨(kT k=true/\∃κs b,cU k=some κs/\w= .ref b/\H b=some (.tup (κs.map kV))):=by
 cases k with
 |int i=>exact .inl ⟨rfl, .inl i,rfl,rQ rfl r⟩
 |str i=>exact .inl ⟨rfl, .inr i,rfl,rQ rfl r⟩
 |tup f xs=>
  unfold dv at hk;rw[aag] at hk
  have hf:f=false:=by simpa using hk.1
  subst hf;let⟨kk,e⟩:=pd hk.2;let⟨b,us,rfl,h1,h2⟩:=r;refine .inr ⟨rfl,kk,b,e,rfl, ?_⟩;rw[←uI e h2];exact l.ex h1 rfl
 |_=>cases hk
theorem cA {v:Val} {kk:List Key} (h:aI (v::vs)=some kk):∃k t,cf v=some k/\aI vs=some t/\kk=k::t:=by
 unfold aI at h;let⟨k,e1,e2⟩:=aao.mp h;let⟨t,e3,e4⟩:=aab.mp e2;exact⟨k,t,e1,e3,e4.symm⟩
theorem fR {v:Val} {kk:List (List Key)} (h:bj (v::vs)=some kk):∃k t,cU v=some k/\bj vs=some t/\kk=k::t:=by
 unfold bj at h;let⟨k,e1,e2⟩:=aao.mp h;let⟨t,e3,e4⟩:=aab.mp e2;exact⟨k,t,e1,e3,e4.symm⟩
theorem pf {d:Nat}:∀{xs ys:List Val} {a b:List Key},aI xs=some a->aI ys=some b->jS (eqv d) xs ys=some (decide (a=b))
 |[],[],_,_,h,h'=>by cases h;cases h';rfl
 |[],y::ys,_,_,h,h'=>by
  cases h;let⟨k,t,_,_,rfl⟩:=cA h';rfl
 |x::xs,[],_,_,h,h'=>by
  cases h';let⟨k,t,_,_,rfl⟩:=cA h;rfl
 |x::xs,y::ys,_,_,h,h'=>by
  let⟨k,t,e1,e2,rfl⟩:=cA h;let⟨k',t',e3,e4,rfl⟩:=cA h';show (eqv d x y).bind (λa=>(jS (eqv d) xs ys).map λb=>a&&b)=_;rw[nV e1 e3,pf e2 e4];show some (decide (k=k')&&decide (t=t'))=_;rw[←Bool.decide_and];congr 1;exact decide_eq_decide.mpr (by simp)
theorem lW {v:Val} {a:List Key} (h:cU v=some a):∃f xs,v= .tup f xs/\aI xs=some a:=by
 cases v<;>first|(cases h;done)|exact⟨_,_,rfl,h⟩
theorem qG {v w:Val} {a b:List Key} (h:cU v=some a) (h':cU w=some b):eqv 8 v w=some (decide (a=b)):=by
 let⟨f,xs,rfl,e1⟩:=lW h;let⟨g,ys,rfl,e2⟩:=lW h';exact pf e1 e2
theorem rO {v:Val} {k:Key} (h:cf v=some k):kT v=false:=by
 cases v<;>first|(cases h;done)|rfl
theorem sV {v:Val} {k:List Key} (h:cU v=some k):kT v=true:=by
 let⟨f,xs,rfl,_⟩:=lW h;rfl
section
variable {T:CT} {as:List Addr} {G H:Hp}
def Bg (T:CT) (as:List Addr) (G:Hp):Option Val->Option L2.V->Prop
 |none,none=>True
 |some v,some u=>Rel T as G v u
 |_,_=>False
theorem xu {k:Val} {κ:Key} (hk:cf k=some κ):∀{ks vs:List Val} {kk:List Key} {us:List L2.V} {r:Option Val},aI ks=some kk->kk.length=us.length->ag T as G vs us->getD k ks vs=some r->Bg T as G r (fH (kk.zip us) κ)
 |[],vs,kk,us,r,h,hl,rv,e=>by
  cases h;cases e;exact trivial
 |a::ks,vs,kk,us,r,h,hl,rv,e=>by
  let⟨k1,t,e1,e2,rfl⟩:=cA h
  cases vs with
  |nil=>cases rv;cases hl
  |cons v vs=>
   let⟨u,us',rfl,r1,r2⟩:=rv;replace e:(if kT a=kT k then (eqv 8 a k).bind λb=>if b=true then some (some v) else getD k ks vs else none)=some r:=e;rw[if_pos (by rw[rO e1,rO hk]),nV e1 hk] at e;replace e:(if decide (k1=κ)=true then some (some v) else getD k ks vs)=some r:=e;rw[aaR]
   by_cases z:k1=κ
   ·rw[if_pos (abB z)] at e;cases e;rw[gG z];exact r1
   ·rw[if_neg (by simpa using z)] at e;rw[gB z];exact xu hk e2 (by simpa using hl) r2 e
theorem xf {k:Val} {κ:List Key} (hk:cU k=some κ):∀{ks vs:List Val} {kk:List (List Key)} {us:List L2.V} {r:Option Val},bj ks=some kk->kk.length=us.length->ag T as G vs us->getD k ks vs=some r->Bg T as G r (fH (kk.zip us) κ)
 |[],vs,kk,us,r,h,hl,rv,e=>by
  cases h;cases e;exact trivial
 |a::ks,vs,kk,us,r,h,hl,rv,e=>by
  let⟨k1,t,e1,e2,rfl⟩:=fR h
  cases vs with
  |nil=>cases rv;cases hl
  |cons v vs=>
   let⟨u,us',rfl,r1,r2⟩:=rv;replace e:(if kT a=kT k then (eqv 8 a k).bind λb=>if b=true then some (some v) else getD k ks vs else none)=some r:=e;rw[if_pos (by rw[sV e1,sV hk]),qG e1 hk] at e;replace e:(if decide (k1=κ)=true then some (some v) else getD k ks vs)=some r:=e;rw[aaR]
   by_cases z:k1=κ
   ·rw[if_pos (abB z)] at e;cases e;rw[gG z];exact r1
   ·rw[if_neg (by simpa using z)] at e;rw[gB z];exact xf hk e2 (by simpa using hl) r2 e
theorem rH {k:Val} {r:Option Val} {vs:List Val} {us:List L2.V}:∀{ks:List Val},(∀a∈ks,kT a≠kT k)->ks.length=vs.length->getD k ks vs=some r->ks=[]/\r=none
 |[],_,_,e=>by
  cases e;exact⟨rfl,rfl⟩
 |a::ks,h,hl,e=>by
  cases vs with
  |nil=>cases hl
  |cons v vs=>
   replace e:(if kT a=kT k then (eqv 8 a k).bind λb=>if b=true then some (some v) else getD k ks vs else none)=some r:=e;rw[if_neg (h a aaC)] at e;cases e
theorem gE:∀{ks:List Val} {kk:List Key},aI ks=some kk->ks.length=kk.length/\∀a∈ks,kT a=false
 |[],_,h=>by cases h;exact⟨rfl,λ_ z=>by cases z⟩
 |v::vs,kk,h=>by
  let⟨k,t,e1,e2,rfl⟩:=cA h;let⟨h1,h2⟩:=gE e2;exact⟨by simp[h1],λa ha=>(aap.mp ha).elim (λz=>by rw[z];exact rO e1) (h2 a)⟩
theorem gk:∀{ks:List Val} {kk:List (List Key)},bj ks=some kk->ks.length=kk.length/\∀a∈ks,kT a=true
 |[],_,h=>by cases h;exact⟨rfl,λ_ z=>by cases z⟩
 |v::vs,kk,h=>by
  let⟨k,t,e1,e2,rfl⟩:=fR h;let⟨h1,h2⟩:=gk e2;exact⟨by simp[h1],λa ha=>(aap.mp ha).elim (λz=>by rw[z];exact sV e1) (h2 a)⟩
theorem vJ {a:Addr} {k:Val} {w:L2.V} {r:Option Val} (l:Le G H) (d:fU H a ks us) (rv:ag T as G vs us) (hk:dv k=true) (rk:Rel T as G k w) (e:getD k ks vs=some r):∃ro,DG H a w ro/\Bg T as G r ro:=by
 rcases d with⟨kk,h1,h2,h3⟩|⟨kk,h1,h2,h3⟩<;>rcases mV l hk rk with⟨t,κ,e1,rfl⟩|⟨t,κ,b,e1,rfl,e2⟩
 ·exact⟨_, .inl (.inl ⟨_,κ,h3,rfl,rfl⟩),xu e1 h1 h2 rv e⟩
 ·let⟨z1,z2⟩:=gE h1;let⟨rfl,rfl⟩:=rH (us:=us) (λa ha=>by rw[z2 a ha,t];decide) (by rw[z1,h2,rv.length]) e;cases h1;exact⟨none, .inr ⟨rfl, .inl ⟨b,κ,rfl,e2,h3⟩⟩,trivial⟩
 ·let⟨z1,z2⟩:=gk h1;let⟨rfl,rfl⟩:=rH (us:=us) (λa ha=>by rw[z2 a ha,t];decide) (by rw[z1,h2,rv.length]) e;cases h1;exact⟨none, .inr ⟨rfl, .inr ⟨κ,rfl,h3⟩⟩,trivial⟩
 ·exact⟨_, .inl (.inr ⟨_,κ,b,h3,rfl,e2,rfl⟩),xf e1 h1 h2 rv e⟩
theorem pS:∀{ks:List Val} {kk:List (Key)} {k:Val} {κ:Key},aI ks=some kk->cf k=some κ->aI (ks++[k])=some (kk++[κ])
 |[],_,k,κ,h,h'=>by
  cases h;simp[aI,h']
 |a::ks,kk,k,κ,h,h'=>by
  let⟨k1,t,e1,e2,rfl⟩:=cA h;have:=pS e2 h';simp only[acB,aI,e1,this];rfl
theorem o7:∀{ks:List Val} {kk:List (List Key)} {k:Val} {κ:List Key},bj ks=some kk->cU k=some κ->bj (ks++[k])=some (kk++[κ])
 |[],_,k,κ,h,h'=>by
  cases h;simp[bj,h']
 |a::ks,kk,k,κ,h,h'=>by
  let⟨k1,t,e1,e2,rfl⟩:=fR h;have:=o7 e2 h';simp only[acB,bj,e1,this];rfl
theorem yO {k x:Val} {κ:Key} {u:L2.V} (hk:cf k=some κ) (hx:Rel T as G x u):∀{ks vs:List Val} {kk:List (Key)} {us:List L2.V} {b:Bool},aI ks=some kk->kk.length=us.length->ag T as G vs us->memD k ks=some b->
  ((kk.zip us).any λkv=>decide (kv.1=κ))=b/\∃us',(kk.zip us).map (λkv=>if kv.1=κ then (kv.1,u) else kv)=kk.zip us'/\kk.length=us'.length/\ag T as G (lV k x ks vs) us'
 |[],vs,kk,us,b,h,hl,rv,e=>by
  cases h;cases e;have e0:us=[]:=aaG hl.symm;subst e0;exact⟨rfl,[],rfl,rfl,by cases vs<;>rfl⟩
 |a::ks,vs,kk,us,b,h,hl,rv,e=>by
  let⟨k1,t,e1,e2,rfl⟩:=cA h
  cases vs with
  |nil=>cases rv;cases hl
  |cons v vs=>
   let⟨w,us',rfl,r1,r2⟩:=rv;replace e:(if kT a=kT k then (eqv 8 a k).bind λb=>(memD k ks).map λc=>b||c else none)=some b:=e;have ek:=nV (d:=8) e1 hk;rw[if_pos (by rw[rO e1,rO hk]),ek] at e;let⟨c,e3,rfl⟩:=aab.mp (show (memD k ks).map (λc=>decide (k1=κ)||c)=some b from e);let⟨h1,us2,h2,h3,h4⟩:=yO hk hx e2 (by simpa using hl) r2 e3;refine⟨by rw[aaR,abY,h1],(if k1=κ then u else w)::us2, ?_,by simp[h3], ?_⟩
   ·rw[aaR,aay,h2,aaR]
    by_cases z:k1=κ
    ·rw[if_pos z,if_pos z]
    ·rw[if_neg z,if_neg z]
   ·refine⟨_,us2,rfl, ?_,h4⟩;rw[ek]
    by_cases z:k1=κ
    ·rw[if_pos z,if_pos (by rw[abB z])];exact hx
    ·rw[if_neg z,if_neg (by rw[aaB z];simp)];exact r1
theorem v5 {k x:Val} {κ:Key} {u:L2.V} (hk:cf k=some κ) (hx:Rel T as G x u) {kk:List (Key)} {us:List L2.V} (h:aI ks=some kk) (hl:kk.length=us.length) (rv:ag T as G vs us) (e:putD k x ks vs=some (ks',vs')):
  ∃kk' us',aI ks'=some kk'/\kk'.length=us'.length/\putK (kk.zip us) κ u=kk'.zip us'/\ag T as G vs' us':=by
 let⟨b,e1,e2⟩:=aab.mp e;let⟨h1,us2,h2,h3,h4⟩:=yO hk hx h hl rv e1;unfold putK;rw[h1]
 cases b with
 |true=>
  cases e2;exact⟨kk,us2,h,h3,by rw[if_pos rfl];exact h2,h4⟩
 |false=>
  cases e2;refine⟨kk++[κ],us++[u],pS h hk,by simp[hl], ?_,ag.append rv ⟨u,[],rfl,hx,rfl⟩⟩;rw[if_neg (by decide),List.zip_append hl];rfl
theorem wO {k x:Val} {κ:List Key} {u:L2.V} (hk:cU k=some κ) (hx:Rel T as G x u):∀{ks vs:List Val} {kk:List (List Key)} {us:List L2.V} {b:Bool},bj ks=some kk->kk.length=us.length->ag T as G vs us->memD k ks=some b->
  ((kk.zip us).any λkv=>decide (kv.1=κ))=b/\∃us',(kk.zip us).map (λkv=>if kv.1=κ then (kv.1,u) else kv)=kk.zip us'/\kk.length=us'.length/\ag T as G (lV k x ks vs) us'
 |[],vs,kk,us,b,h,hl,rv,e=>by
  cases h;cases e;have e0:us=[]:=aaG hl.symm;subst e0;exact⟨rfl,[],rfl,rfl,by cases vs<;>rfl⟩
 |a::ks,vs,kk,us,b,h,hl,rv,e=>by
  let⟨k1,t,e1,e2,rfl⟩:=fR h
  cases vs with
  |nil=>cases rv;cases hl
  |cons v vs=>
   let⟨w,us',rfl,r1,r2⟩:=rv;replace e:(if kT a=kT k then (eqv 8 a k).bind λb=>(memD k ks).map λc=>b||c else none)=some b:=e;have ek:=qG e1 hk;rw[if_pos (by rw[sV e1,sV hk]),ek] at e;let⟨c,e3,rfl⟩:=aab.mp (show (memD k ks).map (λc=>decide (k1=κ)||c)=some b from e);let⟨h1,us2,h2,h3,h4⟩:=wO hk hx e2 (by simpa using hl) r2 e3;refine⟨by rw[aaR,abY,h1],(if k1=κ then u else w)::us2, ?_,by simp[h3], ?_⟩
   ·rw[aaR,aay,h2,aaR]
    by_cases z:k1=κ
    ·rw[if_pos z,if_pos z]
    ·rw[if_neg z,if_neg z]
   ·refine⟨_,us2,rfl, ?_,h4⟩;rw[ek]
    by_cases z:k1=κ
    ·rw[if_pos z,if_pos (by rw[abB z])];exact hx
    ·rw[if_neg z,if_neg (by rw[aaB z];simp)];exact r1
theorem vI {k x:Val} {κ:List Key} {u:L2.V} (hk:cU k=some κ) (hx:Rel T as G x u) {kk:List (List Key)} {us:List L2.V} (h:bj ks=some kk) (hl:kk.length=us.length) (rv:ag T as G vs us) (e:putD k x ks vs=some (ks',vs')):
  ∃kk' us',bj ks'=some kk'/\kk'.length=us'.length/\putK (kk.zip us) κ u=kk'.zip us'/\ag T as G vs' us':=by
 let⟨b,e1,e2⟩:=aab.mp e;let⟨h1,us2,h2,h3,h4⟩:=wO hk hx h hl rv e1;unfold putK;rw[h1]
 cases b with
 |true=>
  cases e2;exact⟨kk,us2,h,h3,by rw[if_pos rfl];exact h2,h4⟩
 |false=>
  cases e2;refine⟨kk++[κ],us++[u],o7 h hk,by simp[hl], ?_,ag.append rv ⟨u,[],rfl,hx,rfl⟩⟩;rw[if_neg (by decide),List.zip_append hl];rfl
end
section
variable {T:CT} {P:Pg} {cl:au} {E:XS} {X:Cx} {pos:Pos}
theorem ug {G:Hp} {i:Int}:∀{ys:List Val} {us:List L2.V} {b:Bool},ag T as G ys us->jI i ys=some b->us.all fW=true/\L2.uq (.int i) us=b
 |[],us,b,r,e=>by
  cases r;cases e;exact⟨rfl,rfl⟩
 |y::ys,us,b,r,e=>by
  let⟨u,t,rfl,h1,h2⟩:=r
  cases y<;>first|(cases e;done)|skip
  cases h1;let⟨c,e1,rfl⟩:=aab.mp (show (jI i ys).map _=_ from e);let⟨q1,q2⟩:=ug h2 e1;exact⟨by rw[aaI,q1];rfl,by show (_||L2.uq (.int i) t)=_;rw[q2];rfl⟩
theorem Ff (hK:T.K=X.K) (hu:X.A.units+9<cLine):aF X (compareOp .In) (cZ T λx y st=>dJ (bF .In x y st)):=
 aF.imp xI λu w H Q z904=>by
  let⟨st,as,G,x,y,Z,sm,r1,r2,p⟩:=z904;let⟨b,e,q⟩:=ae.ao (show ae T as G ((R.ao (BO x y) st).bind λb st=> .ok (.bl b) st) (PV T Q) Z from p);clear p
  cases x<;>first|(cases e;done)|skip
  cases y<;>first|(cases e;done)|skip
  cases r1;let⟨a,us,rfl,q1,s1⟩:=r2;let⟨h1,h2⟩:=ug s1 e
  exact⟨a,us,rfl, .inr (cK sm.sub q1),rfl,h1,by
   show Q (.bl (L2.uq _ us)) H;rw[h2]
   exact q.ok sm _ rfl⟩
theorem yy (hK:T.K=X.K) (hu:X.A.units+9<cLine):aF X (compareOp .NotIn) (cZ T λx y st=>dJ (bF .NotIn x y st)):=by
 intro pins s σ H u w uv wv Q I ru rw' ⟨st,as,G,x,y,Z,sm,r1,r2,p⟩;exact p.elim
theorem yf {H:Hp} {a:Addr} (d:fU H a ks us):BQ H a:=d.elim (λz900=>by let⟨kk,_,_,h⟩:=z900;exact .inl ⟨_,h⟩) λz900=>by let⟨kk,_,_,h⟩:=z900;exact .inr ⟨_,h⟩
theorem Ez {e:Expr} (hu:X.A.units+1<cLine) (ho:PE X o (tE T P cl E io)) (he:PE X e (tE T P cl E ie)) (m:M1 X o "get" apos e pos):PE X (.Call (.Attribute o "get" apos) [e] [] pos) (tE T P cl E (.bm .get io [ie])):=by
 intro pins s σ H Q I ⟨env,st,as,G,sm,er,h⟩;dsimp only[PI.E.run] at h
 have h2:=aA (K:=λu H1=>∃a,u= .ref a/\BQ H1 a/\tE T P cl E ie σ H1 λy H2=>∃ov,DG H2 a y ov/\Q (ov.getD .non) H2) sm er h λv st1 as1 G1 H1 u s1 er1 r1 p1 l1 h=>by
  let⟨c,h⟩:=ae.iff h;have rr:=bc s1 r1
  have cd:∃ks vs,res st1 v= .dct ks vs:=by
   generalize res st1 v=y at c
   cases y<;>first|(cases c;done)|exact⟨_,_,rfl⟩
  let⟨ks,vs,ev⟩:=cd;rw[ev] at rr;let⟨a,us,rfl,d,rv⟩:=rr;refine⟨a,rfl,yf d, ?_⟩
  replace h:ae T as1 G1 (((ie.run P cl env st1).bind λx st=> .ok [x] st).bind λxs st=>kJ .get v xs st) (λv _ as' G' H'=>∀u,Rel T as' G' v u->Q u H') (E σ):=by
   have z:aM P cl [ie] env st1=(ie.run P cl env st1).bind λx st=> .ok [x] st:=by
    unfold aM;rfl
   rw[z] at h;exact h
  rw[R.bind_assoc] at h;refine aA s1 er1 h λk st2 as2 G2 H2 w s2 er2 r2 p2 l2 h=> ?_;replace h:ae T as2 G2 (qX (res st2 v) [k] st2) (λv _ as' G' H'=>∀u,Rel T as' G' v u->Q u H') (E σ):=h;have r3:=bc s2 (r1.mono p2 l2);generalize res st2 v=y at h r3
  cases y with
  |dct ks vs=>
   let⟨hk,h⟩:=ae.iff h;let⟨b,e,h⟩:=ae.dj h;let⟨r,e1,rfl⟩:=aab.mp e;let⟨a',us',ea,d',rv'⟩:=r3;cases ea;let⟨ro,g,og⟩:=vJ s2.sub d' rv' hk r2 e1;refine⟨ro,g, ?_⟩
   cases r<;>cases ro<;>first|exact og.elim|exact h.ok s2 _ rfl|exact h.ok s2 _ og
  |_=>exact h.elim
 refine wpAny_Call_method m.base m.few m.line PySem.F.plainAttrs_dict aaO PySem.F.type_dict_get (aw (ho pins s σ H _ I h2) λu s1 z902=> ?_);let⟨x,H1,I1,rx,a,ex,d,q1⟩:=z902;subst ex;obtain rfl:u=Value.ref a:=rx;let⟨t1,t2,_⟩:=wR I1 d;refine⟨t1,t2, ?_⟩;rw[m.trees];refine ab2 rfl (acd (ack (aw (he pins s1 σ H1 _ I1 q1) λiv s2 zq14=> ?_)));let⟨y,H2,I2,ry,ov,g,q2⟩:=zq14;refine acZ ?_;exact CD hu I2 g ry λw' s3 I3 rw'=>⟨_,H2,I3,rw',q2⟩
theorem Ex:PE X (.Dict [] [] pos) (tE T P cl E (.dct [] [])):=
 PE.mono zw λσ H Q z903 p hp=>by
  let⟨env,st,as,G,s,er,h⟩:=z903;dsimp only[PI.E.run] at h;have s2:=s.push (o:= .dct [] []) (u:= .dK []) hp ⟨[], .inl ⟨[],rfl,rfl,ak⟩,rfl⟩;refine h (as++[p]) G _ (aax _ _) (Le.refl _) s2 _ ⟨p, ?_,rfl⟩;rw[←s.len,aam (aah _)];simp
end
end PI
namespace L2.L3
open PySem PySem.Spec PyProof.Rows
section
variable {X:Cx} {pins:List (Addr×Obj)} {σ:St} {H:Hp} {s:Shared} {a:Addr}
theorem Inv.HX (I:Inv X pins σ H s) (e:H a=some (.dK [])):Inv X pins σ (upd H a (.dT [])) s:=by
 let⟨hd,o,es,ep,h1,h2,h3,h4,_,h5⟩:=GC I (.inl e);exact I.write (x:=a) (e:=a) (t':=s.toks) (by rw[e];exact True.intro) (.inl rfl) (λb q hb z=>z) ⟨o,h1⟩ ⟨aaV _,hd,[], .nil,o,es,ep,h1,h2,h3,h4,h5⟩
theorem Inv.Ii (I:Inv X pins σ H s) (e:H a=some (.dT [])):Inv X pins σ (upd H a (.dK [])) s:=by
 let⟨hd,dd⟩:=He I (.inl e);let⟨o,es,ep,h1,r⟩:=id dd;exact I.write (x:=a) (e:=a) (t':=s.toks) (by rw[e];exact True.intro) (.inl rfl) (λb q hb z=>z) ⟨o,h1⟩ ⟨aaV _,hd,[], .nil,dd⟩
end
def Ir:V->V->V->Hp->(Hp->Prop)->Prop:=λo i v H Q=>∃a,o= .ref a/\((∃H',fI H a i v H'/\Q H')∨(H a=some (.dK [])/\∃H',fI (upd H a (.dT [])) a i v H'/\Q H')∨(H a=some (.dT [])/\∃H',fI (upd H a (.dK [])) a i v H'/\Q H'))
theorem set_dict {X:Cx} (hu:X.A.units+1<cLine):jZ X Ir:=by
 intro pins s σ H o i v ov iv u Q I ro ri rv h;let⟨a,rfl,h⟩:=h;cases (show ov=Value.ref a from ro)
 rcases h with⟨H',g,q⟩|⟨e,H',g,q⟩|⟨e,H',g,q⟩
 ·exact jP hu I g ri rv λs' I'=>⟨H',I',q⟩
 ·exact jP hu (Inv.HX I e) g ri rv λs' I'=>⟨H',I',q⟩
 ·exact jP hu (Inv.Ii I e) g ri rv λs' I'=>⟨H',I',q⟩
theorem jZ.or {X:Cx} {t t':wH} (h:jZ X t) (h':jZ X t'):jZ X (λo i v H Q=>t o i v H Q∨t' o i v H Q):=λpins s σ H o i v ov iv u Q I ro ri rv q=>q.elim (h pins s σ H o i v ov iv u Q I ro ri rv) (h' pins s σ H o i v ov iv u Q I ro ri rv)
end L2.L3
namespace PI
open PySem PySem.Spec L2 L2.L3 L2.L4 PySem.SeqAt
open PyProof.Rows hiding St lobj
section
variable {T:CT} {P:Pg} {cl:au} {E:XS} {X:Cx} {pos:Pos}
theorem jr (n d:Nat) (o:Option Int):bY n d o=HT.aV n d o:=by
 cases o<;>rfl
theorem ag.drop {G:Hp}:∀{xs:List Val} {us:List L2.V} (n:Nat),ag T as G xs us->ag T as G (xs.drop n) (us.drop n)
 |_,_,0,h=>h
 |[],_,_+1,h=>by cases h;rfl
 |_::_,_,n+1,⟨u,t,e,h,r⟩=>by subst e;exact ag.drop n r
theorem ag.take {G:Hp}:∀{xs:List Val} {us:List L2.V} (n:Nat),ag T as G xs us->ag T as G (xs.take n) (us.take n)
 |_,_,0,h=>rfl
 |[],_,_+1,h=>by cases h;rfl
 |_::_,_,n+1,⟨u,t,e,h,r⟩=>by subst e;exact⟨u,t.take n,rfl,h,ag.take n r⟩
theorem rV {G:Hp} (lo hi:Option Int) (r:ag T as G xs us):ag T as G (cut xs lo hi) (jz us lo hi):=by
 unfold cut jz;rw[jr,jr,r.length];exact(r.drop _).take _
def tB (T:CT) (P:Pg) (cl:au) (E:XS) (e:Option PI.E):TO:=λσ H Q=>∃env st as G,Sim T st as G H/\aG T as G env σ/\ae T as G ((iR P cl e env st).bind λa st=>jO a st) (λv _ _ _ H'=>Q v H') (E σ)
theorem vU:PO X none (tB T P cl E none):=λpins s σ H Q I z906=>by let⟨env,st,as,G,sm,er,h⟩:=z906;exact CY pins s σ H Q I (h.ok sm)
theorem vT {e:Expr} (he:PE X e (tE T P cl E ie)):PO X (some e) (tB T P cl E (some ie)):=λpins s σ H Q I z906=>by
 let⟨env,st,as,G,sm,er,h⟩:=z906;refine El he pins s σ H Q I ?_;unfold iR at h;rw[R.bind_assoc] at h;refine aA sm er h λx st1 as1 G1 H1 u s1 er1 r1 p1 l1 h=> ?_
 cases x with
 |int i=>
  cases r1;exact⟨i,rfl,h.ok s1⟩
 |_=>exact h.elim
theorem t8 {α:Type} {e:Option PI.E} {env:Env} {st:aa} {G H:Hp} {σ:St} {f:Option Int->aa->R α} {Q:α->aa->List Addr->Hp->Hp->Prop} {K:Option Int->Hp->Prop} (s:Sim T st as G H) (er:aG T as G env σ)
  (h:ae T as G (((iR P cl e env st).bind λa st=>jO a st).bind f) Q (E σ))
  (k:∀v st1 as1 G1 H1,Sim T st1 as1 G1 H1->aG T as1 G1 env σ->as<+:as1->Le G G1->ae T as1 G1 (f v st1) Q (E σ)->K v H1):tB T P cl E e σ H K:=
 ⟨env,st,as,G,s,er,h.bind.imp λv st1 as1 G1 H1 p l s1 q=>k v st1 as1 G1 H1 s1 (er.mono p l) p l q⟩
theorem yh {α:Type} (xs:List α) (a b:Nat) (h:b<=xs.length):((List.range (b-a)).filterMap λi=>xs[a+i]?)=(xs.drop a).take (b-a):=by
 induction xs generalizing a b with
 |nil=>
  simp at h;subst h;simp
 |cons x xs ih=>
  cases a with
  |zero=>
   cases b with
   |zero=>simp
   |succ b=>
    have q:=ih 0 b (by simpa using h);simp only[Nat.sub_zero,acm,List.drop_zero] at q⊢;rw[List.range_succ_eq_map,abT,acT];simp only[List.getElem?_cons_zero,List.take_succ_cons];rw[←q];rfl
  |succ a=>
   cases b with
   |zero=>simp
   |succ b=>
    have q:=ih a b (by simpa using h);rw[show b+1-(a+1)=b-a by lia,List.drop_succ_cons,←q];congr 1;funext i;rw[show a+1+i=(a+i)+1 by lia,abX]
theorem DY (n:Nat) (o:Option Int) (d:Nat) (h:d<=n):bY n d o<=n:=by
 cases o with
 |none=>exact h
 |some v=>
  unfold bY;simp only;split<;>lia
theorem zv (lo hi:Option Int) (n:Nat):PySem.Builtin.Str.strSliceIndices lo hi 1 n=(List.range (bY n n hi-bY n 0 lo)).map (bY n 0 lo+ ·):=by
 have clip:∀(v:Option Int) (d:Nat),((match v with|none=>(d:Int)|some i=>if (1:Int)>0 then max 0 (min (if i<0 then i+(n:Int) else i) n) else max (-1) (min (if i<0 then i+(n:Int) else i) ((n:Int)-1))):Int)=((bY n d v:Nat):Int):=λv d=>by
  cases v with
  |none=>rfl
  |some i=>
   simp only[bY];rw[if_pos (by decide)];split<;>lia
 rw[←sliceRange_one,←clip lo 0,←clip hi n];rfl
theorem mj (x:Str) (lo hi:Option Int):jD x lo hi=⟨(cut x.cps.toList lo hi).toArray⟩:=by
 have hl:x.cps.toList.length=x.length:=by simp[Str.length]
 have hb:=DY x.length hi x.length (aah _)
 have e:((PySem.Builtin.Str.strSliceIndices lo hi 1 x.length).filterMap (x.cps[·]?))=cut x.cps.toList lo hi:=by
  rw[zv,acT];unfold cut;rw[hl,←yh x.cps.toList _ _ (by rw[hl];exact hb)];congr 1;funext i;simp
 unfold jD;rw[e];split
 ·rename_i z;rw[zv] at z;simp only[List.length_map,ac2,abw] at z
  have c0:bY x.length 0 lo=0∨x.length=0:=by lia
  have c:cut x.cps.toList lo hi=x.cps.toList:=by
   unfold cut;rw[hl]
   by_cases z0:x.length=0
   ·have:x.cps.toList=[]:=aaG (by rw[hl];exact z0);rw[this];simp
   ·have c1:bY x.length 0 lo=0:=by lia
    rw[c1,List.drop_zero,acv (by rw[hl];lia)]
  rw[c]
 ·rfl
theorem qh {lo hi:Option Expr} {il ih:Option PI.E} (hK:T.K=X.K) (ho:PE X o (tE T P cl E io)) (hl:PO X lo (tB T P cl E il)) (hh:PO X hi (tB T P cl E ih)):PE X (.Subscript o (.Slice lo hi none p2) pos) (tE T P cl E (.slc io il ih)):=
 PE.mono (Az ((GU.or C8).or ES) ho hl hh) λσ H Q z903=>by
  let⟨env,st,as,G,s,er,h⟩:=z903;dsimp only[PI.E.run] at h;refine aA s er h λx st1 as1 G1 H1 u s1 er1 r1 p1 l1 h=> ?_;refine t8 s1 er1 h λa st2 as2 G2 H2 s2 er2 p2 l2 h=> ?_;refine t8 s2 er2 h λb st3 as3 G3 H3 s3 er3 p3 l3 h=> ?_;have rr:=bc s3 (r1.mono (p2.trans p3) (l2.trans l3));generalize res st3 x=y at h rr
  cases y with
  |tup f xs=>
   let⟨d,us,rfl,q,r⟩:=rr;let⟨c,h⟩:=ae.iff h;rw[jr,jr,r.length] at c;exact .inl (.inl ⟨d,us,rfl,cK s3.sub q,c,λp hp=>oo s3 (rV a b r) h hp⟩)
  |lst xs=>
   let⟨d,us,rfl,q,r⟩:=rr;exact .inl (.inr ⟨d,us,rfl,hK▸q,λp hp=>fZ s3 (rV a b r) h hp⟩)
  |str z=>
   cases rr;let⟨c,h⟩:=ae.iff h;have q:=h.ok s3 _ rfl;refine .inr ⟨z,rfl,c, ?_,by rw[mj];exact q⟩;rw[mj];show (cut z.cps.toList a b).toArray.size<=1000;unfold cut;rw[aak,aa8,acz]
   have:z.cps.toList.length=z.length:=by simp[Str.length]
   lia
  |_=>exact h.elim
theorem Jz {a b:Expr} (hK:T.K=X.K) (hu:X.A.units+1<cLine) (ha:PE X a (tE T P cl E ia)) (hb:PE X b (tE T P cl E ib)) (hs:nI b):PE X (.Subscript a b pos) (tE T P cl E (.idx ia ib)):=
 PE.mono (Ic (F3.or (DL hu)) ha hb hs) λσ H Q z903=>by
  let⟨env,st,as,G,s,er,h⟩:=z903;dsimp only[PI.E.run] at h;refine aA s er h λx st1 as1 G1 H1 u s1 er1 r1 p1 l1 h=> ?_;refine aA s1 er1 h λy st2 as2 G2 H2 w s2 er2 r2 p2 l2 h=> ?_;have rr:=bc s2 (r1.mono p2 l2);generalize res st2 x=z at h rr
  cases z with
  |tup f xs=>cases y with
   |int i=>
    cases r2;let⟨d,us,rfl,q,r⟩:=rr;let⟨v,e,h⟩:=ae.dj h;let⟨u,e2,rv⟩:=vq r e;exact .inl (.inr (.inl ⟨d,us,i,u,rfl,rfl,cK s2.sub q,e2,h.ok s2 _ rv⟩))
   |_=>exact h.elim
  |lst xs=>cases y with
   |int i=>
    cases r2;let⟨d,us,rfl,q,r⟩:=rr;let⟨v,e,h⟩:=ae.dj h;let⟨u,e2,rv⟩:=vq r e;exact .inl (.inl ⟨d,us,i,u,rfl,rfl,hK▸q,e2,h.ok s2 _ rv⟩)
   |_=>exact h.elim
  |str t=>cases y with
   |int i=>
    cases r2;cases rr;let⟨c,h⟩:=ae.iff h;let⟨v,e,h⟩:=ae.dj h;let⟨c',e1,rfl⟩:=aab.mp e;have z:sizeLine=2^24:=rfl;refine .inl (.inr (.inr ⟨t,i,c',rfl,rfl,by lia, ?_,h.ok s2 _ rfl⟩));unfold pR;rw[show t.cps.toList.length=t.length by simp[Str.length]];exact e1
   |_=>exact h.elim
  |dct ks vs=>
   let⟨hk,h⟩:=ae.iff h;let⟨v,e,h⟩:=ae.dj h;let⟨ov,e1,e2⟩:=aao.mp e;obtain rfl:ov=some v:=e2;let⟨d,us,rfl,q,r⟩:=rr;let⟨ro,g,og⟩:=vJ s2.sub q r hk r2 e1
   cases ro with
   |none=>exact og.elim
   |some w'=>
    rcases g with g|⟨z,_⟩
    ·exact .inr ⟨d,w',rfl,g,h.ok s2 _ og⟩
    ·cases z
  |_=>exact h.elim
theorem of_post {α:Type} {env:Env} {as:List Addr} {G:Hp} {σ:St} {r:R α} {k:α->aa->F} {D:Ends} (h:aC T as G (F.of env r k) D E) (er:aG T as G env σ):ae T as G r (λa st as' G' _=>aC T as' G' (k a st) D E) (E σ):=by
 cases r with
 |ok a st=>exact λas' G' H' p l s=>aC.mono p l h
 |exc x st=>exact λas' G' H' cls dx p l s x=>h as' G' H' σ cls dx p l s (er.mono p l) x
 |stuck=>exact h
theorem ag.set {G:Hp} {v:Val} {u:L2.V} (h:Rel T as G v u):∀{xs:List Val} {us:List L2.V} (j:Nat),ag T as G xs us->ag T as G (xs.set j v) (us.set j u)
 |[],_,_,r=>by cases r;rfl
 |_::_,_,0,⟨w,t,e,_,r⟩=>by subst e;exact⟨u,t,rfl,h,r⟩
 |_::_,_,j+1,⟨w,t,e,hw,r⟩=>by subst e;exact⟨w,t.set j u,rfl,hw,ag.set h j r⟩
theorem uG {z x:Val} {ks:List Val} {p:List Val×List Val} (h:∀a∈ks,¬kT a=kT z) (e:putD z x ks vs=some p):ks=[]:=by
 cases ks with
 |nil=>rfl
 |cons a0 ks=>
  have e3:memD z (a0::ks)=none:=if_neg (h a0 aaC);unfold putD at e;rw[e3] at e;cases e
theorem F5 {a b e:Expr} (hu:X.A.units+1<cLine) (ha:PE X a (tE T P cl E ia)) (hb:PE X b (tE T P cl E ib)) (he:PE X e (tE T P cl E ie)) (hn:eQ b=true) (hc:dX e=true):PS X (.Assign [.Subscript a b tpos] e pos) (tS T P cl E (.fG ia ib ie)):=
 PS.mono (zd he (Hr ha hb (jZ.or set_list (set_dict hu)) (by intro v;cases b<;>first|rfl|cases hn)) (by show swapsWith e (some (.Subscript a b tpos)) pos.line X.env=pure false;cases e<;>first|rfl|cases hc) (by cases e<;>rfl) rfl) λD σ H z903=>by
  let⟨env,st,as,G,s,er,h⟩:=z903;dsimp only[PI.S.run] at h;have h2:=of_post h er;refine aA s er h2 λx st1 as1 G1 H1 u s1 er1 r1 p1 l1 h=> ?_;refine aA s1 er1 h λy st2 as2 G2 H2 w s2 er2 r2 p2 l2 h=> ?_;refine aA s2 er2 h λz st3 as3 G3 H3 i s3 er3 r3 p3 l3 h=> ?_
  cases y with
  |ref k=>
   let⟨d,ed,rfl⟩:=r2.mono p3 l3;replace h:ae T as3 G3 (mm k x st3 st3[k]? z) (λa st as' G' _=>aC T as' G' (.next env st) D E) (E σ):=h
   cases e1:st3[k]? with
   |none=>rw[e1] at h;exact h.elim
   |some o=>
    rw[e1] at h;have ob:=s3.ob k o d e1 ed
    cases o with
    |lst xs=>cases z with
     |int j=>
      cases r3;let⟨us,q,r⟩:=ob;let⟨jj,e2,h⟩:=ae.ao h;have rx:=r1.mono (p2.trans p3) (l2.trans l3);have s4:=s3.set (o:= .lst (xs.set jj x)) ed ⟨us.set jj u,ak,ag.set rx jj r⟩;exact .inl ⟨d,us,j,jj,rfl,rfl,q,by rw[←r.length];exact e2,h.ok s4 as3 G3 _ σ (aaj _) (Le.refl _) s4 er3⟩
     |_=>exact h.elim
    |dct ks vs=>
     let⟨⟨hk,hl⟩,h⟩:=ae.iff h;let⟨⟨ks',vs'⟩,e2,h⟩:=ae.ao h;let⟨us,q,r⟩:=ob;have rx:=r1.mono (p2.trans p3) (l2.trans l3);have sz:sizeLine=2^24:=rfl
     have fin:∀{u':HO},eJ T as3 G3 (upd H3 d u') d (.dct ks' vs')->D.nx σ (upd H3 d u'):=λ{u'} o=>by
      have s4:=s3.set (o:= .dct ks' vs') ed o;exact h.ok s4 as3 G3 _ σ (aaj _) (Le.refl _) s4 er3
     refine .inr ⟨d,rfl, ?_⟩
     rcases q with⟨kk,h1,h2,h3⟩|⟨kk,h1,h2,h3⟩<;>rcases mV s3.sub hk r3 with⟨t,κ,k1,rfl⟩|⟨t,κ,b',k1,rfl,k2⟩
     ·let⟨kk',us',z1,z2,z3,z4⟩:=v5 k1 rx h1 h2 r e2;refine .inl ⟨_, .inl ⟨_,κ,h3,rfl, ?_,rfl⟩,fin ⟨us', .inl ⟨kk',z1,z2,by rw[z3];exact ak⟩,z4⟩⟩;rw[abe,←h2,ac7,←(gE h1).1];lia
     ·let⟨z1,z2⟩:=gE h1;have e0:ks=[]:=uG (λa h=>by rw[z2 a h,t];decide) e2;subst e0;cases h1;have e1':us=[]:=aaG h2.symm;subst e1';let⟨kk',us',y1,y2,y3,y4⟩:=vI (kk:=[]) (us:=[]) k1 rx rfl rfl r e2;refine .inr (.inl ⟨h3,_, .inr ⟨[],κ,b',ak,rfl, ?_,aan (by decide:0<2^24) (ac4 sz.symm),rfl⟩, ?_⟩)
      ·rw[aq (qp k2 h3 (λz=>nomatch z))];exact k2
      ·rw[iF];exact fin ⟨us', .inr ⟨kk',y1,y2,by rw[show putK [] κ u=kk'.zip us' from y3];exact ak⟩,y4⟩
     ·let⟨z1,z2⟩:=gk h1;have e0:ks=[]:=uG (λa h=>by rw[z2 a h,t];decide) e2;subst e0;cases h1;have e1':us=[]:=aaG h2.symm;subst e1';let⟨kk',us',y1,y2,y3,y4⟩:=v5 (kk:=[]) (us:=[]) k1 rx rfl rfl r e2;refine .inr (.inr ⟨h3,_, .inl ⟨[],κ,ak,rfl,aan (by decide:0<2^24) (ac4 sz.symm),rfl⟩, ?_⟩);rw[iF];exact fin ⟨us', .inl ⟨kk',y1,y2,by rw[show putK [] κ u=kk'.zip us' from y3];exact ak⟩,y4⟩
     ·let⟨kk',us',z1,z2,z3,z4⟩:=vI k1 rx h1 h2 r e2;refine .inl ⟨_, .inr ⟨_,κ,b',h3,rfl,k2, ?_,rfl⟩,fin ⟨us', .inr ⟨kk',z1,z2,by rw[z3];exact ak⟩,z4⟩⟩;rw[abe,←h2,ac7,←(gk h1).1];lia
    |ins c ns vs=>exact h.elim
  |_=>exact h.elim
end
end PI
namespace L2.L3
open PySem PySem.Spec PyProof.Rows
def BG (K:PySem.W.Frag):List V->Hp->VK->Prop:=λxs H Q=>∃a n b,xs=[.ref a, .ty n]/\((∃ys,bK K H a ys/\PySem.W.kitOne K (.type "list") (.type n)=some b)∨(∃ys,cO K H a ys/\PySem.W.kitOne K (.type "tuple") (.type n)=some b)∨
 (∃kvs,Rd H a (.dK kvs)/\PySem.W.kitOne K (.type "dict") (.type n)=some b)∨∃kvs,Rd H a (.dT kvs)/\PySem.W.kitOne K (.type "dict") (.type n)=some b)/\Q (.bl b) H
theorem xS {X:Cx}:ar X (.builtin "isinstance") (BG X.K):=by
 intro pins s σ H xs us Q I r h;let⟨a,n,b,rfl,h,q⟩:=h;let⟨u,v,rfl,r1,r2⟩:=Vals.two r;cases r2;cases (show u=Value.ref a from r1);have fin:∀tk,EP X pins σ Q (.bool b) {s with toks:=tk}:=λtk=>⟨.bl b,H,I.tok tk,rfl,q⟩
 rcases h with⟨ys,h,k⟩|⟨ys,h,k⟩|⟨kvs,h,k⟩|⟨kvs,h,k⟩
 ·let⟨its,_,⟨o,m,e1,e2,_⟩,_⟩:=I.list h;exact aaM acY I.cB ⟨o,e1,e2⟩ k (λz=>nomatch z) fin
 ·let⟨its,_,⟨o,e1,e2,_⟩,_⟩:=I.tuple h;exact aaM PySem.W.kitx_tuple I.cB ⟨o,e1,e2⟩ k (λz=>nomatch z) fin
 ·let⟨_,_,vs,_,p⟩:=fQ I.ah h;let⟨o,es,ep,h1,h2,_⟩:=p;exact aaM acr I.cB ⟨o,h1,h2.1⟩ k (λz=>nomatch z) fin
 ·let⟨_,_,xs,_,o,es,ep,h1,h2,_⟩:=fS I.ah h;exact aaM acr I.cB ⟨o,h1,h2.1⟩ k (λz=>nomatch z) fin
end L2.L3
namespace PI
open PySem PySem.Spec L2 L2.L3 L2.L4 PySem.SeqAt
open PyProof.Rows hiding St lobj
section
variable {T:CT} {P:Pg} {cl:au} {E:XS} {X:Cx} {pos:Pos}
def vF (K:PySem.W.Frag):Prop:=∀a n,a∈["NoneType","bool","int","str","tuple","list","dict"]->n∈["bool","int","str","tuple","list","dict"]->PySem.W.kitOne K (.type a) (.type n)=some (a==n||(a=="bool"&&n=="int"))
theorem yN {y:Str} {n:String} (h:mE y=some n):n∈["bool","int","str","tuple","list","dict"]/\bootBuiltins y=some (.type n)/\y≠"__name__"/\(y==("__debug__":Str))=false:=by
 unfold mE at h;split at h
 ·rename_i z;subst z;cases h;exact⟨by decide,PyProof.Rows.Boot.«bool»,by decide,by decide⟩
 split at h
 ·rename_i z;subst z;cases h;exact⟨by decide,PyProof.Rows.Boot.«int»,by decide,by decide⟩
 split at h
 ·rename_i z;subst z;cases h;exact⟨by decide,PyProof.Rows.Boot.«str»,by decide,by decide⟩
 split at h
 ·rename_i z;subst z;cases h;exact⟨by decide,PyProof.Rows.boot_tuple,by decide,by decide⟩
 split at h
 ·rename_i z;subst z;cases h;exact⟨by decide,PyProof.Rows.Boot.«list»,by decide,by decide⟩
 split at h
 ·rename_i z;subst z;cases h;exact⟨by decide,PyProof.Rows.Boot.«dict»,by decide,by decide⟩
 cases h
theorem Eg {G H:Hp} {v:Val} {u:L2.V} {n:String} {b:Bool} {Q:VK} (hK:T.K=X.K) (kt:vF X.K) (l:Le G H) (hn:n∈["bool","int","str","tuple","list","dict"]) (r:dG T as G H v u) (e:bZ n v=some b) (q:Q (.bl b) H):(BS X.K [u, .ty n] H Q∨BG X.K [u, .ty n] H Q):=by
 have kk:=λa h=>kt a n h hn
 have sy:∀a:String,(a==n)=(n==a):=λa=>by
  by_cases h:a=n
  ·rw[h]
  ·rw[beq_eq_false_iff_ne.mpr h,beq_eq_false_iff_ne.mpr (Ne.symm h)]
 have fin1:∀{c:Bool} {a:String},Q (.bl c) H->(a=="bool")=false->Q (.bl (c||(a=="bool"&&n=="int"))) H:=λ{c a} h e=>by
  rw[e,Bool.false_and,Bool.or_false];exact h
 cases v with
 |non=>
  cases r;cases e;have:=kk "NoneType" (by decide);refine .inl ⟨_,_,n,_,rfl, .non,this, ?_⟩
  have z:("NoneType"==n||("NoneType"=="bool"&&n=="int"))=false:=by
   have:"NoneType"≠n:=λz=>by rw[←z] at hn;exact absurd hn (by decide)
   rw[beq_eq_false_iff_ne.mpr this,show ("NoneType"=="bool")=false from by decide];rfl
  rw[z];exact q
 |bl t=>
  cases r;cases e;refine .inl ⟨_,_,n,_,rfl, .bl t,kk "bool" (by decide), ?_⟩;rw[sy,show ("bool"=="bool")=true from by decide,Bool.true_and];exact q
 |int t=>
  cases r;cases e;refine .inl ⟨_,_,n,_,rfl, .int t,kk "int" (by decide), ?_⟩;rw[sy];exact fin1 q (by decide)
 |str t=>
  cases r;cases e;refine .inl ⟨_,_,n,_,rfl, .str t,kk "str" (by decide), ?_⟩;rw[sy];exact fin1 q (by decide)
 |tup f xs=>
  let⟨a,us,rfl,h1,h2⟩:=r;cases e;refine .inr ⟨a,n,_,rfl, .inr (.inl ⟨us,cK l h1,kk "tuple" (by decide)⟩), ?_⟩;rw[sy];exact fin1 q (by decide)
 |lst xs=>
  let⟨a,us,rfl,h1,h2⟩:=r;cases e;refine .inr ⟨a,n,_,rfl, .inl ⟨us,hK▸h1,kk "list" (by decide)⟩, ?_⟩;rw[sy];exact fin1 q (by decide)
 |dct ks vs=>
  let⟨a,us,rfl,h1,h2⟩:=r;cases e
  have q2:Q (.bl ("dict"==n||("dict"=="bool"&&n=="int"))) H:=by
   rw[sy];exact fin1 q (by decide)
  rcases h1 with⟨_,_,_,h⟩|⟨_,_,_,h⟩
  ·exact .inr ⟨a,n,_,rfl, .inr (.inr (.inl ⟨_,h,kk "dict" (by decide)⟩)),q2⟩
  ·exact .inr ⟨a,n,_,rfl, .inr (.inr (.inr ⟨_,h,kk "dict" (by decide)⟩)),q2⟩
 |obj c ns vs=>cases e
 |ref k=>cases e
theorem Gz {a:Expr} {n:String} {x y:Str} {p:Pos} (hK:T.K=X.K) (kt:vF X.K) (hx:x="isinstance") (hy:mE y=some n) (ha:PE X a (tE T P cl E ia)) (gx:Gl X x) (mx:X.mg x=none) (gy:Gl X y) (my:X.mg y=none) (hs:notStar a=true):
  PE X (.Call (.Name x p) [a, .Name y p2] [] pos) (tE T P cl E (.bi (.bZ n) [ia])):=by
 subst hx;let⟨t1,t2,t3,t4⟩:=yN hy;refine PE.mono (q0 ((xR (X:=X)).or xS) gx mx PyProof.Rows.Boot.«isinstance» (fY ha (fY (Ed (v:= .ty n) gy my t2 rfl t3 t4) jR rfl) (by cases a<;>first|rfl|cases hs)) (by decide) (by decide) (by cases a<;>first|rfl|cases hs) rfl) λσ H Q zq15=> ?_;let⟨env,st,as,G,s,er,h⟩:=zq15;dsimp only[PI.E.run] at h
 replace h:ae T as G (((ia.run P cl env st).bind λx st=> .ok [x] st).bind λxs st=>o6 (.bZ n) (xs.map (res st)) st) (λv _ as' G' H'=>∀u,Rel T as' G' v u->Q u H') (E σ):=by
  have z:aM P cl [ia] env st=(ia.run P cl env st).bind λx st=> .ok [x] st:=by
   unfold aM;rfl
  rw[z] at h;exact h
 rw[R.bind_assoc] at h;refine aA s er h λx st1 as1 G1 H1 u s1 er1 r1 p1 l1 h=> ?_;let⟨v,e,h⟩:=ae.dj (show ae T as1 G1 (R.ao ((bZ n (res st1 x)).map .bl) st1) (λv _ as' G' H'=>∀u,Rel T as' G' v u->Q u H') (E σ) from h);let⟨b,e1,rfl⟩:=aab.mp e;exact Eg hK kt s1.sub t1 (bc s1 r1) e1 (h.ok s1 _ rfl)
theorem zf {k:Nat} {f C:Addr} {ps:List Str} {sp:Sp} {σ:St} {H:Hp} {s:Shared} {Q:VK} {us:List Value} (M:Mk X.K C f) (F:FnOk X.prog X.w X.K X.mg X.base (dz X.prog X.w) k f fd ps sp) (hr:Room (k+1) X.A) (hb:Binds X.K fd ps []) (hx:cx X)
  (I:Inv (X.af (L4.XE X E)) pins σ H s) (r:Vals vs us) (h:∀x dx,H x=none->H dx=none->dx≠x->sp (.ref x::vs) (upd (upd H dx (.own x)) x (.ins C dx [])) (λv H2=>v= .non/\Q (.ref x) H2) (E σ)):
  wpAny (model X.prog X.w) X.A (PySem.call (.ref C) us) (EP (X.af (L4.XE X E)) pins σ Q) (L4.XE X E) s:=by
 have hq:=h (s.heap.objs.size+1) s.heap.objs.size (I.ah.fresh (Nat.le_succ _)) (I.ah.fresh (aah _)) (aau (acb _));have I2:=Inv.made (C:=C) I;have r2:Vals (V.ref (s.heap.objs.size+1)::vs) (Value.ref (s.heap.objs.size+1)::us):= .cons rfl r
 have hl:(Value.ref (s.heap.objs.size+1)::us++[]).length=ps.length:=by
  have e:=r2.length;rw[F.len _ _ _ _ hq] at e;rw[abc];exact e.symm
 have hb':=hb _ (Value.ref (s.heap.objs.size+1)::us) I2.cB hl;rw[abc] at hb'
 refine wpAny_call (zS (f:=f) I.cB M.makes M.init (beq_iff_eq.mp M.fn) (acN (F.run _ X.stack _ _ ⟨Value.ref (s.heap.objs.size+1)::us,[]⟩ (Value.ref (s.heap.objs.size+1)::us) _ _ (E σ) (hr.make C us [])
  (I2.AE.make C us []) hb' r2 hq) λr s' hq'=> ?_))
 cases r with
 |error e=>exact L4.yF hx I2 hq'
 |ok fl=>
  cases fl with
  |ret u=>
   let⟨v,H',I3,rv,ev,q3⟩:=I2.after hq';subst ev;exact⟨rv,⟨V.ref (s.heap.objs.size+1),H',I3,rfl,q3⟩⟩
  |next=>exact False.elim hq'
  |brk=>exact False.elim hq'
  |cont=>exact False.elim hq'
theorem make_core {n c fi:Nat} {C:Addr} {st:aa} {as:List Addr} {G H:Hp} {Q:VK} {Z:XK} (hC:T.ca c=C) (hX:T.xc c=false) (s:Sim T st as G H) (r:ag T as G xs vs)
  (h:ae T as G ((call P n fi (.ref st.length::xs) (st++[.ins c [] []])).bind λv st'=>rP v (fin P st (.ref st.length) st')) (λv _ as' G' H'=>∀u,Rel T as' G' v u->Q u H') Z) (x dx:Addr) (hx:H x=none) (hd:H dx=none) (ne:dx≠x):
  fj T P n fi (.ref x::vs) (upd (upd H dx (.own x)) x (.ins C dx [])) (λv H2=>v= .non/\Q (.ref x) H2) Z:=by
 subst hC
 have hx1:upd H dx (.own x) x=none:=by rw[aq (Ne.symm ne)];exact hx
 have s1:Sim T st as G (upd H dx (.own x)):=by
  let⟨n1,n2⟩:=s.fresh hd;refine⟨s.len,s.nd,s.sub.up n2,s.off,λm o a h1 h2=>(s.ob m o a h1 h2).at (aq λz=>n1 ?_)⟩;rw[←z];exact aas h2
 have s2:Sim T (st++[.ins c [] []]) (as++[x]) G (upd (upd H dx (.own x)) x (.ins (T.ca c) dx [])):=s1.push hx1 ⟨dx,[],hX,ak,rfl,rfl⟩;refine⟨st++[.ins c [] []],as++[x],G, .ref st.length::xs,s2,⟨.ref x,vs,rfl,⟨x,by rw[←s.len,aam (aah _)];simp,rfl⟩,r.mono (aax _ _) (Le.refl _)⟩, ?_⟩
 cases e:call P n fi (.ref st.length::xs) (st++[.ins c [] []]) with
 |stuck=>rw[e] at h;exact h.elim
 |exc y st'=>
  rw[e] at h;exact λas' G' H' cls dx p l s' ex=>h as' G' H' cls dx ((aax _ _).trans p) l s' ex
 |ok v st'=>
  rw[e] at h;intro as' G' H' p l s' u ru;replace h:ae T as G (rP v (fin P st (.ref st.length) st')) (λv _ as' G' H'=>∀u,Rel T as' G' v u->Q u H') Z:=h
  cases v with
  |non=>
   cases ru;refine⟨rfl,qZ (v:= .ref st.length) (u:= .ref x) s1 s' ((aax _ _).trans p) l ⟨x, ?_,rfl⟩ h⟩;refine kj p ?_;rw[←s.len,aam (aah _)];simp
  |_=>exact h.elim
theorem ED {k n c fi:Nat} {K':Cl} {C f:Addr} {ps:List Str} {x:Str} {p:Pos} {e:Expr} {es:List Expr} {ies:List PI.E} (hk:P.cl c=some K') (hi:K'.init=some fi) (hC:T.ca c=C) (hX:T.xc c=false) (M:Mk X.K C f) (F:FnOk X.prog X.w X.K X.mg X.base (dz X.prog X.w) k f fd ps (fj T P n fi)) (hr:Room (k+1) X.A) (hb:Binds X.K fd ps []) (hx:cx X) (hg:Gl X x) (hm:X.mg x=some (.ref C))
  (ha:PA (X.af (L4.XE X E)) (e::es) (ft T P (call P n) E ies)) (hdb:(x==("__debug__":Str))=false) (he:starEach (e::es) X.env=(false,eval e X.env)::starEach es X.env) (hpl:(backTo pos (starEach es X.env)).any (·.1)=false):
  PE (X.af (L4.XE X E)) (.Call (.Name x p) (e::es) [] pos) (tE T P (call P n) E (.make c ies)):=by
 intro pins s σ H Q I ⟨env,st,as,G,sm,er,h⟩;dsimp only[PI.E.run] at h;rw[hk] at h;replace h:ae T as G ((aM P (call P n) ies env st).bind λxs st=>kB P (call P n) c xs st (some K'.init)) (λv _ as' G' H'=>∀u,Rel T as' G' v u->Q u H') (E σ):=h;rw[hi] at h;have h2:=dq (K:=λus H1=>∀x dx,H1 x=none->H1 dx=none->dx≠x->fj T P n fi (.ref x::us) (upd (upd H1 dx (.own x)) x (.ins C dx [])) (λv H2=>v= .non/\Q (.ref x) H2) (E σ)) sm er h λxs st1 as1 G1 H1 us s1 er1 r1 p1 l1 h=>make_core hC hX s1 r1 h;refine abm (gg I hg hm ?_ hdb);refine PySem.W.callWith_K (h₀:=X.base) I.ok.mod.kin M.kp (aw (ha pos pins s σ H _ I h2) λus s1 zq16=> ?_) he hpl;let⟨vs,H1,I1,r,q⟩:=zq16;refine⟨I1.cB, ?_⟩;exact zf M F hr hb hx I1 r q
theorem s8 {T:CT} {G:Hp} {f:Str} {x:Val} {u:L2.V} (hx:Rel T as G x u):∀{ns:List Str} {vs:List Val} {us:List L2.V},ns.length=us.length->ag T as G vs us->∃us',(aU ns vs f x).1.zip us'=L2.aU f u (ns.zip us)/\(aU ns vs f x).1.length=us'.length/\ag T as G (aU ns vs f x).2 us'
 |[],vs,us,hl,r=>by
  have e0:us=[]:=aaG hl.symm;subst e0;exact⟨[u],rfl,rfl,⟨u,[],rfl,hx,rfl⟩⟩
 |n::ns,[],us,hl,r=>by
  cases r;cases hl
 |n::ns,v::vs,us,hl,r=>by
  let⟨w,t,rfl,h1,h2⟩:=r
  by_cases z:n=f
  ·refine⟨u::t, ?_, ?_, ?_⟩
   ·simp only[aU,if_pos z,aaR,L2.aU]
   ·simp only[aU,if_pos z];exact hl
   ·simp only[aU,if_pos z];exact⟨u,t,rfl,hx,h2⟩
  ·let⟨us',e1,e2,e3⟩:=s8 (f:=f) hx (ns:=ns) (vs:=vs) (us:=t) (by simpa using hl) h2;refine⟨w::us', ?_, ?_, ?_⟩
   ·simp only[aU,if_neg z,aaR,L2.aU,e1]
   ·simp only[aU,if_neg z,aaw,e2]
   ·simp only[aU,if_neg z];exact⟨w,us',rfl,h1,e3⟩
theorem Fq {e:Expr} {f:Str} (hK:T.K=X.K) (C:COk T P) (hf:∀(c:Nat) k,P.cl c=some k->f∈k.flds->k.exc=false) (ho:PE X o (tE T P cl E io)) (he:PE X e (tE T P cl E ie)) (hs:swapsWith e (some (.Attribute o f pos')) pos.line X.env=pure false):
  PS X (.Assign [.Attribute o f pos'] e pos) (tS T P cl E (.dh io f ie)):=
 PS.mono (EI ho he hs) λD σ H z903=>by
  let⟨env,st,as,G,s,er,h⟩:=z903;dsimp only[PI.S.run] at h;have h2:=of_post h er;refine aA s er h2 λx st1 as1 G1 H1 u s1 er1 r1 p1 l1 h=> ?_;refine aA s1 er1 h λy st2 as2 G2 H2 w s2 er2 r2 p2 l2 h=> ?_
  cases y with
  |ref k=>
   let⟨a,ea,rfl⟩:=r2;replace h:ae T as2 G2 (qw P k f x st2 st2[k]?) (λa st as' G' _=>aC T as' G' (.next env st) D E) (E σ):=h
   cases e1:st2[k]? with
   |none=>rw[e1] at h;exact h.elim
   |some o'=>
    rw[e1] at h;have ob:=s2.ob k o' a e1 ea
    cases o' with
    |ins c ns vs=>
     let⟨⟨c1,c2⟩,h⟩:=ae.iff h;let⟨k',e2,e3⟩:=uK c1;have ex:=hf c k' e2 e3;let⟨dx,us,x0,q,n,r⟩:=ob;let⟨us',z1,z2,z3⟩:=s8 (f:=f) (r1.mono p2 l2) n r;have s4:=s2.set (o:= .ins c (aU ns vs f x).1 (aU ns vs f x).2) (u:= .ins (T.ca c) dx (L2.aU f u (ns.zip us))) ea ⟨dx,us',x0,by rw[z1];exact ak,z2,z3⟩;refine⟨a,T.ca c,dx,_,rfl,q,hK▸C.cl c k' e2 ex,hK▸C.na c k' f e2 ex e3, ?_,h.ok s4 as2 G2 _ σ (aaj _) (Le.refl _) s4 er2⟩;rw[abe];lia
    |lst xs=>exact h.elim
    |dct ks vs=>exact h.elim
  |_=>exact h.elim
theorem FP {e:Expr} {t:PI.T} (he:PE X e (tE T P cl E ie)) (hg:PG X tg (tG T t)) (hs:swapsWithSole [tg] e pos.line X.env=pure false) (hw:swappedStores [tg] e X.env=pure none) (h1:(assignEach [tg] X.env).map (·.2)=[assign tg X.env]):PS X (.Assign [tg] e pos) (tS T P cl E (.set t ie)):=
 PS.mono (zd he hg hs hw h1) λD σ H z903=>by
  let⟨env,st,as,G,s,er,h⟩:=z903;dsimp only[PI.S.run] at h;refine qf s er h λv st1 as1 G1 H1 u s1 er1 r1 h=> ?_
  cases e1:t.put v env with
  |none=>rw[e1] at h;exact h.elim
  |some env'=>
   rw[e1] at h;exact⟨env,st1,as1,G1,v,env',s1,er1,r1,e1,λσ' er'=>h as1 G1 H1 σ' (aaj _) (Le.refl _) s1 er'⟩
theorem GO {x:Str} {v:Val} {u:L2.V} {uv:Value} (hg:Gl X x) (hm:X.mg x=some uv) (r:RelV u uv) (hr:∀as G,Rel T as G v u) (hd:(x==("__debug__":Str))=false):PE X (.Name x pos) (tE T P cl E (.const v)):=
 PE.mono (uc hg hm r hd) λσ H Q z903=>by let⟨env,st,as,G,s,er,h⟩:=z903;exact h.ok s _ (hr _ _)
theorem xq {st:aa} {G H:Hp} {x:Val} {u:L2.V} {it:List Val×List (Nat×Ob)} (s:Sim T st as G H) (r:Rel T as G x u) (e:itemsOf st x=some it):∃a b,u= .ref a/\Src T b a it.1 it.2 as G/\(Cv (res st x)=true->b=true)/\∃us,fK b T.K H a us:=by
 cases x with
 |tup f xs=>
  cases e;let⟨a,us,rfl,q,r⟩:=r;exact⟨a,false,rfl, .inl ⟨us,qB q,r⟩,λz=>(by cases z),us,cK s.sub q⟩
 |lst xs=>
  cases e;let⟨a,us,rfl,q,r⟩:=r;exact⟨a,true,rfl, .inl ⟨us,q,r⟩,λ_=>rfl,us,gA s.sub q⟩
 |ref n=>
  let⟨a,ea,rfl⟩:=r;replace e:iH n st[n]?=some it:=e
  cases e1:st[n]? with
  |none=>rw[e1] at e;cases e
  |some o=>
   rw[e1] at e;have ob:=s.ob n o a e1 ea
   cases o with
   |lst xs=>
    cases e;let⟨us,q,r⟩:=ob;exact⟨a,true,rfl, .inr ⟨rfl,n,by simp,ea⟩,λ_=>rfl,us, .inl (.inl q)⟩
   |dct ks vs=>cases e
   |ins c ns vs=>cases e
 |_=>cases e
theorem A2 {st:aa} {G H:Hp} {p:Addr} (s:Sim T st as G H) (hp:H p=none) (r:ag T as G xs us):∃G',Le G G'/\Sim T st as G' (upd H p (.tup us))/\Rel T as G' (.tup false xs) (.ref p):=by
 have l:Le G (upd G p (.tup us)):=Le.new (s.fresh hp).2;exact⟨_,l,s.qv hp,p,us,rfl,(show upd G p (.tup us) p=_ from ak),r.mono (aaj _) l⟩
theorem kz:∀(xs ys:List Val),ys.length<=xs.length->(eD xs ys).length=ys.length
 |[],[],_=>rfl
 |_::_,[],_=>rfl
 |x::xs,y::ys,h=>by unfold eD;rw[aaw,kz xs ys (by simpa using h),aaw]
theorem zip_get:∀(xs ys:List Val) (j:Nat) (x y:Val),xs[j]?=some x->ys[j]?=some y->(eD xs ys)[j]?=some (.tup false [x,y])
 |[],_,_,_,_,h,_=>by cases h
 |_::_,[],_,_,_,_,h=>by cases h
 |x::xs,y::ys,0,_,_,h,h'=>by
  cases h;cases h';rfl
 |x::xs,y::ys,j+1,_,_,h,h'=>zip_get xs ys j _ _ h h'
theorem Kept.left {c d:List (Nat×Ob)} {st:aa} (h:Kept (c++d) st):Kept c st:=λp hp=>h p (aaY _ hp)
theorem Kept.right {c d:List (Nat×Ob)} {st:aa} (h:Kept (c++d) st):Kept d st:=λp hp=>h p (aaA _ hp)
theorem xH (b1 b2:Bool) (a1 a2:Addr) (xs ys:List Val) (c d:List (Nat×Ob)) (hl:ys.length<=xs.length):Walks T (CB T.K b1 a1 b2 a2) (eD xs ys) (c++d) (λas G=>Src T b1 a1 xs c as G/\Src T b2 a2 ys d as G) where
 mono p l h:=⟨h.1.mono p l,h.2.mono p l⟩
 stop s kp h:=by
  let⟨us,q,r⟩:=h.1.now s kp.left;let⟨us2,q2,r2⟩:=h.2.now s kp.right;have n1:=r.length;have n2:=r2.length;have n3:=kz _ _ hl;refine⟨us,q, ?_⟩
  by_cases e:us.length=(eD xs ys).length
  ·exact .inl e
  ·exact .inr ⟨by lia,us2,q2,by lia⟩
 go hi s kp h:=by
  let⟨us,q,r⟩:=h.1.now s kp.left;let⟨us2,q2,r2⟩:=h.2.now s kp.right;rw[kz _ _ hl] at hi;let⟨u,e,_⟩:=r.get (aae (aan hi hl));let⟨u2,e2,_⟩:=r2.get (aae hi);exact⟨us,us2,u,u2,q,q2,e,e2⟩
 yld {st as G H x H' i} hi s kp h y:=by
  let⟨us,q,r⟩:=h.1.now s kp.left;let⟨us2,q2,r2⟩:=h.2.now s kp.right;rw[kz _ _ hl] at hi;let⟨u,e,hr⟩:=r.get (aae (aan hi hl));let⟨u2,e2,hr2⟩:=r2.get (aae hi);let⟨p,w,w2,rfl,hp,rfl,z,z2⟩:=y;have z':=z us q;have z2':=z2 us2 q2;rw[e] at z';rw[e2] at z2';cases z';cases z2';let⟨G',l,s',rr⟩:=A2 (xs:=[xs[i]'(aan hi hl),ys[i]]) (us:=[u,u2]) s hp ⟨u,[u2],rfl,hr,u2,[],rfl,hr2,rfl⟩;exact⟨_,G',zip_get xs ys i _ _ (aae (aan hi hl)) (aae hi),l,s',rr⟩
theorem Jw {a b:Expr} {x1:Nat} {tp p:Pos} (hK:T.K=X.K) (hg:Gl X "zip") (hm:X.mg "zip"=none) (ha:PA X [a,b] (ft T P cl E [ia,ib])) (hs:starEach [a,b] X.env=[(false,eval a X.env),(false,eval b X.env)]) (hs2:starEach [b] X.env=[(false,eval b X.env)]):
  L2.PI X (.Tuple elts x1 tp) (.Call (.Name "zip" p) [a,b] [] pos) (tQ T P cl E (.zip ia ib)):=
 PI.mono (E3 hg hm ha hs hs2) λσ H R z903=>by
  let⟨env,st,as,G,s,er,h⟩:=z903;unfold PI.Q.run at h;refine Eh s er h λx y st1 as1 G1 H1 u u' s1 er1 r1 r2 h=> ?_
  cases e1:itemsOf st1 x with
  |none=>rw[e1] at h;exact h.elim
  |some it1=>cases e2:itemsOf st1 y with
   |none=>rw[e1,e2] at h;exact h.elim
   |some it2=>
    rw[e1,e2] at h;let⟨hl,h⟩:=ae.iff (show ae T as1 G1 (PI.iff (it2.1.length<=it1.1.length) (.ok (eD it1.1 it2.1,it1.2++it2.2) st1)) _ _ from h);let⟨a1,b1,rfl,sr1,_,us1,q1⟩:=xq s1 r1 e1;let⟨a2,b2,rfl,sr2,_,us2,q2⟩:=xq s1 r2 e2;exact⟨a1,a2,b1,b2,rfl,⟨us1,hK▸q1⟩,⟨us2,hK▸q2⟩,hK▸h.ok s1 (CB T.K b1 a1 b2 a2) _ (xH b1 b2 a1 a2 it1.1 it2.1 it1.2 it2.2 hl) ⟨sr1,sr2⟩⟩
theorem rE {α:Type}:∀(l:List (Array α)) (acc:Array α),(l.foldl (· ++ ·) acc).toList=acc.toList++(l.map Array.toList).flatten
 |[],acc=>by simp
 |a::l,acc=>by
  rw[List.foldl_cons,rE l];simp
theorem Ai (z:Str) (k:Int) (h:0<=k):jN z k.toNat=Txt.mul z k:=by
 unfold jN Txt.mul;split
 ·rw[show k.toNat=0 by lia];rfl
 ·split
  ·rename_i h1 h2;rw[abI,abw,abw] at h2
   rcases h2 with h2|h2
   ·subst h2;simp
   ·have e:z.cps.toList=[]:=aaG (by simpa[Str.length] using h2);rw[e];have e2:z.cps=#[]:=acC.mp e
    have e3:(List.replicate k.toNat ([]:List Nat)).flatten=([]:List Nat):=by simp
    rw[e3];cases z;simp at e2;rw[e2]
  ·congr 1;apply acC.mp;rw[rE];simp
theorem DJ:aF X (binaryOp .Mult) (cZ T (eO .Mult)):=by
 intro pins s σ H u w uv wv Q I ru rw' ⟨st,as,G,x,y,Z,sm,r1,r2,p⟩
 cases x with
 |str z=>cases y with
  |int k=>
   cases r1;cases r2;let⟨⟨c1,c2,c3⟩,p⟩:=ae.iff (show ae T as G (PI.iff (0<=k/\k<=1000/\z.length<=1000) (.ok (.str (jN z k.toNat)) st)) (PV T Q) Z from p);refine CZ pins s σ H _ _ uv wv Q I ru rw' ⟨z,k,rfl,rfl,c1,c2,c3, ?_⟩;rw[←Ai z k c1];exact p.ok sm _ rfl
  |_=>exact p.elim
 |int i=>exact CN pins s σ H u w uv wv Q I ru rw' ⟨st,as,G, .int i,y,Z,sm,r1,r2,p⟩
 |_=>exact p.elim
theorem EK {e f:Expr} (hu:X.A.units+1<cLine) (ho:PE X o (tE T P cl E io)) (he:PE X e (tE T P cl E ie)) (hf:PE X f (tE T P cl E jf)) (m:M2 X o "get" apos e f pos):PE X (.Call (.Attribute o "get" apos) [e,f] [] pos) (tE T P cl E (.bm .get io [ie,jf])):=by
 intro pins s σ H Q I ⟨env,st,as,G,sm,er,h⟩;dsimp only[PI.E.run] at h
 have h2:=aA (K:=λu H1=>∃a,u= .ref a/\BQ H1 a/\tE T P cl E ie σ H1 λy H2=>tE T P cl E jf σ H2 λz H3=>∃ov,DG H3 a y ov/\Q (ov.getD z) H3) sm er h λv st1 as1 G1 H1 u s1 er1 r1 p1 l1 h=>by
  let⟨c,h⟩:=ae.iff h;have rr:=bc s1 r1
  have cd:∃ks vs,res st1 v= .dct ks vs:=by
   generalize res st1 v=y at c
   cases y<;>first|(cases c;done)|exact⟨_,_,rfl⟩
  let⟨ks,vs,ev⟩:=cd;rw[ev] at rr;let⟨a,us,rfl,d,rv⟩:=rr;refine⟨a,rfl,yf d, ?_⟩
  replace h:ae T as1 G1 (((ie.run P cl env st1).bind λx st=>(jf.run P cl env st).bind λy st=> .ok [x,y] st).bind λxs st=>kJ .get v xs st) (λv _ as' G' H'=>∀u,Rel T as' G' v u->Q u H') (E σ):=by
   have z:aM P cl [ie,jf] env st1=(ie.run P cl env st1).bind λx st=>(jf.run P cl env st).bind λy st=> .ok [x,y] st:=by
    unfold aM;congr 1;funext x st;unfold aM;rw[R.bind_assoc];rfl
   rw[z] at h;exact h
  rw[R.bind_assoc] at h;refine aA s1 er1 h λk st2 as2 G2 H2 w s2 er2 r2 p2 l2 h=> ?_;rw[R.bind_assoc] at h;refine aA s2 er2 h λx st3 as3 G3 H3 w3 s3 er3 r3 p3 l3 h=> ?_;replace h:ae T as3 G3 (qX (res st3 v) [k,x] st3) (λv _ as' G' H'=>∀u,Rel T as' G' v u->Q u H') (E σ):=h;have r4:=bc s3 (r1.mono (p2.trans p3) (l2.trans l3));generalize res st3 v=y at h r4
  cases y with
  |dct ks vs=>
   let⟨hk,h⟩:=ae.iff h;let⟨b,e,h⟩:=ae.dj h;let⟨r,e1,rfl⟩:=aab.mp e;let⟨a',us',ea,d',rv'⟩:=r4;cases ea;let⟨ro,g,og⟩:=vJ s3.sub d' rv' hk (r2.mono p3 l3) e1;refine⟨ro,g, ?_⟩
   cases r<;>cases ro<;>first|exact og.elim|exact h.ok s3 _ r3|exact h.ok s3 _ og
  |_=>exact h.elim
 refine wpAny_Call_method m.base m.few m.line PySem.F.plainAttrs_dict aaO PySem.F.type_dict_get (aw (ho pins s σ H _ I h2) λu s1 z902=> ?_);let⟨x,H1,I1,rx,a,ex,d,q1⟩:=z902;subst ex;obtain rfl:u=Value.ref a:=rx;let⟨t1,t2,_⟩:=wR I1 d;refine⟨t1,t2, ?_⟩;rw[m.trees];refine ab2 rfl (acd (ack (aw (he pins s1 σ H1 _ I1 q1) λiv s2 zq17=> ?_)));let⟨y,H2,I2,ry,q2⟩:=zq17;refine ack (aw (hf pins s2 σ H2 _ I2 q2) λfv s3 zq18=> ?_);let⟨z,H3,I3,rz,ov,g,q3⟩:=zq18;refine acZ ?_;exact Ea hu I3 g ry rz λw' s4 I4 rw'=>⟨_,H3,I4,rw',q3⟩
end
def fe:List Val->Bool
 | .tup _ (k::_)::_=>kT k
 |_=>false
theorem mh {x:Val} (h:pairD (x::r) ks vs=some (ks',vs')):∃k v p,x= .tup false [k,v]/\dv k=true/\putD k v ks vs=some p/\pairD r p.1 p.2=some (ks',vs'):=by
 unfold pairD at h;split at h
 ·rename_i z;cases z
 ·rename_i k v r' z;cases z;split at h
  ·rename_i hk;let⟨p,e1,e2⟩:=aao.mp h;exact⟨k,v,p,rfl,hk,e1,e2⟩
  ·cases h
 ·cases h
theorem vg {k:Val}:∀{ks:List Val},ks≠[]->(∀a∈ks,kT a≠kT k)->memD k ks=none
 |[],h,_=>absurd rfl h
 |a::ks,_,h=>by
  show (if kT a=kT k then _ else none)=none;rw[if_neg (h a aaC)]
section
variable {T:CT} {as:List Addr} {G H:Hp}
theorem ux (l:Le G H):∀{xs:List Val} {ys:List L2.V} {ks vs ks' vs':List Val} {kk:List (List Key)} {us:List L2.V},ag T as G xs ys->bj ks=some kk->kk.length=us.length->ag T as G vs us->(ks=[]->xs=[]∨fe xs=true)->pairD xs ks vs=some (ks',vs')->
  ∃kvs kk' us',Paired (BX H) ys kvs/\kvs.length=xs.length/\putAll (kk.zip us) kvs=kk'.zip us'/\bj ks'=some kk'/\kk'.length=us'.length/\ag T as G vs' us'
 |[],ys,ks,vs,ks',vs',kk,us,rx,h1,h2,rv,_,e=>by
  cases rx;cases e;exact⟨[],kk,us, .nil,rfl,rfl,h1,h2,rv⟩
 |x::r,ys,ks,vs,ks',vs',kk,us,rx,h1,h2,rv,ht,e=>by
  let⟨k,v,⟨ks1,vs1⟩,rfl,hk,e1,e2⟩:=mh e;let⟨u,t,rfl,ru,rr⟩:=rx;let⟨q,us0,rfl,hq,r0⟩:=ru;let⟨uk,t0,rfl,rk,uv,t1,rfl,rvv,r1⟩:=r0;cases r1
  rcases mV l hk rk with⟨tk,κ,k1,k2⟩|⟨tk,κ,b,k1,rfl,k2⟩
  ·exfalso
   by_cases z:ks=[]
   ·rcases ht z with z|z
    ·cases z
    ·have:kT k=true:=z;rw[tk] at this;cases this
   ·have:=vg (k:=k) z λa ha=>by rw[(gk h1).2 a ha,tk];decide
    unfold putD at e1;rw[this] at e1;cases e1
  ·let⟨kk1,us1,z1,z2,z3,z4⟩:=vI k1 rvv h1 h2 rv e1
   have ne:ks1≠[]:=λz=>by
    subst z;unfold putD at e1;let⟨bb,_,e4⟩:=aab.mp e1
    cases bb with
    |true=>
     cases ks with
     |nil=>rename_i e3;cases e3
     |cons _ _=>cases e4
    |false=>
     have:=congrArg (λp=>p.1.length) e4;simp at this
   let⟨kvs,kk2,us2,p1,p2,p3,p4,p5,p6⟩:=ux l rr z1 z2 z4 (λz=>absurd z ne) e2;refine⟨(κ,uv)::kvs,kk2,us2, .cons ⟨q,b,rfl,l.ex hq rfl,k2⟩ p1,by simp[p2], ?_,p4,p5,p6⟩;show putAll (putK (kk.zip us) κ uv) kvs=_;rw[z3,p3]
theorem vf (l:Le G H):∀{xs:List Val} {ys:List L2.V} {ks vs ks' vs':List Val} {kk:List Key} {us:List L2.V},ag T as G xs ys->aI ks=some kk->kk.length=us.length->ag T as G vs us->(ks=[]->xs≠[]/\fe xs=false)->pairD xs ks vs=some (ks',vs')->
  ∃kvs kk' us',Paired (B2 H) ys kvs/\kvs.length=xs.length/\putAll (kk.zip us) kvs=kk'.zip us'/\aI ks'=some kk'/\kk'.length=us'.length/\ag T as G vs' us'
 |[],ys,ks,vs,ks',vs',kk,us,rx,h1,h2,rv,_,e=>by
  cases rx;cases e;exact⟨[],kk,us, .nil,rfl,rfl,h1,h2,rv⟩
 |x::r,ys,ks,vs,ks',vs',kk,us,rx,h1,h2,rv,ht,e=>by
  let⟨k,v,⟨ks1,vs1⟩,rfl,hk,e1,e2⟩:=mh e;let⟨u,t,rfl,ru,rr⟩:=rx;let⟨q,us0,rfl,hq,r0⟩:=ru;let⟨uk,t0,rfl,rk,uv,t1,rfl,rvv,r1⟩:=r0;cases r1
  rcases mV l hk rk with⟨tk,κ,k1,rfl⟩|⟨tk,κ,b,k1,k3,k2⟩
  ·let⟨kk1,us1,z1,z2,z3,z4⟩:=v5 k1 rvv h1 h2 rv e1
   have ne:ks1≠[]:=λz=>by
    subst z;unfold putD at e1;let⟨bb,_,e4⟩:=aab.mp e1
    cases bb with
    |true=>
     cases ks with
     |nil=>rename_i e3;cases e3
     |cons _ _=>cases e4
    |false=>
     have:=congrArg (λp=>p.1.length) e4;simp at this
   let⟨kvs,kk2,us2,p1,p2,p3,p4,p5,p6⟩:=vf l rr z1 z2 z4 (λz=>absurd z ne) e2;refine⟨(κ,uv)::kvs,kk2,us2, .cons ⟨q,rfl,l.ex hq rfl⟩ p1,by simp[p2], ?_,p4,p5,p6⟩;show putAll (putK (kk.zip us) κ uv) kvs=_;rw[z3,p3]
  ·exfalso
   by_cases z:ks=[]
   ·have:=(ht z).2;have t2:kT k=false:=this;rw[tk] at t2;cases t2
   ·have:=vg (k:=k) z λa ha=>by rw[(gE h1).2 a ha,tk];decide
    unfold putD at e1;rw[this] at e1;cases e1
end
section
variable {T:CT} {P:Pg} {cl:au} {E:XS} {X:Cx} {pos:Pos}
def Lf (T:CT):List L2.V->Hp->VK->Prop:=λus H Q=>∃st as G x u Z,us=[u]/\Sim T st as G H/\Rel T as G x u/\ae T as G (rl st x) (PV T Q) Z
theorem tZ {st:aa} {G H:Hp} {a:Addr} {b:Bool} {Q:VK} {Z:XK} (s:Sim T st as G H) (r:ag T as G xs ys) (hp:Plain b H a ys) (h:ae T as G (newD xs st) (PV T Q) Z):wN b [.ref a] H Q∨yW b [.ref a] H Q:=by
 let⟨c,h⟩:=ae.iff h;let⟨⟨ks,vs⟩,e,h⟩:=ae.ao h
 have fin:∀{u:HO} (p:Addr),H p=none->eJ T (as++[p]) G (upd H p u) p (.dct ks vs)->Q (.ref p) (upd H p u):=λ{u} p hp o=>by
  have s2:=s.push hp o;refine h (as++[p]) G _ (aax _ _) (Le.refl _) s2 _ ⟨p, ?_,rfl⟩;rw[←s.len,aam (aah _)];simp
 by_cases z:xs=[]∨fe xs=true
 ·let⟨kvs,kk,us,p1,p2,p3,p4,p5,p6⟩:=ux s.sub (kk:=[]) (us:=[]) r rfl rfl (show ag T as G [] [] from rfl) (λ_=>z) e;refine .inl ⟨a,ys,kvs,rfl,hp,p1,by rw[p2];exact c,λp hp=>fin p hp ⟨us, .inr ⟨kk,p4,p5, ?_⟩,p6.mono (aax _ _) (Le.refl _)⟩⟩;rw[show putAll [] kvs=kk.zip us from p3];exact ak
 ·have z1:xs≠[]:=λq=>z (.inl q)
  have z2:fe xs=false:=by
   cases q:fe xs with
   |true=>exact absurd (.inr q) z
   |false=>rfl
  let⟨kvs,kk,us,p1,p2,p3,p4,p5,p6⟩:=vf s.sub (kk:=[]) (us:=[]) r rfl rfl (show ag T as G [] [] from rfl) (λ_=>⟨z1,z2⟩) e;refine .inr ⟨a,ys,kvs,rfl,hp,p1,by rw[p2];exact c,λp hp=>fin p hp ⟨us, .inl ⟨kk,p4,p5, ?_⟩,p6.mono (aax _ _) (Le.refl _)⟩⟩;rw[show putAll [] kvs=kk.zip us from p3];exact ak
theorem BE (hc:X.calm=true) (hu:X.A.units+2<cLine):ar X (.type "dict") (Lf T):=by
 refine ar.imp (((me hc hu (b:=true)).or (mW hc hu (b:=true))).or ((me hc hu (b:=false)).or (mW hc hu (b:=false)))) λus H Q z903=> ?_;let⟨st,as,G,x,u,Z,e,s,r,h⟩:=z903;subst e
 cases x with
 |tup f xs=>
  cases f with
  |false=>exact h.elim
  |true=>
   let⟨a,ys,rfl,⟨o,q1,q2⟩,r⟩:=r;exact .inr (tZ s r ⟨o,s.sub.ex q1 rfl,q2⟩ h)
 |ref k=>
  let⟨a,ea,rfl⟩:=r;replace h:ae T as G (vC st st[k]?) (PV T Q) Z:=h
  cases e1:st[k]? with
  |none=>rw[e1] at h;exact h.elim
  |some o=>
   rw[e1] at h;have ob:=s.ob k o a e1 ea
   cases o with
   |lst xs=>
    let⟨ys,q,r⟩:=ob;exact .inl (tZ s r q h)
   |dct ks vs=>exact h.elim
   |ins c ns vs=>exact h.elim
 |_=>exact h.elim
theorem IS {e:Expr} {p:Pos} (hc:X.calm=true) (hu:X.A.units+2<cLine) (hg:Gl X "dict") (hm:X.mg "dict"=none) (he:PE X e (tE T P cl E ie)) (hs:notStar e=true):PE X (.Call (.Name "dict" p) [e] [] pos) (tE T P cl E (.dOf ie)):=
 PE.mono (oZ (BE hc hu) hg hm PyProof.Rows.Boot.«dict» (fY he jR (by cases e<;>first|rfl|cases hs)) (by decide) (by decide) (by cases e<;>first|rfl|cases hs) rfl) λσ H Q z903=>by
  let⟨env,st,as,G,s,er,h⟩:=z903;dsimp only[PI.E.run] at h;exact aA s er h λx st1 as1 G1 H1 u s1 er1 r1 p1 l1 h=>⟨st1,as1,G1,x,u,_,rfl,s1,r1,h⟩
end
end PI
namespace PI
open PySem L2 L2.L3
theorem n9:∀x y:List Int,yj x y=HT.lexLt x y
 |[],[]=>rfl
 |[],_::_=>rfl
 |_::_,[]=>rfl
 |a::r,b::t=>by
  rw[HT.eh];unfold yj;rw[n9 r t]
theorem xX:∀{x y:List Int},HT.lexLt x y=false->HT.lexLt y x=false->x=y
 |[],[],_,_=>rfl
 |[],_::_,h,_=>by cases h
 |_::_,[],_,h=>by cases h
 |a::r,b::t,h1,h2=>by
  rw[HT.eh] at h1 h2
  by_cases e:a=b
  ·subst e;rw[if_pos rfl] at h1 h2;rw[xX h1 h2]
  ·rw[if_neg e] at h1;rw[if_neg (λz=>e z.symm)] at h2;have k1:=ab1 h1;have k2:=ab1 h2;lia
section
variable {α β:Type}
theorem jQ {k:List Int} {y:α}:∀{l:List (List Int×α)},(du k y l).Perm ((k,y)::l)
 |[]=> .refl _
 |z::r=>by
  unfold du;split
  ·exact .refl _
  ·exact((jQ (l:=r)).cons z).trans (.swap _ _ _)
theorem i0:∀{l:List (List Int×α)},(bO l).Perm l
 |[]=> .refl _
 |z::r=>jQ.trans ((i0 (l:=r)).cons _)
def rq (l:List (List Int×α)):Prop:=l.Pairwise λx y=>HT.lexLt y.1 x.1=false
theorem nv {k:List Int} {y:α}:∀{l:List (List Int×α)},rq l->rq (du k y l)
 |[],_=>List.Pairwise.cons (λ_ h=>by cases h) .nil
 |z::r,h=>by
  unfold du;split
  ·rename_i c;rw[n9] at c;refine List.Pairwise.cons (λw hw=> ?_) h
   rcases aap.mp hw with rfl|hw
   ·exact mr c
   ·exact qQ (mr c) (List.rel_of_pairwise_cons h hw)
  ·rename_i c;rw[n9] at c
   have c0:HT.lexLt k z.1=false:=by simpa using c
   refine List.Pairwise.cons (λw hw=> ?_) (nv (List.pairwise_cons.mp h).2)
   rcases aap.mp (jQ.mem_iff.mp hw) with rfl|hw
   ·exact c0
   ·exact List.rel_of_pairwise_cons h hw
theorem kH:∀{l:List (List Int×α)},rq (bO l)
 |[]=> .nil
 |_::r=>nv (kH (l:=r))
theorem qH (g:α->β) {k:List Int} {y:α}:∀{l:List (List Int×α)},du k (g y) (l.map λz=>(z.1,g z.2))=(du k y l).map λz=>(z.1,g z.2)
 |[]=>rfl
 |z::r=>by
  show (if yj k z.1=true then _ else _)=_;rw[du];split
  ·rfl
  ·rw[aay,←qH g]
theorem oH (g:α->β):∀{l:List (List Int×α)},bO (l.map λz=>(z.1,g z.2))=(bO l).map λz=>(z.1,g z.2)
 |[]=>rfl
 |z::r=>by
  show du z.1 (g z.2) (bO (r.map λz=>(z.1,g z.2)))=_;rw[oH g,qH g];rfl
end
theorem wZ {α:Type} {d:α} (ks:List (List Int)) (ys:List α) (h:ks.length=ys.length):ks.zip ys=(ks.zip (List.range ys.length)).map λz=>(z.1,ys.getD z.2 d):=by
 refine List.ext_getElem (by simp[h]) λi h1 h2=> ?_
 have hy:i<ys.length:=by simp at h1;lia
 simp[aav,aae hy]
theorem yY {α:Type} {d:α} {ks:List (List Int)} {ys:List α} (h:ks.length=ys.length) (nd:ks.Nodup) {p:List Nat} (pp:p.Perm (List.range ys.length)) (pr:mY ks p):(bO (ks.zip ys)).map (λz=>z.2)=p.map λi=>ys.getD i d:=by
 rw[wZ (d:=d) ks ys h,oH (λi=>ys.getD i d),aa6]
 have e:p=(bO (ks.zip (List.range ys.length))).map λz=>z.2:=by
  have m:∀z∈bO (ks.zip (List.range ys.length)),z.1=ks.getD z.2 []/\z.2<ks.length:=λz hz=>by
   let⟨i,hi,e⟩:=List.mem_iff_getElem.mp (i0.mem_iff.mp hz);subst e
   have hk:i<ks.length:=by simp at hi;lia
   simp[aav,aae hk,hk]
  have sn:((ks.zip (List.range ys.length)).map λz=>z.2)=List.range ys.length:=List.map_snd_zip (by simp[h])
  have pm:((bO (ks.zip (List.range ys.length))).map λz=>z.2).Perm (List.range ys.length):=by
   have:=(i0 (l:=ks.zip (List.range ys.length))).map λz=>z.2;rwa[sn] at this
  have rs:mY ks ((bO (ks.zip (List.range ys.length))).map λz=>z.2):=by
   unfold mY;rw[List.pairwise_map];refine(List.Pairwise.and_mem.mp (kH (l:=ks.zip (List.range ys.length)))).imp λ{a b} z901=> ?_;let⟨ma,mb,q⟩:=z901;rw[←(m a ma).1,←(m b mb).1];exact q
  refine List.Perm.eq_of_pairwise (λa b ha hb h1 h2=> ?_) pr rs (pp.trans pm.symm)
  have la:a<ks.length:=by rw[h];exact abP.mp (pp.mem_iff.mp ha)
  have lb:b<ks.length:=by rw[h];exact abP.mp (pm.mem_iff.mp hb)
  have q:=xX h1 h2;rw[aav,aav,aae la,aae lb] at q;have q':ks[b]=ks[a]:=q;exact qk nd (aae la) (by rw[aae lb,q'])
 rw[e,aa6];rfl
end PI
namespace PI
open PySem PySem.Spec L2 L2.L3 L2.L4 PySem.SeqAt
open PyProof.Rows hiding St lobj
theorem zF {α β:Type} {c:Prop} {r:R α} {f:α->aa->R β}:(iff c r).bind f=iff c (r.bind f):=by
 unfold iff;split<;>rfl
theorem eqz {α β γ:Type} {x:Option α} {y:Option β} {f:α->β->γ} {c:γ} (h:(x.bind λa=>y.map λb=>f a b)=some c):∃a b,x=some a/\y=some b/\c=f a b:=by
 let⟨a,e1,e2⟩:=aao.mp h;let⟨b,e3,e4⟩:=aab.mp e2;exact⟨a,b,e1,e3,e4.symm⟩
section
variable {T:CT} {as:List Addr} {G H:Hp}
theorem fk:∀{xs:List Val} {us:List L2.V} {k:List Int},cw xs=some k->ag T as G xs us->us=k.map L2.V.int
 |[],us,k,h,r=>by
  cases h;exact r
 |x::xs,us,k,h,r=>by
  cases x<;>try (cases h;done)
  rename_i i;let⟨k',e,rfl⟩:=aab.mp h;let⟨u,t,rfl,ru,rr⟩:=r;cases ru;rw[fk e rr];rfl
theorem tq (l:Le G H):∀{dn:List Val} {kv:List L2.V} {ks:List (List Int)},dN dn=some ks->ag T as G dn kv->Paired (fT H) kv ks
 |[],kv,ks,h,r=>by
  cases h;cases r;exact .nil
 |v::dn,kv,ks,h,r=>by
  let⟨k,ks',e1,e2,rfl⟩:=eqz h;let⟨u,t,rfl,ru,rr⟩:=r;refine .cons ?_ (tq l e2 rr)
  cases v<;>try (cases e1;done)
  rename_i f xs
  cases f with
  |true=>cases e1
  |false=>
   let⟨a,us,rfl,ha,hr⟩:=ru;have e3:cw xs=some k:=e1;rw[fk e3 hr] at ha;exact⟨a,rfl,l.ex ha rfl⟩
theorem oG:∀{dn:List Val} {ks:List (List Int)},dN dn=some ks->ks.length=dn.length
 |[],ks,h=>by
  cases h;rfl
 |v::dn,ks,h=>by
  let⟨k,ks',e1,e2,rfl⟩:=eqz h;simp[oG e2]
theorem pE {ys:List Val} {us:List L2.V} (r:ag T as G ys us):∀{p:List Nat},(∀i∈p,i<ys.length)->ag T as G (p.map λi=>ys.getD i .non) (p.map λi=>us.getD i .non)
 |[],_=>rfl
 |i::p,h=>by
  have hi:=h i aaC;let⟨u,e,ru⟩:=r.get (aae hi);refine⟨_,_,rfl, ?_,pE r λj hj=>h j (aat _ hj)⟩;show Rel T as G (ys.getD i .non) (us.getD i .non);rw[aav,aae hi,aav,e];exact ru
theorem ui {α:Type} (l:List α) (a b:α):(l++[a]).set l.length b=l++[b]:=by simp
end
section
variable {T:CT} {P:Pg} {E:XS} {X:Cx} {pos:Pos} {n fi:Nat}
theorem GQ {st:aa} {G H:Hp} {us:List L2.V} {Q:VK} {Z:XK} (s:Sim T st as G H) (r:ag T as G ys us)
  (h:ae T as G ((eX (call P n) fi st ys []).bind λks _=>(R.ao (dN ks) st).bind λks st=>i8 ys ks st) (PV T Q) Z):
  ∀kS,H kS=none->∃W:SW,qt (fj T P n fi) kS W/\W us [] (upd H kS (.lst []))/\∀kv H2,H2 kS=some (.lst kv)->kv.length=us.length->W [] kv H2->Bf us Q kS kv H2:=by
 intro kS hS;have pre:as<+:as++[kS]:=aax _ _
 have ix:(as++[kS])[st.length]?=some kS:=by
  rw[←s.len,aam (aah _)];simp
 refine⟨λrest kv H'=>∃G' dn rv,Le G G'/\Sim T (st++[.lst dn]) (as++[kS]) G' H'/\ag T (as++[kS]) G' dn kv/\ag T (as++[kS]) G' rv rest/\rv.length+dn.length=ys.length/\
  ae T (as++[kS]) G' ((eX (call P n) fi st rv dn).bind λks _=>(R.ao (dN ks) st).bind λks st=>i8 ys ks st) (PV T Q) Z, ?_, ?_, ?_⟩
 ·rintro y rest kv H' ⟨G',dn,rv,l,sm,rd,rr,ln,hp⟩
  cases rv with
  |nil=>cases rr
  |cons yv rv=>
   let⟨u,t,e,ry,rr⟩:=rr;cases e;refine⟨st++[.lst dn],as++[kS],G',[yv],sm,⟨y,[],rfl,ry,rfl⟩, ?_⟩;unfold eX at hp
   cases ec:call P n fi [yv] (st++[.lst dn]) with
   |stuck=>rw[ec] at hp;exact hp.elim
   |exc x st'=>rw[ec] at hp;exact hp.elim
   |ok v st'=>
    rw[ec] at hp;replace hp:ae T (as++[kS]) G' ((iff (st'=st++[.lst dn]) (eX (call P n) fi st rv (dn++[v]))).bind λks _=>(R.ao (dN ks) st).bind λks st=>i8 ys ks st) (PV T Q) Z:=hp;rw[zF] at hp;let⟨e9,hq⟩:=ae.iff hp;subst e9;intro as' G2 H2 p l2 s2 w rw';have ea:as++[kS]=as':=p.eq_of_length (by rw[sm.len,s2.len]);subst ea;let⟨kv2,hk2,rd2⟩:=s2.ob st.length (.lst dn) kS (by simp) ix;have rd3:ag T (as++[kS]) G2 (dn++[v]) (kv2++[w]):=rd2.append ⟨w,[],rfl,rw',rfl⟩;have s3:=s2.set (u:= .lst (kv2++[w])) (o:= .lst (dn++[v])) ix ⟨_,ak,rd3⟩;rw[ui] at s3;exact⟨kv2,by rw[←rd2.length,←rd.length],hk2,G2,dn++[v],rv,l.trans l2,s3,rd3,rr.mono (aaj _) l2,by simp at ln⊢;lia,ae.mono (aaj _) l2 hq⟩
 ·exact⟨G,[],ys,Le.refl _,s.push hS ⟨[],ak,rfl⟩,rfl,r.mono pre (Le.refl _),by simp,ae.mono pre (Le.refl _) h⟩
 ·rintro kv H2 hk lk ⟨G',dn,rv,l,sm,rd,rr,ln,hp⟩
  cases rv with
  |cons yv rv=>
   let⟨u,t,e,_⟩:=rr;cases e
  |nil=>
   replace hp:ae T (as++[kS]) G' ((R.ao (dN dn) st).bind λks st=>i8 ys ks st) (PV T Q) Z:=hp;let⟨ks,ek,hp⟩:=ae.ao hp;let⟨⟨c1,nd,m,hm,hkm⟩,hp⟩:=ae.iff hp;refine⟨ks,m,tq sm.sub ek rd,hm,hkm,λD p hD pp pr=> ?_⟩;have s2:=sm.set (u:= .lst []) (o:= .lst []) ix ⟨[],ak,rfl⟩;rw[ui] at s2;have ly:ys.length=us.length:=r.length
   have lks:ks.length=ys.length:=by
    rw[oG ek];simpa using ln
   rw[←ly] at pp;have eq:=yY (d:=Val.non) lks nd pp pr
   have rs:ag T (as++[kS]++[D]) G' ((bO (ks.zip ys)).map λz=>z.2) (p.map λi=>us.getD i .non):=by
    rw[eq];exact(pE r λi hi=>abP.mp (pp.mem_iff.mp hi)).mono (pre.trans (aax _ _)) l
   have s3:=s2.push (u:= .lst (p.map λi=>us.getD i .non)) (o:= .lst ((bO (ks.zip ys)).map λz=>z.2)) hD ⟨_,ak,rs⟩;refine hp _ G' _ (aax _ _) (Le.refl _) s3 (.ref D) ⟨D, ?_,rfl⟩;rw[←s2.len,aam (aah _)];simp
theorem DA {k:Nat} {f:Addr} {ps:List Str} {fn:Str} {e:Expr} {p:Pos} (hK:T.K=X.K) (F:FnOk X.prog X.w X.K X.mg X.base (dz X.prog X.w) k f fd ps (fj T P n fi)) (hr:Room (k+2) X.A) (hb:Binds X.K fd ps []) (hg:Gl X "sorted") (hm:X.mg "sorted"=none)
  (hgf:Gl X fn) (hmf:X.mg fn=some (.ref f)) (he:PE (X.af (L4.XE X E)) e (tE T P (call P n) E ie)) (hdf:(fn==("__debug__":Str))=false) (hs:notStar e=true):
  PE (X.af (L4.XE X E)) (.Call (.Name "sorted" p) [e] [⟨some (Str.ofString "key"), .Name fn p2,kpos⟩] pos) (tE T P (call P n) E (.sortK ie fi)):=
 PE.mono (Bu (X:=X.af (L4.XE X E)) F hr hb hg hm hgf hmf (fY he jR (by cases e<;>first|rfl|cases hs)) hdf (by cases e<;>first|rfl|cases hs) (by cases e<;>first|rfl|cases hs)) λσ H Q z903=>by
  let⟨env,st,as,G,s,er,h⟩:=z903;dsimp only[PI.E.run] at h;refine aA s er h λx st1 as1 G1 H1 u s1 er1 r1 p1 l1 h=> ?_;have rt:=bc s1 r1
  cases ex:res st1 x with
  |lst ys=>
   rw[ex] at rt h;let⟨a,us,rfl,hq,rr⟩:=rt;let⟨c,h⟩:=ae.iff h;exact⟨a,us,rfl,hK▸hq,by rw[←rr.length];exact c,GQ s1 rr h⟩
  |_=>rw[ex] at h;exact h.elim
end
theorem DV {P:Pg} {c k:Nat} (h:jL P c k=true):∃K',P.cl k=some K'/\K'.sup.contains c=true:=by
 unfold jL at h
 cases e:P.cl k with
 |none=>rw[e] at h;cases h
 |some K'=>
  rw[e] at h;exact⟨K',rfl,h⟩
section
variable {T:CT} {P:Pg} {cl:au} {E:XS} {X:Cx} {pos:Pos}
def mq (T:CT) (P:Pg) (c:Nat):Prop:=∀k K',P.cl k=some K'->K'.sup.contains c=true->PySem.W.exmOne T.K (.ref (T.ca k)) (.ref (T.ca c))=some true
theorem EM {c:Nat} {cn:Str} {ib ih:List PI.S} (hK:T.K=X.K) (hc:mq T P c) (fm:Framed X) (hx:cx X) (hg:Gl X cn) (hm:X.mg cn=some (.ref (T.ca c)))
  (hb:∀Eb pn,(∀b∈X.ex,∃o,(b,o)∈pn)->cu ((cc X pn).af (L4.XE (cc X pn) Eb)) body (gW T P cl Eb ib)) (hs:∀ea,cu (jv X ea X.pn) (sh::suite) (gW T P cl (λ_ _ _ _=>False) ih)) (hdb:(cn==("__debug__":Str))=false):
  PS (X.af (L4.XE X E)) (.Try body [.ExceptHandler (some (.Name cn np)) none (sh::suite) hpos] [] [] pos) (tS T P cl E (.try_ ib c none ih)):=
 PS.mono (z9 fm hx hg hm hb hs hdb) λD σ H z903=>by
  let⟨env,st,as,G,s,er,h⟩:=z903;dsimp only[PI.S.run] at h;refine⟨λσ' cls dx H'=>∃env' st' as' G' y,Sim T st' as' G' H'/\aG T as' G' env' σ'/\BJ T as' G' y cls dx/\jL P c y.c=true/\aC T as' G' ((aN P cl ih env' st').unset none) D E,⟨env,st,as,G,s,er, ?_⟩, ?_⟩
  ·cases e1:aN P cl ib env st with
   |next env' st'=>rw[e1] at h;exact h
   |ret v st'=>rw[e1] at h;exact h
   |brk env' st'=>rw[e1] at h;exact h
   |cont env' st'=>rw[e1] at h;exact h
   |stuck=>rw[e1] at h;exact h
   |exc y env' st'=>
    rw[e1] at h;replace h:aC T as G (sY (jL P c y.c) ((aN P cl ih env' st').unset none) .stuck) D E:=h
    cases e2:jL P c y.c with
    |false=>rw[e2] at h;exact h.elim
    |true=>
     rw[e2] at h;exact λas' G' H' σ' cls dx p l s' er' ex=>⟨env',st',as',G',y,s',er',ex,e2,aC.mono p l h⟩
  ·rintro σ' cls dx H' ⟨env',st',as',G',y,s',er',ex,e2,hp⟩
   let⟨K',k1,k2⟩:=DV e2;refine⟨T.ca y.c,ex.1,hK▸hc y.c K' k1 k2,λea hea=> ?_⟩;have hG:=(s'.fresh hea).2;have l:Le G' (upd G' ea (.ext (gS ea (T.ca y.c) dx))):=Le.new hG;refine⟨env',st',as',_,s'.qv hea,er'.mono (aaj _) l, ?_⟩;replace hp:=aC.mono (aaj _) l hp
   cases e3:aN P cl ih env' st' with
   |next env2 st2=>rw[e3] at hp;exact hp
   |brk env2 st2=>rw[e3] at hp;exact hp
   |cont env2 st2=>rw[e3] at hp;exact hp
   |ret v st2=>rw[e3] at hp;exact hp
   |exc x2 env2 st2=>rw[e3] at hp;exact hp.elim
   |stuck=>rw[e3] at hp;exact hp.elim
theorem yM (hK:T.K=X.K) (hc:X.calm=true):ar X (.builtin "max") (iK T .max):=by
 refine ar.imp (ar.or (yr hc) (ar.or (zo hc) (xo hc))) λus H Q z903=> ?_;let⟨st,as,G,xs,Z,s,r0,p⟩:=z903
 match xs with
 |[]=>exact p.elim
 |[x]=>
  let⟨u,rfl,r⟩:=dC r0
  cases x with
  |lst xs=>
   let⟨a,us,rfl,h1,h2⟩:=r;let⟨v,e,p⟩:=ae.dj (show ae T as G (R.ao ((cw xs).bind λl=>l.max?.map .int) st) (PV T Q) Z from p);let⟨l,e1,e2⟩:=aao.mp e;let⟨m,e3,rfl⟩:=aab.mp e2;rw[fk e1 h2] at h1;exact .inr (.inr ⟨a,l,m,rfl,hK▸h1,e3,p.ok s _ rfl⟩)
  |_=>exact p.elim
 |[x,y]=>
  let⟨u,t,rfl,r1,u',t',rfl,r2,r3⟩:=r0;cases r3
  cases x with
  |int i=>cases y with
   |int j=>
    cases r1;cases r2;exact .inl ⟨i,j,rfl,ae.ok p s _ rfl⟩
   |_=>exact p.elim
  |_=>exact p.elim
 |[x,y,z]=>
  let⟨u,t,rfl,r1,u',t',rfl,r2,u'',t'',rfl,r3,r4⟩:=r0;cases r4
  cases x with
  |int i=>cases y with
   |int j=>cases z with
    |int k=>
     cases r1;cases r2;cases r3;exact .inr (.inl ⟨i,j,k,rfl,ae.ok p s _ rfl⟩)
    |_=>exact p.elim
   |_=>exact p.elim
  |_=>exact p.elim
 |_::_::_::_::_=>exact p.elim
theorem wM (hK:T.K=X.K) (hc:X.calm=true):ar X (.builtin "min") (iK T .min):=by
 refine ar.imp (ar.or (xZ hc) (wX hc)) λus H Q z903=> ?_;let⟨st,as,G,xs,Z,s,r0,p⟩:=z903
 match xs with
 |[]=>exact p.elim
 |[x]=>
  let⟨u,rfl,r⟩:=dC r0
  cases x with
  |lst xs=>
   let⟨a,us,rfl,h1,h2⟩:=r;let⟨v,e,p⟩:=ae.dj (show ae T as G (R.ao ((cw xs).bind λl=>l.min?.map .int) st) (PV T Q) Z from p);let⟨l,e1,e2⟩:=aao.mp e;let⟨m,e3,rfl⟩:=aab.mp e2;rw[fk e1 h2] at h1;exact .inr ⟨a,l,m,rfl,hK▸h1,e3,p.ok s _ rfl⟩
  |_=>exact p.elim
 |[x,y]=>
  let⟨u,t,rfl,r1,u',t',rfl,r2,r3⟩:=r0;cases r3
  cases x with
  |int i=>cases y with
   |int j=>
    cases r1;cases r2;exact .inl ⟨i,j,rfl,ae.ok p s _ rfl⟩
   |_=>exact p.elim
  |_=>exact p.elim
 |[x,y,z]=>exact p.elim
 |_::_::_::_::_=>exact p.elim
theorem Hq {e:Expr} {p:Pos} {kd:Nat} (hK:T.K=X.K) (hc:X.calm=true) (hg:Gl X "min") (hm:X.mg "min"=none) (he:PE X e (tE T P cl E ie)) (hs:notStar e=true):
  PE X (.Call (.Name "min" p) [e] [⟨some (Str.ofString "default"), .Constant .none kd p2,kpos⟩] pos) (tE T P cl E (.bi .minD [ie])):=
 PE.mono (DF hc hg hm (fY he jR (by cases e<;>first|rfl|cases hs)) (by cases e<;>first|rfl|cases hs) (by cases e<;>first|rfl|cases hs)) λσ H Q z903=>by
  let⟨env,st,as,G,s,er,h⟩:=z903;dsimp only[PI.E.run] at h
  replace h:ae T as G ((ie.run P cl env st).bind λx st=>hU .minD (res st x) st) (PV T Q) (E σ):=by
   dsimp only[aM] at h;cases e:ie.run P cl env st<;>rw[e] at h<;>exact h
  refine aA s er h λx st1 as1 G1 H1 u s1 er1 r1 p1 l1 h=> ?_;have rt:=bc s1 r1
  cases ex:res st1 x with
  |lst ys=>
   rw[ex] at rt h;let⟨a,us,rfl,hq,rr⟩:=rt;let⟨v,e,p⟩:=ae.dj (show ae T as1 G1 (R.ao ((cw ys).map λl=>(l.min?.map .int).getD .non) st1) (PV T Q) _ from h);let⟨l,e1,rfl⟩:=aab.mp e;rw[fk e1 rr] at hq;refine⟨a,l,rfl,hK▸hq,p.ok s1 _ ?_⟩;unfold sv;cases l.min?<;>rfl
  |_=>rw[ex] at h;exact h.elim
end
structure Md where
 fa:Nat->Addr
 fd:Nat->FuncData
 ps:Nat->List Str
structure MOk (D:Dt) (P:Pg) (T:CT) (M:Md) (mg:Str->Option Value):Prop where
 fn:∀x i,D.gl.lookup x=some (.fn i)->mg x=some (.ref (M.fa i))/\PySem.W.keepIn T.K (.ref (M.fa i))=true/\Binds T.K (M.fd i) (M.ps i) []
 fr:∀x,D.fr.contains x=true->mg x=none
 ty:vF T.K
 cls:COk T P
 cm:∀x c b,D.gl.lookup x=some (.cls c b)->mg x=some (.ref (T.ca c))/\T.xc c=false/\PySem.W.keepIn T.K (.ref (T.ca c))=true/\PySem.W.makesIn T.K (T.ca c)=true/\∃K',P.cl c=some K'/\
  (b=false->K'.init=none/\PySem.W.findIn T.K (.ref (T.ca c)) "__init__"=some (some (.builtin "object.__init__")))/\
  (b=true->∃fi,K'.init=some fi/\PySem.W.findIn T.K (.ref (T.ca c)) "__init__"=some (some (.ref (M.fa fi)))/\PySem.W.isFn T.K (.ref (M.fa fi))=true/\Binds T.K (M.fd fi) (M.ps fi) [])
 er:∀x c,D.gl.lookup x=some (.err c)->mg x=some (.ref (T.ca c))/\T.xc c=true/\PySem.W.excIn T.K (T.ca c) uT "ValueError.__new__"=true/\∃K',P.cl c=some K'/\K'.init=none
 va:∀x v,D.gl.lookup x=some (.val v)->∃u uv,mg x=some uv/\RelV u uv/\∀as G,Rel T as G v u
 mt:∀m (c:Nat) k' fi,P.cl c=some k'->k'.meths.lookup m=some fi->k'.exc=false/\Meth T.K (T.ca c) m (M.fa fi)/\Binds T.K (M.fd fi) (M.ps fi) []
 fx:∀f,D.fx.contains f=true->∀(c:Nat) k,P.cl c=some k->f∈k.flds->k.exc=false
 ex:∀y c,D.is.contains y=true->D.gl.lookup y=some (.err c)->mq T P c
structure XOk (T:CT) (P':Program) (w:World) (mg:Str->Option Value) (base:Heap) (k:Nat) (g:Gm) (X:Cx):Prop where
 N:X.N=g.N
 nd:g.N.Nodup
 sc:X.env.scope=g.sc
 fn:∀x,g.fn x=true->X.fn x=true
 kd:g.sc.kind= .function
 fm:Framed X
 hx:cx X
 calm:g.cm=true->X.calm=true
 K:T.K=X.K
 prog:X.prog=P'
 w:X.w=w
 mg:X.mg=mg
 base:X.base=base
 room:g.cm=true->Room (k+3) X.A
 un:X.A.units+200<cLine
theorem xK {N:List Str} {x:Str} {i:Nat} (h:N.idxOf? x=some i):N[i]?=some x:=by
 rw[List.idxOf?,List.findIdx?_eq_some_iff_getElem] at h;let⟨l,e,_⟩:=h;rw[aae l];exact congrArg some (by simpa using e)
section
variable {T:CT} {P:Pg} {D:Dt} {M:Md} {P':Program} {w:World} {mg:Str->Option Value} {base:Heap} {k:Nat} {g:Gm} {X:Cx}
theorem XOk.ix (h:XOk T P' w mg base k g X) {x:Str} {i:Nat} (e:g.ix x=some i):X.N[i]?=some x/\yU X.env.scope x/\(x==("__debug__":Str))=false/\(x==("__classdict__":Str))=false:=by
 unfold Gm.ix at e;split at e
 ·cases e
 ·rename_i z;rw[abI,not_or] at z;let⟨j,e1,e2⟩:=aao.mp e;split at e2
  ·rename_i v;cases e2;refine⟨h.N▸xK e1, ?_,by simpa using z.1,by simpa using z.2⟩;unfold ER at v;rw[h.sc];simp only[abI,abw] at v;exact or_assoc.mp v
  ·cases e2
theorem XOk.lx (h:XOk T P' w mg base k g X) {x:Str} {i:Nat} (e:g.lx x=some i):X.N[i]?=some x/\Loc X.env.scope x/\(X.fn x=true∨X.env.scope.names.lookup x=some .local):=by
 unfold Gm.lx at e;let⟨j,e1,e2⟩:=aao.mp e;split at e2
 ·rename_i v;cases e2;rw[aag] at v;refine⟨h.N▸xK e1, ?_, ?_⟩
  ·have:=v.1;unfold vP at this;rw[h.sc];simp only[abI,abw] at this;exact this
  ·have:=v.2;rw[abI] at this;refine this.imp (h.fn x) λq=> ?_;rw[h.sc];simpa using q
 ·cases e2
theorem XOk.gb (h:XOk T P' w mg base k g X) {x:Str} (e:g.gb x=true):Gl X x/\(x==("__debug__":Str))=false/\x≠"__name__":=by
 unfold Gm.gb at e;rw[aag,aag] at e;refine⟨?_,by simpa using e.1.2,by simpa using e.2⟩;show X.env.scope.names.lookup x=some .globalImplicit;rw[h.sc];simpa[Gm.gl] using e.1.1
theorem ka {x:Str} {v:Gv} (e:g.gv D x=some v):g.gb x=true/\D.gl.lookup x=some v:=by
 unfold Gm.gv at e;split at e
 ·rename_i z;exact⟨z,e⟩
 ·cases e
end
theorem bq {e:Expr} {es:List Expr} {env:PySem.Env} (h:notStar e=true):starEach (e::es) env=(false,eval e env)::starEach es env:=by
 cases e<;>first|rfl|cases h
theorem dQ {env:PySem.Env}:∀{es:List Expr},es.all notStar=true->(backTo pos (starEach es env)).any (·.1)=false
 |[],_=>rfl
 |e::es,h=>by
  rw[aaI,aag] at h;rw[bq h.1];show (false||(backTo pos (starEach es env)).any (·.1))=false;rw[dQ h.2];rfl
theorem Bc {b:Expr} (h:eQ b=true):nI b:=by
 intro o i
 cases b<;>first|rfl|cases h
theorem r9 {e:Expr} {env:PySem.Env} (h:eI e=true):∀x,foldedSetIterable e env x=pure x:=by
 intro x
 cases e<;>first|rfl|cases h
theorem kD {op:CmpOp} {b:Expr} (h:eI b=true):behindInMarks op b=false:=by
 cases b<;>first|rfl|cases h
theorem uN {e:Expr} {t:Option Expr} {line:Nat} {env:PySem.Env} (h:dX e=true):swapsWith e t line env=pure false:=by
 cases e<;>first|rfl|cases h
theorem iI {f:Str} {env:PySem.Env} {whole:Sem Value} (h:jc o=true):attributeBase o f env whole=whole:=by
 cases o<;>first|rfl|skip
 rename_i fn as ks pos
 cases fn<;>first|rfl|skip
 cases as<;>first|rfl|skip
 cases ks<;>first|rfl|cases h
theorem gd {α β:Type} {f:α->Option β} {a:α} {r:List α} {l:List β} (h:cL f (a::r)=some l):∃b t,f a=some b/\cL f r=some t/\l=b::t:=by
 unfold cL at h;let⟨b,e1,e2⟩:=aao.mp h;let⟨t,e3,e4⟩:=aab.mp e2;exact⟨b,t,e1,e3,e4.symm⟩
theorem eq2 {α β γ:Type} {x:Option α} {y:α->Option β} {f:α->β->γ} {c:γ} (h:(x.bind λa=>(y a).map λb=>f a b)=some c):∃a b,x=some a/\y a=some b/\c=f a b:=by
 let⟨a,e1,e2⟩:=aao.mp h;let⟨b,e3,e4⟩:=aab.mp e2;exact⟨a,b,e1,e3,e4.symm⟩
theorem eq3 {α β γ δ:Type} {x:Option α} {y:α->Option β} {z:α->β->Option γ} {f:α->β->γ->δ} {c:δ} (h:(x.bind λa=>(y a).bind λb=>(z a b).map λd=>f a b d)=some c):∃a b d,x=some a/\y a=some b/\z a b=some d/\c=f a b d:=by
 let⟨a,e1,e2⟩:=aao.mp h;let⟨b,d,e3,e4,e5⟩:=eq2 e2;exact⟨a,b,d,e1,e3,e4,e5⟩
theorem bU {α:Type} {b:Bool} {x:Option α} {c:α} (h:(if b=true then x else none)=some c):b=true/\x=some c:=by
 split at h
 ·rename_i z;exact⟨z,h⟩
 ·cases h
theorem bx {α:Type} {a:α} {p:Prop} (h:none=some a):p:=nomatch h
theorem lg:∀{l:List Str},jC l=true->l.Nodup
 |[],_=>acp
 |x::r,h=>by
  unfold jC at h;rw[aag] at h;rw[abt];refine⟨?_,lg h.2⟩;have:=h.1;simpa using this
theorem xQ {S:Scope} (h:Ax S sc=true):BlockOkC S sc:=by
 unfold Ax at h;simp only[aag,ace,abI,ac1,abw,acR] at h;let⟨⟨⟨h1,h2⟩,h3⟩,h4⟩:=h;refine⟨h1,λy hy e=>(h2 y hy).elim (λz=>absurd e z) id,λy hy e=> ?_,λy hy e=>(h4 y hy).elim (λz=>absurd e z) id⟩
 rcases h3 y hy with (z|z)|z
 ·exact absurd e z
 ·exact .inl z
 ·exact .inr z
section
variable {T:CT} {P:Pg} {D:Dt} {M:Md} {P':Program} {w:World} {mg:Str->Option Value} {base:Heap} {k:Nat} {g:Gm} {X:Cx}
theorem XOk.block (h:XOk T P' w mg base k g X) {sc:Scope} (e:g.block sc=some g'):X.calm=true/\BlockOkC X.env.scope sc/\(∀j∈iP g.N sc,sc.names.lookup (X.N.getD j Str.empty)=some .free)/\
  ∀own C fp pn s H,(∀b∈fp,∃o,(b,o)∈pn)->XOk T P' w mg base k g' (cF X own (rJ sc) (iP g.N sc) sc C fp pn s H):=by
 unfold Gm.block at e;simp only at e;split at e
 ·rename_i z;simp only[aag] at z;let⟨⟨⟨z1,z2⟩,z3⟩,z4⟩:=z;cases e;refine⟨h.calm z4,h.sc▸xQ z1,λj hj=> ?_,λown C fp pn s H hh=>⟨?_,lg z2, ?_,λx q=>q, ?_,h.fm,hh,λ_=>h.calm z4,h.K,h.prog,h.w,h.mg,h.base,λ_=>h.room z4,h.un⟩⟩
  ·rw[h.N];simpa using (ace.mp z3) j hj
  ·show rJ sc++(iP g.N sc).map (λi=>X.N.getD i Str.empty)=_;rw[h.N]
  ·show relabel sc X.env=Cr g.sc sc;rw[←h.sc];rfl
  ·exact(xQ z1).kind
 ·cases e
end
section
variable {T:CT} {X:Cx}
theorem HI (hK:T.K=X.K) {op:Operator} (h:Ao op=true):aF X (binaryOp op) (cZ T (eO op)):=by
 cases op<;>first|(cases h;done)|exact Dn hK|exact Dy|exact DJ|exact Dh|exact CI|exact CP
theorem BP (hK:T.K=X.K) (hu:X.A.units+9<cLine) {op:CmpOp}:aF X (compareOp op) (cZ T λx y st=>dJ (bF op x y st)):=by
 have hu8:X.A.units+8<cLine:=by lia
 cases op
 ·exact FV hK hu8
 ·exact Hv hK hu8
 ·exact GY
 ·exact FU
 ·exact FO
 ·exact EA
 ·exact Gn
 ·exact xa
 ·exact Ff hK hu
 ·exact yy hK hu
theorem HB (hK:T.K=X.K) (hc:X.calm=true) {x:Str} {b:Bi} (h:Bn x=some b):(∃id,bootBuiltins x=some (.builtin id)/\ar X (.builtin id) (iK T b))∨∃id,bootBuiltins x=some (.type id)/\ar X (.type id) (iK T b):=by
 unfold Bn at h;split at h
 ·rename_i z;subst z;cases h;exact .inl ⟨"len",PySem.boot_len,yE hK⟩
 split at h
 ·rename_i z;subst z;cases h;exact .inl ⟨"abs",PyProof.Rows.Boot.«abs»,xG⟩
 split at h
 ·rename_i z;subst z;cases h;exact .inr ⟨"int",PyProof.Rows.Boot.«int»,yb⟩
 split at h
 ·rename_i z;subst z;cases h;exact .inr ⟨"tuple",PyProof.Rows.boot_tuple,tN hK⟩
 split at h
 ·rename_i z;subst z;cases h;exact .inr ⟨"list",PyProof.Rows.Boot.«list»,vE hK⟩
 split at h
 ·rename_i z;subst z;cases h;exact .inl ⟨"all",PyProof.Rows.Boot.«all»,yS hK hc⟩
 split at h
 ·rename_i z;subst z;cases h;exact .inl ⟨"sum",PyProof.Rows.Boot.«sum»,yd hK hc⟩
 split at h
 ·rename_i z;subst z;cases h;exact .inl ⟨"max",PyProof.Rows.Boot.«max»,yM hK hc⟩
 split at h
 ·rename_i z;subst z;cases h;exact .inl ⟨"min",PyProof.Rows.Boot.«min»,wM hK hc⟩
 cases h
end
def fJ (T:CT) (P:Pg) (m:Nat) (X:Cx) (e:Expr) (ie:PI.E):Prop:=∀E:XS,PE (X.af (L4.XE X E)) e (tE T P (call P m) E ie)/\(cP e=true->PT (X.af (L4.XE X E)) e (tT T P (call P m) E ie))
section
variable {T:CT} {P:Pg} {D:Dt} {M:Md} {P':Program} {w:World} {mg:Str->Option Value} {base:Heap} {k m:Nat} {g:Gm} {X:Cx}
theorem bp {e:Expr} (O:XOk T P' w mg base k g X) (h:∀E:XS,PE (X.af (L4.XE X E)) e (tE T P (call P m) E ie)) (he:∀whole,isTrue e X.env whole=(do let v←whole;standAt e.pos;holding [v] (truthy v))):fJ T P m X e ie:=λE=>⟨h E,λ_=>Jc (X:=X.af (L4.XE X E)) O.K (h E) he⟩
theorem gZ {f:Expr->Option PI.E} (ih:∀e ie,f e=some ie->fJ T P m X e ie) (E:XS):∀{es:List Expr} {ies:List PI.E},es.all notStar=true->cL f es=some ies->PA (X.af (L4.XE X E)) es (ft T P (call P m) E ies)
 |[],_,_,h=>by
  cases h;exact v8
 |e::es,ies,hs,h=>by
  rw[aaI,aag] at hs;let⟨b,t,e1,e2,rfl⟩:=gd h;exact mF (ih e b e1 E).1 (gZ ih E hs.2 e2) (bq hs.1)
theorem ll {f:Expr->Option PI.E} (ih:∀e ie,f e=some ie->fJ T P m X e ie) {op:BoolOp} (E:XS):∀{vs:List Expr} {ie:PI.E},vs.all cP=true->cBool op f vs=some ie->
  PE (X.af (L4.XE X E)) (.BoolOp op vs pos) (tE T P (call P m) E ie)/\PW (X.af (L4.XE X E)) (.BoolOp op vs pos) (tT T P (call P m) E ie)
 |[],_,_,h=>by cases h
 |[a],ie,hn,h=>by
  rw[aaI,aag] at hn;have q:=ih a ie h E;refine⟨Hf q.1, ?_⟩;cases op
  ·exact Dm (q.2 hn.1)
  ·exact GK (q.2 hn.1)
 |a::b::r,ie,hn,h=>by
  rw[aaI,aag] at hn;replace h:((f a).bind λx=>(cBool op f (b::r)).map λy=>bop op x y)=some ie:=h;let⟨x,y,e1,e2,rfl⟩:=eq2 h;have q:=ih a x e1 E;have z:=ll ih (op:=op) (pos:=pos) E hn.2 e2;cases op
  ·exact⟨Jd q.1 z.1,HR (q.2 hn.1) z.2⟩
  ·exact⟨My q.1 z.1,Lq (q.2 hn.1) z.2⟩
theorem A0 (MO:MOk D P T M mg) (hc:∀i,FnOk P' w T.K mg base (dz P' w) k (M.fa i) (M.fd i) (M.ps i) (fj T P m i)) (O:XOk T P' w mg base k g X) {f:Expr->Option PI.E} (ih:∀e ie,f e=some ie->fJ T P m X e ie)
  {x:Str} {p:Pos} {es:List Expr} {ie:PI.E} (zc:g.cm=true) (h:qr D g x es f=some ie) (E:XS):PE (X.af (L4.XE X E)) (.Call (.Name x p) es [] pos) (tE T P (call P m) E ie):=by
 unfold qr at h;split at h
 ·rename_i i z;let⟨a1,h⟩:=bU h;let⟨ies,e1,rfl⟩:=aab.mp h;let⟨z1,z2⟩:=ka z;let⟨g1,g2,g3⟩:=O.gb z1;let⟨f1,f2,f3⟩:=MO.fn x i z2;have F:=hc i;rw[←O.prog,←O.w,←O.mg,←O.base,O.K] at F;have A:=gZ ih E a1 e1
  cases es with
  |nil=>
   cases e1;exact D8 F ((O.room zc).mono (by lia)) (O.K▸f3) O.hx g1 (O.mg▸f1) (O.K▸f2) g2
  |cons e es=>
   rw[aaI,aag] at a1;exact s_call F ((O.room zc).mono (by lia)) (O.K▸f3) O.hx g1 (O.mg▸f1) (O.K▸f2) A g2 (bq a1.1) (dQ a1.2)
 ·rename_i c ini z;let⟨a1,h⟩:=bU h;let⟨ies,e1,rfl⟩:=aab.mp h;simp only[aag,abw] at a1;let⟨a1,a3⟩:=a1;let⟨z1,z2⟩:=ka z;let⟨g1,g2,g3⟩:=O.gb z1;let⟨m1,m2,m3,m4,K',m5,m6,m7⟩:=MO.cm x c ini z2;have A:=gZ ih E a1.1 e1
  cases es with
  |nil=>
   cases a3
  |cons e es=>
   let⟨fi,i1,i2,i3,i4⟩:=m7 (by rw[a1.2];rfl);have a2:=a1.1;rw[aaI,aag] at a2;have F:=hc fi;rw[←O.prog,←O.w,←O.mg,←O.base,O.K] at F;exact ED m5 i1 rfl m2 ⟨O.K▸m4,O.K▸i2,O.K▸i3,O.K▸m3⟩ F ((O.room zc).mono (by lia)) (O.K▸i4) O.hx g1 (by rw[O.mg];exact m1) A g2 (bq a2.1) (dQ a2.2)
 ·cases h
 ·cases h
 ·rename_i z;let⟨a1,h⟩:=bU h;let⟨b,ies,e1,e2,rfl⟩:=eq2 h;simp only[aag] at a1;let⟨⟨⟨⟨c1,c2⟩,c3⟩,c4⟩,c5⟩:=a1;let⟨g1,g2,g3⟩:=O.gb c1;have mn:=MO.fr x c2;have A:=gZ ih E c3 e2
  cases es with
  |nil=>cases c4
  |cons e es=>
   rw[aaI,aag] at c3
   rcases HB (X:=X.af (L4.XE X E)) O.K (O.calm c5) e1 with⟨id,b1,b2⟩|⟨id,b1,b2⟩
   ·exact IQ b2 g1 (by show X.mg x=none;rw[O.mg];exact mn) b1 A g3 g2 (bq c3.1) (dQ c3.2)
   ·exact IL b2 g1 (by show X.mg x=none;rw[O.mg];exact mn) b1 A g3 g2 (bq c3.1) (dQ c3.2)
theorem qg (O:XOk T P' w mg base k g X):∀(n:Nat) (e:Expr) (t:PI.T) (E:XS),k7 g n e=some t->PG (X.af (L4.XE X E)) e (tG T t):=by
 intro n
 induction n with
 |zero=>intro e t E h;cases h
 |succ n ih=>
  intro e t E h
  cases e<;>first|exact bx h|skip
  ·rename_i x pos;let⟨i,e1,rfl⟩:=aab.mp (show (g.lx x).map PI.T.var=some t from h);let⟨h1,h2,h3⟩:=O.lx e1;exact HW (X:=X.af (L4.XE X E)) (by show X.N.Nodup;rw[O.N];exact O.nd) h1 h2 h3
  ·rename_i es k' pos;let⟨a0,h⟩:=bU (show (if (es.all notStar&&g.cm)=true then (cL (k7 g n) es).map PI.T.tup else none)=some t from h);rw[aag] at a0;let⟨a1,a2⟩:=a0;let⟨ts,e1,rfl⟩:=aab.mp h
   have all:∀{es:List Expr} {ts:List PI.T},es.all notStar=true->cL (k7 g n) es=some ts->ig (X.af (L4.XE X E)) es (yH T ts)/\(assignEach es X.env).length=ts.length/\(assignEach es X.env).findIdx? (·.1)=none:=by
    intro es
    induction es with
    |nil=>
     intro ts _ h;cases h;exact⟨E6,rfl,rfl⟩
    |cons e es ihs=>
     intro ts hs h;rw[aaI,aag] at hs;let⟨b,r,e1,e2,rfl⟩:=gd h;let⟨q1,q2,q3⟩:=ihs hs.2 e2
     have z:assignEach (e::es) X.env=(false,assign e X.env)::assignEach es X.env:=by
      have:=hs.1
      cases e<;>first|rfl|cases this
     refine⟨CM (ih e b E e1) q1 (by show (assignEach (e::es) X.env).map (·.2)=_;rw[z];rfl),by rw[z];simp[q2], ?_⟩;rw[z,List.findIdx?_cons];simp[q3]
   let⟨q1,q2,q3⟩:=all a1 e1;exact Il (X:=X.af (L4.XE X E)) O.K (O.calm a2) q1 rfl q2 q3
theorem sP {env:PySem.Env}:∀{es:List Expr},es.all notStar=true->(backTo pos (starEach es env)).all (λx=> !x.1)=true
 |[],_=>rfl
 |e::es,h=>by
  rw[aaI,aag] at h;rw[bq h.1];show (!false&&(backTo pos (starEach es env)).all (λx=> !x.1))=true;rw[sP h.2];rfl
theorem rG {env:PySem.Env} {es:List Expr} (h:es.all notStar=true) (hl:es.length<30):((backTo pos (starEach es env)).all (λx=> !x.1)&&(backToKw pos (keywordEach [] env)).all (λx=>x.1.isSome)&&decide (es.length+([]:List Keyword).length+(if ([]:List Keyword).isEmpty then 0 else 1)<30))=true:=by
 rw[sP h];show (true&&true&&decide (es.length+0+0<30))=true;rw[abB (by lia)];rfl
theorem j5 {α β:Type} {f:α->Option β}:∀{l:List α} {r:List β},cL f l=some r->r.length=l.length
 |[],_,h=>by cases h;rfl
 |a::l,r,h=>by
  let⟨b,t,_,e2,rfl⟩:=gd h;rw[aaw,j5 e2,aaw]
theorem Jh (hK:T.K=X.K) {m:Str} {n:Nat} {b:Bm} (h:AF m n=some b):∃id,cV b=false/\Slot "list" m id/\typeOf (.builtin id)=pure (.type "method_descriptor")/\qx X id (zm T b):=by
 unfold AF at h;split at h
 ·rename_i z;subst z;split at h<;>cases h;exact⟨"list.append",rfl,PySem.F.slot_list_append,PySem.F.type_list_append,As⟩
 split at h
 ·rename_i z;subst z;split at h<;>cases h;exact⟨"list.extend",rfl,PySem.F.slot_list_extend,PySem.F.type_list_extend,Ag⟩
 cases h
theorem zP (MO:MOk D P T M mg) (hc:∀i,FnOk P' w T.K mg base (dz P' w) k (M.fa i) (M.fd i) (M.ps i) (fj T P m i)) (O:XOk T P' w mg base k g X) {f:Expr->Option PI.E} (ih:∀e ie,f e=some ie->fJ T P m X e ie)
  {x:Str} {es:List Expr} {ie:PI.E} (hz:(g.cm||jW x)=true) (h:qd x ap pos o es f=some ie) (E:XS):PE (X.af (L4.XE X E)) (.Call (.Attribute o x ap) es [] pos) (tE T P (call P m) E ie):=by
 unfold qd at h;let⟨c,h⟩:=bU h;simp only[aag,ab5] at c;let⟨⟨⟨c1,c2⟩,c3⟩,c4⟩:=c;let⟨io,e1,h⟩:=aao.mp h;let⟨ies,e2,h⟩:=aao.mp h;have ho:=(ih o io e1 E).1;have A:=gZ ih E c2 e2
 have hu:X.A.units+1<cLine:=by have:=O.un;lia
 have tr:∀{e:Expr},notStar e=true->backTo pos (starEach [e] X.env)=[(false,eval e X.env)]:=λ{e} he=>by
  rw[bq he];rfl
 by_cases zb:jW x=true
 ·rw[if_pos zb] at h
  by_cases zg:x="get"
  ·subst zg;rw[if_pos rfl] at h
   match ies,h with
   |[k1],h=>
    cases h
    match es,e2,c2,c4 with
    |[e],e2,c2,c4=>
     let⟨b,t,e3,_,e5⟩:=gd e2;cases e5;have c2':=c2;rw[aaI,aag] at c2';exact Ez (X:=X.af (L4.XE X E)) hu ho (ih e k1 e3 E).1 ⟨iI c1,rG c2 c4,c3,tr c2'.1⟩
    |[],e2,_,_=>cases e2
    |_::_::_,e2,_,_=>have:=j5 e2;simp at this
   |[k1,k2],h=>
    cases h
    match es,e2,c2,c4 with
    |[e,e'],e2,c2,c4=>
     let⟨b,t,e3,e4,e5⟩:=gd e2;cases e5;let⟨b,t,e6,_,e7⟩:=gd e4;cases e7;have c2':=c2;rw[aaI,aaI,aag,aag] at c2';refine EK (X:=X.af (L4.XE X E)) hu ho (ih e k1 e3 E).1 (ih e' k2 e6 E).1 ⟨iI c1,rG c2 c4,c3, ?_⟩;show backTo pos (starEach [e,e'] X.env)=_;rw[bq c2'.1,bq c2'.2.1];rfl
    |[],e2,_,_=>cases e2
    |[_],e2,_,_=>have:=j5 e2;simp at this
    |_::_::_::_,e2,_,_=>have:=j5 e2;simp at this
   |[],h=>exact bx h
   |_::_::_::_,h=>exact bx h
  ·rw[if_neg zg] at h;let⟨b,e3,rfl⟩:=aab.mp h;let⟨id,b1,b2,b3,b4⟩:=Jh (X:=X.af (L4.XE X E)) O.K e3
   cases es with
   |nil=>
    cases e2;exact IG (X:=X.af (L4.XE X E)) b1 O.K b2 b3 b4 ho (iI c1) c3
   |cons e es=>
    have c2':=c2;rw[aaI,aag] at c2';exact Kg (X:=X.af (L4.XE X E)) b1 O.K b2 b3 b4 ho A (iI c1) (rG c2 c4) c3 (bq c2'.1) (dQ c2'.2)
 ·rw[if_neg zb] at h;cases h
end
section
variable {T:CT} {P:Pg} {D:Dt} {M:Md} {P':Program} {w:World} {mg:Str->Option Value} {base:Heap} {k m:Nat}
theorem EB (MO:MOk D P T M mg) {g:Gm} {X:Cx} (O:XOk T P' w mg base k g X) {f:Expr->Option PI.E} (ih:∀e ie,f e=some ie->fJ T P m X e ie) {x:Str} {p:Pos} {es:List Expr} {ie:PI.E} (zx:nB x=true) (h:CC D g x f es=some ie) (E:XS):
  PE (X.af (L4.XE X E)) (.Call (.Name x p) es [] pos) (tE T P (call P m) E ie):=by
 unfold CC at h;split at h
 ·rename_i a y p2;let⟨c,h⟩:=bU h;simp only[aag] at c;let⟨⟨⟨⟨c1,c2⟩,c3⟩,c4⟩,c5⟩:=c;let⟨ty,ia,e1,e2,rfl⟩:=eq2 h;exact Gz (X:=X.af (L4.XE X E)) O.K (O.K▸MO.ty) (by simpa[nB] using zx) e1 (ih a ia e2 E).1 (O.gb c2).1 (by show X.mg x=none;rw[O.mg];exact MO.fr x c3) (O.gb c4).1 (by show X.mg y=none;rw[O.mg];exact MO.fr y c5) c1
 ·cases h
theorem BC (MO:MOk D P T M mg) (hc:∀i,FnOk P' w T.K mg base (dz P' w) k (M.fa i) (M.fd i) (M.ps i) (fj T P m i)) {g:Gm} {X:Cx} (O:XOk T P' w mg base k g X) {f:Expr->Option PI.E} (ih:∀e ie,f e=some ie->fJ T P m X e ie) {x:Str} {p:Pos} {es:List Expr} {ks:List Keyword} {ie:PI.E} (h:vz D g x f es ks=some ie) (E:XS):
  PE (X.af (L4.XE X E)) (.Call (.Name x p) es ks pos) (tE T P (call P m) E ie):=by
 unfold vz at h;split at h
 ·rename_i a kn y p2 kpos;let⟨c,h9⟩:=bU h;clear h;simp only[aag] at c;let⟨⟨⟨⟨⟨c1,c2⟩,c3⟩,c4⟩,c5⟩,c6⟩:=c
  have ex:x="sorted":=by simpa[isSort] using c1
  have ek:kn="key":=by simpa using c2
  subst ex ek
  cases z:g.gv D y with
  |none=>rw[z] at h9;cases h9
  |some v=>
   rw[z] at h9
   cases v with
   |fn i=>
    let⟨ia,e1,rfl⟩:=aab.mp (show (f a).map (λa=>PI.E.sortK a i)=some ie from h9);let⟨z1,z2⟩:=ka z;let⟨g1,g2,g3⟩:=O.gb z1;let⟨f1,f2,f3⟩:=MO.fn y i z2;have F:=hc i;rw[←O.prog,←O.w,←O.mg,←O.base,O.K] at F;exact DA O.K F ((O.room c6).mono (by lia)) (O.K▸f3) (O.gb c4).1 (by rw[O.mg];exact MO.fr _ c5) g1 (O.mg▸f1) (ih a ia e1 E).1 g2 c3
   |cls _ _=>cases h9
   |err _=>cases h9
   |val _=>cases h9
 ·cases h
theorem zU (MO:MOk D P T M mg) (hc:∀i,FnOk P' w T.K mg base (dz P' w) k (M.fa i) (M.fd i) (M.ps i) (fj T P m i)) {g:Gm} {X:Cx} (O:XOk T P' w mg base k g X) {f:Expr->Option PI.E} (ih:∀e ie,f e=some ie->fJ T P m X e ie) {x:Str} {p:Pos} {es:List Expr} {ks:List Keyword} {ie:PI.E} (h:wa D g x f es ks=some ie) (E:XS):
  PE (X.af (L4.XE X E)) (.Call (.Name x p) es ks pos) (tE T P (call P m) E ie):=by
 unfold wa at h;split at h
 ·rename_i a kn kd p2 kpos;let⟨c,h9⟩:=bU h;clear h;simp only[aag] at c;let⟨⟨⟨⟨⟨c1,c2⟩,c3⟩,c4⟩,c5⟩,c6⟩:=c
  have ex:x="min":=by simpa using c1
  have ek:kn="default":=by simpa using c2
  subst ex ek;let⟨ia,e1,rfl⟩:=aab.mp h9;exact Hq O.K (O.calm c6) (O.gb c4).1 (by rw[O.mg];exact MO.fr _ c5) (ih a ia e1 E).1 c3
 ·exact BC MO hc O ih h E
theorem mJ {g:Gm} {n:Nat} {gens:List Comprehension} (h:cE D (n+1) g (.ListComp elt gens sc pos)=some ie):∃tg iter ifs g' q t c ee,gens=[⟨tg,iter,ifs,0⟩]/\eI iter=true/\g.block sc=some g'/\cQ D n g iter=some q/\u9 q tg=true/\k7 g' n tg=some t/\cE D n g' elt=some ee/\
  Aa (cE D n g') ifs=some c/\ie= .comp (rJ sc).length (iP g.N sc) t q c ee:=by
 let⟨c,o,h⟩:=aao.mp (show ((sS gens).bind λc=>_)=some ie from h)
 obtain rfl:gens=[c]:=by
  unfold sS at o;split at o<;>cases o;rfl
 let⟨tg,iter,ifs,as⟩:=c;let⟨z,h⟩:=bU (show (if (as==0&&eI iter)=true then _ else none)=some ie from h);rw[aag,abw] at z;let⟨rfl,z⟩:=z;let⟨g',b1,h⟩:=aao.mp h;let⟨q,b2,h⟩:=aao.mp h;let⟨t,b3,h⟩:=aao.mp h;let⟨b0,b3⟩:=bU b3;let⟨ee,b4,h⟩:=aao.mp h;let⟨c,b5,rfl⟩:=aab.mp h;exact⟨tg,iter,ifs,g',q,t,c,ee,rfl,z,b1,b2,b0,b3,b4,b5,rfl⟩
theorem uo {X:Cx} {f:Expr->Option PI.E} (ih:∀e ie,f e=some ie->fJ T P m X e ie) {c:Option PI.E} (h:Aa f ifs=some c) (E:XS):kN (X.af (L4.XE X E)) ifs (tO T P (call P m) E c):=by
 cases ifs with
 |nil=>
  cases h;exact Gq
 |cons f' r=>cases r with
  |cons _ _=>exact bx h
  |nil=>
   let⟨c1,b6⟩:=bU (show (if cP f'=true then (f f').map some else none)=some c from h);let⟨x,e1,rfl⟩:=aab.mp b6;exact F7 ((ih f' x e1 E).2 c1)
theorem Bh {g:Gm} {X:Cx} (O:XOk T P' w mg base k g X) {n:Nat} (ihE:∀(g:Gm) (X:Cx) (e:Expr) (ie:PI.E),XOk T P' w mg base k g X->cE D n g e=some ie->fJ T P m X e ie)
  (ihQ:∀(g:Gm) (X:Cx) (e:Expr) (q:PI.Q),XOk T P' w mg base k g X->cQ D n g e=some q->∀(E:XS) (tg:Expr),u9 q tg=true->L2.PI (X.af (L4.XE X E)) tg e (tQ T P (call P m) E q))
  {gens:List Comprehension} (h:cE D (n+1) g (.ListComp elt gens sc pos)=some ie) (E:XS):PE (X.af (L4.XE X E)) (.ListComp elt gens sc pos) (tE T P (call P m) E ie):=by
 let⟨tg,iter,ifs,g',q,t,c,ee,rfl,z,b1,b2,b0,b3,b4,b5,rfl⟩:=mJ h;let⟨k0,k1,k2,k3⟩:=O.block b1;exact FX O.fm O.hx k1 k0 k2 (ihQ g X iter q O b2 E tg b0) (λσ own C fp pn s H hh=>qg (k3 own C fp pn s H hh) n tg t _ b3) (λσ own C fp pn s H hh=>uo (λe ie=>ihE g' _ e ie (k3 own C fp pn s H hh)) b5 _) (λσ own C fp pn s H hh=>(ihE g' _ elt ee (k3 own C fp pn s H hh) b4 _).1) (r9 z)
theorem Cg (MO:MOk D P T M mg) (hc:∀i,FnOk P' w T.K mg base (dz P' w) k (M.fa i) (M.fd i) (M.ps i) (fj T P m i)):∀n:Nat,
  (∀(g:Gm) (X:Cx) (e:Expr) (ie:PI.E),XOk T P' w mg base k g X->cE D n g e=some ie->fJ T P m X e ie)/\
  (∀(g:Gm) (X:Cx) (e:Expr) (q:PI.Q),XOk T P' w mg base k g X->cQ D n g e=some q->∀(E:XS) (tg:Expr),u9 q tg=true->L2.PI (X.af (L4.XE X E)) tg e (tQ T P (call P m) E q)):=by
 intro n
 induction n with
 |zero=>exact⟨λg X e ie _ h=>(by cases h),λg X e q _ h=>(by cases h)⟩
 |succ n' ih=>
  let⟨ihE,ihQ⟩:=ih
  have stepE:∀(g:Gm) (X:Cx) (e:Expr) (ie:PI.E),XOk T P' w mg base k g X->cE D (n'+1) g e=some ie->fJ T P m X e ie:=by
   intro g X e ie O h;have ihs:∀e ie,cE D n' g e=some ie->fJ T P m X e ie:=λe ie q=>ihE g X e ie O q
   cases e with
   |Constant c j pos=>
    cases c<;>first|exact bx h|skip
    ·cases h;exact bp O (λE=>Jv) λ_=>rfl
    ·cases h;exact bp O (λE=>LO) λ_=>rfl
    ·cases h;exact bp O (λE=>HY) λ_=>rfl
    ·cases h;exact bp O (λE=>Jr) λ_=>rfl
   |Name x pos=>
    replace h:(match g.ix x with|some i=>some (PI.E.var i)|none=>Ci D g x)=some ie:=h
    cases e1:g.ix x with
    |some i=>
     rw[e1] at h;cases h;let⟨h1,h2,h3,h4⟩:=O.ix e1;exact bp O (λE=>HJ (X:=X.af (L4.XE X E)) h1 h2 h3 h4) λ_=>rfl
    |none=>
     rw[e1] at h;replace h:Ci D g x=some ie:=h;unfold Ci at h;split at h
     ·rename_i v z;cases h;let⟨z1,z2⟩:=ka z;let⟨g1,g2,g3⟩:=O.gb z1;let⟨u,uv,m1,m2,m3⟩:=MO.va x v z2;exact bp O (λE=>GO (X:=X.af (L4.XE X E)) g1 (by show X.mg x=_;rw[O.mg];exact m1) m2 m3 g2) λ_=>rfl
     ·cases h
   |Dict ks vs pos=>
    cases ks with
    |cons _ _=>exact bx h
    |nil=>cases vs with
     |cons _ _=>exact bx h
     |nil=>
      cases h;exact bp O (λE=>Ex) λ_=>rfl
   |BinOp a op b pos=>
    let⟨z,h⟩:=bU (show (if Ao op=true then (cE D n' g a).bind λa=>(cE D n' g b).map λb=>PI.E.bin op a b else none)=some ie from h);let⟨x,y,e1,e2,rfl⟩:=eq2 h;exact bp O (λE=>Ko (HI (X:=X.af (L4.XE X E)) O.K z) (ihs a x e1 E).1 (ihs b y e2 E).1) λ_=>rfl
   |UnaryOp op a pos=>
    let⟨z,h⟩:=bU (show (if cP a=true then (cE D n' g a).bind λa=>cUn op a else none)=some ie from h);let⟨x,e1,e2⟩:=aao.mp h
    cases op<;>first|(cases e2;done)|skip
    ·cases e2;exact λE=>⟨Jp (ihs a x e1 E).1,λ_=>H8 ((ihs a x e1 E).2 z)⟩
    ·cases e2;exact bp O (λE=>IZ (ihs a x e1 E).1) λ_=>rfl
   |BoolOp op vs pos=>
    let⟨z,h⟩:=bU (show (if vs.all cP=true then cBool op (cE D n' g) vs else none)=some ie from h);exact λE=>⟨(ll ihs E z h).1,λ_=>(ll ihs E z h).2.pt⟩
   |Compare a ops bs pos=>
    have hu:X.A.units+9<cLine:=by have:=O.un;lia
    match ops,bs,h with
    |[op],[b],h=>
     let⟨z,h⟩:=bU (show (if eI b=true then (cE D n' g a).bind λa=>(cE D n' g b).map λb=>PI.E.cmp op a b else none)=some ie from h);let⟨x,y,e1,e2,rfl⟩:=eq2 h;exact λE=>⟨KQ (BP (X:=X.af (L4.XE X E)) O.K hu) (kD z) (ihs a x e1 E).1 (ihs b y e2 E).1,λ_=>Ib (BP (X:=X.af (L4.XE X E)) O.K hu) (kD z) (ihs a x e1 E).1 (ihs b y e2 E).1⟩
    |[_,_],[_,_],h=>exact bx h
    |[],_,h=>exact bx h
    |[_],[],h=>exact bx h
    |[_],_::_::_,h=>exact bx h
    |[_,_],[],h=>exact bx h
    |[_,_],[_],h=>exact bx h
    |[_,_],_::_::_::_,h=>exact bx h
    |_::_::_::_,_,h=>exact bx h
   |IfExp c a b pos=>
    let⟨z,h⟩:=bU (show (if cP c=true then (cE D n' g c).bind λc=>(cE D n' g a).bind λa=>(cE D n' g b).map λb=>PI.E.ite c a b else none)=some ie from h);let⟨x,y,y',e1,e2,e3,rfl⟩:=eq3 h;exact λE=>⟨JE ((ihs c x e1 E).2 z) (ihs a y e2 E).1 (ihs b y' e3 E).1,λq=>by cases q⟩
   |Tuple es j pos=>
    let⟨z,h⟩:=bU (show (if es.all notStar=true then (cL (cE D n' g) es).map PI.E.tup else none)=some ie from h);let⟨ies,e1,rfl⟩:=aab.mp h;exact bp O (λE=>IJ (gZ ihs E z e1)) λ_=>rfl
   |List es pos=>
    let⟨z,h⟩:=bU (show (if es.all notStar=true then (cL (cE D n' g) es).map PI.E.lst else none)=some ie from h);let⟨ies,e1,rfl⟩:=aab.mp h;exact bp O (λE=>Iw (gZ ihs E z e1)) λ_=>rfl
   |Attribute o f pos=>
    let⟨z,h⟩:=bU (show (if (jc o&&D.fx.contains f)=true then (cE D n' g o).map λo=>PI.E.fld o f else none)=some ie from h);let⟨x,e1,rfl⟩:=aab.mp h;rw[aag] at z;exact bp O (λE=>HF (X:=X.af (L4.XE X E)) O.K MO.cls (ihs o x e1 E).1 (iI z.1) (MO.fx f z.2)) λ_=>rfl
   |Subscript o i pos=>
    refine bp O (λE=> ?_) λ_=>rfl;replace h:Hb (cE D n' g) o i=some ie:=h
    have plain:eQ i=true->((cE D n' g o).bind λo=>(cE D n' g i).map λi=>PI.E.idx o i)=some ie->PE (X.af (L4.XE X E)) (.Subscript o i pos) (tE T P (call P m) E ie):=λz h=>by
     let⟨x,y,e1,e2,rfl⟩:=eq2 h;exact Jz (X:=X.af (L4.XE X E)) O.K (by have:=O.un;show X.A.units+1<cLine;lia) (ihs o x e1 E).1 (ihs i y e2 E).1 (Bc z)
    cases i with
    |Slice lo hi st p2=>cases st with
     |some _=>exact bx h
     |none=>
      let⟨x,e1,h⟩:=aao.mp (show ((cE D n' g o).bind λo=>_)=some ie from h)
      cases lo with
      |none=>cases hi with
       |none=>
        cases h;exact qh (X:=X.af (L4.XE X E)) O.K (ihs o x e1 E).1 vU vU
       |some b=>
        let⟨y,e2,rfl⟩:=aab.mp h;exact qh (X:=X.af (L4.XE X E)) O.K (ihs o x e1 E).1 vU (vT (ihs b y e2 E).1)
      |some a=>cases hi with
       |none=>
        let⟨y,e2,rfl⟩:=aab.mp h;exact qh (X:=X.af (L4.XE X E)) O.K (ihs o x e1 E).1 (vT (ihs a y e2 E).1) vU
       |some b=>
        let⟨y,z,e2,e3,rfl⟩:=eq2 h;exact qh (X:=X.af (L4.XE X E)) O.K (ihs o x e1 E).1 (vT (ihs a y e2 E).1) (vT (ihs b z e3 E).1)
    |_=>exact plain rfl h
   |Call f es ks pos=>
    cases f<;>first|exact bx h|skip
    ·rename_i o x ap
     cases ks with
     |cons _ _=>exact bx h
     |nil=>
      let⟨hz,h⟩:=bU (show (if (g.cm||jW x)=true then qd x ap pos o es (cE D n' g) else none)=some ie from h);exact bp O (λE=>zP MO hc O ihs hz h E) λ_=>rfl
    rename_i x p
    cases ks with
    |cons kw ks=>exact bp O (λE=>zU MO hc O ihs h E) λ_=>rfl
    |nil=>
     replace h:(if nB x=true then CC D g x (cE D n' g) es else if sx x=true then Co D g x (cE D n' g) es else if g.cm=true then qr D g x es (cE D n' g) else none)=some ie:=h;split at h
     ·rename_i zx;exact bp O (λE=>EB MO O ihs zx h E) λ_=>rfl
     ·split at h
      ·rename_i zx
       have ex:x="dict":=by simpa[sx] using zx
       subst ex
       cases es with
       |nil=>exact bx h
       |cons a r=>cases r with
        |cons _ _=>exact bx h
        |nil=>
         let⟨c,h⟩:=bU (show (if (notStar a&&g.gb "dict"&&D.fr.contains "dict"&&g.cm)=true then (cE D n' g a).map PI.E.dOf else none)=some ie from h);simp only[aag] at c;let⟨⟨⟨c1,c2⟩,c3⟩,c4⟩:=c;let⟨y,e1,rfl⟩:=aab.mp h;exact bp O (λE=>IS (X:=X.af (L4.XE X E)) (O.calm c4) (by have:=O.un;show X.A.units+2<cLine;lia) (O.gb c2).1 (by show X.mg "dict"=none;rw[O.mg];exact MO.fr _ c3) (ihs a y e1 E).1 c1) λ_=>rfl
      ·let⟨zc,h⟩:=bU h;exact bp O (λE=>A0 MO hc O ihs zc h E) λ_=>rfl
   |ListComp elt gens sc pos=>
    exact bp O (λE=>Bh O ihE ihQ h E) λ_=>rfl
   |_=>exact bx h
  refine⟨stepE,λg X e q O h E tg ht=> ?_⟩;have ihs:∀e ie,cE D n' g e=some ie->fJ T P m X e ie:=λe ie q=>ihE g X e ie O q
  have val:(cE D n' g e).map PI.Q.val=some q->L2.PI (X.af (L4.XE X E)) tg e (tQ T P (call P m) E q):=λh=>by
   let⟨x,e1,rfl⟩:=aab.mp h;exact Jj (X:=X.af (L4.XE X E)) O.K (ihs e x e1 E).1
  cases e with
  |Call f es ks pos=>
   cases f<;>first|exact val h|skip
   rename_i x p
   cases ks with
   |cons _ _=>exact val h
   |nil=>
    replace h:(if ko x=true then Hu D g x (cE D n' g) es else if qm x=true then Gp D g x (cE D n' g) es else (cE D n' g (.Call (.Name x p) es [] pos)).map PI.Q.val)=some q:=h
    by_cases zx:ko x=true
    ·have ex:x="range":=by simpa[ko] using zx
     rw[if_pos zx] at h;subst ex
     cases es with
     |nil=>exact bx h
     |cons a r=>cases r with
      |nil=>
       let⟨c,h⟩:=bU h;simp only[aag] at c;let⟨⟨c1,c2⟩,c3⟩:=c;let⟨x,e1,rfl⟩:=aab.mp h;exact Hn (X:=X.af (L4.XE X E)) (O.gb c1).1 (by show X.mg "range"=none;rw[O.mg];exact MO.fr _ c2) (mF (ihs a x e1 E).1 v8 (bq c3)) (bq c3)
      |cons b r=>exact bx h
    rw[if_neg zx] at h
    by_cases zz:qm x=true
    ·have ex:x="zip":=by simpa[qm] using zz
     rw[if_pos zz] at h;subst ex
     cases es with
     |nil=>exact bx h
     |cons a r=>cases r with
      |nil=>exact bx h
      |cons b r=>cases r with
       |cons _ _=>exact bx h
       |nil=>
        let⟨c,h⟩:=bU h;simp only[aag] at c;let⟨⟨⟨c1,c2⟩,c3⟩,c4⟩:=c;let⟨x,y,e1,e2,rfl⟩:=eq2 h
        cases tg<;>first|(cases ht;done)|skip
        refine Jw (X:=X.af (L4.XE X E)) O.K (O.gb c1).1 (by show X.mg "zip"=none;rw[O.mg];exact MO.fr _ c2) (mF (ihs a x e1 E).1 (mF (ihs b y e2 E).1 v8 (bq c4)) (bq c3)) ?_ (bq c4);show starEach [a,b] X.env=_;rw[bq c3,bq c4];rfl
    rw[if_neg zz] at h;exact val h
  |_=>exact val h
theorem zX {g:Gm} {X:Cx} (O:XOk T P' w mg base k g X) {gens:List Comprehension} {sc:Scope} {cpos py:Pos} {x:Str} {line:Nat}:
  swapsWith (.ListComp elt gens sc cpos) (some (.Name x py)) line X.env=pure (g.sc.kind== .function&&g.sc.names.lookup x==some .local&&py.line==cpos.line&& !(sc.names.any λ(n,k)=>n==x&&(k== .local||k== .cell))):=by
 have b:X.env.blockKind= .function:=by
  unfold Env.blockKind;rw[O.sc,O.kd];rfl
 show pure (X.env.blockKind== .function&&X.env.scope.names.lookup x==some .local&&py.line==cpos.line&& !(sc.names.any λ(n,k)=>n==x&&(k== .local||k== .cell)))=_;rw[b,O.sc,O.kd]
theorem yi (MO:MOk D P T M mg) {g:Gm} {X:Cx} (O:XOk T P' w mg base k g X) {f:Expr->Option PI.E} (ih:∀e ie,f e=some ie->fJ T P m X e ie) {x:Str} {es:List Expr} {is:PI.S} (h:sJ D g x es f=some is) (E:XS):
  PS (X.af (L4.XE X E)) (.Raise (some (.Call (.Name x np) es [] cpos)) none pos) (tS T P (call P m) E is):=by
 unfold sJ at h;split at h
 ·rename_i c z;let⟨a1,h⟩:=bU h;let⟨ies,e1,rfl⟩:=aab.mp h;simp only[aag,ab5] at a1;let⟨⟨⟨c1,c2⟩,c3⟩,c4⟩:=a1;let⟨z1,z2⟩:=ka z;let⟨g1,g2,g3⟩:=O.gb z1;let⟨m1,m2,m3,K',m4,m5⟩:=MO.er x c z2;have A:=gZ ih E c1 e1
  cases es with
  |nil=>cases c2
  |cons e es=>
   have c1':=c1;rw[aaI,aag] at c1';exact CW m4 m5 rfl m2 (by rw[j5 e1];exact c3) O.hx (O.calm c4) g1 (by rw[O.mg];exact m1) (O.K▸m3) A g2 (bq c1'.1) (dQ c1'.2)
 ·cases h
theorem Af {X:Cx} {t:TS} (h:cu (X.af (L4.XE X λ_ _ _ _=>False)) ss t):cu X ss t:=λpins s σ H D I hw=>
 aaQ (h pins s σ H D (I.af _) hw) (λ_ _ z=>z.aY) λe s2 z=>by
  let⟨_,_,_,_,_,_,_,_,_,_,_,_,z⟩:=z;exact z.elim
theorem Dj (MO:MOk D P T M mg) {g:Gm} {X:Cx} (O:XOk T P' w mg base k g X) (zc:g.cm=true) {n:Nat} {b:List Stmt} {cn:Str} {hp:Pos} {x:Option Str} {is:PI.S}
  (ihB:∀(X':Cx),XOk T P' w mg base k g X'->∀iss,eg D n g b=some iss->∀E:XS,cu (X'.af (L4.XE X' E)) b (gW T P (call P m) E iss))
  (ihH:∀(X':Cx),XOk T P' w mg base k {g with cm:=false} X'->∀iss,eg D n {g with cm:=false} (h0::hs)=some iss->∀E:XS,cu (X'.af (L4.XE X' E)) (h0::hs) (gW T P (call P m) E iss))
  (h:((wJ D g cn).bind λc=>(AN g x).bind λi=>(eg D n g b).bind λb=>(eg D n {g with cm:=false} (h0::hs)).map λh=>PI.S.try_ b c i h)=some is) (E:XS):
  PS (X.af (L4.XE X E)) (.Try b [.ExceptHandler (some (.Name cn np)) x (h0::hs) hp] [] [] pos) (tS T P (call P m) E is):=by
 let⟨c,e1,h⟩:=aao.mp h;let⟨i,ib,ih,e2,e3,e4,rfl⟩:=eq3 h;have hB:∀Eb pn,(∀b∈X.ex,∃o,(b,o)∈pn)->cu ((cc X pn).af (L4.XE (cc X pn) Eb)) b (gW T P (call P m) Eb ib):=λEb pn hh=>ihB (cc X pn) ⟨O.N,O.nd,O.sc,O.fn,O.kd,O.fm,hh,O.calm,O.K,O.prog,O.w,O.mg,O.base,O.room,O.un⟩ ib e3 Eb
 have hH:∀ea,cu (jv X ea X.pn) (h0::hs) (gW T P (call P m) (λ_ _ _ _=>False) ih):=λea=>
  Af (X:=jv X ea X.pn) (ihH (jv X ea X.pn) ⟨O.N,O.nd,O.sc,O.fn,O.kd,O.fm,O.hx,λz=>(by cases z),O.K,O.prog,O.w,O.mg,O.base,λz=>(by cases z),O.un⟩ ih e4 _)
 obtain⟨z1,z2,z3⟩:D.is.contains cn=true/\g.gb cn=true/\D.gl.lookup cn=some (.err c):=by
  unfold wJ at e1;let⟨q,e1⟩:=bU e1;split at e1
  ·rename_i c' z;cases e1;let⟨y1,y2⟩:=ka z;exact⟨q,y1,y2⟩
  ·cases e1
 let⟨g1,g2,g3⟩:=O.gb z2
 have hm:X.mg cn=some (.ref (T.ca c)):=by rw[O.mg];exact(MO.er cn c z3).1
 have nd:X.N.Nodup:=by rw[O.N];exact O.nd
 cases x with
 |none=>
  cases e2;exact EM O.K (MO.ex cn c z1 z3) O.fm O.hx g1 hm hB hH g2
 |some x=>cases e2
theorem HS (MO:MOk D P T M mg) (hc:∀i,FnOk P' w T.K mg base (dz P' w) k (M.fa i) (M.fd i) (M.ps i) (fj T P m i)):∀n:Nat,
  (∀(g:Gm) (X:Cx) (s:Stmt) (is:PI.S),XOk T P' w mg base k g X->cS D n g s=some is->∀E:XS,PS (X.af (L4.XE X E)) s (tS T P (call P m) E is))/\
  (∀(g:Gm) (X:Cx) (ss:List Stmt) (iss:List PI.S),XOk T P' w mg base k g X->eg D n g ss=some iss->∀E:XS,cu (X.af (L4.XE X E)) ss (gW T P (call P m) E iss)):=by
 intro n
 induction n with
 |zero=>exact⟨λg X s is _ h=>(by cases h),λg X ss iss _ h=>(by cases h)⟩
 |succ n ih=>
  let⟨ihS,ihSs⟩:=ih;let⟨sE,sQ⟩:=Cg MO hc n;refine⟨λg X s is O h E=> ?_,λg X ss iss O h E=> ?_⟩
  ·have ihs:∀e ie,cE D n g e=some ie->fJ T P m X e ie:=λe ie q=>sE g X e ie O q
   cases s with
   |Return v pos=>cases v with
    |none=>
     cases h;exact Fe
    |some e=>
     let⟨x,e1,rfl⟩:=aab.mp (show (cE D n g e).map PI.S.ret=some is from h);exact Ih (ihs e x e1 E).1
   |Expr e pos=>
    let⟨z,h⟩:=bU (show (if dX e=true then (cE D n g e).map PI.S.expr else none)=some is from h);let⟨x,e1,rfl⟩:=aab.mp h;exact F0 (ihs e x e1 E).1 (uN z)
   |If c a b pos=>
    let⟨z,h⟩:=bU (show (if cP c=true then (cE D n g c).bind λc=>(eg D n g a).bind λa=>(eg D n g b).map λb=>PI.S.ife c a b else none)=some is from h);let⟨x,y,y',e1,e2,e3,rfl⟩:=eq3 h;exact Ki ((ihs c x e1 E).2 z) (ihSs g X a y O e2 E) (ihSs g X b y' O e3 E)
   |For tg it b els pos=>cases els with
    |cons _ _=>exact bx h
    |nil=>
     let⟨z,h⟩:=bU (show (if (eI it&&g.cm)=true then (cQ D n g it).bind λq=>(if u9 q tg=true then k7 g n tg else none).bind λt=>(eg D n g b).map λb=>PI.S.for t q b else none)=some is from h);let⟨q,t,y,e1,e2,e3,rfl⟩:=eq3 h;let⟨e0,e2⟩:=bU e2;rw[aag] at z;exact IK O.fm O.hx (O.calm z.2) (sQ g X it q O e1 E tg e0) (qg O n tg t E e2) (ihSs g X b y O e3 E) (r9 z.1)
   |Assign tgs e pos=>cases tgs with
    |nil=>exact bx h
    |cons t r=>cases r with
     |cons _ _=>cases t<;>cases h
     |nil=>
      cases t<;>first|exact bx h|skip
      ·rename_i o f tp;let⟨z,h⟩:=bU (show (if (dX e&&D.fx.contains f)=true then (cE D n g o).bind λo=>(cE D n g e).map λe=>PI.S.dh o f (G6 (D.ff.contains f) e) else none)=some is from h);let⟨x,y,e1,e2,rfl⟩:=eq2 h;rw[aag] at z
       have hz:PE (X.af (L4.XE X E)) e (tE T P (call P m) E (G6 (D.ff.contains f) y)):=by
        cases D.ff.contains f with
        |true=>exact Kc (ihs e y e2 E).1
        |false=>exact(ihs e y e2 E).1
       exact Fq (X:=X.af (L4.XE X E)) O.K MO.cls (MO.fx f z.2) (ihs o x e1 E).1 hz (uN z.1)
      ·rename_i o i tp;let⟨z,h⟩:=bU (show (if (eQ i&&dX e)=true then (cE D n g o).bind λo=>(cE D n g i).bind λi=>(cE D n g e).map λe=>PI.S.fG o i e else none)=some is from h);let⟨x,y,y',e1,e2,e3,rfl⟩:=eq3 h;rw[aag] at z;exact F5 (X:=X.af (L4.XE X E)) (by have:=O.un;show X.A.units+1<cLine;lia) (ihs o x e1 E).1 (ihs i y e2 E).1 (ihs e y' e3 E).1 z.1 z.2
      ·rename_i x py;let⟨i,ie,e1,e2,rfl⟩:=eq2 (show ((g.lx x).bind λi=>(cE D n g e).map λe=>PI.S.set (.var i) e)=some is from h);let⟨h1,h2,h3⟩:=O.lx e1
       have nd:X.N.Nodup:=by rw[O.N];exact O.nd
       have std:swapsWith e (some (.Name x py)) pos.line X.env=pure false->PS (X.af (L4.XE X E)) (.Assign [.Name x py] e pos) (tS T P (call P m) E (.set (.var i) ie)):=λq=>Jx (X:=X.af (L4.XE X E)) nd h1 h2 (ihs e ie e2 E).1 q h3
       cases e<;>first|exact std rfl|(cases n<;>cases e2;done)|skip
       rename_i elt gens sc cpos;have sw:=zX (elt:=elt) (gens:=gens) (sc:=sc) (cpos:=cpos) (py:=py) (x:=x) (line:=pos.line) O
       cases n with
       |zero=>cases e2
       |succ n=>
        let⟨sE',sQ'⟩:=Cg MO hc n
        cases eb:(g.sc.kind== .function&&g.sc.names.lookup x==some .local&&py.line==cpos.line&& !(sc.names.any λ(n,k)=>n==x&&(k== .local||k== .cell))) with
        |false=>exact std (by rw[sw,eb])
        |true=>
         rw[eb] at sw
         have hl:X.env.scope.names.lookup x=some .local:=by
          simp only[aag,abw] at eb;rw[O.sc];exact eb.1.1.2
         let⟨tg,iter,ifs,g',q,t,c,ee,rfl,z,b1,b2,b0,b3,b4,b5,rfl⟩:=mJ e2;let⟨k0,k1,k2,k3⟩:=O.block b1;exact FR O.fm O.hx k1 k0 k2 nd h1 hl (sQ' g X iter q O b2 E tg b0) (λσ own C fp pn s H hh=>qg (k3 own C fp pn s H hh) n tg t _ b3) (λσ own C fp pn s H hh=>uo (λe ie=>sE' g' _ e ie (k3 own C fp pn s H hh)) b5 _) (λσ own C fp pn s H hh=>(sE' g' _ elt ee (k3 own C fp pn s H hh) b4 _).1) sw (r9 z)
      ·rename_i tes tk tp;let⟨z,h⟩:=bU (show (if xW e=true then (k7 g n (.Tuple tes tk tp)).bind λt=>(cE D n g e).map λe=>PI.S.set t e else none)=some is from h);let⟨t,ie,e1,e2,rfl⟩:=eq2 h;exact FP (X:=X.af (L4.XE X E)) (ihs e ie e2 E).1 (qg O n _ t E e1) (by cases e<;>rfl) (by cases e<;>first|rfl|cases z) rfl
   |Try b hs els fin pos=>
    cases hs with
    |nil=>exact bx h
    |cons hd r=>cases r with
     |cons _ _=>cases hd with|ExceptHandler ty x hb hp=>cases ty with
      |none=>exact bx h
      |some t=>cases t<;>first|exact bx h|(cases hb<;>cases h)
     |nil=>
      cases hd with
      |ExceptHandler ty x hb hp=>cases ty with
       |none=>exact bx h
       |some t=>
        cases t<;>first|exact bx h|skip
        rename_i cn np
        cases hb with
        |nil=>exact bx h
        |cons h0 hs=>cases els with
         |cons _ _=>exact bx h
         |nil=>cases fin with
          |cons _ _=>exact bx h
          |nil=>
           let⟨zc,h⟩:=bU (show (if g.cm=true then (wJ D g cn).bind λc=>(AN g x).bind λi=>(eg D n g b).bind λb=>(eg D n {g with cm:=false} (h0::hs)).map λh=>PI.S.try_ b c i h else none)=some is from h);exact Dj MO O zc (λX' O' iss e E=>ihSs g X' b iss O' e E) (λX' O' iss e E=>ihSs {g with cm:=false} X' (h0::hs) iss O' e E) h E
   |Raise exc cause pos=>cases exc with
    |none=>exact bx h
    |some ex=>cases cause with
     |some _=>cases ex<;>first|exact bx h|(rename_i a b c d;cases a<;>first|exact bx h|(cases c<;>cases h))
     |none=>
      cases ex<;>first|exact bx h|skip
      rename_i fn es ks cpos
      cases fn<;>first|exact bx h|skip
      rename_i x np
      cases ks with
      |cons _ _=>exact bx h
      |nil=>exact yi MO O ihs h E
   |_=>exact bx h
  ·cases ss with
   |nil=>
    cases h;exact EH
   |cons s r=>
    let⟨x,y,e1,e2,rfl⟩:=eq2 (show ((cS D n g s).bind λs=>(eg D n g r).map λr=>s::r)=some iss from h);exact Dr (ihS g X s x O e1 E) (ihSs g X r y O e2 E)
structure DOk (D:Dt) (P:Pg) (T:CT) (M:Md) (base:Heap) (mg:Str->Option Value):Prop where
 def_:∀i d,P.fn i=some d->∃(x qual:Str) (st:Stmt),Fun T.K x qual st (M.fa i) (M.fd i)/\FnScope (j8 (M.ps i) (ay st)) (M.ps i) (ay st)/\vv D (M.ps i) (ay st) (bB st)=some d
theorem EL (MO:MOk D P T M mg) (DO:DOk D P T M base mg):∀(n:Nat) (i:Nat),FnOk P' w T.K mg base (dz P' w) (4*n) (M.fa i) (M.fd i) (M.ps i) (fj T P n i):=by
 intro n
 induction n with
 |zero=>exact λi=>⟨λvs H Q E z904=>by let⟨st,as,G,xs,s,r,h⟩:=z904;exact h.elim,λA outer s H args us vs Q E _ _ _ _ z913=>by let⟨st,as,G,xs,s',r,h⟩:=z913;exact h.elim⟩
 |succ n ih=>
  intro i
  cases e:P.fn i with
  |none=>
   have no:∀{as G xs st Q X},¬ae T as G (call P (n+1) i xs st) Q X:=λ{as G xs st Q X} h=>by
    unfold call at h;rw[e] at h;exact h
   exact⟨λvs H Q E z904=>by let⟨st,as,G,xs,s,r,h⟩:=z904;exact(no h).elim,λA outer s H args us vs Q E _ _ _ _ z913=>by let⟨st,as,G,xs,s',r,h⟩:=z913;exact(no h).elim⟩
  |some d=>
   let⟨x,qual,st,F,S,c⟩:=DO.def_ i d e;let⟨b,c1,rfl⟩:=aab.mp (show (eg D 400 ⟨j8 (M.ps i) (ay st),ay st,λ_=>true,true⟩ (bB st)).map (λb=>(⟨(M.ps i).length,(j8 (M.ps i) (ay st)).length,b⟩:Fn))=some d from c);refine HE (k:=4*n+3) F S e rfl rfl λcdv A outer s H E hr=> ?_;refine(HS MO ih 400).2 ⟨j8 (M.ps i) (ay st),ay st,λ_=>true,true⟩ _ _ _ ⟨rfl,S.nd,rfl,λ_ _=>rfl,S.kind,fmD,hxD,λ_=>rfl,rfl,rfl,rfl,rfl,rfl,λ_=>hr,by have:=hr.un;show (A.deeper (envOfC qual (ay st) s.heap.objs.size (M.fa i) cdv)).units+200<cLine;lia⟩ c1 _
end
theorem AU (K:PySem.W.Frag):vF K:=by
 intro a n ha hn;simp only[aap,abh,acE] at ha hn
 rcases ha with rfl|rfl|rfl|rfl|rfl|rfl|rfl<;>rcases hn with rfl|rfl|rfl|rfl|rfl|rfl<;>exact(by with_unfolding_all rfl)
structure Df where
 i:Nat
 o:Option Str
 x:Str
 q:Str
 st:Stmt
 ps:List Str
def kc (K:PySem.W.Frag) (x q:Str) (st:Stmt) (f:Addr):Prop:=∃(oc:Value) (od:Option Addr) (kV doc pm:Value) (an:Option Addr) (cdv ct:Value) (osl:Array (Option Value)),
 K.lookup f=some ⟨oc,od, .func (PySem.W.fnOf x q (dD st) (bB st) (ay st) .none kV doc pm an cdv ct),osl⟩/\PySem.W.codeIn K cdv q=true/\PySem.W.keepIn K (.ref f)=true
def Gs (ps:List Str) (sc:Scope):Bool:=(sc.kind== .function)&& !sc.isCoroutine&& !sc.isGenerator&&jC (j8 ps sc)&&(ps.all λx=>vP sc x)&&(sc.names.all λy=> !(y.2== .free))
theorem JB {ps:List Str} (h:Gs ps sc=true):FnScope (j8 ps sc) ps sc:=by
 unfold Gs at h;simp only[aag,ac1,abw,ace,acR] at h;let⟨⟨⟨⟨⟨h1,h2⟩,h3⟩,h4⟩,h5⟩,h6⟩:=h;refine⟨h1,h2,h3,lg h4, ?_,λx hx=> ?_,h6⟩
 ·unfold j8;simp
 ·have:=h5 x hx;unfold vP at this;simpa only[abI,abw] using this
structure DS (D:Dt) (d:Df):Prop where
 b:∀(kV doc pm:Value) (an:Option Addr) (cdv ct:Value) (us:List Value),us.length=d.ps.length->bindArgs (PySem.W.fnOf d.x d.q (dD d.st) (bB d.st) (ay d.st) .none kV doc pm an cdv ct) ⟨us,[]⟩=pure (d.ps.zip us)
 s:Gs d.ps (ay d.st)=true
 c:(vv D d.ps (ay d.st) (bB d.st)).isSome=true
def fu (D:Dt) (ds:List Df) (cls:List (Nat×Cl)) (w:Nat):Pg:=⟨ds.map λd=>(d.i,(vv D d.ps (ay d.st) (bB d.st)).getD ⟨0,0,[]⟩),cls,w⟩
theorem uA {D:Dt} {cls:List (Nat×Cl)} {w:Nat} {i:Nat} {f:Fn}:∀{ds:List Df},(fu D ds cls w).fn i=some f->∃d,ds.find? (λd=>d.i==i)=some d/\d∈ds/\f=(vv D d.ps (ay d.st) (bB d.st)).getD ⟨0,0,[]⟩
 |[],h=>by cases h
 |d::ds,h=>by
  replace h:((d.i,(vv D d.ps (ay d.st) (bB d.st)).getD ⟨0,0,[]⟩)::ds.map λd=>(d.i,(vv D d.ps (ay d.st) (bB d.st)).getD ⟨0,0,[]⟩)).lookup i=some f:=h;rw[aaJ] at h
  cases e:(i==d.i) with
  |true=>
   rw[e] at h;cases h;refine⟨d, ?_,aaC,rfl⟩;rw[abu,show (d.i==i)=true by simpa using (beq_iff_eq.mp e).symm]
  |false=>
   rw[e] at h;let⟨d',h1,h2,h3⟩:=uA (D:=D) (cls:=cls) (w:=w) (ds:=ds) h;refine⟨d', ?_,aat _ h2,h3⟩;rw[abu,show (d.i==i)=false by simpa using λz=>(beq_eq_false_iff_ne.mp e) z.symm];exact h1
theorem build {K:PySem.W.Frag} {D:Dt} {ds:List Df} {fa:Nat->Addr} (h:∀i d,ds.find? (λd=>d.i==i)=some d->kc K d.x d.q d.st (fa i)):∃M:Md,M.fa=fa/\∀i d,ds.find? (λd=>d.i==i)=some d->M.ps i=d.ps/\Fun K d.x d.q d.st (fa i) (M.fd i):=by
 have ex:∀i,∃fd:FuncData,∀d,ds.find? (λd=>d.i==i)=some d->Fun K d.x d.q d.st (fa i) fd:=λi=>by
  cases e:ds.find? (λd=>d.i==i) with
  |none=>exact⟨PySem.W.fnOf "" "" ⟨[],[],none,[],[],none,[]⟩ [] ⟨.function,[],false,false,[]⟩ .none .none .none .none none .none .none,λd z=>by cases z⟩
  |some d=>
   let⟨oc,od,kV,doc,pm,an,cdv,ct,osl,l,c,k⟩:=h i d e;exact⟨_,λd' z=>by cases z;exact Fg l c k⟩
 refine⟨⟨fa,λi=>Classical.choose (ex i),λi=>((ds.find? (λd=>d.i==i)).map (·.ps)).getD []⟩,rfl,λi d e=>⟨?_,Classical.choose_spec (ex i) d e⟩⟩;show ((ds.find? (λd=>d.i==i)).map (·.ps)).getD []=d.ps;rw[e];rfl
noncomputable def iC (K:PySem.W.Frag) (x:Str):Addr:=match PySem.W.nsIn K mainGlobals x with
 |some (some (.ref a))=>a
 |_=>0
noncomputable def fnAt (K:PySem.W.Frag) (C:Addr) (m:Str):Addr:=match PySem.W.findIn K (.ref C) m with
 |some (some (.ref a))=>a
 |_=>0
def jH (K:PySem.W.Frag) (d:Df):Addr:=match d.o with
 |none=>iC K d.x
 |some c=>fnAt K (iC K c) d.x
def lS (K:PySem.W.Frag) (ds:List Df) (i:Nat):Addr:=((ds.find? λd=>d.i==i).map (jH K)).getD 0
def bW (K:PySem.W.Frag) (cn:List (Nat×Str)) (c:Nat):Addr:=((cn.lookup c).map (iC K)).getD 0
theorem gj {K:PySem.W.Frag} {x:Str} {a:Addr} (h:PySem.W.nsIn K mainGlobals x=some (some (.ref a))):iC K x=a:=by
 unfold iC;rw[h]
theorem uh {K:PySem.W.Frag} {C:Addr} {x:Str} {a:Addr} (h:PySem.W.findIn K (.ref C) x=some (some (.ref a))):fnAt K C x=a:=by
 unfold fnAt;rw[h]
def jx (K:PySem.W.Frag) (d:Df):Prop:=match d.o with
 |none=>∃f,PySem.W.nsIn K mainGlobals d.x=some (some (.ref f))/\kc K d.x d.q d.st f
 |some c=>∃C f,PySem.W.nsIn K mainGlobals c=some (some (.ref C))/\PySem.W.findIn K (.ref C) d.x=some (some (.ref f))/\kc K d.x d.q d.st f
theorem CL {K:PySem.W.Frag} {d:Df} (h:jx K d):kc K d.x d.q d.st (jH K d):=by
 unfold jx at h;unfold jH;split at h
 ·let⟨f,e,q⟩:=h;rename_i z;show kc K d.x d.q d.st (iC K d.x);rw[gj e];exact q
 ·let⟨C,f,e1,e2,q⟩:=h;rename_i c z;show kc K d.x d.q d.st (fnAt K (iC K c) d.x);rw[gj e1,uh e2];exact q
def nQ (K:PySem.W.Frag) (ds:List Df) (cls:List (Nat×Cl)) (cn:List (Nat×Str)) (xc:Nat->Bool):Str×Gv->Prop
 |(x, .fn i)=>∃d,ds.find? (λd=>d.i==i)=some d/\d.o=none/\d.x=x
 |(x, .cls c b)=>∃C K',PySem.W.nsIn K mainGlobals x=some (some (.ref C))/\cn.lookup c=some x/\cls.lookup c=some K'/\xc c=false/\PySem.W.keepIn K (.ref C)=true/\PySem.W.makesIn K C=true/\
  (b=false->K'.init=none/\PySem.W.findIn K (.ref C) "__init__"=some (some (.builtin "object.__init__")))/\
  (b=true->∃fi d f,K'.init=some fi/\ds.find? (λd=>d.i==fi)=some d/\d.o=some x/\d.x="__init__"/\PySem.W.findIn K (.ref C) "__init__"=some (some (.ref f))/\PySem.W.isFn K (.ref f)=true)
 |(x, .err c)=>∃C K',PySem.W.nsIn K mainGlobals x=some (some (.ref C))/\cn.lookup c=some x/\cls.lookup c=some K'/\K'.init=none/\xc c=true/\PySem.W.excIn K C uT "ValueError.__new__"=true
 |(x, .val v)=>∃i tk,v= .int i/\PySem.W.nsIn K mainGlobals x=some (some (.int i tk))
def vN (K:PySem.W.Frag) (ds:List Df) (cn:List (Nat×Str)) (c:Nat) (p:Str×Nat):Prop:=∃x C f d y R,cn.lookup c=some x/\PySem.W.nsIn K mainGlobals x=some (some (.ref C))/\PySem.W.findIn K (.ref C) p.1=some (some (.ref f))/\PySem.W.isFn K (.ref f)=true/\
 ds.find? (λd=>d.i==p.2)=some d/\d.o=some y/\d.x=p.1/\PySem.W.nsIn K mainGlobals y=some (some (.ref R))/\PySem.W.findIn K (.ref R) p.1=some (some (.ref f))
theorem eT {α:Type} {x:Str} {v:α}:∀{l:List (Str×α)},l.lookup x=some v->(x,v)∈l
 |[],h=>by cases h
 |(y,w)::r,h=>by
  rw[aaJ] at h;split at h
  ·rename_i e;cases h;rw[eq_of_beq e];exact aaC
  ·exact aat _ (eT h)
section
variable {K:PySem.W.Frag} {D:Dt} {ds:List Df} {cls:List (Nat×Cl)} {cn:List (Nat×Str)} {w:Nat} {xc:Nat->Bool} {mg:Str->Option Value} {h:Heap} {M:Md}
theorem mz {i:Nat} {d:Df} (e:ds.find? (λd=>d.i==i)=some d):lS K ds i=jH K d:=by
 unfold lS;rw[e];rfl
theorem kE {c:Nat} {x:Str} {C:Addr} (e:cn.lookup c=some x) (h:PySem.W.nsIn K mainGlobals x=some (some (.ref C))):bW K cn c=C:=by
 unfold bW;rw[e];exact gj h
theorem xh {d:Df} {x:Str} {C f:Addr} (o:d.o=some x) (h:PySem.W.nsIn K mainGlobals x=some (some (.ref C))) (h2:PySem.W.findIn K (.ref C) d.x=some (some (.ref f))):jH K d=f:=by
 unfold jH;rw[o];show fnAt K (iC K x) d.x=f;rw[gj h,uh h2]
theorem Hk (X:K.In h) (G:h.Ns mainGlobals mg) (hD:∀d∈ds,jx K d) (hM:M.fa=lS K ds) (hF:∀i d,ds.find? (λd=>d.i==i)=some d->M.ps i=d.ps/\Fun K d.x d.q d.st (lS K ds i) (M.fd i)) (hS:∀d∈ds,DS D d)
  (hg:∀p∈D.gl,nQ K ds cls cn xc p) (hr:∀x∈D.fr,PySem.W.nsIn K mainGlobals x=some none) (hc:COk ⟨K,bW K cn,xc⟩ (fu D ds cls w)) (hm:∀(c:Nat) k',cls.lookup c=some k'->∀p∈k'.meths,k'.exc=false/\vN K ds cn c p) (hx:∀f,D.fx.contains f=true->∀(c:Nat) k,(fu D ds cls w).cl c=some k->f∈k.flds->k.exc=false)
  (he:∀y∈D.is,∀c,D.gl.lookup y=some (.err c)->mq ⟨K,bW K cn,xc⟩ (fu D ds cls w) c):MOk D (fu D ds cls w) ⟨K,bW K cn,xc⟩ M mg:=by
 refine⟨λx i e=> ?_,λx e=>PySem.W.mg_none_of X G (hr x (by simpa using e)),AU K,hc,λx c b e=> ?_,λx c e=> ?_,λx v e=> ?_,λm c k' fi q1 q2=> ?_,hx,λy c q=>he y (by simpa using q) c⟩
 ·let⟨d,e1,e2,e3⟩:=hg _ (eT e);let⟨f1,f2⟩:=hF i d e1;have dm:=abo e1;rw[hM];refine⟨?_,f2.kp, ?_⟩
  ·have z:=hD d dm;unfold jx at z;rw[e2] at z;let⟨f,z1,_⟩:=z;rw[mz e1];unfold jH;rw[e2];show mg x=some (.ref (iC K d.x));rw[gj z1,←e3];exact acw X G z1
  ·rw[f1];exact f2.binds (hS d dm).b
 ·let⟨C,K',g1,g2,g3,g4,g5,g6,g7,g8⟩:=hg _ (eT e);have ec:bW K cn c=C:=kE g2 g1
  show mg x=some (.ref (bW K cn c))/\xc c=false/\PySem.W.keepIn K (.ref (bW K cn c))=true/\PySem.W.makesIn K (bW K cn c)=true/\∃K',(fu D ds cls w).cl c=some K'/\(b=false->K'.init=none/\PySem.W.findIn K (.ref (bW K cn c)) "__init__"=some (some (.builtin "object.__init__")))/\
   (b=true->∃fi,K'.init=some fi/\PySem.W.findIn K (.ref (bW K cn c)) "__init__"=some (some (.ref (M.fa fi)))/\PySem.W.isFn K (.ref (M.fa fi))=true/\Binds K (M.fd fi) (M.ps fi) [])
  rw[ec];refine⟨acw X G g1,g4,g5,g6,K',g3,g7,λhb=> ?_⟩;let⟨fi,d,f,i1,i2,i3,i4,i5,i6⟩:=g8 hb;let⟨f1,f2⟩:=hF fi d i2
  have ef:M.fa fi=f:=by
   rw[hM,mz i2];exact xh i3 g1 (by rw[i4];exact i5)
  refine⟨fi,i1,by rw[ef];exact i5,by rw[ef];exact i6, ?_⟩;rw[f1];exact f2.binds (hS d (abo i2)).b
 ·let⟨C,K',g1,g2,g3,g4,g5,g6⟩:=hg _ (eT e);have ec:bW K cn c=C:=kE g2 g1;show mg x=some (.ref (bW K cn c))/\xc c=true/\PySem.W.excIn K (bW K cn c) uT "ValueError.__new__"=true/\∃K',(fu D ds cls w).cl c=some K'/\K'.init=none;rw[ec];exact⟨acw X G g1,g5,g6,K',g3,g4⟩
 ·let⟨i,tk,rfl,g1⟩:=hg _ (eT e);exact⟨.int i,_,acw X G g1,⟨tk,rfl⟩,λ_ _=>rfl⟩
 ·let⟨n1,x,C,f,d,y,R,m1,m2,m3,m4,m5,m6,m7,m8,m9⟩:=hm c k' q1 (m,fi) (eT q2);have ec:bW K cn c=C:=kE m1 m2;let⟨f1,f2⟩:=hF fi d m5
  have ef:M.fa fi=f:=by
   rw[hM,mz m5];exact xh m6 m8 (by rw[m7];exact m9)
  show k'.exc=false/\Meth K (bW K cn c) m (M.fa fi)/\Binds K (M.fd fi) (M.ps fi) [];rw[ec];refine⟨n1,⟨by rw[ef];exact m3,by rw[ef];exact m4, ?_⟩, ?_⟩
  ·have:=f2.kp;rw[←hM] at this;exact this
  ·rw[f1];exact f2.binds (hS d (abo m5)).b
theorem Fh {ca:Nat->Addr} (hM:M.fa=lS K ds) (hF:∀i d,ds.find? (λd=>d.i==i)=some d->M.ps i=d.ps/\Fun K d.x d.q d.st (lS K ds i) (M.fd i)) (hS:∀d∈ds,DS D d):DOk D (fu D ds cls w) ⟨K,ca,xc⟩ M base mg:=by
 refine⟨λi f e=> ?_⟩;let⟨d,e1,e2,rfl⟩:=uA e;let⟨f1,f2⟩:=hF i d e1;have S:=hS d e2;refine⟨d.x,d.q,d.st,hM▸f2,f1▸JB S.s, ?_⟩;rw[f1];let⟨y,e3⟩:=aa1.mp S.c;rw[e3];rfl
end
theorem rC {T:CT} {G:Hp}:∀ns:List Int,ag T as G (ns.map .int) (ns.map V.int)
 |[]=>rfl
 |n::ns=>⟨.int n,ns.map V.int,rfl,rfl,rC ns⟩
structure HeadOk (K:PySem.W.Frag) (D:Dt) (ds:List Df) (cls:List (Nat×Cl)) (cn:List (Nat×Str)) (xc:Nat->Bool) (wn:Nat):Prop where
 d:∀d∈ds,jx K d
 g:∀p∈D.gl,nQ K ds cls cn xc p
 m:∀(c:Nat) k',cls.lookup c=some k'->∀p∈k'.meths,k'.exc=false/\vN K ds cn c p
 r:∀x∈D.fr,PySem.W.nsIn K mainGlobals x=some none
 c:COk ⟨K,bW K cn,xc⟩ (fu D ds cls wn)
 e:∀y∈D.is,∀c,D.gl.lookup y=some (.err c)->mq ⟨K,bW K cn,xc⟩ (fu D ds cls wn) c
theorem Jg {l:PySem.W.OpenLaw} {loose:List Str} {XP:(Str->Option Value)->Heap->Prop} {YP:World->Heap->Prop} {d:DefRec} {K:Params->PySem.W.Frag} {D:Dt} {ds:List Df} {cls:List (Nat×Cl)} {cn:List (Nat×Str)} {xc:Nat->Bool} {wn:Nat} {n f:Nat} {x:Str} {df:Df}
  (hn:l.most=some 63) (hdf:d.params.defaults=[]) (hroom:Room (4*n) callerA) (hY:∀(w:World) (h:Heap),YP w h->(K w.params).In h)
  (hS:∀d∈ds,DS D d) (hf:ds.find? (λd=>d.i==f)=some df) (hps:df.ps=[x]) (ho:df.o=none) (hname:d.name=df.x) (hx:∀f,D.fx.contains f=true->∀(c:Nat) k,(fu D ds cls wn).cl c=some k->f∈k.flds->k.exc=false)
  (F:∀w:World,HeadOk (K w.params) D ds cls cn xc wn)
  (pure_:∀ns:List Int,ns.length<=63->call (fu D ds cls wn) n f [.lst (ns.map .int)] []= .ok (.bl true) []):
  PySem.W.WalkO q loose XP YP l.row.toRowW d [] (λf vs=>PySem.call f vs):=
 L2.CJ (n:=63) (k:=4*n) (x:=x) (CX:=λw=>dz l.prog w) (K:=K) (sp:=λw=>fj ⟨K w.params,bW (K w.params) cn,xc⟩ (fu D ds cls wn) n f) hn (by decide) hdf hroom hY
  (λw mg a h KX G hm=>by
   have O:=F w
   let⟨M,hM,hF⟩:=build (D:=D) (fa:=lS (K w.params) ds) (K:=K w.params) (ds:=ds) λi d' hd'=>by
    rw[mz hd'];exact CL (O.d d' (abo hd'))
   let⟨f1,f2⟩:=hF f df hf;have dm:=abo hf
   have ea:M.fa f=a:=by
    have z:=O.d df dm;unfold jx at z;rw[ho] at z;let⟨f',z1,_⟩:=z;rw[hM,mz hf];unfold jH;rw[ho];show iC (K w.params) df.x=a;rw[gj z1];have:=acw KX G z1;rw[←hname,hm] at this;cases this;rfl
   refine⟨M.fd f,λs v=> ?_,λbase _ _=> ?_⟩
   ·let⟨oc,od,kV,doc,pm,an,cdv,ct,osl,efd,_⟩:=f2.ex;rw[efd];have:=(hS df dm).b kV doc pm an cdv ct [v] (by rw[hps];rfl);rw[hps] at this;exact .of_eq this
   ·have:=EL (P':=l.prog) (w:=w) (base:=base) (Hk KX G O.d hM hF hS O.g O.r O.c O.m hx O.e) (Fh hM hF hS) n f;rw[ea,f1,hps] at this
    exact this)
  (λw H a ns hl hO hS=>by
   refine⟨[],[],H,[.lst (ns.map .int)],⟨rfl,acp,Le.refl _,λa h=>(by cases h),λn o a h=>(by cases h)⟩,⟨.ref a,[],rfl,⟨a,ns.map V.int,rfl,hS,rC ns⟩,rfl⟩, ?_⟩;rw[pure_ ns hl]
   exact λas' G' H' _ _ _ u hu=>hu)
  λ_ _ _ _ _ h=>by
   let⟨_,_,_,_,_,_,_,_,_,_,_,_,_,_,_,z⟩:=h;exact z
theorem u7 {K:PySem.W.Frag} {i:Nat} {x q:Str} {st:Stmt} {ps:List Str} {f:Addr} {oc:Value} {od an:Option Addr} {osl:Array (Option Value)} {kV doc pm cdv ct:Value} (a:PySem.W.nsIn K mainGlobals x=some (some (.ref f)))
  (l:K.lookup f=some ⟨oc,od, .func (PySem.W.fnOf x q (dD st) (bB st) (ay st) .none kV doc pm an cdv ct),osl⟩) (c:PySem.W.codeIn K cdv q=true) (k:PySem.W.keepIn K (.ref f)=true):jx K ⟨i,none,x,q,st,ps⟩:=⟨f,a,oc,od,kV,doc,pm,an,cdv,ct,osl,l,c,k⟩
theorem lO {α:Type} {p:α->Prop} {a:α} {l:List α} (h:p a) (t:∀x∈l,p x):∀x∈a::l,p x:=List.forall_mem_cons.mpr ⟨h,t⟩
theorem oz {α:Type} {p:α->Prop}:∀x∈([]:List α),p x:=λ_ h=>by cases h
theorem Cb {K:PySem.W.Frag} {ds:List Df} {cls:List (Nat×Cl)} {cn:List (Nat×Str)} {xc:Nat->Bool} {x:Str} {i:Nat} {d:Df} (e:ds.find? (λd=>d.i==i)=some d) (h:d.o=none) (z:d.x=x):nQ K ds cls cn xc (x, .fn i):=⟨d,e,h,z⟩
theorem uj {K:PySem.W.Frag} {i:Nat} {c x q:Str} {st:Stmt} {ps:List Str} {C f:Addr} {oc:Value} {od an:Option Addr} {osl:Array (Option Value)} {kV doc pm cdv ct:Value} (n:PySem.W.nsIn K mainGlobals c=some (some (.ref C))) (a:PySem.W.findIn K (.ref C) x=some (some (.ref f)))
  (l:K.lookup f=some ⟨oc,od, .func (PySem.W.fnOf x q (dD st) (bB st) (ay st) .none kV doc pm an cdv ct),osl⟩) (cd:PySem.W.codeIn K cdv q=true) (k:PySem.W.keepIn K (.ref f)=true):jx K ⟨i,some c,x,q,st,ps⟩:=⟨C,f,n,a,oc,od,kV,doc,pm,an,cdv,ct,osl,l,cd,k⟩
section
variable {K:PySem.W.Frag} {ds:List Df} {cls:List (Nat×Cl)} {cn:List (Nat×Str)} {xc:Nat->Bool} {D:Dt} {w:Nat}
theorem w4 {x:Str} {c:Nat} {C:Addr} {k:Cl} (n:PySem.W.nsIn K mainGlobals x=some (some (.ref C))) (e1:cn.lookup c=some x) (e2:cls.lookup c=some k) (e3:k.init=none) (e4:xc c=true) (h:PySem.W.excIn K C uT "ValueError.__new__"=true):nQ K ds cls cn xc (x, .err c):=⟨C,k,n,e1,e2,e3,e4,h⟩
theorem wW {x:Str} {c fi:Nat} {C f:Addr} {k:Cl} {d:Df} (n:PySem.W.nsIn K mainGlobals x=some (some (.ref C))) (e1:cn.lookup c=some x) (e2:cls.lookup c=some k) (e4:xc c=false) (h1:PySem.W.keepIn K (.ref C)=true) (h2:PySem.W.makesIn K C=true) (e5:k.init=some fi) (e6:ds.find? (λd=>d.i==fi)=some d) (e7:d.o=some x) (e8:d.x="__init__")
  (h3:PySem.W.findIn K (.ref C) "__init__"=some (some (.ref f))) (h4:PySem.W.isFn K (.ref f)=true):nQ K ds cls cn xc (x, .cls c true):=⟨C,k,n,e1,e2,e4,h1,h2,λh=>(by cases h),λ_=>⟨fi,d,f,e5,e6,e7,e8,h3,h4⟩⟩
theorem xy {x:Str} {i:Int} {tk:Nat} (n:PySem.W.nsIn K mainGlobals x=some (some (.int i tk))):nQ K ds cls cn xc (x, .val (.int i)):=⟨i,tk,rfl,n⟩
theorem dy {α:Type} {x:Nat} {v:α}:∀{l:List (Nat×α)},l.lookup x=some v->(x,v)∈l
 |[],h=>by cases h
 |(y,w)::r,h=>by
  rw[aaJ] at h;split at h
  ·rename_i e;cases h;rw[eq_of_beq e];exact aaC
  ·exact aat _ (dy h)
def Gg (K:PySem.W.Frag) (cn:List (Nat×Str)) (xc:Nat->Bool) (p:Nat×Cl):Prop:=xc p.1=p.2.exc/\(p.2.exc=false->∃x C,cn.lookup p.1=some x/\PySem.W.nsIn K mainGlobals x=some (some (.ref C))/\Cls K C/\∀f∈p.2.flds,dZ K C f)
theorem uB {p:Nat×Cl} (e1:xc p.1=p.2.exc) (e2:p.2.exc=true):Gg K cn xc p:=⟨e1,λh=>by rw[e2] at h;cases h⟩
theorem ua {p:Nat×Cl} {x:Str} {C:Addr} (e1:xc p.1=p.2.exc) (e2:cn.lookup p.1=some x) (n:PySem.W.nsIn K mainGlobals x=some (some (.ref C))) (h1:PySem.W.plainGet K C Str.empty=true) (h2:PySem.W.hasDictIn K C=true) (h3:PySem.W.plainOver K C=true) (h4:PySem.W.findIn K (.ref C) "__setattr__"=some (some (.builtin "object.__setattr__")))
  (h5:∀f∈p.2.flds,PySem.W.findIn K (.ref C) f=some none):Gg K cn xc p:=⟨e1,λ_=>⟨x,C,e2,n,⟨h1,h2,h3,h4⟩,h5⟩⟩
theorem Ge (h:∀p∈cls,Gg K cn xc p):COk ⟨K,bW K cn,xc⟩ (fu D ds cls w):=by
 refine⟨λc k e=>(h _ (dy e)).1,λc k e x=> ?_,λc k f e x hf=> ?_⟩
 ·let⟨x,C,e1,e2,e3,e4⟩:=(h _ (dy e)).2 x;show Cls K (bW K cn c);rw[kE e1 e2];exact e3
 ·let⟨x,C,e1,e2,e3,e4⟩:=(h _ (dy e)).2 x;show dZ K (bW K cn c) f;rw[kE e1 e2];exact e4 f hf
theorem Bo (h:∀q∈cls,∀p∈q.2.meths,q.2.exc=false/\vN K ds cn q.1 p):∀(c:Nat) k',cls.lookup c=some k'->∀p∈k'.meths,k'.exc=false/\vN K ds cn c p:=λc k' e p hp=>h _ (dy e) p hp
theorem Hx (h:∀q∈cls,q.2.exc=true->q.2.flds=[]):∀f,D.fx.contains f=true->∀(c:Nat) k,(fu D ds cls w).cl c=some k->f∈k.flds->k.exc=false:=λf _ c k e hf=>by
 cases x:k.exc with
 |false=>rfl
 |true=>
  have:=h _ (dy e) x;rw[this] at hf;cases hf
theorem xx {y0:Str} {c0:Nat} {C:Addr} (hy:D.is=[y0]) (hl:D.gl.lookup y0=some (.err c0)) (e1:cn.lookup c0=some y0) (n:PySem.W.nsIn K mainGlobals y0=some (some (.ref C))) (ho:∀q∈cls,q.2.sup.contains c0=true->q.1=c0) (h:PySem.W.exmOne K (.ref C) (.ref C)=some true):
  ∀y∈D.is,∀c,D.gl.lookup y=some (.err c)->mq ⟨K,bW K cn,xc⟩ (fu D ds cls w) c:=λy my c hc k K' e hs=>by
 rw[hy] at my;cases aaD.mp my;rw[hl] at hc;cases hc;have:=ho _ (dy e) hs;subst this;show PySem.W.exmOne K (.ref (bW K cn k)) (.ref (bW K cn k))=_;rw[kE e1 n];exact h
end
end PI
namespace PI
open PySem
theorem aj {P:Pg} {f:Nat} {d:Fn} (h:P.fn f=some d) (n:Nat) (xs:List Val) (st:aa) (hl:xs.length=d.np):call P (n+1) f xs st=(aN P (call P n) d.body (xs.map some++List.replicate (d.ns-d.np) none) st).fin P st:=by
 show BH P (call P n) xs st (P.fn f)=_;rw[h];exact bL hl
@[simp]theorem MB (P:Pg) (st:aa) (v:Val) (h:v.aD st st.length st.length=some v) (hr:isRef v=none):fin P st v st= .ok v st:=by
 unfold fin;rw[if_pos (lH st),hr];show (R.ao (v.aD st st.length st.length) st).bind _=_;rw[h];simp
theorem eU (P:Pg) (st st':aa) (v v':Val) (ho:Old st st') (h:v.aD st' st.length st'.length=some v') (hr:isRef v=none):fin P st v st'= .ok v' (st'.take st.length):=by
 unfold fin;rw[if_pos ho,hr];show (R.ao (v.aD st' st.length st'.length) st').bind _=_;rw[h];simp
@[simp]theorem OU (st:aa) (n x:Nat) (b:Bool):(Val.bl b).aD st n x=some (.bl b):=by simp[Val.aD,Val.sub]
@[simp]theorem M5 (st:aa) (n x:Nat) (b:Int):(Val.int b).aD st n x=some (.int b):=by simp[Val.aD,Val.sub]
@[simp]theorem MQ (st:aa) (n x:Nat):Val.non.aD st n x=some .non:=by simp[Val.aD,Val.sub]
@[simp]theorem DU (st:aa) (n x:Nat) (f:Bool) (xs:List Val):(Val.tup f xs).aD st n x=(aS st n x xs).map λxs=> .tup f xs:=by simp[Val.aD,Val.sub,aS]
@[simp]theorem Mi (st:aa) (n x:Nat):aS st n x []=some []:=by simp[aS,subs]
@[simp]theorem jE (st:aa) (n x:Nat) (v:Val) (r:List Val):aS st n x (v::r)=(v.aD st n x).bind λv=>(aS st n x r).map λr=>v::r:=by simp[Val.aD,subs,aS]
@[simp]theorem JY {α:Type} (r:R α):iff True r=r:=if_pos trivial
@[simp]theorem Oo (t b:Bool) (st:aa):fL t (R.ok (Val.bl true) st) (R.ok (Val.bl b) st)=R.ok (Val.bl (t||b)) st:=by cases t<;>rfl
@[simp]theorem M8 (t b:Bool) (st:aa):fL t (R.ok (Val.bl b) st) (R.ok (Val.bl false) st)=R.ok (Val.bl (t&&b)) st:=by cases t<;>rfl
@[simp]theorem aT (st:aa):Kept [] st:=λ_ h=>by cases h
theorem CU (st:aa):Old [] st:=⟨aaV _,λi o h _=>absurd h (Nat.not_lt_zero _)⟩
@[simp]theorem J8 (P:Pg) (st:aa) (b:Bool):fin P [] (.bl b) st= .ok (.bl b) []:=by
 have:=eU P [] st (.bl b) (.bl b) (CU st) (by simp) rfl;simpa using this
@[simp]theorem KC (i j:Int) (st:aa) (h:0<j):ra i j st= .ok (.int (i % j)) st:=by
 unfold ra;rw[bL (by lia),Int.fmod_eq_emod_of_nonneg _ (by lia)]
@[simp]theorem Bb (i j:Int) (st:aa) (h:0<j) (hb:j<2^64):lY i j st= .ok (.int (i/j)) st:=by
 unfold lY
 have:big j:=by
  unfold big;exact aan (show j.natAbs<2^64 by lia) (Nat.pow_le_pow_right (by lia) (by lia))
 rw[bL ⟨by lia,this⟩,Int.fdiv_eq_ediv_of_nonneg _ (by lia)]
@[simp]theorem OC (i j:Int) (st:aa) (h:j.natAbs<2^64):oB i j st= .ok (.int (i*j)) st:=bL (.inr (.inl h))
@[simp]theorem OH (i j:Int) (st:aa) (h:i.natAbs<2^64):oB i j st= .ok (.int (i*j)) st:=bL (.inl h)
@[simp]theorem Nv (n:Int) (st:aa) (h0:0<=n) (h1:n<16777216):wt (.int n) st= .ok (bu 0 n.toNat,[]) st:=bL ⟨by lia,by lia⟩
theorem zD (ns:List Int) (i:Int) (h0:0<=i) (h1:i<ns.length):kZ (ns.map .int) i=some (.int (ns.getD i.toNat 0)):=by
 have l:i.toNat<ns.length:=by lia
 unfold kZ iV;rw[List.length_map,if_pos h0,if_pos h1];show (ns.map Val.int)[i.toNat]?=_;rw[aaP,aae l,aav,aae l];rfl
@[simp high] theorem AD (ns:List Int) (i:Int) (st:aa) (h0:0<=i) (h1:i<ns.length):eS (.lst (ns.map .int)) (.int i) st= .ok (.int (ns.getD i.toNat 0)) st:=by
 show R.ao (kZ _ i) st=_;rw[zD ns i h0 h1];rfl
noncomputable def Rest (P:Pg) (cl:au) (ss:List S) (env:Env) (st:aa):F:=aN P cl ss env st
noncomputable def FT (P:Pg) (cl:au) (a b:List S) (env:Env) (t:Bool) (st:aa):F:=sY t (aN P cl a env st) (aN P cl b env st)
noncomputable def eB (P:Pg) (cl:au) (b:List S) (env:Env) (st:aa):F:=aN P cl b env st
noncomputable def Lp (P:Pg) (cl:au) (t:T) (b:List S) (env:Env) (it:List Val×List (Nat×Ob)) (st:aa):F:=forL t (eB P cl b) it.2 it.1 env st
section
variable (P:Pg) (cl:au) (env:Env) (st:aa)
@[simp]theorem OM:aN P cl [] env st= .next env st:=rfl
@[simp]theorem DN (s:S) (ss:List S):aN P cl (s::ss) env st=(s.run P cl env st).bind (Rest P cl ss):=rfl
@[simp]theorem LI (ss:List S):Rest P cl ss env st=aN P cl ss env st:=rfl
@[simp]theorem Oz (b:List S):eB P cl b env st=aN P cl b env st:=rfl
@[simp]theorem bra_t (a b:List S):FT P cl a b env true st=aN P cl a env st:=rfl
@[simp]theorem bra_f (a b:List S):FT P cl a b env false st=aN P cl b env st:=rfl
@[simp]theorem lp_at (t:T) (b:List S) (xs:List Val) (c:List (Nat×Ob)):Lp P cl t b env (xs,c) st=forL t (eB P cl b) c xs env st:=rfl
@[simp]theorem HM (t:T) (e:E):(S.set t e).run P cl env st=F.of env (e.run P cl env st) λx st=>F.ao st (t.put x env):=rfl
@[simp]theorem Hj (o i e:E):(S.fG o i e).run P cl env st=F.of env ((e.run P cl env st).bind λx st=>(o.run P cl env st).bind λy st=>(i.run P cl env st).bind λz st=>PI.fG z x y st) λ_ st=> .next env st:=rfl
@[simp]theorem Ow (o e:E) (f:Str):(S.dh o f e).run P cl env st=F.of env ((e.run P cl env st).bind λx st=>(o.run P cl env st).bind λy st=>PI.dh P f x y st) λ_ st=> .next env st:=rfl
@[simp]theorem OI (e:E):(S.expr e).run P cl env st=F.of env (e.run P cl env st) λ_ st=> .next env st:=rfl
@[simp]theorem s_ret (e:E):(S.ret e).run P cl env st=F.of env (e.run P cl env st) λx st=> .ret x st:=rfl
@[simp]theorem s_ife (c:E) (a b:List S):(S.ife c a b).run P cl env st=F.of env (runC P cl (some c) env st) (FT P cl a b env):=rfl
@[simp]theorem s_for (t:T) (q:Q) (b:List S):(S.for t q b).run P cl env st=F.of env (q.run P cl env st) (Lp P cl t b env):=rfl
@[simp]theorem of_ok {α:Type} (a:α) (k:α->aa->F):F.of env (.ok a st) k=k a st:=rfl
end
noncomputable def Nx (t:T) (body:Env->aa->F) (vs:List Val) (env:Env) (st:aa):F:=forL t body [] vs env st
@[simp]theorem nx_at (t:T) (body:Env->aa->F) (vs:List Val) (env:Env) (st:aa):Nx t body vs env st=forL t body [] vs env st:=rfl
open Classical in
@[simp]theorem N0 (t:T) (body:Env->aa->F) (env:Env) (st:aa):forL t body [] [] env st= .next env st:=iO (aT st)
open Classical in
@[simp]theorem sL (t:T) (body:Env->aa->F) (v:Val) (vs:List Val) (env:Env) (st:aa):forL t body [] (v::vs) env st=(F.ao st (t.put v env)).bind λenv st=>(body env st).turn (Nx t body vs):=iO (aT st)
open Classical in
theorem uz {t:T} {body:Env->aa->F} {chk:List (Nat×Ob)} (I:Nat->Env->aa->Prop):∀(items:List Val) (j:Nat) (env:Env) (st:aa),I j env st->(∀i env st,I i env st->Kept chk st)->
  (∀i v env st,items[i]?=some v->I (j+i) env st->∃env1,t.put v env=some env1/\∃env' st',(body env1 st= .next env' st'∨body env1 st= .cont env' st')/\I (j+i+1) env' st')->
  ∃env' st',forL t body chk items env st= .next env' st'/\I (j+items.length) env' st'
 |[],j,env,st,h,hk,_=>⟨env,st,iO (hk j env st h),h⟩
 |v::vs,j,env,st,h,hk,hs=>by
  let⟨env1,e1,env2,st2,e2,h2⟩:=hs 0 v env st rfl h
  let⟨env3,st3,e3,h3⟩:=uz I vs (j+1) env2 st2 h2 hk λi w env st e q=>by
   have:=hs (i+1) w env st e (by rw[show j+(i+1)=j+1+i by lia];exact q);rwa[show j+(i+1)+1=j+1+i+1 by lia] at this
  refine⟨env3,st3, ?_,by rw[show j+(v::vs).length=j+1+vs.length by simp;lia];exact h3⟩;show jV (Kept chk st) ((F.ao st (t.put v env)).bind λenv st=>(body env st).turn λenv st=>forL t body chk vs env st)=_;rw[iO (hk j env st h),e1];show (body env1 st).turn (λenv st=>forL t body chk vs env st)=_
  rcases e2 with e2|e2<;>rw[e2]<;>exact e3
theorem qJ {t:T} {body:Env->aa->F} {chk:List (Nat×Ob)} (I:Nat->Env->aa->Prop) (items:List Val) (env:Env) (st:aa) (h:I 0 env st) (hk:∀i env st,I i env st->Kept chk st)
  (hs:∀i v env st,items[i]?=some v->I i env st->∃env1,t.put v env=some env1/\∃env' st',(body env1 st= .next env' st'∨body env1 st= .cont env' st')/\I (i+1) env' st'):
  ∃env' st',forL t body chk items env st= .next env' st'/\I items.length env' st':=by
 let⟨env',st',e,q⟩:=uz I items 0 env st h hk λi v env st e q=>by
  have:=hs i v env st e (by rwa[acm] at q);rwa[acm]
 exact⟨env',st',e,by rwa[acm] at q⟩
@[simp]theorem A8:∀(n:Nat) (lo:Int),(bu lo n).length=n
 |0,_=>rfl
 |n+1,lo=>by unfold bu;rw[aaw,A8 n]
theorem sI:∀(n:Nat) (lo:Int) (i:Nat) (v:Val),(bu lo n)[i]?=some v->v= .int (lo+i)/\i<n
 |0,_,_,_,h=>by cases h
 |n+1,lo,0,v,h=>by
  cases h;exact⟨by simp,by lia⟩
 |n+1,lo,i+1,v,h=>by
  let⟨h1,h2⟩:=sI n (lo+1) i v h;exact⟨by rw[h1];congr 1;push_cast;lia,by lia⟩
noncomputable def ir3:Fn:=⟨5,5,[.ife (.cmp .Eq (.bi .len [.var 1]) (.ci 0)) [.raise 1 [.const (.str "a ship has at least one bay")]] [],
 .ife (.or (.cmp .Lt (.var 3) (.ci 0)) (.cmp .Lt (.var 4) (.ci 0))) [.raise 1 [.const (.str "a bound of the moments is below nought")]] [],
 .dh (.var 0) "bays" (.bi .tuple [.comp 1 [] (.var 0) (.val (.var 1)) none (.call 4 [.var 0])]),
 .dh (.var 0) "foes" (.bi .tuple [.comp 1 [] (.var 0) (.val (.var 2)) none (.bi .tuple [.var 0])]),
 .dh (.var 0) "trim" (.var 3),
 .dh (.var 0) "heel" (.var 4)]⟩
noncomputable def EN:Fn:=⟨1,2,[.set (.var 1) (.idx (.var 0) (.ci 1)),
 .ife (.cmp .Eq (.bi .len [.var 1]) (.ci 0)) [.raise 1 [.const (.str "a bay has at least one stack")]] [],
 .ret (.tup [.idx (.var 0) (.ci 0), .bi .tuple [.comp 1 [] (.var 0) (.val (.var 1)) none (.call 5 [.var 0])]])]⟩
noncomputable def Cn:Fn:=⟨1,1,[.ret (.tup [.idx (.var 0) (.ci 0), .call 6 [.idx (.var 0) (.ci 1)], .call 6 [.idx (.var 0) (.ci 2)]])]⟩
noncomputable def xt:Fn:=⟨1,1,[.ret (.call 7 [.idx (.var 0) (.ci 0), .idx (.var 0) (.ci 1), .idx (.var 0) (.ci 2), .bi .tuple [.idx (.var 0) (.ci 3)], .idx (.var 0) (.ci 4)])]⟩
noncomputable def uu:Fn:=⟨5,5,[.ife (.or (.cmp .Lt (.var 0) (.ci 0)) (.cmp .Gt (.var 0) (.ci 9))) [.raise 1 [.const (.str "a number of cells is not from 0 to 9")]] [],
 .ife (.or (.cmp .Lt (.var 1) (.ci 0)) (.or (.cmp .Lt (.var 2) (.ci 0)) (.cmp .Lt (.var 4) (.ci 0)))) [.raise 1 [.const (.str "a strength, height or lash is below nought")]] [],
 .ife (.not (.call 8 [.var 3, .var 0])) [.raise 1 [.const (.str "plugs are not strictly rising cells of their part")]] [],
 .ret (.tup [.var 0, .var 1, .var 2, .var 3, .var 4])]⟩
noncomputable def sF:Fn:=⟨2,4,[.set (.var 2) (.ci 0),
 .for (.var 3) (.val (.var 0)) [.ife (.or (.cmp .Lt (.var 3) (.var 2)) (.cmp .GtE (.var 3) (.var 1))) [.ret (.const (.bl false))] [], .set (.var 2) (.bin .Add (.var 3) (.ci 1))],
 .ret (.const (.bl true))]⟩
noncomputable def ir9:Fn:=⟨1,5,[.set (.var 1) (.lst []),
 .for (.var 2) (.rng1 (.bi .len [.fld (.var 0) "bays"])) [.set (.var 3) (.bi .len [.idx (.idx (.fld (.var 0) "bays") (.var 2)) (.ci 1)]), .for (.var 4) (.val (.tup [.ci 0, .ci 1])) [.expr (.bm .extend (.var 1) [.comp 1 [2,4] (.var 0) (.rng1 (.var 3)) none (.tup [.var 1, .var 0, .var 2])])]],
 .ret (.var 1)]⟩
noncomputable def qL:Fn:=⟨2,2,[.ret (.comp 1 [1] (.var 0) (.rng1 (.idx (.call 12 [.var 0, .var 1]) (.ci 0))) none (.bin .Add (.var 1) (.tup [.var 0])))]⟩
noncomputable def Fj:Fn:=⟨2,2,[.ret (.idx (.call 13 [.var 0, .var 1]) (.bin .Add (.ci 1) (.idx (.var 1) (.ci 2))))]⟩
noncomputable def AG:Fn:=⟨2,2,[.ife (.not (.call 14 [.var 0, .var 1])) [.raise 2 [.const (.str "the ship has no such part")]] [],
 .ret (.idx (.idx (.idx (.fld (.var 0) "bays") (.idx (.var 1) (.ci 0))) (.ci 1)) (.idx (.var 1) (.ci 1)))]⟩
noncomputable def F4:Fn:=⟨2,2,[.ife (.or (.cmp .Lt (.idx (.var 1) (.ci 0)) (.ci 0)) (.cmp .GtE (.idx (.var 1) (.ci 0)) (.bi .len [.fld (.var 0) "bays"]))) [.ret (.const (.bl false))] [],
 .ife (.or (.cmp .Lt (.idx (.var 1) (.ci 1)) (.ci 0)) (.cmp .GtE (.idx (.var 1) (.ci 1)) (.bi .len [.idx (.idx (.fld (.var 0) "bays") (.idx (.var 1) (.ci 0))) (.ci 1)]))) [.ret (.const (.bl false))] [],
 .ret (.cmp .In (.idx (.var 1) (.ci 2)) (.tup [.ci 0, .ci 1]))]⟩
noncomputable def FL:Fn:=⟨2,3,[.set (.var 2) (.slc (.var 1) none (some (.ci 3))),
 .ret (.and (.call 14 [.var 0, .var 2]) (.and (.cmp .GtE (.idx (.var 1) (.ci 3)) (.ci 0)) (.cmp .Lt (.idx (.var 1) (.ci 3)) (.idx (.call 12 [.var 0, .var 2]) (.ci 0)))))]⟩
noncomputable def Gb:Fn:=⟨1,1,[.ret (.tup [.idx (.var 0) (.ci 0), .idx (.var 0) (.ci 2), .idx (.var 0) (.ci 1), .idx (.var 0) (.ci 3)])]⟩
noncomputable def Fz:Fn:=⟨3,3,[.dh (.var 0) "ship" (.var 1),
 .dh (.var 0) "placed" (.bi .tuple [.sortK (.var 2) 34]),
 .dh (.var 0) "box_by_cell" (.fz (.dOf (.fld (.var 0) "placed"))),
 .dh (.var 0) "cell_by_name" (.fz (.dOf (.comp 2 [] (.tup [.var 0, .var 1]) (.val (.fld (.var 0) "placed")) none (.tup [.idx (.var 1) (.ci 0), .var 0])))),
 .expr (.call 35 [.var 0])]⟩
noncomputable def FK:Fn:=⟨1,1,[.ret (.call 32 [.idx (.var 0) (.ci 0)])]⟩
noncomputable def EY:Fn:=⟨1,2,[.ife (.cmp .Lt (.bi .len [.fld (.var 0) "box_by_cell"]) (.bi .len [.fld (.var 0) "placed"])) [.raise 3 [.const (.str "a cell is told twice")]] [],
 .ife (.cmp .Lt (.bi .len [.fld (.var 0) "cell_by_name"]) (.bi .len [.fld (.var 0) "placed"])) [.raise 3 [.const (.str "a name is told twice")]] [],
 .for (.var 1) (.val (.fld (.var 0) "box_by_cell")) [.ife (.not (.call 31 [.fld (.var 0) "ship", .var 1])) [.raise 3 [.const (.str "a cell is not the ship's")]] [], .ife (.not (.call 36 [.var 0, .var 1])) [.raise 3 [.const (.str "a box stands above an empty cell")]] []]]⟩
noncomputable def Fm:Fn:=⟨2,2,[.ret (.or (.cmp .Eq (.idx (.var 1) (.ci 3)) (.ci 0)) (.cmp .IsNot (.call 37 [.var 0, .bin .Add (.slc (.var 1) none (some (.ci 3))) (.tup [.bin .Sub (.idx (.var 1) (.ci 3)) (.ci 1)])]) (.const (.non))))]⟩
noncomputable def FC:Fn:=⟨2,2,[.ret (.bm .get (.fld (.var 0) "box_by_cell") [.var 1])]⟩
noncomputable def BF:Fn:=⟨2,3,[.set (.var 2) (.call 11 [.fld (.var 0) "ship", .var 1]),
 .ret (.bi .len [.comp 1 [0] (.var 0) (.val (.var 2)) (some (.cmp .IsNot (.call 37 [.var 1, .var 0]) (.const (.non)))) (.var 0)])]⟩
noncomputable def zZ:Fn:=⟨2,3,[.set (.var 2) (.idx (.call 13 [.var 0, .var 1]) (.ci 0)),
 .ret (.tup [.idx (.idx (.fld (.var 0) "bays") (.idx (.var 1) (.ci 0))) (.ci 0), .var 2])]⟩
noncomputable def Gj:Fn:=⟨1,4,[.set (.var 1) (.tup [.ci 0, .ci 0, .ci 0]),
 .for (.tup [.var 2, .var 3]) (.val (.fld (.var 0) "placed")) [.set (.var 1) (.call 82 [.fld (.var 0) "ship", .var 1, .var 2, .idx (.var 3) (.ci 1)])],
 .ret (.var 1)]⟩
noncomputable def Hw:Fn:=⟨4,5,[.set (.var 4) (.call 80 [.var 0, .slc (.var 2) none (some (.ci 3))]),
 .ret (.tup [.bin .Add (.idx (.var 1) (.ci 0)) (.var 3), .bin .Add (.idx (.var 1) (.ci 1)) (.bin .Mult (.var 3) (.idx (.var 4) (.ci 0))), .bin .Add (.idx (.var 1) (.ci 2)) (.bin .Mult (.var 3) (.idx (.var 4) (.ci 1)))])]⟩
noncomputable def Am:Fn:=⟨1,2,[.set (.var 1) (.call 81 [.var 0]),
 .ret (.and (.cmp .LtE (.bi .abs [.idx (.var 1) (.ci 1)]) (.fld (.fld (.var 0) "ship") "trim")) (.cmp .LtE (.bi .abs [.idx (.var 1) (.ci 2)]) (.fld (.fld (.var 0) "ship") "heel")))]⟩
noncomputable def Fs:Fn:=⟨2,4,[.fG (.var 1) (.ci 0) (.bin .Add (.idx (.var 1) (.ci 0)) (.ci 1)),
 .set (.var 2) (.ite (.cmp .Gt (.bi .len [.var 0]) (.ci 0)) (.idx (.var 0) (.bin .Mod (.idx (.var 1) (.ci 0)) (.bi .len [.var 0]))) (.ci 0)),
 .set (.var 3) (.bin .Mod (.bin .Mult (.bin .Add (.bin .Add (.bin .Mod (.var 2) (.ci 2147483647)) (.bin .Mult (.bin .Mult (.idx (.var 1) (.ci 0)) (.idx (.var 1) (.ci 0))) (.ci 7919))) (.ci 11)) (.ci 48271)) (.ci 2147483647)),
 .ret (.bin .Mod (.bin .Mult (.var 3) (.var 3)) (.ci 1999999973))]⟩
noncomputable def GJ:Fn:=⟨3,5,[.set (.var 3) (.call 84 [.var 0, .var 1]),
 .set (.var 4) (.ite (.cmp .Gt (.bi .len [.var 0]) (.ci 0)) (.idx (.var 0) (.bin .Mod (.idx (.var 1) (.ci 0)) (.bi .len [.var 0]))) (.ci 0)),
 .ife (.cmp .Lt (.bin .Mod (.var 3) (.ci 3)) (.ci 2)) [.ret (.bin .Mod (.bin .FloorDiv (.var 3) (.ci 3)) (.var 2))] [],
 .ret (.bin .Mod (.bin .Add (.bin .Mod (.var 4) (.bin .Pow (.ci 10) (.ci 40))) (.bin .Mult (.var 3) (.bin .Pow (.ci 10) (.ci 29)))) (.bin .Pow (.ci 10) (.ci 40)))]⟩
noncomputable def GB:Fn:=⟨3,11,[.set (.var 3) (.const (.str "abcdefghijklmnopqrstuvwxyz")),
 .set (.var 4) (.call 84 [.var 0, .var 1]),
 .set (.var 5) (.bin .Add (.idx (.var 3) (.bin .Mod (.bin .FloorDiv (.var 4) (.ci 6)) (.ci 26))) (.idx (.var 3) (.bin .Mod (.bin .FloorDiv (.var 4) (.ci 156)) (.ci 26)))),
 .set (.var 6) (.idx (.lst [.ci 1, .ci 3, .ci 5, .ci 7, .ci 9, .ci 11]) (.bin .Mod (.var 4) (.ci 6))),
 .set (.var 7) (.bin .Mod (.bin .FloorDiv (.var 4) (.ci 4056)) (.ci 3)),
 .set (.var 8) (.lst []),
 .for (.var 9) (.rng1 (.var 2)) [.set (.var 10) (.idx (.var 3) (.bin .Mod (.bin .Add (.bin .FloorDiv (.var 4) (.ci 156)) (.bin .Mult (.var 9) (.var 6))) (.ci 26))), .ife (.and (.cmp .Eq (.bin .Mod (.bin .FloorDiv (.var 4) (.ci 12168)) (.ci 4)) (.ci 0)) (.cmp .Lt (.var 2) (.ci 13))) [.expr (.bm .append (.var 8) [.bin .Mult (.idx (.var 3) (.bin .Mod (.bin .FloorDiv (.var 4) (.ci 6)) (.ci 26))) (.bin .Add (.var 9) (.ci 1))])] [.expr (.bm .append (.var 8) [.bin .Add (.bin .Add (.slc (.var 5) none (some (.var 7))) (.var 10)) (.slc (.var 5) (some (.var 7)) none)])]],
 .ret (.var 8)]⟩
noncomputable def GP:Fn:=⟨3,6,[.set (.var 3) (.call 84 [.var 0, .var 1]),
 .set (.var 4) (.bin .Mod (.var 3) (.bin .Add (.var 2) (.ci 1))),
 .set (.var 5) (.comp 1 [3] (.var 0) (.rng1 (.var 4)) (some (.cmp .Gt (.bin .Mod (.bin .FloorDiv (.bin .FloorDiv (.var 1) (.ci 10)) (.bin .Add (.bin .Mult (.var 0) (.var 0)) (.ci 1))) (.ci 3)) (.ci 0))) (.var 0)),
 .ret (.tup [.var 4, .bin .Add (.ci 5) (.bin .Mod (.bin .FloorDiv (.var 3) (.ci 7)) (.ci 40)), .bin .Add (.ci 5) (.bin .Mod (.bin .FloorDiv (.var 3) (.ci 300)) (.ci 30)), .var 5, .bin .Mod (.bin .FloorDiv (.var 3) (.ci 9000)) (.ci 60)])]⟩
noncomputable def EF:Fn:=⟨5,14,[.set (.var 5) (.lst []),
 .for (.var 6) (.rng1 (.bin .Add (.ci 1) (.bin .Mod (.call 84 [.var 0, .var 1]) (.var 2)))) [.set (.var 7) (.lst []), .for (.var 8) (.rng1 (.bin .Add (.ci 1) (.bin .Mod (.call 84 [.var 0, .var 1]) (.var 3)))) [.set (.var 9) (.bin .Sub (.bin .Mod (.call 84 [.var 0, .var 1]) (.ci 9)) (.ci 4)), .set (.var 10) (.call 87 [.var 0, .var 1, .var 4]), .expr (.bm .append (.var 7) [.tup [.var 9, .var 10, .call 87 [.var 0, .var 1, .var 4]]])], .expr (.bm .append (.var 5) [.tup [.bin .Sub (.bin .Mod (.call 84 [.var 0, .var 1]) (.ci 21)) (.ci 10), .var 7]])],
 .set (.var 11) (.call 84 [.var 0, .var 1]),
 .set (.var 12) (.lst [.const (.str "dry"), .const (.str "wet"), .const (.str "hot")]),
 .set (.var 13) (.slc (.lst [.tup [.idx (.var 12) (.bin .Mod (.var 11) (.ci 3)), .idx (.var 12) (.bin .Mod (.bin .FloorDiv (.var 11) (.ci 3)) (.ci 3))], .tup [.idx (.var 12) (.bin .Mod (.bin .FloorDiv (.var 11) (.ci 9)) (.ci 3)), .const (.str "oil")]]) none (some (.bin .Mod (.bin .FloorDiv (.var 11) (.ci 27)) (.ci 3)))),
 .ret (.make 9 [.var 5, .var 13, .bin .Mod (.bin .FloorDiv (.var 11) (.ci 81)) (.ci 200), .bin .Mod (.bin .FloorDiv (.var 11) (.ci 16200)) (.ci 100)])]⟩
noncomputable def Gr:Fn:=⟨3,5,[.set (.var 3) (.call 84 [.var 0, .var 1]),
 .set (.var 4) (.idx (.lst [.const (.str "dry"), .const (.str "wet"), .const (.str "hot"), .const (.str "oil")]) (.bin .Mod (.var 3) (.ci 4))),
 .ret (.tup [.var 2, .bin .Mod (.bin .FloorDiv (.var 3) (.ci 4)) (.ci 12), .bin .Mod (.bin .FloorDiv (.var 3) (.ci 48)) (.ci 9), .bi .int [.cmp .Eq (.bin .Mod (.bin .FloorDiv (.var 3) (.ci 432)) (.ci 4)) (.ci 0)], .var 4, .bin .Mod (.bin .FloorDiv (.var 3) (.ci 1728)) (.ci 5)])]⟩
noncomputable def G9:Fn:=⟨3,3,[.ret (.comp 1 [1,0] (.var 0) (.val (.call 86 [.var 0, .var 1, .var 2])) none (.call 89 [.var 2, .var 1, .var 0]))]⟩
noncomputable def FJ:Fn:=⟨4,10,[.set (.var 4) (.dct [] []),
 .set (.var 5) (.lst []),
 .set (.var 6) (.call 9 [.var 2]),
 .for (.var 7) (.val (.var 3)) [.set (.var 8) (.idx (.var 6) (.bin .Mod (.call 84 [.var 0, .var 1]) (.bi .len [.var 6]))), .set (.var 9) (.bm .get (.var 4) [.var 8, .ci 0]), .ife (.cmp .Lt (.var 9) (.idx (.call 12 [.var 2, .var 8]) (.ci 0))) [.fG (.var 4) (.var 8) (.bin .Add (.var 9) (.ci 1)), .expr (.bm .append (.var 5) [.tup [.bin .Add (.var 8) (.tup [.var 9]), .var 7]])] []],
 .ret (.var 5)]⟩
noncomputable def E8:Fn:=⟨2,4,[.set (.var 2) (.call 84 [.var 0, .var 1]),
 .set (.var 3) (.bin .Mod (.call 85 [.var 0, .var 1, .ci 7]) (.bin .Pow (.ci 10) (.ci 20))),
 .ret (.ite (.cmp .Eq (.bin .Mod (.var 2) (.ci 2)) (.ci 0)) (.var 3) (.neg (.var 3)))]⟩
noncomputable def EW:Fn:=⟨3,6,[.set (.var 3) (.lst []),
 .for (.tup [.var 4, .var 5]) (.val (.fld (.var 2) "bays")) [.expr (.bm .append (.var 3) [.tup [.call 93 [.var 0, .var 1], .comp 3 [1,0] (.tup [.var 0, .var 1, .var 2]) (.val (.var 5)) none (.tup [.call 93 [.var 4, .var 3], .var 1, .var 2])]])],
 .ret (.var 3)]⟩
noncomputable def FH:Fn:=⟨2,5,[.set (.var 2) (.bi .sum [.comp 2 [] (.tup [.var 0, .var 1]) (.val (.var 1)) none (.idx (.var 1) (.ci 1))]),
 .set (.var 3) (.bi .sum [.comp 2 [0] (.tup [.var 0, .var 1]) (.val (.var 1)) none (.bin .Mult (.idx (.var 1) (.ci 1)) (.idx (.idx (.fld (.var 2) "bays") (.idx (.var 0) (.ci 0))) (.ci 0)))]),
 .set (.var 4) (.bi .sum [.comp 2 [0] (.tup [.var 0, .var 1]) (.val (.var 1)) none (.bin .Mult (.idx (.var 1) (.ci 1)) (.idx (.idx (.idx (.idx (.fld (.var 2) "bays") (.idx (.var 0) (.ci 0))) (.ci 1)) (.idx (.var 0) (.ci 1))) (.ci 0)))]),
 .ret (.tup [.var 2, .var 3, .var 4])]⟩
noncomputable def EV:Fn:=⟨2,2,[.ret (.bi .max [.ci 0, .idx (.lst [.bi .abs [.var 1], .bin .Sub (.bi .abs [.var 1]) (.ci 1), .bin .Add (.bi .abs [.var 1]) (.ci 1), .var 1, .ci 0, .bin .FloorDiv (.bi .abs [.var 1]) (.ci 2)]) (.bin .Mod (.var 0) (.ci 6))])]⟩
noncomputable def FQ:Fn:=⟨3,3,[.ife (.cmp .Eq (.bin .Mod (.call 84 [.var 0, .var 1]) (.ci 2)) (.ci 0)) [.ret (.var 2)] [],
 .ret (.comp 1 [1,0] (.var 0) (.val (.var 2)) none (.bin .Add (.tup [.idx (.var 0) (.ci 0), .bin .Mod (.call 85 [.var 2, .var 1, .ci 9]) (.bin .Pow (.ci 10) (.ci 30))]) (.slc (.var 0) (some (.ci 2)) none)))]⟩
noncomputable def Ga:Fn:=⟨3,10,[.set (.var 3) (.call 88 [.var 0, .var 1, .ci 3, .ci 3, .ci 3]),
 .set (.var 4) (.call 94 [.var 0, .var 1, .var 3]),
 .set (.var 5) (.call 91 [.var 0, .var 1, .var 3, .call 97 [.var 0, .var 1, .call 90 [.var 0, .var 1, .var 2]]]),
 .set (.tup [.var 6, .var 7, .var 8]) (.call 95 [.make 9 [.var 4, .lst [], .ci 0, .ci 0], .var 5]),
 .set (.var 9) (.call 84 [.var 0, .var 1]),
 .ret (.tup [.make 9 [.var 4, .bi .list [.fld (.var 3) "foes"], .call 96 [.var 9, .var 7], .call 96 [.bin .FloorDiv (.var 9) (.ci 6), .var 8]], .var 5])]⟩
noncomputable def vA:Fn:=⟨2,6,[.set (.var 2) (.call 80 [.fld (.var 0) "ship", .var 1]),
 .set (.var 3) (.call 81 [.var 0]),
 .set (.var 4) (.call 107 [.idx (.var 3) (.ci 1), .idx (.var 2) (.ci 0), .fld (.fld (.var 0) "ship") "trim"]),
 .set (.var 5) (.call 107 [.idx (.var 3) (.ci 2), .idx (.var 2) (.ci 1), .fld (.fld (.var 0) "ship") "heel"]),
 .ife (.or (.cmp .Is (.var 4) (.const (.non))) (.cmp .Is (.var 5) (.const (.non)))) [.ret (.const (.non))] [],
 .ret (.call 108 [.var 4, .var 5])]⟩
noncomputable def ql:Fn:=⟨3,3,[.ife (.cmp .Eq (.var 1) (.ci 0)) [.ret (.ite (.cmp .LtE (.bi .abs [.var 0]) (.var 2)) (.tup [.ci 0, .const (.non)]) (.const (.non)))] [],
 .ife (.cmp .Lt (.var 1) (.ci 0)) [.ret (.call 107 [.neg (.var 0), .neg (.var 1), .var 2])] [],
 .ret (.tup [.neg (.bin .FloorDiv (.bin .Add (.var 2) (.var 0)) (.var 1)), .bin .FloorDiv (.bin .Sub (.var 2) (.var 0)) (.var 1)])]⟩
noncomputable def Cq:Fn:=⟨2,4,[.set (.var 2) (.bi .max [.ci 0, .idx (.var 0) (.ci 0), .idx (.var 1) (.ci 0)]),
 .set (.var 3) (.bi .minD [.comp 1 [] (.var 0) (.val (.tup [.idx (.var 0) (.ci 1), .idx (.var 1) (.ci 1)])) (some (.cmp .IsNot (.var 0) (.const (.non)))) (.var 0)]),
 .ife (.and (.cmp .IsNot (.var 3) (.const (.non))) (.cmp .Lt (.var 3) (.var 2))) [.ret (.const (.non))] [],
 .ret (.tup [.var 2, .var 3])]⟩
noncomputable def vK:Fn:=⟨2,2,[.ife (.or (.bi (.bZ "list") [.var 1]) (.bi (.bZ "tuple") [.var 1])) [.ife (.or (.cmp .NotEq (.bi (.bZ "list") [.var 0]) (.bi (.bZ "list") [.var 1])) (.cmp .NotEq (.bi (.bZ "tuple") [.var 0]) (.bi (.bZ "tuple") [.var 1]))) [.ret (.const (.bl false))] [], .ret (.and (.cmp .Eq (.bi .len [.var 0]) (.bi .len [.var 1])) (.bi .all [.comp 2 [] (.tup [.var 0, .var 1]) (.zip (.var 0) (.var 1)) none (.call 109 [.var 0, .var 1])]))] [],
 .ife (.cmp .Is (.var 1) (.const (.non))) [.ret (.cmp .Is (.var 0) (.const (.non)))] [],
 .ife (.bi (.bZ "str") [.var 1]) [.ret (.and (.bi (.bZ "str") [.var 0]) (.cmp .Eq (.var 0) (.var 1)))] [],
 .ret (.and (.bi (.bZ "int") [.var 0]) (.and (.not (.bi (.bZ "bool") [.var 0])) (.cmp .Eq (.var 0) (.var 1))))]⟩
noncomputable def Cc:Fn:=⟨4,7,[.set (.var 4) (.idx (.fld (.var 0) "bays") (.idx (.var 2) (.ci 0))),
 .set (.var 5) (.bin .Add (.idx (.var 1) (.ci 1)) (.bin .Mult (.var 3) (.idx (.var 4) (.ci 0)))),
 .set (.var 6) (.bin .Add (.idx (.var 1) (.ci 2)) (.bin .Mult (.var 3) (.idx (.idx (.idx (.var 4) (.ci 1)) (.idx (.var 2) (.ci 1))) (.ci 0)))),
 .ret (.and (.cmp .GtE (.var 3) (.ci 0)) (.and (.cmp .LtE (.bi .abs [.var 5]) (.fld (.var 0) "trim")) (.cmp .LtE (.bi .abs [.var 6]) (.fld (.var 0) "heel"))))]⟩
noncomputable def Cy:Fn:=⟨3,5,[.ife (.cmp .Eq (.var 1) (.ci 0)) [.ret (.tup [.lst [], .lst []])] [],
 .set (.var 3) (.ite (.cmp .Gt (.var 1) (.ci 0)) (.bin .FloorDiv (.bin .Sub (.var 2) (.var 0)) (.var 1)) (.bin .FloorDiv (.bin .Add (.var 2) (.var 0)) (.neg (.var 1)))),
 .set (.var 4) (.ite (.cmp .Gt (.var 1) (.ci 0)) (.neg (.bin .FloorDiv (.bin .Add (.var 2) (.var 0)) (.var 1))) (.neg (.bin .FloorDiv (.bin .Sub (.var 2) (.var 0)) (.neg (.var 1))))),
 .ret (.tup [.lst [.var 4], .lst [.var 3]])]⟩
noncomputable def Cz:Fn:=⟨3,8,[.set (.var 3) (.idx (.fld (.var 0) "bays") (.idx (.var 2) (.ci 0))),
 .set (.var 4) (.call 111 [.idx (.var 1) (.ci 1), .idx (.var 3) (.ci 0), .fld (.var 0) "trim"]),
 .set (.var 5) (.call 111 [.idx (.var 1) (.ci 2), .idx (.idx (.idx (.var 3) (.ci 1)) (.idx (.var 2) (.ci 1))) (.ci 0), .fld (.var 0) "heel"]),
 .set (.var 6) (.comp 1 [1,2,0] (.var 0) (.val (.bin .Add (.bin .Add (.lst [.ci 0]) (.idx (.var 4) (.ci 0))) (.idx (.var 5) (.ci 0)))) (some (.call 110 [.var 3, .var 1, .var 2, .var 0])) (.var 0)),
 .set (.var 7) (.comp 1 [1,2,0] (.var 0) (.val (.bin .Add (.idx (.var 4) (.ci 1)) (.idx (.var 5) (.ci 1)))) (some (.call 110 [.var 3, .var 1, .var 2, .var 0])) (.var 0)),
 .ife (.cmp .Eq (.bi .len [.var 6]) (.ci 0)) [.ret (.const (.non))] [],
 .ret (.tup [.bi .min [.var 6], .ite (.cmp .Gt (.bi .len [.var 7]) (.ci 0)) (.bi .max [.var 7]) (.const (.non))])]⟩
noncomputable def BU:Fn:=⟨2,3,[.set (.var 2) (.const (.bl false)),
 .try_ [.expr (.call 106 [.var 0, .var 1])] 2 (none) [.set (.var 2) (.const (.bl true))],
 .ret (.var 2)]⟩
noncomputable def Cf:Fn:=⟨2,12,[.set (.var 2) (.call 86 [.var 0, .var 1, .ci 9]),
 .set (.tup [.var 3, .var 4]) (.call 98 [.var 0, .var 1, .bin .Mod (.call 84 [.var 0, .var 1]) (.ci 9)]),
 .set (.var 4) (.comp 3 [] (.tup [.var 0, .tup [.var 1, .var 2]]) (.zip (.var 2) (.var 4)) none (.tup [.var 1, .bin .Add (.tup [.var 0]) (.slc (.var 2) (some (.ci 1)) none)])),
 .set (.var 6) (.make 10 [.var 3, .var 4]),
 .set (.var 7) (.call 95 [.var 3, .var 4]),
 .ife (.or (.not (.call 113 [.var 6, .tup [.bin .Mod (.call 84 [.var 0, .var 1]) (.ci 4), .ci 3, .ci 0]])) (.not (.call 113 [.var 6, .tup [.ci 0, .neg (.ci 1), .ci 1]]))) [.ret (.const (.bl false))] [],
 .set (.var 8) (.call 9 [.var 3]),
 .set (.var 9) (.idx (.var 8) (.bin .Mod (.call 84 [.var 0, .var 1]) (.bi .len [.var 8]))),
 .set (.var 10) (.call 112 [.var 3, .var 7, .var 9]),
 .ife (.not (.call 109 [.call 106 [.var 6, .var 9], .var 10])) [.ret (.const (.bl false))] [],
 .ife (.cmp .Is (.var 10) (.const (.non))) [.ret (.const (.bl true))] [],
 .ife (.or (.call 110 [.var 3, .var 7, .var 9, .bin .Sub (.idx (.var 10) (.ci 0)) (.ci 1)]) (.and (.cmp .IsNot (.idx (.var 10) (.ci 1)) (.const (.non))) (.call 110 [.var 3, .var 7, .var 9, .bin .Add (.idx (.var 10) (.ci 1)) (.ci 1)]))) [.ret (.const (.bl false))] [],
 .for (.var 11) (.val (.var 10)) [.ife (.and (.cmp .IsNot (.var 11) (.const (.non))) (.cmp .Lt (.call 39 [.var 6, .var 9]) (.idx (.call 12 [.var 3, .var 9]) (.ci 0)))) [.set (.var 5) (.tup [.idx (.var 2) (.ci 8), .var 11, .ci 0, .ci 0, .const (.str "dry"), .ci 1]), .ife (.cmp .IsNot (.call 83 [.make 10 [.var 3, .bin .Add (.var 4) (.lst [.tup [.bin .Add (.var 9) (.tup [.call 39 [.var 6, .var 9]]), .var 5]])]]) (.const (.bl true))) [.ret (.const (.bl false))] []] []],
 .ret (.const (.bl true))]⟩
noncomputable def B1:Fn:=⟨1,3,[.set (.var 1) (.lst [.ci 0]),
 .for (.var 2) (.rng1 (.bin .Add (.ci 1) (.bin .FloorDiv (.bi .len [.slc (.var 0) none (some (.ci 63))]) (.ci 21)))) [.ife (.not (.call 114 [.var 0, .var 1])) [.ret (.const (.bl false))] []],
 .ret (.const (.bl true))]⟩
mutual
noncomputable def Val.tree:Val->Bool
 | .tup _ xs=>trees xs
 | .lst xs=>trees xs
 | .dct ks vs=>trees ks&&trees vs
 | .obj _ _ vs=>trees vs
 | .ref _=>false
 | .non=>true
 | .bl _=>true
 | .int _=>true
 | .str _=>true
noncomputable def trees:List Val->Bool
 |[]=>true
 |v::r=>v.tree&&trees r
end
@[simp]theorem Mg:Val.non.tree=true:=by simp only[Val.tree]
@[simp]theorem Od (b:Bool):(Val.bl b).tree=true:=by simp only[Val.tree]
@[simp]theorem LC (b:Int):(Val.int b).tree=true:=by simp only[Val.tree]
@[simp]theorem Lr (b:Str):(Val.str b).tree=true:=by simp only[Val.tree]
@[simp]theorem Ku (f:Bool) (xs:List Val):(Val.tup f xs).tree=trees xs:=by simp only[Val.tree]
@[simp]theorem Lk (xs:List Val):(Val.lst xs).tree=trees xs:=by simp only[Val.tree]
@[simp]theorem Mf (ks xs:List Val):(Val.dct ks xs).tree=(trees ks&&trees xs):=by simp only[Val.tree]
@[simp]theorem LX (c:Nat) (ns:List Str) (xs:List Val):(Val.obj c ns xs).tree=trees xs:=by simp only[Val.tree]
@[simp]theorem K8 (k:Nat):(Val.ref k).tree=false:=by simp only[Val.tree]
@[simp]theorem J4:trees []=true:=by simp only[trees]
@[simp]theorem Iu (v:Val) (r:List Val):trees (v::r)=(v.tree&&trees r):=by simp only[trees]
@[simp]theorem xF:∀a b:List Val,trees (a++b)=(trees a&&trees b)
 |[],b=>by simp
 |v::a,b=>by simp[xF a b,Bool.and_assoc]
theorem oS:∀xs:List Val,trees xs=true↔∀v∈xs,v.tree=true
 |[]=>by simp
 |v::r=>by simp[oS r]
theorem aX {α:Type} (f:α->Val) (xs:List α) (h:∀a,(f a).tree=true):trees (xs.map f)=true:=by
 rw[oS];intro v hv;let⟨a,_,rfl⟩:=aaT.mp hv;exact h a
@[simp]theorem Jn (xs:List Int):trees (xs.map .int)=true:=aX _ _ λ_=>by simp
mutual
theorem qO (f:Nat->Option Val):∀v:Val,v.tree=true->v.sub f=some v
 | .tup g xs,h=>by rw[Val.sub,bS f xs (by simpa using h)];rfl
 | .lst xs,h=>by rw[Val.sub,bS f xs (by simpa using h)];rfl
 | .dct ks vs,h=>by rw[Val.sub,bS f vs (by simp at h;exact h.2)];rfl
 | .obj c ns vs,h=>by rw[Val.sub,bS f vs (by simpa using h)];rfl
 | .ref k,h=>by simp at h
 | .non,_=>by simp[Val.sub]
 | .bl _,_=>by simp[Val.sub]
 | .int _,_=>by simp[Val.sub]
 | .str _,_=>by simp[Val.sub]
theorem bS (f:Nat->Option Val):∀xs:List Val,trees xs=true->subs f xs=some xs
 |[],_=>by simp[subs]
 |v::r,h=>by
  simp at h;rw[subs,qO f v h.1,bS f r h.2];rfl
end
mutual
theorem C2 (n:Nat):∀v:Val,v.tree=true->v.bd n=true
 | .tup g xs,h=>by rw[Val.bd];exact dw n xs (by simpa using h)
 | .lst xs,h=>by rw[Val.bd];exact dw n xs (by simpa using h)
 | .dct ks vs,h=>by
  simp at h;rw[Val.bd,dw n ks h.1,dw n vs h.2];rfl
 | .obj c ns vs,h=>by rw[Val.bd];exact dw n vs (by simpa using h)
 | .ref k,h=>by simp at h
 | .non,_=>by simp[Val.bd]
 | .bl _,_=>by simp[Val.bd]
 | .int _,_=>by simp[Val.bd]
 | .str _,_=>by simp[Val.bd]
theorem dw (n:Nat):∀xs:List Val,trees xs=true->dg n xs=true
 |[],_=>by simp[dg]
 |v::r,h=>by
  simp at h;rw[dg,C2 n v h.1,dw n r h.2];rfl
end
theorem iX (st:aa) (n x:Nat) (v:Val) (h:v.tree=true):v.aD st n x=some v:=qO _ v h
theorem cN (st:aa) (n x:Nat) (vs:List Val) (h:trees vs=true):aS st n x vs=some vs:=bS _ vs h
theorem lE {v:Val} (h:v.tree=true):isRef v=none:=by cases v<;>first|rfl|simp at h
@[simp high] theorem zI (st:aa) (v:Val) (h:v.tree=true):res st v=v:=by cases v<;>first|rfl|simp at h
theorem dU (P:Pg) (st g:aa) (v:Val) (h:v.tree=true):fin P st v (st++g)= .ok v st:=by
 rw[eU P st _ v v (gc st g) (iX _ _ _ v h) (lE h)];simp
theorem eF (P:Pg) (st:aa) (v:Val) (h:v.tree=true):fin P st v st= .ok v st:=by
 have:=dU P st [] v h;simpa using this
theorem mO (z z':Int) (s g:aa):Old (.lst [.int z]::s) (.lst [.int z']::(s++g)):=by
 have:=vx (.lst [.int z]::s) g 0 (.lst [.int z']) (dw _ _ (by simp));simpa using this
theorem md (P:Pg) (z z':Int) (s g:aa) (v:Val) (h:v.tree=true):fin P (.lst [.int z]::s) v (.lst [.int z']::(s++g))= .ok v (.lst [.int z']::s):=by
 rw[eU P _ _ v v (mO z z' s g) (iX _ _ _ v h) (lE h)];simp
theorem iN (P:Pg) (z z':Int) (s:aa) (v:Val) (h:v.tree=true):fin P (.lst [.int z]::s) v (.lst [.int z']::s)= .ok v (.lst [.int z']::s):=by
 have:=md P z z' s [] v h;simpa using this
theorem ue (P:Pg) (z z':Int) (s g:aa) (v v':Val) (hr:isRef v=none) (h:v.aD (.lst [.int z']::(s++g)) (s.length+1) (s.length+1+g.length)=some v'):fin P (.lst [.int z]::s) v (.lst [.int z']::(s++g))= .ok v' (.lst [.int z']::s):=by
 rw[eU P _ _ v v' (mO z z' s g) (by rw[←h];congr 1;simp;lia) hr];simp
theorem iE (P:Pg) (z z':Int) (s g:aa) (j:Nat) (xs ys:List Val) (hj:g[j]?=some (.lst xs)) (h:aS (.lst [.int z']::(s++g)) (s.length+1) (s.length+1+j) xs=some ys):fin P (.lst [.int z]::s) (.ref (s.length+1+j)) (.lst [.int z']::(s++g))= .ok (.ref (s.length+1)) (.lst [.int z']::(s++[.lst ys])):=by
 unfold fin;rw[if_pos (mO z z' s g)]
 have e:(Ob.lst [.int z']::(s++g))[s.length+1+j]?=some (.lst xs):=by
  rw[show s.length+1+j=(s.length+j)+1 by lia,abX,aam (by lia)];rw[←hj];congr 1;lia
 simp[e,h]
theorem rK (P:Pg) (s g:aa) (j:Nat) (xs ys:List Val) (hj:g[j]?=some (.lst xs)) (h:aS (s++g) s.length (s.length+j) xs=some ys):fin P s (.ref (s.length+j)) (s++g)= .ok (.ref s.length) (s++[.lst ys]):=by
 unfold fin;rw[if_pos (gc s g)]
 have e:(s++g)[s.length+j]?=some (.lst xs):=by
  rw[aam (by lia),←hj];congr 1;lia
 simp[e,h]
@[simp]theorem kf (s g:aa) (j:Nat):(s++g)[s.length+j]?=g[j]?:=by
 rw[aam (by lia)];congr 1;lia
@[simp]theorem Bj (s g:aa):(s++g)[s.length]?=g[0]?:=kf s g 0
@[simp]theorem N1 (s g:aa) (j:Nat) (o:Ob):(s++g).set (s.length+j) o=s++g.set j o:=by
 rw[List.set_append_right _ _ (by lia)];congr 2;lia
def aQ {α β:Type} (R:α->β->Prop):List α->List β->Prop
 |[],[]=>True
 |a::as,b::bs=>R a b/\aQ R as bs
 |_,_=>False
theorem aQ.imp {α β:Type} {R S:α->β->Prop} (h:∀a b,R a b->S a b):∀{as:List α} {bs:List β},aQ R as bs->aQ S as bs
 |[],[],_=>trivial
 |_::_,_::_,q=>⟨h _ _ q.1,q.2.imp h⟩
theorem aQ.len {α β:Type} {R:α->β->Prop}:∀{as:List α} {bs:List β},aQ R as bs->as.length=bs.length
 |[],[],_=>rfl
 |_::_,_::_,q=>by simp[q.2.len]
theorem aQ.map {α β γ:Type} {R:γ->β->Prop} (f:α->γ) (g:α->β) (h:∀a,R (f a) (g a)):∀as:List α,aQ R (as.map f) (as.map g)
 |[]=>trivial
 |a::as=>⟨h a,aQ.map f g h as⟩
theorem aQ.Bw {α β γ:Type} {R:α->β->Prop} {S:α->γ->Prop} (f:β->γ) (h:∀a b,R a b->S a (f b)):∀{as:List α} {bs:List β},aQ R as bs->aQ S as (bs.map f)
 |[],[],_=>trivial
 |_::_,_::_,q=>⟨h _ _ q.1,q.2.Bw f h⟩
theorem aQ.of {α β:Type} {R S:α->β->Prop} {T:β->Prop} (h:∀a b,T b->R a b->S a b):∀{as:List α} {bs:List β},(∀b∈bs,T b)->aQ R as bs->aQ S as bs
 |[],[],_,_=>trivial
 |_::_,_::_,t,q=>⟨h _ _ (t _ (by simp)) q.1,q.2.of h λb hb=>t b (by simp[hb])⟩
open Classical in
theorem fE {f:Val->aa->R (Option Val)} {chk:List (Nat×Ob)} {st:aa} (hk:Kept chk st):∀{vs ys:List Val},aQ (λv y=>f v st= .ok (some y) st) vs ys->aB f chk vs st= .ok ys st
 |[],[],_=>bL hk
 |v::vs,y::ys,⟨h,t⟩=>by
  show iff (Kept chk st) ((f v st).bind λo st=>(aB f chk vs st).bind λr st=> .ok (fb o r) st)=_;rw[bL hk,h];show (aB f chk vs st).bind _=_;rw[fE hk t];rfl
open Classical in
theorem eM {α:Type} {f:Val->aa->R (Option Val)} {chk:List (Nat×Ob)} {st:aa} (hk:Kept chk st) (g:α->Val) (y:α->Option Val):∀(xs:List α),(∀a∈xs,f (g a) st= .ok (y a) st)->aB f chk (xs.map g) st= .ok (xs.filterMap y) st
 |[],_=>bL hk
 |a::xs,h=>by
  show iff (Kept chk st) ((f (g a) st).bind λo st=>(aB f chk (xs.map g) st).bind λr st=> .ok (fb o r) st)=_;rw[bL hk,h a (by simp)];show (aB f chk (xs.map g) st).bind _=_;rw[eM hk g y xs λb hb=>h b (by simp[hb])];cases e:y a<;>simp[e,fb]
noncomputable def Tn (P:Pg) (cl:au) (nw:Nat) (caps:List Nat) (t:T) (c:Option E) (e:E) (env:Env) (v:Val) (st:aa):R (Option Val):=aO (t.put v (av nw caps env)) (runC P cl c) (e.run P cl) st
@[simp high] theorem AK (P:Pg) (cl:au) (nw:Nat) (caps:List Nat) (t:T) (q:Q) (c:Option E) (e:E) (env:Env) (st:aa):E.run P cl (.comp nw caps t q c e) env st=(q.run P cl env st).bind λit st=>iff (t.low nw=true/\it.1.length<=10000) ((aB (Tn P cl nw caps t c e env) it.2 it.1 st).bind λxs st=>new (.lst xs) st):=rfl
theorem ku (P:Pg) (cl:au) (b:Bi) (nw:Nat) (caps:List Nat) (t:T) (q:Q) (c:Option E) (e:E) (env:Env) (st:aa):E.run P cl (.bi b [.comp nw caps t q c e]) env st=(q.run P cl env st).bind λit st=>iff (t.low nw=true/\it.1.length<=10000) ((aB (Tn P cl nw caps t c e env) it.2 it.1 st).bind λxs st=>hU b (.lst xs) (st++[.lst xs])):=by
 rw[yR];simp only[AZ,zM,AK]
 cases q.run P cl env st with
 |ok it st=>
  simp only[R.iG];unfold iff;split
  ·cases aB (Tn P cl nw caps t c e env) it.2 it.1 st with
   |ok xs st=>simp[new]
   |exc x st=>rfl
   |stuck=>rfl
  ·rfl
 |exc x st=>rfl
 |stuck=>rfl
@[simp high] theorem IE (P:Pg) (cl:au) (nw:Nat) (caps:List Nat) (t:T) (q:Q) (c:Option E) (e:E) (env:Env) (st:aa):E.run P cl (.bi .tuple [.comp nw caps t q c e]) env st=(q.run P cl env st).bind λit st=>iff (t.low nw=true/\it.1.length<=10000) ((aB (Tn P cl nw caps t c e env) it.2 it.1 st).bind λxs st=> .ok (.tup true xs) (st++[.lst xs])):=ku P cl .tuple nw caps t q c e env st
@[simp high] theorem Mb (P:Pg) (cl:au) (nw:Nat) (caps:List Nat) (t:T) (q:Q) (c:Option E) (e:E) (env:Env) (st:aa):E.run P cl (.bi .all [.comp nw caps t q c e]) env st=(q.run P cl env st).bind λit st=>iff (t.low nw=true/\it.1.length<=10000) ((aB (Tn P cl nw caps t c e env) it.2 it.1 st).bind λxs st=>R.ao ((allB xs).map .bl) (st++[.lst xs])):=ku P cl .all nw caps t q c e env st
@[simp high] theorem Lv (P:Pg) (cl:au) (nw:Nat) (caps:List Nat) (t:T) (q:Q) (c:Option E) (e:E) (env:Env) (st:aa):E.run P cl (.bi .sum [.comp nw caps t q c e]) env st=(q.run P cl env st).bind λit st=>iff (t.low nw=true/\it.1.length<=10000) ((aB (Tn P cl nw caps t c e env) it.2 it.1 st).bind λxs st=>R.ao ((iz 0 xs).map .int) (st++[.lst xs])):=ku P cl .sum nw caps t q c e env st
@[simp high] theorem Kq (P:Pg) (cl:au) (nw:Nat) (caps:List Nat) (t:T) (q:Q) (c:Option E) (e:E) (env:Env) (st:aa):E.run P cl (.bi .len [.comp nw caps t q c e]) env st=(q.run P cl env st).bind λit st=>iff (t.low nw=true/\it.1.length<=10000) ((aB (Tn P cl nw caps t c e env) it.2 it.1 st).bind λxs st=> .ok (.int xs.length) (st++[.lst xs])):=ku P cl .len nw caps t q c e env st
structure Pt where
 c:Int
 s:Int
 h:Int
 p:List Int
 l:Int
structure Sk where
 side:Int
 hold:Pt
 deck:Pt
structure By where
 arm:Int
 sks:List Sk
structure Sh where
 bays:List By
 foes:List (Str×Str)
 trim:Int
 heel:Int
def fh (p:Pt):Val:= .tup false [.int p.c, .int p.s, .int p.h, .tup true (p.p.map .int), .int p.l]
def ck (s:Sk):Val:= .tup false [.int s.side,fh s.hold,fh s.deck]
def cJ (b:By):Val:= .tup false [.int b.arm, .tup true (b.sks.map ck)]
noncomputable def cY (f:Str×Str):Val:= .tup false [.str f.1, .str f.2]
noncomputable def l6:List Str:=["bays","foes","trim","heel"]
def aR (s:Sh):Val:= .obj 9 l6 [.tup true (s.bays.map cJ), .tup true (s.foes.map cY), .int s.trim, .int s.heel]
@[simp]theorem LN (p:Pt):(fh p).tree=true:=by simp[fh]
@[simp]theorem Mp (p:Sk):(ck p).tree=true:=by simp[ck]
@[simp]theorem LZ (p:By):(cJ p).tree=true:=by simp[cJ,aX]
@[simp]theorem JU (p:Str×Str):(cY p).tree=true:=by simp[cY]
@[simp]theorem K5 (s:Sh):(aR s).tree=true:=by simp[aR,aX]
def jl (e:Int):Int->List Int->Prop
 |_,[]=>True
 |a,x::r=>a<=x/\x<e/\jl e (x+1) r
def Pt.Ok (p:Pt):Prop:=(0<=p.c/\p.c<=9)/\(0<=p.s/\0<=p.h/\0<=p.l)/\jl p.c 0 p.p
def Sk.Ok (s:Sk):Prop:=s.hold.Ok/\s.deck.Ok
def By.Ok (b:By):Prop:=b.sks≠[]/\b.sks.length<=20/\∀s∈b.sks,s.Ok
def Sh.Ok (s:Sh):Prop:=s.bays≠[]/\s.bays.length<=20/\s.foes.length<=1000/\(∀b∈s.bays,b.Ok)/\0<=s.trim/\0<=s.heel
theorem vp (P:Pg) (cl:au) (a:Option Val) (e:Int) (st:aa):∀(p:List Int) (l:Int) (x:Option Val),jl e l p->∃l' x',forL (.var 3) (eB P cl [.ife (.or (.cmp .Lt (.var 3) (.var 2)) (.cmp .GtE (.var 3) (.var 1))) [.ret (.const (.bl false))] [], .set (.var 2) (.bin .Add (.var 3) (.ci 1))]) [] (p.map .int) [a,some (.int e),some (.int l),x] st= .next [a,some (.int e),some (.int l'),x'] st
 |[],l,x,_=>⟨l,x,by simp⟩
 |y::p,l,x,h=>by
  let⟨h1,h2,h3⟩:=h;let⟨l',x',q⟩:=vp P cl a e st p (y+1) (some (.int y)) h3;refine⟨l',x', ?_⟩
  have g1:¬y<l:=by lia
  have g2:¬e<=y:=by lia
  simp[g1,g2];exact q
theorem zu {P:Pg} (h8:P.fn 8=some sF) (n:Nat) (f:Bool) (p:List Int) (e:Int) (st:aa) (h:jl e 0 p):call P (n+1) 8 [.tup f (p.map .int), .int e] st= .ok (.bl true) st:=by
 rw[aj h8 _ _ _ rfl];unfold sF;simp;let⟨l',x',q⟩:=vp P (call P n) (some (.tup f (p.map .int))) e st p 0 none h;rw[q];simp
theorem mL {P:Pg} (h7:P.fn 7=some uu) (h8:P.fn 8=some sF) (n:Nat) (p:Pt) (st:aa) (h:p.Ok):call P (n+2) 7 [.int p.c, .int p.s, .int p.h, .tup true (p.p.map .int), .int p.l] st= .ok (fh p) st:=by
 rw[aj h7 _ _ _ rfl];unfold uu;let⟨⟨a1,a2⟩,⟨b1,b2,b3⟩,c⟩:=h
 have g1:¬p.c<0:=by lia
 have g2:¬9<p.c:=by lia
 have g3:¬p.s<0:=by lia
 have g4:¬p.h<0:=by lia
 have g5:¬p.l<0:=by lia
 simp[g1,g2,g3,g4,g5,zu h8 n true p.p p.c st c];exact eF P st (fh p) (by simp)
def gM (st:aa) (v:Val) (p:Pt):Prop:=∃f x,v= .tup f [.int p.c, .int p.s, .int p.h,x, .int p.l]/\(res st x= .lst (p.p.map .int)∨x= .tup true (p.p.map .int))
def eW (st:aa) (v:Val) (s:Sk):Prop:=∃f a b,v= .tup f [.int s.side,a,b]/\gM st a s.hold/\gM st b s.deck
def eC (st:aa) (v:Val) (b:By):Prop:=∃f x vs,v= .tup f [.int b.arm,x]/\(res st x= .lst vs∨x= .tup true vs)/\aQ (eW st) vs b.sks
theorem eR {st g:aa} {x:Val} (h:res st x= .lst vs):res (st++g) x= .lst vs:=by
 cases x<;>first|exact h|(simp at h)
 rename_i k;simp
 cases e:st[k]? with
 |none=>rw[e] at h;simp at h
 |some o=>
  rw[e] at h;rw[aar (aac.mp e).1,e];exact h
theorem gM.app {st g:aa} {v:Val} {p:Pt} (h:gM st v p):gM (st++g) v p:=by
 let⟨f,x,e,q⟩:=h;exact⟨f,x,e,q.imp (eR (g:=g)) id⟩
theorem eW.app {st g:aa} {v:Val} {p:Sk} (h:eW st v p):eW (st++g) v p:=by
 let⟨f,a,b,e,q1,q2⟩:=h;exact⟨f,a,b,e,q1.app,q2.app⟩
theorem eC.app {st g:aa} {v:Val} {p:By} (h:eC st v p):eC (st++g) v p:=by
 let⟨f,x,vs,e,q1,q2⟩:=h;exact⟨f,x,vs,e,q1.imp (eR (g:=g)) id,q2.imp λa b h=>h.app⟩
theorem j6 {P:Pg} (h6:P.fn 6=some xt) (h7:P.fn 7=some uu) (h8:P.fn 8=some sF) (n:Nat) (v:Val) (p:Pt) (st:aa) (hr:gM st v p) (h:p.Ok):call P (n+3) 6 [v] st= .ok (fh p) st:=by
 rw[aj h6 _ _ _ rfl];unfold xt;let⟨f,x,rfl,q⟩:=hr
 rcases q with q|rfl
 ·simp[q,mL h7 h8 n p st h];exact eF P st (fh p) (by simp)
 ·simp[mL h7 h8 n p st h];exact eF P st (fh p) (by simp)
theorem qb {P:Pg} (h5:P.fn 5=some Cn) (h6:P.fn 6=some xt) (h7:P.fn 7=some uu) (h8:P.fn 8=some sF) (n:Nat) (v:Val) (p:Sk) (st:aa) (hr:eW st v p) (h:p.Ok):call P (n+4) 5 [v] st= .ok (ck p) st:=by
 rw[aj h5 _ _ _ rfl];unfold Cn;let⟨f,a,b,rfl,q1,q2⟩:=hr;simp[j6 h6 h7 h8 n _ _ st q1 h.1,j6 h6 h7 h8 n _ _ st q2 h.2];exact eF P st (ck p) (by simp)
theorem eN {st:aa} {x:Val} (h:res st x= .lst vs∨x= .tup true vs):∃chk,gC st x=some (vs,chk)/\Kept chk st/\∀g,Kept chk (st++g):=by
 rcases h with h|rfl
 ·cases x<;>simp at h
  ·subst h;exact⟨[],rfl,aT _,λg=>aT _⟩
  ·rename_i k
   cases e:st[k]? with
   |none=>rw[e] at h;simp at h
   |some o=>
    rw[e] at h;cases o<;>simp at h;subst h;rename_i xs;refine⟨[(k, .lst xs)],by simp[gC,e],λp hp=> ?_,λg p hp=> ?_⟩
    ·simp at hp;subst hp;exact e
    ·simp at hp;subst hp;rw[aar (aac.mp e).1,e]
 ·exact⟨[],rfl,aT _,λg=>aT _⟩
theorem tF {P:Pg} (h4:P.fn 4=some EN) (h5:P.fn 5=some Cn) (h6:P.fn 6=some xt) (h7:P.fn 7=some uu) (h8:P.fn 8=some sF) (n:Nat) (v:Val) (p:By) (st:aa) (hr:eC st v p) (h:p.Ok):call P (n+5) 4 [v] st= .ok (cJ p) st:=by
 rw[aj h4 _ _ _ rfl];unfold EN;let⟨f,x,vs,rfl,q1,q2⟩:=hr;let⟨chk,w1,w2,w3⟩:=eN q1;have hl:=q2.len
 have l0:¬vs.length=0:=by rw[hl];intro e;exact h.1 (aa4.mp e)
 have l1:¬vs=[]:=λe=>l0 (by rw[e];rfl)
 have l2:vs.length<=10000:=by rw[hl];have:=h.2.1;lia
 have lz:((vs.length:Int)==0)=false:=by simp[l1]
 have hx:iu (res st x)=some (vs.length:Int):=by rcases q1 with q|rfl<;>simp[*]
 have hc:aB (Tn P (call P (n+4)) 1 [] (.var 0) none (.call 5 [.var 0]) [some (.tup f [.int p.arm,x]),some x]) chk vs st= .ok (p.sks.map ck) st:=by
  refine fE w2 ((q2.of (S:=λa b=>call P (n+4) 5 [a] st= .ok (ck b) st) (λa b hb q=>qb h5 h6 h7 h8 n a b st q hb) h.2.2).Bw ck λa b q=> ?_);simp[Tn,aO,av,q]
 simp[hx,lz,w1,l2,hc,T.low];exact dU P st [.lst _] (cJ p) (by simp)
@[simp]theorem n1:¬(Str.ofString "bays"=Str.ofString "foes"):=by decide
@[simp]theorem n2:¬(Str.ofString "bays"=Str.ofString "trim"):=by decide
@[simp]theorem n3:¬(Str.ofString "bays"=Str.ofString "heel"):=by decide
@[simp]theorem n4:¬(Str.ofString "foes"=Str.ofString "trim"):=by decide
@[simp]theorem n5:¬(Str.ofString "foes"=Str.ofString "heel"):=by decide
@[simp]theorem n6:¬(Str.ofString "trim"=Str.ofString "heel"):=by decide
def EJ (P:Pg):Prop:=((P.cl 9).map (·.init))=some (some 3)/\qW P 9=false/\et P 9 "bays"=true/\et P 9 "foes"=true/\et P 9 "trim"=true/\et P 9 "heel"=true
structure FShip (P:Pg):Prop where
 f3:P.fn 3=some ir3
 f4:P.fn 4=some EN
 f5:P.fn 5=some Cn
 f6:P.fn 6=some xt
 f7:P.fn 7=some uu
 f8:P.fn 8=some sF
 c9:EJ P
@[simp]theorem LP (s g:aa) (j:Nat):(s++g).take (s.length+j)=s++g.take j:=by
 rw[List.take_append,acv (by lia)];simp
theorem rL (P:Pg) (st g:aa) (c c':Nat) (ns ns':List Str) (vs vs':List Val) (v:Val) (hv:v.tree=true) (ht:trees vs'=true):fin P (st++[.ins c ns vs]) v (st++(.ins c' ns' vs'::g))= .ok v (st++[.ins c' ns' vs']):=by
 have e:st++(Ob.ins c' ns' vs'::g)=(st++[Ob.ins c ns vs]).set st.length (.ins c' ns' vs')++g:=by simp
 have ho:=vx (st++[.ins c ns vs]) g st.length (.ins c' ns' vs') (by simp[Ob.bd];exact dw _ _ ht);rw[←e] at ho;rw[eU P _ _ v v ho (iX _ _ _ v hv) (lE hv)];rw[e];simp
theorem DP {st:aa} {x:Val} {vs:List Val} (h:res st x= .lst vs∨x= .tup true vs):iu (res st x)=some (vs.length:Int):=by rcases h with q|rfl<;>simp[*]
theorem xk {P:Pg} (F:FShip P) (n:Nat) (s:Sh) (st:aa) (bv fv:Val) (bs:List Val) (hb:res st bv= .lst bs∨bv= .tup true bs) (rb:aQ (eC st) bs s.bays) (hf:res st fv= .lst (s.foes.map cY)) (h:s.Ok):
  call P (n+6) 3 [.ref st.length,bv,fv, .int s.trim, .int s.heel] (st++[.ins 9 [] []])= .ok .non (st++[.ins 9 l6 [.tup true (s.bays.map cJ), .tup true (s.foes.map cY), .int s.trim, .int s.heel]]):=by
 rw[aj F.f3 _ _ _ rfl];unfold ir3;let⟨a1,a2,a3,a4,a5,a6⟩:=h;let⟨b1,b2,b3,b4,b5,b6⟩:=F.c9;have hb1:res (st++[.ins 9 [] []]) bv= .lst bs∨bv= .tup true bs:=hb.imp eR id;let⟨chk,w1,w2,_⟩:=eN hb1;have hf1:=eR (g:=[.ins 9 ["bays"] [.tup true (s.bays.map cJ)], .lst (s.bays.map cJ)]) hf;let⟨chk',y1,y2,_⟩:=eN (.inl hf1);have hl:=rb.len;have l1:¬bs=[]:=λe=>a1 (by rw[e] at hl;exact aa4.mp hl.symm)
 have lz:((bs.length:Int)==0)=false:=by simp[l1]
 have lb:bs.length<=10000:=by lia
 have lf:s.foes.length<=10000:=by lia
 have g1:¬s.trim<0:=by lia
 have g2:¬s.heel<0:=by lia
 have hc:aB (Tn P (call P (n+5)) 1 [] (.var 0) none (.call 4 [.var 0]) [some (.ref st.length),some bv,some fv,some (.int s.trim),some (.int s.heel)]) chk bs (st++[.ins 9 [] []])= .ok (s.bays.map cJ) (st++[.ins 9 [] []]):=by
  refine fE w2 ((rb.of (S:=λa b=>call P (n+5) 4 [a] (st++[.ins 9 [] []])= .ok (cJ b) (st++[.ins 9 [] []])) (λa b hb q=>tF F.f4 F.f5 F.f6 F.f7 F.f8 n a b _ q.app hb) a4).Bw cJ λa b q=> ?_);simp[Tn,aO,av,q]
 have hd:aB (Tn P (call P (n+5)) 1 [] (.var 0) none (.bi .tuple [.var 0]) [some (.ref st.length),some bv,some fv,some (.int s.trim),some (.int s.heel)]) chk' (s.foes.map cY) (st++[.ins 9 ["bays"] [.tup true (s.bays.map cJ)], .lst (s.bays.map cJ)])= .ok (s.foes.map cY) (st++[.ins 9 ["bays"] [.tup true (s.bays.map cJ)], .lst (s.bays.map cJ)]):=by
  refine fE y2 (aQ.map _ _ (λa=> ?_) s.foes);simp[Tn,aO,av,cY]
 have hx:=DP hb1;simp[hx,lz,g1,g2,w1,lb,hc,T.low,b3,b4,b5,b6,aU,y1,lf,hd];exact rL P st _ 9 9 [] l6 [] [.tup true (s.bays.map cJ), .tup true (s.foes.map cY), .int s.trim, .int s.heel] .non (by simp) (by simp[aX])
theorem oq {P:Pg} (F:FShip P) (n:Nat) (s:Sh) (st:aa) (bv fv:Val) (bs:List Val) (hb:res st bv= .lst bs∨bv= .tup true bs) (rb:aQ (eC st) bs s.bays) (hf:res st fv= .lst (s.foes.map cY)) (h:s.Ok):
  kB P (call P (n+6)) 9 [bv,fv, .int s.trim, .int s.heel] st ((P.cl 9).map (·.init))= .ok (aR s) st:=by
 rw[F.c9.1];simp[xk F n s st bv fv bs hb rb hf h];unfold fin;rw[if_pos (gc _ _)];simp[F.c9.2.1,cN,aX,aR]
@[simp]theorem Je (k:Nat) (xs:List Val) (st:aa):kJ .append (.ref k) xs st=pq .append k xs st st[k]?:=rfl
@[simp]theorem II (k:Nat) (xs:List Val) (st:aa):kJ .extend (.ref k) xs st=pq .extend k xs st st[k]?:=rfl
@[simp]theorem M7 (o:Val) (xs:List Val) (st:aa):kJ .get o xs st=qX (res st o) xs st:=rfl
@[simp]theorem IA (k:Nat) (x:Val) (st:aa) (ys:List Val):pq .append k [x] st (some (.lst ys))=iff (ys.length<10000) (.ok .non (st.set k (.lst (ys++[x])))):=rfl
@[simp]theorem HV (k j:Nat) (st:aa) (ys:List Val):pq .extend k [.ref j] st (some (.lst ys))=BW k ys st st[j]?:=rfl
theorem rS:∀(n:Nat) (lo:Int),bu lo n=(List.range n).map λi=> .int (lo+(i:Int))
 |0,_=>rfl
 |n+1,lo=>by
  unfold bu;rw[rS n,List.range_succ_eq_map];simp;intro a _;lia
open Classical in
theorem comp_map {α:Type} {f:Val->aa->R (Option Val)} {chk:List (Nat×Ob)} {st:aa} (hk:Kept chk st) (g:α->Val) (y:α->Val) (xs:List α) (h:∀a∈xs,f (g a) st= .ok (some (y a)) st):aB f chk (xs.map g) st= .ok (xs.map y) st:=by
 have:=eM hk g (λa=>some (y a)) xs h;simpa using this
structure FPart (P:Pg):Prop extends FShip P where
 f9:P.fn 9=some ir9
 f12:P.fn 12=some Fj
 f13:P.fn 13=some AG
 f14:P.fn 14=some F4
 f31:P.fn 31=some FL
 f32:P.fn 32=some Gb
theorem cv {P:Pg} (F:FShip P) (s:Sh) (st:aa):gw P "bays" (aR s) st= .ok (.tup true (s.bays.map cJ)) st:=by
 simp[aR,l6,F.c9.2.2.1,de]
theorem AJ {P:Pg} (F:FShip P) (s:Sh) (st:aa):gw P "foes" (aR s) st= .ok (.tup true (s.foes.map cY)) st:=by
 simp[aR,l6,F.c9.2.2.2.1,de]
theorem jb {P:Pg} (F:FShip P) (s:Sh) (st:aa):gw P "trim" (aR s) st= .ok (.int s.trim) st:=by
 simp[aR,l6,F.c9.2.2.2.2.1,de]
theorem ja {P:Pg} (F:FShip P) (s:Sh) (st:aa):gw P "heel" (aR s) st= .ok (.int s.heel) st:=by
 simp[aR,l6,F.c9.2.2.2.2.2,de]
def Sh.sk? (s:Sh) (b k:Int):Option Sk:=if 0<=b/\0<=k then (s.bays[b.toNat]?).bind λy=>y.sks[k.toNat]? else none
def Sh.dH (s:Sh) (b k d:Int):Bool:=(s.sk? b k).isSome&&(d==0||d==1)
theorem KN (d:Int):((0:Int)==d)=(d==0):=by rw[aaS];simp;lia
theorem Lh (d:Int):((1:Int)==d)=(d==1):=by rw[aaS];simp;lia
theorem iA {P:Pg} (F:FPart P) (n:Nat) (s:Sh) (f:Bool) (b k d:Int) (st:aa):call P (n+1) 14 [aR s, .tup f [.int b, .int k, .int d]] st= .ok (.bl (s.dH b k d)) st:=by
 rw[aj F.f14 _ _ _ rfl];unfold F4;have F1:=F.toFShip;simp[cv F1]
 by_cases h0:b<0
 ·have:¬0<=b:=by lia
  simp[h0,this,Sh.dH,Sh.sk?]
 ·have h0':0<=b:=by lia
  by_cases h1:(s.bays.length:Int)<=b
  ·have e:s.bays[b.toNat]?=none:=List.getElem?_eq_none (by lia);simp[h0,h1,h0',Sh.dH,Sh.sk?,e]
  ·have h1':b<(s.bays.length:Int):=by lia
   have l:b.toNat<s.bays.length:=by lia
   have e:s.bays[b.toNat]?=some s.bays[b.toNat]:=aae l;obtain⟨y,e'⟩:∃y,s.bays[b.toNat]=y:=⟨_,rfl⟩;rw[e'] at e;simp[h0,h1,h0',h1',e,e',cJ,cv F1]
   by_cases k0:k<0
   ·have:¬0<=k:=by lia
    simp[k0,this,Sh.dH,Sh.sk?]
   ·have k0':0<=k:=by lia
    by_cases k1:(y.sks.length:Int)<=k
    ·have e2:y.sks[k.toNat]?=none:=List.getElem?_eq_none (by lia);simp[k0,k1,k0',h0',Sh.dH,Sh.sk?,e,e',e2]
    ·have l2:k.toNat<y.sks.length:=by lia
     have e2:y.sks[k.toNat]?=some y.sks[k.toNat]:=aae l2;simp[k0,k1,k0',h0',Sh.dH,Sh.sk?,e,e',e2,KN d,Lh d]
theorem dr {s:Sh} {b k:Int} {y:Sk} (h:s.sk? b k=some y):0<=b/\0<=k/\∃z:By,s.bays[b.toNat]?=some z/\z.sks[k.toNat]?=some y/\b<s.bays.length/\k<z.sks.length:=by
 unfold Sh.sk? at h;split at h
 ·rename_i q
  cases e:s.bays[b.toNat]? with
  |none=>rw[e] at h;cases h
  |some z=>
   rw[e] at h;refine⟨q.1,q.2,z,rfl,h, ?_, ?_⟩
   ·have:=(aac.mp e).1;lia
   ·have:=(aac.mp h).1;lia
 ·cases h
theorem kY {P:Pg} (F:FPart P) (n:Nat) (s:Sh) (f:Bool) (b k d:Int) (y:Sk) (st:aa) (h:s.sk? b k=some y) (hd:d=0∨d=1):call P (n+2) 13 [aR s, .tup f [.int b, .int k, .int d]] st= .ok (ck y) st:=by
 rw[aj F.f13 _ _ _ rfl];unfold AG;have F1:=F.toFShip
 have hp:s.dH b k d=true:=by simp[Sh.dH,h,hd]
 let⟨b0,k0,z,e1,e2,b1,k1⟩:=dr h;let⟨_,e1'⟩:=aac.mp e1;let⟨_,e2'⟩:=aac.mp e2;simp[iA F,hp,cv F1,b0,b1,e1,e1',cJ,k0,k1,e2,e2'];exact eF P st (ck y) (by simp)
theorem tJ {P:Pg} (F:FPart P) (hc:((P.cl 2).map (·.init))=some none) (n:Nat) (s:Sh) (f:Bool) (b k d:Int) (st:aa) (h:s.dH b k d=false):call P (n+2) 13 [aR s, .tup f [.int b, .int k, .int d]] st= .exc ⟨2,[],[]⟩ st:=by
 rw[aj F.f13 _ _ _ rfl];unfold AG;simp[iA F,h,S.run,hc];unfold lp;simp[lH]
def Sk.pt (y:Sk) (d:Int):Pt:=if d=0 then y.hold else y.deck
theorem fO {P:Pg} (F:FPart P) (n:Nat) (s:Sh) (f:Bool) (b k d:Int) (y:Sk) (st:aa) (h:s.sk? b k=some y) (hd:d=0∨d=1):call P (n+3) 12 [aR s, .tup f [.int b, .int k, .int d]] st= .ok (fh (y.pt d)) st:=by
 rw[aj F.f12 _ _ _ rfl];unfold Fj;simp[kY F n s f b k d y st h hd,ck]
 rcases hd with rfl|rfl
 ·simp[Sk.pt];exact eF P st (fh _) (by simp)
 ·simp[Sk.pt];exact eF P st (fh _) (by simp)
theorem tH {P:Pg} (F:FPart P) (n:Nat) (s:Sh) (f:Bool) (b k d t:Int) (y:Sk) (st:aa) (h:s.sk? b k=some y) (hd:d=0∨d=1) (t0:0<=t) (t1:t<(y.pt d).c):call P (n+4) 31 [aR s, .tup f [.int b, .int k, .int d, .int t]] st= .ok (.bl true) st:=by
 rw[aj F.f31 _ _ _ rfl];unfold FL
 have hp:s.dH b k d=true:=by simp[Sh.dH,h,hd]
 simp[bY,cut,iA F,fO F n s false b k d y st h hd,hp,t0,t1,fh]
theorem p9 {P:Pg} (F:FPart P) (n:Nat) (f:Bool) (b k d t:Int) (st:aa):call P (n+1) 32 [.tup f [.int b, .int k, .int d, .int t]] st= .ok (.tup false [.int b, .int d, .int k, .int t]) st:=by
 rw[aj F.f32 _ _ _ rfl];unfold Gb;simp
noncomputable def ax (p:Int×Int×Int):Val:= .tup false [.int p.1, .int p.2.1, .int p.2.2]
noncomputable def cz (i:Int) (m:Nat) (d:Int):List (Int×Int×Int):=(List.range m).map λ(k:Nat)=>(i,(k:Int),d)
noncomputable def partsFrom:Nat->List By->List (Int×Int×Int)
 |_,[]=>[]
 |i,b::r=>cz i b.sks.length 0++(cz i b.sks.length 1++partsFrom (i+1) r)
def Sh.parts (s:Sh):List (Int×Int×Int):=partsFrom 0 s.bays
noncomputable def g9:List S:=[.set (.var 3) (.bi .len [.idx (.idx (.fld (.var 0) "bays") (.var 2)) (.ci 1)]), .for (.var 4) (.val (.tup [.ci 0, .ci 1])) [.expr (.bm .extend (.var 1) [.comp 1 [2,4] (.var 0) (.rng1 (.var 3)) none (.tup [.var 1, .var 0, .var 2])])]]
@[simp]theorem kI (i:Int) (m:Nat) (d:Int):(cz i m d).length=m:=by simp[cz]
theorem v9 (P:Pg) (cl:au) (a b c:Option Val) (i d:Int) (m:Nat) (st:aa):aB (Tn P cl 1 [2,4] (.var 0) none (.tup [.var 1, .var 0, .var 2]) [a,b,some (.int i),c,some (.int d)]) [] (bu 0 m) st= .ok ((cz i m d).map ax) st:=by
 rw[rS,cz,aa6];refine comp_map (aT st) _ _ _ λk _=> ?_;simp[Tn,aO,av,ax]
theorem nG {P:Pg} (F:FShip P) (cl:au) (s:Sh) (hs:s.Ok) (st:aa):∀(r:List By) (i:Nat) (acc:List Val) (g:aa) (x2 x3 x4:Option Val),s.bays.drop i=r->acc.length<=40*i->i+r.length<=20->
  ∃g' y2 y3 y4,forL (.var 2) (eB P cl g9) [] (bu i r.length) [some (aR s),some (.ref st.length),x2,x3,x4] (st++(.lst acc::g))= .next [some (aR s),some (.ref st.length),y2,y3,y4] (st++(.lst (acc++(partsFrom i r).map ax)::g'))
 |[],i,acc,g,x2,x3,x4,_,_,_=>⟨g,x2,x3,x4,by simp[bu,partsFrom]⟩
 |b::r,i,acc,g,x2,x3,x4,hr,ha,hi=>by
  have e1:s.bays[i]?=some b:=by
   have:=congrArg (·[0]?) hr;simpa using this
  have hr2:s.bays.drop (i+1)=r:=by rw[←List.drop_drop,hr];rfl
  have hl:i<s.bays.length:=(aac.mp e1).1;let⟨_,e1'⟩:=aac.mp e1;have hb:b.sks.length<=20:=(hs.2.2.2.1 b (aas e1)).2.1
  have q1:(b.sks.length:Int)<16777216:=by lia
  have q4:b.sks.length<=10000:=by lia
  have q2:acc.length+b.sks.length<=10000:=by simp at hi;lia
  have q3:acc.length+(b.sks.length+b.sks.length)<=10000:=by simp at hi;lia
  unfold g9;simp[bu,cv F,e1,e1',hl,cJ,q1,T.low,v9,new,ze,cV,q2,q3,q4,kI,Nat.add_assoc];let⟨g',y2,y3,y4,h⟩:=nG F cl s hs st r (i+1) (acc++(cz i b.sks.length 0++cz i b.sks.length 1).map ax) (g++[.lst ((cz i b.sks.length 0).map ax), .lst ((cz i b.sks.length 1).map ax)]) (some (.int i)) (some (.int b.sks.length)) (some (.int 1)) hr2 (by simp[kI];lia) (by simp at hi;lia);refine⟨g',y2,y3,y4, ?_⟩;unfold g9 at h;simp[partsFrom] at h⊢;exact h
@[simp]theorem Ig (p:Int×Int×Int):(ax p).tree=true:=by simp[ax]
theorem kQ {P:Pg} (F:FPart P) (n:Nat) (s:Sh) (hs:s.Ok) (st:aa):call P (n+1) 9 [aR s] st= .ok (.ref st.length) (st++[.lst (s.parts.map ax)]):=by
 rw[aj F.f9 _ _ _ rfl];unfold ir9;have F1:=F.toFShip;have h1:s.bays.length<=20:=hs.2.1
 have h2:(s.bays.length:Int)<16777216:=by lia
 let⟨g',y2,y3,y4,h⟩:=nG F1 (call P n) s hs st s.bays 0 [] [] none none none rfl (by simp) (by lia);unfold g9 at h;simp at h;simp[new,cv F1,h2];rw[h];simp;exact rK P st _ 0 _ _ rfl (cN _ _ _ _ (aX _ _ λa=>by simp))
theorem kX {i:Int} {m:Nat} {d:Int} {p:Int×Int×Int} (h:p∈cz i m d):p.1=i/\0<=p.2.1/\p.2.1<m/\p.2.2=d:=by
 simp[cz] at h;let⟨k,hk,rfl⟩:=h;simp;lia
theorem jt:∀(r:List By) (i:Nat) (p:Int×Int×Int),p∈partsFrom i r->∃(j:Nat) (b:By),r[j]?=some b/\p.1=((i+j:Nat):Int)/\0<=p.2.1/\p.2.1<b.sks.length/\(p.2.2=0∨p.2.2=1)
 |[],_,_,h=>by simp[partsFrom] at h
 |b::r,i,p,h=>by
  simp only[partsFrom,aaz] at h
  rcases h with h|h|h
  ·let⟨h1,h2,h3,h4⟩:=kX h;exact⟨0,b,rfl,by simpa using h1,h2,h3, .inl h4⟩
  ·let⟨h1,h2,h3,h4⟩:=kX h;exact⟨0,b,rfl,by simpa using h1,h2,h3, .inr h4⟩
  ·let⟨j,c,h1,h2,h3,h4,h5⟩:=jt r (i+1) p h;exact⟨j+1,c,h1,by rw[h2];congr 1;lia,h3,h4,h5⟩
theorem pB {s:Sh} {p:Int×Int×Int} (h:p∈s.parts):∃y,s.sk? p.1 p.2.1=some y/\(p.2.2=0∨p.2.2=1):=by
 let⟨j,b,h1,h2,h3,h4,h5⟩:=jt _ _ _ h
 have l:p.2.1.toNat<b.sks.length:=by lia
 refine⟨b.sks[p.2.1.toNat], ?_,h5⟩;unfold Sh.sk?;rw[if_pos ⟨by lia,h3⟩]
 have:p.1.toNat=j:=by lia
 rw[this,h1];exact aae l
theorem tf {s:Sh} (hs:s.Ok):s.parts≠[]:=by
 unfold Sh.parts
 cases h:s.bays with
 |nil=>exact absurd h hs.1
 |cons b r=>
  have hb:=hs.2.2.2.1 b (by simp[h]);intro e;have:=congrArg List.length e;simp[partsFrom] at this;exact hb.1 this.1
structure KOk {α:Type} [DecidableEq α] (kV:α->Val):Prop where
 key:∀a,dv (kV a)=true
 eq:∀a b,eqv 8 (kV a) (kV b)=some (decide (a=b))
 kt:∀a b,kT (kV a)=kT (kV b)
section
variable {α β:Type} [DecidableEq α] {kV:α->Val} (K:KOk kV)
include K
theorem nM (a:α):∀as:List α,memD (kV a) (as.map kV)=some (decide (a∈as))
 |[]=>by simp[memD]
 |b::as=>by
  simp only[aay,memD];rw[if_pos (K.kt b a),K.eq,nM a as];simp
  by_cases h:b=a
  ·simp[h]
  ·have h2:¬a=b:=λe=>h e.symm;simp[h,h2]
theorem nW (vV:β->Val) (a:α):∀ps:List (α×β),getD (kV a) (ps.map λp=>kV p.1) (ps.map λp=>vV p.2)=some ((ps.find? λp=>p.1=a).map λp=>vV p.2)
 |[]=>by simp[getD]
 |b::as=>by
  simp only[aay,getD];rw[if_pos (K.kt b.1 a),K.eq,nW vV a as]
  by_cases h:b.1=a
  ·simp[h]
  ·simp[h]
theorem lh (vV:β->Val):∀(ps:List (α×β)) (qs:List (α×β)),(ps.map λp=>p.1).Nodup->(∀p∈ps,p.1∉qs.map λp=>p.1)->pairD (ps.map λp=> .tup false [kV p.1,vV p.2]) (qs.map λp=>kV p.1) (qs.map λp=>vV p.2)=some ((qs++ps).map (λp=>kV p.1),(qs++ps).map λp=>vV p.2)
 |[],qs,_,_=>by simp[pairD]
 |p::ps,qs,hn,hq=>by
  have e:(qs.map λp=>kV p.1)=(qs.map λp=>p.1).map kV:=by simp
  have hp:=hq p (by simp);simp only[aay,pairD];rw[if_pos (K.key p.1),putD,e,nM K];simp only[aay,abt] at hn;rw[aaB hp]
  have:=lh vV ps (qs++[p]) hn.2 λr hr=>by
   simp;refine⟨λx hx=> ?_,λe=>hn.1 ?_⟩
   ·have:=hq r (by simp[hr]);simp at this;exact this x hx
   ·rw[←e];exact aaT.mpr ⟨r,hr,rfl⟩
  simp at this⊢;exact this
end
structure Cell where
 b:Int
 k:Int
 d:Int
 t:Int
deriving DecidableEq
structure Bx where
 name:Str
 w:Int
 h:Int
 cold:Int
 sort:Str
 port:Int
def aP (c:Cell):Val:= .tup false [.int c.b, .int c.k, .int c.d, .int c.t]
def aW (x:Bx):Val:= .tup false [.str x.name, .int x.w, .int x.h, .int x.cold, .str x.sort, .int x.port]
def aK (p:Cell×Bx):Val:= .tup false [aP p.1,aW p.2]
@[simp]theorem Mo (c:Cell):(aP c).tree=true:=by simp[aP]
@[simp]theorem L6 (c:Bx):(aW c).tree=true:=by simp[aW]
@[simp]theorem K6 (c:Cell×Bx):(aK c).tree=true:=by simp[aK]
theorem vY:KOk aP where
 key a:=by simp[aP,dv,wz]
 eq a b:=by
  simp[aP];cases a;cases b;simp;rw[aaS];simp
 kt a b:=by simp[aP,kT]
theorem KA:KOk Val.str where
 key a:=by simp[dv]
 eq a b:=by simp
 kt a b:=by simp[kT]
def Cell.key (c:Cell):List Int:=[c.b,c.d,c.k,c.t]
def bw (L:List (Cell×Bx)):List (Cell×Bx):=(bO (L.map λp=>(p.1.key,p))).map λz=>z.2
theorem oP {α β:Type} (f:α->β) (k:List Int) (y:α):∀r:List (List Int×α),du k (f y) (r.map λz=>(z.1,f z.2))=(du k y r).map λz=>(z.1,f z.2)
 |[]=>by simp[du]
 |z::r=>by
  simp only[aay,du];split
  ·simp
  ·simp[oP f k y r]
theorem mf {α β:Type} (f:α->β):∀r:List (List Int×α),bO (r.map λz=>(z.1,f z.2))=(bO r).map λz=>(z.1,f z.2)
 |[]=>by simp[bO]
 |z::r=>by
  simp only[aay,bO];rw[mf f r,oP]
theorem nh {α:Type} (k:List Int) (y:α):∀r:List (List Int×α),(du k y r).Perm ((k,y)::r)
 |[]=>by simp[du]
 |z::r=>by
  unfold du;split
  ·exact .refl _
  ·exact((nh k y r).cons z).trans (.swap _ _ _)
theorem kW {α:Type}:∀r:List (List Int×α),(bO r).Perm r
 |[]=> .refl _
 |z::r=>by
  unfold bO;exact(nh _ _ _).trans ((kW r).cons z)
theorem i9 (L:List (Cell×Bx)):(bw L).Perm L:=by
 have:=(kW (L.map λp=>(p.1.key,p))).map (λz=>z.2);have e:((λz:List Int×(Cell×Bx)=>z.2)∘λp:Cell×Bx=>(p.1.key,p))=id:=rfl;simpa[bw,e] using this
theorem Iy (L:List (Cell×Bx)):((bO ((L.map λp=>p.1.key).zip (L.map aK))).map λz=>z.2)=(bw L).map aK:=by
 have e:(L.map λp=>p.1.key).zip (L.map aK)=(L.map λp=>(p.1.key,p)).map λz=>(z.1,aK z.2):=by
  simp[List.zip_map']
 rw[e,mf];simp[bw]
theorem D6 {a b:Cell} (h:a.key=b.key):a=b:=by
 cases a;cases b;simp[Cell.key] at h;simp[h]
structure FLoad (P:Pg):Prop extends FPart P where
 f33:P.fn 33=some Fz
 f34:P.fn 34=some FK
 f35:P.fn 35=some EY
 f36:P.fn 36=some Fm
 f37:P.fn 37=some FC
 i10:((P.cl 10).map (·.init))=some (some 33)
 g10:qW P 10=false
 hs:et P 10 "ship"=true
 hp:et P 10 "placed"=true
 hc:et P 10 "box_by_cell"=true
 hn:et P 10 "cell_by_name"=true
noncomputable def jm:List Str:=["ship","placed","box_by_cell","cell_by_name"]
def gp (s:Sh) (L:List (Cell×Bx)):List Val:=[aR s, .tup true (L.map aK), .dct (L.map λp=>aP p.1) (L.map λp=>aW p.2), .dct (L.map λp=> .str p.2.name) (L.map λp=>aP p.1)]
def cG (s:Sh) (L:List (Cell×Bx)):Val:= .obj 10 jm (gp s L)
theorem jG (s:Sh) (L:List (Cell×Bx)):trees (gp s L)=true:=by simp[gp,aX]
@[simp]theorem LL (s:Sh) (L:List (Cell×Bx)):(cG s L).tree=true:=by simp[cG,jG]
@[simp]theorem m1:¬(Str.ofString "ship"=Str.ofString "placed"):=by decide
@[simp]theorem m2:¬(Str.ofString "ship"=Str.ofString "box_by_cell"):=by decide
@[simp]theorem m3:¬(Str.ofString "ship"=Str.ofString "cell_by_name"):=by decide
@[simp]theorem m4:¬(Str.ofString "placed"=Str.ofString "box_by_cell"):=by decide
@[simp]theorem m5:¬(Str.ofString "placed"=Str.ofString "cell_by_name"):=by decide
@[simp]theorem m6:¬(Str.ofString "box_by_cell"=Str.ofString "cell_by_name"):=by decide
theorem eL {P:Pg} (F:FLoad P) (s:Sh) (L:List (Cell×Bx)) (st:aa):gw P "ship" (cG s L) st= .ok (aR s) st:=by
 simp[cG,jm,gp,F.hs,de]
theorem nk {P:Pg} (F:FLoad P) (s:Sh) (L:List (Cell×Bx)) (st:aa):gw P "placed" (cG s L) st= .ok (.tup true (L.map aK)) st:=by
 simp[cG,jm,gp,F.hp,de]
theorem pT {P:Pg} (F:FLoad P) (s:Sh) (L:List (Cell×Bx)) (st:aa):gw P "box_by_cell" (cG s L) st= .ok (.dct (L.map λp=>aP p.1) (L.map λp=>aW p.2)) st:=by
 simp[cG,jm,gp,F.hc,de]
theorem xY {P:Pg} (F:FLoad P) (s:Sh) (L:List (Cell×Bx)) (st:aa):gw P "cell_by_name" (cG s L) st= .ok (.dct (L.map λp=> .str p.2.name) (L.map λp=>aP p.1)) st:=by
 simp[cG,jm,gp,F.hn,de]
def pM (L:List (Cell×Bx)) (c:Cell):Option Bx:=(L.find? λp=>p.1=c).map (·.2)
def oV (o:Option Bx):Val:=(o.map aW).getD .non
@[simp]theorem MN (o:Option Bx):(oV o).tree=true:=by cases o<;>simp[oV]
theorem oK {P:Pg} (F:FLoad P) (n:Nat) (s:Sh) (L:List (Cell×Bx)) (v:Val) (c:Cell) (st:aa) (hv:res st v=cG s L):call P (n+1) 37 [v,aP c] st= .ok (oV (pM L c)) st:=by
 rw[aj F.f37 _ _ _ rfl];unfold FC;simp[hv,pT F,cV,vY.key];rw[nW vY aW c L];simp
 have e:(Option.map (λp=>aW p.2) (List.find? (λp=>decide (p.1=c)) L)).getD Val.non=oV (pM L c):=by
  simp[oV,pM];cases List.find? (λp=>decide (p.1=c)) L<;>rfl
 rw[e];exact eF P st _ (by simp)
theorem xi {P:Pg} (F:FLoad P) (n:Nat) (s:Sh) (L:List (Cell×Bx)) (v:Val) (c:Cell) (st:aa) (hv:res st v=cG s L) (h:c.t=0∨(pM L ⟨c.b,c.k,c.d,c.t-1⟩).isSome=true):call P (n+2) 36 [v,aP c] st= .ok (.bl true) st:=by
 rw[aj F.f36 _ _ _ rfl];unfold Fm;have q:=oK F n s L v ⟨c.b,c.k,c.d,c.t-1⟩ st hv;unfold aP at q;simp only at q
 by_cases h0:c.t=0
 ·simp[aP,bY,cut,h0]
 ·have h1:=h.resolve_left h0;let⟨x,hx⟩:=aa1.mp h1
  have h2:(c.t==0)=false:=by simp[h0]
  rw[hx] at q;simp[aP,bY,cut,h2,q,oV,aW]
def cT (s:Sh) (L:List (Cell×Bx)):Prop:=L.length<64/\(L.map λp=>p.1).Nodup/\(L.map λp=>p.2.name).Nodup/\(∀p∈L,∃y,s.sk? p.1.b p.1.k=some y/\(p.1.d=0∨p.1.d=1)/\0<=p.1.t/\p.1.t<(y.pt p.1.d).c)/\∀p∈L,p.1.t=0∨∃q∈L,q.1=⟨p.1.b,p.1.k,p.1.d,p.1.t-1⟩
theorem Bv {L:List (Cell×Bx)} {q:Cell×Bx} {c:Cell} (hq:q∈L) (hc:q.1=c):(pM L c).isSome=true:=by
 unfold pM;rw[Option.isSome_map,List.find?_isSome];exact⟨q,hq,by simp[hc]⟩
theorem A6 {P:Pg} (F:FLoad P) (n:Nat) (s:Sh) (L:List (Cell×Bx)) (v:Val) (st:aa) (hv:res st v=cG s L) (h:cT s L):call P (n+5) 35 [v] st= .ok .non st:=by
 rw[aj F.f35 _ _ _ rfl];unfold EY;let⟨h1,h2,h3,h4,h5⟩:=h
 have ek:(L.map λp=>aP p.1).map iY=L.map λp=>aP p.1:=by simp[aP,iY]
 simp[hv,pT F,nk F,xY F]
 have ek2:iY∘(λp:Cell×Bx=>aP p.1)=λp=>aP p.1:=by funext p;simp[aP,iY]
 rw[ek2]
 let⟨env',st',e,hI⟩:=qJ (t:= .var 1) (body:=eB P (call P (n+4)) [.ife (.not (.call 31 [.fld (.var 0) "ship", .var 1])) [.raise 3 [.const (.str "a cell is not the ship's")]] [], .ife (.not (.call 36 [.var 0, .var 1])) [.raise 3 [.const (.str "a box stands above an empty cell")]] []]) (chk:=[]) (λ_ env st'=>st'=st/\∃x,env=[some v,x]) (L.map λp=>aP p.1) [some v,none] st ⟨rfl,_,rfl⟩ (λ_ _ st _=>aT st) λi w env st' e hI=>by
  let⟨rfl,x,rfl⟩:=hI;simp at e;let⟨c,⟨y,e⟩,rfl⟩:=e;have hm:=aas e;let⟨sk,a1,a2,a3,a4⟩:=h4 _ hm;refine⟨[some v,some (aP c)],rfl,[some v,some (aP c)],st', .inl ?_,rfl,_,rfl⟩;have q1:=tH F.toFPart n s false c.b c.k c.d c.t sk st' a1 a2 a3 a4;have q2:=xi F (n+2) s L v c st' hv ((h5 _ hm).imp id λz900=>by let⟨q,hq,e⟩:=z900;exact Bv hq e);have e1:aP c= .tup false [.int c.b, .int c.k, .int c.d, .int c.t]:=rfl;rw[←e1] at q1;simp[hv,eL F,q1,q2]
 rw[e,hI.1];simp
theorem p8 {P:Pg} (F:FLoad P) (n:Nat) (p:Cell×Bx) (st:aa):call P (n+2) 34 [aK p] st= .ok (.tup false [.int p.1.b, .int p.1.d, .int p.1.k, .int p.1.t]) st:=by
 rw[aj F.f34 _ _ _ rfl];unfold FK;simp[aK,aP,p9 F.toFPart]
theorem rZ {P:Pg} (F:FLoad P) (n:Nat) (st:aa):∀(L:List (Cell×Bx)) (dn:List Val),eX (call P (n+2)) 34 st (L.map aK) dn= .ok (dn++L.map λp=> .tup false (p.1.key.map .int)) (st++[.lst (dn++L.map λp=> .tup false (p.1.key.map .int))])
 |[],dn=>by simp[eX]
 |p::L,dn=>by
  simp only[aay,eX];rw[p8 F];simp;have:=rZ F n st L (dn++[.tup false (p.1.key.map .int)]);simp[Cell.key] at this⊢;exact this
theorem lq:∀(L:List (Cell×Bx)),dN (L.map λp=> .tup false (p.1.key.map .int))=some (L.map λp=>p.1.key)
 |[]=>by simp[dN]
 |p::L=>by simp[dN,GS,cw,Cell.key,lq L];exact lq L
theorem pk {α β:Type} {f:α->β} (hf:∀a b,f a=f b->a=b):∀{l:List α},l.Nodup->(l.map f).Nodup
 |[],_=>by simp
 |a::l,h=>by
  simp only[aay,abt] at h⊢;refine⟨λhm=> ?_,pk hf h.2⟩;let⟨b,hb,e⟩:=aaT.mp hm;rw[hf b a e] at hb;exact h.1 hb
theorem keys_nodup {L:List (Cell×Bx)} (h:(L.map λp=>p.1).Nodup):(L.map λp=>p.1.key).Nodup:=by
 have e:(L.map λp=>p.1.key)=(L.map λp=>p.1).map Cell.key:=by simp
 rw[e];exact pk (λa b h=>D6 h) h
theorem om {P:Pg} (F:FLoad P) (n:Nat) (st:aa) (L:List (Cell×Bx)) (hl:L.length<64) (hn:(L.map λp=>p.1).Nodup):qi (call P (n+2)) 34 st (.lst (L.map aK))= .ok (.ref (st.length+1)) (st++[.lst [], .lst ((bw L).map aK)]):=by
 have h:=rZ F n st L [];simp at h;simp[hl];rw[h];simp;rw[lq];simp[i8];rw[bL ⟨hl,keys_nodup hn,4,by lia,λa b c _ e=>by subst e;simp[Cell.key]⟩,Iy];simp[new]
theorem xg (st g:aa) (j:Nat) (ks vs:List Val) (hj:g[j]?=some (.dct ks vs)) (hv:trees vs=true):tY st (.ref (st.length+j)) (st++g)= .ok (.dct ks vs) st:=by
 have hlt:j<g.length:=(aac.mp hj).1;unfold tY;rw[if_pos (gc st g)]
 have e:(Val.ref (st.length+j)).aD (st++g) st.length (st++g).length=some (.dct ks vs):=by
  simp[Val.aD,Val.sub,iD,hj,bS _ _ hv];rw[if_neg (by lia),if_neg (by lia)]
 rw[e];simp
theorem iJ {α β:Type} {a b:List α} (f:α->β) (h:a.Perm b) (hb:(b.map f).Nodup):(a.map f).Nodup:=((h.map f).nodup_iff).mpr hb
theorem cT.bw {s:Sh} {L:List (Cell×Bx)} (h:cT s L):cT s (bw L):=by
 let⟨h1,h2,h3,h4,h5⟩:=h;have p:=i9 L;refine⟨by rw[p.length_eq];exact h1,iJ _ p h2,iJ _ p h3,λq hq=>h4 q (p.mem_iff.mp hq),λq hq=> ?_⟩
 refine(h5 q (p.mem_iff.mp hq)).imp id λz900=>by let⟨r,hr,e⟩:=z900;exact⟨r,p.mem_iff.mpr hr,e⟩
theorem C3 (L:List (Cell×Bx)) (st:aa) (hl:L.length<64) (hn:(L.map λp=>p.1).Nodup):newD (L.map aK) st= .ok (.ref st.length) (st++[.dct (L.map λp=>aP p.1) (L.map λp=>aW p.2)]):=by
 unfold newD;have:=lh vY aW L [] hn (by simp);simp at this;rw[bL (by simp;lia)];have e:L.map aK=L.map λp=> .tup false [aP p.1,aW p.2]:=rfl;rw[e,this];simp[new]
theorem Ac (L:List (Cell×Bx)) (st:aa) (hl:L.length<64) (hn:(L.map λp=>p.2.name).Nodup):newD (L.map λp=> .tup false [.str p.2.name,aP p.1]) st= .ok (.ref st.length) (st++[.dct (L.map λp=> .str p.2.name) (L.map λp=>aP p.1)]):=by
 unfold newD;have:=lh KA aP (L.map λp=>(p.2.name,p.1)) [] (by rw[aa6];exact hn) (by simp);simp at this;rw[bL (by simp;lia)];have e:(L.map λp=>Val.tup false [.str p.2.name,aP p.1])=List.map ((λp:Str×Cell=>Val.tup false [Val.str p.1,aP p.2])∘λp:Cell×Bx=>(p.2.name,p.1)) L:=rfl;rw[e,this];simp[new]
theorem wK {P:Pg} (F:FLoad P) (n:Nat) (s:Sh) (L:List (Cell×Bx)) (v:Val) (st:aa) (hv:res st v= .lst (L.map aK)) (h:cT s L):
  call P (n+6) 33 [.ref st.length,aR s,v] (st++[.ins 10 [] []])= .ok .non (st++[.ins 10 jm (gp s (bw L))]):=by
 rw[aj F.f33 _ _ _ rfl];unfold Fz;have hS:=h.bw;have hS':=h.bw;let⟨h1,h2,h3,h4,h5⟩:=h;let⟨s1,s2,s3,s4,s5⟩:=hS;have hv1:=eR (g:=[.ins 10 ["ship"] [aR s]]) hv;have q1:=om F (n+3) (st++[.ins 10 ["ship"] [aR s]]) L h1 h2;have q2:=C3 (bw L) (st++[.ins 10 ["ship","placed"] [aR s, .tup true ((bw L).map aK)], .lst [], .lst ((bw L).map aK)]) s1 s2;have q3:=Ac (bw L) (st++[.ins 10 ["ship","placed","box_by_cell"] [aR s, .tup true ((bw L).map aK), .dct ((bw L).map λp=>aP p.1) ((bw L).map λp=>aW p.2)], .lst [], .lst ((bw L).map aK), .lst ((bw L).map λp=> .tup false [.str p.2.name,aP p.1])]) s1 s3;have q4:=A6 F n s (bw L) (.ref st.length) (st++[.ins 10 jm (gp s (bw L)), .lst [], .lst ((bw L).map aK)]) (by simp[cG]) hS';have z2:=xg (st++[.ins 10 ["ship","placed"] [aR s, .tup true ((bw L).map aK)], .lst [], .lst ((bw L).map aK)]) [.dct ((bw L).map λp=>aP p.1) ((bw L).map λp=>aW p.2)] 0 _ _ rfl (aX _ _ λp=>by simp);have z3:=xg (st++[.ins 10 ["ship","placed","box_by_cell"] [aR s, .tup true ((bw L).map aK), .dct ((bw L).map λp=>aP p.1) ((bw L).map λp=>aW p.2)], .lst [], .lst ((bw L).map aK)]) [.lst ((bw L).map λp=> .tup false [.str p.2.name,aP p.1]), .dct ((bw L).map λp=> .str p.2.name) ((bw L).map λp=>aP p.1)] 1 _ _ rfl (aX _ _ λp=>by simp)
 have hc:∀(cl:au) (env:Env) (S:aa),aB (Tn P cl 2 [] (.tup [.var 0, .var 1]) none (.tup [.idx (.var 1) (.ci 0), .var 0]) env) [] ((bw L).map aK) S= .ok ((bw L).map λp=> .tup false [.str p.2.name,aP p.1]) S:=by
  intro cl env S;refine comp_map (aT S) _ _ _ λp _=> ?_;simp[Tn,aO,av,aK,aW]
 have l2:(bw L).length<=10000:=by lia
 simp[Nat.add_assoc] at q1 q2 q3 z2 z3;simp[F.hs,F.hp,F.hc,F.hn,aU,hv1,q1,de,q2,z2,q3,z3,hc,l2,T.low,lows,new,Nat.add_assoc];simp[jm,gp] at q4;rw[q4];simp;exact rL P st _ 10 10 [] jm [] (gp s (bw L)) .non (by simp) (jG _ _)
theorem um {P:Pg} (F:FLoad P) (n:Nat) (s:Sh) (L:List (Cell×Bx)) (v:Val) (st:aa) (hv:res st v= .lst (L.map aK)) (h:cT s L):
  kB P (call P (n+6)) 10 [aR s,v] st ((P.cl 10).map (·.init))= .ok (cG s (bw L)) st:=by
 rw[F.i10];simp[wK F n s L v st hv h];unfold fin;rw[if_pos (gc _ _)];simp[F.g10,cN,jG,cG]
structure FMom (P:Pg):Prop extends FLoad P where
 f80:P.fn 80=some zZ
 f81:P.fn 81=some Gj
 f82:P.fn 82=some Hw
def fg (i:Int):Prop:=i.natAbs<2^200
theorem nX {i:Int} (h:fg i):big i:=aan h (Nat.pow_le_pow_right (by lia) (by lia))
def Sh.gY (s:Sh):Prop:=∀b∈s.bays,fg b.arm/\∀y∈b.sks,fg y.side
def aE (s:Sh) (c:Cell):Int:=((s.bays[c.b.toNat]?).map (·.arm)).getD 0
def az (s:Sh) (c:Cell):Int:=((s.sk? c.b c.k).map (·.side)).getD 0
theorem eK (i j:Int) (st:aa) (h:big i) (h':big j):oB i j st= .ok (.int (i*j)) st:=bL (.inr (.inr ⟨h,h'⟩))
theorem uZ {P:Pg} (F:FMom P) (n:Nat) (s:Sh) (f:Bool) (c:Cell) (y:Sk) (st:aa) (h:s.sk? c.b c.k=some y) (hd:c.d=0∨c.d=1):call P (n+3) 80 [aR s, .tup f [.int c.b, .int c.k, .int c.d]] st= .ok (.tup false [.int (aE s c), .int (az s c)]) st:=by
 rw[aj F.f80 _ _ _ rfl];unfold zZ;have F1:=F.toFShip;let⟨b0,k0,z,e1,e2,b1,k1⟩:=dr h;let⟨_,e1'⟩:=aac.mp e1;simp[kY F.toFPart n s f c.b c.k c.d y st h hd,ck,cv F1,b0,b1,e1,e1',cJ,aE,az,h]
theorem nF {s:Sh} (hb:s.gY) (c:Cell):fg (aE s c)/\fg (az s c):=by
 have b0:fg 0:=by unfold fg;decide
 constructor
 ·unfold aE
  cases e:s.bays[c.b.toNat]? with
  |none=>exact b0
  |some z=>exact(hb z (aas e)).1
 ·unfold az
  cases e:s.sk? c.b c.k with
  |none=>exact b0
  |some y=>
   let⟨_,_,z,e1,e2,_,_⟩:=dr e;exact(hb z (aas e1)).2 y (aas e2)
theorem eG {s:Sh} (hb:s.gY) (c:Cell):big (aE s c)/\big (az s c):=⟨nX (nF hb c).1,nX (nF hb c).2⟩
theorem Dl {P:Pg} (F:FMom P) (n:Nat) (s:Sh) (hb:s.gY) (f:Bool) (c:Cell) (y:Sk) (w a x:Int) (v:Int) (hv:big v) (st:aa) (h:s.sk? c.b c.k=some y) (hd:c.d=0∨c.d=1):call P (n+4) 82 [aR s, .tup f [.int w, .int a, .int x],aP c, .int v] st= .ok (.tup false [.int (w+v), .int (a+v*aE s c), .int (x+v*az s c)]) st:=by
 rw[aj F.f82 _ _ _ rfl];unfold Hw;have q:=eG hb c;simp[aP,bY,cut,uZ F n s false c y st h hd,eK _ _ _ hv q.1,eK _ _ _ hv q.2]
def iy (s:Sh) (L:List (Cell×Bx)):Prop:=∀p∈L,(∃y,s.sk? p.1.b p.1.k=some y)/\(p.1.d=0∨p.1.d=1)/\big p.2.w
def jk (L:List (Cell×Bx)):Int:=(L.map λp=>p.2.w).sum
def ba (s:Sh) (L:List (Cell×Bx)):Int:=(L.map λp=>p.2.w*aE s p.1).sum
def aZ (s:Sh) (L:List (Cell×Bx)):Int:=(L.map λp=>p.2.w*az s p.1).sum
def jo (s:Sh) (L:List (Cell×Bx)):Val:= .tup false [.int (jk L), .int (ba s L), .int (aZ s L)]
theorem sO {P:Pg} (F:FMom P) (n:Nat) (s:Sh) (hb:s.gY) (v:Val) (L0:List (Cell×Bx)) (st:aa) (hv:res st v=cG s L0):∀(L:List (Cell×Bx)) (w a c:Int) (x y:Option Val),iy s L->∃x' y',forL (.tup [.var 2, .var 3]) (eB P (call P (n+4)) [.set (.var 1) (.call 82 [.fld (.var 0) "ship", .var 1, .var 2, .idx (.var 3) (.ci 1)])]) [] (L.map aK) [some v,some (.tup false [.int w, .int a, .int c]),x,y] st
  = .next [some v,some (.tup false [.int (w+jk L), .int (a+ba s L), .int (c+aZ s L)]),x',y'] st
 |[],w,a,c,x,y,_=>⟨x,y,by simp[jk,ba,aZ]⟩
 |p::L,w,a,c,x,y,h=>by
  let⟨⟨sk,h1⟩,h2,h3⟩:=h p (by simp);let⟨x',y',e⟩:=sO F n s hb v L0 st hv L (w+p.2.w) (a+p.2.w*aE s p.1) (c+p.2.w*az s p.1) (some (aP p.1)) (some (aW p.2)) λq hq=>h q (by simp[hq]);refine⟨x',y', ?_⟩;have q:=Dl F n s hb false p.1 sk w a c p.2.w h3 st h1 h2;have eb:aW p.2= .tup false [.str p.2.name, .int p.2.w, .int p.2.h, .int p.2.cold, .str p.2.sort, .int p.2.port]:=rfl;rw[eb] at e;simp[aK,hv,eL F.toFLoad,eb,q];rw[e];simp[jk,ba,aZ,Int.add_assoc]
theorem mG {P:Pg} (F:FMom P) (n:Nat) (s:Sh) (hb:s.gY) (L:List (Cell×Bx)) (h:iy s L) (st:aa):call P (n+5) 81 [cG s L] st= .ok (jo s L) st:=by
 rw[aj F.f81 _ _ _ rfl];unfold Gj;let⟨x',y',e⟩:=sO F n s hb (cG s L) L st (by simp) L 0 0 0 none none h;simp[nk F.toFLoad];rw[e];simp[jo]
def qe (s:Sh) (L:List (Cell×Bx)):Bool:=decide ((ba s L).natAbs<=s.trim)&&decide ((aZ s L).natAbs<=s.heel)
theorem Dq {P:Pg} (F:FMom P) (h83:P.fn 83=some Am) (n:Nat) (s:Sh) (hb:s.gY) (L:List (Cell×Bx)) (h:iy s L) (st:aa):call P (n+6) 83 [cG s L] st= .ok (.bl (qe s L)) st:=by
 rw[aj h83 _ _ _ rfl];unfold Am;simp[mG F n s hb L h st,jo,eL F.toFLoad,jb F.toFShip,ja F.toFShip,qe]
theorem l8 {a b:List Int} (h:a.Perm b):a.sum=b.sum:=by
 induction h with
 |nil=>rfl
 |cons x _ ih=>simp[ih]
 |swap x y l=>simp;lia
 |trans _ _ h1 h2=>rw[h1,h2]
theorem rF {s:Sh} {L M:List (Cell×Bx)} (h:L.Perm M):jk L=jk M/\ba s L=ba s M/\aZ s L=aZ s M:=⟨l8 (h.map _),l8 (h.map _),l8 (h.map _)⟩
noncomputable def bG:Int->Nat->List Int
 |_,0=>[]
 |lo,n+1=>lo::bG (lo+1) n
theorem sZ:∀(n:Nat) (lo:Int),bu lo n=(bG lo n).map .int
 |0,_=>rfl
 |n+1,lo=>by simp[bu,bG,sZ n]
@[simp]theorem Bl:∀(n:Nat) (lo:Int),(bG lo n).length=n
 |0,_=>rfl
 |n+1,lo=>by simp[bG,Bl n]
theorem iQ:∀{n:Nat} {lo x:Int},x∈bG lo n↔lo<=x/\x<lo+n
 |0,lo,x=>by simp[bG]
 |n+1,lo,x=>by
  simp[bG,iQ (n:=n)];lia
theorem dM {α β:Type} (f:α->Bool) (g:α->β):∀l:List α,(l.filterMap λa=>if f a=true then some (g a) else none)=(l.filter f).map g
 |[]=>rfl
 |a::l=>by
  rw[abT,acD,dM f g l];cases f a<;>simp
theorem iT {k:Nat} {o:Ob} {st:aa} (h:st[k]?=some o):Kept [(k,o)] st:=λp hp=>by
 simp at hp;subst hp;exact h
structure FCell (P:Pg):Prop extends FPart P where
 f10:P.fn 10=some ir10
 f11:P.fn 11=some qL
def D9 (p:Int×Int×Int) (c:Int):List Cell:=(bG 0 c.toNat).map λt=>⟨p.1,p.2.1,p.2.2,t⟩
def ptP (s:Sh) (p:Int×Int×Int):Pt:=((s.sk? p.1 p.2.1).map λy=>y.pt p.2.2).getD ⟨0,0,0,[],0⟩
def cellsFrom (s:Sh) (ps:List (Int×Int×Int)):List Cell:=ps.flatMap λp=>D9 p (ptP s p).c
def Sh.cells (s:Sh):List Cell:=cellsFrom s s.parts
theorem B6 {s:Sh} (hs:s.Ok) {b k d:Int} {y:Sk} (h:s.sk? b k=some y):(y.pt d).Ok:=by
 let⟨_,_,z,e1,e2,_,k1⟩:=dr h;have hz:=hs.2.2.2.1 z (aas e1);have hy:=hz.2.2 y (aas e2);unfold Sk.pt;split
 ·exact hy.1
 ·exact hy.2
noncomputable def br (p:Int×Int×Int) (t:Int):Cell:=⟨p.1,p.2.1,p.2.2,t⟩
def kR (L:List (Cell×Bx)) (p:Int×Int×Int) (t:Int):Bool:=(pM L (br p t)).isSome
def eV (L:List (Cell×Bx)) (p:Int×Int×Int) (c:Int):Nat:=((bG 0 c.toNat).filter (kR L p)).length
theorem pW {P:Pg} (F:FPart P) (h11:P.fn 11=some qL) (n:Nat) (s:Sh) (hs:s.Ok) (p:Int×Int×Int) (y:Sk) (st:aa) (h:s.sk? p.1 p.2.1=some y) (hd:p.2.2=0∨p.2.2=1):call P (n+4) 11 [aR s,ax p] st= .ok (.ref st.length) (st++[.lst ((bG 0 (y.pt p.2.2).c.toNat).map λt=>aP (br p t))]):=by
 rw[aj h11 _ _ _ rfl];unfold qL;have q1:=fO F n s false p.1 p.2.1 p.2.2 y st h hd;have e:ax p= .tup false [.int p.1, .int p.2.1, .int p.2.2]:=rfl;have hc:=(B6 hs h (d:=p.2.2)).1;have h1:0<=(y.pt p.2.2).c:=hc.1
 have h2:(y.pt p.2.2).c<16777216:=by have:=hc.2;lia
 have h3:(y.pt p.2.2).c.toNat<=10000:=by have:=hc.2;lia
 have hcomp:aB (Tn P (call P (n+3)) 1 [1] (.var 0) none (.bin .Add (.var 1) (.tup [.var 0])) [some (aR s),some (ax p)]) [] (bu 0 (y.pt p.2.2).c.toNat) st= .ok ((bG 0 (y.pt p.2.2).c.toNat).map λt=>aP (br p t)) st:=by
  rw[sZ];refine comp_map (aT st) _ _ _ λt _=> ?_;simp[Tn,aO,av,ax,aP,br]
 rw[e] at hcomp⊢;simp[q1,fh,h1,h2,h3,T.low,hcomp,new];exact rK P st [.lst _] 0 _ _ rfl (cN _ _ _ _ (aX _ _ λa=>by simp))
theorem Fy {P:Pg} (F:FLoad P) (h11:P.fn 11=some qL) (h39:P.fn 39=some BF) (n:Nat) (s:Sh) (hs:s.Ok) (L:List (Cell×Bx)) (p:Int×Int×Int) (y:Sk) (st:aa) (h:s.sk? p.1 p.2.1=some y) (hd:p.2.2=0∨p.2.2=1):call P (n+5) 39 [cG s L,ax p] st= .ok (.int (eV L p (y.pt p.2.2).c)) st:=by
 rw[aj h39 _ _ _ rfl];unfold BF;have q1:=pW F.toFPart h11 n s hs p y st h hd
 have hcl:(y.pt p.2.2).c<=10000:=by
  have:=(B6 hs h (d:=p.2.2)).1.2;lia
 have hcomp:∀chk st x2,Kept chk st->aB (Tn P (call P (n+4)) 1 [0] (.var 0) (some (.cmp .IsNot (.call 37 [.var 1, .var 0]) (.const .non))) (.var 0) [some (cG s L),some (ax p),x2]) chk ((bG 0 (y.pt p.2.2).c.toNat).map λt=>aP (br p t)) st= .ok (((bG 0 (y.pt p.2.2).c.toNat).filter (kR L p)).map λt=>aP (br p t)) st:=λchk st x2 hk=>by
  rw[eM hk (λt=>aP (br p t)) (λt=>if kR L p t=true then some (aP (br p t)) else none) _ λt _=> ?_,dM];have q:=oK F (n+3) s L (cG s L) (br p t) st (by simp);simp[Tn,aO,av,q,kR]
  have:∀o:Option Bx,fL (!fP (oV o)) (R.ok (some (aP (br p t))) st) (R.ok none st)=R.ok (if o.isSome=true then some (aP (br p t)) else none) st:=λo=>by cases o<;>simp[oV,aW]
  exact this _
 simp[eL F,q1,T.low,hcl];rw[hcomp _ _ _ (iT (by rw[Bj];rfl))];simp[T.low,new,hcl,eV];exact dU P st _ (.int _) (by simp)
theorem qI (f:Int->Bool):∀(n:Nat) (lo:Int),(∀t,lo<=t->f (t+1)=true->f t=true)->∀t,lo<=t->t<lo+n->(f t=true↔t<lo+((bG lo n).filter f).length)
 |0,lo,_,t,h1,h2=>by simp at h2;lia
 |n+1,lo,hd,t,h1,h2=>by
  have ih:=qI f n (lo+1) (λt ht=>hd t (by lia))
  have all:f lo=false->∀t,lo<=t->f t=false:=λh0 t ht=>by
   obtain⟨k,rfl⟩:∃k:Nat,t=lo+k:=⟨(t-lo).toNat,by lia⟩
   induction k with
   |zero=>simpa using h0
   |succ k ih=>
    cases e:f (lo+(k+1:Nat)) with
    |false=>rfl
    |true=>
     have:=hd (lo+k) (by lia) (by rw[show lo+(k:Int)+1=lo+(k+1:Nat) by push_cast;lia];exact e);rw[ih (by lia)] at this;cases this
  unfold bG
  cases e:f lo with
  |false=>
   rw[acD,if_neg (by simp[e]),all e t h1]
   have:(bG (lo+1) n).filter f=[]:=List.filter_eq_nil_iff.mpr λx hx=>by simp[all e x (by have:=iQ.mp hx;lia)]
   simp[this];lia
  |true=>
   rw[acD,if_pos e,aaw]
   by_cases ht:t=lo
   ·subst ht;simp[e];lia
   ·rw[ih t (by lia) (by push_cast at h2;lia)]
    push_cast
    lia
theorem gh {L:List (Cell×Bx)} {p:Int×Int×Int} {t:Int}:kR L p t=true↔∃q∈L,q.1=br p t:=by
 unfold kR pM;simp
theorem DQ {s:Sh} {L:List (Cell×Bx)} (h:cT s L) (hl:L.length<60) (p:Int×Int×Int) (y:Sk) (hy:s.sk? p.1 p.2.1=some y) (hd:p.2.2=0∨p.2.2=1) (b:Bx) (hn:b.name∉L.map λq=>q.2.name) (ht:(eV L p (y.pt p.2.2).c:Int)<(y.pt p.2.2).c):cT s (L++[(br p (eV L p (y.pt p.2.2).c),b)]):=by
 let⟨h1,h2,h3,h4,h5⟩:=h
 have dn:∀t,0<=t->kR L p (t+1)=true->kR L p t=true:=λt t0 q=>by
  let⟨r,hr,e⟩:=gh.mp q
  rcases h5 r hr with z|⟨r',hr',e'⟩
  ·rw[e] at z;simp[br] at z;lia
  ·exact gh.mpr ⟨r',hr',by rw[e',e];simp[br]⟩
 have tp:=qI (kR L p) (y.pt p.2.2).c.toNat 0 dn;have tl:eV L p (y.pt p.2.2).c=((bG 0 (y.pt p.2.2).c.toNat).filter (kR L p)).length:=rfl;rw[←tl] at tp;generalize eV L p (y.pt p.2.2).c=T at*;refine⟨by simp;lia, ?_, ?_,λq hq=> ?_,λq hq=> ?_⟩
 ·rw[abd,abM];refine⟨h2,by simp,λc hc e he=> ?_⟩;simp at he;subst he;intro e2;let⟨q,hq,e3⟩:=aaT.mp hc;have:=(tp T (by lia) (by lia)).mp (gh.mpr ⟨q,hq,e3.trans e2⟩);lia
 ·rw[abd,abM];refine⟨h3,by simp,λc hc e he=> ?_⟩;simp at he;subst he;intro e2;exact hn (e2▸hc)
 ·rcases aaz.mp hq with hq|hq
  ·exact h4 q hq
  ·simp at hq;subst hq;exact⟨y,hy,hd,by simp[br],ht⟩
 ·rcases aaz.mp hq with hq|hq
  ·rcases h5 q hq with z|⟨r,hr,e⟩
   ·exact .inl z
   ·exact .inr ⟨r,aaz.mpr (.inl hr),e⟩
  ·simp at hq;subst hq
   by_cases t0:T=0
   ·exact .inl (by simp[br,t0])
   ·let⟨r,hr,e⟩:=gh.mp ((tp ((T:Int)-1) (by lia) (by lia)).mpr (by lia));exact .inr ⟨r,aaz.mpr (.inl hr),e⟩
structure FG (P:Pg):Prop extends FMom P where
 f84:P.fn 84=some Fs
 f85:P.fn 85=some GJ
 f86:P.fn 86=some GB
 f87:P.fn 87=some GP
 f88:P.fn 88=some EF
 f89:P.fn 89=some Gr
 f90:P.fn 90=some G9
 f91:P.fn 91=some FJ
 f93:P.fn 93=some E8
 f94:P.fn 94=some EW
 f95:P.fn 95=some FH
 f96:P.fn 96=some EV
 f97:P.fn 97=some FQ
 f98:P.fn 98=some Ga
noncomputable def BY (ns:List Int) (z:Int):Int:=if ns=[] then 0 else ns.getD (z % ns.length).toNat 0
def bI (ns:List Int) (z:Int):Int:=let m:=(BY ns z % 2147483647+z*z*7919+11)*48271 % 2147483647;m*m % 1999999973
theorem dA (ns:List Int) (z:Int):0<=bI ns z/\bI ns z<1999999973:=by
 unfold bI;simp only;lia
noncomputable abbrev bT (ns:List Int):Val:= .lst (ns.map .int)
theorem uW {P:Pg} {cl:au} (ns:List Int) (z:Int) (s:aa) (env:Env) (h0:env[0]?=some (some (bT ns))) (h1:env[1]?=some (some (.ref 0))):E.run P cl (.ite (.cmp .Gt (.bi .len [.var 0]) (.ci 0)) (.idx (.var 0) (.bin .Mod (.idx (.var 1) (.ci 0)) (.bi .len [.var 0]))) (.ci 0)) env (.lst [.int z]::s)= .ok (.int (BY ns z)) (.lst [.int z]::s):=by
 by_cases hn:ns=[]
 ·subst hn;simp[h0,h1,BY]
 ·have l0:0<ns.length:=acQ.mpr hn
  have l1:(0:Int)<ns.length:=by lia
  have h2:0<=z % (ns.length:Int):=abJ _ (by lia);have h3:z % (ns.length:Int)<ns.length:=abl _ (by lia);simp[h0,h1,BY,l0,l1,h2,h3,hn]
theorem bN {P:Pg} (F:FG P) (n:Nat) (ns:List Int) (z:Int) (s:aa) (z0:0<=z) (z1:z<2^60):
  call P (n+1) 84 [bT ns, .ref 0] (.lst [.int z]::s)= .ok (.int (bI ns (z+1))) (.lst [.int (z+1)]::s):=by
 rw[aj F.f84 _ _ _ rfl];unfold Fs
 have zz:(z+1).natAbs<2^64:=by lia
 have hm:∀x:Int,(x % 2147483647).natAbs<2^64:=λx=>by lia
 have q:=uW (P:=P) (cl:=call P n) ns (z+1) s [some (bT ns),some (.ref 0),none,none] rfl rfl;simp only[DN,Hj,HM];rw[show E.run P (call P n) (E.bin .Add (.idx (.var 1) (.ci 0)) (.ci 1)) (List.map some [bT ns, .ref 0]++List.replicate (4-2) none) (.lst [.int z]::s)= .ok (.int (z+1)) (.lst [.int z]::s) by simp];simp only[aay,acK,acB,List.nil_append,List.replicate];simp only[R.iG,A4,AB,of_ok];simp[-pH,q,zz,hm,bI];exact iN P z (z+1) s _ (by simp)
theorem qz (i j:Int) (st:aa) (h0:0<=j) (h1:j<=1000) (h2:i.natAbs<2^64):vL i j st= .ok (.int (i^j.toNat)) st:=bL ⟨h0,h1,h2⟩
theorem tm {P:Pg} (F:FG P) (n:Nat) (ns:List Int) (z:Int) (s:aa) (r:Int) (r0:0<r) (r1:r<10^40) (z0:0<=z) (z1:z<2^60):
  ∃v:Int,0<=v/\v<10^40/\call P (n+2) 85 [bT ns, .ref 0, .int r] (.lst [.int z]::s)= .ok (.int v) (.lst [.int (z+1)]::s):=by
 rw[aj F.f85 _ _ _ rfl];unfold GJ;have q1:=bN F n ns z s z0 z1;have q:=λv:Option Val=>uW (P:=P) (cl:=call P (n+1)) ns (z+1) s [some (bT ns),some (.ref 0),some (.int r),some (.int (bI ns (z+1))),v] rfl rfl;have hr:=dA ns (z+1)
 have hm:(bI ns (z+1)).natAbs<2^64:=by lia
 simp[-pH,q1,q]
 cases hb:decide (bI ns (z+1) % 3<2) with
 |true=>
  simp[r0];refine⟨bI ns (z+1)/3 % r,abJ _ (by lia),Int.lt_trans (abl _ r0) r1,iN P z (z+1) s _ (by simp)⟩
 |false=>
  simp[qz,hm];refine⟨_, ?_, ?_,iN P z (z+1) s _ (by simp)⟩
  ·lia
  ·lia
theorem yJ {P:Pg} (F:FG P) (n:Nat) (ns:List Int) (z:Int) (s:aa) (z0:0<=z) (z1:z<2^59):
  ∃v:Int,v.natAbs<10^20/\call P (n+3) 93 [bT ns, .ref 0] (.lst [.int z]::s)= .ok (.int v) (.lst [.int (z+2)]::s):=by
 rw[aj F.f93 _ _ _ rfl];unfold E8;have q1:=bN F (n+1) ns z s z0 (by lia);let⟨v,v0,v1,q2⟩:=tm F n ns (z+1) s 7 (by lia) (by lia) (by lia) (by lia);simp[q1,q2,qz];rw[show z+1+1=z+2 by lia]
 cases hb:(bI ns (z+1) % 2==0) with
 |true=>
  simp;refine⟨v % 100000000000000000000,by lia,iN P z (z+2) s _ (by simp)⟩
 |false=>
  simp;refine⟨-(v % 100000000000000000000),by lia,iN P z (z+2) s _ (by simp)⟩
theorem vh (z z':Int) (s g:aa) (j:Nat) (xs:List Val) (hj:g[j]?=some (.lst xs)) (hx:trees xs=true):(Val.ref (s.length+1+j)).aD (.lst [.int z']::(s++g)) (s.length+1) (s.length+1+g.length)=some (.lst xs):=by
 have hlt:j<g.length:=(aac.mp hj).1
 have e:(Ob.lst [.int z']::(s++g))[s.length+1+j]?=some (.lst xs):=by
  rw[show s.length+1+j=(s.length+j)+1 by lia,abX,kf,hj]
 simp only[Val.aD,Val.sub,iD,e];rw[if_neg (by lia),if_neg (by lia),bS _ _ hx];rfl
theorem xn {e:Int}:∀{l:List Int} {a a':Int},a'<=a->jl e a l->jl e a' l
 |[],_,_,_,_=>trivial
 |x::l,a,a',h,q=>⟨by have:=q.1;lia,q.2.1,q.2.2⟩
theorem oQ (f:Int->Bool):∀(n:Nat) (lo:Int),jl (lo+n) lo ((bG lo n).filter f)
 |0,_=>trivial
 |n+1,lo=>by
  have h:=oQ f n (lo+1);rw[show lo+1+(n:Int)=lo+((n+1:Nat):Int) by push_cast;lia] at h;unfold bG;rw[acD];split
  ·exact⟨by lia,by push_cast;lia,h⟩
  ·exact xn (by lia) h
def iW (p:Pt):Val:= .tup false [.int p.c, .int p.s, .int p.h, .lst (p.p.map .int), .int p.l]
@[simp]theorem JL (p:Pt):(iW p).tree=true:=by simp[iW]
theorem u1 {P:Pg} (F:FG P) (n:Nat) (ns:List Int) (z:Int) (s:aa) (c:Nat) (hc:c<=9) (z0:0<=z) (z1:z<2^60):
  ∃p:Pt,p.Ok/\p.c<=c/\call P (n+2) 87 [bT ns, .ref 0, .int c] (.lst [.int z]::s)= .ok (iW p) (.lst [.int (z+1)]::s):=by
 rw[aj F.f87 _ _ _ rfl];unfold GP;have q1:=bN F n ns z s z0 z1;have hr:=dA ns (z+1);generalize bI ns (z+1)=m at q1 hr
 have k0:(0:Int)<(c:Int)+1:=by lia
 have k1:0<=m % ((c:Int)+1):=abJ _ (by lia);have k2:m % ((c:Int)+1)<(c:Int)+1:=abl _ (by lia)
 have k3:m % ((c:Int)+1)<16777216:=by lia
 have k4:(m % ((c:Int)+1)).toNat<=10000:=by lia
 have hcomp:∀(a b:Option Val) (x y:Option Val),aB (Tn P (call P (n+1)) 1 [3] (.var 0) (some (.cmp .Gt (.bin .Mod (.bin .FloorDiv (.bin .FloorDiv (.var 1) (.ci 10)) (.bin .Add (.bin .Mult (.var 0) (.var 0)) (.ci 1))) (.ci 3)) (.ci 0))) (.var 0) [a,b,x,some (.int m),y,none]) [] (bu 0 (m % ((c:Int)+1)).toNat) (.lst [.int (z+1)]::s)= .ok (((bG 0 (m % ((c:Int)+1)).toNat).filter λk=>decide (0<m/10/(k*k+1) % 3)).map .int) (.lst [.int (z+1)]::s):=by
  intro a b x y;rw[sZ];rw[eM (aT _) Val.int (λk=>if decide (0<m/10/(k*k+1) % 3)=true then some (.int k) else none) _ ?_,dM];intro k hk;have hk:=iQ.mp hk
  have hk1:k.natAbs<2^64:=by lia
  have hk2:0<=k*k:=Int.mul_nonneg (by lia) (by lia);have hk3:k*k<=10*10:=Int.mul_le_mul (by lia) (by lia) (by lia) (by lia)
  have hk4:0<k*k+1:=by lia
  have hk5:k*k+1<2^64:=by lia
  have hk6:=λst=>Bb (m/10) (k*k+1) st hk4 hk5;simp[Tn,aO,av,hk1,hk6]
  by_cases hb:0<m/10/(k*k+1) % 3<;>simp[hb]
 refine⟨⟨m % ((c:Int)+1),5+m/7 % 40,5+m/300 % 30,(bG 0 (m % ((c:Int)+1)).toNat).filter λk=>decide (0<m/10/(k*k+1) % 3),m/9000 % 60⟩,⟨⟨k1,by simp only;lia⟩,⟨by simp only;lia,by simp only;lia,by simp only;lia⟩, ?_⟩,by simp only;lia, ?_⟩
 ·have:=oQ (λk=>decide (0<m/10/(k*k+1) % 3)) (m % ((c:Int)+1)).toNat 0;rw[show (0:Int)+((m % ((c:Int)+1)).toNat:Int)=m % ((c:Int)+1) by lia] at this;exact this
 ·simp[q1,k0,k1,k3,k4,T.low,hcomp,new];refine(ue P z (z+1) s [.lst _] _ (iW _) rfl ?_);have hz:=vh z (z+1) s [.lst (((bG 0 (m % ((c:Int)+1)).toNat).filter λk=>decide (0<m/10/(k*k+1) % 3)).map .int)] 0 _ rfl (by simp);simp at hz;simp[iW];rw[hz];simp
def dI (y:Sk):Val:= .tup false [.int y.side,iW y.hold,iW y.deck]
noncomputable def kF:List S:=[.set (.var 9) (.bin .Sub (.bin .Mod (.call 84 [.var 0, .var 1]) (.ci 9)) (.ci 4)), .set (.var 10) (.call 87 [.var 0, .var 1, .var 4]), .expr (.bm .append (.var 7) [.tup [.var 9, .var 10, .call 87 [.var 0, .var 1, .var 4]]])]
theorem sX {P:Pg} (F:FG P) (n:Nat) (ns:List Int) (T:aa) (c:Nat) (hc:c<=9) (x2 x3 x5 x6:Option Val):∀(m:Nat) (lo z:Int) (sks:List Sk) (x8 x9 x10:Option Val),sks.length+m<=20->0<=z->z+3*m<2^59->
  ∃z' ys y8 y9 y10,forL (.var 8) (eB P (call P (n+2)) kF) [] (bu lo m) [some (bT ns),some (.ref 0),x2,x3,some (.int c),x5,x6,some (.ref (T.length+1)),x8,x9,x10,none,none,none] (.lst [.int z]::(T++[.lst (sks.map dI)]))
   = .next [some (bT ns),some (.ref 0),x2,x3,some (.int c),x5,x6,some (.ref (T.length+1)),y8,y9,y10,none,none,none] (.lst [.int z']::(T++[.lst ((sks++ys).map dI)]))/\ys.length=m/\(∀y∈ys,y.Ok/\y.hold.c<=(c:Int)/\y.deck.c<=(c:Int))/\z<=z'/\z'<=z+3*m
 |0,lo,z,sks,x8,x9,x10,_,_,_=>⟨z,[],x8,x9,x10,by simp[bu],rfl,by simp,by lia,by lia⟩
 |m+1,lo,z,sks,x8,x9,x10,hl,z0,z1=>by
  have q1:=bN F (n+1) ns z (T++[.lst (sks.map dI)]) z0 (by lia);let⟨p1,a1,a2,q2⟩:=u1 F n ns (z+1) (T++[.lst (sks.map dI)]) c hc (by lia) (by lia);let⟨p2,b1,b2,q3⟩:=u1 F n ns (z+1+1) (T++[.lst (sks.map dI)]) c hc (by lia) (by lia);let⟨z',ys,y8,y9,y10,e,h1,h2,h3,h4⟩:=sX F n ns T c hc x2 x3 x5 x6 m (lo+1) (z+1+1+1) (sks++[⟨bI ns (z+1) % 9-4,p1,p2⟩]) (some (.int lo)) (some (.int (bI ns (z+1) % 9-4))) (some (iW p1)) (by simp;lia) (by lia) (by lia);refine⟨z',⟨bI ns (z+1) % 9-4,p1,p2⟩::ys,y8,y9,y10, ?_,by simp[h1], ?_,by lia,by lia⟩
  ·unfold kF at e⊢
   have l:sks.length<10000:=by lia
   simp[bu,q1,q2,q3,cV,l];simp[dI] at e;exact e
  ·intro y hy
   rcases aap.mp hy with rfl|hy
   ·exact⟨⟨a1,b1⟩,a2,b2⟩
   ·exact h2 y hy
def bz (k:Nat) (bs:List By):List Val:=(bs.zipIdx k).map λp=> .tup false [.int p.1.arm, .ref p.2]
def cD (f:Sk->Val) (b:By):Ob:= .lst (b.sks.map f)
theorem pz (k:Nat) (bs:List By) (b:By):bz k (bs++[b])=bz k bs++[.tup false [.int b.arm, .ref (k+bs.length)]]:=by
 simp[bz,List.zipIdx_append]
@[simp]theorem JT (k:Nat) (bs:List By):(bz k bs).length=bs.length:=by simp[bz]
@[simp]theorem JM (k:Nat):bz k []=[]:=rfl
def nN:List S:=[.set (.var 7) (.lst []), .for (.var 8) (.rng1 (.bin .Add (.ci 1) (.bin .Mod (.call 84 [.var 0, .var 1]) (.var 3)))) kF, .expr (.bm .append (.var 5) [.tup [.bin .Sub (.bin .Mod (.call 84 [.var 0, .var 1]) (.ci 21)) (.ci 10), .var 7]])]
theorem qS {P:Pg} (F:FG P) (n:Nat) (ns:List Int) (s:aa) (c:Nat) (hc:c<=9) (k:Nat) (hk:0<k) (hk3:k<=3) (x2:Option Val):∀(m:Nat) (lo z:Int) (bs:List By) (x6 x7 x8 x9 x10:Option Val),bs.length+m<=20->0<=z->z+11*m<2^59->
  ∃z' cs y6 y7 y8 y9 y10,forL (.var 6) (eB P (call P (n+2)) nN) [] (bu lo m) [some (bT ns),some (.ref 0),x2,some (.int k),some (.int c),some (.ref (s.length+1)),x6,x7,x8,x9,x10,none,none,none] (.lst [.int z]::(s++ .lst (bz (s.length+2) bs)::bs.map (cD dI)))
   = .next [some (bT ns),some (.ref 0),x2,some (.int k),some (.int c),some (.ref (s.length+1)),y6,y7,y8,y9,y10,none,none,none] (.lst [.int z']::(s++ .lst (bz (s.length+2) (bs++cs))::(bs++cs).map (cD dI)))/\cs.length=m/\(∀b∈cs,b.Ok/\b.sks.length<=k/\∀y∈b.sks,y.hold.c<=(c:Int)/\y.deck.c<=(c:Int))/\z<=z'/\z'<=z+11*m
 |0,lo,z,bs,x6,x7,x8,x9,x10,_,_,_=>⟨z,[],x6,x7,x8,x9,x10,by simp[bu],rfl,by simp,by lia,by lia⟩
 |m+1,lo,z,bs,x6,x7,x8,x9,x10,hl,z0,z1=>by
  have q1:=bN F (n+1) ns z (s++ .lst (bz (s.length+2) bs)::bs.map (cD dI)++[.lst []]) z0 (by lia);have r1:=dA ns (z+1)
  have k0:(0:Int)<k:=by lia
  have k1:0<=bI ns (z+1) % (k:Int):=abJ _ (by lia);have k2:bI ns (z+1) % (k:Int)<k:=abl _ (by lia)
  have k3:0<=1+bI ns (z+1) % (k:Int):=by lia
  have k4:1+bI ns (z+1) % (k:Int)<16777216:=by lia
  let⟨z2,ys,y8,y9,y10,e2,h1,h2,h3,h4⟩:=sX F n ns (s++ .lst (bz (s.length+2) bs)::bs.map (cD dI)) c hc x2 (some (.int k)) (some (.ref (s.length+1))) (some (.int lo)) (1+bI ns (z+1) % (k:Int)).toNat 0 (z+1) [] x8 x9 x10 (by simp;lia) (by lia) (by lia);have q2:=bN F (n+1) ns z2 (s++ .lst (bz (s.length+2) bs)::bs.map (cD dI)++[.lst (ys.map dI)]) (by lia) (by lia);let⟨z',cs,w6,w7,w8,w9,w10,e,g1,g2,g3,g4⟩:=qS F n ns s c hc k hk hk3 x2 m (lo+1) (z2+1) (bs++[⟨bI ns (z2+1) % 21-10,ys⟩]) (some (.int lo)) (some (.ref (s.length+(bs.length+1)+1))) y8 y9 y10 (by simp;lia) (by lia) (by lia);refine⟨z',⟨bI ns (z2+1) % 21-10,ys⟩::cs,w6,w7,w8,w9,w10, ?_,by simp[g1], ?_,by lia,by lia⟩
  ·unfold nN at e⊢
   have l:bs.length<10000:=by lia
   simp at q1 q2 e2;simp[bu,q1,k0,hk,k3,k4,new,e2,q2,cV,l];rw[pz,show s.length+2+bs.length=s.length+(bs.length+1)+1 by lia] at e;simp[cD] at e;simp[cD];exact e
  ·intro y hy
   rcases aap.mp hy with rfl|hy
   ·refine⟨⟨?_,by simp only[h1];lia,λy hy=>(h2 y hy).1⟩,by simp only[h1];lia,λy hy=>(h2 y hy).2⟩;intro e;simp only at e;rw[e] at h1;simp at h1;lia
   ·exact g2 y hy
theorem uH (st:aa) (p:Pt):gM st (iW p) p:=⟨false,_,rfl, .inl rfl⟩
theorem D3 (st:aa) (y:Sk):eW st (dI y) y:=⟨false,_,_,rfl,uH st _,uH st _⟩
theorem qK (st:aa) (f:Sk->Val) (hf:∀y,eW st (f y) y):∀(bs:List By) (k:Nat),(∀(j:Nat) (b:By),bs[j]?=some b->st[k+j]?=some (cD f b))->aQ (eC st) (bz k bs) bs
 |[],_,_=>trivial
 |b::bs,k,h=>by
  refine⟨⟨false, .ref k,b.sks.map f,rfl, .inl ?_, ?_⟩, ?_⟩
  ·have:=h 0 b rfl;simp at this⊢;rw[this];simp[cD]
  ·have:=aQ.map (R:=eW st) f id hf b.sks;simpa using this
  ·have:=qK st f hf bs (k+1) λj c hc=>by
    have:=h (j+1) c hc;rwa[show k+(j+1)=k+1+j by lia] at this
   exact this
noncomputable def wF {α:Type} (a b c:α) (i:Int):α:=if i=0 then a else if i=1 then b else c
theorem zT (a b c:Str) (i:Int) (st:aa) (h0:0<=i) (h1:i<3):eS (.lst [.str a, .str b, .str c]) (.int i) st= .ok (.str (wF a b c i)) st:=by
 have:i=0∨i=1∨i=2:=by lia
 rcases this with rfl|rfl|rfl<;>simp[wF]
theorem z6 {α:Type} (xs:List α) (v:Int) (h:0<=v):cut xs none (some v)=xs.take v.toNat:=by
 have:¬v<0:=by lia
 simp[cut,bY,this]
def dR (i:Int):Str:=wF (α:=Str) "dry" "wet" "hot" i
theorem tL {P:Pg} (F:FG P) (n:Nat) (ns:List Int) (s:aa) (z:Int) (a k c:Nat) (ha:0<a) (ha3:a<=3) (hk:0<k) (hk3:k<=3) (hc:c<=9) (z0:0<=z) (z1:z<2^58):
  ∃(sh:Sh) (z':Int),sh.Ok/\sh.bays.length<=a/\(∀b∈sh.bays,b.sks.length<=k/\∀y∈b.sks,y.hold.c<=(c:Int)/\y.deck.c<=(c:Int))/\sh.foes.length<=2/\z<=z'/\z'<=z+40/\call P (n+7) 88 [bT ns, .ref 0, .int a, .int k, .int c] (.lst [.int z]::s)= .ok (aR sh) (.lst [.int z']::s):=by
 rw[aj F.f88 _ _ _ rfl];unfold EF;have q1:=bN F (n+5) ns z (s++[.lst []]) z0 (by lia)
 have k0:(0:Int)<a:=by lia
 have k1:0<=bI ns (z+1) % (a:Int):=abJ _ (by lia);have k2:bI ns (z+1) % (a:Int)<a:=abl _ (by lia)
 have k3:0<=1+bI ns (z+1) % (a:Int):=by lia
 have k4:1+bI ns (z+1) % (a:Int)<16777216:=by lia
 let⟨z2,cs,w6,w7,w8,w9,w10,e,g1,g2,g3,g4⟩:=qS F (n+4) ns s c hc k hk hk3 (some (.int a)) (1+bI ns (z+1) % (a:Int)).toNat 0 (z+1) [] none none none none none (by simp;lia) (by lia) (by lia);have q2:=bN F (n+5) ns z2 (s++ .lst (bz (s.length+2) cs)::cs.map (cD dI)) (by lia) (by lia);have r2:=dA ns (z2+1);generalize bI ns (z2+1)=m at q2 r2
 have i1:0<=m % 3:=by lia
 have i2:m % 3<3:=by lia
 have i3:0<=m/3 % 3:=by lia
 have i4:m/3 % 3<3:=by lia
 have i5:0<=m/9 % 3:=by lia
 have i6:m/9 % 3<3:=by lia
 have i7:0<=m/27 % 3:=by lia
 have t1:∀st,eS (.lst [.str "dry", .str "wet", .str "hot"]) (.int (m % 3)) st= .ok (.str (dR (m % 3))) st:=λst=>zT _ _ _ (m % 3) st i1 i2;have t2:∀st,eS (.lst [.str "dry", .str "wet", .str "hot"]) (.int (m/3 % 3)) st= .ok (.str (dR (m/3 % 3))) st:=λst=>zT _ _ _ _ st i3 i4;have t3:∀st,eS (.lst [.str "dry", .str "wet", .str "hot"]) (.int (m/9 % 3)) st= .ok (.str (dR (m/9 % 3))) st:=λst=>zT _ _ _ _ st i5 i6;obtain⟨sh,hsh⟩:∃sh:Sh,sh=⟨cs,[(dR (m % 3),dR (m/3 % 3)),(dR (m/9 % 3),"oil")].take (m/27 % 3).toNat,m/81 % 200,m/16200 % 100⟩:=⟨_,rfl⟩
 have e1:sh.trim=m/81 % 200:=by rw[hsh]
 have e2:sh.heel=m/16200 % 100:=by rw[hsh]
 have e3:sh.bays=cs:=by rw[hsh]
 have e4:sh.foes=[(dR (m % 3),dR (m/3 % 3)),(dR (m/9 % 3),"oil")].take (m/27 % 3).toNat:=by rw[hsh]
 have hlen:cs.length<=a:=by lia
 have hfl:sh.foes.length<=2:=by rw[e4];simp;lia
 have ah:sh.Ok:=by
  refine⟨?_,by rw[e3];lia,by lia,λb hb=>(g2 b (by rwa[e3] at hb)).1,by rw[e1];lia,by rw[e2];lia⟩;rw[e3];intro e;rw[e] at g1;simp at g1;lia
 refine⟨sh,z2+1,ah,by rw[e3];exact hlen,λb hb=>(g2 b (by rwa[e3] at hb)).2,hfl,by lia,by lia, ?_⟩
 have hf:([Val.tup false [.str (dR (m % 3)), .str (dR (m/3 % 3))], .tup false [.str (dR (m/9 % 3)), .str "oil"]].take (m/27 % 3).toNat)=sh.foes.map cY:=by
  rw[e4,List.map_take];rfl
 obtain⟨S,hS⟩:∃S:aa,S= .lst [.int (z2+1)]::(s++ .lst (bz (s.length+2) cs)::(cs.map (cD dI)++[.lst [.str "dry", .str "wet", .str "hot"], .lst [Val.tup false [.str (dR (m % 3)), .str (dR (m/3 % 3))], .tup false [.str (dR (m/9 % 3)), .str "oil"]], .lst (sh.foes.map cY)])):=⟨_,rfl⟩
 have hraw:aQ (eC S) (bz (s.length+2) cs) sh.bays:=by
  rw[e3];refine qK _ dI (D3 _) cs _ λj b hj=> ?_;rw[hS,show s.length+2+j=s.length+(j+1)+1 by lia];simp;rw[aar (by simpa using (aac.mp hj).1)];simp[hj]
 have hship:=oq F.toFShip n sh S (.ref (s.length+1)) (.ref (s.length+(cs.length+2+1)+1)) (bz (s.length+2) cs) (.inl (by simp[hS])) hraw (by simp[hS]) ah;rw[hS] at hship;simp at e;simp[q1,k0,ha,k3,k4,new];unfold nN kF at e;rw[e];simp[q2,new,-ow,t1,t2,t3,z6,i7,hf];rw[e1,e2] at hship;rw[hship];simp;exact md P z (z2+1) s _ _ (by simp)
noncomputable abbrev wL:Str:=Str.ofString "abcdefghijklmnopqrstuvwxyz"
theorem De:wL.cps.toList=(List.range 26).map (97+ ·):=by decide+kernel
theorem uU:wL.length=26:=by decide+kernel
noncomputable def iM (i:Int):Str:=⟨#[97+i.toNat]⟩
@[simp]theorem MV (i:Int):(iM i).length=1:=rfl
theorem ky (i:Int) (st:aa) (h0:0<=i) (h1:i<26):eS (.str wL) (.int i) st= .ok (.str (iM i)) st:=by
 rw[kg,bL (by rw[uU];lia),uU,De]
 have l:i.toNat<26:=by lia
 have h1':i<((26:Nat):Int):=by lia
 simp[h0,h1,l,iM]
noncomputable def gJ (i:Int):Int:=2*i+1
theorem AV (i:Int) (st:aa) (h0:0<=i) (h1:i<6):eS (.lst [.int 1, .int 3, .int 5, .int 7, .int 9, .int 11]) (.int i) st= .ok (.int (gJ i)) st:=by
 have:i=0∨i=1∨i=2∨i=3∨i=4∨i=5:=by lia
 rcases this with rfl|rfl|rfl|rfl|rfl|rfl<;>simp[gJ]
def dO (m:Int):Str:=iM (m/6 % 26)++iM (m/156 % 26)
@[simp]theorem Me (m:Int):(dO m).length=2:=rfl
def Hs (m k:Int):Str:=(⟨(cut (dO m).cps.toList none (some (m/4056 % 3))).toArray⟩++iM ((m/156+k*gJ (m % 6)) % 26))++⟨(cut (dO m).cps.toList (some (m/4056 % 3)) none).toArray⟩
def nm (m many k:Int):Str:=if (m/12168 % 4==0&&decide (many<13))=true then jN (iM (m/6 % 26)) (k+1).toNat else Hs m k
theorem ud {α:Type} (xs:List α) (lo hi:Option Int):(cut xs lo hi).length<=xs.length:=by
 unfold cut;rw[aa8,acz];lia
theorem str_len (l:List Nat):(⟨l.toArray⟩:Str).length=l.length:=by simp[Str.length]
theorem CG (a b:Str):(a++b).length=a.length+b.length:=by
 show (a.cps++b.cps).size=_;simp[Str.length]
noncomputable def lP:List S:=[.set (.var 10) (.idx (.var 3) (.bin .Mod (.bin .Add (.bin .FloorDiv (.var 4) (.ci 156)) (.bin .Mult (.var 9) (.var 6))) (.ci 26))), .ife (.and (.cmp .Eq (.bin .Mod (.bin .FloorDiv (.var 4) (.ci 12168)) (.ci 4)) (.ci 0)) (.cmp .Lt (.var 2) (.ci 13))) [.expr (.bm .append (.var 8) [.bin .Mult (.idx (.var 3) (.bin .Mod (.bin .FloorDiv (.var 4) (.ci 6)) (.ci 26))) (.bin .Add (.var 9) (.ci 1))])] [.expr (.bm .append (.var 8) [.bin .Add (.bin .Add (.slc (.var 5) none (some (.var 7))) (.var 10)) (.slc (.var 5) (some (.var 7)) none)])]]
theorem pP {P:Pg} (cl:au) (m many:Int) (T:aa) (o:Ob) (x0 x1:Option Val):∀(c:Nat) (lo:Nat) (acc:List Val) (x9 x10:Option Val),acc.length+c<=100->lo+c<=100->
  ∃y9 y10,forL (.var 9) (eB P cl lP) [] (bu lo c) [x0,x1,some (.int many),some (.str wL),some (.int m),some (.str (dO m)),some (.int (gJ (m % 6))),some (.int (m/4056 % 3)),some (.ref (T.length+1)),x9,x10] (o::(T++[.lst acc]))
   = .next [x0,x1,some (.int many),some (.str wL),some (.int m),some (.str (dO m)),some (.int (gJ (m % 6))),some (.int (m/4056 % 3)),some (.ref (T.length+1)),y9,y10] (o::(T++[.lst (acc++(bG lo c).map λk=> .str (nm m many k))]))
 |0,lo,acc,x9,x10,_,_=>⟨x9,x10,by simp[bu,bG]⟩
 |c+1,lo,acc,x9,x10,hl,hc=>by
  let⟨y9,y10,e⟩:=pP cl m many T o x0 x1 c (lo+1) (acc++[.str (nm m many lo)]) (some (.int lo)) (some (.str (iM ((m/156+lo*gJ (m % 6)) % 26)))) (by simp;lia) (by lia);refine⟨y9,y10, ?_⟩;have t1:=λst=>ky ((m/156+lo*gJ (m % 6)) % 26) st (by lia) (by lia);have t2:=λst=>ky (m/6 % 26) st (by lia) (by lia)
  have l:acc.length<10000:=by lia
  have hi:(gJ (m % 6)).natAbs<2^64:=by unfold gJ;lia
  have h3:(0:Int)<=(lo:Int)+1:=by lia
  have h4:(lo:Int)+1<=1000:=by lia
  have c1:=ud (dO m).cps.toList none (some (m/4056 % 3));have c2:=ud (dO m).cps.toList (some (m/4056 % 3)) none;have sl:(dO m).cps.toList.length=2:=rfl;rw[sl] at c1 c2
  have d1:(cut (dO m).cps.toList none (some (m/4056 % 3))).length+1<=100000:=by lia
  have d2:(cut (dO m).cps.toList none (some (m/4056 % 3))).length+1+(cut (dO m).cps.toList (some (m/4056 % 3)) none).length<=100000:=by lia
  unfold lP at e⊢;simp[bu,bG] at e⊢;simp[-kg,t1,hi]
  cases hb:(m/12168 % 4==0&&decide (many<13)) with
  |true=>
   simp[-kg,t2,h3,h4,cV,l];simp[nm,hb] at e⊢;exact e
  |false=>
   simp[cV,l,str_len,CG,d1,d2];simp[nm,hb,Hs] at e⊢;exact e
theorem AQ {b t k j:Int} (i:Int) (ht:t=gJ i) (hi:0<=i/\i<6) (hk:0<=k/\k<26) (hj:0<=j/\j<26) (e:(b+k*t) % 26=(b+j*t) % 26):k=j:=by
 have:i=0∨i=1∨i=2∨i=3∨i=4∨i=5:=by lia
 rcases this with rfl|rfl|rfl|rfl|rfl|rfl<;>simp[gJ] at ht<;>subst ht<;>lia
theorem uF (z:Str) (h:z.length=1) (n:Nat):(jN z n).length=n:=by
 unfold jN;rw[str_len];simp;have:z.cps.size=1:=h;simp[this]
theorem Dp {i j:Int} (hi:0<=i) (hj:0<=j) (h:iM i=iM j):i=j:=by
 have:=congrArg (λx:Str=>x.cps.toList) h;simp[iM] at this;lia
theorem CS {a b x y:Str} (h:(a++x)++b=(a++y)++b):x=y:=by
 have:=congrArg (λx:Str=>x.cps.toList) h
 have h1:(a.cps.toList++x.cps.toList)++b.cps.toList=(a.cps.toList++y.cps.toList)++b.cps.toList:=by
  have e:∀u v:Str,(u++v).cps.toList=u.cps.toList++v.cps.toList:=λu v=>by
   show (u.cps++v.cps).toList=_;simp
  simp only[e] at this;exact this
 have h2:=List.append_cancel_left (List.append_cancel_right h1);cases x;cases y;simp at h2;rw[h2]
theorem F9 {m many k j:Int} (hk:0<=k/\k<26) (hj:0<=j/\j<26) (h:nm m many k=nm m many j):k=j:=by
 unfold nm at h;split at h
 ·have:=congrArg Str.length h;rw[uF _ rfl,uF _ rfl] at this;lia
 ·unfold Hs at h;have:=Dp (by lia) (by lia) (CS h);exact AQ (m % 6) rfl (by lia) hk hj this
theorem mR {α:Type} (f:Int->α):∀(n:Nat) (lo:Int),(∀i j,lo<=i->i<lo+n->lo<=j->j<lo+n->f i=f j->i=j)->((bG lo n).map f).Nodup
 |0,_,_=>by simp[bG]
 |n+1,lo,h=>by
  simp only[bG,aay,abt];refine⟨λhm=> ?_,mR f n (lo+1) λi j a b c d=>h i j (by lia) (by lia) (by lia) (by lia)⟩;let⟨x,hx,e⟩:=aaT.mp hm;have:=iQ.mp hx;have:=h x lo (by lia) (by lia) (by lia) (by lia) e;lia
theorem rM {P:Pg} (F:FG P) (n:Nat) (ns:List Int) (z:Int) (s:aa) (c:Nat) (hc:c<=26) (z0:0<=z) (z1:z<2^60):
  ∃N:List Str,N.length=c/\N.Nodup/\call P (n+2) 86 [bT ns, .ref 0, .int c] (.lst [.int z]::s)= .ok (.ref (s.length+1)) (.lst [.int (z+1)]::(s++[.lst (N.map .str)])):=by
 rw[aj F.f86 _ _ _ rfl];unfold GB;have q1:=bN F n ns z s z0 z1;have hr:=dA ns (z+1);generalize bI ns (z+1)=m at q1 hr;refine⟨(bG 0 c).map λk=>nm m c k,by simp,mR _ _ _ λi j a b c d e=>F9 (by lia) (by lia) e, ?_⟩;let⟨y9,y10,e⟩:=pP (P:=P) (call P (n+1)) m c (s++[.lst [.int 1, .int 3, .int 5, .int 7, .int 9, .int 11]]) (.lst [.int (z+1)]) (some (bT ns)) (some (.ref 0)) c 0 [] none none (by simp;lia) (by lia);have t1:=λst=>ky (m/6 % 26) st (by lia) (by lia);have t2:=λst=>ky (m/156 % 26) st (by lia) (by lia);have t3:=λst=>AV (m % 6) st (by lia) (by lia)
 have h1:(c:Int)<16777216:=by lia
 unfold lP at e;simp at e;simp[-kg,-ow,q1,t1,t2,new,t3,h1];rw[show iM (m/6 % 26)++iM (m/156 % 26)=dO m from rfl,e];simp;refine(iE P z (z+1) s _ 1 _ _ rfl (cN _ _ _ _ (aX _ _ λa=>by simp))).trans ?_;rfl
open Classical in
theorem gU {α β:Type} {f:Val->aa->R (Option Val)} {chk:List (Nat×Ob)} {T:aa} {gV:α->Val} {hV:β->Val} {R:α->β->Prop} {d B:Int} (hd:0<=d) (hk:∀z,Kept chk (.lst [.int z]::T)) (hf:∀a z,0<=z->z<B->∃b,R a b/\f (gV a) (.lst [.int z]::T)= .ok (some (hV b)) (.lst [.int (z+d)]::T)):
  ∀(as:List α) (z:Int),0<=z->z+d*as.length<B->∃bs,aQ R as bs/\aB f chk (as.map gV) (.lst [.int z]::T)= .ok (bs.map hV) (.lst [.int (z+d*as.length)]::T)
 |[],z,_,_=>⟨[],trivial,by simp;exact bL (hk z)⟩
 |a::as,z,z0,hz=>by
  have hn:0<=d*(as.length:Int):=Int.mul_nonneg hd (by lia)
  have e:d*((a::as).length:Int)=d+d*as.length:=by
   simp[Int.mul_add];lia
  rw[e] at hz⊢;let⟨b,r,q⟩:=hf a z z0 (by lia);let⟨bs,r2,q2⟩:=gU hd hk hf as (z+d) (by lia) (by lia);refine⟨b::bs,⟨r,r2⟩, ?_⟩;show iff (Kept chk _) ((f (gV a) _).bind λo st=>(aB f chk (as.map gV) st).bind λr st=> .ok (fb o r) st)=_;rw[bL (hk z),q];show (aB f chk (as.map gV) (.lst [.int (z+d)]::T)).bind _=_;rw[q2];simp[Int.add_assoc]
def Bx.Ok (b:Bx):Prop:=(0<=b.w/\fg b.w)/\0<=b.h/\(b.cold=0∨b.cold=1)/\0<=b.port
theorem ng {i:Int} (h:i.natAbs<10^60):fg i:=Nat.lt_trans h (by decide)
noncomputable def vO (i:Int):Str:=if i=0 then "dry" else if i=1 then "wet" else if i=2 then "hot" else "oil"
theorem L7 (i:Int) (st:aa) (h0:0<=i) (h1:i<4):eS (.lst [.str "dry", .str "wet", .str "hot", .str "oil"]) (.int i) st= .ok (.str (vO i)) st:=by
 have:i=0∨i=1∨i=2∨i=3:=by lia
 rcases this with rfl|rfl|rfl|rfl<;>simp[vO]
theorem Gi {P:Pg} (F:FG P) (n:Nat) (ns:List Int) (z:Int) (s:aa) (x:Str) (z0:0<=z) (z1:z<2^60):
  ∃b:Bx,(b.name=x/\b.Ok)/\call P (n+2) 89 [bT ns, .ref 0, .str x] (.lst [.int z]::s)= .ok (aW b) (.lst [.int (z+1)]::s):=by
 rw[aj F.f89 _ _ _ rfl];unfold Gr;have q1:=bN F n ns z s z0 z1;have hr:=dA ns (z+1);generalize bI ns (z+1)=m at q1 hr;have t:=λst=>L7 (m % 4) st (by lia) (by lia);refine⟨⟨x,m/4 % 12,m/48 % 9,if (m/432 % 4==0)=true then 1 else 0,vO (m % 4),m/1728 % 5⟩,⟨rfl,⟨by show 0<=m/4 % 12;lia,ng (by show (m/4 % 12).natAbs<_;lia)⟩,by show 0<=m/48 % 9;lia, ?_,by show 0<=m/1728 % 5;lia⟩, ?_⟩
 ·simp only;split<;>simp
 ·simp[-ow,q1,t,new];exact md P z (z+1) s [.lst _] (aW ⟨x,m/4 % 12,m/48 % 9,_,vO (m % 4),m/1728 % 5⟩) (by simp)
theorem vR {N:List Str} {Bs:List Bx} {f:Bx->Prop} (h:aQ (λx b=>b.name=x/\f b) N Bs):Bs.map (·.name)=N/\∀b∈Bs,f b:=by
 induction Bs generalizing N with
 |nil=>cases N with
  |nil=>simp
  |cons _ _=>exact h.elim
 |cons b Bs ih=>cases N with
  |nil=>exact h.elim
  |cons x N=>
   let⟨h1,h2⟩:=ih h.2;refine⟨by simp[h.1.1];simpa using h1,λc hc=> ?_⟩
   rcases aap.mp hc with rfl|hc
   ·exact h.1.2
   ·exact h2 c hc
theorem Ad {P:Pg} (F:FG P) (n:Nat) (ns:List Int) (z:Int) (s:aa) (c:Nat) (hc:c<=26) (z0:0<=z) (z1:z<2^59):
  ∃(Bs:List Bx) (z':Int),Bs.length=c/\(Bs.map (·.name)).Nodup/\(∀b∈Bs,b.Ok)/\z<=z'/\z'<=z+40/\call P (n+3) 90 [bT ns, .ref 0, .int c] (.lst [.int z]::s)= .ok (.ref (s.length+1)) (.lst [.int z']::(s++[.lst (Bs.map aW)])):=by
 rw[aj F.f90 _ _ _ rfl];unfold G9;let⟨N,h1,h2,q1⟩:=rM F n ns z s c hc z0 (by lia)
 let⟨Bs,r,q2⟩:=gU (f:=Tn P (call P (n+2)) 1 [1,0] (.var 0) none (.call 89 [.var 2, .var 1, .var 0]) [some (bT ns),some (.ref 0),some (.int c)]) (chk:=[(s.length+1, .lst (N.map .str))]) (T:=s++[.lst (N.map .str)]) (gV:=Val.str) (hV:=aW) (R:=λx b=>b.name=x/\b.Ok) (d:=1) (B:=2^60) (by lia) (λz p hp=>by
   simp at hp;subst hp
   simp) (λx z z0 z1=>by
   let⟨b,hb,q⟩:=Gi F n ns z (s++[.lst (N.map .str)]) x z0 z1
   exact⟨b,hb,by simp[Tn,aO,av,q]⟩) N (z+1) (by lia) (by lia)
 let⟨a1,a2⟩:=vR r
 have hl:Bs.length=c:=by rw[←h1,←a1];simp
 have hN:N.length<=10000:=by lia
 refine⟨Bs,z+1+1*N.length,hl,by rw[a1];exact h2,a2,by lia,by lia, ?_⟩;simp[q1,q2,hN,T.low,new];refine(iE P z _ s [.lst (N.map .str), .lst (Bs.map aW)] 1 _ _ rfl (cN _ _ _ _ (aX _ _ λa=>by simp))).trans ?_;rfl
theorem Ec (P:Pg) (z z':Int) (s:aa) (k:Nat) (hk:k<s.length+1):fin P (.lst [.int z]::s) (.ref k) (.lst [.int z']::s)= .ok (.ref k) (.lst [.int z']::s):=by
 have h:=mO z z' s [];simp at h;unfold fin;rw[if_pos h];simp[hk]
theorem Bp {P:Pg} (F:FG P) (n:Nat) (ns:List Int) (z:Int) (s:aa) (k:Nat) (Bs:List Bx) (hk:s[k]?=some (.lst (Bs.map aW))) (hl:Bs.length<=26) (ok:∀b∈Bs,b.Ok) (z0:0<=z) (z1:z<2^59):
  ∃(k':Nat) (z':Int) (g:aa) (Cs:List Bx),(s++g)[k']?=some (.lst (Cs.map aW))/\Cs.map (·.name)=Bs.map (·.name)/\(∀b∈Cs,b.Ok)/\z<=z'/\z'<=z+40/\call P (n+3) 97 [bT ns, .ref 0, .ref (k+1)] (.lst [.int z]::s)= .ok (.ref (k'+1)) (.lst [.int z']::(s++g)):=by
 rw[aj F.f97 _ _ _ rfl];unfold FQ;have q1:=bN F (n+1) ns z s z0 (by lia);have hk1:k<s.length:=(aac.mp hk).1;simp[q1]
 cases hb:(bI ns (z+1) % 2==0) with
 |true=>
  simp;refine⟨k,z+1,[],Bs,by simpa using hk,rfl,ok,by lia,by lia, ?_⟩;rw[Ec P z (z+1) s (k+1) (by lia)];simp
 |false=>
  let⟨Cs,r,q2⟩:=gU (f:=Tn P (call P (n+2)) 1 [1,0] (.var 0) none (.bin .Add (.tup [.idx (.var 0) (.ci 0), .bin .Mod (.call 85 [.var 2, .var 1, .ci 9]) (.bin .Pow (.ci 10) (.ci 30))]) (.slc (.var 0) (some (.ci 2)) none)) [some (bT ns),some (.ref 0),some (.ref (k+1))]) (chk:=[(k+1, .lst (Bs.map aW))]) (T:=s) (gV:=aW) (hV:=aW) (R:=λb c=>c.name=b.name/\(b.Ok->c.Ok)) (d:=1) (B:=2^60) (by lia) (λz p hp=>by
   simp at hp;subst hp
   simp[hk]) (λb z z0 z1=>by
   let⟨v,v0,v1,q⟩:=tm F n ns z s 9 (by lia) (by lia) z0 z1;refine⟨⟨b.name,v % 10^30,b.h,b.cold,b.sort,b.port⟩,⟨rfl,λh=>⟨⟨by show 0<=v % 10^30;lia,ng (by show (v % 10^30).natAbs<_;lia)⟩,h.2⟩⟩, ?_⟩
   simp[Tn,aO,av,q,aW,qz,cut,bY]) Bs (z+1) (by lia) (by lia)
  have hn:Cs.map (·.name)=Bs.map (·.name)/\((∀b∈Bs,b.Ok)->∀c∈Cs,c.Ok):=by
   clear q2 hk hl ok
   induction Bs generalizing Cs with
   |nil=>cases Cs with
    |nil=>simp
    |cons _ _=>exact r.elim
   |cons b Bs ih=>cases Cs with
    |nil=>exact r.elim
    |cons c Cs=>
     let⟨h1,h2⟩:=ih Cs r.2;refine⟨by simp[r.1.1,h1],λh d hd=> ?_⟩
     rcases aap.mp hd with rfl|hd
     ·exact r.1.2 (h b (by simp))
     ·exact h2 (λe he=>h e (by simp[he])) d hd
  have hB:Bs.length<=10000:=by lia
  refine⟨s.length,z+1+1*Bs.length,[.lst (Cs.map aW)],Cs,by simp,hn.1,hn.2 ok,by lia,by lia, ?_⟩;simp[hk,q2,hB,T.low,new];refine(iE P z _ s [.lst (Cs.map aW)] 0 _ _ rfl (cN _ _ _ _ (aX _ _ λa=>by simp))).trans ?_;rfl
abbrev Pn:=Int×Int×Int
theorem nt:KOk ax where
 key a:=by simp[ax,dv,wz]
 eq a b:=by
  let⟨a1,a2,a3⟩:=a;let⟨b1,b2,b3⟩:=b;simp[ax];rw[aaS];simp
 kt a b:=by simp[ax,kT]
noncomputable def cb (D:List (Pn×Int)) (a:Pn):Int:=((D.find? λp=>p.1=a).map (·.2)).getD 0
noncomputable def dput (D:List (Pn×Int)) (a:Pn) (x:Int):List (Pn×Int):=if a∈D.map (λp=>p.1) then D.map (λp=>if p.1=a then (p.1,x) else p) else D++[(a,x)]
theorem t6 (a:Pn) (x:Int):∀D:List (Pn×Int),lV (ax a) (.int x) (D.map λp=>ax p.1) (D.map λp=> .int p.2)=(D.map (λp=>if p.1=a then (p.1,x) else p)).map λp=> .int p.2
 |[]=>by simp[lV]
 |p::D=>by
  simp only[aay,lV];rw[t6 a x D,nt.eq]
  by_cases h:p.1=a<;>simp[h]
theorem DX (a:Pn) (x:Int) (D:List (Pn×Int)):putD (ax a) (.int x) (D.map λp=>ax p.1) (D.map λp=> .int p.2)=some ((dput D a x).map (λp=>ax p.1),(dput D a x).map λp=> .int p.2):=by
 have e:(D.map λp=>ax p.1)=(D.map λp=>p.1).map ax:=by simp
 unfold putD;rw[t6,e,nM nt,←e];unfold dput
 by_cases h:a∈D.map (λp=>p.1)
 ·simp only[h,decide_true,abQ,ach];congr 2;simp;intro a1 a2 a3 v _;split<;>simp[*]
 ·simp only[h,decide_false,abi,ach];simp
theorem js (D:List (Pn×Int)) (a b:Pn) (x:Int):cb (dput D a x) b=if b=a then x else cb D b:=by
 unfold dput;split
 ·rename_i h
  induction D with
  |nil=>simp at h
  |cons p D ih=>
   unfold cb at ih⊢
   by_cases hp:p.1=a
   ·by_cases hb:b=a
    ·simp[hp,hb]
    ·have hb':¬p.1=b:=λe=>hb (by rw[←e,hp]);have hb'':¬a=b:=λe=>hb e.symm;simp only[aay,hp,abQ];rw[ab3 (by simp[hb'']),ab3 (by simp[hp,hb''])]
     by_cases hm:a∈D.map (λp=>p.1)
     ·exact ih hm
     ·have e:D.map (λp=>if p.1=a then (p.1,x) else p)=D:=by
       conv=>rhs;rw[←List.map_id D]
       refine List.map_congr_left λq hq=> ?_;rw[if_neg (λ(e:q.1=a)=>hm (aaT.mpr ⟨q,hq,e⟩))];rfl
      rw[e,if_neg hb]
   ·have hm:a∈D.map (λp=>p.1):=by
     rcases aap.mp h with e|e
     ·exact absurd e.symm hp
     ·exact e
    simp only[aay,hp,abi]
    by_cases hb:p.1=b
    ·have:¬b=a:=λe=>hp (hb.trans e);rw[List.find?_cons_of_pos (by simp[hb]),List.find?_cons_of_pos (by simp[hb]),if_neg this]
    ·rw[ab3 (by simp[hb]),ab3 (by simp[hb])];exact ih hm
 ·rename_i h;unfold cb;rw[List.find?_append]
  by_cases hb:b=a
  ·subst hb
   have:D.find? (λp=>p.1=b)=none:=by
    rw[List.find?_eq_none];intro p hp e;exact h (aaT.mpr ⟨p,hp,by simpa using e⟩)
   rw[this];simp
  ·have:¬a=b:=λe=>hb e.symm;simp[this,hb]
theorem Bt (D:List (Pn×Int)) (a:Pn) (x:Int):(dput D a x).length<=D.length+1:=by
 unfold dput;split<;>simp
structure Pl (sh:Sh) (done:List Bx) (D:List (Pn×Int)) (L:List (Cell×Bx)):Prop where
 len:D.length<=done.length
 top:∀p,0<=cb D p
 inn:∀q∈L,(∃y,sh.sk? q.1.b q.1.k=some y/\(q.1.d=0∨q.1.d=1)/\0<=q.1.t/\q.1.t<(y.pt q.1.d).c)/\q.1.t<cb D (q.1.b,q.1.k,q.1.d)
 all:∀p:Pn,∀t:Int,0<=t->t<cb D p->∃q∈L,q.1=⟨p.1,p.2.1,p.2.2,t⟩
 nod:(L.map λq=>q.1).Nodup
 sub:(L.map λq=>q.2).Sublist done
theorem Pl.nil (sh:Sh):Pl sh [] [] []:=⟨by simp,by simp[cb],by simp,λp t h0 h1=>by simp[cb] at h1;lia,by simp,by simp⟩
theorem Pl.skip {sh:Sh} {done:List Bx} {D:List (Pn×Int)} {L:List (Cell×Bx)} (h:Pl sh done D L) (b:Bx):Pl sh (done++[b]) D L:=⟨by have:=h.len;simp;lia,h.top,h.inn,h.all,h.nod,h.sub.trans (List.sublist_append_left _ _)⟩
theorem Pl.put {sh:Sh} {done:List Bx} {D:List (Pn×Int)} {L:List (Cell×Bx)} (h:Pl sh done D L) (b:Bx) (p:Pn) (y:Sk) (hy:sh.sk? p.1 p.2.1=some y) (hd:p.2.2=0∨p.2.2=1) (ht:cb D p<(y.pt p.2.2).c):
  Pl sh (done++[b]) (dput D p (cb D p+1)) (L++[(⟨p.1,p.2.1,p.2.2,cb D p⟩,b)]):=by
 have h0:=h.top p;refine⟨?_,λq=> ?_,λq hq=> ?_,λq t t0 t1=> ?_, ?_, ?_⟩
 ·have:=h.len;have:=Bt D p (cb D p+1);simp;lia
 ·rw[js];split
  ·lia
  ·exact h.top q
 ·rcases aaz.mp hq with hq|hq
  ·let⟨h1,h2⟩:=h.inn q hq;refine⟨h1, ?_⟩;rw[js];split
   ·rename_i e;rw[e] at h2;lia
   ·exact h2
  ·simp at hq;subst hq;refine⟨⟨y,hy,hd,h0,ht⟩, ?_⟩;rw[js];simp;lia
 ·rw[js] at t1;split at t1
  ·rename_i e;subst e
   by_cases e:t=cb D q
   ·subst e;exact⟨_,aaz.mpr (.inr (by simp;rfl)),rfl⟩
   ·let⟨r,hr,e2⟩:=h.all q t t0 (by lia);exact⟨r,aaz.mpr (.inl hr),e2⟩
  ·let⟨r,hr,e2⟩:=h.all q t t0 t1;exact⟨r,aaz.mpr (.inl hr),e2⟩
 ·rw[abd,abM];refine⟨h.nod,by simp,λc hc e he=> ?_⟩;simp at he;subst he;let⟨q,hq,e⟩:=aaT.mp hc;intro e2;rw[e2] at e;have:=(h.inn q hq).2;rw[e] at this;simp at this
 ·rw[abd];exact List.Sublist.append h.sub (by simp)
theorem Pl.ld {sh:Sh} {done:List Bx} {D:List (Pn×Int)} {L:List (Cell×Bx)} (h:Pl sh done D L) (hl:done.length<64) (hn:(done.map (·.name)).Nodup):cT sh L:=by
 refine⟨?_,h.nod, ?_,λq hq=>(h.inn q hq).1,λq hq=> ?_⟩
 ·have:=h.sub.length_le;simp at this;lia
 ·have:=(h.sub.map (·.name)).nodup hn;rw[aa6] at this;exact this
 ·let⟨⟨y,h1,h2,h3,h4⟩,h5⟩:=h.inn q hq
  by_cases e:q.1.t=0
  ·exact .inl e
  ·exact .inr (h.all (q.1.b,q.1.k,q.1.d) (q.1.t-1) (by lia) (by lia))
noncomputable def Nk (t:T) (body:Env->aa->F) (chk:List (Nat×Ob)) (vs:List Val) (env:Env) (st:aa):F:=forL t body chk vs env st
open Classical in
theorem j7 {t:T} {body:Env->aa->F} {chk:List (Nat×Ob)} {v:Val} {env:Env} {st:aa} (hk:Kept chk st):forL t body chk (v::vs) env st=(F.ao st (t.put v env)).bind λenv st=>(body env st).turn (Nk t body chk vs):=iO hk
open Classical in
theorem lG {t:T} {body:Env->aa->F} {chk:List (Nat×Ob)} {env:Env} {st:aa} (hk:Kept chk st):forL t body chk [] env st= .next env st:=iO hk
noncomputable def mi:List S:=[.set (.var 8) (.idx (.var 6) (.bin .Mod (.call 84 [.var 0, .var 1]) (.bi .len [.var 6]))), .set (.var 9) (.bm .get (.var 4) [.var 8, .ci 0]), .ife (.cmp .Lt (.var 9) (.idx (.call 12 [.var 2, .var 8]) (.ci 0))) [.fG (.var 4) (.var 8) (.bin .Add (.var 9) (.ci 1)), .expr (.bm .append (.var 5) [.tup [.bin .Add (.var 8) (.tup [.var 9]), .var 7]])] []]
abbrev pF (s:aa) (sh:Sh) (z:Int) (D:List (Pn×Int)) (L:List (Cell×Bx)):aa:= .lst [.int z]::(s++[.dct (D.map λp=>ax p.1) (D.map λp=> .int p.2), .lst (L.map aK), .lst (sh.parts.map ax)])
abbrev xj (ns:List Int) (s:aa) (sh:Sh) (k:Nat) (x7 x8 x9:Option Val):Env:=[some (bT ns),some (.ref 0),some (aR sh),some (.ref (k+1)),some (.ref (s.length+1)),some (.ref (s.length+1+1)),some (.ref (s.length+2+1)),x7,x8,x9]
theorem ou {P:Pg} (F:FG P) (n:Nat) (ns:List Int) (s:aa) (sh:Sh) (hs:sh.Ok) (k:Nat) (Bs:List Bx) (hk:s[k]?=some (.lst (Bs.map aW))):
  ∀(rest done:List Bx) (D:List (Pn×Int)) (L:List (Cell×Bx)) (z:Int) (x7 x8 x9:Option Val),Pl sh done D L->done.length+rest.length<=60->0<=z->z+rest.length<2^59->
  ∃D' L' z' y7 y8 y9,forL (.var 7) (eB P (call P (n+4)) mi) [(k+1, .lst (Bs.map aW))] (rest.map aW) (xj ns s sh k x7 x8 x9) (pF s sh z D L)= .next (xj ns s sh k y7 y8 y9) (pF s sh z' D' L')/\Pl sh (done++rest) D' L'/\z<=z'/\z'<=z+rest.length
 |[],done,D,L,z,x7,x8,x9,h,_,_,_=>⟨D,L,z,x7,x8,x9,lG (λp hp=>by
  have hk1:k<s.length:=(aac.mp hk).1;simp at hp;subst hp
  simp[aar hk1,hk]),by simpa using h,by lia,by simp⟩
 |b::rest,done,D,L,z,x7,x8,x9,h,hl,z0,z1=>by
  have hk1:k<s.length:=(aac.mp hk).1
  have hkept:Kept [(k+1, .lst (Bs.map aW))] (pF s sh z D L):=λp hp=>by
   simp at hp;subst hp;simp[aar hk1,hk]
  rw[aay,j7 hkept];have q1:=bN F (n+3) ns z (s++[.dct (D.map λp=>ax p.1) (D.map λp=> .int p.2), .lst (L.map aK), .lst (sh.parts.map ax)]) z0 (by simp at z1;lia);have np:0<sh.parts.length:=acQ.mpr (tf hs);have r0:0<=bI ns (z+1) % (sh.parts.length:Int):=abJ _ (by lia);have r1:bI ns (z+1) % (sh.parts.length:Int)<sh.parts.length:=abl _ (by lia);obtain⟨p,hp⟩:∃p,sh.parts[(bI ns (z+1) % (sh.parts.length:Int)).toNat]?=some p:=⟨_,aae (by lia)⟩;let⟨_,hp'⟩:=aac.mp hp;let⟨y,hy,hd⟩:=pB (aas hp);have q2:=fO F.toFPart (n+1) sh false p.1 p.2.1 p.2.2 y (pF s sh (z+1) D L) hy hd
  have q3:∀st,qX (.dct (D.map λp=>ax p.1) (D.map λp=> .int p.2)) [ax p, .int 0] st= .ok (.int (cb D p)) st:=λst=>by
   rw[tj,bL (nt.key p),nW nt Val.int p D];simp[cb];cases List.find? (λq=>decide (q.1=p)) D<;>rfl
  have epv:ax p= .tup false [.int p.1, .int p.2.1, .int p.2.2]:=rfl;rw[←epv] at q2
  have hDl:D.length<10000:=by have:=h.len;simp at hl;lia
  have hLl:L.length<10000:=by have:=h.sub.length_le;simp at this hl;lia
  have ec:fh (y.pt p.2.2)= .tup false [.int (y.pt p.2.2).c, .int (y.pt p.2.2).s, .int (y.pt p.2.2).h, .tup true ((y.pt p.2.2).p.map .int), .int (y.pt p.2.2).l]:=rfl;simp only[pF,ec] at q2;have q4:=DX p (cb D p+1) D;have q5:=nt.key p
  have q6:∀st,jn (ax p) (.tup false [.int (cb D p)]) st= .ok (aP ⟨p.1,p.2.1,p.2.2,cb D p⟩) st:=λst=>by simp[ax,aP]
  have q7:∀st,res st (ax p)=ax p:=λst=>zI st _ (by simp);simp at hl z1
  by_cases ht:cb D p<(y.pt p.2.2).c
  ·let⟨D',L',z',y7,y8,y9,e,h2,h3,h4⟩:=ou F n ns s sh hs k Bs hk rest (done++[b]) (dput D p (cb D p+1)) (L++[(⟨p.1,p.2.1,p.2.2,cb D p⟩,b)]) (z+1) (some (aW b)) (some (ax p)) (some (.int (cb D p))) (h.put b p y hy hd ht) (by simp;lia) (by lia) (by lia);refine⟨D',L',z',y7,y8,y9, ?_,by simpa using h2,by lia,by simp;lia⟩;unfold mi at e⊢;simp only[pF,xj] at e⊢;simp[q1,r0,r1,np,hp,hp',cV,q3,-tj,q2,ht,hDl,hLl,q4,q5,q6,Nk];simp[aK] at e⊢;exact e
  ·let⟨D',L',z',y7,y8,y9,e,h2,h3,h4⟩:=ou F n ns s sh hs k Bs hk rest (done++[b]) D L (z+1) (some (aW b)) (some (ax p)) (some (.int (cb D p))) (h.skip b) (by simp;lia) (by lia) (by lia);refine⟨D',L',z',y7,y8,y9, ?_,by simpa using h2,by lia,by simp;lia⟩;unfold mi at e⊢;simp only[pF,xj] at e⊢;simp[q1,r0,r1,np,hp,hp',cV,q3,-tj,q2,ht,Nk];exact e
theorem xE {P:Pg} (F:FG P) (n:Nat) (ns:List Int) (s:aa) (sh:Sh) (hs:sh.Ok) (k:Nat) (Bs:List Bx) (hk:s[k]?=some (.lst (Bs.map aW))) (hl:Bs.length<=60) (hn:(Bs.map (·.name)).Nodup) (z:Int) (z0:0<=z) (z1:z<2^58):
  ∃(L:List (Cell×Bx)) (z':Int),cT sh L/\(L.map λq=>q.2).Sublist Bs/\z<=z'/\z'<=z+60/\call P (n+5) 91 [bT ns, .ref 0,aR sh, .ref (k+1)] (.lst [.int z]::s)= .ok (.ref (s.length+1)) (.lst [.int z']::(s++[.lst (L.map aK)])):=by
 rw[aj F.f91 _ _ _ rfl];unfold FJ;have hk1:k<s.length:=(aac.mp hk).1;let⟨D',L,z',y7,y8,y9,e,h2,h3,h4⟩:=ou F n ns s sh hs k Bs hk Bs [] [] [] z none none none (Pl.nil sh) (by simp;lia) z0 (by lia);refine⟨L,z',h2.ld (by simp;lia) (by simpa using hn),by simpa using h2.sub,h3,by lia, ?_⟩;have q1:=kQ F.toFPart (n+3) sh hs (.lst [.int z]::(s++[.dct [] [], .lst []]))
 have hg:∀g:aa,(s++g)[k]?=some (.lst (Bs.map aW)):=λg=>by rw[aar hk1,hk]
 unfold mi at e;simp only[pF,xj] at e;simp at e q1;simp[new,q1,hg];rw[e];simp;refine(iE P z z' s [_, .lst (L.map aK),_] 1 _ _ rfl (cN _ _ _ _ (aX _ _ λa=>by simp))).trans ?_;rfl
def fB (b:By):Val:= .tup false [.int b.arm, .lst (b.sks.map ck)]
theorem yC (st:aa) (p:Pt):gM st (fh p) p:=⟨false,_,rfl, .inr rfl⟩
theorem FI (st:aa) (y:Sk):eW st (ck y) y:=⟨false,_,_,rfl,yC st _,yC st _⟩
theorem DT (st:aa) (b:By):eC st (fB b) b:=⟨false,_,_,rfl, .inl rfl,by simpa using aQ.map (R:=eW st) ck id (FI st) b.sks⟩
theorem t5 (st:aa) (bs:List By):aQ (eC st) (bs.map fB) bs:=by simpa using aQ.map (R:=eC st) fB id (DT st) bs
theorem rY (st:aa) (n x:Nat):∀(bs:List By) (k:Nat),n<=k->x<k->(∀(j:Nat) (b:By),bs[j]?=some b->st[k+j]?=some (cD ck b))->aS st n x (bz k bs)=some (bs.map fB)
 |[],_,_,_,_=>by simp
 |b::bs,k,hn,hx,h=>by
  have e:bz k (b::bs)= .tup false [.int b.arm, .ref k]::bz (k+1) bs:=by simp[bz]
  have h0:=h 0 b rfl
  have ih:=rY st n x bs (k+1) (by lia) (by lia) λj c hc=>by
   have:=h (j+1) c hc;rwa[show k+(j+1)=k+1+j by lia] at this
  have hr:(Val.ref k).aD st n x=some (.lst (b.sks.map ck)):=by
   simp at h0;simp only[Val.aD,Val.sub,iD,h0,cD];rw[if_neg (by lia),if_neg (by lia),bS _ _ (aX _ _ λa=>by simp)];rfl
  rw[e,jE,ih];simp[hr,fB]
def mw (y y':Sk):Prop:=y'.hold=y.hold/\y'.deck=y.deck/\fg y'.side
def fV (b c:By):Prop:=fg c.arm/\aQ mw b.sks c.sks
noncomputable def nP:List S:=[.expr (.bm .append (.var 3) [.tup [.call 93 [.var 0, .var 1], .comp 3 [1,0] (.tup [.var 0, .var 1, .var 2]) (.val (.var 5)) none (.tup [.call 93 [.var 4, .var 3], .var 1, .var 2])]])]
theorem sG {P:Pg} (F:FG P) (n:Nat) (ns:List Int) (s:aa) (x2:Option Val):∀(rest bs:List By) (z:Int) (x4 x5:Option Val),bs.length+rest.length<=20->(∀b∈rest,b.sks.length<=20)->0<=z->z+42*rest.length<2^58->
  ∃cs z' y4 y5,forL (.tup [.var 4, .var 5]) (eB P (call P (n+3)) nP) [] (rest.map cJ) [some (bT ns),some (.ref 0),x2,some (.ref (s.length+1)),x4,x5] (.lst [.int z]::(s++ .lst (bz (s.length+2) bs)::bs.map (cD ck)))
   = .next [some (bT ns),some (.ref 0),x2,some (.ref (s.length+1)),y4,y5] (.lst [.int z']::(s++ .lst (bz (s.length+2) (bs++cs))::(bs++cs).map (cD ck)))/\aQ fV rest cs/\z<=z'/\z'<=z+42*rest.length
 |[],bs,z,x4,x5,_,_,_,_=>⟨[],z,x4,x5,by simp,trivial,by lia,by simp⟩
 |b::rest,bs,z,x4,x5,hl,hb,z0,z1=>by
  simp at hl z1;have hb0:=hb b (by simp);let⟨v,v1,q1⟩:=yJ F n ns z (s++ .lst (bz (s.length+2) bs)::bs.map (cD ck)) z0 (by lia)
  let⟨ys,r,q2⟩:=gU (f:=Tn P (call P (n+3)) 3 [1,0] (.tup [.var 0, .var 1, .var 2]) none (.tup [.call 93 [.var 4, .var 3], .var 1, .var 2]) [some (bT ns),some (.ref 0),x2,some (.ref (s.length+1)),some (.int b.arm),some (.tup true (b.sks.map ck))]) (chk:=[]) (T:=s++ .lst (bz (s.length+2) bs)::bs.map (cD ck)) (gV:=ck) (hV:=ck) (R:=mw) (d:=2) (B:=2^59) (by lia) (λz=>aT _) (λy z z0 z1=>by
   let⟨v,v1,q⟩:=yJ F n ns z (s++ .lst (bz (s.length+2) bs)::bs.map (cD ck)) z0 z1
   exact⟨⟨v,y.hold,y.deck⟩,⟨rfl,rfl,ng (by show v.natAbs<_;lia)⟩,by simp[Tn,aO,av,q,ck]⟩) b.sks (z+2) (by lia) (by lia)
  let⟨cs,z',y4,y5,e,h1,h2,h3⟩:=sG F n ns s x2 rest (bs++[⟨v,ys⟩]) (z+2+2*b.sks.length) (some (.int b.arm)) (some (.tup true (b.sks.map ck))) (by simp;lia) (λc hc=>hb c (by simp[hc])) (by lia) (by lia);refine⟨⟨v,ys⟩::cs,z',y4,y5, ?_,⟨⟨ng (by show v.natAbs<_;lia),r⟩,h1⟩,by lia,by simp;lia⟩
  have l:bs.length<10000:=by lia
  have l2:b.sks.length<=10000:=by lia
  unfold nP at e⊢;rw[pz,show s.length+2+bs.length=s.length+(bs.length+1)+1 by lia] at e;simp[cD] at e;simp[cJ,q1,q2,l2,T.low,lows,new,cV,l];simp[cD];exact e
theorem vD {s s':Sh} (h:aQ fV s.bays s'.bays) {b k:Int} {y:Sk} (hy:s.sk? b k=some y):∃y',s'.sk? b k=some y'/\mw y y':=by
 have g:∀{α β:Type} {R:α->β->Prop} {as:List α} {bs:List β} {i:Nat} {a:α},aQ R as bs->as[i]?=some a->∃b,bs[i]?=some b/\R a b:=by
  intro α β R as
  induction as with
  |nil=>intro bs i a h e;simp at e
  |cons x as ih=>
   intro bs i a h e
   cases bs with
   |nil=>exact h.elim
   |cons y bs=>
    cases i with
    |zero=>simp at e;subst e;exact⟨y,rfl,h.1⟩
    |succ i=>simp at e;have:=ih (bs:=bs) (i:=i) h.2 e;simpa using this
 let⟨b0,k0,z,e1,e2,_,_⟩:=dr hy;let⟨c,f1,f2⟩:=g h e1;let⟨y',f3,f4⟩:=g f2.2 e2;refine⟨y', ?_,f4⟩;unfold Sh.sk?;rw[if_pos ⟨b0,k0⟩,f1];exact f3
theorem sW {s s':Sh} (h:aQ fV s.bays s'.bays):s'.gY:=by
 have g1:∀{as bs:List Sk},aQ mw as bs->∀y∈bs,fg y.side:=by
  intro as
  induction as with
  |nil=>intro bs h y hy;cases bs with
   |nil=>simp at hy
   |cons _ _=>exact h.elim
  |cons a as ih=>intro bs h y hy;cases bs with
   |nil=>simp at hy
   |cons b bs=>
    rcases aap.mp hy with rfl|hy
    ·exact h.1.2.2
    ·exact ih h.2 y hy
 have g2:∀{as bs:List By},aQ fV as bs->∀b∈bs,fg b.arm/\∀y∈b.sks,fg y.side:=by
  intro as
  induction as with
  |nil=>intro bs h y hy;cases bs with
   |nil=>simp at hy
   |cons _ _=>exact h.elim
  |cons a as ih=>intro bs h y hy;cases bs with
   |nil=>simp at hy
   |cons b bs=>
    rcases aap.mp hy with rfl|hy
    ·exact⟨h.1.1,g1 h.1.2⟩
    ·exact ih h.2 y hy
 exact g2 h
theorem C6 {as bs:List By} (h:aQ fV as bs) (ha:∀b∈as,b.Ok):∀b∈bs,b.Ok:=by
 have g1:∀{as bs:List Sk},aQ mw as bs->(∀y∈as,y.Ok)->∀y∈bs,y.Ok:=by
  intro as
  induction as with
  |nil=>intro bs h _ y hy;cases bs with
   |nil=>simp at hy
   |cons _ _=>exact h.elim
  |cons a as ih=>intro bs h ha y hy;cases bs with
   |nil=>simp at hy
   |cons b bs=>
    rcases aap.mp hy with rfl|hy
    ·have:=ha a (by simp);exact⟨by rw[h.1.1];exact this.1,by rw[h.1.2.1];exact this.2⟩
    ·exact ih h.2 (λc hc=>ha c (by simp[hc])) y hy
 induction as generalizing bs with
 |nil=>cases bs with
  |nil=>simp
  |cons _ _=>exact h.elim
 |cons a as ih=>cases bs with
  |nil=>simp
  |cons b bs=>
   intro c hc
   rcases aap.mp hc with rfl|hc
   ·have:=ha a (by simp);have l:=h.1.2.len;refine⟨λe=>this.1 ?_,by have:=this.2.1;lia,g1 h.1.2 this.2.2⟩;rw[e] at l;exact aa4.mp l
   ·exact ih h.2 (λd hd=>ha d (by simp[hd])) c hc
theorem zL {P:Pg} (F:FG P) (n:Nat) (ns:List Int) (s:aa) (sh:Sh) (hs:sh.Ok) (z:Int) (z0:0<=z) (z1:z<2^57):
  ∃(bs:List By) (z':Int),aQ fV sh.bays bs/\z<=z'/\z'<=z+840/\call P (n+4) 94 [bT ns, .ref 0,aR sh] (.lst [.int z]::s)= .ok (.ref (s.length+1)) (.lst [.int z']::(s++[.lst (bs.map fB)])):=by
 rw[aj F.f94 _ _ _ rfl];unfold EW;have hl:sh.bays.length<=20:=hs.2.1;let⟨bs,z',y4,y5,e,h1,h2,h3⟩:=sG F n ns s (some (aR sh)) sh.bays [] z none none (by simp;lia) (λb hb=>(hs.2.2.2.1 b hb).2.1) z0 (by lia);refine⟨bs,z',h1,h2,by lia, ?_⟩;unfold nP at e;simp at e;simp[new,cv F.toFShip];rw[e];simp;refine(iE P z z' s (.lst (bz (s.length+2) bs)::bs.map (cD ck)) 0 _ (bs.map fB) rfl (rY _ _ _ bs (s.length+2) (by lia) (by lia) λj b hj=> ?_)).trans ?_
 ·rw[show s.length+2+j=s.length+(j+1)+1 by lia];simp[hj]
 ·rfl
theorem uJ:∀(xs:List Int) (a:Int),iz a (xs.map .int)=some (a+xs.sum)
 |[],a=>by simp
 |x::xs,a=>by simp[uJ xs,Int.add_assoc]
theorem Al {α:Type} (f:α->Int) (xs:List α):iz 0 (xs.map λa=> .int (f a))=some (xs.map f).sum:=by
 have:=uJ (xs.map f) 0;rw[aa6] at this;simp at this;exact this
theorem u4 {P:Pg} (F:FG P) (n:Nat) (s:Sh) (hb:s.gY) (L:List (Cell×Bx)) (h:iy s L) (hl:L.length<=10000) (v:Val) (st:aa) (hv:res st v= .lst (L.map aK)):call P (n+1) 95 [aR s,v] st= .ok (jo s L) st:=by
 rw[aj F.f95 _ _ _ rfl];unfold FH;let⟨c1,w1,k1,_⟩:=eN (.inl hv);have hv2:=eR (g:=[.lst (L.map λp=> .int p.2.w)]) hv;let⟨c2,w2,k2,_⟩:=eN (.inl hv2);have hv3:=eR (g:=[.lst (L.map λp=> .int p.2.w), .lst (L.map λp=> .int (p.2.w*aE s p.1))]) hv;let⟨c3,w3,k3,_⟩:=eN (.inl hv3)
 have q1:∀env,aB (Tn P (call P n) 2 [] (.tup [.var 0, .var 1]) none (.idx (.var 1) (.ci 1)) env) c1 (L.map aK) st= .ok (L.map λp=> .int p.2.w) st:=λenv=>comp_map k1 _ _ _ λp _=>by simp[Tn,aO,av,aK,aW]
 have q2:∀x1 x2 x3 x4,aB (Tn P (call P n) 2 [0] (.tup [.var 0, .var 1]) none (.bin .Mult (.idx (.var 1) (.ci 1)) (.idx (.idx (.fld (.var 2) "bays") (.idx (.var 0) (.ci 0))) (.ci 0))) [some (aR s),x1,x2,x3,x4]) c2 (L.map aK) (st++[.lst (L.map λp=> .int p.2.w)])= .ok (L.map λp=> .int (p.2.w*aE s p.1)) (st++[.lst (L.map λp=> .int p.2.w)]):=λx1 x2 x3 x4=>comp_map k2 _ _ _ λp hp=>by
  let⟨⟨y,h1⟩,h2,h3⟩:=h p hp;let⟨b0,k0,z,e1,e2,b1,_⟩:=dr h1;let⟨_,e1'⟩:=aac.mp e1
  have ea:aE s p.1=z.arm:=by simp[aE,e1]
  have hm:=λst=>eK p.2.w z.arm st h3 (ea▸(eG hb p.1).1);simp[Tn,aO,av,aK,aW,aP,cv F.toFShip,b0,b1,e1,e1',cJ,hm,ea]
 have q3:∀x1 x2 x3 x4,aB (Tn P (call P n) 2 [0] (.tup [.var 0, .var 1]) none (.bin .Mult (.idx (.var 1) (.ci 1)) (.idx (.idx (.idx (.idx (.fld (.var 2) "bays") (.idx (.var 0) (.ci 0))) (.ci 1)) (.idx (.var 0) (.ci 1))) (.ci 0))) [some (aR s),x1,x2,x3,x4]) c3 (L.map aK) (st++[.lst (L.map λp=> .int p.2.w), .lst (L.map λp=> .int (p.2.w*aE s p.1))])= .ok (L.map λp=> .int (p.2.w*az s p.1)) (st++[.lst (L.map λp=> .int p.2.w), .lst (L.map λp=> .int (p.2.w*aE s p.1))]):=λx1 x2 x3 x4=>comp_map k3 _ _ _ λp hp=>by
  let⟨⟨y,h1⟩,h2,h3⟩:=h p hp;let⟨b0,k0,z,e1,e2,b1,kk⟩:=dr h1;let⟨_,e1'⟩:=aac.mp e1;let⟨_,e2'⟩:=aac.mp e2
  have ea:az s p.1=y.side:=by simp[az,h1]
  have hm:=λst=>eK p.2.w y.side st h3 (ea▸(eG hb p.1).2);simp[Tn,aO,av,aK,aW,aP,cv F.toFShip,b0,b1,k0,kk,e1,e1',e2,e2',cJ,ck,hm,ea]
 simp[w1,w2,w3,q1,q2,q3,hl,T.low,lows,Al];exact dU P st _ (jo s L) (by simp[jo])
theorem sf {P:Pg} (F:FG P) (n:Nat) (m x:Int) (st:aa):∃v:Int,(0<=v/\v<=x.natAbs+1)/\call P (n+1) 96 [.int m, .int x] st= .ok (.int v) st:=by
 rw[aj F.f96 _ _ _ rfl];unfold EV
 have h0:0<=m % 6:=by lia
 have h1:m % 6<6:=by lia
 generalize hw:[(x.natAbs:Int),x.natAbs-1,x.natAbs+1,x,0,(x.natAbs:Int)/2].getD (m % 6).toNat 0=v;have e:=λst=>AD [(x.natAbs:Int),x.natAbs-1,x.natAbs+1,x,0,(x.natAbs:Int)/2] (m % 6) st h0 h1;rw[hw] at e
 have hv:v∈[(x.natAbs:Int),x.natAbs-1,x.natAbs+1,x,0,(x.natAbs:Int)/2]:=by
  rw[←hw,aav,aae (by simp;lia)];exact List.getElem_mem _
 have hb:v<=x.natAbs+1:=by
  simp only[aap,abh,acE] at hv;lia
 have f:∀v g,fin P st (.int v) (st++g)= .ok (.int v) st:=λv g=>dU P st g _ (by simp);simp only[aay,acK] at e;simp[new,e,f];split<;>lia
theorem vc {s s':Sh} (h:aQ fV s.bays s'.bays) {L:List (Cell×Bx)} (hl:cT s L):cT s' L:=by
 let⟨h1,h2,h3,h4,h5⟩:=hl;refine⟨h1,h2,h3,λp hp=> ?_,h5⟩;let⟨y,a1,a2,a3,a4⟩:=h4 p hp;let⟨y',b1,b2⟩:=vD h a1;refine⟨y',b1,a2,a3, ?_⟩
 have:y'.pt p.1.d=y.pt p.1.d:=by unfold Sk.pt;rw[b2.1,b2.2.1]
 rw[this];exact a4
theorem BK {s:Sh} {L:List (Cell×Bx)} {Bs:List Bx} (hl:cT s L) (hs:(L.map λq=>q.2).Sublist Bs) (ok:∀b∈Bs,b.Ok):iy s L:=λp hp=>by
 let⟨y,a1,a2,_,_⟩:=hl.2.2.2.1 p hp;exact⟨⟨y,a1⟩,a2,nX (ok p.2 (hs.subset (aaT.mpr ⟨p,hp,rfl⟩))).1.2⟩
theorem sH {k:Nat}:∀{as bs:List By},aQ fV as bs->(∀b∈as,b.sks.length<=k)->∀b∈bs,b.sks.length<=k
 |[],[],_,_=>by simp
 |a::as,b::bs,⟨h,r⟩,ha=>λc hc=>by
  rcases aap.mp hc with rfl|hc
  ·rw[←h.2.len];exact ha a (by simp)
  ·exact sH r (λd hd=>ha d (by simp[hd])) c hc
theorem A9 {s:Sh} {k:Nat} {c:Int} (h:∀b∈s.bays,b.sks.length<=k/\∀y∈b.sks,y.hold.c<=c/\y.deck.c<=c) {L:List (Cell×Bx)} (l:cT s L):∀p∈L,p.1.t<c:=λp hp=>by
 let⟨y,e,hd,t0,t1⟩:=l.2.2.2.1 p hp;let⟨_,_,z,e1,e2,_,_⟩:=dr e;have:=(h z (aas e1)).2 y (aas e2);unfold Sk.pt at t1;split at t1<;>lia
structure Wd (sh:Sh) (L:List (Cell×Bx)) (c:Nat):Prop where
 sks:∀b∈sh.bays,b.sks.length<=3
 len:L.length<=c
 tr:∀p∈L,p.1.t<3
 w:∀p∈L,fg p.2.w
 trim:sh.trim<=(ba sh L).natAbs+1
 heel:sh.heel<=(aZ sh L).natAbs+1
theorem wu {P:Pg} (F:FG P) (n:Nat) (ns:List Int) (s:aa) (c:Nat) (hc:c<=26) (z:Int) (z0:0<=z) (z1:z<2^50):
  ∃(sh:Sh) (L:List (Cell×Bx)) (z':Int),sh.Ok/\sh.gY/\cT sh L/\iy sh L/\Wd sh L c/\z<=z'/\z'<=z+1100/\call P (n+8) 98 [bT ns, .ref 0, .int c] (.lst [.int z]::s)= .ok (.tup false [aR sh, .lst (L.map aK)]) (.lst [.int z']::s):=by
 rw[aj F.f98 _ _ _ rfl];unfold Ga;let⟨sh0,y1,o1,_,o2,_,a1,a2,e1⟩:=tL F n ns s z 3 3 3 (by lia) (by lia) (by lia) (by lia) (by lia) z0 (by lia);let⟨bs,y2,r2,a3,a4,e2⟩:=zL F (n+3) ns s sh0 o1 y1 (by lia) (by lia);let⟨Bs,y3,l3,d3,k3,a5,a6,e3⟩:=Ad F (n+4) ns y2 (s++[.lst (bs.map fB)]) c hc (by lia) (by lia);let⟨k',y4,g,Cs,h4,n4,k4,a7,a8,e4⟩:=Bp F (n+4) ns y3 (s++[.lst (bs.map fB)]++[.lst (Bs.map aW)]) (s++[Ob.lst (bs.map fB)]).length Bs (by simp) (by lia) k3 (by lia) (by lia)
 have hCl:Cs.length=c:=by have:=congrArg List.length n4;simpa[l3] using this
 let⟨L,y5,l5,u5,a9,a10,e5⟩:=xE F (n+2) ns (s++[.lst (bs.map fB)]++[.lst (Bs.map aW)]++g) sh0 o1 k' Cs h4 (by lia) (by rw[n4];exact d3) y4 (by lia) (by lia);obtain⟨W,hW⟩:∃W,W=s++[.lst (bs.map fB)]++[.lst (Bs.map aW)]++g:=⟨_,rfl⟩
 have hWG:W=s++(.lst (bs.map fB):: .lst (Bs.map aW)::g):=by rw[hW];simp
 have hB:∀h:aa,(W++h)[s.length]?=some (.lst (bs.map fB)):=λh=>by rw[hWG];simp
 rw[←hW] at e4 e5;have hsame:∀f t h,aQ fV sh0.bays (Sh.mk bs f t h).bays:=λf t h=>r2;have okB:=C6 r2 o1.2.2.2.1;have lB:bs.length=sh0.bays.length:=r2.len.symm;have neB:bs≠[]:=λe=>o1.1 (by rw[e] at lB;exact aa4.mp lB.symm)
 have lB2:bs.length<=20:=by rw[lB];exact o1.2.1
 have ok0:(Sh.mk bs [] 0 0).Ok:=⟨neB,lB2,by simp,okB,by simp,by simp⟩;have big0:(Sh.mk bs [] 0 0).gY:=sW (hsame _ _ _);have ld0:=vc (hsame [] 0 0) l5;have ce0:=BK ld0 u5 k4;have e6:=oq F.toFShip (n+1) (Sh.mk bs [] 0 0) (.lst [.int y5]::(W++[.lst (L.map aK), .lst []])) (.ref (s.length+1)) (.ref (W.length+1+1)) (bs.map fB) (.inl (by simp[hB])) (t5 _ _) (by simp) ok0;have e7:=u4 F (n+6) (Sh.mk bs [] 0 0) big0 L ce0 (by have:=l5.1;lia) (.ref (W.length+1)) (.lst [.int y5]::(W++[.lst (L.map aK), .lst []])) (by simp);have e8:=bN F (n+6) ns y5 (W++[.lst (L.map aK), .lst []]) (by lia) (by lia);let⟨t,⟨t0,t1⟩,e9⟩:=sf F (n+6) (bI ns (y5+1)) (ba (Sh.mk bs [] 0 0) L) (.lst [.int (y5+1)]::(W++[.lst (L.map aK), .lst [], .lst (sh0.foes.map cY)]));let⟨h,⟨h0,h1⟩,e10⟩:=sf F (n+6) (bI ns (y5+1)/6) (aZ (Sh.mk bs [] 0 0) L) (.lst [.int (y5+1)]::(W++[.lst (L.map aK), .lst [], .lst (sh0.foes.map cY)]));have B0:(Sh.mk bs sh0.foes t h).Ok:=⟨neB,lB2,o1.2.2.1,okB,t0,h0⟩;have e11:=oq F.toFShip (n+1) (Sh.mk bs sh0.foes t h) (.lst [.int (y5+1)]::(W++[.lst (L.map aK), .lst [], .lst (sh0.foes.map cY)])) (.ref (s.length+1)) (.ref (W.length+2+1)) (bs.map fB) (.inl (by simp[hB])) (t5 _ _) (by simp) B0;have ldS:=vc (hsame sh0.foes t h) l5;refine⟨Sh.mk bs sh0.foes t h,L,y5+1,B0,sW (hsame _ _ _),ldS,BK ldS u5 k4,⟨sH r2 λb hb=>(o2 b hb).1,by have:=u5.length_le;simp at this;lia,A9 o2 l5,λp hp=>(k4 p.2 (u5.subset (aaT.mpr ⟨p,hp,rfl⟩))).1.2,t1,h1⟩,by lia,by lia, ?_⟩;simp only[jo] at e7;simp at e1 e2 e3 e4 e6 e11;simp[e1,e2,e3,e4,e5,new,e6,e7,e8,AJ F.toFShip,e9,e10,e11];obtain⟨G,hG⟩:∃G:aa,G= .lst (bs.map fB):: .lst (Bs.map aW)::g:=⟨_,rfl⟩;rw[←hG] at hWG;have hz:=vh z (y5+1) s (G++[.lst (L.map aK), .lst [], .lst (sh0.foes.map cY)]) G.length (L.map aK) (by simp) (aX _ _ λp=>by simp);have hf:=ue P z (y5+1) s (G++[.lst (L.map aK), .lst [], .lst (sh0.foes.map cY)]) (.tup false [aR (Sh.mk bs sh0.foes t h), .ref (s.length+1+G.length)]) (.tup false [aR (Sh.mk bs sh0.foes t h), .lst (L.map aK)]) rfl (by rw[DU,jE,iX _ _ _ _ (by simp),jE,hz];simp)
 rw[hWG];rw[show (s++G).length+1=s.length+1+G.length by simp;lia];rw[List.append_assoc];exact hf
noncomputable def bJ (m a b:Int):List Int:=if a=0 then [] else if 0<a then [-((b+m)/a)] else [-((b-m)/ -a)]
noncomputable def bV (m a b:Int):List Int:=if a=0 then [] else if 0<a then [(b-m)/a] else [(b+m)/ -a]
noncomputable def may (m a b:Int):Bool:= !decide (a=0)||decide ((m.natAbs:Int)<=b)
theorem Dc (m a b w:Int):((m+w*a).natAbs:Int)<=b↔may m a b=true/\(∀l∈bJ m a b,l<=w)/\∀h∈bV m a b,w<=h:=by
 unfold bJ bV may
 by_cases a0:a=0
 ·simp[a0]
 ·by_cases ap:0<a
  ·have e1:=abD (a:= -w) (b:=b+m) ap;have e2:=abD (a:=w) (b:=b-m) ap;rw[Int.neg_mul] at e1;simp[a0,ap];lia
  ·have e1:=abD (a:= -w) (b:=b-m) (c:= -a) (by lia);have e2:=abD (a:=w) (b:=b+m) (c:= -a) (by lia);rw[Int.neg_mul_neg] at e1;rw[Int.mul_neg] at e2;simp[a0,ap,-Int.ediv_neg];lia
def za (fit:Int->Bool):Option (Int×Option Int)->Prop
 |none=>∀w,fit w=true->False
 |some (l,g)=>fit l=true/\(∀w,fit w=true->l<=w)/\match g with
  |none=>∀w,l<=w->fit w=true
  |some x=>fit x=true/\∀w,fit w=true->w<=x
theorem za.one {fit:Int->Bool} {r r':Option (Int×Option Int)} (h:za fit r) (h':za fit r'):r=r':=by
 cases r with
 |none=>cases r' with
  |none=>rfl
  |some p=>exact(h _ h'.1).elim
 |some p=>cases r' with
  |none=>exact(h' _ h.1).elim
  |some p'=>
   let⟨l,g⟩:=p;let⟨l',g'⟩:=p';let⟨h1,h2,h3⟩:=h;let⟨k1,k2,k3⟩:=h';obtain rfl:l=l':=Int.le_antisymm (h2 _ k1) (k2 _ h1)
   cases g with
   |none=>cases g' with
    |none=>rfl
    |some x=>
     have:=k3.2 _ (h3 (x+1) (by have:=k2 _ k3.1;lia));lia
   |some x=>cases g' with
    |none=>
     have:=h3.2 _ (k3 (x+1) (by have:=h2 _ h3.1;lia));lia
    |some x'=>
     obtain rfl:x=x':=Int.le_antisymm (k3.2 _ h3.1) (h3.2 _ k3.1);rfl
section
variable {fit:Int->Bool} {g:Bool} {Lo Hi:List Int} (hf:∀w,fit w=true↔g=true/\(∀l∈0::Lo,l<=w)/\∀h∈Hi,w<=h)
noncomputable def iB (fit:Int->Bool) (Lo Hi:List Int):Option (Int×Option Int):=(((0::Lo).filter fit).min?).map λl=>(l,(Hi.filter fit).max?)
noncomputable def nj (g:Bool) (l:Int) (m:Option Int):Option (Int×Option Int):=if g=true/\∀x,m=some x->l<=x then some (l,m) else none
include hf
theorem Fb {l:Int} (hl:(0::Lo).max?=some l):za fit (nj g l Hi.min?):=by
 let⟨l1,l2⟩:=abH.mp hl;unfold nj;split
 ·rename_i c;have fl:∀w,l<=w->(∀h∈Hi,w<=h)->fit w=true:=λw a b=>(hf w).mpr ⟨c.1,λx hx=>ab8 (l2 x hx) a,b⟩;have least:∀w,fit w=true->l<=w:=λw q=>((hf w).mp q).2.1 l l1
  cases e:Hi.min? with
  |none=>
   have:Hi=[]:=acF.mp e;exact⟨fl l (Int.le_refl _) (by simp[this]),least,λw q=>fl w q (by simp[this])⟩
  |some x=>
   let⟨x1,x2⟩:=abj.mp e;have lx:=c.2 x e;exact⟨fl l (Int.le_refl _) λh hh=>ab8 lx (x2 h hh),least,fl x lx x2,λw q=>((hf w).mp q).2.2 x x1⟩
 ·rename_i c;intro w q;let⟨q1,q2,q3⟩:=(hf w).mp q;exact c ⟨q1,λx e=>ab8 (q2 l l1) (q3 x (abj.mp e).1)⟩
theorem vj:za fit (iB fit Lo Hi):=by
 obtain⟨M,hM⟩:∃M,(0::Lo).max?=some M:=by
  cases h:(0::Lo).max? with
  |none=>exact absurd (acG.mp h) (by simp)
  |some M=>exact⟨M,rfl⟩
 let⟨m1,m2⟩:=abH.mp hM
 have fM:∀w,fit w=true->M∈(0::Lo).filter fit/\M<=w:=λw q=>by
  let⟨q1,q2,q3⟩:=(hf w).mp q;exact⟨abp.mpr ⟨m1,(hf M).mpr ⟨q1,m2,λh hh=>ab8 (q2 M m1) (q3 h hh)⟩⟩,q2 M m1⟩
 unfold iB
 cases e:((0::Lo).filter fit).min? with
 |none=>
  intro w q;have:=(fM w q).1;rw[acF.mp e] at this;simp at this
 |some l=>
  let⟨l1,l2⟩:=abj.mp e;have fl:=(abp.mp l1).2;let⟨c1,c2,c3⟩:=(hf l).mp fl;refine⟨fl,λw q=>ab8 (l2 M (fM w q).1) (fM w q).2, ?_⟩
  cases e2:(Hi.filter fit).max? with
  |none=>
   have nf:=acG.mp e2
   have:Hi=[]:=by
    cases e3:Hi.min? with
    |none=>exact acF.mp e3
    |some x=>
     let⟨x1,x2⟩:=abj.mp e3;have:x∈Hi.filter fit:=abp.mpr ⟨x1,(hf x).mpr ⟨c1,λa ha=>ab8 (c2 a ha) (c3 x x1),x2⟩⟩;rw[nf] at this;simp at this
   exact λw q=>(hf w).mpr ⟨c1,λa ha=>ab8 (c2 a ha) q,by simp[this]⟩
  |some x=>
   let⟨x1,x2⟩:=abH.mp e2;let⟨x3,x4⟩:=abp.mp x1;exact⟨x4,λw q=>((hf w).mp q).2.2 x x3⟩
end
noncomputable def eE (m1 a1 t m2 a2 h w:Int):Bool:=decide (0<=w)&&(decide (((m1+w*a1).natAbs:Int)<=t)&&decide (((m2+w*a2).natAbs:Int)<=h))
theorem rN (m1 a1 t m2 a2 h w:Int):eE m1 a1 t m2 a2 h w=true↔(may m1 a1 t&&may m2 a2 h)=true/\(∀l∈0::(bJ m1 a1 t++bJ m2 a2 h),l<=w)/\∀x∈bV m1 a1 t++bV m2 a2 h,w<=x:=by
 unfold eE;simp only[aag,ab5,Dc,aap,aaz];constructor
 ·rintro ⟨z,⟨a,b,c⟩,d,e,f⟩
  exact⟨⟨a,d⟩,λl hl=>hl.elim (λq=>q▸z) λhl=>hl.elim (b l) (e l),λx hx=>hx.elim (c x) (f x)⟩
 ·rintro ⟨⟨a,d⟩,b,c⟩
  exact⟨b 0 (.inl rfl),⟨a,λl hl=>b l (.inr (.inl hl)),λx hx=>c x (.inl hx)⟩,d,λl hl=>b l (.inr (.inr hl)),λx hx=>c x (.inr hx)⟩
structure FW (P:Pg):Prop extends FG P where
 f83:P.fn 83=some Am
 f11:P.fn 11=some qL
 f39:P.fn 39=some BF
 f106:P.fn 106=some vA
 f107:P.fn 107=some ql
 f108:P.fn 108=some Cq
 f109:P.fn 109=some vK
 f110:P.fn 110=some Cc
 f111:P.fn 111=some Cy
 f112:P.fn 112=some Cz
 f113:P.fn 113=some BU
 f114:P.fn 114=some Cf
 c2:((P.cl 2).map (·.init))=some none
 s2:jL P 2 2=true
noncomputable def oI (o:Option Int):Val:=(o.map Val.int).getD .non
@[simp]theorem uX:oI none= .non:=rfl
@[simp]theorem ox (x:Int):oI (some x)= .int x:=rfl
def ij (r:Option (Int×Option Int)):Val:=(r.map λp=>Val.tup false [.int p.1,oI p.2]).getD .non
@[simp]theorem NC:ij none= .non:=rfl
@[simp]theorem NR (l:Int) (g:Option Int):ij (some (l,g))= .tup false [.int l,oI g]:=rfl
@[simp]theorem Nf (o:Option Int):(oI o).tree=true:=by cases o<;>simp
@[simp]theorem Nh (r:Option (Int×Option Int)):(ij r).tree=true:=by
 cases r with
 |none=>simp
 |some p=>let⟨l,g⟩:=p;simp
@[simp]theorem xB:∀l:List Int,cw (l.map .int)=some l
 |[]=>rfl
 |i::l=>by simp[xB l]
theorem lI (i j:Int) (st:aa) (h:0<j) (hb:big j):lY i j st= .ok (.int (i/j)) st:=by
 unfold lY;rw[bL ⟨by lia,hb⟩,Int.fdiv_eq_ediv_of_nonneg _ (by lia)]
theorem uQ {i:Int} (h:big i):big (-i):=by unfold big at*;lia
noncomputable def ww (m a b:Int):Option (Int×Option Int):=if a=0 then (if (m.natAbs:Int)<=b then some (0,none) else none) else if 0<a then some (-((b+m)/a),some ((b-m)/a)) else some (-((b-m)/ -a),some ((b+m)/ -a))
theorem Cp {P:Pg} (F:FW P) (n:Nat) (m a b:Int) (ha:big a) (st:aa):call P (n+2) 107 [.int m, .int a, .int b] st= .ok (ij (ww m a b)) st:=by
 have pos:∀n m a,0<a->big a->call P (n+1) 107 [.int m, .int a, .int b] st= .ok (.tup false [.int (-((b+m)/a)), .int ((b-m)/a)]) st:=λn m a h hb=>by
  rw[aj F.f107 _ _ _ rfl];unfold ql
  have h1:(a==0)=false:=by simp;lia
  have h2:decide (a<0)=false:=by simp;lia
  simp[h1,h2,lI _ _ _ h hb]
 unfold ww
 by_cases a0:a=0
 ·rw[aj F.f107 _ _ _ rfl];unfold ql;subst a0
  by_cases hm:(m.natAbs:Int)<=b<;>simp[hm]
 ·by_cases ap:0<a
  ·rw[pos (n+1) m a ap ha];simp[a0,ap]
  ·rw[aj F.f107 _ _ _ rfl];unfold ql
   have h1:(a==0)=false:=by simp[a0]
   have h2:decide (a<0)=true:=by simp;lia
   simp[h1,h2,pos n (-m) (-a) (by lia) (uQ ha),a0,ap,-Int.ediv_neg];rw[show b+ -m=b-m by lia]
theorem xU {P:Pg} (F:FW P) (n:Nat) (l1 l2:Int) (g1 g2:Option Int) (st:aa):call P (n+1) 108 [ij (some (l1,g1)),ij (some (l2,g2))] st= .ok (ij (nj true (max 0 (max l1 l2)) (g1.toList++g2.toList).min?)) st:=by
 have hc:∀env,aB (Tn P (call P n) 1 [] (.var 0) (some (.cmp .IsNot (.var 0) (.const .non))) (.var 0) env) [] [oI g1,oI g2] st= .ok ((g1.toList++g2.toList).map .int) st:=λenv=>by
  have:=eM (f:=Tn P (call P n) 1 [] (.var 0) (some (.cmp .IsNot (.var 0) (.const .non))) (.var 0) env) (aT st) oI (λo=>o.map Val.int) [g1,g2] λo _=>by
   cases o<;>simp[Tn,aO,av]
  rw[show [oI g1,oI g2]=[g1,g2].map oI from rfl,this];cases g1<;>cases g2<;>rfl
 generalize g1.toList++g2.toList=K at hc;rw[aj F.f108 _ _ _ rfl];unfold Cq;have f:∀v,v.tree=true->fin P st v (st++[.lst (K.map .int)])= .ok v st:=λv h=>dU P st _ v h;simp[hc,T.low,new,-List.length_map]
 cases e:K.min? with
 |none=>simp[nj,f]
 |some x=>
  by_cases hx:x<max 0 (max l1 l2)
  ·have:¬max 0 (max l1 l2)<=x:=by lia
   simp[nj,hx,this,f]
  ·have:max 0 (max l1 l2)<=x:=by lia
   simp[nj,hx,this,f]
theorem BB {P:Pg} (F:FW P) (n:Nat) (m1 a1 t m2 a2 h:Int) (st:aa):(if (ww m1 a1 t).isSome&&(ww m2 a2 h).isSome then call P (n+1) 108 [ij (ww m1 a1 t),ij (ww m2 a2 h)] st else .ok .non st)= .ok (ij (iB (eE m1 a1 t m2 a2 h) (bJ m1 a1 t++bJ m2 a2 h) (bV m1 a1 t++bV m2 a2 h))) st:=by
 have key:∀l,(0::(bJ m1 a1 t++bJ m2 a2 h)).max?=some l->nj (may m1 a1 t&&may m2 a2 h) l (bV m1 a1 t++bV m2 a2 h).min?=iB (eE m1 a1 t m2 a2 h) (bJ m1 a1 t++bJ m2 a2 h) (bV m1 a1 t++bV m2 a2 h):=λl e=>(Fb (rN m1 a1 t m2 a2 h) e).one (vj (rN m1 a1 t m2 a2 h))
 have one:∀m a b:Int,(∃l g,ww m a b=some (l,g)/\may m a b=true/\g.toList=bV m a b/\(bJ m a b=[l]∨bJ m a b=[]/\l=0))∨ww m a b=none/\may m a b=false:=λm a b=>by
  unfold ww may bV bJ
  by_cases a0:a=0
  ·by_cases hm:(m.natAbs:Int)<=b
   ·simp[a0,hm];exact⟨_,_,⟨rfl,rfl⟩,rfl,rfl⟩
   ·simp[a0,hm]
  ·by_cases ap:0<a<;>simp[a0,ap]<;>exact⟨_,_,⟨rfl,rfl⟩,rfl,rfl⟩
 obtain⟨M,hM⟩:∃M,(0::(bJ m1 a1 t++bJ m2 a2 h)).max?=some M:=by
  cases h:(0::(bJ m1 a1 t++bJ m2 a2 h)).max? with
  |none=>exact absurd (acG.mp h) (by simp)
  |some M=>exact⟨M,rfl⟩
 have k:=key M hM
 rcases one m1 a1 t with⟨l1,g1,e1,e2,e3,e4⟩|⟨e1,e2⟩
 ·rcases one m2 a2 h with⟨l2,g2,d1,d2,d3,d4⟩|⟨d1,d2⟩
  ·rw[←k,e1,d1,if_pos (by simp),xU F,e2,d2,e3,d3,show max 0 (max l1 l2)=M from ?_]
   ·rfl
   ·rcases e4 with e4|⟨e4,rfl⟩<;>rcases d4 with d4|⟨d4,rfl⟩<;>rw[e4,d4] at hM<;>simp at hM<;>lia
  ·rw[←k,d1,d2];simp[nj]
 ·rw[←k,e1,e2];simp[nj]
noncomputable def pc (p:Pn):Cell:=⟨p.1,p.2.1,p.2.2,0⟩
theorem qa {P:Pg} (F:FW P) (n:Nat) (s:Sh) (hb:s.gY) (L:List (Cell×Bx)) (h:iy s L) (p:Pn) (y:Sk) (hy:s.sk? p.1 p.2.1=some y) (hd:p.2.2=0∨p.2.2=1) (st:aa):
  call P (n+6) 106 [cG s L,ax p] st= .ok (ij (iB (eE (ba s L) (aE s (pc p)) s.trim (aZ s L) (az s (pc p)) s.heel) (bJ (ba s L) (aE s (pc p)) s.trim++bJ (aZ s L) (az s (pc p)) s.heel) (bV (ba s L) (aE s (pc p)) s.trim++bV (aZ s L) (az s (pc p)) s.heel))) st:=by
 rw[aj F.f106 _ _ _ rfl];unfold vA;have q1:=uZ F.toFMom (n+2) s false (pc p) y st hy hd;have q2:=mG F.toFMom n s hb L h st;have q3:=Cp F (n+3) (ba s L) (aE s (pc p)) s.trim (eG hb _).1 st;have q4:=Cp F (n+3) (aZ s L) (az s (pc p)) s.heel (eG hb _).2 st;have q5:=BB F (n+4) (ba s L) (aE s (pc p)) s.trim (aZ s L) (az s (pc p)) s.heel st;rw[show (Val.tup false [.int (pc p).b, .int (pc p).k, .int (pc p).d])=ax p from rfl] at q1;simp[eL F.toFLoad,jb F.toFShip,ja F.toFShip,q1,q2,jo,q3,q4];rw[←q5]
 cases e1:ww (ba s L) (aE s (pc p)) s.trim with
 |none=>simp
 |some u=>cases e2:ww (aZ s L) (az s (pc p)) s.heel with
  |none=>let⟨l,g⟩:=u;simp
  |some v=>
   let⟨l,g⟩:=u;let⟨l',g'⟩:=v;rw[e1,e2] at q5;simp at q5⊢;rw[q5];simp;exact eF P st _ (by simp)
theorem uM {P:Pg} (F:FW P) (n:Nat) (s:Sh) (hb:s.gY) (p:Pn) (y:Sk) (hy:s.sk? p.1 p.2.1=some y) (w0 m1 m2 w:Int) (hw:big w) (st:aa):
  call P (n+1) 110 [aR s, .tup false [.int w0, .int m1, .int m2],ax p, .int w] st= .ok (.bl (eE m1 (aE s (pc p)) s.trim m2 (az s (pc p)) s.heel w)) st:=by
 rw[aj F.f110 _ _ _ rfl];unfold Cc;let⟨b0,k0,z,e1,e2,b1,kk⟩:=dr hy;let⟨_,e1'⟩:=aac.mp e1;let⟨_,e2'⟩:=aac.mp e2
 have ea:aE s (pc p)=z.arm:=by simp[aE,pc,e1]
 have eb:az s (pc p)=y.side:=by simp[az,pc,hy]
 have hm:=λst=>eK w z.arm st hw (ea▸(eG hb (pc p)).1);have hm2:=λst=>eK w y.side st hw (eb▸(eG hb (pc p)).2);simp[ax,cv F.toFShip,jb F.toFShip,ja F.toFShip,b0,b1,k0,kk,e1,e1',e2,e2',cJ,ck,hm,hm2,ea,eb,eE]
theorem t9 {P:Pg} (F:FW P) (n:Nat) (m a b:Int) (ha:big a) (st:aa):call P (n+1) 111 [.int m, .int a, .int b] st= .ok (.tup false [.lst ((bJ m a b).map .int), .lst ((bV m a b).map .int)]) st:=by
 rw[aj F.f111 _ _ _ rfl];unfold Cy
 have fz:∀xs ys,trees xs=true->trees ys=true->fin P st (.tup false [.ref st.length, .ref (st.length+1)]) (st++[.lst xs, .lst ys])= .ok (.tup false [.lst xs, .lst ys]) st:=λxs ys hx hy=>by
  rw[eU P st (st++[.lst xs, .lst ys]) _ (.tup false [.lst xs, .lst ys]) (gc st _) ?_ rfl]
  ·simp
  ·simp[Val.aD,Val.sub,subs,iD,aS,bS _ _ hx,bS _ _ hy,show¬st.length+1<st.length by lia]
 by_cases a0:a=0
 ·simp[a0,new,bJ,bV];exact fz [] [] rfl rfl
 ·have h1:(a==0)=false:=by simp[a0]
  by_cases ap:0<a
  ·simp[h1,ap,a0,new,bJ,bV,lI _ _ _ ap ha];exact fz _ _ (by simp) (by simp)
  ·have hn:0< -a:=by lia
   simp[h1,ap,a0,new,bJ,bV,lI _ _ _ hn (uQ ha),-Int.ediv_neg];exact fz _ _ (by simp) (by simp)
theorem AI {P:Pg} (F:FW P) (n:Nat) (r:Option (Int×Option Int)) (st:aa):call P (n+2) 109 [ij r,ij r] st= .ok (.bl true) st:=by
 have q:∀o:Option Int,call P (n+1) 109 [oI o,oI o] st= .ok (.bl true) st:=λo=>by
  rw[aj F.f109 _ _ _ rfl];unfold vK;cases o<;>simp
 rw[aj F.f109 _ _ _ rfl];unfold vK
 cases r with
 |none=>simp
 |some p=>
  let⟨l,g⟩:=p;have q1:=q (some l);rw[ox] at q1;have hc:∀env,aB (Tn P (call P (n+1)) 2 [] (.tup [.var 0, .var 1]) none (.call 109 [.var 0, .var 1]) env) [] [.tup false [.int l, .int l], .tup false [oI g,oI g]] st= .ok [.bl true, .bl true] st:=λenv=>fE (aT st) ⟨by simp[Tn,aO,av,q1],by simp[Tn,aO,av,q],trivial⟩;simp[eD,hc,T.low,lows];exact dU P st [.lst _] _ (by simp)
theorem mZ {P:Pg} (F:FW P) (n:Nat) (s:Sh) (L:List (Cell×Bx)) (b k d:Int) (st:aa) (h:s.dH b k d=false):call P (n+5) 113 [cG s L, .tup false [.int b, .int k, .int d]] st= .ok (.bl true) st:=by
 have q1:=tJ F.toFPart F.c2 n s false b k d st h
 have fx:lp st ⟨2,[],[]⟩ st= .exc ⟨2,[],[]⟩ st:=by
  unfold lp;rw[if_pos (lH st)];simp
 have q2:call P (n+3) 80 [aR s, .tup false [.int b, .int k, .int d]] st= .exc ⟨2,[],[]⟩ st:=by
  rw[aj F.f80 _ _ _ rfl];unfold zZ;simp[q1,fx]
 have q3:call P (n+4) 106 [cG s L, .tup false [.int b, .int k, .int d]] st= .exc ⟨2,[],[]⟩ st:=by
  rw[aj F.f106 _ _ _ rfl];unfold vA;simp[eL F.toFLoad,q2,fx]
 rw[aj F.f113 _ _ _ rfl];unfold BU;have ht:∀env st,S.run P (call P (n+4)) (.try_ [.expr (.call 106 [.var 0, .var 1])] 2 none [.set (.var 2) (.const (.bl true))]) env st=(aN P (call P (n+4)) [.expr (.call 106 [.var 0, .var 1])] env st).vX P 2 none λenv st=>aN P (call P (n+4)) [.set (.var 2) (.const (.bl true))] env st:=λ_ _=>rfl;simp[ht,q3,F.s2,BD,PI.unset]
theorem vo (m a b:Int):(bJ m a b).length<=1:=by unfold bJ;by_cases h:a=0<;>by_cases k:0<a<;>simp[h,k]
theorem vi (m a b:Int):(bV m a b).length<=1:=by unfold bV;by_cases h:a=0<;>by_cases k:0<a<;>simp[h,k]
theorem Ew {P:Pg} (F:FW P) (n:Nat) (s:Sh) (hb:s.gY) (p:Pn) (y:Sk) (hy:s.sk? p.1 p.2.1=some y) (w0 m1 m2:Int) (st:aa) (hl:∀x∈0::(bJ m1 (aE s (pc p)) s.trim++bJ m2 (az s (pc p)) s.heel),big x) (hh:∀x∈bV m1 (aE s (pc p)) s.trim++bV m2 (az s (pc p)) s.heel,big x):
  call P (n+2) 112 [aR s, .tup false [.int w0, .int m1, .int m2],ax p] st= .ok (ij (iB (eE m1 (aE s (pc p)) s.trim m2 (az s (pc p)) s.heel) (bJ m1 (aE s (pc p)) s.trim++bJ m2 (az s (pc p)) s.heel) (bV m1 (aE s (pc p)) s.trim++bV m2 (az s (pc p)) s.heel))) st:=by
 rw[aj F.f112 _ _ _ rfl];unfold Cz;let⟨b0,k0,z,e1,e2,b1,kk⟩:=dr hy;let⟨_,e1'⟩:=aac.mp e1;let⟨_,e2'⟩:=aac.mp e2
 have ea:aE s (pc p)=z.arm:=by simp[aE,pc,e1]
 have eb:az s (pc p)=y.side:=by simp[az,pc,hy]
 have hA:=(eG hb (pc p)).1;have hB:=(eG hb (pc p)).2;have q1:=λst=>t9 F n m1 (aE s (pc p)) s.trim hA st;have q2:=λst=>t9 F n m2 (az s (pc p)) s.heel hB st;have hf:=λw hw st=>uM F n s hb p y hy w0 m1 m2 w hw st;rw[ea] at q1 hl hh hf⊢;rw[eb] at q2 hl hh hf⊢;have lA:=vo m1 z.arm s.trim;have lB:=vo m2 y.side s.heel;have lC:=vi m1 z.arm s.trim;have lD:=vi m2 y.side s.heel;generalize bJ m1 z.arm s.trim=A at*;generalize bJ m2 y.side s.heel=B at*;generalize bV m1 z.arm s.trim=C at*;generalize bV m2 y.side s.heel=D at*;generalize eE m1 z.arm s.trim m2 y.side s.heel=fit at*;have ep:ax p= .tup false [.int p.1, .int p.2.1, .int p.2.2]:=rfl
 have hc:∀(xs:List Int) chk st (env:Env),(∀x∈xs,big x)->Kept chk st->env[0]?=some (some (aR s))->env[1]?=some (some (.tup false [.int w0, .int m1, .int m2]))->env[2]?=some (some (ax p))->
   aB (Tn P (call P (n+1)) 1 [1,2,0] (.var 0) (some (.call 110 [.var 3, .var 1, .var 2, .var 0])) (.var 0) env) chk (xs.map .int) st= .ok ((xs.filter fit).map .int) st:=λxs chk st env hx hk h0 h1 h2=>by
  rw[eM hk Val.int (λk=>if fit k=true then some (.int k) else none) xs λk hkx=> ?_,dM];have q:=hf k (hx k hkx) st;simp[Tn,aO,av,h0,h1,h2,q]
  by_cases hb:fit k=true<;>simp[hb]
 have hcl:∀chk st x3 x4 x5 x6 x7,Kept chk st->aB (Tn P (call P (n+1)) 1 [1,2,0] (.var 0) (some (.call 110 [.var 3, .var 1, .var 2, .var 0])) (.var 0) [some (aR s),some (.tup false [.int w0, .int m1, .int m2]),some (.tup false [.int p.1, .int p.2.1, .int p.2.2]),x3,x4,x5,x6,x7]) chk (.int 0::(A.map .int++B.map .int)) st= .ok (((0::(A++B)).filter fit).map .int) st:=λchk st x3 x4 x5 x6 x7 hk=>by
  have:=hc (0::(A++B)) chk st [some (aR s),some (.tup false [.int w0, .int m1, .int m2]),some (.tup false [.int p.1, .int p.2.1, .int p.2.2]),x3,x4,x5,x6,x7] hl hk rfl rfl rfl;simpa only[aay,abd] using this
 have hch:∀chk st x3 x4 x5 x6 x7,Kept chk st->aB (Tn P (call P (n+1)) 1 [1,2,0] (.var 0) (some (.call 110 [.var 3, .var 1, .var 2, .var 0])) (.var 0) [some (aR s),some (.tup false [.int w0, .int m1, .int m2]),some (.tup false [.int p.1, .int p.2.1, .int p.2.2]),x3,x4,x5,x6,x7]) chk (C.map .int++D.map .int) st= .ok (((C++D).filter fit).map .int) st:=λchk st x3 x4 x5 x6 x7 hk=>by
  have:=hc (C++D) chk st [some (aR s),some (.tup false [.int w0, .int m1, .int m2]),some (.tup false [.int p.1, .int p.2.1, .int p.2.2]),x3,x4,x5,x6,x7] hh hk rfl rfl rfl;simpa only[abd] using this
 unfold iB;generalize (0::(A++B)).filter fit=X at*;generalize (C++D).filter fit=Y at*
 have n1:1+A.length<=10000:=by lia
 have n2:A.length+1+B.length<=10000:=by lia
 have n2':A.length+B.length+1<=10000:=by lia
 have n3:C.length+D.length<=10000:=by lia
 simp[ep,cv F.toFShip,jb F.toFShip,ja F.toFShip,b0,b1,k0,kk,e1,e1',e2,e2',cJ,ck,q1,q2,new,T.low,n1,n2,n2'];rw[hcl _ _ _ _ _ _ _ (iT (by rw[kf];rfl))];simp[new,T.low,n3];rw[hch _ _ _ _ _ _ _ (iT (by rw[kf];rfl))];have f:∀v g,v.tree=true->fin P st v (st++g)= .ok v st:=λv g h=>dU P st _ v h
 cases X with
 |nil=>simp[f]
 |cons x X=>
  have nx:∀Z:List Int,(((Z.length:Int)+1)==0)=false:=λZ=>by rw[acR];lia
  have ny:∀Z:List Int,decide (0<(Z.length:Int)+1)=true:=λZ=>by rw[ab5];lia
  cases Y with
  |nil=>simp[f,nx]
  |cons y Y=>simp[f,nx,ny]
theorem nO (K:Nat):∀xs:List Int,(∀x∈xs,x.natAbs<=K)->xs.sum.natAbs<=xs.length*K
 |[],_=>by simp
 |x::xs,h=>by
  have h1:=h x (by simp);have h2:=nO K xs λy hy=>h y (by simp[hy]);rw[List.sum_cons,aaw,Nat.succ_mul];lia
theorem uO {a b:Int} (h:fg a) (h':fg b):(a*b).natAbs<=2^400:=by
 rw[Int.natAbs_mul,show (2:Nat)^400=2^200*2^200 by decide+kernel];exact Nat.mul_le_mul (abf h) (abf h')
theorem qD {m a b:Int} (hm:m.natAbs<=64*2^400) (h0:0<=b) (hb:b<=m.natAbs+1):(∀x∈bJ m a b,big (x-1)/\big x/\big (x+1))/\∀x∈bV m a b,big (x-1)/\big x/\big (x+1):=by
 have hk:(2*(64*2^400)+2)+1<2^1000:=by decide+kernel
 generalize 64*2^400=K at hm hk;have key:∀x:Int,x.natAbs<=2*K+1->big (x-1)/\big x/\big (x+1):=λx hx=>⟨ab0 (show (x-1).natAbs<=2*K+2+1 by lia) hk,ab0 (show x.natAbs<=2*K+2+1 by lia) hk,ab0 (show (x+1).natAbs<=2*K+2+1 by lia) hk⟩;have d:∀y c:Int,y.natAbs<=2*K+1->(y/c).natAbs<=2*K+1:=λy c h=>aaL (Int.natAbs_ediv_le_natAbs y c) h;have d1:=λc=>d (b+m) c (by lia);have d2:=λc=>d (b-m) c (by lia);unfold bJ bV
 by_cases a0:a=0
 ·simp[a0]
 ·by_cases ap:0<a
  ·simp only[a0,ap,abQ,abi,aaD];exact⟨λx e=>e▸key _ (by have:=d1 a;lia),λx e=>e▸key _ (d2 a)⟩
  ·simp only[a0,ap,abi,aaD];exact⟨λx e=>e▸key _ (by have:=d2 (-a);lia),λx e=>e▸key _ (d1 (-a))⟩
def ren (q:Str×(Cell×Bx)):Cell×Bx:=(q.2.1,{q.2.2 with name:=q.1})
theorem vS:∀(N:List Str) (L:List (Cell×Bx)),eD (N.map .str) (L.map aK)=(N.zip L).map λq=> .tup false [.str q.1,aK q.2]
 |[],_=>rfl
 |_::_,[]=>rfl
 |x::N,p::L=>by simp[eD,vS N L]
theorem n8 {α β:Type}:∀(N:List α) (L:List β),L.length<=N.length->(N.zip L).map (λq=>q.2)=L
 |_,[],_=>by simp
 |[],_::_,h=>by simp at h
 |x::N,p::L,h=>by simp[n8 N L (by simpa using h)]
theorem uV {α β:Type}:∀(N:List α) (L:List β),(N.zip L).map (λq=>q.1)=N.take L.length
 |_,[]=>by simp
 |[],_::_=>by simp
 |x::N,p::L=>by simp[uV N L]
def cy (N:List Str) (L:List (Cell×Bx)):List (Cell×Bx):=(N.zip L).map ren
theorem oY {N:List Str} {L:List (Cell×Bx)} (h:L.length<=N.length):(cy N L).map (λp=>p.1)=L.map λp=>p.1:=by
 have:=congrArg (List.map λp:Cell×Bx=>p.1) (n8 N L h);rw[aa6] at this;unfold cy;rw[aa6];exact this
theorem uS {N:List Str} {L:List (Cell×Bx)} (h:L.length<=N.length) (f:Cell->Int->Int):(cy N L).map (λp=>f p.1 p.2.w)=L.map λp=>f p.1 p.2.w:=by
 have:=congrArg (List.map λp:Cell×Bx=>f p.1 p.2.w) (n8 N L h);rw[aa6] at this;unfold cy;rw[aa6];exact this
theorem pN {N:List Str} {L:List (Cell×Bx)}:(cy N L).map (λp=>p.2.name)=N.take L.length:=by
 rw[←uV N L];unfold cy;rw[aa6];rfl
theorem nR {N:List Str} {L:List (Cell×Bx)} {q:Cell×Bx} (h:q∈cy N L):∃p∈L,q.1=p.1/\q.2.w=p.2.w:=by
 let⟨r,hr,rfl⟩:=aaT.mp h;exact⟨r.2,(acJ hr).2,rfl,rfl⟩
theorem DW {N:List Str} {L:List (Cell×Bx)} (h:L.length<=N.length) {p:Cell×Bx} (hp:p∈L):∃q∈cy N L,q.1=p.1:=by
 have:p.1∈(cy N L).map λp=>p.1:=by rw[oY h];exact aaT.mpr ⟨p,hp,rfl⟩
 let⟨q,hq,e⟩:=aaT.mp this;exact⟨q,hq,e⟩
theorem GZ {s:Sh} {N:List Str} {L:List (Cell×Bx)} (h:cT s L) (hl:L.length<=N.length) (hn:N.Nodup):cT s (cy N L):=by
 let⟨h1,h2,h3,h4,h5⟩:=h;refine⟨by unfold cy;simp;lia,by rw[oY hl];exact h2,by rw[pN];exact hn.sublist (List.take_sublist _ _),λq hq=> ?_,λq hq=> ?_⟩
 ·let⟨p,hp,e,_⟩:=nR hq;rw[e];exact h4 p hp
 ·let⟨p,hp,e,_⟩:=nR hq;rw[e]
  rcases h5 p hp with z|⟨r,hr,e2⟩
  ·exact .inl z
  ·let⟨r',hr',e3⟩:=DW hl hr;exact .inr ⟨r',hr',e3.trans e2⟩
theorem EX {s:Sh} {N:List Str} {L:List (Cell×Bx)} (h:iy s L):iy s (cy N L):=λq hq=>by
 let⟨p,hp,e,e2⟩:=nR hq;rw[e,e2];exact h p hp
theorem AR {P:Pg} (cl:au) (N:List Str) (L:List (Cell×Bx)) (chk:List (Nat×Ob)) (st:aa) (hk:Kept chk st) (env:Env):aB (Tn P cl 3 [] (.tup [.var 0, .tup [.var 1, .var 2]]) none (.tup [.var 1, .bin .Add (.tup [.var 0]) (.slc (.var 2) (some (.ci 1)) none)]) env) chk (eD (N.map .str) (L.map aK)) st= .ok ((cy N L).map aK) st:=by
 unfold cy;rw[vS,aa6];refine comp_map hk _ _ _ λq _=> ?_;simp[Tn,aO,av,aK,aW,ren,cut,bY]
noncomputable def ik:List S:=[.ife (.and (.cmp .IsNot (.var 11) (.const (.non))) (.cmp .Lt (.call 39 [.var 6, .var 9]) (.idx (.call 12 [.var 3, .var 9]) (.ci 0)))) [.set (.var 5) (.tup [.idx (.var 2) (.ci 8), .var 11, .ci 0, .ci 0, .const (.str "dry"), .ci 1]), .ife (.cmp .IsNot (.call 83 [.make 10 [.var 3, .bin .Add (.var 4) (.lst [.tup [.bin .Add (.var 9) (.tup [.call 39 [.var 6, .var 9]]), .var 5]])]]) (.const (.bl true))) [.ret (.const (.bl false))] []] []]
structure Rd (sh:Sh) (N:List Str) (L:List (Cell×Bx)) (p:Pn) (y:Sk):Prop where
 ok:sh.Ok
 bg:sh.gY
 ld:cT sh L
 ce:iy sh L
 hy:sh.sk? p.1 p.2.1=some y
 hd:p.2.2=0∨p.2.2=1
 len:N.length=9
 nl:L.length<=8
 nd:N.Nodup
 nm:(L.map λq=>q.2.name)=N.take L.length
abbrev oA (sh:Sh) (L:List (Cell×Bx)) (p:Pn):Int->Bool:=eE (ba sh L) (aE sh (pc p)) sh.trim (aZ sh L) (az sh (pc p)) sh.heel
theorem ym {sh:Sh} {L:List (Cell×Bx)} {p:Pn} (T:Int) (b:Bx) (h:oA sh L p b.w=true):qe sh (bw (L++[(br p T,b)]))=true:=by
 let⟨_,m2,m3⟩:=rF (s:=sh) (i9 (L++[(br p T,b)]));unfold qe;rw[m2,m3];simp only[oA,eE,aag,ab5] at h
 have e1:ba sh (L++[(br p T,b)])=ba sh L+b.w*aE sh (pc p):=by
  unfold ba;rw[abd,List.sum_append];simp[br,pc,aE]
 have e2:aZ sh (L++[(br p T,b)])=aZ sh L+b.w*az sh (pc p):=by
  unfold aZ;rw[abd,List.sum_append];simp[br,pc,az]
 rw[e1,e2];simp[h.2.1,h.2.2]
abbrev wE (ns:List Int) (s:aa) (sh:Sh) (M:List (Cell×Bx)) (p:Pn) (x7 x10 x5 x11:Option Val):Env:=[some (bT ns),some (.ref 0),some (.ref (s.length+1)),some (aR sh),some (.ref (s.length+1+1)),x5,some (cG sh M),x7,some (.ref (s.length+2+1)),some (ax p),x10,x11]
abbrev wS (s:aa) (sh:Sh) (N:List Str) (L:List (Cell×Bx)) (z:Int) (g:aa):aa:= .lst [.int z]::(s++(.lst (N.map .str):: .lst (L.map aK):: .lst (sh.parts.map ax)::g))
theorem yq {P:Pg} (F:FW P) (n:Nat) (ns:List Int) (s:aa) (sh:Sh) (N:List Str) (L M:List (Cell×Bx)) (hM:M.Perm L) (p:Pn) (y:Sk) (R:Rd sh N L p y) (w z:Int) (hw:big w) (hf:oA sh L p w=true) (g:aa) (x5 x7 x10:Option Val):
  ∃g' y5,aN P (call P (n+8)) ik (wE ns s sh M p x7 x10 x5 (some (.int w))) (wS s sh N L z g)= .next (wE ns s sh M p x7 x10 y5 (some (.int w))) (wS s sh N L z g'):=by
 have tM:eV M p (y.pt p.2.2).c=eV L p (y.pt p.2.2).c:=by
  unfold eV;congr 1;refine List.filter_congr λt _=> ?_;rw[aaS,gh,gh];simp only[hM.mem_iff]
 have q1:=λst=>Fy F.toFLoad F.f11 F.f39 (n+3) sh R.ok M p y st R.hy R.hd;have q2:=λst=>fO F.toFPart (n+5) sh false p.1 p.2.1 p.2.2 y st R.hy R.hd;have ep:ax p= .tup false [.int p.1, .int p.2.1, .int p.2.2]:=rfl;have ec:fh (y.pt p.2.2)= .tup false [.int (y.pt p.2.2).c, .int (y.pt p.2.2).s, .int (y.pt p.2.2).h, .tup true ((y.pt p.2.2).p.map .int), .int (y.pt p.2.2).l]:=rfl;rw[←ep,ec] at q2;rw[tM] at q1;unfold ik
 by_cases ht:(eV L p (y.pt p.2.2).c:Int)<(y.pt p.2.2).c
 ·obtain⟨x,hx⟩:∃x,N[8]?=some x:=⟨_,aae (by rw[R.len];lia)⟩;let⟨_,hx'⟩:=aac.mp hx
  have ld:=DQ R.ld (by have:=R.nl;lia) p y R.hy R.hd ⟨x,w,0,0,"dry",1⟩ (by
   rw[R.nm];intro hm;let⟨i,hi,e⟩:=List.getElem_of_mem hm;rw[List.getElem_take] at e;simp at hi;have:=R.nl;have:=(List.getElem_inj R.nd).mp (e.trans hx'.symm)
   lia) ht
  have q3:=λv st h=>um F.toFLoad (n+2) sh (L++[(br p (eV L p (y.pt p.2.2).c),⟨x,w,0,0,"dry",1⟩)]) v st h ld
  have q4:=λst=>Dq F.toFMom F.f83 (n+2) sh R.bg (bw (L++[(br p (eV L p (y.pt p.2.2).c),⟨x,w,0,0,"dry",1⟩)])) (λq hq=>by
   rcases aaz.mp ((i9 _).mem_iff.mp hq) with hq|hq
   ·exact R.ce q hq
   ·simp at hq;subst hq
    exact⟨⟨y,R.hy⟩,R.hd,hw⟩) st
  rw[ym _ _ hf] at q4;generalize eV L p (y.pt p.2.2).c=T at*
  have hl:L.length+1<=10000:=by have:=R.nl;lia
  have q5:∀st,jn (ax p) (.tup false [.int T]) st= .ok (aP (br p T)) st:=λst=>by simp[ax,aP,br]
  simp[wE,wS,q1,q2,ht,hx,hx',R.len,new,q5,hl];rw[q3 _ _ (by simp[aK,aW])];simp[q4]
 ·simp[wE,wS,q1,q2,ht]
theorem E0 {P:Pg} (F:FW P) (n:Nat) (ns:List Int) (s:aa) (sh:Sh) (N:List Str) (L M:List (Cell×Bx)) (hM:M.Perm L) (p:Pn) (y:Sk) (R:Rd sh N L p y) (z l:Int) (o:Option Int) (hl:big l/\oA sh L p l=true) (ho:∀x,o=some x->big x/\oA sh L p x=true) (g:aa) (x5 x7 x10 x11:Option Val):
  ∃g' y5 y11,forL (.var 11) (eB P (call P (n+8)) ik) [] [.int l,oI o] (wE ns s sh M p x7 x10 x5 x11) (wS s sh N L z g)= .next (wE ns s sh M p x7 x10 y5 y11) (wS s sh N L z g'):=by
 have tn:∀v,T.put v (wE ns s sh M p x7 x10 x5 x11) (.var 11)=some (wE ns s sh M p x7 x10 x5 (some v)):=λv=>by simp[wE]
 let⟨g1,y5,e1⟩:=yq F n ns s sh N L M hM p y R l z hl.1 hl.2 g x5 x7 x10;rw[j7 (aT _),tn]
 have e1':eB P (call P (n+8)) ik (wE ns s sh M p x7 x10 x5 (some (.int l))) (wS s sh N L z g)= .next (wE ns s sh M p x7 x10 y5 (some (.int l))) (wS s sh N L z g1):=e1
 simp only[k9,j3,e1',jX,Nk];rw[j7 (aT _)]
 have tn2:∀v,T.put v (wE ns s sh M p x7 x10 y5 (some (.int l))) (.var 11)=some (wE ns s sh M p x7 x10 y5 (some v)):=λv=>by simp[wE]
 rw[tn2]
 cases o with
 |some x=>
  let⟨g2,y5',e2⟩:=yq F n ns s sh N L M hM p y R x z (ho x rfl).1 (ho x rfl).2 g1 y5 x7 x10
  have e2':eB P (call P (n+8)) ik (wE ns s sh M p x7 x10 y5 (some (.int x))) (wS s sh N L z g1)= .next (wE ns s sh M p x7 x10 y5' (some (.int x))) (wS s sh N L z g2):=e2
  simp only[k9,j3,ox,e2',jX,Nk,lG (aT _)];exact⟨_,_,_,rfl⟩
 |none=>
  have e2':eB P (call P (n+8)) ik (wE ns s sh M p x7 x10 y5 (some .non)) (wS s sh N L z g1)= .next (wE ns s sh M p x7 x10 y5 (some .non)) (wS s sh N L z g1):=by
   unfold eB ik;simp[wE]
  simp only[k9,j3,uX,e2',jX,Nk,lG (aT _)];exact⟨_,_,_,rfl⟩
theorem AY {fit:Int->Bool} {Lo Hi:List Int} {l:Int} {g:Option Int} (h:iB fit Lo Hi=some (l,g)):l∈0::Lo/\∀x,g=some x->x∈Hi:=by
 unfold iB at h;let⟨a,e,h⟩:=aab.mp h;cases h;exact⟨(abp.mp (abj.mp e).1).1,λx e=>(abp.mp (abH.mp e).1).1⟩
theorem AW {P:Pg} (F:FW P) (n:Nat) (ns:List Int) (z:Int) (s:aa) (z0:0<=z) (z1:z<2^49):∃z',z<=z'/\z'<=z+1200/\call P (n+9) 114 [bT ns, .ref 0] (.lst [.int z]::s)= .ok (.bl true) (.lst [.int z']::s):=by
 rw[aj F.f114 _ _ _ rfl];unfold Cf;let⟨N,n1,n2,q1⟩:=rM F.toFG (n+6) ns z s 9 (by lia) z0 (by lia);obtain⟨S,hS⟩:∃S,S=s++[.lst (N.map .str)]:=⟨_,rfl⟩;rw[←hS] at q1;have q2:=bN F.toFG (n+7) ns (z+1) S (by lia) (by lia);have hr:=dA ns (z+1+1);obtain⟨c,hc⟩:∃c:Nat,(c:Int)=bI ns (z+1+1) % 9:=⟨(bI ns (z+1+1) % 9).toNat,by lia⟩;let⟨sh,L0,z',o1,o2,o3,o4,wd,a1,a2,q3⟩:=wu F.toFG n ns S c (by lia) (z+1+1) (by lia) (by lia);rw[hc] at q3
 have l0:L0.length<=8:=by have:=wd.len;lia
 have l1:L0.length<=N.length:=by lia
 have ld:=GZ (N:=N) o3 l1 n2;have ce:=EX (N:=N) o4;have sA:ba sh (cy N L0)=ba sh L0:=congrArg List.sum (uS l1 λc w=>w*aE sh c);have sC:aZ sh (cy N L0)=aZ sh L0:=congrArg List.sum (uS l1 λc w=>w*az sh c)
 have bA:(ba sh L0).natAbs<=64*2^400:=aaL (nO (2^400) _ λx hx=>by
  let⟨q,hq,rfl⟩:=aaT.mp hx
  exact uO (wd.w q hq) (nF o2 _).1) (Nat.mul_le_mul_right _ (by simp;lia))
 have bC:(aZ sh L0).natAbs<=64*2^400:=aaL (nO (2^400) _ λx hx=>by
  let⟨q,hq,rfl⟩:=aaT.mp hx
  exact uO (wd.w q hq) (nF o2 _).2) (Nat.mul_le_mul_right _ (by simp;lia))
 have nmL:((cy N L0).map λq=>q.2.name)=N.take (cy N L0).length:=by
  rw[pN];unfold cy;simp;lia
 have lL:(cy N L0).length<=8:=by unfold cy;simp;lia
 have q4:=λenv=>AR (P:=P) (call P (n+8)) N L0 [(s.length+1, .lst (N.map .str))] (.lst [.int z']::S) (iT (by rw[hS];simp)) env
 have q4l:(eD (N.map .str) (L0.map aK)).length<=10000:=by rw[vS];simp;lia
 generalize cy N L0=L at*;have pm:=i9 L;have q5:=um F.toFLoad (n+2) sh L (.ref (S.length+1)) (.lst [.int z']::(S++[.lst (L.map aK)])) (by simp) ld;have q6:=u4 F.toFG (n+7) sh o2 L ce (by lia) (.ref (S.length+1)) (.lst [.int z']::(S++[.lst (L.map aK)])) (by simp);have q7:=bN F.toFG (n+7) ns z' (S++[.lst (L.map aK)]) (by lia) (by lia)
 have no3:∀b,sh.dH b 3 0=false:=λb=>by
  unfold Sh.dH
  cases e:sh.sk? b 3 with
  |none=>rfl
  |some y=>
   let⟨_,_,zz,e1,e2,_,k1⟩:=dr e;have:=wd.sks zz (aas e1);lia
 have no1:sh.dH 0 (-1) 1=false:=by simp[Sh.dH,Sh.sk?]
 have q8:=λb st=>mZ F (n+3) sh (bw L) b 3 0 st (no3 b);have q9:=λst=>mZ F (n+3) sh (bw L) 0 (-1) 1 st no1;have q10:=kQ F.toFPart (n+7) sh o1 (.lst [.int (z'+1)]::(S++[.lst (L.map aK)]));have q11:=bN F.toFG (n+7) ns (z'+1) (S++[.lst (L.map aK), .lst (sh.parts.map ax)]) (by lia) (by lia);have np:0<sh.parts.length:=acQ.mpr (tf o1);have r0:0<=bI ns (z'+1+1) % (sh.parts.length:Int):=abJ _ (by lia);have r1:bI ns (z'+1+1) % (sh.parts.length:Int)<sh.parts.length:=abl _ (by lia);obtain⟨p,hp⟩:∃p,sh.parts[(bI ns (z'+1+1) % (sh.parts.length:Int)).toNat]?=some p:=⟨_,aae (by lia)⟩;let⟨_,hp'⟩:=aac.mp hp;let⟨y,hy,hd⟩:=pB (aas hp);have R:Rd sh N L p y:=⟨o1,o2,ld,ce,hy,hd,n1,lL,n2,nmL⟩;have b1:=qD (a:=aE sh (pc p)) (m:=ba sh L) (b:=sh.trim) (by rw[sA];exact bA) o1.2.2.2.2.1 (by rw[sA];exact wd.trim);have b2:=qD (a:=az sh (pc p)) (m:=aZ sh L) (b:=sh.heel) (by rw[sC];exact bC) o1.2.2.2.2.2 (by rw[sC];exact wd.heel)
 have bl:∀x∈0::(bJ (ba sh L) (aE sh (pc p)) sh.trim++bJ (aZ sh L) (az sh (pc p)) sh.heel),big (x-1)/\big x/\big (x+1):=λx hx=>by
  rcases aap.mp hx with rfl|hx
  ·unfold big;decide+kernel
  ·rcases aaz.mp hx with hx|hx
   ·exact b1.1 x hx
   ·exact b2.1 x hx
 have bh:∀x∈bV (ba sh L) (aE sh (pc p)) sh.trim++bV (aZ sh L) (az sh (pc p)) sh.heel,big (x-1)/\big x/\big (x+1):=λx hx=>by
  rcases aaz.mp hx with hx|hx
  ·exact b1.2 x hx
  ·exact b2.2 x hx
 have q12:=λst=>Ew F (n+6) sh o2 p y hy (jk L) (ba sh L) (aZ sh L) st (λx hx=>(bl x hx).2.1) λx hx=>(bh x hx).2.1;have q13:=λst=>qa F (n+2) sh o2 (bw L) (λq hq=>ce q (pm.mem_iff.mp hq)) p y hy hd st;let⟨m1,m2,m3⟩:=rF (s:=sh) pm;rw[m2,m3] at q13;have sp:=vj (rN (ba sh L) (aE sh (pc p)) sh.trim (aZ sh L) (az sh (pc p)) sh.heel);have dm:=λl g=>AY (fit:=oA sh L p) (Lo:=bJ (ba sh L) (aE sh (pc p)) sh.trim++bJ (aZ sh L) (az sh (pc p)) sh.heel) (Hi:=bV (ba sh L) (aE sh (pc p)) sh.trim++bV (aZ sh L) (az sh (pc p)) sh.heel) (l:=l) (g:=g);generalize bJ (ba sh L) (aE sh (pc p)) sh.trim++bJ (aZ sh L) (az sh (pc p)) sh.heel=Lo at*;generalize bV (ba sh L) (aE sh (pc p)) sh.trim++bV (aZ sh L) (az sh (pc p)) sh.heel=Hi at*;have q14:=λw hw st=>uM F (n+7) sh o2 p y hy (jk L) (ba sh L) (aZ sh L) w hw st;have q15:=λr st=>AI F (n+6) r st;simp only[jo] at q6
 have ln:L0.length<=9:=by lia
 simp[hS] at q1 q2 q3 q4 q5 q6 q7 q10 q11;simp[q1,q2,q3,ln,n1,q4,q4l,T.low,lows,new,q5,q6,q7,q8,q9,q10,q11,np,r0,r1,hp,hp',q12,q13,q15];have fA:∀g,fin P (.lst [.int z]::s) (.bl true) (.lst [.int (z'+1+1)]::(s++g))= .ok (.bl true) (.lst [.int (z'+1+1)]::s):=λg=>md P z _ s g _ (by simp)
 cases hr:iB (eE (ba sh L) (aE sh (pc p)) sh.trim (aZ sh L) (az sh (pc p)) sh.heel) Lo Hi with
 |none=>
  simp;exact⟨z'+1+1,by lia,by lia,fA _⟩
 |some r=>
  let⟨l,g⟩:=r;rw[hr] at sp;let⟨d1,d2⟩:=dm l g hr;let⟨s1,s2,s3⟩:=sp;have k1:=q14 (l-1) (bl l d1).1;rw[show eE (ba sh L) (aE sh (pc p)) sh.trim (aZ sh L) (az sh (pc p)) sh.heel (l-1)=false from Bool.eq_false_iff.mpr λe=>by have:=s2 _ e;lia] at k1;let⟨g',y5,y11,e⟩:=E0 F n ns s sh N L (bw L) pm p y R (z'+1+1) l g ⟨(bl l d1).2.1,s1⟩ (λx e=>by subst e;exact⟨(bh x (d2 x rfl)).2.1,s3.1⟩) [] none (some (.tup false [.int (jk L), .int (ba sh L), .int (aZ sh L)])) (some (.tup false [.int l,oI g])) none;simp only[wE,wS,ik] at e
  cases g with
  |none=>
   simp only[uX] at e;simp[k1,-sL];rw[e];simp;exact⟨z'+1+1,by lia,by lia,fA _⟩
  |some x=>
   have k2:=q14 (x+1) (bh x (d2 x rfl)).2.2;rw[show eE (ba sh L) (aE sh (pc p)) sh.trim (aZ sh L) (az sh (pc p)) sh.heel (x+1)=false from Bool.eq_false_iff.mpr λe=>by have:=s3.2 _ e;lia] at k2;simp only[ox] at e;simp[k1,k2,-sL];rw[e];simp;exact⟨z'+1+1,by lia,by lia,fA _⟩
def Lu (ns:List Int) (i:Nat) (env:Env) (st:aa):Prop:=(∃z rest,st= .lst [.int z]::rest/\0<=z/\z<=1200*i)/\∃x2,env=[some (bT ns),some (.ref 0),x2]
theorem z8 {P:Pg} (F:FW P) (h115:P.fn 115=some B1) (n:Nat) (ns:List Int) (hn:ns.length<=63):call P (n+10) 115 [bT ns] []= .ok (.bl true) []:=by
 rw[aj h115 _ _ _ rfl];unfold B1
 have hl:(cut (ns.map Val.int) none (some 63)).length=ns.length:=by
  simp[cut,bY];lia
 have hb:(1+(ns.length:Int)/21)<16777216:=by lia
 have hb2:0<=(1+(ns.length:Int)/21):=by lia
 simp[new,hl,hb,hb2]
 let⟨env',st',e,hI⟩:=qJ (t:= .var 2) (body:=eB P (call P (n+9)) [.ife (.not (.call 114 [.var 0, .var 1])) [.ret (.const (.bl false))] []]) (chk:=[]) (Lu ns) (bu 0 (1+(ns.length:Int)/21).toNat) [some (bT ns),some (.ref 0),none]
  [.lst [.int 0], .lst (cut (ns.map .int) none (some 63))] ⟨⟨0,_,rfl,by lia,by lia⟩,_,rfl⟩ (λ_ _ st _=>aT st) λi v env st e hI=>by
   let⟨rfl,li⟩:=sI _ _ _ _ e;let⟨⟨z,s,rfl,z0,z1⟩,x2,rfl⟩:=hI;let⟨z',a1,a2,q⟩:=AW F n ns z s z0 (by lia);refine⟨[some (bT ns),some (.ref 0),some (.int (0+i))],by simp,[some (bT ns),some (.ref 0),some (.int (0+i))], .lst [.int z']::s, .inl ?_,⟨z',s,rfl,by lia,by push_cast;lia⟩,_,rfl⟩;unfold eB;simp[q]
 rw[e];simp
end PI
namespace K14
open PySem PI L2
noncomputable def tp (i:Nat):Stmt:=PySem.Challenge.pw_stowhold_k14_makeweight.main.body.getD i (.Pass ⟨0,0,0,0⟩)
def mt (i j:Nat):Stmt:=match tp i with
 | .ClassDef _ _ _ b _ _ _ _ _ _ _=>b.getD j (.Pass ⟨0,0,0,0⟩)
 |s=>s
theorem lc {Q:List Value->Prop} {n:Nat} (h:∀a us,us.length=n->Q (a::us)) (us:List Value) (e:us.length=n+1):Q us:=by
 cases us with
 |nil=>cases e
 |cons a us=>exact h a us (Nat.succ.inj e)
theorem l0 {Q:List Value->Prop} (h:Q []) (us:List Value) (e:us.length=0):Q us:=by
 cases us with
 |nil=>exact h
 |cons a us=>cases e
noncomputable def dt:Dt:=⟨[(("StowError":Str),(Gv.err 0:Gv)),(("NoShip":Str),(Gv.err 1:Gv)),(("OutOfShip":Str),(Gv.err 2:Gv)),(("NoLoad":Str),(Gv.err 3:Gv)),(("MOST_CELLS":Str),(Gv.val (.int 9):Gv)),(("Ship":Str),(Gv.cls 9 true:Gv)),(("kept_bay":Str),(Gv.fn 4:Gv)),(("kept_stack":Str),(Gv.fn 5:Gv)),(("kept_part":Str),(Gv.fn 6:Gv)),(("checked_part":Str),(Gv.fn 7:Gv)),(("rising_below":Str),(Gv.fn 8:Gv)),(("parts_of":Str),(Gv.fn 9:Gv)),(("cells_of_part":Str),(Gv.fn 11:Gv)),(("part_at":Str),(Gv.fn 12:Gv)),(("arms_at":Str),(Gv.fn 80:Gv)),(("stack_at":Str),(Gv.fn 13:Gv)),(("has_part":Str),(Gv.fn 14:Gv)),(("has_cell":Str),(Gv.fn 31:Gv)),(("cell_order":Str),(Gv.fn 32:Gv)),(("Load":Str),(Gv.cls 10 true:Gv)),(("pair_order":Str),(Gv.fn 34:Gv)),(("check_load":Str),(Gv.fn 35:Gv)),(("stands_on_something":Str),(Gv.fn 36:Gv)),(("box_at":Str),(Gv.fn 37:Gv)),(("top_of":Str),(Gv.fn 39:Gv)),(("moments":Str),(Gv.fn 81:Gv)),(("with_weight":Str),(Gv.fn 82:Gv)),(("even":Str),(Gv.fn 83:Gv)),(("makeweight":Str),(Gv.fn 106:Gv)),(("weights_within":Str),(Gv.fn 107:Gv)),(("common_weights":Str),(Gv.fn 108:Gv)),(("_law_next":Str),(Gv.fn 84:Gv)),(("_law_great":Str),(Gv.fn 85:Gv)),(("_law_names":Str),(Gv.fn 86:Gv)),(("_law_part":Str),(Gv.fn 87:Gv)),(("_law_ship":Str),(Gv.fn 88:Gv)),(("_law_box":Str),(Gv.fn 89:Gv)),(("_law_boxes":Str),(Gv.fn 90:Gv)),(("_law_placed":Str),(Gv.fn 91:Gv)),(("_law_same":Str),(Gv.fn 109:Gv)),(("_law_far":Str),(Gv.fn 93:Gv)),(("_law_armed":Str),(Gv.fn 94:Gv)),(("_law_sums":Str),(Gv.fn 95:Gv)),(("_law_bound":Str),(Gv.fn 96:Gv)),(("_law_heavy":Str),(Gv.fn 97:Gv)),(("_law_weighed":Str),(Gv.fn 98:Gv)),(("_law_fits":Str),(Gv.fn 110:Gv)),(("_law_ends":Str),(Gv.fn 111:Gv)),(("_law_due":Str),(Gv.fn 112:Gv)),(("_law_refused":Str),(Gv.fn 113:Gv)),(("_law_round":Str),(Gv.fn 114:Gv)),(("law":Str),(Gv.fn 115:Gv))],["len","abs","int","tuple","list","all","sum","max","min","isinstance","bool","str","dict","range","zip","sorted","ValueError"],["bays","foes","trim","heel","ship","placed","box_by_cell","cell_by_name"],["OutOfShip"],["box_by_cell","cell_by_name"]⟩
def d3:Df:=⟨3,some "Ship","__init__","Ship.__init__",mt 7 0,["self","bays","foes","trim","heel"]⟩
def d4:Df:=⟨4,none,"kept_bay","kept_bay",tp 8,["bay"]⟩
def d5:Df:=⟨5,none,"kept_stack","kept_stack",tp 9,["stack"]⟩
def d6:Df:=⟨6,none,"kept_part","kept_part",tp 10,["part"]⟩
def d7:Df:=⟨7,none,"checked_part","checked_part",tp 11,["cells","strength","height","plugs","lash"]⟩
def d8:Df:=⟨8,none,"rising_below","rising_below",tp 12,["numbers","end"]⟩
def d9:Df:=⟨9,none,"parts_of","parts_of",tp 13,["ship"]⟩
def d11:Df:=⟨11,none,"cells_of_part","cells_of_part",tp 14,["ship","part"]⟩
def d12:Df:=⟨12,none,"part_at","part_at",tp 15,["ship","part"]⟩
def d80:Df:=⟨80,none,"arms_at","arms_at",tp 16,["ship","part"]⟩
def d13:Df:=⟨13,none,"stack_at","stack_at",tp 17,["ship","part"]⟩
def d14:Df:=⟨14,none,"has_part","has_part",tp 18,["ship","part"]⟩
def d31:Df:=⟨31,none,"has_cell","has_cell",tp 19,["ship","cell"]⟩
def d32:Df:=⟨32,none,"cell_order","cell_order",tp 20,["cell"]⟩
def d33:Df:=⟨33,some "Load","__init__","Load.__init__",mt 22 0,["self","ship","placed"]⟩
def d34:Df:=⟨34,none,"pair_order","pair_order",tp 23,["pair"]⟩
def d35:Df:=⟨35,none,"check_load","check_load",tp 24,["load"]⟩
def d36:Df:=⟨36,none,"stands_on_something","stands_on_something",tp 25,["load","cell"]⟩
def d37:Df:=⟨37,none,"box_at","box_at",tp 26,["load","cell"]⟩
def d39:Df:=⟨39,none,"top_of","top_of",tp 27,["load","part"]⟩
def d81:Df:=⟨81,none,"moments","moments",tp 29,["load"]⟩
def d82:Df:=⟨82,none,"with_weight","with_weight",tp 30,["ship","told","cell","weight"]⟩
def d83:Df:=⟨83,none,"even","even",tp 31,["load"]⟩
def Kj:Df:=⟨106,none,"makeweight","makeweight",tp 32,["load","part"]⟩
def KW:Df:=⟨107,none,"weights_within","weights_within",tp 33,["moment","arm","bound"]⟩
def Km:Df:=⟨108,none,"common_weights","common_weights",tp 34,["one","other"]⟩
def d84:Df:=⟨84,none,"_law_next","_law_next",tp 36,["_law_script","_law_at"]⟩
def d85:Df:=⟨85,none,"_law_great","_law_great",tp 37,["_law_script","_law_at","_law_room"]⟩
def d86:Df:=⟨86,none,"_law_names","_law_names",tp 38,["_law_script","_law_at","_law_many"]⟩
def d87:Df:=⟨87,none,"_law_part","_law_part",tp 39,["_law_script","_law_at","_law_most"]⟩
def d88:Df:=⟨88,none,"_law_ship","_law_ship",tp 40,["_law_script","_law_at","_law_bays","_law_stacks","_law_cells"]⟩
def d89:Df:=⟨89,none,"_law_box","_law_box",tp 41,["_law_script","_law_at","_law_name"]⟩
def d90:Df:=⟨90,none,"_law_boxes","_law_boxes",tp 42,["_law_script","_law_at","_law_many"]⟩
def d91:Df:=⟨91,none,"_law_placed","_law_placed",tp 43,["_law_script","_law_at","_law_ship_here","_law_boxes_here"]⟩
def Kh:Df:=⟨109,none,"_law_same","_law_same",tp 44,["_law_found","_law_due_here"]⟩
def d93:Df:=⟨93,none,"_law_far","_law_far",tp 45,["_law_script","_law_at"]⟩
def d94:Df:=⟨94,none,"_law_armed","_law_armed",tp 46,["_law_script","_law_at","_law_ship_here"]⟩
def d95:Df:=⟨95,none,"_law_sums","_law_sums",tp 47,["_law_ship_here","_law_placed_here"]⟩
def d96:Df:=⟨96,none,"_law_bound","_law_bound",tp 48,["_law_m","_law_far_here"]⟩
def d97:Df:=⟨97,none,"_law_heavy","_law_heavy",tp 49,["_law_script","_law_at","_law_boxes_here"]⟩
def d98:Df:=⟨98,none,"_law_weighed","_law_weighed",tp 50,["_law_script","_law_at","_law_many"]⟩
def Kl:Df:=⟨110,none,"_law_fits","_law_fits",tp 51,["_law_ship_here","_law_due_here","_law_part_here","_law_weight"]⟩
def LA:Df:=⟨111,none,"_law_ends","_law_ends",tp 52,["_law_now","_law_arm","_law_bound_here"]⟩
def K0:Df:=⟨112,none,"_law_due","_law_due",tp 53,["_law_ship_here","_law_due_here","_law_part_here"]⟩
def Ml:Df:=⟨113,none,"_law_refused","_law_refused",tp 54,["_law_load","_law_part_here"]⟩
def Ma:Df:=⟨114,none,"_law_round","_law_round",tp 55,["_law_script","_law_at"]⟩
def Mc:Df:=⟨115,none,"law","law",tp 56,["_law_script"]⟩
def ds:List Df:=[d3,d4,d5,d6,d7,d8,d9,d11,d12,d80,d13,d14,d31,d32,d33,d34,d35,d36,d37,d39,d81,d82,d83,Kj,KW,Km,d84,d85,d86,d87,d88,d89,d90,d91,Kh,d93,d94,d95,d96,d97,d98,Kl,LA,K0,Ml,Ma,Mc]
set_option maxHeartbeats 0 in
theorem LQ:∀d∈ds,DS dt d:=by
 repeat' first|exact oz|refine lO ⟨λ_ _ _ _ _ _=> ?_,by decide+kernel,by decide+kernel⟩ ?_
 all_goals repeat' first|exact l0 rfl|refine lc λ_=> ?_
noncomputable def cls:List (Nat×Cl):=[(0,⟨[],none,[],[0,1000],true,false⟩),(1,⟨[],none,[],[1,0,1000],true,false⟩),(2,⟨[],none,[],[2,0,1000],true,false⟩),(3,⟨[],none,[],[3,0,1000],true,false⟩),(9,⟨["bays","foes","trim","heel"],some 3,[],[9],false,false⟩),(10,⟨["ship","placed","box_by_cell","cell_by_name"],some 33,[],[10],false,false⟩)]
noncomputable def cn:List (Nat×Str):=[(0,"StowError"),(1,"NoShip"),(2,"OutOfShip"),(3,"NoLoad"),(9,"Ship"),(10,"Load")]
def xc (c:Nat):Bool:=((cls.lookup c).map (·.exc)).getD false
noncomputable abbrev pg:Pg:=fu dt ds cls 0
end K14
namespace K14
open PySem PI
set_option maxHeartbeats 0 in
theorem fw:PI.FW pg:=by repeat' first|with_unfolding_all rfl|decide+kernel|constructor
end K14
section
set_option maxHeartbeats 0
namespace Hd
open PySem PySem.W PySem.Calls PyProof.Rows
noncomputable def fN {α:Type} (n:Nat) (k:Nat->α):α:= @Nat.rec (λ_=>α) (k 0) (λm _=>k (Nat.succ m)) n
theorem B8 {α:Type} (n:Nat) (k:Nat->α):fN n k=k n:=by cases n<;>rfl
noncomputable def ev:List Obj->List Obj
 |a::_::r=>a::ev r
 |l=>l
noncomputable def od:List Obj->List Obj
 |_::b::r=>b::od r
 |_=>[]
noncomputable def Ey:Nat->List Obj->BT
 |0,_=> .nil
 |_+1,[]=> .nil
 |n+1,x::r=> .node x (Ey n (ev r)) (Ey n (od r))
noncomputable def wq (tb:String->Option Builtin) (p:Program) (w:World) (n₀:Nat) (ann:Option Value) (os:OsState):Nat->SharedT->Thread->Option SharedT:=
 λN=> @Nat.rec (λ_=>SharedT->Thread->Option SharedT) (λ_ _=>none) (λ_ ih s t=>match through t with
  |true=>some s
  |false=>match stepOk n₀ ann t with
   |false=>none
   |true=>match stepT (denote tb) p w s t with
    |none=>none
    |some (⟨T,n,life,gens,drawn,toks,_⟩,t')=>fN n λn=>fN toks λtoks=>match gens,drawn with
     |⟨l⟩,⟨a,b,c,d⟩=>ih ⟨T,n,life,⟨l⟩,⟨a,b,c,d⟩,toks,os⟩ t') N
theorem tW {tb:String->Option Builtin} {p:Program} {w:World} {n₀:Nat} {ann:Option Value} {os:OsState}:∀{N:Nat} {s r:SharedT} {t:Thread},s.os=os->wq tb p w n₀ ann os N s t=some r->topRun tb p w n₀ ann N s.abs t=some r.abs/\r.os=os
 |0,s,r,t,_,h=>by cases h
 |N+1,s,r,t,ho,h=>by
  unfold topRun;unfold wq at h;dsimp only at h
  cases ht:through t with
  |true=>
   rw[ht] at h;cases h;exact⟨rfl,ho⟩
  |false=>
   rw[ht] at h
   cases hk:stepOk n₀ ann t with
   |false=>rw[hk] at h;cases h
   |true=>
    rw[hk] at h;dsimp only at h⊢
    cases hs:stepT (denote tb) p w s t with
    |none=>rw[hs] at h;cases h
    |some x=>
     let⟨⟨T,n,life,gens,drawn,toks,os'⟩,t'⟩:=x;rw[hs] at h;have e:=stepT_spec hs;rw[e];dsimp only at h⊢
     have eo:os'=os:=by
      have z:=step_os_same e (by
       unfold stepOk at hk
       revert hk
       cases t.cur<;>simp)
      exact(show os'=s.os from z).trans ho
     subst eo;rw[B8,B8] at h;cases gens;cases drawn;exact tW rfl h
theorem En {p:Program} {loose:List Str} {Xt:Shared->Bool} {α:Type} {Yf:Shared->α} {Ya:World->α} {N:Nat} {g0:Bool} {H₀:Params->Heap} {T0:Params->BT} {n0:Nat} {life0:Life} {k₀:Nat} {m₀:Nat} {ann:Option Value} {M:Nat}
  (open_:∀w:World,(fencedOpening treeTable p w N).map (λs=>(s.heap,s.gens,s.drawn,s.toks))=some (H₀ w.params,Array.mk [],d₀,k₀))
  (abs0:∀P,absHeap (T0 P) n0 life0=H₀ P)
  (size:∀w:World,((H₀ w.params).isNs mainGlobals&&(Array.mk []:Array GenState).size==0,(H₀ w.params).objs.size,(H₀ w.params).nsMap mainGlobals "__annotations__")=(true,m₀,ann))
  (le:Nat.ble M N=true)
  (run:∀(w:World) (os:OsState),(wq treeTable p w m₀ ann os M ⟨T0 w.params,n0,life0,Array.mk [],d₀,k₀,os⟩ (topStub p)).map (λr=>((staticsOk (importedModules p.main.body) (H₀ w.params) r.abs.heap&&namesBound p r.abs.heap&&gensDone r.abs&&laidKept (H₀ w.params) r.abs.heap),
    openSeen q loose (importedModules p.main.body) Xt g0 r.abs,Yf r.abs))=some (true,openGood q loose,Ya w)):LeftO p q loose Xt Yf Ya N g0:=λw=>by
 let⟨⟨h,gs,d,k,os⟩,e,e'⟩:=aab.mp (open_ w)
 obtain⟨rfl,rfl,rfl,rfl⟩:h=H₀ w.params/\gs=Array.mk []/\d=d₀/\k=k₀:=by simpa using e'
 obtain⟨z1,z2,z3⟩:_/\_/\_:=by simpa only[Prod.mk.injEq] using size w
 let⟨rT,hr,hl⟩:=aab.mp (run w os)
 obtain⟨l1,l2,l3⟩:_/\_/\_:=by simpa only[Prod.mk.injEq] using hl
 have hr':=(tW (os:=os) (s:=⟨T0 w.params,n0,life0,Array.mk [],d,k,os⟩) rfl hr).1
 have ea:SharedT.abs ⟨T0 w.params,n0,life0,Array.mk [],d,k,os⟩=⟨H₀ w.params,Array.mk [],d,k,os⟩:=by
  unfold SharedT.abs;rw[abs0]
 rw[ea] at hr';have r:=topRun_mono (N-M) _ _ _ _ hr';rw[show M+(N-M)=N by have:=Nat.le_of_ble_eq_true le;lia] at r
 have t:topFrom treeTable p w N ⟨H₀ w.params,Array.mk [],d,k,os⟩=some rT.abs:=by
  unfold topFrom;dsimp only;rw[z1,z2,z3,r]
  show (match staticsOk (importedModules p.main.body) (H₀ w.params) rT.abs.heap&&namesBound p rT.abs.heap&&gensDone rT.abs&&laidKept (H₀ w.params) rT.abs.heap with|true=>_|false=>_)=_
  rw[l1]
 unfold openEnds;rw[e];show (topFrom treeTable p w N _).map _=_;rw[t];exact congrArg some (Prod.ext l2 l3)
theorem LB {α β γ δ:Type} {x:Option α} {f:α->β} {g:α->γ} {k:α->δ} {a:β} {b:γ} {c:δ} (e1:x.map f=some a) (e2:x.map g=some b) (e3:x.map k=some c):x.map (λr=>(f r,g r,k r))=some (a,b,c):=by
 cases x with
 |none=>cases e1
 |some r=>cases e1;cases e2;cases e3;rfl
end Hd
namespace K14H
open PySem PySem.W PyProof.Rows
noncomputable abbrev pw:Program:=PySem.Challenge.pw_stowhold_k14_makeweight
noncomputable abbrev Pk {T:Type} (y:T):Type:=∀x:T,x=y->T
noncomputable def hp (i n:Nat):List Stmt:=(pw.main.body.drop i).take n
noncomputable def c0:List Stmt:=by refine(?f:Pk (hp 0 9)) [_,_,_,_,_,_,_,_,_] rfl;exact λx _=>x
noncomputable def c1:List Stmt:=by refine(?f:Pk (hp 9 4)) [_,_,_,_] rfl;exact λx _=>x
noncomputable def c2:List Stmt:=by refine(?f:Pk (hp 13 4)) [_,_,_,_] rfl;exact λx _=>x
noncomputable def c3:List Stmt:=by refine(?f:Pk (hp 17 4)) [_,_,_,_] rfl;exact λx _=>x
noncomputable def c4:List Stmt:=by refine(?f:Pk (hp 21 4)) [_,_,_,_] rfl;exact λx _=>x
noncomputable def c5:List Stmt:=by refine(?f:Pk (hp 25 5)) [_,_,_,_,_] rfl;exact λx _=>x
noncomputable def c6:List Stmt:=by refine(?f:Pk (hp 30 3)) [_,_,_] rfl;exact λx _=>x
noncomputable def c7:List Stmt:=by refine(?f:Pk (hp 33 3)) [_,_,_] rfl;exact λx _=>x
noncomputable def c8:List Stmt:=by refine(?f:Pk (hp 36 2)) [_,_] rfl;exact λx _=>x
noncomputable def c9:List Stmt:=by refine(?f:Pk (hp 38 2)) [_,_] rfl;exact λx _=>x
noncomputable def c10:List Stmt:=by refine(?f:Pk (hp 40 1)) [_] rfl;exact λx _=>x
noncomputable def c11:List Stmt:=by refine(?f:Pk (hp 41 3)) [_,_,_] rfl;exact λx _=>x
noncomputable def c12:List Stmt:=by refine(?f:Pk (hp 44 2)) [_,_] rfl;exact λx _=>x
noncomputable def c13:List Stmt:=by refine(?f:Pk (hp 46 3)) [_,_,_] rfl;exact λx _=>x
noncomputable def c14:List Stmt:=by refine(?f:Pk (hp 49 2)) [_,_] rfl;exact λx _=>x
noncomputable def c15:List Stmt:=by refine(?f:Pk (hp 51 2)) [_,_] rfl;exact λx _=>x
noncomputable def c16:List Stmt:=by refine(?f:Pk (hp 53 2)) [_,_] rfl;exact λx _=>x
noncomputable def c17:List Stmt:=by refine(?f:Pk (hp 55 2)) [_,_] rfl;exact λx _=>x
noncomputable def pv:Program:=by refine(?f:Pk pw) ⟨⟨c0++(c1++(c2++(c3++(c4++(c5++(c6++(c7++(c8++(c9++(c10++(c11++(c12++(c13++(c14++(c15++(c16++(c17))))))))))))))))),_,_,_,_⟩,_,_,_,_,_⟩ rfl;exact λx _=>x
theorem LV:pv=pv:=rfl
name_quick K14Hpv for K14H.pv by K14H.LV
noncomputable def _root_.PySem.W.Fast.tw132041152857728846:Program:=PySem.W.Fast.K14Hpv
theorem _root_.PySem.W.Fast.te132041152857728846:PySem.Challenge.pw_stowhold_k14_makeweight=PySem.W.Fast.tw132041152857728846:=(show PySem.Challenge.pw_stowhold_k14_makeweight=pv from rfl).trans PySem.W.Fast.K14Hpv_eq
noncomputable def tp (i:Nat):Stmt:=pw.main.body.getD i (.Pass ⟨0,0,0,0⟩)
noncomputable def vw:Program:={pw with main:={pw.main with body:=[tp 1,tp 2,tp 3,tp 4,tp 6,tp 7,tp 8,tp 9,tp 10,tp 11,tp 12,tp 13,tp 14,tp 15,tp 16,tp 17,tp 18,tp 19,tp 20,tp 22,tp 23,tp 24,tp 25,tp 26,tp 27,tp 29,tp 30,tp 31,tp 32,tp 33,tp 34,tp 36,tp 37,tp 38,tp 39,tp 40,tp 41,tp 42,tp 43,tp 44,tp 45,tp 46,tp 47,tp 48,tp 49,tp 50,tp 51,tp 52,tp 53,tp 54,tp 55,tp 56]}}
local macro_rules
 |`(tactic|o_head $H)=>do
  let hw:=Lean.mkIdent `hw
  let hc:=Lean.mkIdent `hc
  `(tactic|refine holds_open (q:=K14H.vw) (loose:=[]) (Xt:=λs=>xlAt K14H.vw [] s&&recOk (RowW.records _) s) (XP:=XL K14H.vw []) (Yf:=Hook.obs $H) (Ya:=Hook.val $H) (YP:=Hook.says $H) (N:=5504) (And.left ?$hc) (Hook.of $H) (Hook.keeps $H) (λs e=>xl_of s (Bool.and_eq_true_iff.mp e).1) XL.keeps (by rfl) (by rfl) (by rfl) (λs e=>recFacts_of (Bool.and_eq_true_iff.mp e).2) (by rfl) (by first|assumption|decide+kernel) (by decide+kernel) ⟨rfl,rfl,rfl,rfl,rfl,by decide+kernel⟩ ?$hw (And.right ?$hc))
open_top fe for PySem.Challenge.rw_stowhold_k14_makeweight
noncomputable abbrev HL:=List (Addr×Obj)
noncomputable def fq (s:Stmt) (x q:Str) (g:Addr) (c:List (Str×Addr)) (d k dc pm:Value) (an:Option Addr) (cd ct:Value) (b:Addr):Data:= .func ⟨x,q,L2.dD s, .stmts (L2.bB s),L2.ay s,g,c,d,k,dc,pm,an,cd,ct,b⟩
noncomputable def hq (P:Params) (i n:Nat):HL:=((K14H.fe.heap_39 P).drop i).take n
noncomputable def b0 (P:Params):HL:=by refine(?f:Pk (hq P 0 2)) [_,_] rfl;exact λx _=>x
noncomputable def b1 (P:Params):HL:=by refine(?f:Pk (hq P 2 2)) [_,_] rfl;exact λx _=>x
noncomputable def b2 (P:Params):HL:=by refine(?f:Pk (hq P 4 2)) [_,_] rfl;exact λx _=>x
noncomputable def b3 (P:Params):HL:=by refine(?f:Pk (hq P 6 2)) [_,_] rfl;exact λx _=>x
noncomputable def b4 (P:Params):HL:=by refine(?f:Pk (hq P 8 8)) [_,_,_,_,_,_,_,_] rfl;exact λx _=>x
noncomputable def b5 (P:Params):HL:=by refine(?f:Pk (hq P 16 5)) [_,_,_,_,_] rfl;exact λx _=>x
def b6 (P:Params):HL:=by refine(?f:Pk (hq P 21 1)) [(_,⟨_,_,fq (L2.inClass (tp 7) 0) ..,_⟩)] rfl;exact λx _=>x
noncomputable def b7 (P:Params):HL:=by refine(?f:Pk (hq P 22 7)) [_,_,_,_,_,_,_] rfl;exact λx _=>x
def b8 (P:Params):HL:=by refine(?f:Pk (hq P 29 1)) [(_,⟨_,_,fq (tp 8) ..,_⟩)] rfl;exact λx _=>x
noncomputable def b9 (P:Params):HL:=by refine(?f:Pk (hq P 30 4)) [_,_,_,_] rfl;exact λx _=>x
def b10 (P:Params):HL:=by refine(?f:Pk (hq P 34 1)) [(_,⟨_,_,fq (tp 9) ..,_⟩)] rfl;exact λx _=>x
noncomputable def b11 (P:Params):HL:=by refine(?f:Pk (hq P 35 4)) [_,_,_,_] rfl;exact λx _=>x
def b12 (P:Params):HL:=by refine(?f:Pk (hq P 39 1)) [(_,⟨_,_,fq (tp 10) ..,_⟩)] rfl;exact λx _=>x
noncomputable def b13 (P:Params):HL:=by refine(?f:Pk (hq P 40 4)) [_,_,_,_] rfl;exact λx _=>x
def b14 (P:Params):HL:=by refine(?f:Pk (hq P 44 1)) [(_,⟨_,_,fq (tp 11) ..,_⟩)] rfl;exact λx _=>x
noncomputable def b15 (P:Params):HL:=by refine(?f:Pk (hq P 45 4)) [_,_,_,_] rfl;exact λx _=>x
def b16 (P:Params):HL:=by refine(?f:Pk (hq P 49 1)) [(_,⟨_,_,fq (tp 12) ..,_⟩)] rfl;exact λx _=>x
noncomputable def b17 (P:Params):HL:=by refine(?f:Pk (hq P 50 2)) [_,_] rfl;exact λx _=>x
def b18 (P:Params):HL:=by refine(?f:Pk (hq P 52 1)) [(_,⟨_,_,fq (tp 13) ..,_⟩)] rfl;exact λx _=>x
noncomputable def b19 (P:Params):HL:=by refine(?f:Pk (hq P 53 2)) [_,_] rfl;exact λx _=>x
def b20 (P:Params):HL:=by refine(?f:Pk (hq P 55 1)) [(_,⟨_,_,fq (tp 14) ..,_⟩)] rfl;exact λx _=>x
noncomputable def b21 (P:Params):HL:=by refine(?f:Pk (hq P 56 4)) [_,_,_,_] rfl;exact λx _=>x
def b22 (P:Params):HL:=by refine(?f:Pk (hq P 60 1)) [(_,⟨_,_,fq (tp 15) ..,_⟩)] rfl;exact λx _=>x
noncomputable def b23 (P:Params):HL:=by refine(?f:Pk (hq P 61 4)) [_,_,_,_] rfl;exact λx _=>x
def b24 (P:Params):HL:=by refine(?f:Pk (hq P 65 1)) [(_,⟨_,_,fq (tp 16) ..,_⟩)] rfl;exact λx _=>x
noncomputable def b25 (P:Params):HL:=by refine(?f:Pk (hq P 66 4)) [_,_,_,_] rfl;exact λx _=>x
def b26 (P:Params):HL:=by refine(?f:Pk (hq P 70 1)) [(_,⟨_,_,fq (tp 17) ..,_⟩)] rfl;exact λx _=>x
noncomputable def b27 (P:Params):HL:=by refine(?f:Pk (hq P 71 4)) [_,_,_,_] rfl;exact λx _=>x
def b28 (P:Params):HL:=by refine(?f:Pk (hq P 75 1)) [(_,⟨_,_,fq (tp 18) ..,_⟩)] rfl;exact λx _=>x
noncomputable def b29 (P:Params):HL:=by refine(?f:Pk (hq P 76 4)) [_,_,_,_] rfl;exact λx _=>x
def b30 (P:Params):HL:=by refine(?f:Pk (hq P 80 1)) [(_,⟨_,_,fq (tp 19) ..,_⟩)] rfl;exact λx _=>x
noncomputable def b31 (P:Params):HL:=by refine(?f:Pk (hq P 81 4)) [_,_,_,_] rfl;exact λx _=>x
def b32 (P:Params):HL:=by refine(?f:Pk (hq P 85 1)) [(_,⟨_,_,fq (tp 20) ..,_⟩)] rfl;exact λx _=>x
noncomputable def b33 (P:Params):HL:=by refine(?f:Pk (hq P 86 2)) [_,_] rfl;exact λx _=>x
def b34 (P:Params):HL:=by refine(?f:Pk (hq P 88 1)) [(_,⟨_,_,fq (L2.inClass (tp 22) 0) ..,_⟩)] rfl;exact λx _=>x
noncomputable def b35 (P:Params):HL:=by refine(?f:Pk (hq P 89 8)) [_,_,_,_,_,_,_,_] rfl;exact λx _=>x
noncomputable def b36 (P:Params):HL:=by refine(?f:Pk (hq P 97 1)) [_] rfl;exact λx _=>x
def b37 (P:Params):HL:=by refine(?f:Pk (hq P 98 1)) [(_,⟨_,_,fq (tp 23) ..,_⟩)] rfl;exact λx _=>x
noncomputable def b38 (P:Params):HL:=by refine(?f:Pk (hq P 99 4)) [_,_,_,_] rfl;exact λx _=>x
def b39 (P:Params):HL:=by refine(?f:Pk (hq P 103 1)) [(_,⟨_,_,fq (tp 24) ..,_⟩)] rfl;exact λx _=>x
noncomputable def b40 (P:Params):HL:=by refine(?f:Pk (hq P 104 4)) [_,_,_,_] rfl;exact λx _=>x
def b41 (P:Params):HL:=by refine(?f:Pk (hq P 108 1)) [(_,⟨_,_,fq (tp 25) ..,_⟩)] rfl;exact λx _=>x
noncomputable def b42 (P:Params):HL:=by refine(?f:Pk (hq P 109 4)) [_,_,_,_] rfl;exact λx _=>x
def b43 (P:Params):HL:=by refine(?f:Pk (hq P 113 1)) [(_,⟨_,_,fq (tp 26) ..,_⟩)] rfl;exact λx _=>x
noncomputable def b44 (P:Params):HL:=by refine(?f:Pk (hq P 114 2)) [_,_] rfl;exact λx _=>x
def b45 (P:Params):HL:=by refine(?f:Pk (hq P 116 1)) [(_,⟨_,_,fq (tp 27) ..,_⟩)] rfl;exact λx _=>x
noncomputable def b46 (P:Params):HL:=by refine(?f:Pk (hq P 117 4)) [_,_,_,_] rfl;exact λx _=>x
def b47 (P:Params):HL:=by refine(?f:Pk (hq P 121 1)) [(_,⟨_,_,fq (tp 29) ..,_⟩)] rfl;exact λx _=>x
noncomputable def b48 (P:Params):HL:=by refine(?f:Pk (hq P 122 4)) [_,_,_,_] rfl;exact λx _=>x
def b49 (P:Params):HL:=by refine(?f:Pk (hq P 126 1)) [(_,⟨_,_,fq (tp 30) ..,_⟩)] rfl;exact λx _=>x
noncomputable def b50 (P:Params):HL:=by refine(?f:Pk (hq P 127 4)) [_,_,_,_] rfl;exact λx _=>x
def b51 (P:Params):HL:=by refine(?f:Pk (hq P 131 1)) [(_,⟨_,_,fq (tp 31) ..,_⟩)] rfl;exact λx _=>x
noncomputable def b52 (P:Params):HL:=by refine(?f:Pk (hq P 132 4)) [_,_,_,_] rfl;exact λx _=>x
def b53 (P:Params):HL:=by refine(?f:Pk (hq P 136 1)) [(_,⟨_,_,fq (tp 32) ..,_⟩)] rfl;exact λx _=>x
noncomputable def b54 (P:Params):HL:=by refine(?f:Pk (hq P 137 4)) [_,_,_,_] rfl;exact λx _=>x
def b55 (P:Params):HL:=by refine(?f:Pk (hq P 141 1)) [(_,⟨_,_,fq (tp 33) ..,_⟩)] rfl;exact λx _=>x
noncomputable def b56 (P:Params):HL:=by refine(?f:Pk (hq P 142 2)) [_,_] rfl;exact λx _=>x
def b57 (P:Params):HL:=by refine(?f:Pk (hq P 144 1)) [(_,⟨_,_,fq (tp 34) ..,_⟩)] rfl;exact λx _=>x
noncomputable def b58 (P:Params):HL:=by refine(?f:Pk (hq P 145 4)) [_,_,_,_] rfl;exact λx _=>x
def b59 (P:Params):HL:=by refine(?f:Pk (hq P 149 1)) [(_,⟨_,_,fq (tp 36) ..,_⟩)] rfl;exact λx _=>x
noncomputable def b60 (P:Params):HL:=by refine(?f:Pk (hq P 150 4)) [_,_,_,_] rfl;exact λx _=>x
def b61 (P:Params):HL:=by refine(?f:Pk (hq P 154 1)) [(_,⟨_,_,fq (tp 37) ..,_⟩)] rfl;exact λx _=>x
noncomputable def b62 (P:Params):HL:=by refine(?f:Pk (hq P 155 4)) [_,_,_,_] rfl;exact λx _=>x
def b63 (P:Params):HL:=by refine(?f:Pk (hq P 159 1)) [(_,⟨_,_,fq (tp 38) ..,_⟩)] rfl;exact λx _=>x
noncomputable def b64 (P:Params):HL:=by refine(?f:Pk (hq P 160 2)) [_,_] rfl;exact λx _=>x
def b65 (P:Params):HL:=by refine(?f:Pk (hq P 162 1)) [(_,⟨_,_,fq (tp 39) ..,_⟩)] rfl;exact λx _=>x
noncomputable def b66 (P:Params):HL:=by refine(?f:Pk (hq P 163 4)) [_,_,_,_] rfl;exact λx _=>x
def b67 (P:Params):HL:=by refine(?f:Pk (hq P 167 1)) [(_,⟨_,_,fq (tp 40) ..,_⟩)] rfl;exact λx _=>x
noncomputable def b68 (P:Params):HL:=by refine(?f:Pk (hq P 168 4)) [_,_,_,_] rfl;exact λx _=>x
def b69 (P:Params):HL:=by refine(?f:Pk (hq P 172 1)) [(_,⟨_,_,fq (tp 41) ..,_⟩)] rfl;exact λx _=>x
noncomputable def b70 (P:Params):HL:=by refine(?f:Pk (hq P 173 2)) [_,_] rfl;exact λx _=>x
def b71 (P:Params):HL:=by refine(?f:Pk (hq P 175 1)) [(_,⟨_,_,fq (tp 42) ..,_⟩)] rfl;exact λx _=>x
noncomputable def b72 (P:Params):HL:=by refine(?f:Pk (hq P 176 4)) [_,_,_,_] rfl;exact λx _=>x
def b73 (P:Params):HL:=by refine(?f:Pk (hq P 180 1)) [(_,⟨_,_,fq (tp 43) ..,_⟩)] rfl;exact λx _=>x
noncomputable def b74 (P:Params):HL:=by refine(?f:Pk (hq P 181 2)) [_,_] rfl;exact λx _=>x
def b75 (P:Params):HL:=by refine(?f:Pk (hq P 183 1)) [(_,⟨_,_,fq (tp 44) ..,_⟩)] rfl;exact λx _=>x
noncomputable def b76 (P:Params):HL:=by refine(?f:Pk (hq P 184 4)) [_,_,_,_] rfl;exact λx _=>x
def b77 (P:Params):HL:=by refine(?f:Pk (hq P 188 1)) [(_,⟨_,_,fq (tp 45) ..,_⟩)] rfl;exact λx _=>x
noncomputable def b78 (P:Params):HL:=by refine(?f:Pk (hq P 189 2)) [_,_] rfl;exact λx _=>x
def b79 (P:Params):HL:=by refine(?f:Pk (hq P 191 1)) [(_,⟨_,_,fq (tp 46) ..,_⟩)] rfl;exact λx _=>x
noncomputable def b80 (P:Params):HL:=by refine(?f:Pk (hq P 192 2)) [_,_] rfl;exact λx _=>x
def b81 (P:Params):HL:=by refine(?f:Pk (hq P 194 1)) [(_,⟨_,_,fq (tp 47) ..,_⟩)] rfl;exact λx _=>x
noncomputable def b82 (P:Params):HL:=by refine(?f:Pk (hq P 195 4)) [_,_,_,_] rfl;exact λx _=>x
def b83 (P:Params):HL:=by refine(?f:Pk (hq P 199 1)) [(_,⟨_,_,fq (tp 48) ..,_⟩)] rfl;exact λx _=>x
noncomputable def b84 (P:Params):HL:=by refine(?f:Pk (hq P 200 2)) [_,_] rfl;exact λx _=>x
def b85 (P:Params):HL:=by refine(?f:Pk (hq P 202 1)) [(_,⟨_,_,fq (tp 49) ..,_⟩)] rfl;exact λx _=>x
noncomputable def b86 (P:Params):HL:=by refine(?f:Pk (hq P 203 4)) [_,_,_,_] rfl;exact λx _=>x
def b87 (P:Params):HL:=by refine(?f:Pk (hq P 207 1)) [(_,⟨_,_,fq (tp 50) ..,_⟩)] rfl;exact λx _=>x
noncomputable def b88 (P:Params):HL:=by refine(?f:Pk (hq P 208 4)) [_,_,_,_] rfl;exact λx _=>x
def b89 (P:Params):HL:=by refine(?f:Pk (hq P 212 1)) [(_,⟨_,_,fq (tp 51) ..,_⟩)] rfl;exact λx _=>x
noncomputable def b90 (P:Params):HL:=by refine(?f:Pk (hq P 213 4)) [_,_,_,_] rfl;exact λx _=>x
def b91 (P:Params):HL:=by refine(?f:Pk (hq P 217 1)) [(_,⟨_,_,fq (tp 52) ..,_⟩)] rfl;exact λx _=>x
noncomputable def b92 (P:Params):HL:=by refine(?f:Pk (hq P 218 2)) [_,_] rfl;exact λx _=>x
def b93 (P:Params):HL:=by refine(?f:Pk (hq P 220 1)) [(_,⟨_,_,fq (tp 53) ..,_⟩)] rfl;exact λx _=>x
noncomputable def b94 (P:Params):HL:=by refine(?f:Pk (hq P 221 4)) [_,_,_,_] rfl;exact λx _=>x
def b95 (P:Params):HL:=by refine(?f:Pk (hq P 225 1)) [(_,⟨_,_,fq (tp 54) ..,_⟩)] rfl;exact λx _=>x
noncomputable def b96 (P:Params):HL:=by refine(?f:Pk (hq P 226 2)) [_,_] rfl;exact λx _=>x
def b97 (P:Params):HL:=by refine(?f:Pk (hq P 228 1)) [(_,⟨_,_,fq (tp 55) ..,_⟩)] rfl;exact λx _=>x
noncomputable def b98 (P:Params):HL:=by refine(?f:Pk (hq P 229 4)) [_,_,_,_] rfl;exact λx _=>x
def b99 (P:Params):HL:=by refine(?f:Pk (hq P 233 1)) [(_,⟨_,_,fq (tp 56) ..,_⟩)] rfl;exact λx _=>x
noncomputable def e0 (P:Params):HL:=(b0 P++(b1 P++(b2 P++(b3 P++(b4 P++(b5 P++(b6 P++(b7 P++(b8 P++(b9 P))))))))))
noncomputable def e1 (P:Params):HL:=(b10 P++(b11 P++(b12 P++(b13 P++(b14 P++(b15 P++(b16 P++(b17 P++(b18 P++(b19 P))))))))))
noncomputable def e2 (P:Params):HL:=(b20 P++(b21 P++(b22 P++(b23 P++(b24 P++(b25 P++(b26 P++(b27 P++(b28 P++(b29 P))))))))))
noncomputable def e3 (P:Params):HL:=(b30 P++(b31 P++(b32 P++(b33 P++(b34 P++(b35 P++(b36 P++(b37 P++(b38 P++(b39 P))))))))))
noncomputable def e4 (P:Params):HL:=(b40 P++(b41 P++(b42 P++(b43 P++(b44 P++(b45 P++(b46 P++(b47 P++(b48 P++(b49 P))))))))))
noncomputable def e5 (P:Params):HL:=(b50 P++(b51 P++(b52 P++(b53 P++(b54 P++(b55 P++(b56 P++(b57 P++(b58 P++(b59 P))))))))))
noncomputable def e6 (P:Params):HL:=(b60 P++(b61 P++(b62 P++(b63 P++(b64 P++(b65 P++(b66 P++(b67 P++(b68 P++(b69 P))))))))))
noncomputable def e7 (P:Params):HL:=(b70 P++(b71 P++(b72 P++(b73 P++(b74 P++(b75 P++(b76 P++(b77 P++(b78 P++(b79 P))))))))))
noncomputable def e8 (P:Params):HL:=(b80 P++(b81 P++(b82 P++(b83 P++(b84 P++(b85 P++(b86 P++(b87 P++(b88 P++(b89 P))))))))))
noncomputable def e9 (P:Params):HL:=(b90 P++(b91 P++(b92 P++(b93 P++(b94 P++(b95 P++(b96 P++(b97 P++(b98 P++(b99 P))))))))))
noncomputable def eq (P:Params):HL:=(e0 P++(e1 P++(e2 P++(e3 P++(e4 P++(e5 P++(e6 P++(e7 P++(e8 P++(e9 P))))))))))
theorem eq_eq (P:Params):eq P=K14H.fe.heap_39 P:=by kernel_rfl
noncomputable def asK:List Nat:=[2,3,15,22,23,24,25,28,35,36,37,40,47,48,49,52,59,60,61,71,74,75,76,77,78,79,80,83,86,87,88,90,91,93,94,95,97,98,100,101,102,104,105,107,108,109,111,112,114,115,116,119,120,121,124,125,126,128,129,131,132,133,135,136,138,139,140,142,143,145,146,147,149,150,152,153,154,156,157,159,160,161,163,164,166,167,175,178,179,180,181,182,183,184,187,189,190,192,193,194,196,197,199,200,201,203,204,206,207,208,210,211,213,214,215,218,219,220,222,223,225,226,227,229,230,232,233,234,236,237,239,240,241,243,244,246,247,248,250,251,253,254,255,258,259,260,262,263,265,266,267,269,270,272,273,274,276,277,279,280,281,284,285,286,288,289,291,292,293,295,296,298,299,300,303,304,305,307,308,310,311,312,315,316,317,319,320,322,323,324,327,328,329,332,333,334,336,337,339,340,341,344,345,346,348,349,351,352,353,355,356,358,359,360,362,363,365,366,367,370,371,372,374,375,377,378,379,382,383,384,386,387,389,390]
noncomputable def T0 (P:Params):BT:=Hd.Ey 6 (boot_heap P).objs.toList
noncomputable def rn (w:World) (os:OsState):=Hd.wq treeTable pw w 11 (some (.ref 6)) os 2902 ⟨T0 w.params,11,{},Array.mk [],boot_drawn,boot_toks,os⟩ (topStub pw)
noncomputable def r1 (w:World) (os:OsState):=(rn w os).map λr=>(staticsOk (importedModules pw.main.body) (boot_heap w.params) r.abs.heap&&namesBound pw r.abs.heap&&gensDone r.abs&&laidKept (boot_heap w.params) r.abs.heap)
theorem KD:r1=r1:=rfl
name_quick K14Hr1 for K14H.r1 by K14H.KD
theorem o1 (w:World) (os:OsState):r1 w os=some true:=(congrFun (congrFun PySem.W.Fast.K14Hr1_eq w) os).trans (by kernel_rfl:PySem.W.Fast.K14Hr1 w os=some true)
noncomputable def r2 (w:World) (os:OsState):=(rn w os).map λr=>openSeen vw [] (importedModules pw.main.body) (λs=>xlAt vw [] s&&recOk PySem.Challenge.rw_stowhold_k14_makeweight.row.records s) true r.abs
theorem KJ:r2=r2:=rfl
name_quick K14Hr2 for K14H.r2 by K14H.KJ
noncomputable def g2 (w:World):=some (openGood vw [])
theorem KP:g2=g2:=rfl
name_quick K14Hg2 for K14H.g2 by K14H.KP
theorem o2 (w:World) (os:OsState):r2 w os=g2 w:=((congrFun (congrFun PySem.W.Fast.K14Hr2_eq w) os).trans (by kernel_rfl:PySem.W.Fast.K14Hr2 w os=PySem.W.Fast.K14Hg2 w)).trans (congrFun PySem.W.Fast.K14Hg2_eq w).symm
noncomputable def r3 (w:World) (os:OsState):=(rn w os).map λr=>asK.map r.abs.heap.get?
theorem K1:r3=r3:=rfl
name_quick K14Hr3 for K14H.r3 by K14H.K1
noncomputable def g3 (w:World):=some ((eq w.params).map λp=>some p.2)
theorem KR:g3=g3:=rfl
name_quick K14Hg3 for K14H.g3 by K14H.KR
theorem o3 (w:World) (os:OsState):r3 w os=g3 w:=((congrFun (congrFun PySem.W.Fast.K14Hr3_eq w) os).trans (by kernel_rfl:PySem.W.Fast.K14Hr3 w os=PySem.W.Fast.K14Hg3 w)).trans (congrFun PySem.W.Fast.K14Hg3_eq w).symm
theorem left:LeftO PySem.Challenge.rw_stowhold_k14_makeweight.row.prog vw [] (λs=>xlAt vw [] s&&recOk PySem.Challenge.rw_stowhold_k14_makeweight.row.records s) (λs=>asK.map s.heap.get?) (λw=>(K14H.fe.heap_39 w.params).map λp=>some p.2) 5504:=
 Hd.En (p:=pw) (H₀:=boot_heap) (T0:=T0) (n0:=11) (life0:={}) (d₀:=boot_drawn) (k₀:=boot_toks) (m₀:=11) (ann:=some (.ref 6)) (M:=2902)
  (boot_open (by kernel_rfl) (by decide) (λs=>by kernel_rfl)) (λP=>by kernel_rfl) (λw=>by kernel_rfl) (by decide) (λw os=>by
   have h:=o3 w os;unfold g3 at h;rw[eq_eq] at h
   exact Hd.LB (o1 w os) (o2 w os) h)
end K14H
end
open PySem PySem.W PyProof.Rows
open PI (xx lO oz u7 uj Cb w4 wW xy uB ua) in
set_option maxRecDepth 100000 in
set_option maxHeartbeats 0 in
theorem PySem.Challenge.cw_stowhold_k14_makeweight_holds : PySem.Challenge.rw_stowhold_k14_makeweight.Holds := by
 refine K14H.fe ⟨K14H.left, ?_⟩
 k_fill
 refine PI.Jg (l:=PySem.Challenge.rw_stowhold_k14_makeweight) (D:=K14.dt) (ds:=K14.ds) (cls:=K14.cls) (cn:=K14.cn) (xc:=K14.xc) (wn:=0) (n:=10) (f:=115) (x:="_law_script") rfl rfl ⟨rfl,by decide,by decide⟩ (fun w h Y=>PySem.W.kIn_of Y) K14.LQ rfl rfl rfl rfl (PI.Hx (by decide)) ?F (fun ns hn=>PI.z8 K14.fw (by with_unfolding_all rfl) 0 ns hn)
 case F=>
  intro w;refine' ⟨?_, ?_,PI.Bo ?_, ?_,PI.Ge ?_,xx rfl rfl rfl ?_ (by decide) ?_⟩
  all_goals repeat' first|exact oz|refine' lO ?_ ?_|refine' uj ?_ ?_ ?_ ?_ ?_|refine' u7 ?_ ?_ ?_ ?_|exact Cb rfl rfl rfl|refine' w4 ?_ rfl rfl rfl rfl ?_|refine' xy ?_|refine' wW ?_ rfl rfl rfl ?_ ?_ rfl rfl rfl rfl ?_ ?_|exact uB rfl rfl|refine' ua rfl rfl ?_ ?_ ?_ ?_ ?_ ?_
  any_goals first|k_is|k_exc|kts_exm
end
