import PyProof.Rows.All
import Wide.All
import OpenK.AllK
import Wide.FinOn
import Lean
import PyProof.EqAt
import PyProof.EqKinds
import PyProof.TupleCall
import KE.KSortTup
import PySem.Challenge.RW_stowhold_k08_faults
open scoped BitVec
set_option hygiene false
set_option compiler.extract_closed false
local macro_rules|`(0#$x)=>`(($x).length)
local macro_rules|`(1#$x)=>`(some $x)
local macro_rules|`(2#$x)=>`(List $x)
local macro_rules|`(3#$x)=>`(.ref $x)
local macro_rules|`(4#$x)=>`(.var $x)
local macro_rules|`(5#$x)=>`(Option $x)
local macro_rules|`(6#$x)=>`(.int $x)
local macro_rules|`(7#$x)=>`(.lst $x)
local macro_rules|`(8#0)=>`(by lia)
local macro_rules|`(8#1)=>`(Inv X pins σ H s)
local macro_rules|`(8#2)=>`(Value->Shared->Prop)
local macro_rules|`(8#3)=>`(model X.prog X.w)
local macro_rules|`(8#4)=>`(PySem.W.Frag)
local macro_rules|`(8#5)=>`(by simp)
local macro_rules|`(8#6)=>`(λv st=>aI (t.put v (av 0#ws caps env)) (runC P cl c) (ie.run P cl) st)
local macro_rules|`(8#7)=>`(2#(Addr×Obj))
local macro_rules|`(8#8)=>`(2#(Cell×Bx))
local macro_rules|`(8#9)=>`((au 0 (c.t+1).toNat).map λi=>aw (aX L c i))
local macro_rules|`(9#0)=>`(X.af (L4.XE X E))
local macro_rules|`(9#1)=>`(λv _ as' G' H'=>∀u,Rel T as' G' v u->Q u H')
local macro_rules|`(9#2)=>`(model prog w)
local macro_rules|`(9#3)=>`(Sim T st as G H)
local macro_rules|`(9#4)=>`(Shared)
local macro_rules|`(9#5)=>`(.or (.cmp .NotEq (.slc (.idx 4#0 (.ci 0)) none 1#(.ci 3)) (.slc 4#1 none 1#(.ci 3))) (.cmp .Lt (.idx (.idx 4#0 (.ci 0)) (.ci 3)) (.idx 4#1 (.ci 3))))
local macro_rules|`(9#6)=>`(kas_count n (List.toArray (List.range n)))
local macro_rules|`(9#7)=>`((L.filter (cB p.1)).map ao)
local macro_rules|`(9#8)=>`(.ListComp elt [⟨tg,iter,ifs,0⟩] sc pos)
local macro_rules|`(9#9)=>`(Params)
local macro_rules|`(8#10)=>`(Obj.mapSeq λ_=>(#[]:Array Value))
local macro_rules|`(8#11)=>`(s.heap.objs.size+1)
local macro_rules|`(8#12)=>`(∀b∈fp,∃o,(b,o)∈pn)
local macro_rules|`(8#13)=>`(starEach (e::es) X.env=(false,eval e X.env)::starEach es X.env)
local macro_rules|`(8#14)=>`(λi j=>HT.lexLt (keys.getD i []) (keys.getD j []))
local macro_rules|`(8#15)=>`(dv X (λ_=>E σ) own ws caps sc C fp pn s H)
local macro_rules|`(8#16)=>`(by decide)
local macro_rules|`(8#17)=>`(kas_asc p (nrem-1) 1)
local macro_rules|`(8#18)=>`(∀i,FnOk P' w T.K mg base (dA P' w) k (M.fa i) (M.fd i) (M.ps i) (eJ T P m i))
local macro_rules|`(8#19)=>`(.and (.cmp .Eq (.slc (.idx 4#0 (.ci 0)) none 1#(.ci 3)) (.slc 4#1 none 1#(.ci 3))) (.cmp .LtE (.idx (.idx 4#0 (.ci 0)) (.ci 3)) (.idx 4#1 (.ci 3))))
local macro_rules|`(8#20)=>`(.call 15 [4#0, 4#1])
local macro_rules|`(8#21)=>`(FnOk X.prog X.w X.K X.mg X.base (dA X.prog X.w) k f fd ps sp)
local macro_rules|`(8#22)=>`(∀k∈caps,sc.names.lookup (X.N.getD k Str.empty)=1#.free)
local macro_rules|`(8#23)=>`(Str->5#Value)
local macro_rules|`(8#24)=>`(∀b∈ch,(b∈X.ex∨X.s₀.heap.objs.size<=b)/\b≠X.env.locals/\(∀x c,X.env.cells.lookup x=1#c->c≠b)/\∀p∈X.pn++pins,p.1≠b)
local macro_rules|`(8#25)=>`(Le.refl _)
local macro_rules|`(8#26)=>`(show u=Value.ref b from ry)
local macro_rules|`(8#27)=>`(α->aa->2#Addr->Hp->Hp->Prop)
local macro_rules|`(8#28)=>`(a8 _ _ _ _ (aK _ _ λa=>by simp))
local macro_rules|`(8#29)=>`(L4.XE X E)
local macro_rules|`(8#30)=>`(cN X own ws caps sc C fp [] s H)
local macro_rules|`(8#31)=>`(PE X e (tE T P cl E ie))
local macro_rules|`(8#32)=>`((backTo pos (starEach es X.env)).any (·.1)=false)
local macro_rules|`(8#33)=>`(.const (.bl false))
local macro_rules|`(8#34)=>`(L4.dv X (λ_=>E σ) own ws caps sc C fp pn s H)
local macro_rules|`(8#35)=>`(XOk T P' w mg base k g X)
set_option hygiene true
set_option tactic.hygienic false
set_option autoImplicit true
set_option relaxedAutoImplicit true
set_option genSizeOfSpec false
set_option Elab.async false
set_option linter.all false
set_option maxRecDepth 100000
namespace Ob
variable {g:Prop}
theorem E02 {p q:Prop} (h:p∧q) (f:p->q->g):g:=let ⟨h0,h1⟩:=h;f h0 h1
theorem E11 {p:a->Prop} (h:∃x,p x) (f:∀x,p x->g):g:=let ⟨x,h0⟩:=h;f x h0
theorem E03 {p q r:Prop} (h:p∧q∧r) (f:p->q->r->g):g:=let ⟨h0,h1,h2⟩:=h;f h0 h1 h2
theorem E12 {p q:a->Prop} (h:∃x,p x∧q x) (f:∀x,p x->q x->g):g:=let ⟨x,h0,h1⟩:=h;f x h0 h1
theorem E21 {p:a->b->Prop} (h:∃x y,p x y) (f:∀x y,p x y->g):g:=let ⟨x,y,h0⟩:=h;f x y h0
theorem E04 {p q r s:Prop} (h:p∧q∧r∧s) (f:p->q->r->s->g):g:=let ⟨h0,h1,h2,h3⟩:=h;f h0 h1 h2 h3
theorem E13 {p q r:a->Prop} (h:∃x,p x∧q x∧r x) (f:∀x,p x->q x->r x->g):g:=let ⟨x,h0,h1,h2⟩:=h;f x h0 h1 h2
theorem E22 {p q:a->b->Prop} (h:∃x y,p x y∧q x y) (f:∀x y,p x y->q x y->g):g:=let ⟨x,y,h0,h1⟩:=h;f x y h0 h1
theorem E05 {p q r s t:Prop} (h:p∧q∧r∧s∧t) (f:p->q->r->s->t->g):g:=let ⟨h0,h1,h2,h3,h4⟩:=h;f h0 h1 h2 h3 h4
theorem E14 {p q r s:a->Prop} (h:∃x,p x∧q x∧r x∧s x) (f:∀x,p x->q x->r x->s x->g):g:=let ⟨x,h0,h1,h2,h3⟩:=h;f x h0 h1 h2 h3
theorem E23 {p q r:a->b->Prop} (h:∃x y,p x y∧q x y∧r x y) (f:∀x y,p x y->q x y->r x y->g):g:=let ⟨x,y,h0,h1,h2⟩:=h;f x y h0 h1 h2
theorem E32 {p q:a->b->c->Prop} (h:∃x y z,p x y z∧q x y z) (f:∀x y z,p x y z->q x y z->g):g:=let ⟨x,y,z,h0,h1⟩:=h;f x y z h0 h1
theorem E06 {p q r s t k:Prop} (h:p∧q∧r∧s∧t∧k) (f:p->q->r->s->t->k->g):g:=let ⟨h0,h1,h2,h3,h4,h5⟩:=h;f h0 h1 h2 h3 h4 h5
theorem E24 {p q r s:a->b->Prop} (h:∃x y,p x y∧q x y∧r x y∧s x y) (f:∀x y,p x y->q x y->r x y->s x y->g):g:=let ⟨x,y,h0,h1,h2,h3⟩:=h;f x y h0 h1 h2 h3
theorem E33 {p q r:a->b->c->Prop} (h:∃x y z,p x y z∧q x y z∧r x y z) (f:∀x y z,p x y z->q x y z->r x y z->g):g:=let ⟨x,y,z,h0,h1,h2⟩:=h;f x y z h0 h1 h2
theorem E25 {p q r s t:a->b->Prop} (h:∃x y,p x y∧q x y∧r x y∧s x y∧t x y) (f:∀x y,p x y->q x y->r x y->s x y->t x y->g):g:=let ⟨x,y,h0,h1,h2,h3,h4⟩:=h;f x y h0 h1 h2 h3 h4
theorem E34 {p q r s:a->b->c->Prop} (h:∃x y z,p x y z∧q x y z∧r x y z∧s x y z) (f:∀x y z,p x y z->q x y z->r x y z->s x y z->g):g:=let ⟨x,y,z,h0,h1,h2,h3⟩:=h;f x y z h0 h1 h2 h3
theorem E43 {p q r:a->b->c->d->Prop} (h:∃x y z u,p x y z u∧q x y z u∧r x y z u) (f:∀x y z u,p x y z u->q x y z u->r x y z u->g):g:=let ⟨x,y,z,u,h0,h1,h2⟩:=h;f x y z u h0 h1 h2
theorem E35 {p q r s t:a->b->c->Prop} (h:∃x y z,p x y z∧q x y z∧r x y z∧s x y z∧t x y z) (f:∀x y z,p x y z->q x y z->r x y z->s x y z->t x y z->g):g:=let ⟨x,y,z,h0,h1,h2,h3,h4⟩:=h;f x y z h0 h1 h2 h3 h4
theorem E53 {p q r:a->b->c->d->e->Prop} (h:∃x y z u v,p x y z u v∧q x y z u v∧r x y z u v) (f:∀x y z u v,p x y z u v->q x y z u v->r x y z u v->g):g:=let ⟨x,y,z,u,v,h0,h1,h2⟩:=h;f x y z u v h0 h1 h2
end Ob
local macro_rules
|`(tactic|obtain⟨$ps,*⟩:=$h)=>do
 let ps:=ps.getElems
 let n:=ps.size
 if n<2||n>8 then Lean.Macro.throwUnsupported
 let qs<-ps.mapM fun p=>do
  let q<-`(rcasesPat|($p:rcasesPatLo))
  `(rintroPat|$q:rcasesPat)
 let mut t<-`(tactic|fail)
 for j in [0:min n 6] do
  let k:=min n 6-1-j
  let i:=Lean.mkIdent (.mkStr2 "Ob" s!"E{k}{n-k}")
  t<-`(tactic|first|refine $i $h ?_|$t:tactic)
 if h.raw.isIdent then
  let i:Lean.Ident:=⟨h⟩
  t<-`(tactic|($t:tactic;clear $i))
 `(tactic|($t:tactic;rintro $qs:rintroPat*))
def Ob.t:Nat->Lean.Term->Lean.MacroM (Lean.TSyntax `rcasesPat)
|0,_=>Lean.Macro.throwUnsupported
|n+1,s=>match s with
 |`(⟨$xs,*⟩)=>do
  let ps<-xs.getElems.mapM (Ob.t n)
  `(rcasesPat|⟨$[$ps:rcasesPat],*⟩)
 |`(_)=>`(rcasesPat|_)
 |`($x:ident)=>`(rcasesPat|$x:ident)
 |_=>Lean.Macro.throwUnsupported
local macro_rules
|`(tactic|let⟨$xs,*⟩:=$h)=>do
 let ps<-xs.getElems.mapM (Ob.t 9)
 `(tactic|obtain⟨$[$ps:rcasesPat],*⟩:=$h)
noncomputable section
abbrev aaa:=@PySem.wpAny_bind
abbrev aab:=@Option.map_eq_some_iff
abbrev aac:=@List.getElem?_eq_getElem
abbrev aad:=@PySem.Heap.get?_push_of_some
abbrev aae:=@List.getElem?_eq_some_iff
abbrev aaf:=@PySem.wpAny_pure
abbrev aag:=@Bool.and_eq_true
abbrev aah:=@Nat.le_refl
abbrev aai:=@List.prefix_refl
abbrev aaj:=@List.size_toArray
abbrev aak:=@PySem.Heap.get?_push_size
abbrev aal:=@List.getElem?_append_right
abbrev aam:=@PySem.Heap.lt_size
abbrev aan:=@Nat.lt_of_lt_of_le
abbrev aao:=@List.getElem?_append_left
abbrev aap:=@Option.bind_eq_some_iff
abbrev aaq:=@List.mem_cons
abbrev aar:=@List.length_cons
abbrev aas:=@List.map_cons
abbrev aat:=@List.mem_cons_of_mem
abbrev aau:=@List.mem_of_getElem?
abbrev aav:=@List.prefix_append
abbrev aaw:=@List.mem_append_right
abbrev aax:=@List.getD_eq_getElem?_getD
abbrev aay:=@Nat.ne_of_lt
abbrev aaz:=@List.length_map
abbrev aaA:=@Bool.eq_iff_iff
abbrev aaB:=@decide_eq_false
abbrev aaC:=@List.mem_map
abbrev aaD:=@List.mem_cons_self
abbrev aaE:=@PySem.wpAny_field
abbrev aaF:=@Bool.false_ne_true
abbrev aaG:=@List.mem_singleton
abbrev aaH:=@decide_eq_true
abbrev aaI:=@List.eq_nil_of_length_eq_zero
abbrev aaJ:=@List.lookup_cons
abbrev aaK:=@PySem.mem_of_lookup
abbrev aaL:=@List.length_append
abbrev aaM:=@List.mem_append
abbrev aaN:=@PySem.W.kia_one
abbrev aaO:=@List.getElem?_map
abbrev aaP:=@List.all_cons
abbrev aaQ:=@List.zip_cons_cons
abbrev aaR:=@PySem.F.slot_dict_get
abbrev aaS:=@Nat.le_add_left
abbrev aaT:=@Nat.le_trans
abbrev aaU:=@List.mem_append_left
abbrev aaV:=@List.mem_filter
abbrev aaW:=@Option.isSome_iff_exists
abbrev aaX:=@Nat.zero_le
abbrev aaY:=@PySem.wpAny_newObj_type
abbrev aaZ:=@PySem.wpAny_callSpecial?_slot
abbrev aa0:=@PySem.Heap.size_push
abbrev aa1:=@PySem.tupleKind_room_in1
abbrev aa2:=@PySem.F.entry_dict_get
abbrev aa3:=@PySem.wpAny_mono
abbrev aa4:=@of_decide_eq_true
abbrev aa5:=@Nat.lt_irrefl
abbrev aa6:=@List.getElem?_take_of_lt
abbrev aa7:=@List.nodup_cons
abbrev aa8:=@PySem.Heap.get?_update_other
abbrev aa9:=@List.filterMap_cons
abbrev aba:=@Array.length_toList
abbrev abb:=@List.mem_of_find?_eq_some
abbrev abc:=@List.length_take
abbrev abd:=@PySem.Obj.data_mapFields
abbrev abe:=@PySem.wpAny_call_entry
abbrev abf:=@List.mem_range
abbrev abg:=@PySem.Heap.get?_none_of_le
abbrev abh:=@PySem.wpAny_seqItems
abbrev abi:=@PyProof.Rows.callWith_type1
abbrev abj:=@List.append_nil
abbrev abk:=@Bool.or_eq_true
abbrev abl:=@List.length_zip
abbrev abm:=@PySem.Paired.length
abbrev abn:=@PySem.wpAny_holding
abbrev abo:=@List.all_eq_true
abbrev abp:=@List.filter_cons
abbrev abq:=@PySem.Heap.get?_update_self
abbrev abr:=@List.mem_iff_getElem?
abbrev abt:=@Int.emod_lt_of_pos
abbrev abu:=@PySem.wpAny_Call_Name_kw
abbrev abw:=@PySem.wpAny_setField_rec
abbrev abx:=@List.getElem?_set_ne
abbrev aby:=@List.find?_cons
abbrev abz:=@beq_iff_eq
abbrev abA:=@PySem.wpAny_truthy_bool
abbrev abB:=@List.any_cons
abbrev abC:=@PySem.wpAny_typeNameOfWhole_keyiter
abbrev abD:=@List.getElem?_cons_succ
abbrev abE:=@PySem.F.slot_dict_keyiterator_next
abbrev abF:=@List.getElem?_set_self
abbrev abG:=@List.find?_cons_of_neg
abbrev abH:=@PySem.sizeLine_eq
abbrev abI:=@Nat.le_of_lt
abbrev abJ:=@Nat.ne_of_gt
abbrev abK:=@of_decide_eq_false
abbrev abL:=@PySem.Obj.isFreed_of_fields
abbrev abM:=@Int.emod_nonneg
abbrev abN:=@PySem.wpAny_passesOwn
abbrev abO:=@PySem.F.slot_tuple_iterator_next
abbrev abP:=@PySem.wpAny_setField
abbrev abQ:=@List.map_map
abbrev abR:=@if_false
abbrev abS:=@beq_self_eq_true
abbrev abT:=@PySem.call_meetsIn
abbrev abU:=@List.getElem?_replicate
abbrev abV:=@PySem.F.args_dict_get_2
abbrev abW:=@PySem.F.args_dict_get_3
abbrev abX:=@if_true
abbrev abY:=@Bool.false_eq_true
abbrev abZ:=@List.pairwise_cons
abbrev ab0:=@PySem.Calls.callWith_builtin
abbrev ab1:=@List.pairwise_map
abbrev ab2:=@PySem.wpAny_pyIter_list
abbrev ab3:=@List.length_singleton
abbrev ab4:=@Nat.min_self
abbrev ab5:=@List.getElem?_eq_none
abbrev ab6:=@Int.mul_nonneg
abbrev ab7:=@Nat.lt_succ_self
abbrev ab8:=@List.not_mem_nil
abbrev ab9:=@List.mem_flatMap
abbrev aca:=@PySem.Heap.SameBut.update
abbrev acb:=@List.forIn_cons
abbrev acd:=@List.map_append
abbrev ace:=@PySem.Calls.spliced_cons
abbrev acf:=@Nat.zero_add
abbrev acg:=@List.forIn_nil
abbrev ach:=@List.nodup_nil
abbrev aci:=@PySem.W.kitx_dict
abbrev acj:=@Int.toNat_natCast
abbrev ack:=@Option.isSome_map
abbrev acm:=@List.nodup_append
abbrev acn:=@Function.comp_def
abbrev aco:=@PySem.wpAny_dictEntries
abbrev acp:=@List.range_succ_eq_map
abbrev acq:=@List.take_of_length_le
abbrev acr:=@Bool.and_true
abbrev acs:=@PySem.W.mg_of
abbrev acu:=@PySem.wpAny_onRaise
abbrev acv:=@PySem.wpAny_attempt
abbrev acw:=@List.length_drop
abbrev acx:=@Nat.le_add_right
abbrev acy:=@List.any_eq_true
abbrev acz:=@Array.toList_inj
abbrev acA:=@List.length_filter_le
abbrev acB:=@PySem.wpAny_notOrdered_dict
abbrev acC:=@PyProof.Rows.slot_tuple_getitem
abbrev acD:=@PySem.Calls.evalArgs_plain
abbrev acE:=@PySem.F.slot_zip_next
abbrev acF:=@PySem.F.args_dict_keyiterator_next_1
abbrev acG:=@Option.map_some
abbrev acH:=@PySem.codeAny_mono
abbrev acI:=@PySem.wpAny_rule
abbrev acJ:=@PySem.wpAny_updateSeq_pair
abbrev acK:=@beq_false_of_ne
abbrev acM:=@PySem.W.plainGet_of
abbrev acN:=@PySem.W.callWith_K0
abbrev acO:=@List.length_pos_iff
abbrev acP:=@Bool.and_false
abbrev acR:=@PySem.wpAny_letGo
abbrev acS:=@List.filterMap_map
abbrev acT:=@Nat.lt_of_le_of_lt
abbrev acV:=@PySem.W.callWith_K
abbrev acW:=@PySem.wpAny_pyIter_tuple
abbrev acX:=@PySem.wpAny_standAt
abbrev acZ:=@PySem.W.kitx_list
abbrev ac0:=@PySem.Calls.spliced_nil
abbrev ac1:=@PySem.Obj.cls_mapFields
abbrev ac2:=@List.append_assoc
abbrev ac3:=@List.length_range
abbrev ac4:=@decide_eq_true_eq
abbrev ac5:=@PySem.W.makes_of
abbrev ac6:=@Nat.le_of_eq
abbrev ac7:=@List.zipIdx_cons
abbrev ac8:=@List.cons_append
abbrev ada:=@List.of_mem_zip
abbrev adb:=@List.zipIdx_nil
abbrev ade:=@List.length_nil
abbrev adh:=@Nat.le_succ
namespace L2
open PySem PySem.Spec PyProof.Rows
abbrev Key:=Sum Int Str
noncomputable def ij:Key->Value->Bool
 | .inl k,v=>Value.isInt k v
 | .inr x,v=>Value.isStrOf x v
noncomputable def MT (w:World):Key->Int
 | .inl k=>hashInt k
 | .inr x=>hashStr w x
theorem bK:∀{k:Key} {v:Value},ij k v=true->(∃i t,k=Sum.inl i/\v=Value.int i t)∨(∃x t,k=Sum.inr x/\v=Value.str x t)
 | .inl i,v,h=>by
  let⟨t,e⟩:=Value.isInt_shape (k:=i) (v:=v) h;exact .inl ⟨i,t,rfl,e⟩
 | .inr x,v,h=>by
  let⟨t,e⟩:=Value.isStrOf_shape (x:=x) (v:=v) h;exact .inr ⟨x,t,rfl,e⟩
theorem xT (i:Int) (t:Tok):ij (.inl i) (.int i t)=true:=by simp[ij,Value.isInt]
theorem zy (x:Str) (t:Tok):ij (.inr x) (.str x t)=true:=by simp[ij,Value.isStrOf]
theorem zU (a b:Int):decide ((Sum.inl a:Key)=Sum.inl b)=(a==b):=by
 by_cases e:a=b
 ·subst e;simp
 ·have h:¬(Sum.inl a:Key)=Sum.inl b:=λq=>e (Sum.inl.inj q);rw[aaB h];exact(beq_eq_false_iff_ne.mpr e).symm
theorem zP (a b:Str):decide ((Sum.inr a:Key)=Sum.inr b)=decide (a=b):=by
 by_cases e:a=b
 ·subst e;simp
 ·have h:¬(Sum.inr a:Key)=Sum.inr b:=λq=>e (Sum.inr.inj q);rw[aaB h,aaB e]
theorem GA (a:Int) (b:Str):decide ((Sum.inl a:Key)=Sum.inr b)=false:=aaB (λq=>nomatch q)
theorem HV (a:Str) (b:Int):decide ((Sum.inr a:Key)=Sum.inl b)=false:=aaB (λq=>nomatch q)
def aN (prog:Program) (w:World):PySem.KeyKind prog w Key where
 is:=ij
 hash:=MT w
 inj:=λv a b ha hb=>by
  rcases bK ha with⟨i,t,rfl,rfl⟩|⟨x,t,rfl,rfl⟩
  ·rcases bK hb with⟨j,u,rfl,e⟩|⟨y,u,rfl,e⟩
   ·injection e with e1 _;rw[e1]
   ·exact nomatch e
  ·rcases bK hb with⟨j,u,rfl,e⟩|⟨y,u,rfl,e⟩
   ·exact nomatch e
   ·injection e with e1 _;rw[e1]
 byValue:=λk v h=>by
  rcases bK h with⟨i,t,rfl,rfl⟩|⟨x,t,rfl,rfl⟩<;>rfl
 pyHash:=λhv h=>by
  rcases bK hv with⟨i,t,rfl,rfl⟩|⟨x,t,rfl,rfl⟩
  ·exact wpAny_pyHash_int h
  ·exact wpAny_pyHash_str h
 eqBool:=λhu hv h=>by
  rcases bK hu with⟨i,t,rfl,rfl⟩|⟨x,t,rfl,rfl⟩
  ·rcases bK hv with⟨j,u,rfl,rfl⟩|⟨y,u,rfl,rfl⟩
   ·rw[zU] at h;exact wpAny_eqBool_int h
   ·rw[GA] at h;exact SeqAt.EqAt.int_str i t y u _ _ _ _ h
  ·rcases bK hv with⟨j,u,rfl,rfl⟩|⟨y,u,rfl,rfl⟩
   ·rw[HV] at h;exact SeqAt.EqAt.str_int x t j u _ _ _ _ h
   ·rw[zP] at h;exact wpAny_eqBool_str h
 «strs»:=λk x t v h=>by
  rcases bK h with⟨i,u,rfl,e⟩|⟨y,u,rfl,e⟩
  ·exact nomatch e
  ·injection e with e1 _
   subst e1;cases v<;>rfl
theorem ug (prog:Program) (w:World) (i:Int) (t:Tok):(aN prog w).is (.inl i) (.int i t)=true:=xT i t
theorem t9 (prog:Program) (w:World) (x:Str) (t:Tok):(aN prog w).is (.inr x) (.str x t)=true:=zy x t
inductive V where
 |non|bl (b:Bool)|int (i:Int)|str (x:Str)|byt (b:Array UInt8)|flt (b:UInt64)|ref (a:Addr)|ty (n:String)
 deriving DecidableEq
def RelV:V->Value->Prop
 | .non,u=>u=Value.none
 | .bl b,u=>u=Value.bool b
 | .int i,u=>∃t,u=Value.int i t
 | .str x,u=>∃t,u=Value.str x t
 | .byt b,u=>∃t,u=Value.bytes b t
 | .flt b,u=>∃t,u=Value.float b t
 | .ref a,u=>u=Value.ref a
 | .ty n,u=>u=Value.type n
abbrev Vals:2#V->2#Value->Prop:=Paired RelV
theorem Vals.length {xs:2#V} {us:2#Value} (r:Vals xs us):0#xs=0#us:=abm r
theorem Vals.get:∀{xs:2#V} {us:2#Value} {i:Nat} {x:V},Vals xs us->xs[i]?=1#x->∃u,us[i]?=1#u/\RelV x u
 |_,_,_,_, .nil,e=>by simp at e
 |_,_,0,_, .cons r _,e=>by simp at e;subst e;exact⟨_,rfl,r⟩
 |_,_,i+1,x, .cons _ t,e=>by
  let⟨u,h1,h2⟩:=Vals.get (i:=i) (x:=x) t (by simpa using e);exact⟨u,by simpa using h1,h2⟩
theorem Vals.set {x:V} {u:Value} (r:RelV x u):∀{xs:2#V} {us:2#Value} (i:Nat),Vals xs us->Vals (xs.set i x) (us.set i u)
 |_,_,_, .nil=> .nil
 |_,_,0, .cons _ t=> .cons r t
 |_,_,i+1, .cons q t=> .cons q (Vals.set r i t)
theorem Vals.append:∀{xs ys:2#V} {us ws:2#Value},Vals xs us->Vals ys ws->Vals (xs++ys) (us++ws)
 |_,_,_,_, .nil,s=>s
 |_,_,_,_, .cons r t,s=> .cons r (Vals.append t s)
theorem Vals.take:∀{xs:2#V} {us:2#Value} (n:Nat),Vals xs us->Vals (xs.take n) (us.take n)
 |_,_,0,_=> .nil
 |_,_,_+1, .nil=> .nil
 |_,_,n+1, .cons r t=> .cons r (Vals.take n t)
theorem Vals.drop:∀{xs:2#V} {us:2#Value} (n:Nat),Vals xs us->Vals (xs.drop n) (us.drop n)
 |_,_,0,r=>r
 |_,_,_+1, .nil=> .nil
 |_,_,n+1, .cons _ t=>Vals.drop n t
def dr:5#V->5#Value->Prop
 |some v,1#u=>RelV v u
 |none,none=>True
 |_,_=>False
def KV {κ:Type}:2#(κ×V)->2#(κ×Value)->Prop:=Paired λ(p:κ×V) (q:κ×Value)=>p.1=q.1/\RelV p.2 q.2
noncomputable def kV:Key->V
 | .inl i=> 6#i
 | .inr x=> .str x
inductive HO where
 |lst (xs:2#V)
 |tup (xs:2#V)
 |dK (kvs:2#(Key×V))|dT (kvs:2#(2#Key×V))
 |set (S:Int->Bool) (n:Nat)
 |ins (C dx:Addr) (fs:2#(Str×V))
 |own (x:Addr)
 |xd (fs:2#(Str×V))
 |met (f x:Addr)
 |rng (lo hi:Int)
 |aG (o:Obj) (u:HO)
 |tbl (ps:Array Value)
 |ext (φ:Heap->Prop)
abbrev Hp:=Addr->5#HO
noncomputable def upd (H:Hp) (a:Addr) (o:HO):Hp:=λb=>if b=a then 1#o else H b
theorem aq {H:Hp} {a:Addr} {o:HO}:upd H a o a=1#o:=by unfold upd;rw[if_pos rfl]
theorem ar {H:Hp} {a b:Addr} {o:HO} (h:b≠a):upd H a o b=H b:=by unfold upd;rw[if_neg h]
theorem iL {H:Hp} {a:Addr} {o u:HO}:upd (upd H a o) a u=upd H a u:=by
 funext b;unfold upd;split<;>rfl
theorem qy {H:Hp} {a b:Addr} {o u:HO} (h:H a=1#o) (h':H b=1#u) (d:o≠u):a≠b:=by
 intro e;subst e;rw[h] at h';exact d (Option.some.inj h')
theorem br {H:Hp} {a b:Addr} {o:HO} (h:H a=1#o) (h':H b=none):a≠b:=by
 intro e;subst e;rw[h] at h';cases h'
section
variable (P:Program) (w:World)
def aQ (H:Hp) (h:Heap) (a:Addr):HO->Prop
 | .lst xs=>0#xs<=sizeLine/\∃(its:2#Value) (n:Nat),Vals xs its/\h.get? a=some {cls:= .type "list",data:= .seq its.toArray n}
 | .tup xs=>0#xs<=sizeLine/\∃its:2#Value,Vals xs its/\IsTup h a its.toArray
 | .dK kvs=>0#kvs<=sizeLine/\(a==sysModules)=false/\∃vs,KV kvs vs/\h.DictOf (aN P w) a vs
 | .dT kvs=>0#kvs<=sizeLine/\(a==sysModules)=false/\∃xs:2#(2#Key×Addr×Value),
   Paired (λ(p:2#Key×V) (q:2#Key×Addr×Value)=>p.1=q.1/\H q.2.1=1#(.tup (p.1.map kV))/\RelV p.2 q.2.2) kvs xs/\
   ∃o es ep,h.get? a=1#o/\o.ExactDict/\o.data= .dict es ep/\es.toList=xs.map (entryOfKey (tupleKind (aN P w)))/\(xs.map (·.1)).Nodup
 | .set S n=>h.SetOf (intKind P w) a S n
 | .ins C dx fs=>H dx=1#(.own a)/\0#fs<=1000/\dx≠a/\h.get? a=1#(PySem.W.instObj C dx)/\
   ∃mA,h.Ns1 dx mA/\(∀f,dr (fs.lookup f) (mA f))/\PySem.Within mA (fs.map (·.1))
 | .own _=>∃o,h.get? a=1#o
 | .xd fs=>∃mA,h.Ns1 a mA/\∀f,dr (fs.lookup f) (mA f)
 | .rng lo hi=>∃t u v,h.get? a=some {cls:= .type "range",data:= .fields #[.int lo t, .int hi u, .int 1 v]}
 | .aG o u=>h.get? a=1#o/\aQ H h a u
 | .tbl ps=>h.get? a=some {cls:= .none,data:= .fields ps}
 | .met f x=>h.get? a=1#(PySem.W.methodObj 3#f 3#x)
 | .ext φ=>φ h/\(∃o,h.get? a=1#o)/\∀h1 h2:Heap,φ h1->(∀o,h1.get? a=1#o->h2.get? a=1#o)->φ h2
def bA (H:Hp) (h:Heap):Prop:=∀a o,H a=1#o->aQ P w H h a o
end
section
variable {P:Program} {w:World} {H H':Hp} {h h':Heap} {a:Addr} {o:HO}
theorem aQ.lt (x:aQ P w H h a o):a<h.objs.size:=by
 cases o with
 |lst xs=>let⟨_,_,_,_,e⟩:=x;exact aam e
 |tup xs=>let⟨_,_,_,p⟩:=x;exact p.lt
 |dK kvs=>let⟨_,_,_,_,o,_,_,e,_⟩:=x;exact aam e
 |dT kvs=>let⟨_,_,_,_,o,_,_,e,_⟩:=x;exact aam e
 |set S n=>let⟨o,_,_,_,e,_⟩:=x;exact aam e
 |ins C dx fs=>let⟨_,_,_,e,_⟩:=x;exact aam e
 |own y=>let⟨_,e⟩:=x;exact aam e
 |xd fs=>let⟨_,⟨_,_,_,e,_⟩,_⟩:=x;exact aam e
 |rng lo hi=>let⟨_,_,_,e⟩:=x;exact aam e
 |aG ob u=>let⟨e,_⟩:=x;exact aam e
 |tbl ps=>exact aam (show h.get? a=1#_ from x)
 |met f y=>exact aam (show h.get? a=1#_ from x)
 |ext φ=>let⟨_,⟨_,e⟩,_⟩:=x;exact aam e
theorem Paired.wO {α β:Type} {F G:α->β->Prop}:∀{l₁:2#α} {l₂:2#β},Paired F l₁ l₂->(∀a b,F a b->G a b)->Paired G l₁ l₂
 |_,_, .nil,_=> .nil
 |_,_, .cons r t,f=> .cons (f _ _ r) (Paired.wO t f)
theorem aQ.i9 (x:aQ P w H h a o) (k:∀b u,(b=a∨H b=1#(.own a))->h.get? b=1#u->h'.get? b=1#u)
  (ho:∀b,H b=1#(.own a)->H' b=1#(.own a)) (ht:∀b xs,H b=1#(.tup xs)->H' b=1#(.tup xs)):aQ P w H' h' a o:=by
 induction o with
 |lst xs=>let⟨z,its,n,r,e⟩:=x;exact⟨z,its,n,r,k _ _ (.inl rfl) e⟩
 |tup xs=>let⟨z,its,r,ob,e,c⟩:=x;exact⟨z,its,r,ob,k _ _ (.inl rfl) e,c⟩
 |dK kvs=>let⟨z,y,vs,r,ob,es,ep,e,c⟩:=x;exact⟨z,y,vs,r,ob,es,ep,k _ _ (.inl rfl) e,c⟩
 |dT kvs=>
  let⟨z,y,xs,r,ob,es,ep,e,c⟩:=x;exact⟨z,y,xs,Paired.wO r λp q z=>⟨z.1,ht _ _ z.2.1,z.2.2⟩,ob,es,ep,k _ _ (.inl rfl) e,c⟩
 |set S n=>let⟨ob,es,ep,t,e,c⟩:=x;exact⟨ob,es,ep,t,k _ _ (.inl rfl) e,c⟩
 |ins C dx fs=>
  let⟨d,z,ne,e,mA,⟨od,es,ep,e2,c⟩,r⟩:=x;exact⟨ho _ d,z,ne,k _ _ (.inl rfl) e,mA,⟨od,es,ep,k _ _ (.inr d) e2,c⟩,r⟩
 |own y=>let⟨ob,e⟩:=x;exact⟨ob,k _ _ (.inl rfl) e⟩
 |xd fs=>let⟨mA,⟨od,es,ep,e,c⟩,r⟩:=x;exact⟨mA,⟨od,es,ep,k _ _ (.inl rfl) e,c⟩,r⟩
 |rng lo hi=>let⟨t,u,v,e⟩:=x;exact⟨t,u,v,k _ _ (.inl rfl) e⟩
 |aG ob u ih=>let⟨e,q⟩:=x;exact⟨k _ _ (.inl rfl) e,ih q⟩
 |tbl ps=>
  have e:h.get? a=some {cls:= .none,data:= .fields ps}:=x;show h'.get? a=some {cls:= .none,data:= .fields ps};exact k a _ (.inl rfl) e
 |met f y=>
  have e:h.get? a=1#(PySem.W.methodObj 3#f 3#y):=x;show h'.get? a=1#(PySem.W.methodObj 3#f 3#y);exact k a _ (.inl rfl) e
 |ext φ=>let⟨p,⟨o,e⟩,st⟩:=x;exact⟨st _ _ p λo q=>k _ _ (.inl rfl) q,⟨o,k _ _ (.inl rfl) e⟩,st⟩
theorem bA.lt (x:bA P w H h) (e:H a=1#o):a<h.objs.size:=(x a o e).lt
theorem bA.fresh (x:bA P w H h) (e:h.objs.size<=a):H a=none:=by
 cases q:H a with
 |none=>rfl
 |some u=>exact absurd (aan (x.lt q) e) (aa5 _)
theorem bA.kept (x:bA P w H h) (k:∀b u,h.get? b=1#u->h'.get? b=1#u):bA P w H h':=λa o e=>
 (x a o e).i9 (λb u _ q=>k b u q) (λ_ q=>q) λ_ _ q=>q
theorem bA.laid (x:bA P w H h) (k:∀b u,h.get? b=1#u->h'.get? b=1#u) (hp:h.objs.size<=a) (new:aQ P w (upd H a o) h' a o):bA P w (upd H a o) h':=λb u e=>by
 have hn:=x.fresh hp
 by_cases hb:b=a
 ·subst hb;rw[aq] at e;cases e;exact new
 ·rw[ar hb] at e
  exact(x b u e).i9 (λc v _ q=>k c v q) (λc q=>by rw[ar (br q hn)];exact q) λc xs q=>by rw[ar (br q hn)];exact q
end
def Rd (H:Hp) (a:Addr) (u:HO):Prop:=H a=1#u∨∃o,H a=1#(.aG o u)
theorem Rd.ok {P:Program} {w:World} {H:Hp} {a:Addr} {u:HO} (r:Rd H a u) (x:bA P w H h):aQ P w H h a u:=by
 rcases r with r|⟨o,r⟩
 ·exact x a u r
 ·let⟨_,q⟩:=x a _ r;exact q
def zE:5#HO->Prop
 |some 7#_=>True
 |some (.dK _)=>True
 |some (.dT _)=>True
 |some (.set _ _)=>True
 |some (.ins _ _ _)=>True
 |some (.ext _)=>True
 |_=>False
section
variable {P:Program} {w:World} {H:Hp} {h h':Heap} {x e:Addr} {o':HO}
theorem bA.write (ok:bA P w H h) (mu:zE (H x)) (he:e=x∨H e=1#(.own x)) (k:∀b u,b≠e->h.get? b=1#u->h'.get? b=1#u) (heo:∃u,h'.get? e=1#u)
  (new:aQ P w (upd H x o') h' x o'):bA P w (upd H x o') h':=λb u q=>by
 have nown:∀c y,H c=1#(.own y)->c≠x:=λc y r z=>by subst z;rw[r] at mu;exact mu
 have ntup:∀c xs,H c=1#(.tup xs)->c≠x:=λc xs r z=>by subst z;rw[r] at mu;exact mu
 by_cases hb:b=x
 ·subst hb;rw[aq] at q;cases q;exact new
 ·rw[ar hb] at q
  by_cases hbe:b=e
  ·have q':H b=1#(.own x):=by
    rcases he with z|z
    ·exact absurd (hbe.trans z) hb
    ·rw[hbe];exact z
   rw[q] at q';cases q';let⟨v,hv⟩:=heo;exact⟨v,by rw[hbe];exact hv⟩
  ·refine(ok b u q).i9 (λc v hc r=>k c v ?_ r) (λc r=>by rw[ar (nown c b r)];exact r) λc xs r=>by rw[ar (ntup c xs r)];exact r
   rcases hc with rfl|hc
   ·exact hbe
   ·rintro rfl
    rcases he with z|z
    ·exact nown c b hc z
    ·rw[hc] at z;cases z;exact hb rfl
end
structure Un (fs ex:2#Addr) (H H':Hp) (h h':Heap):Prop where
 keep:∀b o,h.get? b=1#o->H b=none->b∉fs->b∉ex->h'.get? b=1#o
 slot:∀b o,h.get? b=1#o->H b=none->b∈fs->b∉ex->∃sl,h'.get? b=some {o with slots:=sl}
 free:∀b o,h.get? b=1#o->H b=none->b∉ex->H' b=none
 there:∀b o,h.get? b=1#o->b∉ex->∃o',h'.get? b=1#o'
 tups:∀b xs,H b=1#(.tup xs)->H' b=1#(.tup xs)
 aV:∀b o u,H b=1#(.aG o u)->H' b=1#(.aG o u)
 tbls:∀b ps,H b=1#(.tbl ps)->∃more,H' b=1#(.tbl (ps++more))
section
variable {fs fs' ex ex':2#Addr} {H H1 H2:Hp} {h h1 h2 h':Heap} {a x e:Addr} {o:HO}
theorem Un.any (u:Un fs ex H H1 h h1) {b:Addr} (q:h.get? b=1#ob) (n:H b=none) (hx:b∉ex):∃sl,h1.get? b=some {ob with slots:=sl}:=by
 by_cases hb:b∈fs
 ·exact u.slot b ob q n hb hx
 ·exact⟨ob.slots,u.keep b ob q n hb hx⟩
theorem Un.kept (k:∀b u,h.get? b=1#u->h'.get? b=1#u):Un fs ex H H h h':=
 ⟨λb ob q _ _ _=>k b ob q,λb ob q _ _ _=>⟨ob.slots,k b ob q⟩,λ_ _ _ n _=>n,λb ob q _=>⟨ob,k b ob q⟩,λ_ _ q=>q,λ_ _ _ q=>q,λ_ ps q=>⟨#[],by rw[q];simp⟩⟩
theorem Un.refl:Un fs ex H H h h:=Un.kept λ_ _ q=>q
theorem Un.laid (k:∀b u,h.get? b=1#u->h'.get? b=1#u) (hp:h.objs.size<=a) (hn:H a=none):Un fs ex H (upd H a o) h h' where
 keep:=λb u q _ _ _=>k b u q
 slot:=λb u q _ _ _=>⟨u.slots,k b u q⟩
 free:=λb u q n _=>by rw[ar (aay (aan (aam q) hp))];exact n
 there:=λb u q _=>⟨u,k b u q⟩
 tups:=λb xs q=>by rw[ar (br q hn)];exact q
 aV:=λb u xs q=>by rw[ar (br q hn)];exact q
 tbls:=λb ps q=>⟨#[],by rw[ar (br q hn),q];simp⟩
theorem Un.write (mu:zE (H x)) (he:e=x∨H e=1#(.own x)) (k:∀b u,b≠e->h.get? b=1#u->h'.get? b=1#u) (heo:∃u,h'.get? e=1#u):Un fs ex H (upd H x o) h h':=by
 have hx:∀b,H b=none->b≠x:=λb n z=>by subst z;rw[n] at mu;exact mu
 have hb:∀b,H b=none->b≠e:=λb n z=>by
  subst z
  rcases he with r|r
  ·exact hx b n r
  ·rw[n] at r;cases r
 have hm:∀b u,H b=1#u->¬zE 1#u->b≠x:=λb u q nm z=>by subst z;rw[q] at mu;exact nm mu
 refine⟨λb u q n _ _=>k b u (hb b n) q,λb u q n _ _=>⟨u.slots,k b u (hb b n) q⟩,λb u q n _=>by rw[ar (hx b n)];exact n,λb u q _=> ?_,
  λb xs q=>by rw[ar (hm b _ q λz=>z)];exact q,λb u xs q=>by rw[ar (hm b _ q λz=>z)];exact q,λb ps q=>⟨#[],by rw[ar (hm b _ q λz=>z),q];simp⟩⟩
 by_cases hbe:b=e
 ·subst hbe;exact heo
 ·exact⟨u,k b u hbe q⟩
theorem Un.mono (u:Un fs ex H H1 h h1) (hs:∀b∈fs,b∈fs') (hx:∀b∈ex,b∈ex'):Un fs' ex' H H1 h h1:=
 ⟨λb ob q n hb he=>u.keep b ob q n (λz=>hb (hs b z)) λz=>he (hx b z),λ_ _ q n _ he=>u.any q n λz=>he (hx _ z),λb ob q n he=>u.free b ob q n λz=>he (hx b z),λb ob q he=>u.there b ob q λz=>he (hx b z),u.tups,u.aV,u.tbls⟩
end
noncomputable def CL (h:Heap) (H:Hp):2#Addr:=(List.range h.objs.size).filter λa=>(H a).isSome
def jk (h:Heap) (H:Hp):Heap:=PySem.W.hideAll h (CL h H)
theorem xX (h:Heap) (H:Hp):(jk h H).objs.size=h.objs.size:=PySem.W.hideAll_size _ _
theorem BH {h:Heap} {H:Hp} {b:Addr} (e:h.get? b=1#o) (n:H b=none):(jk h H).get? b=1#o:=
 PySem.W.hideAll_get _ e λhm=>by
  have q:(H b).isSome=true:=(aaV.mp hm).2;rw[n] at q;simp at q
theorem Dy {h:Heap} {H:Hp} {b:Addr} (e:(jk h H).get? b=1#o):h.get? b=1#o/\H b=none:=by
 have e':h.get? b=1#o:=PySem.W.of_hideAll (CL h H) e;refine⟨e', ?_⟩
 cases q:H b with
 |none=>rfl
 |some x=>
  have hm:b∈CL h H:=aaV.mpr ⟨abf.mpr (aam e'),by simp[q]⟩;have z:(jk h H).get? b=none:=PySem.W.hideAll_none (CL h H) hm;rw[z] at e;cases e
noncomputable def Es (g h:Heap) (L:Addr):2#(Addr×Obj):=(List.range h.objs.size).filterMap λa=>if a=L∨(g.get? a).isSome=true then none else (h.get? a).map λo=>(a,o)
def rest (g h:Heap) (L d:Addr):2#(Addr×Obj):=(Es g h L).filter λp=>decide (p.1≠d)
structure Mod (K:8#4) (mg:8#23) (base:Heap):Prop where
 kin:K.In base
 glob:base.Ns mainGlobals mg
 blt:∃mb,base.Ns builtinsNs mb/\∀x:Str,x≠"__name__"->mb x=bootBuiltins x
 nolimit:base.NoLimit
structure Cx where
 prog:Program
 w:World
 K:PySem.W.Frag
 mg:Str->5#Value
 base:Heap
 A:Around
 N:2#Str
 s₀:Shared
 H₀:Hp
 env:Env
 outer:2#Env
 stack:2#Env
 ex:2#Addr
 fn:Str->Bool
 calm:Bool
 pn:2#(Addr×Obj)
 xe:Value->Shared->Prop
noncomputable def dj (l:2#Env):2#Addr:=l.filterMap (·.frame)
abbrev Cx.fs (X:Cx):2#Addr:=dj X.outer
def ye (sc:Scope) (x:Str):Prop:=sc.names.lookup x=1#.local∨sc.names.lookup x=1#.cell∨sc.names.lookup x=1#.free
def Loc (sc:Scope) (x:Str):Prop:=sc.names.lookup x=1#.local∨sc.names.lookup x=1#.cell
def Look (env:Env) (h:Heap) (m:8#23) (x:Str) (u:Value):Prop:=
 (env.kindOf x=1#.local/\m x=1#u)∨((env.kindOf x=1#.cell∨env.kindOf x=1#.free)/\∃c,env.cells.lookup x=1#c/\h.IsCell c 1#u)
structure Cx.Ok (X:Cx):Prop where
 mod:Mod X.K X.mg X.base
 kind:X.env.scope.kind= .function
 glob:X.env.globals=mainGlobals
 blt:X.env.builtins=builtinsNs
 above:X.s₀.heap.objs.size<=X.env.locals
 inj:∀x y c,X.env.cells.lookup x=1#c->X.env.cells.lookup y=1#c->x=y
 has:∀x,(X.env.kindOf x=1#.cell∨X.env.kindOf x=1#.free)->∃c,X.env.cells.lookup x=1#c
 cab:∀x c,X.fn x=true->X.env.cells.lookup x=1#c->X.s₀.heap.objs.size<=c
 hd:X.calm=true->X.A.handled=none
 frames:X.A.frames=1#X.stack
 stk:X.stack=X.outer∨(X.stack=X.env::X.outer/\X.env.frame=1#X.env.locals)
 exf:∀b∈X.ex,b≠X.env.locals/\∀x c,X.env.cells.lookup x=1#c->c≠b
 bs:∀b o,X.base.get? b=1#o->X.s₀.heap.get? b=1#o/\X.H₀ b=none
 bsz:X.base.objs.size<=X.s₀.heap.objs.size
 noex:∀b o,X.base.get? b=1#o->b∉X.ex
 exfs:∀b∈X.ex,b∉X.fs
 dE:X.s₀.heap.FunFrames X.base X.outer
 frf:∀b∈X.fs,X.H₀ b=none
structure Inv (X:Cx) (pins:8#7) (σ:2#5#V) (H:Hp) (s:9#4):Prop where
 ok:X.Ok
 os:s.os=X.s₀.os
 bare:AllBare s.gens
 base:Un X.fs X.ex X.H₀ H X.s₀.heap s.heap
 loc:∃m,s.heap.Ns X.env.locals m/\∀(i:Nat) (x:Str) (v:V),X.N[i]?=1#x->σ[i]?=1#1#v->ye X.env.scope x->∃u,RelV v u/\Look X.env s.heap m x u
 cell:∀x c,X.env.cells.lookup x=1#c->∃v,s.heap.IsCell c v
 free:H X.env.locals=none
 freeC:∀x c,X.env.cells.lookup x=1#c->H c=none
 pin:∀p∈X.pn++pins,s.heap.get? p.1=1#p.2/\H p.1=none/\p.1≠X.env.locals/\p.1∉X.fs/\∀v,p.2.data≠ .cell v
 ah:bA X.prog X.w H s.heap
 len:0#σ=0#X.N
section
variable {X:Cx} {pins:8#7} {σ:2#5#V} {H H':Hp} {s:9#4} {h':Heap}
theorem Cx.Ok.MM (ok:X.Ok) {b:Addr} (e:X.base.get? b=1#o):b∉X.fs:=λhb=>by
 have:=(ok.dE.mem hb).1;rw[e] at this;cases this
theorem Inv.bs (I:8#1):∀b o,X.base.get? b=1#o->s.heap.get? b=1#o/\H b=none:=λb o e=>
 ⟨I.base.keep b o (I.ok.bs b o e).1 (I.ok.bs b o e).2 (I.ok.MM e) (I.ok.noex b o e),I.base.free b o (I.ok.bs b o e).1 (I.ok.bs b o e).2 (I.ok.noex b o e)⟩
theorem Inv.bk (I:8#1):∀b o,X.base.get? b=1#o->s.heap.get? b=1#o:=λb o e=>(I.bs b o e).1
theorem Inv.mod (I:8#1):Mod X.K X.mg X.base:=I.ok.mod
theorem Inv.bQ (I:8#1):X.K.In s.heap:=I.ok.mod.kin.keeps I.bk
theorem Inv.lt (I:8#1):X.env.locals<s.heap.objs.size:=let ⟨_,hn,_⟩:=I.loc;hn.lt
theorem Inv.sz (I:8#1):X.s₀.heap.objs.size<=s.heap.objs.size:=aaT I.ok.above (abI I.lt)
theorem Inv.GV (I:8#1) {a:Addr} (h:s.heap.objs.size<=a):a∉X.fs:=λhb=>by
 let⟨_,o,ho,_⟩:=I.ok.dE.mem hb;exact absurd (aan (aam ho) (aaT I.sz h)) (aa5 _)
theorem Inv.tI (I:8#1):∀x c,X.env.cells.lookup x=1#c->c≠X.env.locals:=λx c e z=>by
 let⟨v,o,ho,hd⟩:=I.cell x c e;let⟨m,⟨o',es,ep,ho',hd',_⟩,_⟩:=I.loc;rw[z,ho'] at ho;cases ho;rw[hd'] at hd;cases hd
theorem Inv.dE (I:8#1):s.heap.FunFrames X.base X.outer:=by
 have all:∀(l:2#Env),(∀b∈dj l,b∈X.fs)->X.s₀.heap.FunFrames X.base l->s.heap.FunFrames X.base l:=by
  intro l
  induction l with
  |nil=>intro _ _;trivial
  |cons env r ih=>
   intro hs hl;let⟨hk,⟨L,o,hf,hn,ho,hd⟩,hr⟩:=hl;have hL:L∈X.fs:=hs L (by unfold dj;rw[aa9,hf];exact aaD);let⟨sl,e⟩:=I.base.slot L o ho (I.ok.frf L hL) hL λz=>I.ok.exfs L z hL;exact⟨hk,⟨L,_,hf,hn,e,hd⟩,ih (λb hb=>hs b (by unfold dj;rw[aa9,hf];exact aat _ hb)) hr⟩
 exact all X.outer (λ_ hb=>hb) I.ok.dE
theorem Inv.stack (I:8#1):s.heap.FunFrames X.base X.stack:=by
 rcases I.ok.stk with e|⟨e,hf⟩
 ·rw[e];exact I.dE
 ·rw[e];let⟨m,hn,_⟩:=I.loc;refine .cons (by rw[I.ok.kind];decide) hf hn ?_ I.dE;exact abg (aaT I.ok.bsz I.ok.above)
theorem Inv.sX (I:8#1):∀b∈dj X.stack,b∈X.env.locals::X.fs:=λb hb=>by
 rcases I.ok.stk with e|⟨e,hf⟩
 ·rw[e] at hb;exact aat _ hb
 ·rw[e] at hb;unfold dj at hb;rw[aa9,hf] at hb;exact hb
theorem Inv.kq (I:8#1):∀b∈dj X.stack,H b=none:=λb hb=>by
 rcases aaq.mp (I.sX b hb) with e|hb
 ·rw[e];exact I.free
 ·let⟨_,o,ho,_⟩:=I.ok.dE.mem hb;exact I.base.free b o ho (I.ok.frf b hb) λz=>I.ok.exfs b z hb
theorem Inv.step {t':Nat} {ch:2#Addr} (I:8#1)
  (hch:8#24)
  (keep:∀b o,b≠X.env.locals->b∉X.fs->b∉ch->s.heap.get? b=1#o->H b=none->h'.get? b=1#o)
  (slot:∀b o,b≠X.env.locals->b∈X.fs->b∉ch->s.heap.get? b=1#o->H b=none->∃sl,h'.get? b=some {o with slots:=sl}) (free:∀b o,b∉ch->s.heap.get? b=1#o->H b=none->H' b=none)
  (there:∀b o,b∉ch->s.heap.get? b=1#o->∃o',h'.get? b=1#o')
  (tups:∀b xs,H b=1#(.tup xs)->H' b=1#(.tup xs)) (aV:∀b o u,H b=1#(.aG o u)->H' b=1#(.aG o u)) (tbls:∀b ps,H b=1#(.tbl ps)->∃more,H' b=1#(.tbl (ps++more)))
  (ns:∀m,s.heap.Ns X.env.locals m->h'.Ns X.env.locals m) (ah:bA X.prog X.w H' h') (hg:AllBare g'):
  Inv X pins σ H' {s with heap:=h',gens:=g',drawn:=d',toks:=t'}:=by
 have neL:∀b o,X.s₀.heap.get? b=1#o->b≠X.env.locals:=λb o e=>aay (aan (aam e) I.ok.above)
 have neC:∀b o,X.s₀.heap.get? b=1#o->b∉X.ex->b∉ch:=λb o e hx hb=>by
  rcases (hch b hb).1 with z|z
  ·exact hx z
  ·exact absurd (aan (aam e) z) (aa5 _)
 have cellK:∀x c,X.env.cells.lookup x=1#c->∀v,s.heap.IsCell c v->h'.IsCell c v:=λx c e v z904=>by
  let⟨o,ho,hd⟩:=z904;have nch:c∉ch:=λz=>(hch c z).2.2.1 x c e rfl
  by_cases hc:c∈X.fs
  ·let⟨sl,q⟩:=slot c o (I.tI x c e) hc nch ho (I.freeC x c e);exact⟨_,q,hd⟩
  ·exact⟨o,keep c o (I.tI x c e) hc nch ho (I.freeC x c e),hd⟩
 refine⟨I.ok,I.os,hg,⟨λb o e n hb hx=> ?_,λb o e n hb hx=> ?_,λb o e n hx=> ?_,λb o e hx=> ?_,λb xs e=>tups b xs (I.base.tups b xs e),λb o xs e=>aV b o xs (I.base.aV b o xs e),λb ps e=> ?_⟩, ?_,λx c e=> ?_, ?_,λx c e=> ?_,λp hp=> ?_,ah,I.len⟩
 ·exact keep b o (neL b o e) hb (neC b o e hx) (I.base.keep b o e n hb hx) (I.base.free b o e n hx)
 ·let⟨sl,e1⟩:=I.base.slot b o e n hb hx;let⟨sl',e2⟩:=slot b _ (neL b o e) hb (neC b o e hx) e1 (I.base.free b o e n hx);exact⟨sl',e2⟩
 ·let⟨o',e1⟩:=I.base.there b o e hx;exact free b o' (neC b o e hx) e1 (I.base.free b o e n hx)
 ·let⟨o',e1⟩:=I.base.there b o e hx;exact there b o' (neC b o e hx) e1
 ·let⟨m1,e1⟩:=I.base.tbls b ps e;let⟨m2,e2⟩:=tbls b _ e1;exact⟨m1++m2,by rw[e2,Array.append_assoc]⟩
 ·let⟨m,hn,hl⟩:=I.loc;refine⟨m,ns m hn,λi x v e1 e2 e3=> ?_⟩;let⟨u,r,l⟩:=hl i x v e1 e2 e3;refine⟨u,r, ?_⟩
  rcases l with l|⟨k,c,e,z⟩
  ·exact .inl l
  ·exact .inr ⟨k,c,e,cellK x c e _ z⟩
 ·let⟨v,z⟩:=I.cell x c e;exact⟨v,cellK x c e v z⟩
 ·let⟨m,⟨o,_,_,ho,_⟩,_⟩:=I.loc;exact free _ o (λz=>(hch _ z).2.1 rfl) ho I.free
 ·let⟨v,o,ho,hd⟩:=I.cell x c e;exact free c o (λz=>(hch c z).2.2.1 x c e rfl) ho (I.freeC x c e)
 ·let⟨e,n,ne,nf,d⟩:=I.pin p hp;have nch:p.1∉ch:=λz=>(hch p.1 z).2.2.2 p hp rfl;exact⟨keep p.1 p.2 ne nf nch e n,free p.1 p.2 nch e n,ne,nf,d⟩
theorem Inv.un {t':Nat} (I:8#1) (u:Un X.fs [] H H' s.heap h') (ah:bA X.prog X.w H' h'):Inv X pins σ H' {s with heap:=h',toks:=t'}:=by
 let⟨m,⟨o,es,ep,ho,r⟩,_⟩:=id I.loc;let⟨sl,hL⟩:=u.any ho I.free 8#5
 exact I.step (g':=s.gens) (d':=s.drawn) (ch:=[]) (λ_ z=>nomatch z) (λb o _ hb _ e n=>u.keep b o e n hb 8#5) (λb o _ hb _ e n=>u.slot b o e n hb 8#5) (λb o _ e n=>u.free b o e n 8#5) (λb o _ e=>u.there b o e 8#5) u.tups u.aV u.tbls (λm' hm=>by
  let⟨o',es',ep',ho',r'⟩:=hm;rw[ho] at ho';cases ho'
  exact⟨_,es',ep',hL,r'⟩) ah I.bare
theorem Inv.call {t':Nat} {ch:2#Addr} (I:8#1) (u:Un (dj X.stack) ch H H' s.heap h') (ah:bA X.prog X.w H' h') (hg:AllBare g')
  (hch:8#24):
  Inv X pins σ H' {s with heap:=h',gens:=g',drawn:=d',toks:=t'}:=by
 let⟨m,⟨o,es,ep,ho,r⟩,_⟩:=id I.loc;let⟨sl,hL⟩:=u.any ho I.free λz=>(hch _ z).2.1 rfl
 exact I.step (ch:=ch) hch (λb o hL hb hc e n=>u.keep b o e n (λz=>(aaq.mp (I.sX b z)).elim hL hb) hc) (λb o _ _ hc e n=>u.any e n hc) (λb o hc e n=>u.free b o e n hc) (λb o hc e=>u.there b o e hc) u.tups u.aV u.tbls (λm' hm=>by
  let⟨o',es',ep',ho',r'⟩:=hm;rw[ho] at ho';cases ho'
  exact⟨_,es',ep',hL,r'⟩) ah hg
theorem Inv.turned {t':Nat} (I:8#1) (k:∀b o,b≠it->s.heap.get? b=1#o->h'.get? b=1#o) (hn:H it=none) (hL:it≠X.env.locals)
  (h1:it∈X.ex∨X.s₀.heap.objs.size<=it) (h2:∀x c,X.env.cells.lookup x=1#c->c≠it) (h3:∀p∈X.pn++pins,p.1≠it):Inv X pins σ H {s with heap:=h',toks:=t'}:=by
 have nit:∀b u,H b=1#u->b≠it:=λb u e z=>by rw[z,hn] at e;cases e
 refine I.step (g':=s.gens) (d':=s.drawn) (ch:=[it]) (λb hb=> ?_) (λb o _ _ hc e _=>k b o (λz=>hc (by simp[z])) e) (λb o _ _ hc e _=>⟨o.slots,k b o (λz=>hc (by simp[z])) e⟩) (λ_ _ _ _ n=>n)
  (λb o hc e=>⟨o,k b o (λz=>hc (by simp[z])) e⟩) (λ_ _ e=>e) (λ_ _ _ e=>e) (λb ps e=>⟨#[],by rw[e];simp⟩) (λm hm=> ?_) (λb u e=> ?_) I.bare
 ·have e:b=it:=by simpa using hb
  subst e;exact⟨h1,hL,h2,h3⟩
 ·let⟨o,es,ep,ho,r⟩:=hm;exact⟨o,es,ep,k _ o (Ne.symm hL) ho,r⟩
 ·refine(I.ah b u e).i9 (λc v hc q=>k c v ?_ q) (λ_ q=>q) λ_ _ q=>q
  rcases hc with z|z
  ·rw[z];exact nit b u e
  ·exact nit c _ z
theorem Inv.tok (I:8#1) (t:Nat):Inv X pins σ H {s with toks:=t}:=I.un (h':=s.heap) (t':=t) Un.refl I.ah
theorem Inv.kept {t':Nat} (I:8#1) (k:∀b u,s.heap.get? b=1#u->h'.get? b=1#u):Inv X pins σ H {s with heap:=h',toks:=t'}:=I.un (Un.kept k) (I.ah.kept k)
theorem Inv.laid {a:Addr} {o:HO} {t':Nat} (I:8#1) (k:∀b u,s.heap.get? b=1#u->h'.get? b=1#u) (hp:s.heap.objs.size<=a) (new:aQ X.prog X.w (upd H a o) h' a o):
  Inv X pins σ (upd H a o) {s with heap:=h',toks:=t'}:=I.un (Un.laid k hp (I.ah.fresh hp)) (I.ah.laid k hp new)
theorem Inv.write {x e:Addr} {o:HO} {t':Nat} (I:8#1) (mu:zE (H x)) (he:e=x∨H e=1#(.own x)) (k:∀b u,b≠e->s.heap.get? b=1#u->h'.get? b=1#u) (heo:∃u,h'.get? e=1#u)
  (new:aQ X.prog X.w (upd H x o) h' x o):Inv X pins σ (upd H x o) {s with heap:=h',toks:=t'}:=I.un (Un.write mu he k heo) (I.ah.write mu he k heo new)
theorem Inv.dq (I:8#1) (h:∀p∈pins',s.heap.get? p.1=1#p.2/\H p.1=none/\p.1≠X.env.locals/\p.1∉X.fs/\∀v,p.2.data≠ .cell v):Inv X pins' σ H s:=
 ⟨I.ok,I.os,I.bare,I.base,I.loc,I.cell,I.free,I.freeC,λp hp=>(aaM.mp hp).elim (λz=>I.pin p (aaU _ z)) (h p),I.ah,I.len⟩
theorem tm {N:2#Str} (hN:N.Nodup) {i j:Nat} {x:Str} (a:N[i]?=1#x) (b:N[j]?=1#x):i=j:=by
 let⟨h1,e1⟩:=aae.mp a;let⟨h2,e2⟩:=aae.mp b;exact(List.getElem_inj hN).mp (e1.trans e2.symm)
theorem oO {M:Model} {A:Around} {E:8#2} {i:Nat} {x:Str} {v:V} {u:Value} {Q:Unit->Shared->Prop} (I:8#1) (hN:X.N.Nodup) (hi:X.N[i]?=1#x) (hx:Loc X.env.scope x) (r:RelV v u)
  (h:∀s',Inv X pins (σ.set i 1#v) H s'->(∃a,Heap.SameBut a s.heap s'.heap/\(a=X.env.locals∨X.env.cells.lookup x=1#a))->Q () s') (hf:X.fn x=true∨X.env.scope.names.lookup x=1#.local:=by first|exact .inl rfl|exact .inr rfl|assumption):wpAny M A (storeName X.env x u) Q E s:=by
 let⟨m,hn,hl⟩:=id I.loc
 have hcls:(X.env.scope.kind== .class||(X.env.scope.kind== .module&&X.env.locals !=X.env.globals))=false:=by rw[I.ok.kind];rfl
 have hiσ:i<0#σ:=by rw[I.len];exact(aae.mp hi).1
 have tI:=I.tI
 have tracked:∀{a:Addr} {h':Heap},(∃o,s.heap.get? a=1#o/\H a=none)->Heap.SameBut a s.heap h'->bA X.prog X.w H h':=λ{a h'} ha hs b ob e=>by
  let⟨_,_,hfree⟩:=ha;refine(I.ah b ob e).i9 (λc w' hc q=>(hs.2 c ?_).trans q) (λ_ q=>q) λ_ _ q=>q
  rintro rfl
  rcases hc with rfl|hc
  ·rw[hfree] at e;cases e
  ·rw[hfree] at hc;cases hc
 rcases hx with hk|hk
 ·refine wpAny_storeName_local hk hn (λh' hn' hs=> ?_) hcls;let⟨oL,_,_,hoL,_⟩:=id hn;refine h _ ⟨I.ok,I.os,I.bare,⟨λb o e n hb hx=> ?_,λb o e n hb hx=> ?_,I.base.free,λb o e hx=> ?_,I.base.tups,I.base.aV,I.base.tbls⟩,⟨_,hn',λj y v' e1 e2 e3=> ?_⟩,λy c e=> ?_,I.free,I.freeC,λp hp=> ?_,tracked ⟨oL,hoL,I.free⟩ hs,by simpa using I.len⟩ ⟨_,hs, .inl rfl⟩
  ·exact(hs.2 b (aay (aan (aam e) I.ok.above))).trans (I.base.keep b o e n hb hx)
  ·let⟨sl,e1⟩:=I.base.slot b o e n hb hx;exact⟨sl,(hs.2 b (aay (aan (aam e) I.ok.above))).trans e1⟩
  ·let⟨o',e1⟩:=I.base.there b o e hx;exact⟨o',(hs.2 b (aay (aan (aam e) I.ok.above))).trans e1⟩
  ·by_cases hj:j=i
   ·subst hj;rw[hi] at e1;cases e1;rw[abF hiσ] at e2;cases e2;exact⟨u,r, .inl ⟨hk,by simp⟩⟩
   ·rw[abx (Ne.symm hj)] at e2;let⟨u',r',q⟩:=hl j y v' e1 e2 e3;refine⟨u',r', ?_⟩
    rcases q with⟨k,e⟩|⟨k,c,e,z⟩
    ·refine .inl ⟨k, ?_⟩;have:y≠x:=λe=>hj (tm hN e1 (e▸hi));simp[this,e]
    ·exact .inr ⟨k,c,e,z.sameBut hs (tI y c e)⟩
  ·let⟨w',z⟩:=I.cell y c e;exact⟨w',z.sameBut hs (tI y c e)⟩
  ·let⟨e,n,ne,nf,d⟩:=I.pin p hp;exact⟨(hs.2 p.1 ne).trans e,n,ne,nf,d⟩
 ·have hfn:X.fn x=true:=by
   rcases hf with z|z
   ·exact z
   ·rw[z] at hk;cases hk
  let⟨c,hc⟩:=I.ok.has x (.inl hk);let⟨w',z⟩:=I.cell x c hc;refine wpAny_storeName_cell I.ok.kind hk hc z (λh' hc' hs=> ?_);let⟨oc,hoc,hocd⟩:=id z;refine h {s with heap:=h'} ⟨I.ok,I.os,I.bare,⟨λb o e n hb hx=> ?_,λb o e n hb hx=> ?_,I.base.free,λb o e hx=> ?_,I.base.tups,I.base.aV,I.base.tbls⟩,⟨m,hn.sameBut hs (Ne.symm (tI x c hc)),λj y v' e1 e2 e3=> ?_⟩,λy c' e=> ?_,I.free,I.freeC,λp hp=> ?_,tracked ⟨oc,hoc,I.freeC x c hc⟩ hs,by simpa using I.len⟩ ⟨c,hs, .inr hc⟩
  ·exact(hs.2 b (aay (aan (aam e) (I.ok.cab x c hfn hc)))).trans (I.base.keep b o e n hb hx)
  ·let⟨sl,e1⟩:=I.base.slot b o e n hb hx;exact⟨sl,(hs.2 b (aay (aan (aam e) (I.ok.cab x c hfn hc)))).trans e1⟩
  ·let⟨o',e1⟩:=I.base.there b o e hx;exact⟨o',(hs.2 b (aay (aan (aam e) (I.ok.cab x c hfn hc)))).trans e1⟩
  ·by_cases hj:j=i
   ·subst hj;rw[hi] at e1;cases e1;rw[abF hiσ] at e2;cases e2;exact⟨u,r, .inr ⟨.inl hk,c,hc,hc'⟩⟩
   ·rw[abx (Ne.symm hj)] at e2;let⟨u',r',q⟩:=hl j y v' e1 e2 e3;refine⟨u',r', ?_⟩
    rcases q with q|⟨k,c',e,z'⟩
    ·exact .inl q
    ·refine .inr ⟨k,c',e,z'.sameBut hs ?_⟩
     rintro rfl
     exact hj (tm hN e1 (I.ok.inj _ _ _ e hc▸hi))
  ·by_cases hcc:c'=c
   ·subst hcc;exact⟨_,hc'⟩
   ·let⟨w2,z2⟩:=I.cell y c' e;exact⟨w2,z2.sameBut hs hcc⟩
  ·let⟨e,n,ne,nf,d⟩:=I.pin p hp;refine⟨(hs.2 p.1 ?_).trans e,n,ne,nf,d⟩;intro q;rw[q,hoc] at e;have q':oc=p.2:=Option.some.inj e;exact d w' (by rw[←q'];exact hocd)
theorem sg {M:Model} {A:Around} {E:8#2} {i:Nat} {x:Str} {v:V} {u:Value} {Q:Unit->Shared->Prop} (I:8#1) (hN:X.N.Nodup) (hi:X.N[i]?=1#x) (hx:Loc X.env.scope x) (r:RelV v u)
  (h:∀s',Inv X pins (σ.set i 1#v) H s'->Q () s') (hf:X.fn x=true∨X.env.scope.names.lookup x=1#.local:=by first|exact .inl rfl|exact .inr rfl|assumption):wpAny M A (storeName X.env x u) Q E s:=
 oO I hN hi hx r (λs' I' _=>h s' I') hf
theorem Inv.wc {s':9#4} {ch:2#Addr} (I:8#1) (ho:s'.os=s.os) (u:Un (dj X.stack) ch H H' s.heap s'.heap) (ah:bA X.prog X.w H' s'.heap) (hg:AllBare s'.gens)
  (hch:8#24):Inv X pins σ H' s':=by
 let⟨h',g',d',t',o'⟩:=s';have e:o'=s.os:=ho;subst e;exact I.call (g':=g') (t':=t') (d':=d') u ah hg hch
end
abbrev XK:=Value->5#Addr->Hp->Prop
abbrev St:=2#5#V
abbrev VK:=V->Hp->Prop
abbrev TE:=St->Hp->VK->Prop
abbrev TT:=St->Hp->(Bool->Hp->Prop)->Prop
abbrev TA:=St->Hp->(2#V->Hp->Prop)->Prop
structure Ends where
 nx:St->Hp->Prop
 rt:VK
 bk:St->Hp->Prop:=λ_ _=>False
 ct:St->Hp->Prop:=λ_ _=>False
abbrev TS:=Ends->St->Hp->Prop
def EP (X:Cx) (pins:8#7) (σ:St) (Q:VK) (u:Value) (s':9#4):Prop:=∃v H',Inv X pins σ H' s'/\RelV v u/\Q v H'
def TP (X:Cx) (pins:8#7) (σ:St) (Q:Bool->Hp->Prop) (b:Bool) (s':9#4):Prop:=∃H',Inv X pins σ H' s'/\Q b H'
def AP (X:Cx) (pins:8#7) (σ:St) (Q:2#V->Hp->Prop) (us:2#Value) (s':9#4):Prop:=∃vs H',Inv X pins σ H' s'/\Vals vs us/\Q vs H'
def SP (X:Cx) (pins:8#7) (D:Ends) (f:Flow) (s':9#4):Prop:=
 match f with
 | .next=>∃σ' H',Inv X pins σ' H' s'/\D.nx σ' H'
 | .brk=>∃σ' H',Inv X pins σ' H' s'/\D.bk σ' H'
 | .cont=>∃σ' H',Inv X pins σ' H' s'/\D.ct σ' H'
 | .ret u=>∃v σ' H',Inv X pins σ' H' s'/\RelV v u/\D.rt v H'
def PE (X:Cx) (e:Expr) (t:TE):Prop:=
 ∀(pins:8#7) (s:9#4) (σ:St) (H:Hp) (Q:VK),Inv X pins σ H s->t σ H Q->wpAny 8#3 X.A (eval e X.env) (EP X pins σ Q) X.xe s
def PT (X:Cx) (e:Expr) (t:TT):Prop:=
 ∀(pins:8#7) (s:9#4) (σ:St) (H:Hp) (Q:Bool->Hp->Prop),Inv X pins σ H s->t σ H Q->wpAny 8#3 X.A (isTrue e X.env (eval e X.env)) (TP X pins σ Q) X.xe s
def PW (X:Cx) (e:Expr) (t:TT):Prop:=
 ∀(whole:Sem Value) (pins:8#7) (s:9#4) (σ:St) (H:Hp) (Q:Bool->Hp->Prop),Inv X pins σ H s->t σ H Q->wpAny 8#3 X.A (isTrue e X.env whole) (TP X pins σ Q) X.xe s
theorem PW.pt {X:Cx} {e:Expr} {t:TT} (h:PW X e t):PT X e t:=h _
def PA (X:Cx) (es:2#Expr) (t:TA):Prop:=
 ∀(pos:Pos) (pins:8#7) (s:9#4) (σ:St) (H:Hp) (Q:2#V->Hp->Prop),Inv X pins σ H s->t σ H Q->wpAny 8#3 X.A (spliced (backTo pos (starEach es X.env))) (AP X pins σ Q) X.xe s
def PS (X:Cx) (st:Stmt) (t:TS):Prop:=
 ∀(pins:8#7) (s:9#4) (σ:St) (H:Hp) (D:Ends),Inv X pins σ H s->t D σ H->wpAny 8#3 X.A (exec st X.env) (SP X pins D) X.xe s
def dI (X:Cx) (st:2#Stmt) (t:TS):Prop:=
 ∀(pins:8#7) (s:9#4) (σ:St) (H:Hp) (D:Ends),Inv X pins σ H s->t D σ H->wpAny 8#3 X.A (execs st X.env) (SP X pins D) X.xe s
theorem az {α:Type} {t:Sem α} {Q Q':α->Shared->Prop} {M:Model} {A:Around} {E:8#2} {s:9#4} (h:wpAny M A t Q E s) (hQ:∀a s,Q a s->Q' a s):wpAny M A t Q' E s:=aa3 h hQ λ_ _ x=>x
section
variable {X:Cx}
def My (i:Nat):TE:=λσ H Q=>∃v,σ[i]?=1#1#v/\Q v H
def tC (v:V):TE:=λ_ H Q=>Q v H
theorem E2 {i:Nat} {x:Str} (hN:X.N[i]?=1#x) (hv:ye X.env.scope x) (hd:(x==("__debug__":Str))=false:=by decide) (hcd:(x==("__classdict__":Str))=false:=by decide):PE X (.Name x pos) (My i):=by
 intro pins s σ H Q I h;let⟨v,e,h⟩:=h;let⟨m,hn,hl⟩:=I.loc;let⟨u,r,l⟩:=hl i x v hN e hv;have fin:EP X pins σ Q u s:=⟨v,H,I,r,h⟩
 rcases l with⟨hk,hm⟩|⟨hk,c,hc,hcell⟩
 ·exact wpAny_Name (wpAny_loadName_local I.ok.kind hk hn hm fin) hd
 ·rcases hk with hk|hk
  ·exact wpAny_Name (wpAny_loadName_cell I.ok.kind hk hc hcell fin) hd
  ·exact wpAny_Name (wpAny_loadName_free I.ok.kind hk hc hcell fin hcd) hd
theorem Hq {i j pos}:PE X (.Constant 6#i j pos) (tC 6#i):=λ_ _ _ H _ I h=>wpAny_Constant_int ⟨6#i,H,I.tok _,⟨_,rfl⟩,h⟩
theorem Jq {b j pos}:PE X (.Constant (.bool b) j pos) (tC (.bl b)):=λ_ _ _ H _ I h=>Constant_bool ⟨.bl b,H,I,rfl,h⟩
theorem E4 {j pos}:PE X (.Constant .none j pos) (tC .non):=λ_ _ _ H _ I h=>Constant_none ⟨.non,H,I,rfl,h⟩
theorem Gd {x j pos}:PE X (.Constant (.str x) j pos) (tC (.str x)):=λ_ _ _ H _ I h=>Calls.Constant_str ⟨.str x,H,I.tok _,⟨_,rfl⟩,h⟩
def Gl (X:Cx) (x:Str):Prop:=X.env.kindOf x=1#.globalImplicit
theorem iJ {E:8#2} {s:9#4} {σ:St} {H:Hp} {x:Str} {u:Value} {Q:8#2} (I:8#1) (hg:Gl X x) (hm:X.mg x=1#u) (h:Q u s)
  (hd:(x==("__debug__":Str))=false:=by decide):wpAny 8#3 X.A (eval (.Name x pos) X.env) Q E s:=
 Calls.Name_function_global I.ok.kind hg (Calls.loadGlobal_global (by rw[I.ok.glob];exact I.mod.glob.keeps I.bk) hm h) hd
theorem fH {E:8#2} {s:9#4} {σ:St} {H:Hp} {x:Str} {u:Value} {Q:8#2} (I:8#1) (hg:Gl X x) (hm:X.mg x=none) (hv:bootBuiltins x=1#u) (h:Q u s)
  (hn:x≠"__name__":=by decide) (hd:(x==("__debug__":Str))=false:=by decide):wpAny 8#3 X.A (eval (.Name x pos) X.env) Q E s:=by
 let⟨mb,h1,h2⟩:=I.mod.blt;exact Calls.Name_function_global I.ok.kind hg (Calls.loadGlobal_builtin (by rw[I.ok.glob];exact I.mod.glob.keeps I.bk) hm (by rw[I.ok.blt];exact h1.keeps I.bk) ((h2 x hn).trans hv) h) hd
theorem uT {x:Str} {v:V} {u:Value} (hg:Gl X x) (hm:X.mg x=1#u) (r:RelV v u) (hd:(x==("__debug__":Str))=false:=by decide):PE X (.Name x pos) (tC v):=
 λ_ _ _ H _ I h=>iJ I hg hm ⟨v,H,I,r,h⟩ hd
theorem D6 {x:Str} {v:V} {u:Value} (hg:Gl X x) (hm:X.mg x=none) (hv:bootBuiltins x=1#u) (r:RelV v u) (hn:x≠"__name__":=by decide) (hd:(x==("__debug__":Str))=false:=by decide):PE X (.Name x pos) (tC v):=
 λ_ _ _ H _ I h=>fH I hg hm hv ⟨v,H,I,r,h⟩ hn hd
variable {a b:Expr} {ta tb:TE} {pos:Pos}
variable {tA tB':TT} {rest:2#Expr}
def L6 (t u:TT):TT:=λσ H Q=>t σ H λc H1=>if c=true then u σ H1 Q else Q false H1
def tOr (t u:TT):TT:=λσ H Q=>t σ H λc H1=>if c=true then Q true H1 else u σ H1 Q
def Mx (t:TT):TT:=λσ H Q=>t σ H λc H1=>Q (!c) H1
theorem DI (ha:PT X a tA):PW X (.BoolOp .And [a] pos) tA:=by
 intro wh pins s σ H Q I h;refine isTrue_and (az (ha pins s σ H Q I h) λc s1 e=> ?_)
 cases c with
 |true=>exact isTrue_and_nil e
 |false=>exact e
theorem Fy (ha:PT X a tA):PW X (.BoolOp .Or [a] pos) tA:=by
 intro wh pins s σ H Q I h;refine isTrue_or (az (ha pins s σ H Q I h) λc s1 e=> ?_)
 cases c with
 |false=>exact isTrue_or_nil e
 |true=>exact e
theorem FN (ha:PT X a tA) (hb:PW X (.BoolOp .And (b::rest) pos) tB'):PW X (.BoolOp .And (a::b::rest) pos) (L6 tA tB'):=by
 intro wh pins s σ H Q I h;refine isTrue_and (az (ha pins s σ H _ I h) λc s1 z902=> ?_);let⟨H1,I1,q1⟩:=z902
 cases c with
 |true=>exact hb wh pins s1 σ H1 Q I1 q1
 |false=>exact⟨H1,I1,q1⟩
theorem IQ (ha:PT X a tA) (hb:PW X (.BoolOp .Or (b::rest) pos) tB'):PW X (.BoolOp .Or (a::b::rest) pos) (tOr tA tB'):=by
 intro wh pins s σ H Q I h;refine isTrue_or (az (ha pins s σ H _ I h) λc s1 z902=> ?_);let⟨H1,I1,q1⟩:=z902
 cases c with
 |true=>exact⟨H1,I1,q1⟩
 |false=>exact hb wh pins s1 σ H1 Q I1 q1
theorem GD (ha:PT X a tA):PT X (.UnaryOp .Not a pos) (Mx tA):=by
 intro pins s σ H Q I h;exact isTrue_not (ha pins s σ H (λc H1=>Q (!c) H1) I h)
def JV (ta tb:TE):TE:=λσ H Q=>ta σ H λx H1=>∃c,x= .bl c/\if c=true then tb σ H1 Q else Q (.bl false) H1
def KW (ta tb:TE):TE:=λσ H Q=>ta σ H λx H1=>∃c,x= .bl c/\if c=true then Q (.bl true) H1 else tb σ H1 Q
def Je (ta:TE):TE:=λσ H Q=>ta σ H λx H1=>∃c,x= .bl c/\Q (.bl (!c)) H1
theorem GC {op} {t:TE} (h:PE X a t):PE X (.BoolOp op [a] pos) t:=λpins s σ H Q I hw=>BoolOp_one (h pins s σ H Q I hw)
theorem Gk (ha:PE X a ta) (hb:PE X (.BoolOp .And (b::rest) pos) tb):PE X (.BoolOp .And (a::b::rest) pos) (JV ta tb):=by
 intro pins s σ H Q I h;refine BoolOp_and (az (ha pins s σ H _ I h) λv s1 z902=> ?_);let⟨x,H1,I1,r1,q1⟩:=z902;let⟨c,rfl,q1⟩:=q1;cases r1;refine abA ?_
 cases c with
 |true=>exact hb pins s1 σ H1 Q I1 q1
 |false=>exact⟨.bl false,H1,I1,rfl,q1⟩
theorem Jk (ha:PE X a ta) (hb:PE X (.BoolOp .Or (b::rest) pos) tb):PE X (.BoolOp .Or (a::b::rest) pos) (KW ta tb):=by
 intro pins s σ H Q I h;refine BoolOp_or (az (ha pins s σ H _ I h) λv s1 z902=> ?_);let⟨x,H1,I1,r1,q1⟩:=z902;let⟨c,rfl,q1⟩:=q1;cases r1;refine abA ?_
 cases c with
 |false=>exact hb pins s1 σ H1 Q I1 q1
 |true=>exact⟨.bl true,H1,I1,rfl,q1⟩
theorem Gx (ha:PE X a ta):PE X (.UnaryOp .Not a pos) (Je ta):=by
 intro pins s σ H Q I h;refine UnaryOp_ (az (ha pins s σ H _ I h) λv s1 z902=> ?_);let⟨x,H1,I1,r1,q1⟩:=z902;let⟨c,rfl,q1⟩:=q1;cases r1;exact not_of (abA ⟨.bl (!c),H1,I1,rfl,q1⟩)
end
def bN (K:8#4) (H:Hp) (a:Addr) (xs:2#V):Prop:=
 Rd H a 7#xs∨
  ∃(o:Obj) (its:Array Value) (n:Nat),K.lookup a=1#o/\o.cls= .type "list"/\o.dict=none/\o.data= .seq its n/\its.size<=sizeLine/\Vals xs its.toList
def dg (K:8#4) (H:Hp) (a:Addr) (xs:2#V):Prop:=
 Rd H a (.tup xs)∨
  ∃(o:Obj) (its:Array Value) (n:Nat),K.lookup a=1#o/\o.cls= .type "tuple"/\o.data= .seq its n/\its.size<=sizeLine/\Vals xs its.toList
noncomputable def LC:Value->5#V
 | .none=>1#.non
 | .bool b=>1#(.bl b)
 | .int i _=>1#6#i
 | .str x _=>1#(.str x)
 | .bytes b _=>1#(.byt b)
 | .float b _=>1#(.flt b)
 | .ref a=>1#3#a
 | .type n=>1#(.ty n)
 |_=>none
theorem RelV.abs {x:V} {u:Value} (r:RelV x u):LC u=1#x:=by
 cases x with
 |non=>cases r;rfl
 |bl _=>cases r;rfl
 |int _=>let⟨t,rfl⟩:=r;rfl
 |str _=>let⟨t,rfl⟩:=r;rfl
 |byt _=>let⟨t,rfl⟩:=r;rfl
 |flt _=>let⟨t,rfl⟩:=r;rfl
 |ref _=>cases r;rfl
 |ty _=>cases r;rfl
theorem RelV.inj {x y:V} {u:Value} (r:RelV x u) (q:RelV y u):x=y:=Option.some.inj (r.abs.symm.trans q.abs)
theorem Vals.inj:∀{xs ys:2#V} {us:2#Value},Vals xs us->Vals ys us->xs=ys
 |_,_,_, .nil, .nil=>rfl
 |_,_,_, .cons r t, .cons r' t'=>by rw[r.inj r',Vals.inj t t']
section
variable {X:Cx} {pins:8#7} {σ:St} {H:Hp} {s:9#4} {a:Addr} {xs ys:2#V}
theorem Inv.list (I:8#1) (h:bN X.K H a xs):∃its:2#Value,Vals xs its/\PlainL s.heap a its.toArray/\0#xs<=sizeLine:=by
 rcases h with h|⟨o,its,n,hk,hc,hd,hs,hz,r⟩
 ·let⟨z,its,n,r,e⟩:=h.ok I.ah;exact⟨its,r,⟨_,n,e,rfl,rfl,rfl⟩,z⟩
 ·refine⟨its.toList,r,⟨o,n,I.bQ a o hk,hc,hd,by simpa using hs⟩, ?_⟩;have e:=0#r;simp only[aba] at e;lia
theorem Inv.tuple (I:8#1) (h:dg X.K H a xs):∃its:2#Value,Vals xs its/\IsTup s.heap a its.toArray/\0#xs<=sizeLine:=by
 rcases h with h|⟨o,its,n,hk,hc,hs,hz,r⟩
 ·let⟨z,its,r,p⟩:=h.ok I.ah;exact⟨its,r,p,z⟩
 ·refine⟨its.toList,r,⟨o,I.bQ a o hk,hc,n,by simpa using hs⟩, ?_⟩;have e:=0#r;simp only[aba] at e;lia
theorem Inv.jg (I:8#1) (h:bN X.K H a xs) (h':bN X.K H a ys):xs=ys:=by
 let⟨its,r,⟨o,n,e,_,_,d⟩,_⟩:=I.list h;let⟨its',r',⟨o',n',e',_,_,d'⟩,_⟩:=I.list h';rw[e] at e';cases e';rw[d] at d'
 injection d' with d1 _
 have:its=its':=by simpa using congrArg Array.toList d1
 subst this;exact r.inj r'
theorem Inv.ig (I:8#1) (h:dg X.K H a xs) (h':dg X.K H a ys):xs=ys:=by
 let⟨its,r,⟨o,e,_,n,d⟩,_⟩:=I.tuple h;let⟨its',r',⟨o',e',_,n',d'⟩,_⟩:=I.tuple h';rw[e] at e';cases e';rw[d] at d'
 injection d' with d1 _
 have:its=its':=by simpa using congrArg Array.toList d1
 subst this;exact r.inj r'
end
abbrev Cx.af (X:Cx) (E:8#2):Cx:={X with xe:=E}
abbrev Cx.pB (X:Cx):Cx:=X.af λ_ _=>False
theorem Cx.Ok.af {X:Cx} (ok:X.Ok) (E:8#2):(X.af E).Ok:=
 ⟨ok.mod,ok.kind,ok.glob,ok.blt,ok.above,ok.inj,ok.has,ok.cab,ok.hd,ok.frames,ok.stk,ok.exf,ok.bs,ok.bsz,ok.noex,ok.exfs,ok.dE,ok.frf⟩
theorem Cx.Ok.bD {X:Cx} {E:8#2} (ok:(X.af E).Ok):X.Ok:=
 ⟨ok.mod,ok.kind,ok.glob,ok.blt,ok.above,ok.inj,ok.has,ok.cab,ok.hd,ok.frames,ok.stk,ok.exf,ok.bs,ok.bsz,ok.noex,ok.exfs,ok.dE,ok.frf⟩
section
variable {X:Cx} {pins:8#7} {σ:St} {H:Hp} {s:9#4} {E:8#2}
theorem Inv.af (I:8#1) (E:8#2):Inv (X.af E) pins σ H s:=⟨I.ok.af E,I.os,I.bare,I.base,I.loc,I.cell,I.free,I.freeC,I.pin,I.ah,I.len⟩
theorem Inv.bD (I:Inv (X.af E) pins σ H s):Inv X pins σ H s:=⟨I.ok.bD,I.os,I.bare,I.base,I.loc,I.cell,I.free,I.freeC,I.pin,I.ah,I.len⟩
theorem SP.bD {D:Ends} {f:Flow} (h:SP (X.af E) pins D f s'):SP X pins D f s':=by
 cases f with
 |next=>let⟨σ',H',I,q⟩:=h;exact⟨σ',H',I.bD,q⟩
 |brk=>let⟨σ',H',I,q⟩:=h;exact⟨σ',H',I.bD,q⟩
 |cont=>let⟨σ',H',I,q⟩:=h;exact⟨σ',H',I.bD,q⟩
 |ret u=>let⟨v,σ',H',I,r,q⟩:=h;exact⟨v,σ',H',I.bD,r,q⟩
end
section
variable {X:Cx} {st:Stmt} {rest:2#Stmt} {t u:TS} {e:Expr} {te:TE} {pos:Pos}
def JO:TS:=λD σ H=>D.nx σ H
def K7 (t u:TS):TS:=λD σ H=>t {D with nx:=u D} σ H
theorem En:dI X [] JO:=λ_ _ σ H _ I h=>wpAny_execs_nil ⟨σ,H,I,h⟩
theorem Bu (h1:PS X st t) (h2:dI X rest u):dI X (st::rest) (K7 t u):=by
 intro pins s σ H D I h;refine wpAny_execs_cons (az (h1 pins s σ H {D with nx:=u D} I h) λf s1 q=> ?_)
 cases f with
 |next=>
  let⟨σ',H',I',q⟩:=q;exact h2 pins s1 σ' H' D I' q
 |ret v=>exact q
 |brk=>exact q
 |cont=>exact q
theorem Inv.quiet {σ:St} {H:Hp} {s:9#4} (I:8#1):interactive X.env=false:=by simp[interactive,I.ok.kind]
def Jx (te:TE):TS:=λD σ H=>te σ H λ_ H1=>D.nx σ H1
theorem Di (he:PE X e te) (hs:swapsWith e none pos.line X.env=pure false:=by rfl):PS X (.Expr e pos) (Jx te):=by
 intro pins s σ H D I h;exact wpAny_Expr_any (az (he pins s σ H _ I h) λv s1 z902=>by let⟨x,H1,I1,r1,q1⟩:=z902;exact⟨σ,H1,I1,q1⟩) I.quiet hs
def Mb (te:TE):TS:=λD σ H=>te σ H D.rt
theorem Fc (he:PE X e te):PS X (.Return 1#e pos) (Mb te):=by
 intro pins s σ H D I h;exact wpAny_Return_some (az (he pins s σ H _ I h) λv s1 z902=>by let⟨x,H1,I1,r1,q1⟩:=z902;exact⟨x,σ,H1,I1,r1,q1⟩)
def Jb:TS:=λD _ H=>D.rt .non H
theorem De:PS X (.Return none pos) Jb:=λ_ _ σ H _ I h=>wpAny_Return_none ⟨.non,σ,H,I,rfl,h⟩
def M8 (c:TT) (t u:TS):TS:=λD σ H=>c σ H λb H1=>if b=true then t D σ H1 else u D σ H1
theorem JY {c:Expr} {a b:2#Stmt} {tc:TT} (hc:PT X c tc) (ha:dI X a t) (hb:dI X b u):PS X (.If c a b pos) (M8 tc t u):=by
 intro pins s σ H D I h;refine wpAny_If (az (hc pins s σ H _ I h) λd s1 z902=> ?_);let⟨H1,I1,q1⟩:=z902
 cases d with
 |true=>exact ha pins s1 σ H1 D I1 q1
 |false=>exact hb pins s1 σ H1 D I1 q1
end
abbrev TG:=V->St->Hp->(St->Hp->Prop)->Prop
abbrev nv:=2#V->St->Hp->(St->Hp->Prop)->Prop
def PG (X:Cx) (target:Expr) (t:TG):Prop:=
 ∀(pins:8#7) (s:9#4) (σ:St) (H:Hp) (v:V) (u:Value) (Q:St->Hp->Prop),Inv X pins σ H s->RelV v u->t v σ H Q->
  wpAny 8#3 X.A (assign target X.env u) (λ_ s'=>∃σ' H',Inv X pins σ' H' s'/\Q σ' H') X.xe s
def gW (X:Cx) (ts:2#Expr) (t:nv):Prop:=
 ∀(pins:8#7) (s:9#4) (σ:St) (H:Hp) (vs:2#V) (us:2#Value) (Q:St->Hp->Prop),Inv X pins σ H s->Vals vs us->t vs σ H Q->
  wpAny 8#3 X.A (assignInOrder ((assignEach ts X.env).map (·.2)) us) (λ_ s'=>∃σ' H',Inv X pins σ' H' s'/\Q σ' H') X.xe s
abbrev wx:=V->V->V->Hp->(Hp->Prop)->Prop
def jF (X:Cx) (t:wx):Prop:=
 ∀(pins:8#7) (s:9#4) (σ:St) (H:Hp) (o i v:V) (ov iv u:Value) (Q:Hp->Prop),Inv X pins σ H s->RelV o ov->RelV i iv->RelV v u->t o i v H Q->
  wpAny 8#3 X.A (setItem ov iv u) (λ_ s'=>∃H',Inv X pins σ H' s'/\Q H') X.xe s
section
variable {X:Cx} {pos:Pos}
def B1 (i:Nat):TG:=λv σ H Q=>Q (σ.set i 1#v) H
theorem Ey {i:Nat} {x:Str} (hN:X.N.Nodup) (hi:X.N[i]?=1#x) (hx:Loc X.env.scope x) (hf:X.fn x=true∨X.env.scope.names.lookup x=1#.local:=by first|exact .inl rfl|exact .inr rfl|assumption):PG X (.Name x pos) (B1 i):=by
 intro pins s σ H v u Q I r h;exact wpAny_assign_Name (sg I hN hi hx r (λs' I'=>⟨_,H,I',h⟩) hf)
def LM:nv:=λvs σ H Q=>vs=[]/\Q σ H
def Jh (t:TG) (u:nv):nv:=λvs σ H Q=>∃v r,vs=v::r/\t v σ H λσ' H'=>u r σ' H' Q
theorem Dq:gW X [] LM:=by
 intro pins s σ H vs us Q I r h;let⟨e,h⟩:=h;subst e;cases r;exact assignInOrder_nil ⟨σ,H,I,h⟩
theorem Ah {e:Expr} {t:TG} {u:nv} (h1:PG X e t) (h2:gW X es u)
  (hs:(assignEach (e::es) X.env).map (·.2)=assign e X.env::(assignEach es X.env).map (·.2):=by rfl):gW X (e::es) (Jh t u):=by
 intro pins s σ H vs us Q I r h;let⟨v,vr,e1,h⟩:=h;subst e1
 cases r with
 |cons r rr=>
  rw[hs];refine assignInOrder_cons (az (h1 pins s σ H _ _ _ I r h) λ_ s1 z902=> ?_);let⟨σ1,H1,I1,q1⟩:=z902;exact h2 pins s1 σ1 H1 _ _ Q I1 rr q1
def L7 (K:8#4) (n:Nat) (t:nv):TG:=λv σ H Q=>∃a xs,v= 3#a/\dg K H a xs/\0#xs=n/\t xs σ H Q
theorem HU {k:Nat} {t:nv} {n:Nat} (hc:X.calm=true) (h:gW X es t)
  (hn:0#(assignEach es X.env)=n:=by rfl) (hst:(assignEach es X.env).findIdx? (·.1)=none:=by rfl):PG X (.Tuple es k pos) (L7 X.K n t):=by
 intro pins s σ H v u Q I r hw;let⟨a,xs,e1,hq,hl,hw⟩:=hw;subst e1;cases r;let⟨its,rv,ht,hz⟩:=I.tuple hq;refine assign_Tuple_tuple (I.ok.hd hc) ht (by simp[hn,←hl,0#rv]) hst λh' hx=> ?_;have I1:Inv X pins σ H {s with heap:=h'}:=I.kept (t':=s.toks) λb o e=>hx b o (aay (aam e)) e;exact h pins _ σ H xs _ Q I1 (by simpa using rv) hw
def Ln (to ti:TE) (t:wx):TG:=λv σ H Q=>to σ H λo H1=>ti σ H1 λi H2=>t o i v H2 λH3=>Q σ H3
theorem HW {i:Expr} {to ti:TE} {t:wx} (ho:PE X o to) (hi:PE X i ti) (hs:jF X t)
  (ha:∀v,assign (.Subscript o i pos) X.env v=(do
   let ov←holding [v] (eval o X.env)
   let iv←holding [v,ov] (eval i X.env)
   standAt pos
   holding [v,ov,iv] (setItem ov iv v)
   release [v,ov,iv] []):=by intro _;rfl):PG X (.Subscript o i pos) (Ln to ti t):=by
 intro pins s σ H v u Q I r h;rw[ha];refine aaa (abn (az (ho pins s σ H _ I h) λov s1 z902=> ?_));let⟨x,H1,I1,r1,q1⟩:=z902;refine aaa (abn (az (hi pins s1 σ H1 _ I1 q1) λiv s2 z902=> ?_));let⟨y,H2,I2,r2,q2⟩:=z902;refine aaa (acX (aaa (abn (az (hs pins s2 σ H2 x y v ov iv u _ I2 r1 r2 r q2) λ_ s3 z902=> ?_))));let⟨H3,I3,q3⟩:=z902;exact wpAny_release ⟨σ,H3,I3,q3⟩
def FV (te:TE) (g:TG):TS:=λD σ H=>te σ H λx H1=>g x σ H1 D.nx
theorem zo {e:Expr} {te:TE} {g:TG} (he:PE X e te) (hg:PG X tg g) (hs:swapsWithSole [tg] e pos.line X.env=pure false:=by rfl) (hw:swappedStores [tg] e X.env=pure none:=by rfl)
  (h1:(assignEach [tg] X.env).map (·.2)=[assign tg X.env]:=by rfl):PS X (.Assign [tg] e pos) (FV te g):=by
 intro pins s σ H D I h;refine wpAny_Assign_stores (az (he pins s σ H _ I h) λv s1 z902=> ?_) hs hw;let⟨x,H1,I1,r1,q1⟩:=z902;rw[h1];exact az (hg pins s1 σ H1 x v _ I1 r1 q1) λ_ s2 q=>q
theorem Hs {i:Nat} {x:Str} {e:Expr} {te:TE} (hN:X.N.Nodup) (hi:X.N[i]?=1#x) (hx:Loc X.env.scope x) (he:PE X e te) (hs:swapsWith e 1#(.Name x pos') pos.line X.env=pure false:=by rfl) (hf:X.fn x=true∨X.env.scope.names.lookup x=1#.local:=by first|exact .inl rfl|exact .inr rfl|assumption):
  PS X (.Assign [.Name x pos'] e pos) (FV te (B1 i)):=by
 intro pins s σ H D I h;refine wpAny_Assign_Name (az (he pins s σ H _ I h) λv s1 z902=> ?_) hs;let⟨y,H1,I1,r1,q1⟩:=z902;exact sg I1 hN hi hx r1 (λs2 I2=>⟨_,H1,I2,q1⟩) hf
def Fm (c:TT) (tb:TS):TS:=λD σ H=>∃W:Nat->St->Hp->Prop,(∃m,W m σ H)/\∀m σ H,W m σ H->
 c σ H λb H1=>if b=true then∃N:St->Hp->Prop,(∀σ' H',N σ' H'->∃m',m'<m/\W m' σ' H')/\tb {D with nx:=N,ct:=N,bk:=D.nx} σ H1 else D.nx σ H1
theorem Ay {c:Expr} {tc:TT} {tb:TS} (hp:PassesOwn (model X.prog X.w) X.A X.env X.xe) (hc:PT X c tc) (hb:dI X body tb):PS X (.While c body [] pos) (Fm tc tb):=by
 intro pins s σ H D I h;let⟨W,⟨m0,w0⟩,turn⟩:=h;refine wpAny_While (codeAny_whileLoop (λn s'=>∃σ' H',Inv X pins σ' H' s'/\W n σ' H') ?_ m0 ⟨σ,H,I,w0⟩)
 rintro n s1 ⟨σ1,H1,I1,w1⟩
 refine abN hp (az (hc pins s1 σ1 H1 _ I1 (turn n σ1 H1 w1)) λb s2 z902=> ?_);let⟨H2,I2,q2⟩:=z902
 cases b with
 |true=>
  let⟨N,hN,q2⟩:=q2;rw[if_pos rfl];refine abN hp (az (hb pins s2 σ1 H2 _ I2 q2) λf s3 q3=> ?_)
  cases f with
  |next=>
   let⟨σ3,H3,I3,n3⟩:=q3;let⟨m',hm,w3⟩:=hN σ3 H3 n3;exact⟨m',hm,σ3,H3,I3,w3⟩
  |cont=>
   let⟨σ3,H3,I3,n3⟩:=q3;let⟨m',hm,w3⟩:=hN σ3 H3 n3;exact⟨m',hm,σ3,H3,I3,w3⟩
  |brk=>exact q3
  |ret v=>exact q3
 |false=>
  rw[if_neg aaF];exact wpAny_execs_nil ⟨σ1,H2,I2,q2⟩
end
structure It where
 go:Nat->Hp->Prop
 yld:Nat->Hp->V->Hp->Prop
 stop:Nat->Hp->Prop
def cK (X:Cx) (pins:8#7) (H:Hp) (b:Addr):Prop:=
 H b=none/\b≠X.env.locals/\b∉X.fs/\(b∈X.ex∨X.s₀.heap.objs.size<=b)/\(∀x c,X.env.cells.lookup x=1#c->c≠b)/\∀p∈X.pn++pins,p.1≠b
theorem Inv.jQ {X:Cx} {σ:St} {H H':Hp} {s:9#4} {b:Addr} (I:8#1) (hb:s.heap.objs.size<=b) (hn:H' b=none):cK X pins H' b:=by
 refine⟨hn,abJ (aan I.lt hb),I.GV hb, .inr (aaT I.sz hb),λx c e z=> ?_,λp hp z=> ?_⟩
 ·let⟨v,q⟩:=I.cell x c e;exact absurd (aan q.lt (by rw[z];exact hb)) (aa5 _)
 ·exact absurd (aan (aam (I.pin p hp).1) (by rw[z];exact hb)) (aa5 _)
structure Turn (P:Program) (w:World) (K:8#4) (tg:Expr) (J:It) (fp:2#Addr) (it:Addr) (tn:Nat->Heap->Prop):Prop where
 mem:it∈fp
 obj:∀i h,tn i h->∀b∈fp,∃o,h.get? b=1#o/\∀v,o.data≠ .cell v
 keep:∀i h h',tn i h->(∀b∈fp,∀o,h.get? b=1#o->h'.get? b=1#o)->tn i h'
 item:∀(X:Cx),X.prog=P->X.w=w->X.K=K->X.calm=true->∀(i:Nat) (pins:8#7) (s:9#4) (σ:St) (H:Hp) (E:8#2),Inv X pins σ H s->(∀b∈fp,cK X pins H b)->tn i s.heap->J.go i H->
  wpAny (model P w) X.A (pyNext 3#it) (λr s1=>∃u,r=1#u/\
   wpAny (model P w) X.A (letOwnedTupleGo tg 3#it u) (λ_ s2=>∃x H',Inv X pins σ H' s2/\RelV x u/\J.yld i H x H'/\tn (i+1) s2.heap/\∀b∈fp,H' b=none) E s1) E s
 done:∀(X:Cx),X.prog=P->X.w=w->X.K=K->X.calm=true->∀(i:Nat) (pins:8#7) (s:9#4) (σ:St) (H:Hp) (E:8#2),Inv X pins σ H s->(∀b∈fp,cK X pins H b)->tn i s.heap->J.stop i H->
  wpAny (model P w) X.A (pyNext 3#it) (λr s1=>r=none/\Inv X pins σ H s1) E s
 self:∀(A:Around) (i:Nat) (s:9#4) (Q:8#2) (E:8#2),tn i s.heap->Q 3#it s->wpAny (model P w) A (pyIter 3#it) Q E s
abbrev TI:=St->Hp->(It->Hp->Prop)->Prop
def PIE (X:Cx) (pins:8#7) (σ:St) (tg:Expr) (R:It->Hp->Prop) (itv:Value) (s2:9#4):Prop:=
 ∃(it:Addr) (fp:2#Addr) (tn:Nat->Heap->Prop) (J:It) (H':Hp),itv= 3#it/\Inv X pins σ H' s2/\Turn X.prog X.w X.K tg J fp it tn/\tn 0 s2.heap/\(∀b∈fp,cK X pins H' b)/\R J H'
def PI (X:Cx) (tg iter:Expr) (wi:TI):Prop:=
 ∀(pins:8#7) (s:9#4) (σ:St) (H:Hp) (R:It->Hp->Prop),Inv X pins σ H s->wi σ H R->
  wpAny 8#3 X.A (eval iter X.env) (λv s1=>wpAny 8#3 X.A (pyIter v) (PIE X pins σ tg R) X.xe s1) X.xe s
theorem nu {M:Model} {A:Around} {E:8#2} {s:9#4} {u:Value} {o:Obj} {n:String} {vs:Array Value} {Q:Unit->Shared->Prop} (ho:s.heap.get? it=1#o) (hc:o.cls= .type n) (hd:o.data= .fields vs)
  (hn:["enumerate","zip","dict_itemiterator","dict_reverseitemiterator","odict_iterator","itertools.zip_longest","itertools.pairwise"].contains n=false) (hQ:Q () s):wpAny M A (letOwnedTupleGo tg 3#it u) Q E s:=by
 unfold letOwnedTupleGo
 cases tg<;>first
  |exact aaf hQ
  |(cases u<;>first
   |exact aaf hQ
   |(refine aaa (wpAny_load ho ?_)
     rw[hc,hd];show wpAny M A (if (["enumerate","zip","dict_itemiterator","dict_reverseitemiterator","odict_iterator","itertools.zip_longest","itertools.pairwise"].contains n&&vs[0]?==1#(rawInt _))=true then _ else _) Q E s;rw[if_neg (by intro h;rw[hn,Bool.false_and] at h;cases h)]
     exact aaf hQ))
noncomputable def E7 (K:8#4) (a:Addr):It:=
 ⟨λi H=>∃xs x,bN K H a xs/\xs[i]?=1#x,λi H x H'=>H'=H/\∀xs,bN K H a xs->xs[i]?=1#x,λi H=>∃xs,bN K H a xs/\0#xs<=i⟩
noncomputable def HS (K:8#4) (a:Addr):It:=
 ⟨λi H=>∃xs x,dg K H a xs/\xs[i]?=1#x,λi H x H'=>H'=H/\∀xs,dg K H a xs->xs[i]?=1#x,λi H=>∃xs,dg K H a xs/\0#xs<=i⟩
noncomputable def yN (lo:Int) (n:Nat):It:=⟨λi _=>i<n,λi H x H'=>H'=H/\x= 6#(lo+i),λi _=>n<=i⟩
theorem yw {P:Program} {w:World} {K:8#4} (a it:Addr):Turn P w K tg (E7 K a) [it] it (λi h=>h.IsListIter it a i) where
 mem:=by simp
 obj:=λi h st b hb=>by
  have e:b=it:=by simpa using hb
  subst e;let⟨o,e,c,d⟩:=st;exact⟨o,e,λv z=>by rw[d] at z;cases z⟩
 keep:=λi h h' st k=>st.at λo e=>k it 8#5 o e
 item:=by
  intro X hP hw hK hc i pins s σ H E I hf st hg;subst hP hw hK;let⟨xs,x,hq,hx⟩:=hg;let⟨its,rv,p,hz⟩:=I.list hq;let⟨u,hu,ru⟩:=rv.get hx;let⟨f0,f1,f2,f3,f4,f5⟩:=hf it 8#5;refine wpAny_pyNext_list_item st p.isList (x:=u) (by simpa using hu) λh' st' sb=> ?_;have I1:Inv X pins σ H {s with heap:=h'}:=I.turned (t':=s.toks) (λb o hb e=>(sb.2 b hb).trans e) f0 f1 f3 f4 f5;let⟨o,e,c,d⟩:=id st';exact⟨u,rfl,nu (s:={s with heap:=h'}) e c d 8#16 ⟨x,H,I1,ru,⟨rfl,λys hy=>by rw[I.jg hy hq];exact hx⟩,st',λb hb=>(hf b hb).1⟩⟩
 done:=by
  intro X hP hw hK hc i pins s σ H E I hf st hg;subst hP hw hK;let⟨xs,hq,hx⟩:=hg;let⟨its,rv,p,hz⟩:=I.list hq;let⟨f0,f1,f2,f3,f4,f5⟩:=hf it 8#5;have hl:=0#rv;exact wpAny_pyNext_list_end (I.ok.hd hc) st p.isList (by simp;lia) λh' eb=>⟨rfl,I.turned (t':=s.toks) (λb o hb e=>eb b o hb e) f0 f1 f3 f4 f5⟩
 self:=λ_ _ _ _ _ st h=>wpAny_pyIter_listiter st h
theorem wH {P:Program} {w:World} {K:8#4} (a it:Addr):Turn P w K tg (HS K a) [it] it (λi h=>h.IsTupleIter it a i) where
 mem:=by simp
 obj:=λi h st b hb=>by
  have e:b=it:=by simpa using hb
  subst e;let⟨o,e,c,d⟩:=st;exact⟨o,e,λv z=>by rw[d] at z;cases z⟩
 keep:=λi h h' st k=>st.at λo e=>k it 8#5 o e
 item:=by
  intro X hP hw hK hc i pins s σ H E I hf st hg;subst hP hw hK;let⟨xs,x,hq,hx⟩:=hg;let⟨its,rv,p,hz⟩:=I.tuple hq;let⟨u,hu,ru⟩:=rv.get hx;let⟨f0,f1,f2,f3,f4,f5⟩:=hf it 8#5;refine wpAny_pyNext_tuple_item st (show s.heap.IsTuple a its.toArray from p) (x:=u) (by simpa using hu) λh' st' sb=> ?_;have I1:Inv X pins σ H {s with heap:=h'}:=I.turned (t':=s.toks) (λb o hb e=>(sb.2 b hb).trans e) f0 f1 f3 f4 f5;let⟨o,e,c,d⟩:=id st';exact⟨u,rfl,nu (s:={s with heap:=h'}) e c d 8#16 ⟨x,H,I1,ru,⟨rfl,λys hy=>by rw[I.ig hy hq];exact hx⟩,st',λb hb=>(hf b hb).1⟩⟩
 done:=by
  intro X hP hw hK hc i pins s σ H E I hf st hg;subst hP hw hK;let⟨xs,hq,hx⟩:=hg;let⟨its,rv,p,hz⟩:=I.tuple hq;let⟨f0,f1,f2,f3,f4,f5⟩:=hf it 8#5;have hl:=0#rv;exact wpAny_pyNext_tuple_end (I.ok.hd hc) st (show s.heap.IsTuple a its.toArray from p) (by simp;lia) λh' eb=>⟨rfl,I.turned (t':=s.toks) (λb o hb e=>eb b o hb e) f0 f1 f3 f4 f5⟩
 self:=λ_ _ _ _ _ st h=>wpAny_pyIter_tupleiter st h
theorem wU {P:Program} {w:World} {K:8#4} (it:Addr) (lo:Int) (n:Nat):Turn P w K tg (yN lo n) [it] it (λi h=>IsRangeIter h it (lo+(i:Nat)*1) ((n:Int)-(i:Nat)) 1) where
 mem:=by simp
 obj:=λi h st b hb=>by
  have e:b=it:=by simpa using hb
  subst e
  exact⟨_,st,λv z=>by
   have z':Data.fields _=Data.cell v:=z
   cases z'⟩
 keep:=λi h h' st k=>k it 8#5 _ st
 item:=by
  intro X hP hw hK hc i pins s σ H E I hf st hg;subst hP hw hK;let⟨f0,f1,f2,f3,f4,f5⟩:=hf it 8#5;have W:=Walks.range (prog:=X.prog) (w:=X.w) (I.ok.hd hc) it lo 1 n;refine W.item i s _ _ hg st λv h' tk hv st' kk=> ?_;let⟨t,rfl⟩:=hv;have I1:Inv X pins σ H {s with heap:=h',toks:=tk}:=I.turned (λb o hb e=>kk b o (by simpa using hb) e) f0 f1 f3 f4 f5;refine⟨_,rfl,nu (s:={s with heap:=h',toks:=tk}) (n:="range_iterator") st' rfl rfl 8#16 ⟨6#(lo+i),H,I1,⟨t, ?_⟩,⟨rfl,rfl⟩,st',λb hb=>(hf b hb).1⟩⟩;rw[Int.mul_one]
 done:=by
  intro X hP hw hK hc i pins s σ H E I hf st hg;subst hP hw hK;let⟨f0,f1,f2,f3,f4,f5⟩:=hf it 8#5;exact wpAny_pyNext_range_end (I.ok.hd hc) st (by have:n<=i:=hg;lia) λh' eb=>⟨rfl,I.turned (t':=s.toks) (λb o hb e=>eb b o hb e) f0 f1 f3 f4 f5⟩
 self:=λ_ _ _ _ _ st h=>wpAny_pyIter_rangeiter st h
section
variable {X:Cx} {tg:Expr}
theorem qW {σ:St} {H:Hp} {s:9#4} {R:It->Hp->Prop} {E:8#2} {lo hi:Int} {t u v:Tok} {tk:Nat} (I:8#1) (h1: -(2^62)<=lo) (h2:lo<2^62) (h3: -(2^62)<=hi) (h4:hi<2^62)
  (q:R (yN lo (hi-lo).toNat) H):wpAny 8#3 X.A (pyIter 3#s.heap.objs.size) (PIE X pins σ tg R) E {s with heap:=s.heap.push {cls:= .type "range",data:= .fields #[.int lo t, .int hi u, .int 1 v]},toks:=tk}:=by
 refine wpAny_pyIter_range (IsRange.new ..) (small_one h1 h2 h3 h4) ?_;have I1:Inv X pins σ H {s with heap:=s.heap.push {cls:= .type "range",data:= .fields #[.int lo t, .int hi u, .int 1 v]},toks:=tk}:=I.kept λb o e=>aad _ e
 refine⟨(s.heap.push {cls:= .type "range",data:= .fields #[.int lo t, .int hi u, .int 1 v]}).objs.size,[(s.heap.push {cls:= .type "range",data:= .fields #[.int lo t, .int hi u, .int 1 v]}).objs.size],_,_,H,rfl,
  I1.kept (t':=tk) λb o e=>aad _ e,wU _ lo (hi-lo).toNat, ?_,λb hb=> ?_,q⟩
 ·have e1:lo+((0:Nat):Int)*1=lo:=by simp
  have e2:(((hi-lo).toNat:Nat):Int)-((0:Nat):Int)=Builtin.Range.rangeSize lo hi 1:=by rw[rangeSize_one];split<;>lia
  show IsRangeIter _ _ (lo+((0:Nat):Int)*1) ((((hi-lo).toNat:Nat):Int)-((0:Nat):Int)) 1;rw[e1,e2];exact aak _ rfl
 ·have e:b=(s.heap.push {cls:= .type "range",data:= .fields #[.int lo t, .int hi u, .int 1 v]}).objs.size:=by simpa using hb
  subst e;exact I1.jQ (aah _) (I1.ah.fresh (aah _))
def Iv (ta:TA):TI:=λσ H R=>ta σ H λvs H1=>∃j:Int,vs=[6#j]/\ -(2^62)<=j/\j<2^62/\R (yN 0 j.toNat) H1
def JI (ta:TA):TI:=λσ H R=>ta σ H λvs H1=>∃i j:Int,vs=[6#i, 6#j]/\(-(2^62)<=i/\i<2^62/\ -(2^62)<=j/\j<2^62)/\R (yN i (j-i).toNat) H1
theorem yg {a:Expr} {ta:TA} {p:Pos} (hg:Gl X "range") (hm:X.mg "range"=none) (ha:PA X [a] ta) (hs:starEach [a] X.env=[(false,eval a X.env)]:=by rfl):PI X tg (.Call (.Name "range" p) [a] [] pos) (Iv ta):=by
 intro pins s σ H R I h;refine Call_ (fH I hg hm boot_range (abi (az (ha pos pins s σ H _ I h) λus s1 z902=> ?_) hs rfl));let⟨vs,H1,I1,r1,q1⟩:=z902;let⟨j,e,q1,q2,q⟩:=q1;subst e
 cases r1 with
 |cons r rr=>
  cases rr;let⟨t,rfl⟩:=r;exact call_range_1 (qW I1 8#0 8#0 q1 q2 (by simpa using q))
theorem zX {a b:Expr} {ta:TA} {p:Pos} (hg:Gl X "range") (hm:X.mg "range"=none) (ha:PA X [a,b] ta) (hs:starEach [a,b] X.env=[(false,eval a X.env),(false,eval b X.env)]:=by rfl) (hs2:starEach [b] X.env=[(false,eval b X.env)]:=by rfl):
  PI X tg (.Call (.Name "range" p) [a,b] [] pos) (JI ta):=by
 intro pins s σ H R I h;refine Call_ (fH I hg hm boot_range (abi (az (ha pos pins s σ H _ I h) λus s1 z902=> ?_) (by rw[hs,hs2]) (by rw[hs2];rfl)));let⟨vs,H1,I1,r1,q1⟩:=z902;let⟨i,j,e,⟨q1,q2,q3,q4⟩,q⟩:=q1;subst e
 cases r1 with
 |cons r rr=>
  cases rr with
  |cons r' rr=>
   cases rr;let⟨t,rfl⟩:=r;let⟨t',rfl⟩:=r';exact call_range_2 (qW I1 q1 q2 q3 q4 q)
def ML (wi:TI) (g:TG) (tb:TS):TS:=λD σ H=>wi σ H λJ H1=>∃W:Nat->Nat->St->Hp->Prop,(∃m,W 0 m σ H1)/\∀i m σ H,W i m σ H->
 (J.stop i H/\D.nx σ H)∨(J.go i H/\∃N:St->Hp->Prop,(∀σ' H',N σ' H'->∃m',m'<m/\W (i+1) m' σ' H')/\∀x H',J.yld i H x H'->g x σ H' λσ2 H2=>tb {D with nx:=N,ct:=N,bk:=D.nx} σ2 H2)
noncomputable def bI (fp:2#Addr) (h:Heap):2#(Addr×Obj):=fp.filterMap λb=>(h.get? b).map λo=>(b,o)
theorem dM {h:Heap} {b:Addr} (hb:b∈fp) (e:h.get? b=1#o):(b,o)∈bI fp h:=List.mem_filterMap.mpr ⟨b,hb,by rw[e];rfl⟩
theorem pV {h:Heap} {p:Addr×Obj} (hp:p∈bI fp h):p.1∈fp/\h.get? p.1=1#p.2:=by
 let⟨b,hb,e⟩:=List.mem_filterMap.mp hp
 cases q:h.get? b with
 |none=>rw[q] at e;cases e
 |some o=>
  rw[q] at e;have e':(b,o)=p:=Option.some.inj e;subst e';exact⟨hb,q⟩
theorem Inv.pinned {σ:St} {H:Hp} {s:9#4} {fp:2#Addr} (I:8#1) (hf:∀b∈fp,cK X pins H b) (ho:∀b∈fp,∃o,s.heap.get? b=1#o/\∀v,o.data≠ .cell v):Inv X (pins++bI fp s.heap) σ H s:=
 I.dq λp hp=>(aaM.mp hp).elim (λz=>I.pin p (aaw _ z)) λz=>by
  let⟨hb,e⟩:=pV z;let⟨f0,f1,f2,_⟩:=hf p.1 hb;let⟨o,e',d⟩:=ho p.1 hb;rw[e] at e';cases e';exact⟨e,f0,f1,f2,d⟩
theorem Inv.ja {σ:St} {H:Hp} {s:9#4} (I:Inv X (pins++pl) σ H s):Inv X pins σ H s:=I.dq λp hp=>I.pin p (aaw _ (aaU _ hp))
theorem Fv {wi:TI} {g:TG} {tb:TS} (hp:PassesOwn (model X.prog X.w) X.A X.env X.xe) (hc:X.calm=true) (hi:PI X tg iter wi) (hg:PG X tg g) (hb:dI X body tb)
  (hs:∀x,foldedSetIterable iter X.env x=pure x:=by intro _;rfl):PS X (.For tg iter body [] pos) (ML wi g tb):=by
 intro pins s σ H D I h;refine wpAny_For (az (hi pins s σ H _ I h) λv s1 h1=>az h1 λitv s2 h2=> ?_) hs;let⟨it,fp,tn,J,H2,e,I2,T,st2,f2,W,⟨m0,w0⟩,turn⟩:=h2;subst e;have stat:∀{H':Hp},(∀b∈fp,H' b=none)->∀b∈fp,cK X pins H' b:=λhn b hb=>⟨hn b hb,(f2 b hb).2⟩;refine codeAny_forLoop_any (λn s'=>∃i σ' H',Inv X pins σ' H' s'/\tn i s'.heap/\(∀b∈fp,H' b=none)/\W i n σ' H') ?_ m0 ⟨0,σ,H2,I2,st2,λb hb=>(f2 b hb).1,w0⟩
 rintro n s3 ⟨i,σ3,H3,I3,st3,fr3,w3⟩
 rcases turn i n σ3 H3 w3 with⟨stop,qn⟩|⟨go,N,hN,step⟩
 ·refine abN hp (az (T.done X rfl rfl rfl hc i pins s3 σ3 H3 X.xe I3 (stat fr3) st3 stop) λr s4 z902=> ?_);let⟨hr,I4⟩:=z902;subst hr;exact wpAny_execs_nil ⟨σ3,H3,I4,qn⟩
 ·refine abN hp (az (T.item X rfl rfl rfl hc i pins s3 σ3 H3 X.xe I3 (stat fr3) st3 go) λr s4 z902=> ?_);let⟨u,hr,h4⟩:=z902;subst hr;refine abN hp (az h4 λ_ s5 z902=> ?_);let⟨x,H5,I5,r5,y5,st5,fr5⟩:=z902;have I5':=I5.pinned (stat fr5) (T.obj _ _ st5);refine abN hp (az (hg _ s5 σ3 H5 x u _ I5' r5 (step x H5 y5)) λ_ s6 z902=> ?_);let⟨σ6,H6,I6,q6⟩:=z902;refine abN hp (az (hb _ s6 σ6 H6 _ I6 q6) λf s7 q7=> ?_)
  have again:∀{σ7:St} {H7:Hp},Inv X (pins++bI fp s5.heap) σ7 H7 s7->N σ7 H7->∃m,m<n/\∃i σ' H',Inv X pins σ' H' s7/\tn i s7.heap/\(∀b∈fp,H' b=none)/\W i m σ' H':=λ{σ7 H7} I7 n7=>by
   let⟨m',hm,w7⟩:=hN σ7 H7 n7;refine⟨m',hm,i+1,σ7,H7,I7.ja,T.keep _ _ _ st5 λb hb o e=>(I7.pin (b,o) (aaw _ (aaw _ (dM hb e)))).1,λb hb=> ?_,w7⟩;let⟨o,e,d⟩:=T.obj _ _ st5 b hb;exact(I7.pin (b,o) (aaw _ (aaw _ (dM hb e)))).2.1
  cases f with
  |next=>let⟨σ7,H7,I7,n7⟩:=q7;exact again I7 n7
  |cont=>let⟨σ7,H7,I7,n7⟩:=q7;exact again I7 n7
  |brk=>let⟨σ7,H7,I7,q7⟩:=q7;exact⟨σ7,H7,I7.ja,q7⟩
  |ret v=>let⟨x7,σ7,H7,I7,r7,q7⟩:=q7;exact⟨x7,σ7,H7,I7.ja,r7,q7⟩
end
abbrev R2:=V->V->Hp->VK->Prop
def aJ (X:Cx) (f:Value->Value->Sem Value) (r:R2):Prop:=
 ∀(pins:8#7) (s:9#4) (σ:St) (H:Hp) (x y:V) (v u:Value) (Q:VK),Inv X pins σ H s->RelV x v->RelV y u->r x y H Q->
  wpAny 8#3 X.A (f v u) (EP X pins σ Q) X.xe s
def aC (X:Cx) (f:Value) (r:2#V->Hp->VK->Prop):Prop:=
 ∀(pins:8#7) (s:9#4) (σ:St) (H:Hp) (xs:2#V) (us:2#Value) (Q:VK),Inv X pins σ H s->Vals xs us->r xs H Q->
  wpAny 8#3 X.A (call f us) (EP X pins σ Q) X.xe s
def MD (X:Cx) (r:V->Hp->(Bool->Hp->Prop)->Prop):Prop:=
 ∀(pins:8#7) (s:9#4) (σ:St) (H:Hp) (x:V) (v:Value) (Q:Bool->Hp->Prop),Inv X pins σ H s->RelV x v->r x H Q->
  wpAny 8#3 X.A (truthy v) (TP X pins σ Q) X.xe s
def Cc (r:R2) (ta tb:TE):TE:=λσ H Q=>ta σ H λx H1=>tb σ H1 λy H2=>r x y H2 Q
def rI (C:Int->Int->Prop) (g:Int->Int->V):R2:=λx y H Q=>∃i j,x= 6#i/\y= 6#j/\C i j/\Q (g i j) H
def k8 (g:Int->Int->V):R2:=λx y H Q=>∃i j,x= 6#i/\y= 6#j/\Q (g i j) H
section
variable {X:Cx} {a b c:Expr} {ta tb tc:TE} {pos:Pos}
theorem Ai (ha:PE X a ta) (hb:PE X b tb) {s:9#4} {σ:St} {H:Hp} {R:V->V->Hp->Prop} (I:8#1)
  (h:ta σ H λx H1=>tb σ H1 λy H2=>R x y H2) {Q:8#2} {f:Value->Value->Sem Value}
  (hf:∀v u s2 x y H2,Inv X pins σ H2 s2->RelV x v->RelV y u->R x y H2->wpAny 8#3 X.A (f v u) Q X.xe s2):
  wpAny 8#3 X.A (eval a X.env) (λv s₁=>wpAny 8#3 X.A (eval b X.env) (λu s₂=>wpAny 8#3 X.A (f v u) Q X.xe s₂) X.xe s₁) X.xe s:=by
 refine az (ha pins s σ H _ I h) λv s1 z902=> ?_;let⟨x,H1,I1,r1,q1⟩:=z902;refine az (hb pins s1 σ H1 _ I1 q1) λu s2 z902=> ?_;let⟨y,H2,I2,r2,q2⟩:=z902;exact hf v u s2 x y H2 I2 r1 r2 q2
theorem Jz {op:Operator} {r:R2} (ho:aJ X (binaryOp op) r) (ha:PE X a ta) (hb:PE X b tb):PE X (.BinOp a op b pos) (Cc r ta tb):=by
 intro pins s σ H Q I h;exact wpAny_BinOp (Ai ha hb I h λv u s2 x y H2 I2 rx ry q=>ho pins s2 σ H2 x y v u Q I2 rx ry q)
theorem Cu {f:Value->Value->Sem Value} {C:Int->Int->Prop} {g:Int->Int->Int}
  (rule:∀(i j:Int) (t u:Tok) (s:9#4) (Q:8#2) (E:8#2),C i j->Q (.int (g i j) s.toks) {s with toks:=s.toks+1}->wpAny 8#3 X.A (f (.int i t) (.int j u)) Q E s):
  aJ X f (rI C λi j=> 6#(g i j)):=by
 intro pins s σ H x y v u Q I rx ry h;let⟨i,j,rfl,rfl,hc,q⟩:=h;let⟨t,rfl⟩:=rx;let⟨t',rfl⟩:=ry;exact rule i j t t' s _ _ hc ⟨6#(g i j),H,I.tok _,⟨_,rfl⟩,q⟩
theorem HG {f:Value->Value->Sem Value} {g:Int->Int->Int}
  (rule:∀(i j:Int) (t u:Tok) (s:9#4) (Q:8#2) (E:8#2),Q (.int (g i j) s.toks) {s with toks:=s.toks+1}->wpAny 8#3 X.A (f (.int i t) (.int j u)) Q E s):
  aJ X f (k8 λi j=> 6#(g i j)):=by
 intro pins s σ H x y v u Q I rx ry h;let⟨i,j,rfl,rfl,q⟩:=h;let⟨t,rfl⟩:=rx;let⟨t',rfl⟩:=ry;exact rule i j t t' s _ _ ⟨6#(g i j),H,I.tok _,⟨_,rfl⟩,q⟩
theorem xr {f:Value->Value->Sem Value} {g:Int->Int->Bool}
  (rule:∀(i j:Int) (t u:Tok) (s:9#4) (Q:8#2) (E:8#2),Q (.bool (g i j)) s->wpAny 8#3 X.A (f (.int i t) (.int j u)) Q E s):
  aJ X f (k8 λi j=> .bl (g i j)):=by
 intro pins s σ H x y v u Q I rx ry h;let⟨i,j,rfl,rfl,q⟩:=h;let⟨t,rfl⟩:=rx;let⟨t',rfl⟩:=ry;exact rule i j t t' s _ _ ⟨.bl (g i j),H,I,rfl,q⟩
def Lw (i j:Int):Prop:=0<=j/\j<=1000000/\i.natAbs<2^64
theorem Ft:aJ X (binaryOp .Add) (k8 λi j=> 6#(i+j)):=HG λ_ _ _ _ _ _ _ q=>add_int q
theorem Ig:aJ X (binaryOp .Sub) (k8 λi j=> 6#(i-j)):=HG λ_ _ _ _ _ _ _ q=>sub_int q
theorem Ea:aJ X (binaryOp .Mod) (rI (λ_ j=>j≠0) λi j=> 6#(i.fmod j)):=Cu λ_ _ _ _ _ _ _ hc q=>mod_int' hc q
theorem ER:aJ X (binaryOp .Pow) (rI Lw λi j=> 6#(i^j.toNat)):=Cu λ_ _ _ _ _ _ _ hc q=>pow_int_small hc.1 hc.2.1 hc.2.2 q
theorem nj {σ:St} {H:Hp} {s:9#4} {Q:VK} {k k':Bool} (I:8#1) (q:Q (.bl k) H) (e:k=k'):EP X pins σ Q (.bool k') s:=by
 subst e;exact⟨.bl k,H,I,rfl,q⟩
theorem Jv:aJ X (compareOp .Lt) (k8 λi j=> .bl (decide (i<j))):=xr λ_ _ _ _ _ _ _ q=>lt_int q
theorem IY:aJ X (compareOp .LtE) (k8 λi j=> .bl (decide (i<=j))):=xr λ_ _ _ _ _ _ _ q=>le_int q
theorem JR:aJ X (compareOp .Gt) (k8 λi j=> .bl (decide (j<i))):=xr λ_ _ _ _ _ _ _ q=>gt_int q
theorem IA:aJ X (compareOp .GtE) (k8 λi j=> .bl (decide (j<=i))):=xr λ_ _ _ _ _ _ _ q=>ge_int q
theorem H8:aJ X (compareOp .Is) (λx y H Q=>y= .non/\Q (.bl (decide (x= .non))) H):=by
 intro pins s σ H x y v u Q I rx ry h;let⟨rfl,q⟩:=h;cases ry;refine is_none_gen (nj I q ?_)
 cases x<;>first
  |(cases rx;rfl)
  |(let⟨t,rfl⟩:=rx;rfl)
theorem DL:aJ X (compareOp .IsNot) (λx y H Q=>y= .non/\Q (.bl (!decide (x= .non))) H):=by
 intro pins s σ H x y v u Q I rx ry h;let⟨rfl,q⟩:=h;cases ry;refine isnot_none_gen (nj I q ?_)
 cases x<;>first
  |(cases rx;rfl)
  |(let⟨t,rfl⟩:=rx;rfl)
theorem aJ.or {f:Value->Value->Sem Value} {r r':R2} (h:aJ X f r) (h':aJ X f r'):aJ X f (λx y H Q=>r x y H Q∨r' x y H Q):=by
 intro pins s σ H x y v u Q I rx ry q
 rcases q with q|q
 ·exact h pins s σ H x y v u Q I rx ry q
 ·exact h' pins s σ H x y v u Q I rx ry q
theorem Er {op:CmpOp} {r:R2} (ho:aJ X (compareOp op) r) (ha:PE X a ta) (hb:PE X b tb) (hm:behindInMarks op b=false):PE X (.Compare a [op] [b] pos) (Cc r ta tb):=by
 intro pins s σ H Q I h;exact wpAny_Compare1 (Ai ha hb I h λv u s2 x y H2 I2 rx ry q=>ho pins s2 σ H2 x y v u Q I2 rx ry q) hm
def Jd (t:TE):TT:=λσ H Q=>t σ H λx H'=>∃k,x= .bl k/\Q k H'
theorem D5 {op:CmpOp} {r:R2} (ho:aJ X (compareOp op) r) (ha:PE X a ta) (hb:PE X b tb) (hm:behindInMarks op b=false):PT X (.Compare a [op] [b] pos) (Jd (Cc r ta tb)):=by
 intro pins s σ H Q I h;refine wpAny_isTrue_Compare1 (az (ha pins s σ H _ I h) λv s1 zq0=> ?_) hm;let⟨x,H1,I1,r1,q1⟩:=zq0;refine az (hb pins s1 σ H1 _ I1 q1) λu s2 zq1=> ?_;let⟨y,H2,I2,r2,q2⟩:=zq1;refine az (ho pins s2 σ H2 x y v u _ I2 r1 r2 q2) λc s3 zq2=> ?_;let⟨z,H3,I3,r3,k,e,q3⟩:=zq2;subst e;cases r3;exact abA ⟨H3,I3,q3⟩
def BW (K:8#4) (x:V) (H:Hp) (k:Bool):Prop:=
 match x with
 | .non=>k=false
 | .bl b=>k=b
 | .int i=>k=(i !=0)
 | .str y=>0#y<=sizeLine/\k=((0#y:Int) !=0)
 | .byt y=>y.size<=sizeLine/\k=((y.size:Int) !=0)
 | .ref p=>(∃xs,bN K H p xs/\k= !xs.isEmpty)∨(∃xs,dg K H p xs/\k= !xs.isEmpty)∨∃kvs,H p=1#(.dK kvs)/\k= !kvs.isEmpty
 |_=>False
theorem wM {κ:Type} {kvs:2#(κ×V)} {vs:2#(κ×Value)} (r:KV kvs vs):(!vs.isEmpty)= !kvs.isEmpty:=by
 cases r<;>rfl
theorem nG {xs:2#V} {its:2#Value} (r:Vals xs its):(!its.toArray.isEmpty)= !xs.isEmpty:=by
 cases r<;>simp
theorem gA:(sizeLine:Nat)<2^63:=by rw[abH];decide
theorem Hc:MD X (λx H Q=>∃k,BW X.K x H k/\Q k H):=by
 intro pins s σ H x v Q I rx h;let⟨k,e,q⟩:=h;have hl:=gA;have hs:sizeLine=16777216:=abH
 cases x with
 |non=>
  cases rx;have e':k=false:=e;subst e';exact truthy_none ⟨H,I,q⟩
 |bl b=>
  cases rx;have e':k=b:=e;subst e';exact abA ⟨H,I,q⟩
 |int i=>
  let⟨t,rfl⟩:=rx;have e':k=(i !=0):=e;subst e';exact PySem.P.truthy_int ⟨H,I,q⟩
 |str y=>
  let⟨t,rfl⟩:=rx;obtain⟨hy,e'⟩:0#y<=sizeLine/\k=((0#y:Int) !=0):=e;subst e';exact PySem.P.truthy_str 8#0 ⟨H,I.tok _,q⟩
 |byt y=>
  let⟨t,rfl⟩:=rx;obtain⟨hy,e'⟩:y.size<=sizeLine/\k=((y.size:Int) !=0):=e;subst e';exact PySem.W.truthy_bytes 8#0 ⟨H,I.tok _,q⟩
 |ref p=>
  cases rx;have e':(∃xs,bN X.K H p xs/\k= !xs.isEmpty)∨(∃xs,dg X.K H p xs/\k= !xs.isEmpty)∨∃kvs,H p=1#(.dK kvs)/\k= !kvs.isEmpty:=e
  rcases e' with⟨xs,hx,e'⟩|⟨xs,hx,e'⟩|⟨kvs,hx,e'⟩
  ·subst e';let⟨its,r,pl,hz⟩:=I.list hx;have hlen:=0#r;exact wpAny_truthy_list pl.isList (by simp only[aaj];lia) ⟨H,I.tok _,by rw[nG r];exact q⟩
  ·subst e';let⟨its,r,pl,hz⟩:=I.tuple hx;have hlen:=0#r;exact truthy_tuple pl (by simp only[aaj];lia) ⟨H,I.tok _,by rw[nG r];exact q⟩
  ·subst e';obtain⟨hz,hS,vs,r,m⟩:0#kvs<=sizeLine/\(p==sysModules)=false/\∃vs,KV kvs vs/\s.heap.DictOf (aN X.prog X.w) p vs:=I.ah p _ hx;have hlen:0#kvs=0#vs:=abm r;exact wpAny_truthy_dict hS m 8#0 ⟨H,I.tok _,by rw[wM r];exact q⟩
 |_=>exact(show False from e).elim
theorem Al (ha:PE X a ta) (he:∀whole,isTrue a X.env whole=(do let v←whole;standAt a.pos;holding [v] (truthy v))):
  PT X a (λσ H Q=>ta σ H λx H'=>∃k,BW X.K x H' k/\Q k H'):=by
 intro pins s σ H Q I h;exact isTrue_plain (az (ha pins s σ H _ I h) λv s1 z902=>by let⟨x,H1,I1,r1,q1⟩:=z902;exact Hc pins s1 σ H1 x v Q I1 r1 q1) (he _)
theorem wL:aJ X (binaryOp .Add) (λx y H Q=>∃i j,x= .str i/\y= .str j/\0#i+0#j<=sizeLine/\Q (.str (i++j)) H):=by
 intro pins s σ H x y v u Q I rx ry h;let⟨i,j,rfl,rfl,hz,q⟩:=h;let⟨t,rfl⟩:=rx;let⟨t',rfl⟩:=ry;exact add_str (λt' tk=>⟨.str (i++j),H,I.tok _,⟨_,rfl⟩,q⟩) hz
theorem vals1 {x:V} {us:2#Value} (r:Vals [x] us):∃u,us=[u]/\RelV x u:=by
 cases r with
 |cons r1 r2=>cases r2;exact⟨_,rfl,r1⟩
theorem BE:aC X (.builtin "abs") (λxs H Q=>∃i,xs=[6#i]/\Q 6#(if i<0 then-i else i) H):=by
 intro pins s σ H xs us Q I r h;let⟨i,rfl,q⟩:=h;let⟨u,rfl,t,rfl⟩:=vals1 r;exact call_abs_int λu tk=>⟨6#(if i<0 then-i else i),H,I.tok _,⟨_,rfl⟩,q⟩
theorem yf:aC X (.type "int") (λxs H Q=>(∃i,xs=[6#i]/\Q 6#i H)∨∃k,xs=[.bl k]/\Q 6#(if k then 1 else 0) H):=by
 intro pins s σ H xs us Q I r h
 rcases h with⟨i,rfl,q⟩|⟨k,rfl,q⟩
 ·let⟨u,rfl,t,rfl⟩:=vals1 r;exact call_int_int ⟨6#i,H,I,⟨_,rfl⟩,q⟩
 ·let⟨u,rfl,r1⟩:=vals1 r;cases r1;exact call_int_bool ⟨6#(if k then 1 else 0),H,I.tok _,⟨_,rfl⟩,q⟩
end
structure ObjM (h:Heap) (x dx C:Addr) (mA:8#23):Prop where
 obj:h.get? x=1#(PySem.W.instObj C dx)
 ns:h.Ns1 dx mA
 ne:dx≠x
set_option tactic.hygienic true in
theorem xP {h:Heap} {mA:8#23} (n:h.Ns1 dx mA):∃od,h.get? dx=1#od/\∀name,PySem.W.lookIn name od=1#(mA name):=by
 let⟨o,es,ep,ho,hd,hk,_,hm⟩:=n;refine⟨o,ho,λname=> ?_⟩;have e:=hm name;unfold nsFind findBy at e;rw[←Array.find?_toList] at e;unfold PySem.W.lookIn;rw[hd];dsimp only;split
 ·rename_i y q;rw[q] at e;exact congrArg some e
 ·rename_i q;rw[q] at e
  have a:es.toList.any (·.refKey)=false:=by
   rw[List.any_eq_false];intro y hy;let⟨z,t,hkey⟩:=hk y (Array.mem_toList_iff.mp hy);simp[DictEntry.refKey,hkey]
  have a':¬es.toList.any (·.refKey)=true:=by rw[a];exact aaF
  rw[if_neg a'];exact congrArg some e
theorem ObjM.look {x C:Addr} {mA:8#23} (I:ObjM h x dx C mA):∃od,PySem.W.InstAt h x (PySem.W.instObj C dx) C 1#od/\∀name,PySem.W.lookIn name od=1#(mA name):=
 let ⟨od,ho,hl⟩:=xP I.ns
 ⟨od,⟨I.obj,rfl,rfl,ho⟩,hl⟩
section
variable {prog:Program} {w:World} {A:Around} {E:8#2} {s:9#4} {K:8#4} {x dx C f:Addr} {mA:8#23} {name:Str} {v:Value}
theorem get_map {expr:Bool} {Q:8#2} (X:K.In s.heap) (I:ObjM s.heap x dx C mA) (hg:PySem.W.plainGet K C name=true) (hh:PySem.W.hasDictIn K C=true)
  (ha:PySem.W.findIn K 3#C name=1#none) (hv:mA name=1#v) (hv':PySem.W.handedIn v=true) (h:Q v {s with toks:=s.toks+1}):
  wpAny 9#2 A (getAttr 3#x name expr) Q E s:=by
 let⟨od,J,hl⟩:=I.look;exact PySem.W.get_value X J (acM hg).1 (PySem.W.findObj_own hh ha rfl (by rw[hl,hv])) hv' h
theorem Av {pl:Sem Bool} {Q:Value×2#Value->Shared->Prop} (X:K.In s.heap) (I:ObjM s.heap x dx C mA) (hg:PySem.W.plainGet K C name=true)
  (hf:PySem.W.findIn K 3#C name=1#1#3#f) (ht:PySem.W.isFn K 3#f=true) (hv:mA name=none) (h:Q (3#f,[3#x]) s):
  wpAny 9#2 A (getMethod 3#x name pl) Q E s:=by
 let⟨od,J,hl⟩:=I.look;exact PySem.W.method_fn X J (acM hg).1 (acM hg).2 hf (beq_iff_eq.mp ht) (by show (PySem.W.lookIn name od).map (·.isSome)=1#false;rw[hl,hv];rfl) h
theorem DX {ns:2#Str} {Q:Unit->Shared->Prop} (X:K.In s.heap) (I:ObjM s.heap x dx C mA)
  (hs:PySem.W.findIn K 3#C "__setattr__"=1#1#(.builtin "object.__setattr__")) (hp:PySem.W.plainOver K C=true) (ht:PySem.W.takerIn K C name=1#none) (hh:PySem.W.hasDictIn K C=true)
  (hw:PySem.Within mA ns) (hsz:0#ns<=sizeLine)
  (h:∀h',ObjM h' x dx C (λy=>if y=name then 1#v else mA y)->Heap.SameBut dx s.heap h'->Q () {s with heap:=h',toks:=s.toks+2}):
  wpAny 9#2 A (setAttr 3#x name v) Q E s:=by
 let⟨od,J,hl⟩:=I.look;refine PySem.W.set_plain X J hs (PySem.W.osa_open (s:={s with toks:=s.toks+1}) (r:=none) X J hp ht λb=> ?_);let⟨cd,hc,hd'⟩:=PySem.W.any_some hh;have hx:s.heap.get? x=1#⟨3#C,1#dx, .plain,#[]⟩:=I.obj;refine aaa (aaf (aaa (aaa (wpAny_loadPart hx (aaa (PySem.W.Looks.here (s:={s with toks:=s.toks+1}) (PySem.W.looks_clsIn X hc) ?_))))));rw[hd'];refine aaf (a:=1#dx) (aaa (aaf (aaa ?_)));refine wpAny_nsSet1 (s:={s with toks:=s.toks+1}) I.ns λh' hn2 hs2=> ?_;let⟨oD,esD,epD,hoD,hdD,hcD⟩:=hn2.count (PySem.Within.cons name v hw);refine aaa (wpAny_lookBehind hoD (by rw[hdD];exact pastItsLine_dict (aaT hcD (by rw[aar];lia))) ?_);exact aaf (h _ ⟨(hs2.2 _ (Ne.symm I.ne)).trans I.obj,hn2,I.ne⟩ hs2)
theorem BF {R:Result->Shared->Prop} {vs:2#Value} {kw:2#(Str×Value)} (X:K.In s.heap) (hm:PySem.W.makesIn K C=true)
  (hi:PySem.W.findIn K 3#C "__init__"=1#1#3#f) (hf:PySem.W.typeIn K 3#f=1#(.type "function"))
  (h:codeAny 9#2 (A.under (.builtin "type.__call__" ⟨3#C::vs,kw⟩)) (.call 3#f ⟨3#8#11::vs,kw⟩) (PySem.W.InitBack 8#11 R)
   {s with heap:=(s.heap.push PySem.W.emptyDict).push (PySem.W.instObj C s.heap.objs.size)}):
  codeAny 9#2 A (.call 3#C ⟨vs,kw⟩) R s:=by
 let⟨hh,g,d,t,os⟩:=s;exact PySem.W.make_core (ac5 X hm) (PySem.W.looks_findIn X hi) (λself=>PySem.W.bind_fn X self hf) (.inl rfl) h
theorem yy {R:Result->Shared->Prop} (X:K.In s.heap) (hm:PySem.W.makesIn K C=true)
  (hi:PySem.W.findIn K 3#C "__init__"=1#1#(.builtin "object.__init__"))
  (hb:∀self,PySem.W.Looks 9#2 s.heap (bindSpecial (.builtin "object.__init__") self) (.builtin "object.__init__",[self]))
  (h:codeAny 9#2 (A.under (.builtin "type.__call__" ⟨[3#C],[]⟩)) (.call (.builtin "object.__init__") ⟨[3#8#11],[]⟩) (PySem.W.InitBack 8#11 R)
   {s with heap:=(s.heap.push PySem.W.emptyDict).push (PySem.W.instObj C s.heap.objs.size)}):
  codeAny 9#2 A (.call 3#C ⟨[],[]⟩) R s:=by
 let⟨hh,g,d,t,os⟩:=s;exact PySem.W.make_core (ac5 X hm) (PySem.W.looks_findIn X hi) hb (.inr ⟨rfl,rfl⟩) h
end
noncomputable def aT (f:Str) (v:V):2#(Str×V)->2#(Str×V)
 |[]=>[(f,v)]
 |(g,x)::r=>if g=f then (g,v)::r else (g,x)::aT f v r
theorem kR (f g:Str) (v:V):∀fs:2#(Str×V),(aT f v fs).lookup g=if g=f then 1#v else fs.lookup g
 |[]=>by
  show List.lookup g [(f,v)]=_
  by_cases h:g=f
  ·have hb:(g==f)=true:=beq_iff_eq.mpr h;simp only[List.lookup,hb,if_pos h]
  ·have hb:(g==f)=false:=beq_eq_false_iff_ne.mpr h;simp only[List.lookup,hb,if_neg h]
 |(k,x)::r=>by
  have ih:=kR f g v r;rw[show aT f v ((k,x)::r)=(if k=f then (k,v)::r else (k,x)::aT f v r) from rfl]
  by_cases hk:k=f
  ·rw[if_pos hk]
   by_cases h:g=k
   ·have hb:(g==k)=true:=beq_iff_eq.mpr h;simp only[List.lookup,hb,if_pos (h.trans hk)]
   ·have hb:(g==k)=false:=beq_eq_false_iff_ne.mpr h;simp only[List.lookup,hb,if_neg (λe:g=f=>h (e.trans hk.symm))]
  ·rw[if_neg hk]
   by_cases h:g=k
   ·have hb:(g==k)=true:=beq_iff_eq.mpr h;simp only[List.lookup,hb,if_neg (λe:g=f=>hk (h.symm.trans e))]
   ·have hb:(g==k)=false:=beq_eq_false_iff_ne.mpr h;simp only[List.lookup,hb];exact ih
theorem jZ (f:Str) (v:V):∀fs:2#(Str×V),f∈(aT f v fs).map (·.1)/\∀g,g∈fs.map (·.1)->g∈(aT f v fs).map (·.1)
 |[]=>⟨by simp[aT],λg h=>by simp at h⟩
 |(k,x)::r=>by
  let⟨i1,i2⟩:=jZ f v r;rw[show aT f v ((k,x)::r)=(if k=f then (k,v)::r else (k,x)::aT f v r) from rfl]
  by_cases hk:k=f
  ·rw[if_pos hk];subst hk;exact⟨by simp,λg h=>by simpa using h⟩
  ·rw[if_neg hk];refine⟨?_,λg h=> ?_⟩
   ·rw[aas];exact aat _ i1
   ·rw[aas] at h⊢
    rcases aaq.mp h with e|e
    ·exact aaq.mpr (.inl e)
    ·exact aat _ (i2 g e)
theorem kQ (f:Str) (v:V):∀fs:2#(Str×V),0#(aT f v fs)<=0#fs+1
 |[]=>by simp[aT]
 |(k,x)::r=>by
  have ih:=kQ f v r;rw[show aT f v ((k,x)::r)=(if k=f then (k,v)::r else (k,x)::aT f v r) from rfl]
  by_cases hk:k=f
  ·rw[if_pos hk,aar,aar];lia
  ·rw[if_neg hk,aar,aar];lia
theorem dr.some_of {v:V} {o:5#Value} (r:dr 1#v o):∃u,o=1#u/\RelV v u:=by
 cases o with
 |none=>exact(show False from r).elim
 |some u=>exact⟨u,rfl,r⟩
theorem dr.none_of {o:5#Value} (r:dr none o):o=none:=by
 cases o with
 |none=>rfl
 |some u=>exact(show False from r).elim
theorem xG {v:V} {u:Value} (r:RelV v u):PySem.W.handedIn u=true:=by
 cases v with
 |non=>cases (show u=Value.none from r);rfl
 |bl b=>cases (show u=Value.bool b from r);rfl
 |int i=>let⟨t,e⟩:=(show∃t,u=Value.int i t from r);cases e;rfl
 |str x=>let⟨t,e⟩:=(show∃t,u=Value.str x t from r);cases e;rfl
 |byt b=>let⟨t,e⟩:=(show∃t,u=Value.bytes b t from r);cases e;rfl
 |flt b=>let⟨t,e⟩:=(show∃t,u=Value.float b t from r);cases e;rfl
 |ref a=>cases (show u=Value.ref a from r);rfl
 |ty n=>cases (show u=Value.type n from r);rfl
section
variable {P:Program} {w:World} {H H':Hp} {h h':Heap} {a C dx:Addr} {fs fs':2#(Str×V)}
theorem kB (ah:bA P w H h) (e:H a=1#(.ins C dx fs)):∃mA,ObjM h a dx C mA/\(∀f,dr (fs.lookup f) (mA f))/\PySem.Within mA (fs.map (·.1))/\0#fs<=1000/\H dx=1#(.own a):=by
 let⟨d,z,ne,ob,mA,n,r,q⟩:=(show aQ P w H h a (.ins C dx fs) from ah a _ e);exact⟨mA,⟨ob,n,ne⟩,r,q,z,d⟩
end
structure Cls (K:8#4) (C:Addr):Prop where
 pg:PySem.W.plainGet K C Str.empty=true
 hd:PySem.W.hasDictIn K C=true
 po:PySem.W.plainOver K C=true
 sa:PySem.W.findIn K 3#C "__setattr__"=1#1#(.builtin "object.__setattr__")
theorem Cls.get {K:8#4} {C:Addr} (c:Cls K C) (f:Str):PySem.W.plainGet K C f=true:=c.pg
def eN (K:8#4) (C:Addr) (f:Str):Prop:=PySem.W.findIn K 3#C f=1#none
theorem eN.J4 {K:8#4} {C:Addr} {f:Str} (n:eN K C f):PySem.W.takerIn K C f=1#none:=by
 unfold PySem.W.takerIn;rw[show PySem.W.findIn K 3#C f=1#none from n];rfl
structure Con (K:8#4) (C:Addr) (f:Str) (v:V) (u:Value):Prop where
 at_:PySem.W.findIn K 3#C f=1#1#u
 rel:RelV v u
 get:PySem.W.specialIn K u "__get__"=1#none
 cp:PySem.W.copiedNames.contains f=false
structure Meth (K:8#4) (C:Addr) (m:Str) (f:Addr):Prop where
 at_:PySem.W.findIn K 3#C m=1#1#3#f
 fn:PySem.W.isFn K 3#f=true
 kp:PySem.W.keepIn K 3#f=true
section
variable {X:Cx} {pins:8#7} {σ:St} {H:Hp} {s:9#4} {a C dx:Addr} {fs:2#(Str×V)} {f:Str} {v:V} {A:Around} {E:8#2}
theorem xo {b:Bool} {Q:8#2} (I:8#1) (e:H a=1#(.ins C dx fs)) (c:Cls X.K C) (n:eN X.K C f) (l:fs.lookup f=1#v)
  (h:∀u s',Inv X pins σ H s'->RelV v u->Q u s'):wpAny 8#3 A (getAttr 3#a f b) Q E s:=by
 let⟨mA,O,r,_,_,_⟩:=kB I.ah e;let⟨u,hu,ru⟩:=dr.some_of (v:=v) (o:=mA f) (by rw[←l];exact r f);exact get_map I.bQ O (c.get f) c.hd n hu (xG ru) (h u _ (I.tok _) ru)
theorem nF {m:Str} {g:Addr} {pl:Sem Bool} {Q:Value×2#Value->Shared->Prop} (I:8#1) (e:H a=1#(.ins C dx fs)) (c:Cls X.K C) (k:Meth X.K C m g) (l:fs.lookup m=none)
  (h:Q (3#g,[3#a]) s):wpAny 8#3 A (getMethod 3#a m pl) Q E s:=by
 let⟨mA,O,r,_,_,_⟩:=kB I.ah e;have hn:mA m=none:=dr.none_of (by rw[←l];exact r m);exact Av I.bQ O (c.get m) k.at_ k.fn hn h
theorem wI {y:V} {u:Value} {Q:Unit->Shared->Prop} (I:8#1) (e:H a=1#(.ins C dx fs)) (c:Cls X.K C) (n:eN X.K C f) (hl:0#fs<1000) (ry:RelV y u)
  (h:∀s',Inv X pins σ (upd H a (.ins C dx (aT f y fs))) s'->Q () s'):wpAny 8#3 A (setAttr 3#a f u) Q E s:=by
 let⟨mA,O,r,wi,_,ho⟩:=kB I.ah e
 have hz:0#(fs.map (·.1))<=sizeLine:=by rw[aaz,abH];lia
 refine DX I.bQ O c.sa c.po n.J4 c.hd wi hz λh' O' sb=>h _ ?_
 have hd:∃o,h'.get? dx=1#o:=let ⟨o,_,_,e',_⟩:=O'.ns;⟨o,e'⟩
 refine I.write (x:=a) (e:=dx) (by rw[e];exact True.intro) (.inr ho) (λb q hb z=>(sb.2 b hb).trans z) hd ?_;refine⟨by rw[ar O.ne];exact ho, ?_,O.ne,O'.obj,_,O'.ns,λg=> ?_,λg hg=> ?_⟩
 ·have:=kQ f y fs;lia
 ·show dr ((aT f y fs).lookup g) (if g=f then 1#u else mA g);rw[kR]
  by_cases q:g=f
  ·rw[if_pos q,if_pos q];exact ry
  ·rw[if_neg q,if_neg q];exact r g
 ·by_cases q:g=f
  ·rw[q];exact(jZ f y fs).1
  ·refine(jZ f y fs).2 g (wi g λz=>hg ?_);show (if g=f then 1#u else mA g)=none;rw[if_neg q];exact z
theorem Inv.made (I:8#1):Inv X pins σ (upd (upd H s.heap.objs.size (.own 8#11)) 8#11 (.ins C s.heap.objs.size []))
  {s with heap:=(s.heap.push PySem.W.emptyDict).push (PySem.W.instObj C s.heap.objs.size)}:=by
 have e1:(s.heap.push PySem.W.emptyDict).get? s.heap.objs.size=1#PySem.W.emptyDict:=aak s.heap rfl
 have e2:((s.heap.push PySem.W.emptyDict).push (PySem.W.instObj C s.heap.objs.size)).get? 8#11=1#(PySem.W.instObj C s.heap.objs.size):=by
  have:=aak (s.heap.push PySem.W.emptyDict) (o:=PySem.W.instObj C s.heap.objs.size) rfl;rwa[aa0] at this
 have e3:(s.heap.push PySem.W.emptyDict).Ns s.heap.objs.size (λ_=>none):=⟨PySem.W.emptyDict,#[],_,e1,rfl,(λe he=>absurd he 8#5),λ_=>rfl⟩;have I1:=I.laid (a:=s.heap.objs.size) (o:= .own 8#11) (h':=s.heap.push PySem.W.emptyDict) (t':=s.toks) (λb u q=>aad _ q) (aah _) ⟨_,e1⟩;refine I1.laid (a:=s.heap.objs.size+1) (o:= .ins C s.heap.objs.size []) (t':=s.toks) (λb u q=>aad _ q) (ac6 (aa0 _ _)) ?_;have ne:s.heap.objs.size≠s.heap.objs.size+1:=aay (ab7 _);refine⟨by rw[ar ne,aq],aaX _,ne,e2,λ_=>none,(Heap.Ns1.of_empty e3).at λo q=>aad _ q,λ_=>True.intro,λy hy=>absurd rfl hy⟩
theorem DM {w:World} {env:Env} {e:Expr} {f:Str} {s:9#4} {Q:8#2} (hb:attributeBase e f env (eval e env)=eval e env)
  (h:wpAny 9#2 A (eval e env) (λo s₁=>wpAny 9#2 A (getAttr o f true) Q E s₁) E s):wpAny 9#2 A (eval (.Attribute e f pos) env) Q E s:=
 Attribute_any_ h (by rw[arm_eval_Attribute,hb])
end
def Nh (K:8#4) (ta:TE) (f:Str):TE:=λσ H Q=>ta σ H λx H1=>∃a C dx fs v,x= 3#a/\H1 a=1#(.ins C dx fs)/\Cls K C/\eN K C f/\fs.lookup f=1#v/\Q v H1
def Lu (K:8#4) (ta tv:TE) (f:Str):TS:=λD σ H=>tv σ H λy H1=>ta σ H1 λx H2=>∃a C dx fs,x= 3#a/\H2 a=1#(.ins C dx fs)/\Cls K C/\eN K C f/\0#fs<1000/\
 D.nx σ (upd H2 a (.ins C dx (aT f y fs)))
section
variable {X:Cx} {o e value:Expr} {f:Str} {pos pos' tpos:Pos} {ta tv:TE}
theorem HQ (he:PE X e ta) (hb:attributeBase e f X.env (eval e X.env)=eval e X.env):PE X (.Attribute e f pos) (Nh X.K ta f):=by
 intro pins s σ H Q I h;refine DM hb (az (he pins s σ H _ I h) λu s1 z902=> ?_);let⟨x,H1,I1,rx,a,C,dx,fs,v,ex,ea,c,n,l,q⟩:=z902;subst ex;obtain rfl:u=Value.ref a:=rx;exact xo I1 ea c n l λu' s2 I2 ru=>⟨v,H1,I2,ru,q⟩
theorem Hh (ha:PE X o ta) (hv:PE X value tv) (hs:swapsWith value 1#(.Attribute o f pos') pos.line X.env=pure false):PS X (.Assign [.Attribute o f pos'] value pos) (Lu X.K ta tv f):=by
 intro pins s σ H D I h;refine plainObj_wpAny_Assign_Attribute (az (hv pins s σ H _ I h) λu s1 zq3=> ?_) hs;let⟨y,H1,I1,ry,q⟩:=zq3;refine az (ha pins s1 σ H1 _ I1 q) λov s2 zq4=> ?_;let⟨x,H2,I2,rx,a,C,dx,fs,ex,ea,c,n,l,q2⟩:=zq4;subst ex;obtain rfl:ov=Value.ref a:=rx;exact wI I2 ea c n l ry λs3 I3=>⟨σ,_,I3,q2⟩
end
section
variable {X:Cx} {pins:8#7} {σ:St} {H:Hp} {s:9#4} {A:Around} {E:8#2} {Q:8#2} {c:Value} {b:Bool}
inductive fe (K:8#4) (H:Hp):V->Value->Prop where
 |non:fe K H .non (.type "NoneType")
 |bl (x:Bool):fe K H (.bl x) (.type "bool")
 |int (i:Int):fe K H 6#i (.type "int")
 |str (x:Str):fe K H (.str x) (.type "str")
 |flt (x:UInt64):fe K H (.flt x) (.type "float")
 |lst {a:Addr} {xs:2#V} (e:H a=1#7#xs):fe K H 3#a (.type "list")
 |aG {a:Addr} {o:Obj} {xs:2#V} (e:H a=1#(.aG o 7#xs)):fe K H 3#a (.type "list")
 |tup {a:Addr} {xs:2#V} (e:H a=1#(.tup xs)):fe K H 3#a (.type "tuple")
 |dK {a:Addr} {kvs:2#(Key×V)} (e:H a=1#(.dK kvs)):fe K H 3#a (.type "dict")
 |dT {a:Addr} {kvs:2#(2#Key×V)} (e:H a=1#(.dT kvs)):fe K H 3#a (.type "dict")
 |ins {a C dx:Addr} {fs:2#(Str×V)} (e:H a=1#(.ins C dx fs)) (cl:Cls K C) (ha:PySem.W.findIn K 3#C "__class__"=1#1#(.builtin "object.__class__"))
  (hn:PySem.W.specialIn K (.builtin "object.__class__") "__get__"=1#1#(.builtin "getset_descriptor.__get__")) (htk:PySem.W.takesIn K (.builtin "object.__class__")=1#true)
  (hm:PySem.W.mroIn K C (.type "object")=1#true):fe K H 3#a 3#C
theorem yJ {x:V} {u t:Value} (I:8#1) (rx:RelV x u) (ty:fe X.K H x t) (e:PySem.W.kitOne X.K t c=1#b) (h:∀tk,Q (.bool b) {s with toks:=tk}):
  wpAny 8#3 A (call (.builtin "isinstance") [u,c]) Q E s:=by
 cases ty with
 |non=>cases (show u=Value.none from rx);exact aaN PySem.W.kitx_none I.bQ True.intro e (λz=>nomatch z) h
 |bl y=>cases (show u=Value.bool y from rx);exact aaN PySem.W.kitx_bool I.bQ True.intro e (λz=>nomatch z) h
 |int i=>let⟨t,q⟩:=(show∃t,u=Value.int i t from rx);cases q;exact aaN PySem.W.kitx_int I.bQ True.intro e (λz=>nomatch z) h
 |str y=>let⟨t,q⟩:=(show∃t,u=Value.str y t from rx);cases q;exact aaN PySem.W.kitx_str I.bQ True.intro e (λz=>nomatch z) h
 |flt y=>let⟨t,q⟩:=(show∃t,u=Value.float y t from rx);cases q;exact aaN PySem.W.kitx_float I.bQ True.intro e (λz=>nomatch z) h
 | @lst a xs ea=>
  cases (show u=Value.ref a from rx);let⟨_,_,n,_,h1⟩:=(show aQ X.prog X.w H s.heap a 7#xs from I.ah a _ ea);exact aaN acZ I.bQ ⟨_,h1,rfl⟩ e (λz=>nomatch z) h
 | @aG a ob xs ea=>
  cases (show u=Value.ref a from rx);let⟨_,_,_,n,_,h1⟩:=(show aQ X.prog X.w H s.heap a (.aG ob 7#xs) from I.ah a _ ea);exact aaN acZ I.bQ ⟨_,h1,rfl⟩ e (λz=>nomatch z) h
 | @tup a xs ea=>
  cases (show u=Value.ref a from rx);let⟨_,_,_,p⟩:=(show aQ X.prog X.w H s.heap a (.tup xs) from I.ah a _ ea);let⟨o,h1,h2,_⟩:=p;exact aaN PySem.W.kitx_tuple I.bQ ⟨o,h1,h2⟩ e (λz=>nomatch z) h
 | @dK a kvs ea=>
  cases (show u=Value.ref a from rx);let⟨_,_,vs,_,p⟩:=(show aQ X.prog X.w H s.heap a (.dK kvs) from I.ah a _ ea);let⟨o,es,ep,h1,h2,_⟩:=p;exact aaN aci I.bQ ⟨o,h1,h2.1⟩ e (λz=>nomatch z) h
 | @dT a kvs ea=>
  cases (show u=Value.ref a from rx);let⟨_,_,xs,_,o,es,ep,h1,h2,_⟩:=(show aQ X.prog X.w H s.heap a (.dT kvs) from I.ah a _ ea);exact aaN aci I.bQ ⟨o,h1,h2.1⟩ e (λz=>nomatch z) h
 | @ins a C dx fs ea cl ha hn htk hm=>
  cases (show u=Value.ref a from rx);let⟨mA,O,_⟩:=kB I.ah ea;let⟨od,J,_⟩:=O.look;exact aaN (PySem.W.kitx_own (cl.get _) cl.hd ha hn htk hm) I.bQ J e (λz=>nomatch z) h
end
structure Room (k:Nat) (A:Around):Prop where
 hd:A.handled=none
 dp:A.depth+3*k+5<recursionLimit
 un:A.units+16*k+200<cLine
theorem Room.mono {j k:Nat} {A:Around} (r:Room k A) (h:j<=k):Room j A:=⟨r.hd,by have:=r.dp;lia,by have:=r.un;lia⟩
theorem Room.deeper {k:Nat} {A:Around} (r:Room (k+1) A) (env:Env):Room k (A.deeper env):=
 ⟨r.hd,by have:=r.dp;show A.depth+1+3*k+5<_;lia,by have:=r.un;show A.units+3+16*k+200<_;lia⟩
theorem Room.in1 {k:Nat} {A:Around} (r:Room (k+1) A):Room k A.in1:=
 ⟨r.hd,by have:=r.dp;show A.depth+3*k+5<_;lia,by have:=r.un;show A.units+1+16*k+200<_;lia⟩
theorem xn {A:Around} {C:Addr} {us:2#Value} {kw:2#(Str×Value)}:(A.under (.builtin "type.__call__" ⟨3#C::us,kw⟩)).depth=A.depth+1:=by
 first|rfl|simp[Around.under,Code.weight,Code.isCreation,Code.isGuard,Code.isCaller,Code.frames,Code.isFrame,guardIds]
theorem wu {A:Around} {C:Addr} {us:2#Value} {kw:2#(Str×Value)}:(A.under (.builtin "type.__call__" ⟨3#C::us,kw⟩)).units=A.units+1:=by
 first|rfl|simp[Around.under,Code.cUnits,Code.frames,Code.isFrame]
theorem Room.make {k:Nat} {A:Around} (r:Room (k+1) A) (C:Addr) (us:2#Value) (kw:2#(Str×Value)):Room k (A.under (.builtin "type.__call__" ⟨3#C::us,kw⟩)):=
 ⟨r.hd,by have:=r.dp;rw[xn];lia,by have:=r.un;rw[wu];lia⟩
theorem Room.depth {k:Nat} {A:Around} (r:Room k A):A.depth<recursionLimit:=by have:=r.dp;lia
def A3:TA:=λ_ H Q=>Q [] H
def wQ (ta:TE) (tr:TA):TA:=λσ H Q=>ta σ H λx H1=>tr σ H1 λxs H2=>Q (x::xs) H2
section
variable {X:Cx} {e:Expr} {es:2#Expr} {te:TE} {t:TA} {pos:Pos}
theorem nB:PA X [] A3:=λ_ _ _ _ H Q I h=>ac0 ⟨[],H,I, .nil,h⟩
theorem iM (ha:PE X e te) (hr:PA X es t) (hs:starEach (e::es) X.env=(false,eval e X.env)::starEach es X.env:=by rfl):PA X (e::es) (wQ te t):=by
 intro pos pins s σ H Q I h;rw[hs];show wpAny _ _ (spliced ((false,eval e X.env)::backTo pos (starEach es X.env))) _ _ s;refine ace (az (ha pins s σ H _ I h) λu s1 z902=> ?_);let⟨x,H1,I1,r1,q1⟩:=z902
 exact az (hr pos pins s1 σ H1 _ I1 q1) λus s2 z902=>by let⟨xs,H2,I2,r2,q2⟩:=z902;exact⟨x::xs,H2,I2, .cons r1 r2,q2⟩
def M5 (t:TA):TE:=λσ H Q=>t σ H λxs H1=>0#xs<=sizeLine/\∀p,H1 p=none->Q 3#p (upd H1 p (.tup xs))
def MX (t:TA):TE:=λσ H Q=>t σ H λxs H1=>0#xs<=sizeLine/\∀p,H1 p=none->Q 3#p (upd H1 p 7#xs)
theorem HP {x1} (h:PA X es t):PE X (.Tuple es x1 pos) (M5 t):=by
 intro pins s σ H Q I hq;refine wpAny_Tuple_spliced (az (h pos pins s σ H _ I hq) λus s1 zq5=> ?_);let⟨xs,H1,I1,r,z,q⟩:=zq5;refine⟨by rw[←0#r];exact z, ?_⟩;have hf:H1 s1.heap.objs.size=none:=I1.ah.fresh (aah _);refine⟨3#s1.heap.objs.size,upd H1 s1.heap.objs.size (.tup xs),I1.laid (t':=s1.toks) (λb u e=>aad _ e) (aah _) ?_,rfl,q _ hf⟩;exact⟨z,us,r,⟨_,aak _ rfl,rfl,_,rfl⟩⟩
theorem Hk (h:PA X es t):PE X (.List es pos) (MX t):=by
 intro pins s σ H Q I hq;refine wpAny_List_spliced (az (h pos pins s σ H _ I hq) λus s1 zq6=> ?_);let⟨xs,H1,I1,r,z,q⟩:=zq6;refine⟨by rw[←0#r];exact z, ?_⟩;have hf:H1 s1.heap.objs.size=none:=I1.ah.fresh (aah _);refine⟨3#s1.heap.objs.size,upd H1 s1.heap.objs.size 7#xs,I1.laid (t':=s1.toks) (λb u e=>aad _ e) (aah _) ?_,rfl,q _ hf⟩;exact⟨z,us,0,r,aak _ rfl⟩
end
abbrev Sp:=2#V->Hp->VK->XK->Prop
abbrev kY:=2#Env->Hp->Shared->XK->Value->Shared->Prop
structure Env0 (P:Program) (w:World) (K:8#4) (mg:8#23) (base:Heap) (A:Around) (outer:2#Env) (s:9#4) (H:Hp):Prop where
 frames:A.frames=1#outer
 mod:Mod K mg base
 bs:∀b o,base.get? b=1#o->s.heap.get? b=1#o/\H b=none
 bsz:base.objs.size<=s.heap.objs.size
 dE:s.heap.FunFrames base outer
 frf:∀b∈dj outer,H b=none
 ah:bA P w H s.heap
 bare:AllBare s.gens
def CE (outer:2#Env) (P:Program) (w:World) (H:Hp) (s:9#4) (Q:VK) (u:Value) (s':9#4):Prop:=
 ∃v H',s'.os=s.os/\AllBare s'.gens/\Un (dj outer) [] H H' s.heap s'.heap/\bA P w H' s'.heap/\RelV v u/\Q v H'
def CR (CX:kY) (outer:2#Env) (P:Program) (w:World) (H:Hp) (s:9#4) (Q:VK) (E:XK) (r:Result) (s':9#4):Prop:=
 match r with
 | .ok (.ret u)=>CE outer P w H s Q u s'
 | .ok _=>False
 | .error e=>CX outer H s E e s'
structure FnOk (P:Program) (w:World) (K:8#4) (mg:8#23) (base:Heap) (CX:kY) (k:Nat) (f:Addr) (fd:FuncData) (ps:2#Str) (sp:Sp):Prop where
 len:∀vs H Q E,sp vs H Q E->0#vs=0#ps
 run:∀(A:Around) (outer:2#Env) (s:9#4) (H:Hp) (args:Args) (us:2#Value) (vs:2#V) (Q:VK) (E:XK),Room k A->Env0 P w K mg base A outer s H->BindsTo s fd args (ps.zip us)->Vals vs us->sp vs H Q E->
  codeAny (model P w) A (.call 3#f args) (CR CX outer P w H s Q E) s
theorem Env0.make {P:Program} {w:World} {K:8#4} {mg:8#23} {A:Around} {outer:2#Env} {s:9#4} {H:Hp} (e:Env0 P w K mg base A outer s H) (C:Addr) (us:2#Value) (kw:2#(Str×Value)):
  Env0 P w K mg base (A.under (.builtin "type.__call__" ⟨3#C::us,kw⟩)) outer s H:=⟨by first|exact e.frames|(simpa[Around.under,Code.envs,Code.isFrame,pushEnvs] using e.frames),e.mod,e.bs,e.bsz,e.dE,e.frf,e.ah,e.bare⟩
theorem Env0.in1 {P:Program} {w:World} {K:8#4} {mg:8#23} {A:Around} {outer:2#Env} {s:9#4} {H:Hp} (e:Env0 P w K mg base A outer s H):
  Env0 P w K mg base A.in1 outer s H:=⟨e.frames,e.mod,e.bs,e.bsz,e.dE,e.frf,e.ah,e.bare⟩
section
variable {X:Cx} {pins:8#7} {σ:St} {H:Hp} {s s':9#4}
theorem Inv.Ax (I:8#1):Env0 X.prog X.w X.K X.mg X.base X.A X.stack s H:=
 ⟨I.ok.frames,I.ok.mod,I.bs,aaT I.ok.bsz I.sz,I.stack,I.kq,I.ah,I.bare⟩
theorem Inv.after {Q:VK} {u:Value} (I:8#1) (h:CE X.stack X.prog X.w H s Q u s'):EP X pins σ Q u s':=by
 let⟨v,H',os,bare,un,ah,r,q⟩:=h;let⟨hh,g,d,t,os'⟩:=s';obtain rfl:os'=s.os:=os;exact⟨v,H',I.call (h':=hh) (g':=g) (d':=d) (t':=t) (ch:=[]) un ah bare (λb z=>absurd z 8#5),r,q⟩
end
def Binds (K:8#4) (fd:FuncData) (ps:2#Str) (ds:2#Value):Prop:=
 ∀(s:9#4) (us:2#Value),K.In s.heap->0#(us++ds)=0#ps->BindsTo s fd ⟨us,[]⟩ (ps.zip (us++ds))
theorem Binds.all {K:8#4} {ps:2#Str} (h:∀us:2#Value,0#us=0#ps->bindArgs fd ⟨us,[]⟩=pure (ps.zip us)):Binds K fd ps []:=λs us _ hl=>by
 rw[abj] at hl⊢;exact .of_eq (h us hl)
section
variable {X:Cx} {CX:kY} {k:Nat} {f C:Addr} {fd:FuncData} {ps:2#Str} {sp:Sp} {dvs:2#V} {ds:2#Value} {E:XK} {x m:Str} {p pos apos:Pos} {e o:Expr} {es:2#Expr} {ta:TE} {t:TA}
structure Mk (K:8#4) (C f:Addr):Prop where
 makes:PySem.W.makesIn K C=true
 init:PySem.W.findIn K 3#C "__init__"=1#1#3#f
 fn:PySem.W.isFn K 3#f=true
 kp:PySem.W.keepIn K 3#C=true
end
def PK (X:Cx) (kws:2#Keyword) (t:TA):Prop:=
 ∀(pos:Pos) (pins:8#7) (s:9#4) (σ:St) (H:Hp) (Q:2#V->Hp->Prop),Inv X pins σ H s->t σ H Q->wpAny 8#3 X.A (evalAll ((backToKw pos (keywordEach kws X.env)).map (·.2))) (AP X pins σ Q) X.xe s
section
variable {X:Cx} {CX:kY} {k:Nat} {f C:Addr} {fd:FuncData} {ps ks:2#Str} {sp:Sp} {E:XK} {x m:Str} {p pos apos kpos:Pos} {e o:Expr} {es:2#Expr} {kws:2#Keyword} {te ta:TE} {t tk:TA} {nm:5#Str}
theorem HX:PK X [] A3:=λ_ _ _ _ H Q I h=>wpAny_evalAll_nil ⟨[],H,I, .nil,h⟩
theorem C9 (ha:PE X e te) (hr:PK X kws t):PK X (⟨nm,e,kpos⟩::kws) (wQ te t):=by
 intro pos pins s σ H Q I h
 show wpAny _ _ (evalAll ((do let v←eval e X.env;standAt pos;pure v)::(backToKw pos (keywordEach kws X.env)).map (·.2))) _ _ s
 refine wpAny_evalAll_cons (aaa (az (ha pins s σ H _ I h) λu s1 zq7=> ?_));let⟨x,H1,I1,r1,q1⟩:=zq7;refine aaa (acX (aaf ?_))
 exact az (hr pos pins s1 σ H1 _ I1 q1) λus s2 z902=>by let⟨xs,H2,I2,r2,q2⟩:=z902;exact⟨x::xs,H2,I2, .cons r1 r2,q2⟩
structure KBinds (K:8#4) (fd:FuncData) (ps ks:2#Str) (g:2#Value->2#Value->2#Value) (gV:2#V->2#V->2#V):Prop where
 to:∀(s:9#4) (us ws:2#Value),K.In s.heap->0#(g us ws)=0#ps->BindsTo s fd ⟨us,ks.zip ws⟩ (ps.zip (g us ws))
 rel:∀{vs:2#V} {us:2#Value} {zs:2#V} {ws:2#Value},Vals vs us->Vals zs ws->Vals (gV vs zs) (g us ws)
variable {g:2#Value->2#Value->2#Value} {gV:2#V->2#V->2#V}
end
structure FnScope (N P:2#Str) (sc:Scope):Prop where
 kind:sc.kind= .function
 co:sc.isCoroutine=false
 gen:sc.isGenerator=false
 nd:N.Nodup
 pre:N.take 0#P=P
 par:∀x∈P,sc.names.lookup x=1#.local∨sc.names.lookup x=1#.cell
 nofree:∀y∈sc.names,y.2≠ .free
theorem pI {kindOf:Str->5#NameKind} {x:Str}:∀{binds:2#(Str×Value)} {m:8#23},(∀v,(x,v)∉binds)->bindL kindOf binds m x=m x
 |[],_,_=>rfl
 |(n,v)::r,m,h=>by
  unfold bindL;rw[pI λw hw=>h w (aat _ hw)];split
  ·have:x≠n:=by rintro rfl;exact h v aaD
   simp[this]
  ·rfl
theorem oZ {kindOf:Str->5#NameKind} {x:Str}:∀{binds:2#(Str×Value)} {m:8#23},(∀v,(x,v)∉binds)->bindC kindOf binds m x=m x
 |[],_,_=>rfl
 |(n,v)::r,m,h=>by
  unfold bindC;rw[oZ λw hw=>h w (aat _ hw)];split
  ·rfl
  ·have:x≠n:=by rintro rfl;exact h v aaD
   simp[this]
theorem oG {kindOf:Str->5#NameKind} {x:Str} {v:Value}:∀{P:2#Str} {vs:2#Value} {i:Nat} {m:8#23},P.Nodup->P[i]?=1#x->vs[i]?=1#v->kindOf x=1#.local->
  bindL kindOf (P.zip vs) m x=1#v
 |[],_,_,_,_,h,_,_=>by simp at h
 |_::_,[],_,_,_,_,h,_=>by simp at h
 |p::P,w::vs,0,m,nd,h1,h2,hk=>by
  simp at h1 h2;subst h1;subst h2;show bindL kindOf ((p,w)::P.zip vs) m p=_;unfold bindL;rw[pI λv hv=>(aa7.mp nd).1 (ada hv).1,if_pos hk];simp
 |p::P,w::vs,i+1,m,nd,h1,h2,hk=>by
  show bindL kindOf ((p,w)::P.zip vs) m x=_;unfold bindL;exact oG (i:=i) (aa7.mp nd).2 (by simpa using h1) (by simpa using h2) hk
theorem pM {kindOf:Str->5#NameKind} {x:Str} {v:Value}:∀{P:2#Str} {vs:2#Value} {i:Nat} {m:8#23},P.Nodup->P[i]?=1#x->vs[i]?=1#v->kindOf x≠1#.local->
  bindC kindOf (P.zip vs) m x=1#v
 |[],_,_,_,_,h,_,_=>by simp at h
 |_::_,[],_,_,_,_,h,_=>by simp at h
 |p::P,w::vs,0,m,nd,h1,h2,hk=>by
  simp at h1 h2;subst h1;subst h2;show bindC kindOf ((p,w)::P.zip vs) m p=_;unfold bindC;rw[oZ λv hv=>(aa7.mp nd).1 (ada hv).1,if_neg hk];simp
 |p::P,w::vs,i+1,m,nd,h1,h2,hk=>by
  show bindC kindOf ((p,w)::P.zip vs) m x=_;unfold bindC;exact pM (i:=i) (aa7.mp nd).2 (by simpa using h1) (by simpa using h2) hk
noncomputable def start (N:2#Str) (vs:2#V):St:=vs.map some++List.replicate (0#N-0#vs) none
noncomputable def oC (CX:kY) (P:Program) (w:World) (K:8#4) (mg:8#23) (base:Heap) (N:2#Str) (qual:Str) (scope:Scope) (f:Addr) (cd:Value) (A:Around) (outer:2#Env) (s:9#4) (H:Hp) (E:XK):Cx where
 prog:=P
 w:=w
 K:=K
 mg:=mg
 base:=base
 A:=A.deeper (envOfC qual scope s.heap.objs.size f cd)
 N:=N
 s₀:=s
 H₀:=H
 env:=envOfC qual scope s.heap.objs.size f cd
 outer:=outer
 stack:=envOfC qual scope s.heap.objs.size f cd::outer
 ex:=[]
 calm:=true
 fn:=λ_=>true
 pn:=[]
 xe:=λe s'=>wpAny (model P w) (A.deeper (envOfC qual scope s.heap.objs.size f cd)) (leaving (envOfC qual scope s.heap.objs.size f cd) e) (λ_ s''=>CX outer H s E e s'') (λe' s''=>CX outer H s E e' s'') s'
theorem ra {sc:Scope} {n:Nat} {x:Str} (h:sc.names.lookup x=1#.cell):∃c,(cellsFrom n sc.names []).lookup x=1#c:=by
 have q:=PySem.W.cellsFrom_some sc.names n [] (.inl h);exact aaW.mp q
theorem zu {CX:kY} {P:Program} {w:World} {K:8#4} {mg:8#23} {N ps:2#Str} {qual:Str} {scope:Scope} {f:Addr} {cd:Value} {A:Around} {outer:2#Env} {s:9#4} {H:Hp} {E:XK} {us:2#Value} {vs:2#V}
  (S:FnScope N ps scope) (hd:A.handled=none) (e0:Env0 P w K mg base A outer s H) (hl:0#vs=0#ps) (r:Vals vs us)
  (x:InCallC s s.heap.objs.size (bindL (envOfC qual scope s.heap.objs.size f cd).kindOf (ps.zip us) λ_=>none) (cellsFrom 8#11 scope.names []) (bindC (envOfC qual scope s.heap.objs.size f cd).kindOf (ps.zip us) λ_=>none) s1):
  Inv (oC CX P w K mg base N qual scope f cd A outer s H E) [] (start N vs) H s1:=by
 have hpl:0#ps<=0#N:=by have:=congrArg List.length S.pre;rw[abc] at this;lia
 let⟨h1,tk,rfl,hk⟩:=x.done;have noA:∀b:Addr,b∉(oC CX P w K mg base N qual scope f cd A outer s H E).ex:=λb z=>absurd (show b∈([]:2#Addr) from z) 8#5
 refine⟨⟨e0.mod,S.kind,rfl,rfl,aah _,λy z c h1 h2=> ?_,λy hy=> ?_,λy c _ h=> ?_,λ_=>hd,Around.frames_deeper e0.frames, .inr ⟨rfl,rfl⟩,λb z=>absurd z (noA b),e0.bs,e0.bsz,λb _ _=>noA b,λb z=>absurd z (noA b),e0.dE,e0.frf⟩,
  rfl,e0.bare,Un.kept hk,⟨_,x.toInCall.ns,λi y v h1 h2 h3=> ?_⟩,λy c h=>⟨_,x.cell y c h⟩,e0.ah.fresh (aah _),λy c h=> ?_,λp hp=>absurd (show p∈([]:2#(Addr×Obj)) from hp) 8#5,e0.ah.kept hk, ?_⟩
 ·exact name_of_addr x.apart (aaK h1) (aaK h2)
 ·have hy:scope.names.lookup y=1#.cell∨scope.names.lookup y=1#.free:=hy
  rcases hy with hy|hy
  ·exact ra hy
  ·exact absurd rfl (S.nofree _ (aaK hy))
 ·exact abI (x.above y c (aaK h))
 ·have hi:i<0#vs:=by
   unfold start at h2
   by_cases hi:i<0#vs
   ·exact hi
   ·rw[aal (by simpa using hi)] at h2;rw[abU] at h2;split at h2<;>cases h2
  have ha:vs[i]?=1#v:=by
   unfold start at h2;rw[aao (by simpa using hi),aaO] at h2
   cases e:vs[i]? with
   |none=>rw[e] at h2;cases h2
   |some a=>rw[e] at h2;cases h2;rfl
  let⟨u,hu,rv⟩:=r.get ha
  have hp:ps[i]?=1#y:=by
   rw[←S.pre,aa6 8#0];exact h1
  have ndP:ps.Nodup:=by rw[←S.pre];exact S.nd.sublist (List.take_sublist _ _)
  refine⟨u,rv, ?_⟩
  rcases S.par y (aau hp) with k|k
  ·exact .inl ⟨k,oG ndP hp hu k⟩
  ·let⟨c,e⟩:=ra (n:=s.heap.objs.size+1) k;refine .inr ⟨.inl k,c,e, ?_⟩;have q:=x.cell y c e;rw[pM ndP hp hu (by show scope.names.lookup y≠_;rw[k];decide)] at q;exact q
 ·exact e0.ah.fresh (abI (x.above y c (aaK h)))
 ·unfold start;show _=0#N;rw[aaL,aaz,List.length_replicate];lia
theorem IL {CX:kY} {P:Program} {w:World} {K:8#4} {mg:8#23} {k:Nat} {f:Addr} {name qual:Str} {params:Arguments} {dV kV doc pm cdv ct oc:Value} {an od:5#Addr}
  {osl:Array 5#Value} {N ps:2#Str} {sp:Sp} (lk:K.lookup f=1#⟨oc,od, .func (PySem.W.fnOf name qual params body scope dV kV doc pm an cdv ct),osl⟩) (hcd:PySem.W.codeIn K cdv qual=true) (S:FnScope N ps scope)
  (len:∀vs H Q E,sp vs H Q E->0#vs=0#ps)
  (hbody:∀(A:Around) (outer:2#Env) (s:9#4) (H:Hp) (vs:2#V) (Q:VK) (E:XK),Room k (A.deeper (envOfC qual scope s.heap.objs.size f cdv))->sp vs H Q E->
   ∃t,dI (oC CX P w K mg base N qual scope f cdv A outer s H E) body t/\t {nx:=λ_ H'=>Q .non H',rt:=Q} (start N vs) H):
  FnOk P w K mg base CX (k+1) f (PySem.W.fnOf name qual params body scope dV kV doc pm an cdv ct) ps sp:=by
 refine⟨len,λA outer s H args us vs Q E hr e0 hb r hsp=> ?_⟩;have hl:=len _ _ _ _ hsp;have KX:K.In s.heap:=e0.mod.kin.keeps λb o e=>(e0.bs b o e).1;have lim:s.heap.NoLimit:=e0.mod.nolimit.keeps λb o e=>(e0.bs b o e).1
 have hkind:∀y∈ps.zip us,scope.names.lookup y.1=1#.local∨(scope.names.lookup y.1=1#.cell/\((cellsFrom 8#11 scope.names []).lookup y.1).isSome=true):=λz900 hy=>by
  let⟨n,v⟩:=z900
  rcases S.par n (ada hy).1 with q|q
  ·exact .inl q
  ·exact .inr ⟨q,PySem.W.cellsFrom_some _ _ _ (.inl q)⟩
 refine codeAny_call_function hr.depth (KX _ _ lk) rfl S.co S.gen rfl (PySem.W.codeRec_of KX hcd) (hb _ _ _ _ ?_);refine wpAny_newFunctionEnv_cells S.kind hkind λenv he s1 x=> ?_;subst he;refine⟨lim.keeps x.toInCall.keep,codeAny_func ?_⟩;let⟨t,ht,hq⟩:=hbody A outer s H vs Q E (hr.deeper _) hsp;have I:Inv (oC CX P w K mg base N qual scope f cdv A outer s H E) [] (start N vs) H s1:=zu S hr.hd e0 hl r x;refine aa3 (ht [] s1 (start N vs) H _ I hq) (λfl s' hs=> ?_) λe s' hs=>hs
 have fin:∀{σ':St} {H':Hp} {v:V} {u:Value},Inv (oC CX P w K mg base N qual scope f cdv A outer s H E) [] σ' H' s'->RelV v u->Q v H'->CE outer P w H s Q u s':=
  λ{σ' H' v u} J rv q=>⟨v,H',J.os,J.bare,J.base,J.ah,rv,q⟩
 cases fl with
 |ret u=>
  let⟨v,σ',H',J,rv,q⟩:=hs;exact fin J rv q
 |next=>
  let⟨σ',H',J,q⟩:=hs;exact fin (v:=V.non) (u:=Value.none) J rfl q
 |brk=>
  let⟨_,_,_,q⟩:=hs;exact False.elim q
 |cont=>
  let⟨_,_,_,q⟩:=hs;exact False.elim q
section
variable {X:Cx} {x:Str} {p pos:Pos} {e:Expr} {es:2#Expr} {t:TA} {id T:String} {r:2#V->Hp->VK->Prop}
def tCB (r:2#V->Hp->VK->Prop) (t:TA):TE:=λσ H Q=>t σ H λvs H1=>r vs H1 Q
theorem rK (hc:aC X (.builtin id) r) (hg:Gl X x) (hm:X.mg x=none) (hv:bootBuiltins x=1#(.builtin id)) (ha:PA X (e::es) t) (hn:x≠"__name__":=by decide) (hdb:(x==("__debug__":Str))=false:=by decide)
  (he:starEach (e::es) X.env=(false,eval e X.env)::starEach es X.env:=by rfl) (hpl:(backTo pos (starEach es X.env)).any (·.1)=false:=by rfl):PE X (.Call (.Name x p) (e::es) [] pos) (tCB r t):=by
 intro pins s σ H Q I h;refine abu (fH I hg hm hv ?_ hn hdb);exact PyProof.Rows.callWith_builtin1 (az (ha pos pins s σ H _ I h) λus s1 z902=>by let⟨vs,H1,I1,r1,q1⟩:=z902;exact hc pins s1 σ H1 vs us Q I1 r1 q1) he hpl
theorem pU (hc:aC X (.type T) r) (hg:Gl X x) (hm:X.mg x=none) (hv:bootBuiltins x=1#(.type T)) (ha:PA X (e::es) t) (hn:x≠"__name__":=by decide) (hdb:(x==("__debug__":Str))=false:=by decide)
  (he:starEach (e::es) X.env=(false,eval e X.env)::starEach es X.env:=by rfl) (hpl:(backTo pos (starEach es X.env)).any (·.1)=false:=by rfl):PE X (.Call (.Name x p) (e::es) [] pos) (tCB r t):=by
 intro pins s σ H Q I h;refine abu (fH I hg hm hv ?_ hn hdb);exact abi (az (ha pos pins s σ H _ I h) λus s1 z902=>by let⟨vs,H1,I1,r1,q1⟩:=z902;exact hc pins s1 σ H1 vs us Q I1 r1 q1) he hpl
end
end L2
namespace HT
open PySem PyProof.Rows
noncomputable def lexLt:2#Int->2#Int->Bool
 |[],[]=>false
 |[],_::_=>true
 |_::_,[]=>false
 |x::xs,y::ys=>if x=y then lexLt xs ys else decide (x<y)
theorem eQ (x y:Int) (xs ys:2#Int):lexLt (x::xs) (y::ys)=if x=y then lexLt xs ys else decide (x<y):=rfl
section
open PySem.SeqAt
open PySem.AutoSeq1 (wpAny_loadPart')
open PySem.MeetsSeq PySem.MeetsSeq2 PySem.MeetsSeq3
end
section
variable {prog:Program} {w:World} {A:Around} {E:8#2} {s:9#4}
theorem Eg {t b:Addr} {vs ws:2#Value} {Q:8#2} (ht:IsTup s.heap t vs.toArray) (hb:IsTup s.heap b ws.toArray) (hv:vs≠[])
  (h1:ws=[]->Q 3#t s) (h2:ws≠[]->Q 3#s.heap.objs.size {s with heap:=s.heap.push {cls:= .type "tuple",data:= .seq (vs++ws).toArray}})
  (hsz:0#vs+0#ws<=sizeLine):wpAny 9#2 A (binaryOp .Add 3#t 3#b) Q E s:=by
 let⟨⟨cls,dd,data,sl⟩,ho,hc,n,hd⟩:=id ht;let⟨⟨cls2,dd2,data2,sl2⟩,ho2,hc2,n2,hd2⟩:=id hb;simp only at hc hd hc2 hd2;subst hc hd hc2 hd2
 have e:vs.toArray++ws.toArray=(vs++ws).toArray:=by simp
 by_cases hw:ws=[]
 ·exact concat_meets ⟨_,ho,rfl⟩ ⟨_,ho2,rfl⟩ noFill_tuple_add seq_tuple_add PySem.F.slot_tuple_add PySem.F.entry_tuple_add (PySem.F.args_tuple_add_2 _ _)
   (tuple_addW1 t b vs.toArray ws.toArray n n2 dd dd2 sl sl2 (by simpa using hv) (by simp[hw])) ⟨ho,ho2,h1 hw⟩
 ·refine concat_meets ⟨_,ho,rfl⟩ ⟨_,ho2,rfl⟩ noFill_tuple_add seq_tuple_add PySem.F.slot_tuple_add PySem.F.entry_tuple_add (PySem.F.args_tuple_add_2 _ _)
   (tuple_addW2 t b vs.toArray ws.toArray n n2 dd dd2 sl sl2 (by simpa using hv) (by simpa using hw) (by rw[aaj,aaj];exact hsz)) ⟨ho,ho2, ?_⟩
  rw[e];exact h2 hw
noncomputable def aU (n d:Nat):5#Int->Nat
 |none=>d
 |some v=>if v<0 then (v+(n:Int)).toNat else min v.toNat n
theorem Gw (n d:Nat) (hd:d<=n) (o:5#Int):aU n d o<=n:=by
 cases o with
 |none=>exact hd
 |some v=>
  show (if v<0 then (v+(n:Int)).toNat else min v.toNat n)<=n
  by_cases hv:v<0
  ·rw[if_pos hv];lia
  ·rw[if_neg hv];exact Nat.min_le_right _ _
theorem vI (v:Int) (n d:Nat):(if v<0 then max (v+(n:Int)) 0 else min v (n:Int))=((aU n d 1#v:Nat):Int):=by
 show (if v<0 then max (v+(n:Int)) 0 else min v (n:Int))=(((if v<0 then (v+(n:Int)).toNat else min v.toNat n):Nat):Int)
 by_cases hv:v<0
 ·simp only[if_pos hv];lia
 ·simp only[if_neg hv];lia
theorem xf (lo hi:5#Int) (n:Nat):Builtin.Slice.sliceAdjust lo hi 1 (n:Int)=(((aU n 0 lo:Nat):Int),((aU n n hi:Nat):Int)):=by
 have h1:¬((1:Int)<0):=by lia
 unfold Builtin.Slice.sliceAdjust;simp only[h1,abR];refine Prod.ext ?_ ?_
 ·cases lo with
  |none=>rfl
  |some v=>exact vI v n 0
 ·cases hi with
  |none=>rfl
  |some v=>exact vI v n n
theorem wD (i j:Nat):Builtin.Slice.slicePlaces (i:Int) (j:Int) 1=j-i:=by
 unfold Builtin.Slice.slicePlaces
 have h1:(1:Int)>0:=by lia
 simp only[h1,abX,Int.ediv_one];split<;>lia
theorem nO {v:Value} {o:5#Int} {Q:5#Int->Shared->Prop} (p:IsPart v o) (h:Q o s):wpAny 9#2 A (Builtin.Slice.slicePartIndex v) Q E s:=by
 cases p with
 |none=>exact slicePart_none h
 |int i t=>exact slicePart_int h
theorem l8 {vl vu:Value} {lo hi:5#Int} {n:Nat} {Q:Int×Int×Nat->Shared->Prop} (hs:s.heap.IsSliceOf sl vl vu .none) (pl:IsPart vl lo) (pu:IsPart vu hi)
  (h:Q (((aU n 0 lo:Nat):Int),1,aU n n hi-aU n 0 lo) s):wpAny 9#2 A (Builtin.Slice.sliceApplied 3#sl (pure (n:Int))) Q E s:=by
 let⟨os,hos,hcs,hds⟩:=id hs;unfold Builtin.Slice.sliceApplied Builtin.Slice.sliceFields;refine aaa (aaa (aaE hos hds (x:=vl) rfl (aaa (aaE hos hds (x:=vu) rfl (aaa (aaE hos hds (x:= .none) rfl (aaf ?_)))))));refine aaa (slicePart_none ?_);show wpAny _ _ (if ((1:Int)==0)=true then _ else _) _ _ s;rw[if_neg 8#16];refine aaa (nO pl (aaa (nO pu (aaa (aaf ?_)))))
 show wpAny _ _ (match Builtin.Slice.sliceAdjust lo hi 1 (n:Int) with|(lo,hi)=>pure (lo,(1:Int),Builtin.Slice.slicePlaces lo hi 1)) _ _ s
 rw[xf lo hi n];show wpAny _ _ (pure (((aU n 0 lo:Nat):Int),(1:Int),Builtin.Slice.slicePlaces ((aU n 0 lo:Nat):Int) ((aU n n hi:Nat):Int) 1)) _ _ s;rw[wD];exact aaf h
theorem BA (xs:Array Value) (i k:Nat):((List.range k).filterMap λ(m:Nat)=>xs[((i:Int)+(m:Int)*1).toNat]?).toArray=((xs.toList.drop i).take k).toArray:=by
 have e:(λ(m:Nat)=>xs[((i:Int)+(m:Int)*1).toNat]?)=λm=>xs[i+m]?:=by
  funext m
  have:((i:Int)+(m:Int)*1).toNat=i+m:=by lia
  rw[this]
 rw[e];have:=pick_run xs i k;rw[acS] at this;have e2:((λx=>xs[x]?)∘λx=>i+x)=λm=>xs[i+m]?:=rfl;rw[e2] at this;rw[this]
theorem kM {t:Addr} {items:Array Value} {vl vu:Value} {lo hi:5#Int} {Q:8#2} (ht:IsTup s.heap t items) (hs:s.heap.IsSliceOf sl vl vu .none) (pl:IsPart vl lo) (pu:IsPart vu hi)
  (hw:¬(aU items.size 0 lo=0/\aU items.size items.size hi=items.size))
  (h:Q 3#s.heap.objs.size {s with heap:=s.heap.push {cls:= .type "tuple",data:= .seq ((items.toList.drop (aU items.size 0 lo)).take (aU items.size items.size hi-aU items.size 0 lo)).toArray}})
  (hsz:items.size<=sizeLine):wpAny 9#2 A (getItem 3#t 3#sl) Q E s:=by
 have htake:sizeOk (.seq ((items.toList.drop (aU items.size 0 lo)).take (aU items.size items.size hi-aU items.size 0 lo)).toArray):=by
  show ((items.toList.drop (aU items.size 0 lo)).take (aU items.size items.size hi-aU items.size 0 lo)).toArray.size<=sizeLine;rw[aaj,abc,acw,aba];lia
 have hj:aU items.size items.size hi<=items.size:=Gw _ _ (aah _) hi;let⟨os,hos,hcs,hds⟩:=id hs;have hTs:s.TypeIs 3#sl "slice":=⟨os,hos,hcs⟩;unfold getItem
 try with_reducible refine abn ?_
 first|refine aaa (aaf ?_)|skip
 refine aaa (wpAny_sequenceKey ht.typeIs 8#16 ?_)
 refine aaa (aaZ (name:=Str.ofString "__getitem__") ht.typeIs acC
  (abe acC ht.typeIs entry_tuple_getitem ?_ (args_tuple_getitem _ _)))
 show wpAny _ _ (Builtin.Tuple.tupleItemsOf 3#t>>=_) _ _ s;refine aaa (tupleItemsOf_ ht ?_);refine aaa (wpAny_typeOf hTs ?_);rw[if_pos 8#16];refine aaa (l8 hs pl pu ?_)
 have hno:¬((((aU items.size 0 lo:Nat):Int)==0&&(1:Int)==1&&(aU items.size items.size hi-aU items.size 0 lo)==items.size)=true):=by
  intro q;rw[aag,aag] at q;have q1:((aU items.size 0 lo:Nat):Int)=0:=eq_of_beq q.1.1;have q2:aU items.size items.size hi-aU items.size 0 lo=items.size:=eq_of_beq q.2;exact hw ⟨by lia,by lia⟩
 show wpAny _ _ (if (((aU items.size 0 lo:Nat):Int)==0&&(1:Int)==1&&(aU items.size items.size hi-aU items.size 0 lo)==items.size)=true then _ else _) _ _ s;rw[if_neg hno,BA]
 first
  |exact aaa (m:=Builtin.Tuple.tupleExact _) (aaY (aaf ⟨_,rfl,aaf h⟩) htake)
  |exact aaa (m:=Builtin.Tuple.tupleExact _) (aaY (aaa (aaf (aaf ⟨_,rfl,aaf h⟩))) htake)
  |exact aaa (aaa (m:=Builtin.Tuple.tupleExact _) (aaY (aaf (aaf ⟨_,rfl,aaf h⟩)) htake))
  |exact aaa (aaa (m:=Builtin.Tuple.tupleExact _) (aaY (aaf ⟨_,rfl,aaf h⟩) htake))
end
end HT
namespace L2
open PySem PySem.Spec PyProof.Rows
abbrev TO:=St->Hp->(5#Int->Hp->Prop)->Prop
def PO (X:Cx) (e:5#Expr) (t:TO):Prop:=
 ∀(pins:8#7) (s:9#4) (σ:St) (H:Hp) (Q:5#Int->Hp->Prop),Inv X pins σ H s->t σ H Q->
  wpAny 8#3 X.A (evalPart e X.env) (λu s'=>∃o H',Inv X pins σ H' s'/\IsPart u o/\Q o H') X.xe s
def DH:TO:=λ_ H Q=>Q none H
def JM (t:TE):TO:=λσ H Q=>t σ H λx H1=>∃i,x= 6#i/\Q 1#i H1
theorem intsAre_of {ns:2#Int}:∀{us:2#Value},Vals (ns.map V.int) us->IntsAre us ns:=by
 induction ns with
 |nil=>intro us r;rw[List.map_nil] at r;cases r;exact .nil
 |cons n ns ih=>
  intro us r;rw[aas] at r
  cases r with
  |cons r1 r2=>
   let⟨t,e⟩:=r1;subst e;exact .cons n t (ih r2)
section
variable {X:Cx} {e:Expr} {te:TE} {lo hi:5#Expr} {tl th:TO} {pos p2:Pos}
theorem DV:PO X none DH:=by
 intro pins s σ H Q I h;rw[evalPart_none];exact aaf ⟨none,H,I, .none,h⟩
theorem Et (h:PE X e te):PO X 1#e (JM te):=by
 intro pins s σ H Q I hw;rw[evalPart_some];refine az (h pins s σ H _ I hw) λu s1 z902=> ?_;let⟨x,H1,I1,r1,q1⟩:=z902;let⟨i,rfl,q⟩:=q1;let⟨t,rfl⟩:=r1;exact⟨1#i,H1,I1, .int i t,q⟩
def oK (X:Cx) (r:V->5#Int->5#Int->Hp->VK->Prop):Prop:=
 ∀(pins:8#7) (s:9#4) (σ:St) (H:Hp) (x:V) (v vl vu:Value) (lo hi:5#Int) (sl:Addr) (Q:VK),Inv X pins σ H s->RelV x v->s.heap.IsSliceOf sl vl vu .none->IsPart vl lo->IsPart vu hi->r x lo hi H Q->
  ∃T id,typeLookup (.type T) "__getitem__"=pure 1#(.builtin id)/\s.TypeIs v T/\wpAny 8#3 X.A (getItem v 3#sl) (EP X pins σ Q) X.xe s
theorem oK.or {r r':V->5#Int->5#Int->Hp->VK->Prop} (h:oK X r) (h':oK X r'):oK X (λx lo hi H Q=>r x lo hi H Q∨r' x lo hi H Q):=by
 intro pins s σ H x v vl vu lo hi sl Q I rx hs pl pu q
 rcases q with q|q
 ·exact h pins s σ H x v vl vu lo hi sl Q I rx hs pl pu q
 ·exact h' pins s σ H x v vl vu lo hi sl Q I rx hs pl pu q
def tSl (r:V->5#Int->5#Int->Hp->VK->Prop) (te:TE) (tl th:TO):TE:=λσ H Q=>te σ H λx H1=>tl σ H1 λl H2=>th σ H2 λu H3=>r x l u H3 Q
theorem Ak {r:V->5#Int->5#Int->Hp->VK->Prop} (hr:oK X r) (he:PE X e te) (hl:PO X lo tl) (hu:PO X hi th):PE X (.Subscript e (.Slice lo hi none p2) pos) (tSl r te tl th):=by
 intro pins s σ H Q I h;refine Subscript_ (az (he pins s σ H _ I h) λv s1 z902=> ?_);let⟨x,H1,I1,r1,q1⟩:=z902;refine wpAny_Slice (az (hl pins s1 σ H1 _ I1 q1) λvl s2 zq8=> ?_);let⟨l,H2,I2,pl,q2⟩:=zq8;refine az (hu pins s2 σ H2 _ I2 q2) λvu s3 zq9=> ?_;let⟨u,H3,I3,pu,q3⟩:=zq9;rw[evalPart_none];refine aaf ?_;have I4:Inv X pins σ H3 {s3 with heap:=s3.heap.push {cls:= .type "slice",data:= .fields #[vl,vu, .none]}}:=I3.kept (t':=s3.toks) λb ob q=>aad _ q;let⟨T,id,hT,ht,hg⟩:=hr pins {s3 with heap:=s3.heap.push {cls:= .type "slice",data:= .fields #[vl,vu, .none]}} σ H3 x v vl vu l u s3.heap.objs.size Q I4 r1 (Heap.IsSliceOf.new ..) pl pu q3;show wpAny 8#3 X.A (subscriptTail e (.Slice lo hi none p2) v 3#s3.heap.objs.size) (EP X pins σ Q) X.xe {s3 with heap:=s3.heap.push {cls:= .type "slice",data:= .fields #[vl,vu, .none]}};exact tail_any (ops:=[3#s3.heap.objs.size,v]) ht hT hg (by with_unfolding_all rfl)
def kc (xs:2#V) (lo hi:5#Int):2#V:=(xs.drop (HT.aU 0#xs 0 lo)).take (HT.aU 0#xs 0#xs hi-HT.aU 0#xs 0 lo)
theorem kN (xs:2#V) (lo hi:5#Int):0#(kc xs lo hi)<=0#xs:=by
 unfold kc;rw[abc,acw];lia
def KG (K:8#4):V->5#Int->5#Int->Hp->VK->Prop:=λx lo hi H Q=>∃a xs,x= 3#a/\dg K H a xs/\
 ¬(HT.aU 0#xs 0 lo=0/\HT.aU 0#xs 0#xs hi=0#xs)/\∀p,H p=none->Q 3#p (upd H p (.tup (kc xs lo hi)))
theorem Gn:oK X (KG X.K):=by
 intro pins s σ H x v vl vu lo hi sl Q I rx hs pl pu h;let⟨a,xs,rfl,hx,hw,q⟩:=h;cases rx;let⟨its,r,ht,hz⟩:=I.tuple hx
 have hlen:its.toArray.size=0#xs:=by rw[aaj];exact r.length.symm
 refine⟨"tuple",_,acC.lookup,ht.typeIs, ?_⟩;refine HT.kM ht hs pl pu (by rw[hlen];exact hw) ?_ (by rw[hlen];exact hz);rw[hlen];refine⟨3#s.heap.objs.size,_,I.laid (t':=s.toks) (o:= .tup (kc xs lo hi)) (λb ob q=>aad _ q) (aah _) ?_,rfl,q _ (I.ah.fresh (aah _))⟩;exact⟨aaT (kN xs lo hi) hz,_,(r.drop (HT.aU 0#xs 0 lo)).take (HT.aU 0#xs 0#xs hi-HT.aU 0#xs 0 lo),IsTup.new _ _⟩
def Il (K:8#4):R2:=λx y H Q=>∃a b xs ys,x= 3#a/\y= 3#b/\dg K H a xs/\dg K H b ys/\xs≠[]/\0#xs+0#ys<=sizeLine/\
 (ys=[]->Q 3#a H)/\(ys≠[]->∀p,H p=none->Q 3#p (upd H p (.tup (xs++ys))))
theorem Vals.ou {xs:2#V} {us:2#Value} (r:Vals xs us):us=[]↔xs=[]:=by
 cases r with
 |nil=>simp
 |cons _ _=>simp
theorem Ez:aJ X (binaryOp .Add) (Il X.K):=by
 intro pins s σ H x y v u Q I rx ry h;let⟨a,b,xs,ys,rfl,rfl,ha,hb,hx,hz,q1,q2⟩:=h;cases rx;cases ry;let⟨its,r1,p1,_⟩:=I.tuple ha;let⟨its2,r2,p2,_⟩:=I.tuple hb;refine HT.Eg p1 p2 (λz=>hx (r1.ou.mp z)) (λz=>⟨3#a,H,I,rfl,q1 (r2.ou.mp z)⟩) (λz=> ?_) (by rw[←0#r1,←0#r2];exact hz);refine⟨3#s.heap.objs.size,_,I.laid (t':=s.toks) (o:= .tup (xs++ys)) (λb ob q=>aad _ q) (aah _) ?_,rfl,q2 (λw=>z (r2.ou.mpr w)) _ (I.ah.fresh (aah _))⟩;exact⟨by rw[aaL];exact hz,_,r1.append r2,IsTup.new _ _⟩
end
noncomputable def vg (n:Nat) (i:Int):5#Nat:=if 0<=i then (if i<n then 1#i.toNat else none) else if-(n:Int)<=i then 1#(i+n).toNat else none
def oX {α:Type} (xs:2#α) (i:Int):5#α:=(vg 0#xs i).bind λj=>xs[j]?
theorem uL {n:Nat} {i:Int} {j:Nat} (h:vg n i=1#j):seqIndex? i n=1#j/\j<n/\ -(n:Int)<=i/\i<n:=by
 unfold vg at h
 by_cases h0:0<=i
 ·rw[if_pos h0] at h
  by_cases h1:i<n
  ·rw[if_pos h1] at h;have e:i.toNat=j:=Option.some.inj h;exact⟨by rw[seqIndex_of h0 h1,e],by lia,by lia,h1⟩
  ·rw[if_neg h1] at h;cases h
 ·rw[if_neg h0] at h
  by_cases h1: -(n:Int)<=i
  ·rw[if_pos h1] at h;have e:(i+n).toNat=j:=Option.some.inj h;exact⟨by rw[seqIndex_neg 8#0 h1,e],by lia,h1,by lia⟩
  ·rw[if_neg h1] at h;cases h
theorem oB {α:Type} {xs:2#α} {i:Int} {v:α} (h:oX xs i=1#v):∃j,seqIndex? i 0#xs=1#j/\xs[j]?=1#v/\j<0#xs/\ -(0#xs:Int)<=i/\i<0#xs:=by
 unfold oX at h
 cases e:vg 0#xs i with
 |none=>rw[e] at h;cases h
 |some j=>
  rw[e] at h;let⟨h1,h2,h3,h4⟩:=uL e;exact⟨j,h1,h,h2,h3,h4⟩
def nS (b:Expr):Prop:=∀o i,subscripted b false o i=operate [o,i] (getItem o i)
def k7 (X:Cx) (r:R2):Prop:=
 ∀(value slice:Expr) (pins:8#7) (s:9#4) (σ:St) (H:Hp) (x y:V) (v u:Value) (Q:VK),Inv X pins σ H s->RelV x v->RelV y u->r x y H Q->
  subscripted slice false v u=operate [v,u] (getItem v u)->wpAny 8#3 X.A (subscriptTail value slice v u) (EP X pins σ Q) X.xe s
def rF (X:Cx) (id:String) (r:V->2#V->Hp->VK->Prop):Prop:=
 ∀(pins:8#7) (s:9#4) (σ:St) (H:Hp) (x:V) (xs:2#V) (v:Value) (us:2#Value) (Q:VK),Inv X pins σ H s->RelV x v->Vals xs us->r x xs H Q->
  wpAny 8#3 X.A (call (.builtin id) (v::us)) (EP X pins σ Q) X.xe s
section
variable {X:Cx} {a b:Expr} {ta tb:TE} {pos:Pos}
theorem k7.or {r r':R2} (h:k7 X r) (h':k7 X r'):k7 X (λx y H Q=>r x y H Q∨r' x y H Q):=by
 intro value slice pins s σ H x y v u Q I rx ry q hs
 rcases q with q|q
 ·exact h value slice pins s σ H x y v u Q I rx ry q hs
 ·exact h' value slice pins s σ H x y v u Q I rx ry q hs
theorem Iq {r:R2} (hr:k7 X r) (ha:PE X a ta) (hb:PE X b tb) (hs:nS b):PE X (.Subscript a b pos) (Cc r ta tb):=by
 intro pins s σ H Q I h;exact Subscript_ (Ai ha hb I h λv u s2 x y H2 I2 rx ry q=>hr a b pins s2 σ H2 x y v u Q I2 rx ry q (hs _ _))
def EJ (K:8#4):R2:=λx y H Q=>∃p xs i v,x= 3#p/\y= 6#i/\bN K H p xs/\oX xs i=1#v/\Q v H
def Fb (K:8#4):R2:=λx y H Q=>∃p xs i v,x= 3#p/\y= 6#i/\dg K H p xs/\oX xs i=1#v/\Q v H
def F2:R2:=λx y H Q=>∃z i c,x= .str z/\y= 6#i/\0#z<=sizeLine/\oX z.cps.toList i=1#c/\Q (.str ⟨#[c]⟩) H
theorem DE:k7 X (EJ X.K):=by
 intro value slice pins s σ H x y v u Q I rx ry h hs;let⟨p,xs,i,z,rfl,rfl,hq,he,q⟩:=h;cases rx;let⟨t,rfl⟩:=ry;let⟨its,r,pl,hz⟩:=I.list hq;let⟨j,h1,h2,h3,h4,h5⟩:=oB he;let⟨w,ew,rw'⟩:=r.get h2;have hl:=0#r;have hn:=gA;have fin:EP X pins σ Q w s:=⟨z,H,I,rw',q⟩
 by_cases h0:0<=i
 ·have hj:i.toNat=j:=by
   rw[seqIndex_of h0 h5] at h1;exact Option.some.inj h1
  exact item_listR pl.isList h0 8#0 (by rw[hj];simpa using ew) fin hs
 ·have hj:(i+(its.toArray.size:Int)).toNat=j:=by
   rw[seqIndex_neg 8#0 h4] at h1;rw[aaj,←hl];exact Option.some.inj h1
  exact subscriptTail_builtinR (x:=w) pl.isList.typeIs slot_list_getitem.lookup
   (wpAny_getItem_list_neg (Q:=λr s'=>r=w/\EP X pins σ Q r s') pl.isList 8#0 (by rw[aaj]<;>lia) 8#0 (by rw[hj];simpa using ew) ⟨rfl,fin⟩) hs
theorem EU:k7 X (Fb X.K):=by
 intro value slice pins s σ H x y v u Q I rx ry h hs;let⟨p,xs,i,z,rfl,rfl,hq,he,q⟩:=h;cases rx;let⟨t,rfl⟩:=ry;let⟨its,r,pl,hz⟩:=I.tuple hq;let⟨j,h1,h2,h3,h4,h5⟩:=oB he;let⟨w,ew,rw'⟩:=r.get h2;have hl:=0#r;have hn:=gA;have fin:EP X pins σ Q w s:=⟨z,H,I,rw',q⟩
 exact subscriptTail_builtinR (x:=w) pl.typeIs slot_tuple_getitem.lookup
  (getItem_tuple (j:=j) (Q:=λr s'=>r=w/\EP X pins σ Q r s') pl 8#0 8#0 (by rw[aaj,←hl];exact h1) (by simpa using ew) ⟨rfl,fin⟩) hs
theorem GZ:k7 X F2:=by
 intro value slice pins s σ H x y v u Q I rx ry h hs;let⟨z,i,c,rfl,rfl,hz,he,q⟩:=h;let⟨t,rfl⟩:=rx;let⟨t',rfl⟩:=ry;let⟨j,h1,h2,h3,h4,h5⟩:=oB he
 have hl:0#z.cps.toList=0#z:=by simp[Str.length]
 rw[hl] at h1 h4 h5;have hn:=gA
 exact tail_any (typeIs_str s z t) slot_str_getitem.lookup (getItem_str (c:=c) (by
  have e1:decide (i< -(2^63:Int))=false:=aaB 8#0;have e2:decide (i≥2^63)=false:=aaB 8#0
  rw[e1,e2,Bool.or_false]) (by rw[h1];simpa using h2) ⟨.str ⟨#[c]⟩,H,I.tok _,⟨_,rfl⟩,q⟩) hs
def rIx (K:8#4):R2:=λx y H Q=>EJ K x y H Q∨Fb K x y H Q∨F2 x y H Q
theorem G7:k7 X (rIx X.K):=DE.or (EU.or GZ)
theorem xt (its:2#Value) (n j:Nat) (u:Value):Obj.mapSeq (·.setIfInBounds j u) {cls:= .type "list",data:= .seq its.toArray n}={cls:= .type "list",data:= .seq (its.set j u).toArray n}:=by
 simp[Obj.mapSeq]
theorem Inv.lst {pins:8#7} {σ:St} {H:Hp} {s:9#4} {p:Addr} {xs:2#V} (I:8#1) (h:H p=1#7#xs):
  ∃(its:2#Value) (n:Nat),Vals xs its/\s.heap.get? p=some {cls:= .type "list",data:= .seq its.toArray n}/\0#xs<=sizeLine:=by
 let⟨z,its,n,r,e⟩:=I.ah p _ h;exact⟨its,n,r,e,z⟩
theorem Inv.Fe {σ:St} {H:Hp} {s:9#4} {p:Addr} {xs ys:2#V} {its its':2#Value} {n n':Nat} {f:Obj->Obj} (I:8#1) (h:H p=1#7#xs)
  (ho:s.heap.get? p=some {cls:= .type "list",data:= .seq its.toArray n}) (hf:f {cls:= .type "list",data:= .seq its.toArray n}={cls:= .type "list",data:= .seq its'.toArray n'}) (r:Vals ys its') (hz:0#ys<=sizeLine) (t:Nat):
  Inv X pins σ (upd H p 7#ys) {s with heap:=s.heap.update p f,toks:=t}:=by
 have e:(s.heap.update p f).get? p=some {cls:= .type "list",data:= .seq its'.toArray n'}:=by
  rw[abq f ho (by rw[hf]<;>rfl),hf]
 refine I.write (x:=p) (e:=p) (by rw[h];trivial) (.inl rfl) (λb u hb q=>(aa8 _ _ (Ne.symm hb)).trans q) ⟨_,e⟩ ?_;exact⟨hz,its',n',r,e⟩
def JE:V->V->V->Hp->(Hp->Prop)->Prop:=λo i v H Q=>∃p xs k j,o= 3#p/\i= 6#k/\H p=1#7#xs/\vg 0#xs k=1#j/\Q (upd H p 7#(xs.set j v))
theorem set_list:jF X JE:=by
 intro pins s σ H o i v ov iv u Q I ro ri rv h;let⟨p,xs,k,j,rfl,rfl,hp,hj,q⟩:=h;cases ro;let⟨t,rfl⟩:=ri;let⟨its,n,r,ho,hz⟩:=I.lst hp;let⟨h1,h2,h3,h4⟩:=uL hj;have hl:=0#r;have hn:=gA
 have I':Inv X pins σ (upd H p 7#(xs.set j v)) {s with heap:=s.heap.update p (Obj.mapSeq (·.setIfInBounds j u))}:=
  I.Fe hp ho (xt its n j u) (r.set rv j) (by rw[List.length_set];exact hz) s.toks
 by_cases h0:0<=k
 ·have hk:k.toNat=j:=by
   rw[seqIndex_of h0 h4] at h1;exact Option.some.inj h1
  exact PySem.W.ki_setAt ho h0 8#0 (by rw[aaj,←hl];exact h4) (by rw[hk];exact⟨_,I',q⟩)
 ·have hk:(k+(its.toArray.size:Int)).toNat=j:=by
   rw[seqIndex_neg 8#0 h3] at h1;rw[aaj,←hl];exact Option.some.inj h1
  exact PySem.W.ki_setBack ho 8#0 (by rw[aaj,←hl];exact h3) 8#0 (by rw[hk];exact⟨_,I',q⟩)
theorem tB (lo hi:5#Int) (n:Nat):(sliceBounds lo hi none n).1=((HT.aU n 0 lo:Nat):Int)/\(sliceBounds lo hi none n).2.1=((HT.aU n n hi:Nat):Int)/\(sliceBounds lo hi none n).2.2=1:=by
 refine⟨?_, ?_,rfl⟩
 ·cases lo with
  |none=>simp[sliceBounds,HT.aU]
  |some i=>
   simp only[sliceBounds,HT.aU,Option.getD_none,show (1:Int)>0 by decide,abX]
   by_cases h:i<0
   ·simp only[h,abX]<;>lia
   ·simp only[h,abR]<;>lia
 ·cases hi with
  |none=>simp[sliceBounds,HT.aU]
  |some i=>
   simp only[sliceBounds,HT.aU,Option.getD_none,show (1:Int)>0 by decide,abX]
   by_cases h:i<0
   ·simp only[h,abX]<;>lia
   ·simp only[h,abR]<;>lia
theorem qe (its:2#Value) (lo hi:5#Int):slicePick its.toArray lo hi none=((its.drop (HT.aU 0#its 0 lo)).take (HT.aU 0#its 0#its hi-HT.aU 0#its 0 lo)).toArray:=by
 let⟨h1,h2,h3⟩:=tB lo hi its.toArray.size;unfold slicePick;rw[h1,h2,h3];simp only[sliceRange_one,pick_run,aaj]<;>rfl
def La (K:8#4):V->5#Int->5#Int->Hp->VK->Prop:=λx lo hi H Q=>∃a xs,x= 3#a/\bN K H a xs/\∀p,H p=none->Q 3#p (upd H p 7#(kc xs lo hi))
theorem Du:oK X (La X.K):=by
 intro pins s σ H x v vl vu lo hi sl Q I rx hs pl pu h;let⟨a,xs,rfl,hx,q⟩:=h;cases rx;let⟨its,r,ht,hz⟩:=I.list hx;have hlen:=0#r;refine⟨"list",_,slot_list_getitem.lookup,ht.isList.typeIs, ?_⟩;refine wpAny_getItem_list_slice ht.isList hs pl pu .none 8#5 ?_ (by rw[aaj]<;>lia);rw[qe,←hlen];refine⟨3#s.heap.objs.size,_,I.laid (t':=s.toks) (o:= 7#(kc xs lo hi)) (λb ob q=>aad _ q) (aah _) ?_,rfl,q _ (I.ah.fresh (aah _))⟩;exact⟨aaT (kN xs lo hi) hz,_,0,(r.drop (HT.aU 0#xs 0 lo)).take (HT.aU 0#xs 0#xs hi-HT.aU 0#xs 0 lo),aak _ rfl⟩
noncomputable def CF:V->Bool
 | .non=>true
 | .bl _=>true
 | .int _=>true
 | .str _=>true
 |_=>false
noncomputable def HM:V->V->Bool
 | .non, .non=>true
 | .bl a, .bl b=>a==b
 | .bl a, 6#b=>(if a then 1 else 0)==b
 | .int a, .bl b=>a==(if b then 1 else 0)
 | .int a, 6#b=>a==b
 | .str a, .str b=>a==b
 |_,_=>false
theorem j6 {A:Around} {s:9#4} {y x:V} {u v:Value} (ry:RelV y u) (rx:RelV x v) (fy:CF y=true) (fx:CF x=true):SeqAt.EqAt A s u v (HM y x):=by
 cases y with
 |non=>
  cases ry
  cases x with
  |non=>cases rx;exact SeqAt.EqAt.same _
  |bl b=>cases rx;exact SeqAt.EqAt.none_bool b
  |int b=>let⟨t,rfl⟩:=rx;exact SeqAt.EqAt.none_int b t
  |str b=>let⟨t,rfl⟩:=rx;exact SeqAt.EqAt.none_str b t
  |_=>exact absurd (show false=true from fx) aaF
 |bl a=>
  cases ry
  cases x with
  |non=>cases rx;exact SeqAt.EqAt.bool_none a
  |bl b=>cases rx;exact SeqAt.EqAt.bool_bool a b
  |int b=>let⟨t,rfl⟩:=rx;exact SeqAt.EqAt.bool_int a b t
  |str b=>let⟨t,rfl⟩:=rx;exact SeqAt.EqAt.bool_str a b t
  |_=>exact absurd (show false=true from fx) aaF
 |int a=>
  let⟨t',rfl⟩:=ry
  cases x with
  |non=>cases rx;exact SeqAt.EqAt.int_none a t'
  |bl b=>cases rx;exact SeqAt.EqAt.int_bool a t' b
  |int b=>let⟨t,rfl⟩:=rx;exact SeqAt.EqAt.int_int a t' b t
  |str b=>let⟨t,rfl⟩:=rx;exact SeqAt.EqAt.int_str a t' b t
  |_=>exact absurd (show false=true from fx) aaF
 |str a=>
  let⟨t',rfl⟩:=ry
  cases x with
  |non=>cases rx;exact SeqAt.EqAt.str_none a t'
  |bl b=>cases rx;exact SeqAt.EqAt.str_bool a t' b
  |int b=>let⟨t,rfl⟩:=rx;exact SeqAt.EqAt.str_int a t' b t
  |str b=>let⟨t,rfl⟩:=rx;exact SeqAt.EqAt.str_str a t' b t
  |_=>exact absurd (show false=true from fx) aaF
 |_=>exact absurd (show false=true from fy) aaF
def vW (x:V) (xs:2#V):Bool:=xs.any λy=>HM y x
theorem rA:aC X (.builtin "len") (λxs H Q=>∃p ys,xs=[3#p]/\(bN X.K H p ys∨dg X.K H p ys)/\Q 6#0#ys H):=by
 intro pins s σ H xs us Q I r h;let⟨p,ys,rfl,hq,q⟩:=h;let⟨u,rfl,rx⟩:=vals1 r;cases rx;have hn:=gA
 rcases hq with hq|hq
 ·let⟨its,r',pl,hz⟩:=I.list hq;have hlen:=0#r';exact Calls.call_len_list pl.isList (by simp only[aaj]<;>lia) ⟨6#0#ys,H,I.tok _,⟨s.toks+1,by rw[aaj,hlen]⟩,q⟩
 ·let⟨its,r',pl,hz⟩:=I.tuple hq;have hlen:=0#r';exact len_tuple pl (by simp only[aaj]<;>lia) ⟨6#0#ys,H,I.tok _,⟨s.toks+1,by rw[aaj,hlen]⟩,q⟩
theorem sM:aC X (.builtin "len") (λxs H Q=>∃z,xs=[.str z]/\0#z<=sizeLine/\Q 6#0#z H):=by
 intro pins s σ H xs us Q I r h;let⟨z,rfl,hz,q⟩:=h;let⟨u,rfl,t,rfl⟩:=vals1 r;have hn:=gA;exact len_str 8#0 ⟨6#0#z,H,I.tok _,⟨_,rfl⟩,q⟩
theorem aC.or {f:Value} {r r':2#V->Hp->VK->Prop} (h:aC X f r) (h':aC X f r'):aC X f (λxs H Q=>r xs H Q∨r' xs H Q):=by
 intro pins s σ H xs us Q I rs q
 rcases q with q|q
 ·exact h pins s σ H xs us Q I rs q
 ·exact h' pins s σ H xs us Q I rs q
theorem se:aC X (.type "list") (λxs H Q=>∃p ys,xs=[3#p]/\(bN X.K H p ys∨dg X.K H p ys)/\∀l,H l=none->Q 3#l (upd H l 7#ys)):=by
 intro pins s σ H xs us Q I r h;let⟨p,ys,rfl,hq,q⟩:=h;let⟨u,rfl,rx⟩:=vals1 r;cases rx
 have fin:∀(its:2#Value),Vals ys its->0#ys<=sizeLine->∀(h':Heap) (c':Nat),(∀b o',s.heap.get? b=1#o'->h'.get? b=1#o')->
   h'.get? s.heap.objs.size=some {cls:= .type "list",dict:=none,data:= .seq its.toArray c',slots:=#[]}->EP X pins σ Q 3#s.heap.objs.size {s with heap:=h'}:=λits r' hz h' c' kp e=>
  ⟨3#s.heap.objs.size,_,I.laid (t':=s.toks) kp (aah _) (show aQ X.prog X.w _ h' _ 7#ys from ⟨hz,its,c',r',e⟩),rfl,q _ (I.ah.fresh (aah _))⟩
 rcases hq with hq|hq
 ·let⟨its,r',pl,hz⟩:=I.list hq;have hlen:=0#r';let⟨o,ho,hc,n,hd⟩:=pl.isList;exact call_list_seq p (.inl rfl) ho hc hd (λh' c' kp e=>fin its r' hz h' c' kp e) (by simp only[aaj]<;>lia)
 ·let⟨its,r',pl,hz⟩:=I.tuple hq;have hlen:=0#r';let⟨o,ho,hc,n,hd⟩:=pl;exact call_list_seq p (.inr rfl) ho hc hd (λh' c' kp e=>fin its r' hz h' c' kp e) (by simp only[aaj]<;>lia)
theorem p7:aC X (.type "tuple") (λxs H Q=>∃p ys,xs=[3#p]/\((bN X.K H p ys/\∀l,H l=none->Q 3#l (upd H l (.tup ys)))∨(dg X.K H p ys/\Q 3#p H))):=by
 intro pins s σ H xs us Q I r h;let⟨p,ys,rfl,h⟩:=h;let⟨u,rfl,rx⟩:=vals1 r;cases rx
 rcases h with⟨hq,q⟩|⟨hq,q⟩
 ·let⟨its,r',pl,hz⟩:=I.list hq;have hlen:=0#r';refine call_tuple_list pl.isList (λh' kp=> ?_) (by simp only[aaj]<;>lia);have I1:Inv X pins σ H {s with heap:=h'}:=I.kept (t':=s.toks) kp
  have I2:Inv X pins σ (upd H h'.objs.size (.tup ys)) {s with heap:=h'.push {cls:= .type "tuple",data:= .seq its.toArray}}:=
   I1.laid (t':=s.toks) (λb o e=>aad _ e) (aah _) (show aQ X.prog X.w _ _ _ (.tup ys) from ⟨hz,its,r',IsTup.new _ _⟩)
  exact⟨3#h'.objs.size,_,I2,rfl,q _ (I1.ah.fresh (aah _))⟩
 ·let⟨its,r',pl,hz⟩:=I.tuple hq;exact call_tuple_same pl ⟨3#p,H,I,rfl,q⟩
def GQ (K:8#4) (T:String) (x:V) (H:Hp):Prop:=match x with
 | .str _=>T="str"
 | .int _=>T="int"
 | .ref p=>(T="list"/\∃xs,bN K H p xs)∨(T="tuple"/\∃o,K.lookup p=1#o/\o.cls= .type "tuple"/\o.dict=none)∨
   (T="dict"/\((∃kvs,H p=1#(.dK kvs))∨∃kvs,H p=1#(.dT kvs)))∨(T="set"/\∃S n,H p=1#(.set S n))
 |_=>False
theorem yj {σ:St} {H:Hp} {s:9#4} {T:String} {x:V} {v:Value} (I:8#1) (r:RelV x v) (ty:GQ X.K T x H):
  s.TypeIs v T/\∀a,v= 3#a->∃ob,s.heap.get? a=1#ob/\ob.dict=none:=by
 cases x with
 |str z=>
  let⟨t,rfl⟩:=r;cases (show T="str" from ty);exact⟨typeIs_str s z t,λ_ e=>nomatch e⟩
 |int i=>
  let⟨t,rfl⟩:=r;cases (show T="int" from ty);exact⟨typeIs_int s i t,λ_ e=>nomatch e⟩
 |ref p=>
  cases r
  rcases ty with⟨rfl,xs,hq⟩|⟨rfl,o,hk,hc,hd⟩|⟨rfl,hk⟩|⟨rfl,S,n,hk⟩
  ·let⟨its,_,pl,_⟩:=I.list hq;refine⟨pl.isList.typeIs,λa e=> ?_⟩;cases e;let⟨o,n,e,c,hd,_⟩:=pl;exact⟨o,e,hd⟩
  ·refine⟨⟨o,I.bQ p o hk,hc⟩,λa e=> ?_⟩;cases e;exact⟨o,I.bQ _ o hk,hd⟩
  ·have z:∃o,s.heap.get? p=1#o/\o.ExactDict:=by
    rcases hk with⟨kvs,hk⟩|⟨kvs,hk⟩
    ·let⟨_,_,_,_,o,_,_,e,ex,_⟩:=I.ah p _ hk;exact⟨o,e,ex⟩
    ·let⟨_,_,_,_,o,_,_,e,ex,_⟩:=I.ah p _ hk;exact⟨o,e,ex⟩
   let⟨o,e,ex⟩:=z;refine⟨⟨o,e,ex.1⟩,λa e2=> ?_⟩;cases e2;exact⟨o,e,ex.2.1⟩
  ·let⟨o,_,_,_,e,ex,_⟩:=I.ah p _ hk;refine⟨⟨o,e,ex.1⟩,λa e2=> ?_⟩;cases e2;exact⟨o,e,ex.2.1⟩
 |_=>exact False.elim ty
def Lf (K:8#4) (T:String) (r:V->2#V->Hp->VK->Prop) (to:TE):TE:=λσ H Q=>to σ H λx H1=>GQ K T x H1/\r x [] H1 Q
def tBM (K:8#4) (T:String) (r:V->2#V->Hp->VK->Prop) (to:TE) (t:TA):TE:=λσ H Q=>to σ H λx H1=>GQ K T x H1/\t σ H1 λxs H2=>r x xs H2 Q
variable {o e:Expr} {es:2#Expr} {to:TE} {t:TA} {name:Str} {apos cpos:Pos} {T id:String} {r:V->2#V->Hp->VK->Prop}
theorem HB (pa:PlainAttrs T) (slot:Slot T name id) (hty:typeOf (.builtin id)=pure (.type "method_descriptor")) (hm:rF X id r) (ho:PE X o to)
  (hbase:attributeBase o name X.env (eval o X.env)=eval o X.env:=by rfl) (hline:(apos.endLine==cpos.line)=true:=by rfl):PE X (.Call (.Attribute o name apos) [] [] cpos) (Lf X.K T r to):=by
 intro pins s σ H Q I h;refine wpAny_Call_method0_late hbase hline (az (ho pins s σ H _ I h) λv s1 z902=> ?_);let⟨x,H1,I1,r1,ty,q1⟩:=z902;let⟨h1,h2⟩:=yj I1 r1 ty;exact⟨T,id,pa,slot,hty,h1,h2,ab0 rfl (PySem.evalArgs_none (hm pins s1 σ H1 x [] v [] Q I1 r1 .nil q1))⟩
theorem Ij (pa:PlainAttrs T) (slot:Slot T name id) (hty:typeOf (.builtin id)=pure (.type "method_descriptor")) (hm:rF X id r) (ho:PE X o to) (ha:PA X (e::es) t)
  (hbase:attributeBase o name X.env (eval o X.env)=eval o X.env:=by rfl)
  (hfew:((backTo cpos (starEach (e::es) X.env)).all (λx=> !x.1)&&(backToKw cpos (keywordEach [] X.env)).all (λx=>x.1.isSome)
   &&decide (0#(e::es)+0#([]:2#Keyword)+(if ([]:2#Keyword).isEmpty then 0 else 1)<30))=true:=by rfl)
  (hline:(apos.endLine==cpos.line)=true:=by rfl) (hs:starEach (e::es) X.env=(false,eval e X.env)::starEach es X.env:=by rfl) (hplain:(backTo cpos (starEach es X.env)).any (·.1)=false:=by rfl):
  PE X (.Call (.Attribute o name apos) (e::es) [] cpos) (tBM X.K T r to t):=by
 intro pins s σ H Q I h;refine wpAny_Call_method_late hbase hfew hline rfl (az (ho pins s σ H _ I h) λv s1 z902=> ?_);let⟨x,H1,I1,r1,ty,q1⟩:=z902;let⟨h1,h2⟩:=yj I1 r1 ty;refine⟨T,id,pa,slot,hty,h1,h2, ?_⟩;have hA:=ha cpos pins s1 σ H1 _ I1 q1;rw[hs] at hA⊢;refine ab0 (by show (false||(backTo cpos (starEach es X.env)).any (·.1))=false;rw[hplain]<;>rfl) (acD ?_)
 exact az hA λus s2 z902=>by let⟨vs,H2,I2,r2,q2⟩:=z902;exact hm pins s2 σ H2 x vs v us Q I2 r1 r2 q2
end
def MtM (X:Cx) (id:String) (r:V->2#V->Hp->VK->Prop):Prop:=
 ∀(pins:8#7) (s:9#4) (σ:St) (H:Hp) (x:V) (xs:2#V) (v:Value) (us:2#Value) (Q:VK),Inv X pins σ H s->RelV x v->Vals xs us->r x xs H Q->
  wpAny 8#3 X.A (call (.builtin id) (v::us)) (EP X pins σ Q) X.xe s
theorem Vals.one:∀{x:V} {us:2#Value},Vals [x] us->∃u,us=[u]/\RelV x u:=λh=>by
 cases h with|cons r t=>cases t;exact⟨_,rfl,r⟩
theorem Vals.two:∀{x y:V} {us:2#Value},Vals [x,y] us->∃u v,us=[u,v]/\RelV x u/\RelV y v:=λh=>by
 cases h with|cons r t=>cases t with|cons q t=>cases t;exact⟨_,_,rfl,r,q⟩
section
variable {X:Cx} {pins:8#7} {σ:St} {H:Hp} {s:9#4} {l b:Addr} {xs ys zs:2#V}
theorem Inv.xk {its its':2#Value} {n:Nat} {f:Array Value->Array Value} {t':Nat} (I:8#1) (hH:H l=1#7#xs)
  (e:s.heap.get? l=some {cls:= .type "list",data:= .seq its.toArray n}) (hf:f its.toArray=its'.toArray) (hv:Vals ys its') (hz:0#ys<=sizeLine):
  Inv X pins σ (upd H l 7#ys) {s with heap:=s.heap.update l (Obj.mapSeq f),toks:=t'}:=by
 have q:=PySem.IsL.update e f;rw[hf] at q;refine I.write (x:=l) (e:=l) (by rw[hH];exact trivial) (.inl rfl) (λb' u hb hu=>(aa8 s.heap (Obj.mapSeq f) (Ne.symm hb)).trans hu) ⟨_,q⟩ ?_;exact⟨hz,its',_,hv,q⟩
theorem Inv.L5 {its:2#Value} {t':Nat} (I:8#1) (hv:Vals ys its) (hz:0#ys<=sizeLine):
  Inv X pins σ (upd H s.heap.objs.size 7#ys) {s with heap:=s.heap.push {cls:= .type "list",data:= .seq its.toArray},toks:=t'}:=
 I.laid (λ_ _ q=>aad _ q) (aah _) ⟨hz,its,0,hv,aak _ rfl⟩
theorem Inv.fresh (I:8#1):H s.heap.objs.size=none:=I.ah.fresh (aah _)
theorem Inv.lP (I:8#1) (hH:H l=1#7#xs):0#xs<=sizeLine/\∃(its:2#Value) (n:Nat),Vals xs its/\0#xs=0#its/\s.heap.get? l=some {cls:= .type "list",data:= .seq its.toArray n}:=by
 let⟨z,its,n,r,e⟩:=I.ah l _ hH;exact⟨z,its,n,r,0#r,e⟩
theorem BS {n:Nat} (h:n<=sizeLine):Builtin.List.listTooLong n=false:=by
 unfold Builtin.List.listTooLong;exact aaB 8#0
end
section
variable {X:Cx}
def Dn:V->2#V->Hp->VK->Prop:=λx vs H Q=>∃l xs y,x= 3#l/\vs=[y]/\H l=1#7#xs/\0#xs<sizeLine/\Q .non (upd H l 7#(xs++[y]))
theorem oQ:MtM X "list.append" Dn:=by
 intro pins s σ H x vs v us Q I rx rv h;let⟨l,xs,y,rfl,rfl,hH,hz,q⟩:=h;cases rx;let⟨u,rfl,ru⟩:=rv.one;let⟨z,its,n,r,hl,e⟩:=I.lP hH;refine call_meets F.slot_list_append ⟨_,e,rfl⟩ F.entry_list_append (F.args_list_append_2 _ _) (PySem.list_append l its.toArray n u (by rw[aaj];lia)) ⟨e, ?_⟩;refine⟨.non,_,I.xk (its':=its++[u]) hH e 8#5 (r.append (.cons ru .nil)) ?_,rfl,q⟩;rw[aaL,ab3];lia
def C4:V->2#V->Hp->VK->Prop:=λx vs H Q=>∃l b xs zs,x= 3#l/\vs=[3#b]/\H l=1#7#xs/\H b=1#7#zs/\0#xs+0#zs<=sizeLine/\Q .non (upd H l 7#(xs++zs))
theorem xV:MtM X "list.extend" C4:=by
 intro pins s σ H x vs v us Q I rx rv h;let⟨l,b,xs,zs,rfl,rfl,hH,hB,hz,q⟩:=h;cases rx;let⟨u,rfl,ru⟩:=rv.one;cases ru;let⟨z,its,n,r,hl,e⟩:=I.lP hH;let⟨z2,its2,n2,r2,hl2,e2⟩:=I.lP hB
 have hsz:its.toArray.size+its2.toArray.size<=sizeLine:=by rw[aaj,aaj];lia
 have hlong:¬(!its.toArray.isEmpty&&Builtin.List.listTooLong (its.toArray.size+its2.toArray.size))=true:=by
  rw[BS hsz,acP];exact aaF
 refine call_meets F.slot_list_extend ⟨_,e,rfl⟩ F.entry_list_extend (F.args_list_extend_2 _ _)
  (AutoSeq1.list_extend_list_list_0 l its.toArray n b its2.toArray n2 hlong (by rw[aaj];lia) 8#0) ⟨e,e2, ?_⟩
 refine⟨.non,_,I.xk (its':=its++its2) hH e 8#5 (r.append r2) ?_,rfl,q⟩;rw[aaL];lia
end
section
variable {prog:Program} {w:World} {A:Around} {E:8#2} {s:9#4}
end
section
variable {X:Cx}
end
end L2
namespace Att
open PySem PySem.W PySem.Calls PyProof.Rows
theorem nN {P:9#9}:∀(ns:2#Int) (vs:2#Value),WellAll P h vs (ns.map WData.int)->IntsAre vs ns:=by
 intro ns
 induction ns with
 |nil=>
  intro vs w;rw[List.map_nil] at w;cases w;exact .nil
 |cons n ns ih=>
  intro vs w;rw[aas] at w
  cases w with
  |cons a b=>
   cases a;exact .cons _ _ (ih _ b)
theorem zR {l:OpenLaw} {n:Nat} (hn:l.most=1#n) {P:9#9} {h:Heap} {args:2#WData} {vals:2#Value}
  (hpre:l.row.toRowW.claim.pre args=true) (hwl:WellAll P h vals args):
  ∃a vs ns,vals=[Value.ref a]/\args=[WData.list (ns.map WData.int)]/\h.get? a=some {cls:= .type "list",data:= .seq vs.toArray}/\IntsAre vs ns/\0#ns<=n:=by
 have hsh:WShape.hasAll [] args [.list .int]=true:=(pre_splitW hpre).1;have hc:l.pre.holds [] {args:=args}=true:=(pre_splitW hpre).2;let⟨d,r,rfl,h1,h2⟩:=hasAllW_cons hsh;obtain rfl:=hasAllW_nil h2;let⟨xs,rfl,h3⟩:=hasW_list h1;let⟨ns,rfl⟩:=items_int h3
 have hlen:0#ns<=n:=by
  unfold OpenLaw.pre at hc
  have h4:(WTm.not (.lt (.lit 6#(n:Int)) (.len (.arg 0)))).holds [] {args:=[.list (ns.map .int)]}=true:=by
   have h4:=(holds_andW hc).1;rw[hn] at h4;exact h4
  have h5:=condW_of h4 (w_not (w_lt w_lit (w_len_list (w_arg rfl))));rw[aaz] at h5;refine Nat.le_of_not_lt λq=> ?_
  have q':(n:Int)<((0#ns:Nat):Int):=by lia
  first
   |(rw[aaH q'] at h5;exact absurd h5 8#16)
   |(simp at h5;lia)
 cases hwl with
 |cons w1 w2=>
  cases w2
  cases w1 with
  |list ho hall=>exact⟨_,_,ns,rfl,rfl,ho,nN ns _ hall,hlen⟩
theorem yX (l:OpenLaw) (args:2#WData):l.row.toRowW.claim.post args (.bool true) args=true:=
 postW_of (r:=l.row.toRowW) (X:=(true==true))
  (show WShape.has [] (.bool true) .bool=true by first|rfl|decide|simp[WShape.has,WShape.arms,WShape.armsAll])
  (show (WTm.eq .res (.lit (.bool true))).value [] {args:=args,res:=1#(.bool true),after:=args}=1#(.bool (true==true)) from w_eq_bool (w_res rfl) w_lit) rfl
theorem uf {l:OpenLaw} {n:Nat} {q:Program} {loose:2#Str} {XP:(Str->5#Value)->Heap->Prop} {YP:World->Heap->Prop} {d:DefRec}
  (hn:l.most=1#n) (hdf:d.params.defaults=[])
  (call:∀(w:World) (s₀ s₁:9#4) (mg mb:8#23) (fa:Addr) (o:Obj) (pm cd doc:Value) (a:Addr) (vs:2#Value) (ns:2#Int),
   Ground q loose [] XP w s₀ mg mb s₁.heap->YP w s₁.heap->
   s₁.heap.get? fa=1#o->o.data= .func (docDef d.name d.params d.body d.scope pm cd doc)->s₁.heap.CodeRec cd d.name->mg d.name=1#3#fa->
   s₁.heap.get? a=some {cls:= .type "list",data:= .seq vs.toArray}->IntsAre vs ns->0#ns<=n->s₁.gens=#[]->
   codeAny (model l.prog w) callerA (.call 3#fa ⟨[3#a],[]⟩) (λr s'=>r= .ok (.ret (.bool true))/\OldK s₁.heap s'.heap/\s'.os=s₁.os/\AllBare s'.gens) s₁):
  WalkO q loose XP YP l.row.toRowW d [] (λf vs=>PySem.call f vs):=by
 intro w s₀ s₁ mg mb G Y fa o pm cd doc dV kV ho hd hcd hD hmg hg args vals as hpre hlay hrd hwl hlo;obtain rfl:dV= .none:=Dflts.none hD hdf;obtain rfl:kV= .none:=Dflts.noKw hD;let⟨a,vs,ns,rfl,rfl,hobj,hints,hlen⟩:=zR hn hpre hwl;refine enter_call (acH (call w s₀ s₁ mg mb fa o pm cd doc a vs ns G Y ho (fd_plain hd) hcd hmg hobj hints hlen hg) λr s' hq=> ?_);let⟨rfl,h2,h3,h4⟩:=hq;exact⟨.inl ⟨.bool true, .bool true,[],rfl,λ_=>rfl, .bool true,yX l _,λ_=>⟨List.Pairwise.nil,λ_ hm=>(nomatch hm)⟩⟩,h2,h3,h4⟩
section
variable {prog:Program} {w:World} {A:Around} {E:8#2} {s:9#4} {K:Frag}
end
end Att
namespace L2
open PySem PySem.Spec PyProof.Rows
theorem o6:∀{vs:2#Value} {ns:2#Int},IntsAre vs ns->Vals (ns.map V.int) vs
 |_,_, .nil=> .nil
 |_,_, .cons n t h=> .cons ⟨t,rfl⟩ (o6 h)
def BK (H:Hp):Prop:=∀b,H b=none∨∃o xs,H b=1#(.aG o 7#xs)
theorem BI {P:Program} {w:World} {K:8#4} {mg mb:8#23} {CX:kY} {k:Nat} {a:Addr} {x:Str} {sp:Sp} {s₁:9#4} {vs:2#Value} {ns:2#Int}
  (KX:K.In s₁.heap) (hns:s₁.heap.Ns mainGlobals mg) (hb:s₁.heap.Ns builtinsNs mb) (hbb:∀x:Str,x≠"__name__"->mb x=bootBuiltins x) (hlim:s₁.heap.NoLimit) (hg:s₁.gens=#[])
  (ha:s₁.heap.get? a=some {cls:= .type "list",data:= .seq vs.toArray}) (hi:IntsAre vs ns) (hl:0#ns<=sizeLine) (hr:Room k callerA)
  (F:∀base:Heap,K.In base->base.Ns mainGlobals mg->FnOk P w K mg base CX k fa fd [x] sp) (hbind:∀(s:9#4) (u:Value),BindsTo s fd ⟨[u],[]⟩ [(x,u)])
  (hsp:∀H:Hp,BK H->bN K H a (ns.map V.int)->sp [3#a] H (λv _=>v= .bl true) λ_ _ _=>False)
  (hCX:∀H e s',CX [] H s₁ (λ_ _ _=>False) e s'->False):
  codeAny (model P w) callerA (.call 3#fa ⟨[3#a],[]⟩) (λr s'=>r= .ok (.ret (.bool true))/\OldK s₁.heap s'.heap/\s'.os=s₁.os/\AllBare s'.gens) s₁:=by
 have rv:=o6 hi;have iC:=0#hi
 have core:∀H:Hp,BK H->bN K H a (ns.map V.int)->bA P w H s₁.heap->(∀b,H b≠none->b=a)->(H a≠none->K.lookup a=none)->
   codeAny (model P w) callerA (.call 3#fa ⟨[3#a],[]⟩) (λr s'=>r= .ok (.ret (.bool true))/\OldK s₁.heap s'.heap/\s'.os=s₁.os/\AllBare s'.gens) s₁:=by
  intro H hO hS ah hA hK;have base_of:∀{b:Addr} {o:Obj},s₁.heap.get? b=1#o->H b=none->(jk s₁.heap H).get? b=1#o:=λe n=>BH e n
  have noA:∀{b:Addr} {o:Obj} {es:Array DictEntry} {ep:Nat},s₁.heap.get? b=1#o->o.data= .dict es ep->H b=none:=λ{b o es ep} e d=>by
   cases q:H b with
   |none=>rfl
   |some u=>
    have e':b=a:=hA b (by rw[q];simp);subst e';rw[ha] at e;cases e;have d':Data.seq vs.toArray _=Data.dict es ep:=d;cases d'
  have nsK:∀{b:Addr} {m:8#23},s₁.heap.Ns b m->(jk s₁.heap H).Ns b m:=λ{b m} z901=>by let⟨o,es,ep,e,d,r⟩:=z901;exact⟨o,es,ep,base_of e (noA e d),d,r⟩
  have hKb:K.In (jk s₁.heap H):=λb o e=>base_of (KX b o e) (by
   cases q:H b with
   |none=>rfl
   |some u=>
    have e':b=a:=hA b (by rw[q];simp);subst e'
    rw[hK (by rw[q];simp)] at e;cases e)
  have hM:Mod K mg (jk s₁.heap H):=⟨hKb,nsK hns,⟨mb,nsK hb,hbb⟩,let ⟨mc,h1,h2⟩:=hlim;⟨mc,nsK h1,h2⟩⟩
  have e0:Env0 P w K mg (jk s₁.heap H) callerA [] s₁ H:=⟨rfl,hM,λb o e=>Dy e,ac6 (xX _ _),trivial,λb hb=>absurd (show b∈([]:2#Addr) from hb) 8#5,ah, .of_eq hg⟩;refine acH ((F _ hKb (nsK hns)).run callerA [] s₁ H ⟨[3#a],[]⟩ [3#a] [3#a] _ _ hr e0 (hbind s₁ 3#a) (.cons rfl .nil) (hsp H hO hS)) λr s' h=> ?_
  cases r with
  |error e=>exact(hCX H e s' h).elim
  |ok fl=>
   cases fl with
   |next=>exact False.elim h
   |brk=>exact False.elim h
   |cont=>exact False.elim h
   |ret u=>
    let⟨v,H',os,bare,un,hok',r',q⟩:=h;have q':v= .bl true:=q;subst q';obtain rfl:u=Value.bool true:=r';refine⟨rfl,OldK.of_keep λb o e=> ?_,os,bare⟩
    cases q:H b with
    |none=>exact un.keep b o e q (by intro z;exact absurd (show b∈([]:2#Addr) from z) 8#5) 8#5
    |some u=>
     rcases hO b with z|⟨ob,xs,z⟩
     ·rw[q] at z;cases z
     ·have z2:=un.aV b ob _ z;let⟨e1,_⟩:=ah b _ z;let⟨e2,_⟩:=hok' b _ z2;rw[e] at e1;cases e1;exact e2
 cases hk:K.lookup a with
 |some o=>
  have e:=KX a o hk;rw[ha] at e;cases e;refine core (λ_=>none) (λ_=> .inl rfl) (.inr ⟨_,vs.toArray,_,hk,rfl,rfl,rfl,by rw[aaj,iC];exact hl,by simpa using rv⟩) (λb u z=>by have z':(none:5#HO)=1#u:=z;cases z') (λb z=>absurd rfl z) λz=>absurd rfl z
 |none=>
  refine core (λb=>if b=a then 1#(.aG {cls:= .type "list",data:= .seq vs.toArray} 7#(ns.map V.int)) else none) (λb=> ?_) (.inl (.inr ⟨{cls:= .type "list",data:= .seq vs.toArray},if_pos rfl⟩)) (λb u z=> ?_) (λb z=> ?_) λ_=>hk
  ·by_cases hb:b=a
   ·exact .inr ⟨_,_,if_pos hb⟩
   ·exact .inl (if_neg hb)
  ·by_cases hb:b=a
   ·have z':=(if_pos hb).symm.trans z;cases z';subst hb;exact⟨ha,by rw[aaz];exact hl,vs,_,rv,ha⟩
   ·have z':=(if_neg hb).symm.trans z;cases z'
  ·by_cases hb:b=a
   ·exact hb
   ·exact absurd (if_neg hb) z
theorem EB {l:PySem.W.OpenLaw} {n k:Nat} {q:Program} {loose:2#Str} {XP:(Str->5#Value)->Heap->Prop} {YP:World->Heap->Prop} {d:DefRec} {K:Params->PySem.W.Frag} {CX:World->kY} {sp:World->Sp} {x:Str}
  (hn:l.most=1#n) (hn2:n<=sizeLine) (hdf:d.params.defaults=[]) (hr:Room k callerA)
  (hY:∀(w:World) (h:Heap),YP w h->(K w.params).In h)
  (F:∀(w:World) (mg:8#23) (fa:Addr) (h:Heap),(K w.params).In h->h.Ns mainGlobals mg->mg d.name=1#3#fa->
   ∃fd:FuncData,(∀(s:9#4) (u:Value),BindsTo s fd ⟨[u],[]⟩ [(x,u)])/\
    ∀base:Heap,(K w.params).In base->base.Ns mainGlobals mg->FnOk l.prog w (K w.params) mg base (CX w) k fa fd [x] (sp w))
  (hsp:∀(w:World) (H:Hp) (a:Addr) (ns:2#Int),0#ns<=n->BK H->bN (K w.params) H a (ns.map V.int)->sp w [3#a] H (λv _=>v= .bl true) λ_ _ _=>False)
  (hCX:∀(w:World) (H:Hp) (s:9#4) (e:Value) (s':9#4),CX w [] H s (λ_ _ _=>False) e s'->False):
  PySem.W.WalkO q loose XP YP l.row.toRowW d [] (λf vs=>PySem.call f vs):=by
 refine Att.uf hn hdf λw s₀ s₁ mg mb fa o pm cd doc a vs ns G Y ho hd hcd hmg hobj hints hlen hg=> ?_;have KX:=hY w _ Y;let⟨fd,hb,hF⟩:=F w mg fa _ KX G.T.g hmg;exact BI KX G.T.g G.T.b G.T.builtins G.T.nolimit hg hobj hints (aaT hlen hn2) hr hF hb (λH hO hS=>hsp w H a ns hlen hO hS) λH e s'=>hCX w H s₁ e s'
noncomputable def inClass (s:Stmt) (j:Nat):Stmt:=match s with
 | .ClassDef _ _ _ body _ _ _ _ _ _ _=>body.getD j (.Pass ⟨0,0,0,0⟩)
 |_=> .Pass ⟨0,0,0,0⟩
noncomputable def dJ (s:Stmt):Arguments:=match s with
 | .FunctionDef _ a _ _ _ _ _ _ _ _=>a
 |_=>{posonlyargs:=[],args:=[],vararg:=none,kwonlyargs:=[],kw_defaults:=[],kwarg:=none,defaults:=[]}
noncomputable def bj (s:Stmt):2#Stmt:=match s with
 | .FunctionDef _ _ b _ _ _ _ _ _ _=>b
 |_=>[]
noncomputable def aA (s:Stmt):Scope:=match s with
 | .FunctionDef _ _ _ _ _ _ sc _ _ _=>sc
 |_=>{kind:= .function,names:=[],isGenerator:=false,isCoroutine:=false}
structure Fun (K:8#4) (x qual:Str) (st:Stmt) (f:Addr) (fd:FuncData):Prop where
 ex:∃(oc:Value) (od:5#Addr) (kV doc pm:Value) (an:5#Addr) (cdv ct:Value) (osl:Array 5#Value),
  fd=PySem.W.fnOf x qual (dJ st) (bj st) (aA st) .none kV doc pm an cdv ct/\K.lookup f=1#⟨oc,od, .func fd,osl⟩/\PySem.W.codeIn K cdv qual=true
 kp:PySem.W.keepIn K 3#f=true
section
variable {P:Program} {w:World} {K:8#4} {mg:8#23} {base:Heap}
theorem Fun.binds {x qual:Str} {st:Stmt} {f:Addr} {ps:2#Str} (F:Fun K x qual st f fd)
  (h:∀(kV doc pm:Value) (an:5#Addr) (cdv ct:Value) (us:2#Value),0#us=0#ps->bindArgs (PySem.W.fnOf x qual (dJ st) (bj st) (aA st) .none kV doc pm an cdv ct) ⟨us,[]⟩=pure (ps.zip us)):Binds K fd ps []:=by
 let⟨oc,od,kV,doc,pm,an,cdv,ct,osl,rfl,lk,hcd⟩:=F.ex;exact .all (h kV doc pm an cdv ct)
theorem Gu {x qual:Str} {st:Stmt} {f:Addr} {oc:Value} {od an:5#Addr} {osl:Array 5#Value} {kV doc pm cdv ct:Value} (l:K.lookup f=1#⟨oc,od, .func (PySem.W.fnOf x qual (dJ st) (bj st) (aA st) .none kV doc pm an cdv ct),osl⟩)
  (c:PySem.W.codeIn K cdv qual=true) (k:PySem.W.keepIn K 3#f=true):Fun K x qual st f (PySem.W.fnOf x qual (dJ st) (bj st) (aA st) .none kV doc pm an cdv ct):=⟨⟨oc,od,kV,doc,pm,an,cdv,ct,osl,rfl,l,c⟩,k⟩
end
theorem iq {n:Nat} (h:n<=1000):n<sizeLine:=acT h 8#16
section
variable {X:Cx}
end
theorem lZ {A B:Prop} (h:B):if false=true then A else B:=by
 rw[if_neg aaF];exact h
theorem lM {A B:Prop} (h:A):if true=true then A else B:=by
 rw[if_pos rfl];exact h
end L2
namespace L2.L3
open PySem PySem.Spec PyProof.Rows
section
variable {P:Program} {w:World} {H:Hp} {h:Heap} {a:Addr} {o:HO}
theorem xD (x:aQ P w H h a o):∃ob,h.get? a=1#ob:=by
 cases o with
 |lst xs=>exact let ⟨_,_,_,_,e⟩:=x;⟨_,e⟩
 |tup xs=>exact let ⟨_,_,_,ob,e,_⟩:=x;⟨ob,e⟩
 |dK kvs=>exact let ⟨_,_,_,_,ob,_,_,e,_⟩:=x;⟨ob,e⟩
 |dT kvs=>exact let ⟨_,_,_,_,ob,_,_,e,_⟩:=x;⟨ob,e⟩
 |set S n=>exact let ⟨ob,_,_,_,e,_⟩:=x;⟨ob,e⟩
 |ins C dx fs=>exact let ⟨_,_,_,e,_⟩:=x;⟨_,e⟩
 |own y=>exact x
 |xd fs=>exact let ⟨_,⟨ob,_,_,e,_⟩,_⟩:=x;⟨ob,e⟩
 |rng lo hi=>exact let ⟨_,_,_,e⟩:=x;⟨_,e⟩
 |aG ob u=>exact⟨ob,x.1⟩
 |tbl ps=>exact⟨_,(show h.get? a=1#_ from x)⟩
 |met f y=>exact⟨_,(show h.get? a=1#_ from x)⟩
 |ext φ=>exact x.2.1
theorem AW (x:bA P w H h) (e:h.get? a=none):H a=none:=by
 cases q:H a with
 |none=>rfl
 |some u=>
  let⟨ob,z⟩:=xD (x a u q);rw[e] at z;cases z
end
def wide (X:Cx) (ch:2#Addr):Cx:={X with ex:=ch++X.ex}
section
variable {X:Cx} {pins:8#7} {σ:St} {H H':Hp} {s s':9#4} {ch:2#Addr}
theorem widen (I:8#1) (hc:∀b∈ch,X.s₀.heap.get? b=none/\b≠X.env.locals/\(∀x c,X.env.cells.lookup x=1#c->c≠b)/\b∉X.fs):Inv (wide X ch) pins σ H s:=by
 have ok:(wide X ch).Ok:=by
  refine⟨I.ok.mod,I.ok.kind,I.ok.glob,I.ok.blt,I.ok.above,I.ok.inj,I.ok.has,I.ok.cab,I.ok.hd,I.ok.frames,I.ok.stk, ?_,I.ok.bs,I.ok.bsz, ?_, ?_,I.ok.dE,I.ok.frf⟩
  ·intro b hb
   rcases aaM.mp hb with z|z
   ·exact⟨(hc b z).2.1,(hc b z).2.2.1⟩
   ·exact I.ok.exf b z
  ·intro b o e hb
   rcases aaM.mp hb with z|z
   ·have q:=(I.ok.bs b o e).1;rw[(hc b z).1] at q;cases q
   ·exact I.ok.noex b o e z
  ·intro b hb
   rcases aaM.mp hb with z|z
   ·exact(hc b z).2.2.2
   ·exact I.ok.exfs b z
 have un:Un X.fs (ch++X.ex) X.H₀ H X.s₀.heap s.heap:=I.base.mono (λ_ z=>z) λ_ z=>aaw _ z;exact⟨ok,I.os,I.bare,un,I.loc,I.cell,I.free,I.freeC,I.pin,I.ah,I.len⟩
theorem narrow (I:Inv (wide X ch) pins σ H s) (ok:X.Ok) (hc:∀b∈ch,X.s₀.heap.get? b=none):Inv X pins σ H s:=by
 have nc:∀b o,X.s₀.heap.get? b=1#o->b∉X.ex->b∉ch++X.ex:=λb o e nx z=>by
  rcases aaM.mp z with z|z
  ·rw[hc b z] at e;cases e
  ·exact nx z
 have B:Un X.fs (ch++X.ex) X.H₀ H X.s₀.heap s.heap:=I.base
 have un:Un X.fs X.ex X.H₀ H X.s₀.heap s.heap:=
  ⟨λb o e n f x=>B.keep b o e n f (nc b o e x),λb o e n f x=>B.slot b o e n f (nc b o e x),λb o e n x=>B.free b o e n (nc b o e x),λb o e x=>B.there b o e (nc b o e x),B.tups,B.aV,B.tbls⟩
 exact⟨ok,I.os,I.bare,un,I.loc,I.cell,I.free,I.freeC,I.pin,I.ah,I.len⟩
theorem CN (I:8#1) (ho:s'.os=s.os) (u:Un (dj X.stack) ch H H' s.heap s'.heap) (ah:bA X.prog X.w H' s'.heap) (hg:AllBare s'.gens)
  (hc:∀b∈ch,X.s₀.heap.get? b=none/\b≠X.env.locals/\(∀x c,X.env.cells.lookup x=1#c->c≠b)/\b∉X.fs/\∀p∈X.pn++pins,p.1≠b):Inv X pins σ H' s':=by
 have J:Inv (wide X ch) pins σ H s:=widen I λb hb=>⟨(hc b hb).1,(hc b hb).2.1,(hc b hb).2.2.1,(hc b hb).2.2.2.1⟩;have J':Inv (wide X ch) pins σ H' s':=J.wc (ch:=ch) ho u ah hg λb hb=>⟨.inl (aaU _ hb),(hc b hb).2.1,(hc b hb).2.2.1,(hc b hb).2.2.2.2⟩;exact narrow J' I.ok λb hb=>(hc b hb).1
theorem nM {a:Addr} {o:HO} (I:8#1) (hn:H a=none) (hy:X.s₀.heap.get? a=none) (h1:a≠X.env.locals) (h2:∀x c,X.env.cells.lookup x=1#c->c≠a) (h3:∀p∈X.pn++pins,p.1≠a)
  (new:aQ X.prog X.w (upd H a o) s.heap a o):Inv X pins σ (upd H a o) s:=by
 have ne:∀b u,X.s₀.heap.get? b=1#u->b≠a:=λb u e z=>by
  rw[z,hy] at e;cases e
 have up:∀b u,H b=1#u->upd H a o b=1#u:=λb u q=>by
  rw[ar (br q hn)];exact q
 have un:Un X.fs X.ex X.H₀ (upd H a o) X.s₀.heap s.heap:=by
  refine⟨I.base.keep,I.base.slot,λb u e n x=> ?_,I.base.there,λb xs q=>up _ _ (I.base.tups b xs q),λb u v q=>up _ _ (I.base.aV b u v q),λb ps q=> ?_⟩
  ·rw[ar (ne b u e)];exact I.base.free b u e n x
  ·let⟨more,z⟩:=I.base.tbls b ps q;exact⟨more,up _ _ z⟩
 refine⟨I.ok,I.os,I.bare,un,I.loc,I.cell, ?_,λx c e=> ?_,λp hp=> ?_,λb u e=> ?_,I.len⟩
 ·rw[ar h1.symm];exact I.free
 ·rw[ar (h2 x c e)];exact I.freeC x c e
 ·let⟨p1,p2,p3⟩:=I.pin p hp;exact⟨p1,by rw[ar (h3 p hp)];exact p2,p3⟩
 ·by_cases hb:b=a
  ·subst hb;rw[aq] at e;cases e;exact new
  ·rw[ar hb] at e;exact(I.ah b u e).i9 (λ_ _ _ q=>q) (λc q=>up _ _ q) λc xs q=>up _ _ q
theorem qH {b:Addr} {o:Obj} {vs:Array Value} (I:8#1) (e:s.heap.get? b=1#o) (d:o.data= .fields vs):
  b≠X.env.locals/\(∀x c,X.env.cells.lookup x=1#c->c≠b)/\b∉X.fs/\b∉dj X.stack:=by
 refine⟨λz=> ?_,λx c q z=> ?_,λz=> ?_,λz=> ?_⟩
 ·let⟨m,⟨o',es,ep,ho,hd,_⟩,_⟩:=I.loc;rw[z,ho] at e;cases e;rw[hd] at d;cases d
 ·let⟨v,o',ho,hd⟩:=I.cell x c q;rw[z,e] at ho;cases ho;rw[d] at hd;cases hd
 ·let⟨_,o',ho,hd⟩:=I.dE.mem z;rw[e] at ho;cases ho;exact hd vs d
 ·let⟨_,o',ho,hd⟩:=I.stack.mem z;rw[e] at ho;cases ho;exact hd vs d
end
def ExcAt (h:Heap) (e:Addr) (cls:Value) (dx:5#Addr) (tb:5#(Addr×Value)):Prop:=
 ∃oe vs,h.get? e=1#oe/\oe.cls=cls/\oe.dict=dx/\oe.data= .fields vs/\1<vs.size/\
  match tb with
  |none=>vs[1]?=1#.none
  |some p=>vs[1]?=1#3#p.1/\p.1≠e/\∃oT ts,h.get? p.1=1#oT/\oT.data= .fields ts/\ts[3]?=1#p.2
theorem oq (o:Obj) (f:Array Value->Array Value):(o.mapFields f).dict=o.dict:=by
 let⟨c,d,dt,sl⟩:=o;cases dt<;>rfl
theorem qb {e:Value} {a b:Env} (q:a.frame=b.frame):noteFrame e a=noteFrame e b:=by
 unfold noteFrame PySem.frameOf;rw[q]
structure Moved (fs ch:2#Addr) (h h':Heap):Prop where
 keep:∀b o,b∉fs->b∉ch->h.get? b=1#o->h'.get? b=1#o
 slot:∀b o,b∉ch->h.get? b=1#o->∃sl,h'.get? b=some {o with slots:=sl}
theorem Moved.refl {fs:2#Addr} (h:Heap):Moved fs ch h h:=⟨λ_ _ _ _ e=>e,λ_ o _ e=>⟨o.slots,e⟩⟩
theorem Moved.trans {fs:2#Addr} (x:Moved fs ch h h1) (y:Moved fs ch h1 h2):Moved fs ch h h2:=
 ⟨λb o f c e=>y.keep b o f c (x.keep b o f c e),λb o c e=>let ⟨_,e1⟩:=x.slot b o c e;let ⟨sl,e2⟩:=y.slot b _ c e1;⟨sl,e2⟩⟩
theorem Moved.mono {fs ch:2#Addr} (x:Moved fs ch h h') (k:∀b∈ch,b∈ch'):Moved fs ch' h h':=
 ⟨λb o f c e=>x.keep b o f (λz=>c (k b z)) e,λb o c e=>x.slot b o (λz=>c (k b z)) e⟩
theorem Moved.un {fs:2#Addr} {H:Hp} (x:Moved fs ch h h'):Un fs ch H H h h':=
 ⟨λb o e _ f c=>x.keep b o f c e,λb o e _ _ c=>x.slot b o c e,λ_ _ _ n _=>n,λb o e c=>let ⟨sl,z⟩:=x.slot b o c e;⟨_,z⟩,λ_ _ q=>q,λ_ _ _ q=>q,λ_ ps q=>⟨#[],by rw[q];simp⟩⟩
theorem Moved.ah {fs ch:2#Addr} {P:Program} {w:World} {H:Hp} (x:Moved fs ch h h') (k:bA P w H h) (hf:∀b∈fs,H b=none) (hc:∀b∈ch,H b=none):bA P w H h':=λa o e=>by
 have nn:∀b u,H b=1#u->b∉fs/\b∉ch:=λb u q=>⟨λz=>(by rw[hf b z] at q;cases q),λz=>(by rw[hc b z] at q;cases q)⟩;refine(k a o e).i9 (λb u hb q=> ?_) (λ_ q=>q) λ_ _ q=>q
 rcases hb with rfl|hb
 ·exact x.keep b u (nn b _ e).1 (nn b _ e).2 q
 ·exact x.keep b u (nn b _ hb).1 (nn b _ hb).2 q
section
variable {M:Model} {A:Around} {E:8#2} {s:9#4} {F env:Env} {rest:2#Env} {L e:Addr} {bs:Heap} {oe:Obj} {vs:Array Value} {head:Value} {Q:Unit->Shared->Prop}
theorem A1 {had:Bool} (hA:A.frames=1#(F::rest)) (hF:F.frame=1#L) (hl:s.heap.FunFrames bs (F::rest)) (he:s.heap.get? e=1#oe) (hd:oe.data= .fields vs) (hz:1<vs.size)
  (h:∀h' T,Moved (dj (F::rest)) [e] s.heap h'->s.heap.get? T=none->h'.get? e=1#(oe.mapFields (·.setIfInBounds 1 3#T))->
   (∃oT ts,h'.get? T=1#oT/\oT.data= .fields ts/\ts[3]?=1#(rawInt L))->Q () {s with heap:=h'}):
  wpAny M A (do let a←PySem.frameOf F;let pl←entryPlaceOf L had;let b←EntryCells.newEntry head a .none (rawInt L) .none pl;setField 3#e 1 b) Q E s:=by
 have ne:e∉dj (F::rest):=λz=>by
  let⟨_,o',q,nf⟩:=hl.mem z;rw[he] at q;cases q;exact nf vs hd
 refine aaa (wpAny_frameOf_fun hA hl hF λg1 so=> ?_);have e1:g1.get? e=1#oe:=(so.2.1 e ne).trans he;refine aaa (wpAny_entryPlaceOf λpl ip=> ?_);unfold EntryCells.newEntry newFields;refine aaa (aaY ?_ (ip.sizeOk5 _ _ _ _ _));generalize hob:({cls:= .type "traceback",dict:=none,data:= .fields ([head, 3#L, .none,rawInt L, .none]++(if pl.isEmpty then List.replicate 6 Value.none else pl)).toArray}:Obj)=ob
 have obd:∃ts,ob.data= .fields ts/\ts[3]?=1#(rawInt L):=by
  rw[←hob];exact⟨_,rfl,by simp⟩
 let⟨ts,od,o3⟩:=obd;have e2:=aad (h:=g1) ob e1;refine abP e2 hd hz ?_;have nT:g1.objs.size≠e:=abJ (aam e1);have dd:=abd hd (·.setIfInBounds 1 (Value.ref g1.objs.size))
 have oth:∀b o,b≠e->g1.get? b=1#o->((g1.push ob).update e (Obj.mapFields (·.setIfInBounds 1 (Value.ref g1.objs.size)))).get? b=1#o:=λb o nb q=>by
  rw[aa8 _ _ (Ne.symm nb)];exact aad _ q
 refine h _ g1.objs.size ⟨λb o f c q=> ?_,λb o c q=> ?_⟩ (abg (by rw[so.1];exact aah _)) (abq _ e2 (abL dd)) ⟨ob,ts, ?_,od,o3⟩
 ·exact oth b o (by simpa using c) ((so.2.1 b f).trans q)
 ·let⟨sl,z⟩:=so.2.2 b o q;exact⟨sl,oth b _ (by simpa using c) z⟩
 ·rw[aa8 _ _ (Ne.symm nT)];refine aak g1 ?_;rw[←hob];rfl
theorem Ew {cls:Value} {dx:5#Addr} {tb:5#(Addr×Value)} (hA:A.frames=1#(F::rest)) (hF:F.frame=1#L) (hv:env.frame=1#L) (hl:s.heap.FunFrames bs (F::rest)) (x:ExcAt s.heap e cls dx tb)
  (h:∀h' T,Moved (dj (F::rest)) (e::(tb.map (·.1)).toList) s.heap h'->(s.heap.get? T=none∨tb.map (·.1)=1#T)->ExcAt h' e cls dx 1#(T,rawInt L)->Q () {s with heap:=h'}):
  wpAny M A (noteFrame 3#e env) Q E s:=by
 rw[qb (hv.trans hF.symm)];let⟨oe,vs,he,hc,hx,hd,hz,x⟩:=x
 have tail:∀(s1:9#4) (head:Value) (had:Bool),s1={s with heap:=s1.heap}->Moved (dj (F::rest)) (e::(tb.map (·.1)).toList) s.heap s1.heap->(∀b,s1.heap.get? b=none->s.heap.get? b=none)->s1.heap.FunFrames bs (F::rest)->s1.heap.get? e=1#oe->
   wpAny M A (do let a←PySem.frameOf F;let pl←entryPlaceOf L had;let b←EntryCells.newEntry head a .none (rawInt L) .none pl;setField 3#e 1 b) Q E s1:=by
  intro s1 head had es mv new hl1 he1;refine A1 hA hF hl1 he1 hd hz λh' T m1 nT e1 z905=> ?_;let⟨oT,ts,q1,q2,q3⟩:=z905;have dd:=abd hd (·.setIfInBounds 1 (Value.ref T))
  have r:Q () {s with heap:=h'}:=by
   refine h h' T (mv.trans (m1.mono λb hb=>by simp only[aaG] at hb;simp[hb])) (.inl (new T nT)) ⟨_,_,e1,(ac1 _ _).trans hc,(oq _ _).trans hx,dd,by simpa using hz,by simp[hz], ?_,oT,ts,q1,q2,q3⟩
   rintro rfl
   rw[he1] at nT;cases nT
  rw[es];exact r
 unfold noteFrame;simp only[hF]
 cases tb with
 |none=>
  refine aaa (aaE he hd x ?_);rw[if_neg 8#16];exact tail s .none _ rfl (Moved.refl _) (λ_ q=>q) hl he
 |some p=>
  let⟨T,fl⟩:=p;let⟨x1,x2,oT,ts,x3,x4,x5⟩:=x;refine aaa (aaE he hd x1 ?_);rw[if_pos (show (Value.ref T !=Value.none)=true from by simp)];refine aaa (aaE x3 x4 x5 ?_)
  by_cases z:(fl==rawInt L)=true
  rotate_left
  ·rw[if_neg z];refine aaa (abP x3 x4 (Array.getElem?_eq_some_iff.mp x5).1 ?_);have oth:∀b,b≠T->(s.heap.update T (Obj.mapFields (·.setIfInBounds 3 Value.none))).get? b=s.heap.get? b:=λb hb=>aa8 _ _ (Ne.symm hb);have tT:=abq (Obj.mapFields (·.setIfInBounds 3 Value.none)) x3 (abL (abd x4 _));refine tail {s with heap:=s.heap.update T (Obj.mapFields (·.setIfInBounds 3 Value.none))} 3#T _ rfl ⟨λb o f c q=> ?_,λb o c q=> ?_⟩ (λb q=> ?_) ?_ ((oth e (Ne.symm x2)).trans he)
   ·exact(oth b (λz=>c (by simp[z]))).trans q
   ·exact⟨o.slots,(oth b (λz=>c (by simp[z]))).trans q⟩
   ·by_cases hb:b=T
    ·subst hb;have q':(s.heap.update b (Obj.mapFields (·.setIfInBounds 3 Value.none))).get? b=none:=q;rw[tT] at q';cases q'
    ·exact(oth b hb).symm.trans q
   ·refine hl.of_keeps λb o q nf=>⟨o,(oth b λz=> ?_).trans q,rfl⟩;rw[z,x3] at q;cases q;exact nf ts x4
  ·obtain rfl:fl=rawInt L:=beq_iff_eq.mp z;rw[if_pos (show (rawInt L==rawInt L)=true from abS _)];exact aaf (h s.heap T (Moved.refl _) (.inr rfl) ⟨oe,vs,he,hc,hx,hd,hz,x1,x2,oT,ts,x3,x4,x5⟩)
theorem zt {cls:Value} {dx:5#Addr} {T:Addr} {fl:Value} {fr:5#Addr} (x:ExcAt s.heap e cls dx 1#(T,fl))
  (h:∀h',Moved [] [T] s.heap h'->ExcAt h' e cls dx 1#(T,fr.elim .none λf=>rawInt f)->Q () {s with heap:=h'}):wpAny M A (setFlight 3#e fr) Q E s:=by
 let⟨oe,vs,he,hc,hx,hd,hz,x1,x2,oT,ts,x3,x4,x5⟩:=x;have z3:=(Array.getElem?_eq_some_iff.mp x5).1;unfold setFlight;refine aaa (aaE he hd x1 ?_);rw[if_pos (show (Value.ref T !=Value.none)=true from by simp)];refine abP x3 x4 z3 ?_;have oth:∀b,b≠T->(s.heap.update T (Obj.mapFields (·.setIfInBounds 3 (fr.elim Value.none λf=>rawInt f)))).get? b=s.heap.get? b:=λb hb=>aa8 _ _ (Ne.symm hb);have dd:=abd x4 (·.setIfInBounds 3 (fr.elim Value.none λf=>rawInt f));refine h _ ⟨λb o _ c q=>(oth b (by simpa using c)).trans q,λb o c q=>⟨o.slots,(oth b (by simpa using c)).trans q⟩⟩ ⟨oe,vs,(oth e (Ne.symm x2)).trans he,hc,hx,hd,hz,x1,x2,_,_,abq _ x3 (abL dd),dd,by simp[z3]⟩
end
structure Young (X:Cx) (H:Hp) (b:Addr):Prop where
 new:X.s₀.heap.get? b=none
 npn:∀p∈X.pn,p.1≠b
 free:H b=none
def cG (X:Cx):Prop:=∀b∈X.ex,∃o,(b,o)∈X.pn
def Framed (X:Cx):Prop:=∃(F:Env) (rest:2#Env) (L:Addr),X.stack=F::rest/\F.frame=1#L/\X.env.frame=1#L
def mB (X:Cx) (E:XK) (mk:5#(Addr×Value)->Prop):Value->Shared->Prop:=λe s=>
 ∃(σ:St) (H:Hp) (ea:Addr) (cls:Value) (dx:5#Addr) (tb:5#(Addr×Value)),e= 3#ea/\Inv X.pB [] σ H s/\ExcAt s.heap ea cls dx tb/\Young X H ea/\
  (∀p,tb=1#p->Young X H p.1)/\mk tb/\E cls dx H
abbrev XE (X:Cx) (E:XK):Value->Shared->Prop:=mB X E λ_=>True
abbrev XT (X:Cx) (E:XK):Value->Shared->Prop:=mB X E λtb=>∃p,tb=1#p
abbrev XL (X:Cx) (E:XK):Value->Shared->Prop:=mB X E λtb=>∃T,tb=1#(T, .none)
section
variable {X:Cx} {pins:8#7} {σ:St} {H:Hp} {s s':9#4} {E:XK} {e:Value}
theorem oY {ch:2#Addr} (I:8#1) (m:Moved (dj X.stack) ch s.heap h')
  (hc:∀b∈ch,X.s₀.heap.get? b=none/\(∀p∈X.pn++pins,p.1≠b)/\H b=none/\∃o vs,s.heap.get? b=1#o/\o.data= .fields vs):Inv X pins σ H {s with heap:=h'}:=by
 refine CN (s':={s with heap:=h'}) I rfl m.un (m.ah I.ah I.kq λb hb=>(hc b hb).2.2.1) I.bare λb hb=> ?_;let⟨h1,h2,h3,o,vs,h4,h5⟩:=hc b hb;let⟨r1,r2,r3,_⟩:=qH I h4 h5;exact⟨h1,r1,r2,r3,h2⟩
theorem mG (hx:cG X) (I:8#1) {T:Addr} (n:s.heap.get? T=none):X.s₀.heap.get? T=none/\(∀p∈X.pn,p.1≠T)/\H T=none:=by
 have pn:∀p∈X.pn,p.1≠T:=λp hp z=>by
  have q:=(I.pin p (aaU _ hp)).1;rw[z,n] at q;cases q
 refine⟨?_,pn,AW I.ah n⟩
 cases q:X.s₀.heap.get? T with
 |none=>rfl
 |some o=>
  exfalso
  by_cases hb:T∈X.ex
  ·let⟨o',m⟩:=hx T hb;exact pn _ m rfl
  ·let⟨o',z⟩:=I.base.there T o q hb;rw[n] at z;cases z
theorem iH {h:Heap} {cls:Value} {dx:5#Addr} {tb:5#(Addr×Value)} (x:ExcAt h ea cls dx tb):(∃o vs,h.get? ea=1#o/\o.data= .fields vs)/\∀p,tb=1#p->∃o vs,h.get? p.1=1#o/\o.data= .fields vs:=by
 let⟨oe,vs,he,_,_,hd,_,x⟩:=x;refine⟨⟨oe,vs,he,hd⟩,λp hp=> ?_⟩;subst hp;let⟨_,_,oT,ts,q1,q2,_⟩:=x;exact⟨oT,ts,q1,q2⟩
end
def dA (P:Program) (w:World):kY:=λouter H s E e s'=>
 ∃(ea:Addr) (cls:Value) (dx:5#Addr) (T:Addr) (H':Hp),e= 3#ea/\s'.os=s.os/\AllBare s'.gens/\Un (dj outer) [] H H' s.heap s'.heap/\bA P w H' s'.heap/\ExcAt s'.heap ea cls dx 1#(T, .none)/\
  s.heap.get? ea=none/\s.heap.get? T=none/\H' ea=none/\H' T=none/\E cls dx H'
noncomputable def a7 (env:Env):2#(Str×NameKind)->2#(Str×Addr)->2#(Str×Addr)
 |[],cs=>cs
 |(n,k)::r,cs=>a7 env r (if k== .free then (n,(env.cells.lookup n).getD 0)::cs else cs)
theorem jz {scope:Scope} {env:Env} (h:∀x∈scope.names,x.2= .free->∃c,env.cells.lookup x.1=1#c):closureFor scope env=pure (a7 env scope.names []):=by
 simp only[closureFor];generalize scope.names=l at h⊢;generalize ([]:2#(Str×Addr))=cs
 induction l generalizing cs with
 |nil=>rfl
 |cons x r ih=>
  let⟨n,k⟩:=x;rw[acb];have hr:=λy hy=>h y (aat _ hy)
  by_cases hk:k= .free
  ·subst hk;let⟨c,hc⟩:=h (n, .free) aaD rfl;have hc':List.lookup n env.cells=1#c:=hc
   have e:cellOf env n=pure c:=by
    unfold cellOf;rw[hc']
   have q:=ih hr ((n,c)::cs);show (((cellOf env n>>=λd=>pure (ForInStep.yield ((n,d)::cs)))>>=_)>>=_)=pure (a7 env r ((n,(List.lookup n env.cells).getD 0)::cs));rw[e,hc'];exact q
  ·have hb:(k==NameKind.free)=false:=by simpa using hk
   have q:=ih hr cs;show ((((if (k==NameKind.free)=true then _ else _):Sem _)>>=_)>>=_)=pure (a7 env r (if (k==NameKind.free)=true then _ else cs));rw[hb];exact q
set_option tactic.hygienic true in
theorem mQ {env:Env} {x:Str} {c:Addr}:∀(l:2#(Str×NameKind)) (cs:2#(Str×Addr)),(∀y∈l,y.2= .free->∃d,env.cells.lookup y.1=1#d)->(∀y d,cs.lookup y=1#d->env.cells.lookup y=1#d)->(a7 env l cs).lookup x=1#c->env.cells.lookup x=1#c
 |[],cs,_,k,e=>k x c e
 |(n,q)::r,cs,h,k,e=>by
  refine mQ r _ (λy hy=>h y (aat _ hy)) (λy d hd=> ?_) e;split at hd
  ·rename_i hq;rw[aaJ] at hd;split at hd
   ·rename_i hy;let⟨d',hd'⟩:=h (n,q) aaD (by simpa using hq);have hd'':List.lookup n env.cells=1#d':=hd';rw[hd''] at hd;cases hd;rw[beq_iff_eq.mp hy];exact hd''
   ·exact k y d hd
  ·exact k y d hd
theorem jC {env:Env} {x:Str}:∀(l:2#(Str×NameKind)) (cs:2#(Str×Addr)),((x,NameKind.free)∈l∨(cs.lookup x).isSome=true)->((a7 env l cs).lookup x).isSome=true
 |[],cs,h=>h.elim (λz=>by cases z) λz=>z
 |(n,q)::r,cs,h=>by
  refine jC r _ ?_
  rcases h with h|h
  ·rcases aaq.mp h with e|h
   ·cases e;right;simp
   ·exact .inl h
  ·right;split
   ·rw[aaJ];split
    ·rfl
    ·exact h
   ·exact h
theorem gE {env:Env} {x:Str}:∀(l:2#(Str×NameKind)),(l.map λ(n,k)=>if (k==NameKind.free&&env.scope.kind== .function&&env.kindOf n==1#.cell) then (n,NameKind.cell) else (n,k)).lookup x=
  (l.lookup x).map λk=>if (k==NameKind.free&&env.scope.kind== .function&&env.kindOf x==1#.cell) then NameKind.cell else k
 |[]=>rfl
 |(n,k)::r=>by
  have ih:=gE (env:=env) (x:=x) r;show List.lookup x ((if (k==NameKind.free&&env.scope.kind== .function&&env.kindOf n==1#.cell)=true then (n,NameKind.cell) else (n,k))::_)=_
  cases hx:x==n with
  |true=>
   have e:x=n:=beq_iff_eq.mp hx;subst e
   by_cases hc:(k==NameKind.free&&env.scope.kind== .function&&env.kindOf x==1#.cell)=true
   ·rw[if_pos hc,aaJ,aaJ];simp only[hx];show 1#NameKind.cell=1#(if (k==NameKind.free&&env.scope.kind== .function&&env.kindOf x==1#.cell)=true then NameKind.cell else k);rw[if_pos hc]
   ·rw[if_neg hc,aaJ,aaJ];simp only[hx];show 1#k=1#(if (k==NameKind.free&&env.scope.kind== .function&&env.kindOf x==1#.cell)=true then NameKind.cell else k);rw[if_neg hc]
  |false=>
   by_cases hc:(k==NameKind.free&&env.scope.kind== .function&&env.kindOf n==1#.cell)=true
   ·rw[if_pos hc];simp only[aaJ,hx];exact ih
   ·rw[if_neg hc];simp only[aaJ,hx];exact ih
structure BlockOk (S sc:Scope):Prop where
 kind:sc.kind= .function
 cell:∀y∈sc.names,y.2≠ .cell
 names:∀y∈sc.names,y.2= .local->sc.names.lookup y.1=1#.local
 free:∀y∈sc.names,y.2= .free->S.names.lookup y.1=1#.cell∨S.names.lookup y.1=1#.free
def Cg (X:Cx) (ws:2#Str) (caps:2#Nat) (sc:Scope) (C:Addr) (fp:2#Addr) (pn:8#7) (s:9#4) (H:Hp):Cx:=
 {X with
  N:=ws++caps.map λi=>X.N.getD i Str.empty
  s₀:=s
  H₀:=H
  env:=compEnvC sc (a7 X.env sc.names []) C X.env
  outer:=X.stack
  ex:=fp
  fn:=λ_=>false
  pn:=pn
  xe:=λ_ _=>False}
noncomputable def stC (ws:2#Str) (caps:2#Nat) (σ:St):St:=ws.map (λ_=>none)++caps.map λi=>(σ[i]?).getD none
section
variable {X:Cx} {pins:8#7} {σ:St} {H:Hp} {s:9#4} {ws:2#Str} {caps:2#Nat} {sc:Scope} {C:Addr} {fp:2#Addr} {pn:8#7}
theorem qE (I:8#1) {b:Addr} (f:cK X pins H b):b∉dj X.stack:=λz=>by
 let⟨_,f1,f2,_⟩:=f
 rcases aaq.mp (I.sX b z) with q|q
 ·exact f1 q
 ·exact f2 q
end
def lg (X:Cx) (ifs:2#Expr) (t:TT):Prop:=
 ∀(pins:8#7) (s:9#4) (σ:St) (H:Hp) (Q:Bool->Hp->Prop),Inv X pins σ H s->t σ H Q->
  wpAny 8#3 X.A (forIn ifs true λc r=>if r=true then do let ok←isTrue c X.env (eval c X.env);pure (ForInStep.yield ok) else pure (ForInStep.yield r)) (TP X pins σ Q) X.xe s
def L1:TT:=λ_ H Q=>Q true H
theorem CQ {X:Cx}:lg X [] L1:=λpins s σ H Q I h=>aaf (show TP X pins σ Q true s from ⟨H,I,h⟩)
theorem Dl {X:Cx} {c:Expr} {t:TT} (hc:PT X c t):lg X [c] t:=λpins s σ H Q I h=>wpAny_tests_one (hc pins s σ H Q I h)
section
variable {prog:Program} {w:World} {A:Around} {R:Result->Shared->Prop} {s:9#4}
theorem zZ {it acc:Value} {env:Env} (J:Nat->Shared->Prop)
  (turn:∀n s,J n s->wpAny 9#2 A (pyNext it) (λr s1=>match r with
   |none=>R (.ok .next) s1
   |some v=>wpAny 9#2 A (letOwnedTupleGo tg it v) (λ_ s2=>wpAny 9#2 A (assign tg env v) (λ_ s3=>
    wpAny 9#2 A (forIn ifs true λc r=>if r=true then do let ok←isTrue c env (eval c env);pure (ForInStep.yield ok) else pure (ForInStep.yield r)) (λok s4=>
     if ok=true then wpAny 9#2 A (eval elt env) (λx s5=>
      wpAny 9#2 A (call (.builtin "list.append") [acc,x]) (λ_ s6=>∃m,m<n/\J m s6) (notedBy 9#2 A env λe s'=>R (.error e) s') s5) (notedBy 9#2 A env λe s'=>R (.error e) s') s4
     else∃m,m<n/\J m s4) (notedBy 9#2 A env λe s'=>R (.error e) s') s3) (notedBy 9#2 A env λe s'=>R (.error e) s') s2) (notedBy 9#2 A env λe s'=>R (.error e) s') s1)
   (notedBy 9#2 A env λe s'=>R (.error e) s') s)
  (n:Nat) (h:J n s):codeAny 9#2 A (.compLoop 9#8 0 it acc env) R s:=by
 refine codeAny_loop rfl J (λn s hJ=> ?_) n h
 show wpAny _ A ((compTurn 9#8 0 it acc env).onRaise (λx=>do noteFrame x env;theTreesLotGoes x)) _ _ s
 refine wpAny_noted ?_;rw[compTurn_list];refine aaa (acX (aaa (az (turn n s hJ) λr s1 q1=> ?_)))
 cases r with
 |none=>exact aaf q1
 |some v=>
  refine aaa (az q1 λ_ s2 q2=>aaa (az q2 λ_ s3 q3=>aaa (az q3 λok s4 q4=> ?_)))
  cases ok with
  |false=>exact aaf ⟨rfl,q4⟩
  |true=>exact aaa (aaa (az q4 λx s5 q5=>aaa (az q5 λ_ s6 q6=>aaf (aaf ⟨rfl,q6⟩))))
end
def Ic (X:Cx) (pn:8#7):Cx:={X with pn:=pn}
section
variable {X:Cx} {pins:8#7} {σ:St} {H:Hp} {s:9#4}
theorem Ed (ok:X.Ok) (pn:8#7):(Ic X pn).Ok:=
 ⟨ok.mod,ok.kind,ok.glob,ok.blt,ok.above,ok.inj,ok.has,ok.cab,ok.hd,ok.frames,ok.stk,ok.exf,ok.bs,ok.bsz,ok.noex,ok.exfs,ok.dE,ok.frf⟩
theorem r9 {qn q:8#7} (I:8#1) (k:∀p∈qn++q,p∈X.pn++pins):Inv (Ic X qn) q σ H s:=
 ⟨Ed I.ok qn,I.os,I.bare,I.base,I.loc,I.cell,I.free,I.freeC,λp hp=>I.pin p (k p hp),I.ah,I.len⟩
theorem Ec {a:Addr} {xs:2#V} (I:Inv X pins σ (upd H a 7#xs) s) (hn:H a=none):Inv X pins σ H s:=by
 have dn:∀b u,upd H a 7#xs b=1#u->(∀ys,u≠ 7#ys)->H b=1#u:=λb u q nl=>by
  by_cases hb:b=a
  ·subst hb;rw[aq] at q;cases q;exact absurd rfl (nl xs)
  ·rw[ar hb] at q;exact q
 have fn:∀b,upd H a 7#xs b=none->H b=none:=λb q=>by
  by_cases hb:b=a
  ·rw[hb];exact hn
  ·rw[ar hb] at q;exact q
 refine⟨I.ok,I.os,I.bare,⟨I.base.keep,I.base.slot,λb o e n x=>fn b (I.base.free b o e n x),I.base.there,λb ys q=>dn b _ (I.base.tups b ys q) λ_ z=>(by cases z),λb o u q=>dn b _ (I.base.aV b o u q) λ_ z=>(by cases z),λb ps q=> ?_⟩,
  I.loc,I.cell,fn _ I.free,λx c e=>fn c (I.freeC x c e),λp hp=> ?_,λb u e=> ?_,I.len⟩
 ·let⟨more,z⟩:=I.base.tbls b ps q;exact⟨more,dn b _ z λ_ z=>by cases z⟩
 ·let⟨p1,p2,p3⟩:=I.pin p hp;exact⟨p1,fn _ p2,p3⟩
 ·have hb:b≠a:=λz=>by
   rw[z,hn] at e;cases e
  have e':upd H a 7#xs b=1#u:=by
   rw[ar hb];exact e
  exact(I.ah b u e').i9 (λ_ _ _ q=>q) (λc q=>dn c _ q λ_ z=>(by cases z)) λc ys q=>dn c _ q λ_ z=>(by cases z)
end
def runC (g:TG) (tt:TT) (te:TE) (J:It) (σ:St) (H:Hp) (Z:2#V->Hp->Prop):Prop:=
 ∃W:Nat->Nat->2#V->St->Hp->Prop,(∃m,W 0 m [] σ H)/\∀i m ys σ H,W i m ys σ H->
  (J.stop i H/\Z ys H)∨(J.go i H/\∃N:2#V->St->Hp->Prop,(∀ys' σ' H',N ys' σ' H'->∃m',m'<m/\W (i+1) m' ys' σ' H')/\∀x H2,J.yld i H x H2->g x σ H2 λσ3 H3=>tt σ3 H3 λok H4=>
   if ok=true then te σ3 H4 λv H5=>0#ys<sizeLine/\N (ys++[v]) σ3 H5 else N ys σ3 H4)
noncomputable def lobj (its:2#Value) (n:Nat):Obj:={cls:= .type "list",data:= .seq its.toArray n}
section
variable {X:Cx} {E:XK} {pins:8#7} {σ:St} {H:Hp} {s:9#4} {ws:2#Str} {caps:2#Nat} {sc:Scope} {tg iter elt:Expr} {ifs:2#Expr} {pos:Pos} {g:TG} {tt:TT} {te:TE} {it:Addr} {fp:2#Addr} {tn:Nat->Heap->Prop} {J:It} {Z:2#V->Hp->Prop}
 {RR:Value->Addr->Result->Shared->Prop} {E':8#2}
end
section
variable {K:8#4} {a:Addr} {xs:2#V} {g:TG} {tt:TT} {te:TE} {σ:St} {H:Hp} {Z:2#V->Hp->Prop}
end
def CM (ws:2#Str) (caps:2#Nat) (wi:TI) (g:TG) (tt:TT) (te:TE):TE:=λσ H Q=>wi σ H λJ H1=>runC g tt te J (stC ws caps σ) H1 λys H'=>∀D,H' D=none->Q 3#D (upd H' D 7#ys)
def Cn (i:Nat) (ws:2#Str) (caps:2#Nat) (wi:TI) (g:TG) (tt:TT) (te:TE):TS:=λD σ H=>wi σ H λJ H1=>runC g tt te J (stC ws caps σ) H1 λys H'=>∀a,H' a=none->D.nx (σ.set i 1#3#a) (upd H' a 7#ys)
section
variable {X:Cx} {E:XK} {ws:2#Str} {caps:2#Nat} {sc:Scope} {tg iter elt:Expr} {ifs:2#Expr} {pos py spos:Pos} {wi:TI} {g:TG} {tt:TT} {te:TE}
end
abbrev vE (P:Program) (w:World) (K:8#4) (mg:8#23) (base:Heap) (N:2#Str) (qual:Str) (sc:Scope) (f:Addr) (cd:Value) (A:Around) (outer:2#Env) (s:9#4) (H:Hp) (E:XK):Cx:=oC (dA P w) P w K mg base N qual sc f cd A outer s H E
section
variable {P:Program} {w:World} {K:8#4} {mg:8#23} {base:Heap} {N:2#Str} {qual:Str} {sc:Scope} {f:Addr} {cd:Value} {A:Around} {outer:2#Env} {s:9#4} {H:Hp} {E:XK}
theorem fmD:Framed (vE P w K mg base N qual sc f cd A outer s H E):=⟨_,_,_,rfl,rfl,rfl⟩
theorem hxD:cG (vE P w K mg base N qual sc f cd A outer s H E):=λb hb=>by cases hb
end
abbrev Cz:2#Value:=[.type "ValueError", .type "Exception", .type "BaseException", .type "object"]
section
variable {X:Cx} {E:XK} {C:Addr} {x:Str} {np cpos pos:Pos} {e:Expr} {es:2#Expr} {t:TA}
end
def Ce (ea C:Addr) (dx:5#Addr):Heap->Prop:=λh=>∃o vs,h.get? ea=1#o/\o.cls= 3#C/\o.dict=dx/\o.data= .fields vs
section
variable {X:Cx} {pins:8#7} {σ:St} {H:Hp} {s:9#4} {ea:Addr}
end
section
variable {X:Cx} {E:XK} {B:Addr} {cn x:Str} {i:Nat} {np pos hpos:Pos} {body:2#Stmt} {st:Stmt} {suite:2#Stmt} {tb:XK->TS} {th:TS}
end
structure Mv (N:Addr->Prop) (H H':Hp):Prop where
 tup:∀b xs,H b=1#(.tup xs)->H' b=1#(.tup xs)
 lst:∀b xs,N b->H b=1#7#xs->H' b=1#7#xs
section
variable {N M:Addr->Prop} {H H' H2:Hp} {a:Addr} {xs:2#V}
end
def Mg (K:8#4):2#V->Hp->VK->Prop:=λxs H Q=>∃p ys,xs=[3#p]/\((bN K H p ys/\∀l,H l=none->Q 3#l (upd H l (.tup ys)))∨(dg K H p ys/\Q 3#p H))
theorem Ag {X:Cx}:aC X (.type "tuple") (Mg X.K):=p7
def MK (K:8#4):2#V->Hp->VK->Prop:=λxs H Q=>∃p ys,xs=[3#p]/\(bN K H p ys∨dg K H p ys)/\∀l,H l=none->Q 3#l (upd H l 7#ys)
theorem Bz {X:Cx}:aC X (.type "list") (MK X.K):=se
section
variable {N:Addr->Prop} {K:8#4} {a:Addr} {xs:2#V} {σ:St} {H:Hp}
end
section
variable {prog:Program} {w:World} {A:Around} {E:8#2} {s:9#4}
theorem A8 {l:Addr} {k:Nat} {xs:Array Value} {x:Value} {Q:8#2} (gi:s.heap.IsTupleIter it l k) (gl:s.heap.IsTuple l xs) (gx:xs[k]?=1#x)
  (q:∀h1,h1.IsTupleIter it l (k+1)->Heap.SameBut it s.heap h1->Q x {s with heap:=h1}):wpAny 9#2 A (Builtin.SmallTypes.nextOf 3#it) Q E s:=by
 let⟨oi,goi,gci,gdi⟩:=id gi;let⟨ol,gol,_,nl,gdl⟩:=gl;unfold Builtin.SmallTypes.nextOf;refine aaa (aaZ (name:=Str.ofString "__next__") gi.typeIs abO (abe abO gi.typeIs F.entry_tuple_iterator_next ?_ (F.args_tuple_iterator_next_1 _)));show wpAny _ _ (field 3#it 0>>=_) _ _ s;refine aaa (aaE goi gdi (x:= 3#l) rfl ?_);show wpAny _ _ (if (Value.ref l==Value.none)=true then _ else _) _ _ s;rw[if_neg (show¬((Value.ref l==Value.none)=true) from aaF)];show wpAny _ _ (field 3#it 1>>=_) _ _ s;refine aaa (aaE goi gdi (x:= .int k 0) rfl ?_);show wpAny _ _ (seqItems? 3#l>>=_) _ _ s;refine aaa (abh gol gdl ?_);simp only[acj,gx];refine aaa (abP goi gdi 8#5 (aaf ⟨x,rfl,aaf (q _ ?_ (aca ..))⟩));refine⟨_,abq _ goi (abL (abd gdi _)),(ac1 ..).trans gci, ?_⟩;rw[abd gdi];simp[rawInt]
theorem Em {l:Addr} {k:Nat} {xs:Array Value} {Q:8#2} (hh:A.handled=none) (gi:s.heap.IsTupleIter it l k) (gl:s.heap.IsTuple l xs) (gx:xs[k]?=none)
  (q:∀h1 e,Heap.ExtBut it s.heap h1->(∃o,h1.get? e=1#o/\o.cls= .type "StopIteration")->E 3#e {s with heap:=h1}):wpAny 9#2 A (Builtin.SmallTypes.nextOf 3#it) Q E s:=by
 let⟨oi,goi,gci,gdi⟩:=id gi;let⟨ol,gol,_,nl,gdl⟩:=gl;unfold Builtin.SmallTypes.nextOf;refine aaa (aaZ (name:=Str.ofString "__next__") gi.typeIs abO (abe abO gi.typeIs F.entry_tuple_iterator_next ?_ (F.args_tuple_iterator_next_1 _)));show wpAny _ _ (field 3#it 0>>=_) _ _ s;refine aaa (aaE goi gdi (x:= 3#l) rfl ?_);show wpAny _ _ (if (Value.ref l==Value.none)=true then _ else _) _ _ s;rw[if_neg (show¬((Value.ref l==Value.none)=true) from aaF)];show wpAny _ _ (field 3#it 1>>=_) _ _ s;refine aaa (aaE goi gdi (x:= .int k 0) rfl ?_);show wpAny _ _ (seqItems? 3#l>>=_) _ _ s;refine aaa (abh gol gdl ?_);simp only[acj,gx];refine aaa (acI (aaa (abP goi gdi 8#5 ?_)));show wpAny _ _ (newExc (.type "StopIteration") []>>=_) _ _ _;refine aaa ?_;simp only[newExc,newTuple];refine aaa (aaY ?_ (by size_fits));refine aaa (m:=firstArgMember _ _) (wpAny_of_eq (a:=Value.none) (by first|rfl|(simp only[firstArgMember];rfl)) ?_);refine aaY ?_ (by size_fits);simp only[raiseNew]
 refine aaa (wpAny_handled ?_);first|rw[show A.in1.handled=none from hh]|rw[hh]
 refine aaa (aaf (wpAny_throw ?_));exact q _ _ (((aca ..).extBut.push _).push _) ⟨_,aak _ rfl,rfl⟩
end
def dS (b:Bool) (h:Heap) (it a:Addr) (i:Nat):Prop:=cond b (h.IsListIter it a i) (h.IsTupleIter it a i)
def cT (b:Bool) (h:Heap) (a:Addr) (xs:Array Value):Prop:=cond b (h.IsList a xs) (h.IsTuple a xs)
def eP (b:Bool) (K:8#4) (H:Hp) (a:Addr) (xs:2#V):Prop:=cond b (bN K H a xs) (dg K H a xs)
theorem dS.at {b:Bool} {h h1:Heap} {a:Addr} {i:Nat} (x:dS b h it a i) (k:∀o,h.get? it=1#o->h1.get? it=1#o):dS b h1 it a i:=by
 cases b
 ·let⟨o,h0,r⟩:=(show h.IsTupleIter it a i from x);exact⟨o,k o h0,r⟩
 ·let⟨o,h0,r⟩:=(show h.IsListIter it a i from x);exact⟨o,k o h0,r⟩
theorem dS.live {b:Bool} {h:Heap} {a:Addr} {i:Nat} (x:dS b h it a i):∃o,h.get? it=1#o/\∀v,o.data≠ .cell v:=by
 cases b
 ·let⟨o,h0,_,d⟩:=(show h.IsTupleIter it a i from x);exact⟨o,h0,λv z=>by rw[d] at z;cases z⟩
 ·let⟨o,h0,_,d⟩:=(show h.IsListIter it a i from x);exact⟨o,h0,λv z=>by rw[d] at z;cases z⟩
theorem cT.at {b:Bool} {h h1:Heap} {a:Addr} {xs:Array Value} (x:cT b h a xs) (k:∀o,h.get? a=1#o->h1.get? a=1#o):cT b h1 a xs:=by
 cases b
 ·let⟨o,h0,r⟩:=(show h.IsTuple a xs from x);exact⟨o,k o h0,r⟩
 ·let⟨o,h0,r⟩:=(show h.IsList a xs from x);exact⟨o,k o h0,r⟩
theorem eZ {b:Bool} {a:Addr} {i:Nat} {xs:Array Value} (hi:dS b h it a i) (p:cT b h a xs):a≠it:=λz=>by
 cases b
 ·let⟨o,e1,e2,_⟩:=(show h.IsTuple a xs from p);let⟨o',e3,e4,_⟩:=(show h.IsTupleIter it a i from hi);rw[z,e3] at e1;cases e1;rw[e2] at e4;exact absurd e4 8#16
 ·let⟨o,e1,e2,_⟩:=(show h.IsList a xs from p);let⟨o',e3,e4,_⟩:=(show h.IsListIter it a i from hi);rw[z,e3] at e1;cases e1;rw[e2] at e4;exact absurd e4 8#16
theorem yA {b:Bool} {h:Heap} {e a:Addr} {o:Obj} {xs:Array Value} (he:h.get? e=1#o) (n1:o.cls≠ .type "tuple") (n2:o.cls≠ .type "list") (p:cT b h a xs):e≠a:=λz=>by
 cases b
 ·let⟨o',e1,e2,_⟩:=(show h.IsTuple a xs from p);rw[←z,he] at e1;cases e1;exact n1 e2
 ·let⟨o',e1,e2,_⟩:=(show h.IsList a xs from p);rw[←z,he] at e1;cases e1;exact n2 e2
theorem eA {w:World} {A:Around} (b:Bool) (hh:A.handled=none) (it l:Addr) (ne:l≠it) (xs:Array Value):
  Draws prog w A it [it,l] xs.size (λi v=>xs[i]?=1#v) (λi h=>dS b h it l i/\cT b h l xs):=by
 cases b
 ·exact⟨λ_ _ st=>let ⟨o,h0,_⟩:=st.1.live;⟨o,h0⟩,λ_ _ _ st hk=>⟨st.1.at λo e=>hk it 8#5 o e,st.2.at λo e=>hk l 8#5 o e⟩,
   λi s Q E hi st hQ=>A8 st.1 st.2 (x:=xs[i]) (by simp[hi]) λh1 a1 a2=>hQ _ h1 s.toks (by simp[hi]) ⟨a1,st.2.at λo e=>a2.extBut _ _ ne e⟩ a2,λs Q E st hE=>Em hh st.1 st.2 8#5 hE⟩
 ·exact Draws.list hh it l ne xs
theorem Ba {w:World} {A:Around} {E:8#2} {s:9#4} {b:Bool} {l:Addr} {xs:Array Value} {Q:8#2} (hl:cT b s.heap l xs)
  (q:∀h1,dS b h1 s.heap.objs.size l 0->(∀c o,s.heap.get? c=1#o->h1.get? c=1#o)->h1.objs.size=s.heap.objs.size+1->Q 3#s.heap.objs.size {s with heap:=h1}):wpAny 9#2 A (pyIter 3#l) Q E s:=by
 cases b
 ·exact acW hl (q _ ⟨_,aak _ rfl,rfl,rfl⟩ (λc o e=>aad _ e) (aa0 ..))
 ·exact ab2 hl (q _ ⟨_,aak _ rfl,rfl,rfl⟩ (λc o e=>aad _ e) (aa0 ..))
section
variable {X:Cx} {pins:8#7} {σ:St} {H:Hp} {s:9#4} {a:Addr} {xs ys:2#V} {b:Bool}
theorem aO (I:8#1) (h:eP b X.K H a xs):∃its:2#Value,Vals xs its/\cT b s.heap a its.toArray/\0#xs<=sizeLine:=by
 cases b
 ·exact I.tuple h
 ·let⟨its,r,p,z⟩:=I.list h;exact⟨its,r,p.isList,z⟩
theorem oh (I:8#1) (h:eP b X.K H a xs) (h':eP b X.K H a ys):xs=ys:=by
 cases b
 ·exact I.ig h h'
 ·exact I.jg h h'
theorem iF {h':Heap} {t':Nat} {ch:2#Addr} (I:8#1) (hf:∀b∈ch,cK X pins H b) (k:∀b o,b∉ch->s.heap.get? b=1#o->h'.get? b=1#o):Inv X pins σ H {s with heap:=h',toks:=t'}:=by
 have nit:∀b u,H b=1#u->b∉ch:=λb u e z=>by
  rw[(hf b z).1] at e;cases e
 refine I.step (g':=s.gens) (d':=s.drawn) (ch:=ch) (λb hb=>⟨(hf b hb).2.2.2.1,(hf b hb).2.1,(hf b hb).2.2.2.2.1,(hf b hb).2.2.2.2.2⟩) (λb o _ _ hc e _=>k b o hc e) (λb o _ _ hc e _=>⟨o.slots,k b o hc e⟩) (λ_ _ _ _ n=>n)
  (λb o hc e=>⟨o,k b o hc e⟩) (λ_ _ e=>e) (λ_ _ _ e=>e) (λb ps e=>⟨#[],by rw[e];simp⟩) (λm hm=> ?_) (λb u e=> ?_) I.bare
 ·let⟨o,es,ep,ho,r⟩:=hm;exact⟨o,es,ep,k _ o (λz=>(hf _ z).2.1 rfl) ho,r⟩
 ·refine(I.ah b u e).i9 (λc v hc q=>k c v ?_ q) (λ_ q=>q) λ_ _ q=>q
  rcases hc with z|z
  ·rw[z];exact nit b u e
  ·exact nit c _ z
theorem pY {h':Heap} {t':Nat} {T:Addr} {ch:2#Addr} {x y:V} {u v:Value} (I:8#1) (hf:∀b∈ch,cK X pins H b) (k:∀b o,b∉ch->s.heap.get? b=1#o->h'.get? b=1#o) (hT:s.heap.objs.size<=T)
  (hp:h'.get? T=some {cls:= .type "tuple",data:= .seq #[u,v]}) (rx:RelV x u) (ry:RelV y v):Inv X pins σ (upd H T (.tup [x,y])) {s with heap:=h',toks:=t'}:=by
 have f:=I.jQ hT (I.ah.fresh hT);exact nM (iF (t':=t') I hf k) f.1 (abg (aaT I.sz hT)) f.2.1 f.2.2.2.2.1 f.2.2.2.2.2 ⟨by show 2<=sizeLine;decide,[u,v], .cons rx (.cons ry .nil),⟨_,hp,rfl,_,rfl⟩⟩
end
def B3 (K:8#4) (b:Bool) (a:Addr):It:=
 ⟨λi H=>∃xs x,eP b K H a xs/\xs[i]?=1#x,λi H x H'=>∃T y,x= 3#T/\H T=none/\H'=upd H T (.tup [6#i,y])/\∀xs,eP b K H a xs->xs[i]?=1#y,λi H=>∃xs,eP b K H a xs/\0#xs=i⟩
theorem xK {P:Program} {w:World} {K:8#4} {x1} (b:Bool) (a e it:Addr) (hei:e≠it):
  Turn P w K (.Tuple elts x1 pos) (B3 K b a) [e,it] e (λi h=>(∃old,IsEnum h e it i old)/\dS b h it a i) where
 mem:=by simp
 obj:=λi h st c hc=>by
  let⟨⟨old,he⟩,hi⟩:=st
  rcases aaq.mp hc with rfl|hc
  ·exact⟨_,he,λv z=>by cases z⟩
  ·rw[aaG.mp hc];exact hi.live
 keep:=λi h h' st k=>by
  let⟨⟨old,he⟩,hi⟩:=st;exact⟨⟨old,k e 8#5 _ he⟩,hi.at λo q=>k it 8#5 o q⟩
 item:=by
  intro X hP hw hK hc i pins s σ H E I hf st hg;subst hP hw hK;let⟨⟨old,he⟩,hi⟩:=st;let⟨xs,x,hq,hx⟩:=hg;let⟨its,rv,p,hz⟩:=aO I hq;let⟨u,hu,ru⟩:=rv.get hx;have ne:a≠it:=eZ hi p;have nea:e≠a:=yA he (by show Value.type "enumerate"≠Value.type "tuple";decide) (by show Value.type "enumerate"≠Value.type "list";decide) p;have D:=eA (prog:=X.prog) (w:=X.w) (A:=X.A.in1) b (I.ok.hd hc) it a ne its.toArray
  have hlt:i<its.toArray.size:=by
   have:=(aae.mp hu).1;simpa using this
  refine wpAny_pyNext_enum_itemD D he ⟨hi,p⟩ hlt hei (by simp[hei,nea]) λv h1 tk hv ho hs hT hsz hk=> ?_
  have ev:v=u:=by
   have hv':its[i]?=1#v:=by simpa using hv
   rw[hu] at hv';exact(Option.some.inj hv').symm
  subst ev;refine⟨_,rfl, ?_⟩;refine wpAny_letOwnedTupleGo_enum (s:={s with heap:=h1,toks:=tk+1}) ho λh2 he2 hs2=> ?_;replace hs2:Heap.SameBut e h1 h2:=hs2;have lte:e<s.heap.objs.size:=aam he;have hT2:h2.get? s.heap.objs.size=some {cls:= .type "tuple",data:= .seq #[.int i tk,v]}:=(hs2.2 _ (abJ lte)).trans hT;refine⟨3#s.heap.objs.size,upd H s.heap.objs.size (.tup [6#i,x]),pY (s:=s) (h':=h2) (t':=tk+1) I hf (λc o hc q=> ?_) (aah _) hT2 ⟨tk,rfl⟩ ru,rfl,⟨_,x,rfl,I.fresh,rfl,λys hy=> ?_⟩,⟨⟨v, ?_⟩, ?_⟩,λc hc=> ?_⟩
  ·have c1:c≠e:=λz=>hc (by simp[z]);have c2:c≠it:=λz=>hc (by simp[z]);exact(hs2.2 c c1).trans (hk c o c1 c2 q)
  ·rw[oh I hy hq];exact hx
  ·have:((i+1:Nat):Int)=(i:Int)+1:=by lia
   rw[this];exact he2
  ·exact hs.1.at λo q=>(hs2.2 it hei.symm).trans q
  ·have lc:c<s.heap.objs.size:=by
    rcases aaq.mp hc with rfl|hc
    ·exact lte
    ·rw[aaG.mp hc];let⟨o,q,_⟩:=hi.live;exact aam q
   rw[ar (aay lc)];exact(hf c hc).1
 done:=by
  intro X hP hw hK hc i pins s σ H E I hf st hg;subst hP hw hK;let⟨⟨old,he⟩,hi⟩:=st;let⟨xs,hq,hx⟩:=hg;let⟨its,rv,p,hz⟩:=aO I hq;have ne:a≠it:=eZ hi p;have D:=eA (prog:=X.prog) (w:=X.w) (A:=X.A.in1) b (I.ok.hd hc) it a ne its.toArray
  have en:i=its.toArray.size:=by
   have:=0#rv;simp;lia
  refine wpAny_pyNext_enum_endD D he (by rw[←en];exact⟨hi,p⟩) λh1 hk=>⟨rfl,iF (t':=s.toks) I hf λc o hc q=>hk c o (λz=>hc (by simp[z])) q⟩
 self:=λ_ _ _ _ _ st h=>by
  let⟨⟨old,he⟩,_⟩:=st;exact wpAny_pyIter_enum he h
def LD (K:8#4) (ta:TA):TI:=λσ H R=>ta σ H λvs H1=>∃a,vs=[3#a]/\(∃xs,bN K H1 a xs)/\R (B3 K true a) H1
theorem Dv {X:Cx} {a:Expr} {x1} {tp:Pos} {ta:TA} {p:Pos} (hg:Gl X "enumerate") (hm:X.mg "enumerate"=none) (ha:PA X [a] ta) (hs:starEach [a] X.env=[(false,eval a X.env)]:=by rfl):
  PI X (.Tuple elts x1 tp) (.Call (.Name "enumerate" p) [a] [] pos) (LD X.K ta):=by
 intro pins s σ H R I h;refine Call_ (fH I hg hm PyProof.Rows.boot_enumerate (abi (az (ha pos pins s σ H _ I h) λus s1 z902=> ?_) hs rfl));let⟨vs,H1,I1,r1,q1⟩:=z902;let⟨l,e,⟨xs,hq⟩,q⟩:=q1;subst e
 cases r1 with
 |cons r rr=>
  cases rr;cases r;let⟨its,rv,g,hz⟩:=I1.list hq;refine call_enumerate_list g.isList λh' he hi hsz hk=>wpAny_pyIter_enum (s:={s1 with heap:=h'}) he ?_;refine⟨s1.heap.objs.size+1,[s1.heap.objs.size+1,s1.heap.objs.size],_,_,H1,rfl,I1.kept (t':=s1.toks) hk,xK true l _ _ (Nat.succ_ne_self _),⟨⟨_,he⟩,hi⟩,λb hb=> ?_,q⟩
  have le:s1.heap.objs.size<=b:=by
   rcases aaq.mp hb with rfl|hb
   ·exact adh _
   ·rw[aaG.mp hb];exact aah _
  exact I1.jQ le (I1.ah.fresh le)
structure ZApart (z TI TO i1 i2:Addr) (f1 f2:2#Addr):Prop where
 TIz:TI≠z
 TOz:TO≠z
 i1z:i1≠z
 i2z:i2≠z
 TIO:TI≠TO
 TI1:TI≠i1
 TI2:TI≠i2
 TO1:TO≠i1
 TO2:TO≠i2
 i12:i1≠i2
 z1:z∉f1
 o1:TO∉f1
 j1:i2∉f1
 z2:z∉f2
 o2:TO∉f2
 j2:i1∉f2
section
variable {prog:Program} {w:World} {A:Around} {E:8#2} {s:9#4} {z TI TO i1 i2:Addr} {f1 f2:2#Addr} {n1 n2 k:Nat} {P1 P2:Nat->Value->Prop} {S1 S2:Nat->Heap->Prop} {a b:Value}
theorem ba {n i:Nat} {P:Nat->Value->Prop} {S:Nat->Heap->Prop} {c:Addr} (D:Draws prog w A it fp n P S) (st:S i h) (hs:Heap.ExtBut c h h1) (hc:c∉fp):S i h1:=
 D.frame _ _ _ st λd hd o e=>hs d o (λq=>hc (q▸hd)) e
theorem za {Q:8#2} (D1:Draws prog w A i1 f1 n1 P1 S1) (D2:Draws prog w A i2 f2 n2 P2 S2) (Z:ZApart z TI TO i1 i2 f1 f2) (gz:IsZip s.heap z TI TO .none) (gI:IsPair s.heap TI 3#i1 3#i2) (gO:IsPair s.heap TO a b)
  (s1:S1 k s.heap) (s2:S2 k s.heap) (k1:k<n1) (k2:k<n2)
  (q:∀x y h1 tk,P1 k x->P2 k y->IsZip h1 z TI TO (rawInt s.heap.objs.size)->IsPair h1 TO x y->S1 (k+1) h1->S2 (k+1) h1->IsPair h1 s.heap.objs.size x y->
   (∀c o,c≠z->c≠TO->c≠i1->c≠i2->s.heap.get? c=1#o->h1.get? c=1#o)->Q 3#s.heap.objs.size {s with heap:=h1,toks:=tk}):
  wpAny 9#2 A (Builtin.«zip.__next__» ⟨[3#z],[]⟩) (λfin t=>∃v,fin= .done (.ret v)/\Q v t) E s:=by
 show wpAny _ _ (field 3#z 2>>=_) _ _ _;refine aaa (aaE gz rfl (x:= .bool false) rfl ?_);show wpAny _ _ (field 3#z 3>>=_) _ _ _;refine aaa (aaE gz rfl (x:= 3#TI) rfl ?_);refine aaa (abh gI rfl ?_);show wpAny _ _ (Builtin.SmallTypes.ownedTupleIsFree 3#z>>=_) _ _ _;refine aaa ?_;unfold Builtin.SmallTypes.ownedTupleIsFree;refine aaa (aaE gz rfl (x:= .none) rfl (aaf ?_));simp only[abX];refine aaa (acI ?_);refine aaa (aaE gz rfl (x:= 3#TO) rfl ?_);refine aaa (abw gz 8#5 λh1 gz1 e1=> ?_);replace gz1:IsZip h1 z TI TO .ellipsis:=gz1;replace e1:Heap.SameBut z s.heap h1:=e1;refine aaa ?_;simp only[ac7,adb,acb,acg];refine aaa (aaa (acu ?_));show wpAny _ _ (Builtin.SmallTypes.nextOf 3#i1>>=_) _ _ _;refine aaa (D1.item k _ _ _ k1 (ba D1 s1 e1.extBut Z.z1) λx h2 t2 px s12 e2=>aaf ?_);replace e2:Heap.SameBut i1 h1 h2:=e2;have gO2:IsPair h2 TO a b:=e2.extBut _ _ Z.TO1 (e1.extBut _ _ Z.TOz gO);refine aaa (abh (s:={s with heap:=h2,toks:=t2}) gO2 rfl ?_);refine aaa (acJ (s:={s with heap:=h2,toks:=t2}) gO2 λh3 gO3 e3=> ?_);replace gO3:IsPair h3 TO x b:=gO3;replace e3:Heap.SameBut TO h2 h3:=e3;refine aaa (acR (aaf ?_));refine aaa (aaa (acu ?_));show wpAny _ _ (Builtin.SmallTypes.nextOf 3#i2>>=_) _ _ _;have s23:S2 k h3:=ba D2 (ba D2 (ba D2 s2 e1.extBut Z.z2) e2.extBut Z.j2) e3.extBut Z.o2;refine aaa (D2.item k _ _ _ k2 s23 λy h4 t4 py s24 e4=>aaf ?_);replace e4:Heap.SameBut i2 h3 h4:=e4;have gO4:IsPair h4 TO x b:=e4.extBut _ _ Z.TO2 gO3;refine aaa (abh (s:={s with heap:=h4,toks:=t4}) gO4 rfl ?_);refine aaa (acJ (s:={s with heap:=h4,toks:=t4}) gO4 λh5 gO5 e5=> ?_);replace gO5:IsPair h5 TO x y:=gO5
 replace e5:Heap.SameBut TO h4 h5:=e5;refine aaa (acR (aaf (aaf ?_)));refine aaa (abh (s:={s with heap:=h5,toks:=t4}) gO5 rfl ?_);refine aaa (wpAny_newTuple ?_)
 have sz:h5.objs.size=s.heap.objs.size:=by rw[e5.1,e4.1,e3.1,e2.1,e1.1]
 have gz5:IsZip h5 z TI TO .ellipsis:=e5.extBut _ _ Z.TOz.symm (e4.extBut _ _ Z.i2z.symm (e3.extBut _ _ Z.TOz.symm (e2.extBut _ _ Z.i1z.symm gz1)));have k5:∀c o,c≠z->c≠TO->c≠i1->c≠i2->s.heap.get? c=1#o->h5.get? c=1#o:=λc o c1 c2 c3 c4 e=>e5.extBut _ _ c2 (e4.extBut _ _ c4 (e3.extBut _ _ c2 (e2.extBut _ _ c3 (e1.extBut _ _ c1 e))));have s15:S1 (k+1) h5:=ba D1 (ba D1 (ba D1 s12 e3.extBut Z.o1) e4.extBut Z.j1) e5.extBut Z.o1;have s25:S2 (k+1) h5:=ba D2 s24 e5.extBut Z.o2;have zlt:z<h5.objs.size:=aam gz5;show wpAny _ _ (Builtin.SmallTypes.ownedTupleHandOut 3#z 3#h5.objs.size>>=_) _ _ _;refine aaa ?_;unfold Builtin.SmallTypes.ownedTupleHandOut;have gz6:IsZip (h5.push {cls:= .type "tuple",data:= .seq #[x,y]}) z TI TO .ellipsis:=aad _ gz5;refine aaa (abw gz6 8#5 λh7 gz7 e7=> ?_);replace gz7:IsZip h7 z TI TO (rawInt h5.objs.size):=gz7;refine abw gz7 8#5 λh8 gz8 e8=> ?_;replace gz8:IsZip h8 z TI TO (rawInt h5.objs.size):=gz8;have up:∀c o,c≠z->h5.get? c=1#o->h8.get? c=1#o:=λc o c1 e=>e8.extBut _ _ c1 (e7.extBut _ _ c1 (aad _ e));have gT:IsPair h8 h5.objs.size x y:=e8.extBut _ _ (abJ zlt) (e7.extBut _ _ (abJ zlt) (aak _ rfl));rw[sz] at gz8 gT;refine aaf ⟨_,rfl, ?_⟩;show Q 3#h5.objs.size _;rw[sz];exact q x y h8 t4 px py gz8 (up _ _ Z.TOz gO5) (D1.frame _ _ _ s15 λd hd o e=>up d o (λq=>Z.z1 (q▸hd)) e) (D2.frame _ _ _ s25 λd hd o e=>up d o (λq=>Z.z2 (q▸hd)) e) gT λc o c1 c2 c3 c4 e=>up c o c1 (k5 c o c1 c2 c3 c4 e)
theorem A5 {Q:Fin->Shared->Prop} (D1:Draws prog w A i1 f1 n1 P1 S1) (Z:ZApart z TI TO i1 i2 f1 f2) (gz:IsZip s.heap z TI TO .none) (gI:IsPair s.heap TI 3#i1 3#i2) (s1:S1 n1 s.heap)
  (q:∀h1 e,(∀c o,c≠z->c≠i1->s.heap.get? c=1#o->h1.get? c=1#o)->(∃o,h1.get? e=1#o/\o.cls= .type "StopIteration")->E 3#e {s with heap:=h1}):
  wpAny 9#2 A (Builtin.«zip.__next__» ⟨[3#z],[]⟩) Q E s:=by
 show wpAny _ _ (field 3#z 2>>=_) _ _ _;refine aaa (aaE gz rfl (x:= .bool false) rfl ?_);show wpAny _ _ (field 3#z 3>>=_) _ _ _;refine aaa (aaE gz rfl (x:= 3#TI) rfl ?_);refine aaa (abh gI rfl ?_);show wpAny _ _ (Builtin.SmallTypes.ownedTupleIsFree 3#z>>=_) _ _ _;refine aaa ?_;unfold Builtin.SmallTypes.ownedTupleIsFree;refine aaa (aaE gz rfl (x:= .none) rfl (aaf ?_));simp only[abX];refine aaa (acI ?_);refine aaa (aaE gz rfl (x:= 3#TO) rfl ?_);refine aaa (abw gz 8#5 λh1 gz1 e1=> ?_);replace gz1:IsZip h1 z TI TO .ellipsis:=gz1;replace e1:Heap.SameBut z s.heap h1:=e1;refine aaa ?_;simp only[ac7,adb,acb,acg];refine aaa (aaa (acu ?_));show wpAny _ _ (Builtin.SmallTypes.nextOf 3#i1>>=_) _ _ _;refine aaa (D1.done _ _ _ (ba D1 s1 e1.extBut Z.z1) λh2 e e2 he=> ?_);let⟨oe,hoe,hce⟩:=he;replace e2:Heap.ExtBut i1 h1 h2:=e2;have gz2:IsZip h2 z TI TO .ellipsis:=e2 _ _ Z.i1z.symm gz1
 have ez:e≠z:=λq=>by
  subst q;replace hoe:h2.get? e=1#oe:=hoe;rw[gz2] at hoe;cases hoe;exact absurd hce (by show Value.type "zip"≠Value.type "StopIteration";decide)
 refine abw (s:={s with heap:=h2}) gz2 8#5 λh3 _ e3=>q h3 e (λc o c1 c2 x=>e3.extBut _ _ c1 (e2 _ _ c2 (e1.extBut _ _ c1 x))) ⟨oe,e3.extBut _ _ ez hoe,hce⟩
theorem yc {Q:Fin->Shared->Prop} (D1:Draws prog w A i1 f1 n1 P1 S1) (D2:Draws prog w A i2 f2 n2 P2 S2) (Z:ZApart z TI TO i1 i2 f1 f2) (gz:IsZip s.heap z TI TO .none) (gI:IsPair s.heap TI 3#i1 3#i2) (gO:IsPair s.heap TO a b) (s1:S1 k s.heap) (k1:k<n1) (s2:S2 n2 s.heap)
  (q:∀h1 tk e,(∀c o,c≠z->c≠TO->c≠i1->c≠i2->s.heap.get? c=1#o->h1.get? c=1#o)->(∃o,h1.get? e=1#o/\o.cls= .type "StopIteration")->E 3#e {s with heap:=h1,toks:=tk}):
  wpAny 9#2 A (Builtin.«zip.__next__» ⟨[3#z],[]⟩) Q E s:=by
 show wpAny _ _ (field 3#z 2>>=_) _ _ _;refine aaa (aaE gz rfl (x:= .bool false) rfl ?_);show wpAny _ _ (field 3#z 3>>=_) _ _ _;refine aaa (aaE gz rfl (x:= 3#TI) rfl ?_);refine aaa (abh gI rfl ?_);show wpAny _ _ (Builtin.SmallTypes.ownedTupleIsFree 3#z>>=_) _ _ _;refine aaa ?_;unfold Builtin.SmallTypes.ownedTupleIsFree;refine aaa (aaE gz rfl (x:= .none) rfl (aaf ?_));simp only[abX];refine aaa (acI ?_);refine aaa (aaE gz rfl (x:= 3#TO) rfl ?_);refine aaa (abw gz 8#5 λh1 gz1 e1=> ?_);replace gz1:IsZip h1 z TI TO .ellipsis:=gz1;replace e1:Heap.SameBut z s.heap h1:=e1;refine aaa ?_;simp only[ac7,adb,acb,acg];refine aaa (aaa (acu ?_));show wpAny _ _ (Builtin.SmallTypes.nextOf 3#i1>>=_) _ _ _;refine aaa (D1.item k _ _ _ k1 (ba D1 s1 e1.extBut Z.z1) λx h2 t2 px s12 e2=>aaf ?_);replace e2:Heap.SameBut i1 h1 h2:=e2;have gO2:IsPair h2 TO a b:=e2.extBut _ _ Z.TO1 (e1.extBut _ _ Z.TOz gO);refine aaa (abh (s:={s with heap:=h2,toks:=t2}) gO2 rfl ?_);refine aaa (acJ (s:={s with heap:=h2,toks:=t2}) gO2 λh3 gO3 e3=> ?_);replace e3:Heap.SameBut TO h2 h3:=e3;refine aaa (acR (aaf ?_));refine aaa (aaa (acu ?_));show wpAny _ _ (Builtin.SmallTypes.nextOf 3#i2>>=_) _ _ _;refine aaa (D2.done _ _ _ (ba D2 (ba D2 (ba D2 s2 e1.extBut Z.z2) e2.extBut Z.j2) e3.extBut Z.o2) λh4 e e4 he=> ?_);let⟨oe,hoe,hce⟩:=he;replace e4:Heap.ExtBut i2 h3 h4:=e4;have gz4:IsZip h4 z TI TO .ellipsis:=e4 _ _ Z.i2z.symm (e3.extBut _ _ Z.TOz.symm (e2.extBut _ _ Z.i1z.symm gz1))
 have ez:e≠z:=λq=>by
  subst q;replace hoe:h4.get? e=1#oe:=hoe;rw[gz4] at hoe;cases hoe;exact absurd hce (by show Value.type "zip"≠Value.type "StopIteration";decide)
 exact abw (s:={s with heap:=h4,toks:=t2}) gz4 8#5 λh5 _ e5=>q h5 t2 e (λc o c1 c2 c3 c4 x=>e5.extBut _ _ c1 (e4 _ _ c4 (e3.extBut _ _ c2 (e2.extBut _ _ c3 (e1.extBut _ _ c1 x))))) ⟨oe,e5.extBut _ _ ez hoe,hce⟩
end
noncomputable def itN (b:Bool):String:=cond b "list_iterator" "tuple_iterator"
def iO (b:Bool) (l:Addr):Obj:={cls:= .type (itN b),data:= .fields #[3#l, .int 0 0]}
theorem dS.of {b:Bool} {h:Heap} {l:Addr} (e:h.get? it=1#(iO b l)):dS b h it l 0:=by
 cases b
 ·exact⟨_,e,rfl,rfl⟩
 ·exact⟨_,e,rfl,rfl⟩
theorem cT.push {b:Bool} {h:Heap} {l:Addr} {xs:Array Value} (x:cT b h l xs) (o:Obj):cT b (h.push o) l xs:=x.at λ_ e=>aad _ e
theorem cT.lt {b:Bool} {h:Heap} {l:Addr} {xs:Array Value} (x:cT b h l xs):l<h.objs.size:=by
 cases b
 ·let⟨o,e,_⟩:=(show h.IsTuple l xs from x);exact aam e
 ·let⟨o,e,_⟩:=(show h.IsList l xs from x);exact aam e
section
variable {prog:Program} {w:World} {A:Around} {E:8#2} {s:9#4}
theorem pA {b:Bool} {l:Addr} {xs:Array Value} {Q:8#2} (hl:cT b s.heap l xs) (q:Q 3#s.heap.objs.size {s with heap:=s.heap.push (iO b l)}):wpAny 9#2 A (pyIter 3#l) Q E s:=by
 cases b
 ·exact acW hl q
 ·exact ab2 hl q
end
abbrev Cp (b1:Bool) (h:Heap) (l1:Addr):Heap:=h.push (iO b1 l1)
abbrev B6 (b1 b2:Bool) (h:Heap) (l1 l2:Addr):Heap:=(Cp b1 h l1).push (iO b2 l2)
abbrev B2 (b1 b2:Bool) (h:Heap) (l1 l2:Addr):Heap:=(B6 b1 b2 h l1 l2).push {cls:= .type "tuple",data:= .seq #[3#h.objs.size, 3#(Cp b1 h l1).objs.size]}
abbrev Cb (b1 b2:Bool) (h:Heap) (l1 l2:Addr):Heap:=(B2 b1 b2 h l1 l2).push {cls:= .type "tuple",data:= .seq #[.none, .none]}
abbrev uB (b1 b2:Bool) (h:Heap) (l1 l2:Addr):Heap:=(Cb b1 b2 h l1 l2).push {cls:= .type "zip",data:= .fields #[.none, .bool false, .bool false, 3#(B6 b1 b2 h l1 l2).objs.size, 3#(B2 b1 b2 h l1 l2).objs.size]}
theorem Aa (b1 b2:Bool) (l1 l2:Addr) (xs ys:Array Value):Meets (Builtin.«zip.__new__» ⟨[.type "zip", 3#l1, 3#l2],[]⟩)
  (λ_ R s=>cT b1 s.heap l1 xs/\cT b2 s.heap l2 ys/\R (.ok (.ret 3#(Cb b1 b2 s.heap l1 l2).objs.size)) {s with heap:=uB b1 b2 s.heap l1 l2}):=
 .of_wp λprog w A R s h=>by
  let⟨hp,g,d,tk,os⟩:=s;let⟨g1,g2,h⟩:=h;have hsub:=sub_zip;have k1:cT b1 (Shared.heap ⟨hp,g,d,tk,os⟩) l1 xs:=g1;have k2:cT b2 (Shared.heap ⟨hp.push (iO b1 l1),g,d,tk,os⟩) l2 ys:=cT.push g2 _
  wp_walk using pA k1,pA k2
  exact⟨_,rfl,h⟩
theorem Bo {w:World} {A:Around} {E:8#2} {s:9#4} {b1 b2:Bool} {xs ys:Array Value} {Q:8#2} (g1:cT b1 s.heap l1 xs) (g2:cT b2 s.heap l2 ys)
  (q:∀h1,IsZip h1 (s.heap.objs.size+4) (s.heap.objs.size+2) (s.heap.objs.size+3) .none->IsPair h1 (s.heap.objs.size+2) 3#s.heap.objs.size 3#8#11->IsPair h1 (s.heap.objs.size+3) .none .none->
   dS b1 h1 s.heap.objs.size l1 0->dS b2 h1 8#11 l2 0->(∀c o,s.heap.get? c=1#o->h1.get? c=1#o)->Q 3#(s.heap.objs.size+4) {s with heap:=h1}):
  wpAny 9#2 A (call (.type "zip") [3#l1, 3#l2]) Q E s:=by
 refine callType_new F.called_zip 8#16 (F.typeCall_zip_2 _ _) (F.newCall_zip_2 _ _) (λobj=>F.args_object_init_3 obj _ _) F.entry_zip_new (Aa b1 b2 l1 l2 xs ys) ⟨g1,g2, ?_⟩;have z1:(Cp b1 s.heap l1).objs.size=s.heap.objs.size+1:=aa0 ..
 have z2:(B6 b1 b2 s.heap l1 l2).objs.size=s.heap.objs.size+2:=by rw[aa0,z1]
 have z3:(B2 b1 b2 s.heap l1 l2).objs.size=s.heap.objs.size+3:=by rw[aa0,z2]
 have z4:(Cb b1 b2 s.heap l1 l2).objs.size=s.heap.objs.size+4:=by rw[aa0,z3]
 have y5:(uB b1 b2 s.heap l1 l2).get? (Cb b1 b2 s.heap l1 l2).objs.size=1#_:=aak _ rfl;have y4:(uB b1 b2 s.heap l1 l2).get? (B2 b1 b2 s.heap l1 l2).objs.size=1#_:=aad _ (aak _ rfl);have y3:(uB b1 b2 s.heap l1 l2).get? (B6 b1 b2 s.heap l1 l2).objs.size=1#_:=aad _ (aad _ (aak _ rfl));have y2:(uB b1 b2 s.heap l1 l2).get? (Cp b1 s.heap l1).objs.size=1#_:=aad _ (aad _ (aad _ (aak _ rfl)));have y1:(uB b1 b2 s.heap l1 l2).get? s.heap.objs.size=1#_:=aad _ (aad _ (aad _ (aad _ (aak _ rfl))));show _/\_;rw[z2,z3,z4] at y5;rw[z1,z2] at y3;rw[z3] at y4;rw[z1] at y2;rw[z4];exact⟨⟨_,y5,rfl⟩,q _ y5 y3 y4 (dS.of y1) (dS.of y2) λc o x=>aad _ (aad _ (aad _ (aad _ (aad _ x))))⟩
def Cf (K:8#4) (b1:Bool) (l1:Addr) (b2:Bool) (l2:Addr):It:=
 ⟨λi H=>∃xs ys x y,eP b1 K H l1 xs/\eP b2 K H l2 ys/\xs[i]?=1#x/\ys[i]?=1#y,
 λi H x H'=>∃T u v,x= 3#T/\H T=none/\H'=upd H T (.tup [u,v])/\(∀xs,eP b1 K H l1 xs->xs[i]?=1#u)/\∀ys,eP b2 K H l2 ys->ys[i]?=1#v,
 λi H=>∃xs,eP b1 K H l1 xs/\(0#xs=i∨i<0#xs/\∃ys,eP b2 K H l2 ys/\0#ys=i)⟩
theorem AE {P:Program} {w:World} {K:8#4} {x1} (b1 b2:Bool) (l1 l2 z TI TO i1 i2:Addr) (Z:ZApart z TI TO i1 i2 [i1,l1] [i2,l2]):
  Turn P w K (.Tuple elts x1 pos) (Cf K b1 l1 b2 l2) [z,TI,TO,i1,i2] z (λi h=>IsZip h z TI TO .none/\IsPair h TI 3#i1 3#i2/\(∃a b,IsPair h TO a b)/\dS b1 h i1 l1 i/\dS b2 h i2 l2 i) where
 mem:=by simp
 obj:=λi h st c hc=>by
  let⟨g1,g2,⟨a,b,g3⟩,g4,g5⟩:=st;simp only[aaq,ab8,or_false] at hc
  rcases hc with rfl|rfl|rfl|rfl|rfl
  ·exact⟨_,g1,λv q=>by cases q⟩
  ·exact⟨_,g2,λv q=>by cases q⟩
  ·exact⟨_,g3,λv q=>by cases q⟩
  ·exact g4.live
  ·exact g5.live
 keep:=λi h h' st k=>by
  let⟨g1,g2,⟨a,b,g3⟩,g4,g5⟩:=st;exact⟨k z 8#5 _ g1,k TI 8#5 _ g2,⟨a,b,k TO 8#5 _ g3⟩,g4.at λo q=>k i1 8#5 o q,g5.at λo q=>k i2 8#5 o q⟩
 item:=by
  intro X hP hw hK hc i pins s σ H E I hf st hg;subst hP hw hK;let⟨g1,g2,⟨a,b,g3⟩,g4,g5⟩:=st;let⟨xs,ys,x,y,hx,hy,ex,ey⟩:=hg;let⟨its,rv,p,_⟩:=aO I hx;let⟨jts,rw',p',_⟩:=aO I hy;let⟨u,hu,ru⟩:=rv.get ex;let⟨v,hv,rv'⟩:=rw'.get ey;have D1:=eA (prog:=X.prog) (w:=X.w) (A:=X.A.in1) b1 (I.ok.hd hc) i1 l1 (eZ g4 p) its.toArray;have D2:=eA (prog:=X.prog) (w:=X.w) (A:=X.A.in1) b2 (I.ok.hd hc) i2 l2 (eZ g5 p') jts.toArray
  have q1:i<its.toArray.size:=by
   have:=(aae.mp hu).1;simpa using this
  have q2:i<jts.toArray.size:=by
   have:=(aae.mp hv).1;simpa using this
  have hT:s.TypeIs 3#z "zip":=⟨_,g1,rfl⟩;unfold pyNext
  refine aaa (acv (aaZ (name:=Str.ofString "__next__") hT acE (abe acE hT F.entry_zip_next
   (za D1 D2 Z g1 g2 g3 ⟨g4,p⟩ ⟨g5,p'⟩ q1 q2 λu' v' h1 tk pu pv z1 z2 z3 z4 z5 hk=>aaf ?_) (F.args_zip_next_1 _))))
  have eu:u'=u:=by
   have h0:its[i]?=1#u':=by simpa using pu
   rw[hu] at h0;exact(Option.some.inj h0).symm
  have ev:v'=v:=by
   have h0:jts[i]?=1#v':=by simpa using pv
   rw[hv] at h0;exact(Option.some.inj h0).symm
  subst eu ev
  have lt:∀c∈[z,TI,TO,i1,i2],c<s.heap.objs.size:=λc hc=>by
   simp only[aaq,ab8,or_false] at hc
   rcases hc with rfl|rfl|rfl|rfl|rfl
   ·exact aam g1
   ·exact aam g2
   ·exact aam g3
   ·let⟨o,q,_⟩:=g4.live;exact aam q
   ·let⟨o,q,_⟩:=g5.live;exact aam q
  refine⟨_,rfl,wpAny_letOwnedTupleGo_zip (s:={s with heap:=h1,toks:=tk}) z1 λh2 y1 y2=> ?_⟩;replace y2:Heap.SameBut z h1 h2:=y2;have hT2:h2.get? s.heap.objs.size=some {cls:= .type "tuple",data:= .seq #[u',v']}:=(y2.2 _ (abJ (lt z 8#5))).trans z5;refine⟨3#s.heap.objs.size,upd H s.heap.objs.size (.tup [x,y]),pY (s:=s) (h':=h2) (t':=tk) I hf (λc o hc q=> ?_) (aah _) hT2 ru rv',rfl,⟨_,x,y,rfl,I.fresh,rfl,λzs hz=> ?_,λzs hz=> ?_⟩,⟨y1, ?_,⟨_,_,(y2.2 _ Z.TOz).trans z2⟩,z3.1.at λo q=>(y2.2 _ Z.i1z).trans q,z4.1.at λo q=>(y2.2 _ Z.i2z).trans q⟩,λc hc=> ?_⟩
  ·have c1:c≠z:=λq=>hc (by simp[q]);exact(y2.2 c c1).trans (hk c o c1 (λq=>hc (by simp[q])) (λq=>hc (by simp[q])) (λq=>hc (by simp[q])) q)
  ·rw[oh I hz hx];exact ex
  ·rw[oh I hz hy];exact ey
  ·exact(y2.2 _ Z.TIz).trans (hk _ _ Z.TIz Z.TIO Z.TI1 Z.TI2 g2)
  ·rw[ar (aay (lt c hc))];exact(hf c hc).1
 done:=by
  intro X hP hw hK hc i pins s σ H E I hf st hg;subst hP hw hK;let⟨g1,g2,⟨a,b,g3⟩,g4,g5⟩:=st;let⟨xs,hx,ex⟩:=hg;let⟨its,rv,p,_⟩:=aO I hx;have D1:=eA (prog:=X.prog) (w:=X.w) (A:=X.A.in1) b1 (I.ok.hd hc) i1 l1 (eZ g4 p) its.toArray;have ln:=0#rv;have hT:s.TypeIs 3#z "zip":=⟨_,g1,rfl⟩;unfold pyNext;refine aaa (acv (aaZ (name:=Str.ofString "__next__") hT acE (abe acE hT F.entry_zip_next ?_ (F.args_zip_next_1 _))))
  rcases ex with ex|⟨ex,ys,hy,ey⟩
  ·have en:i=its.toArray.size:=by
    simp;lia
   refine A5 D1 Z g1 g2 (by rw[←en];exact⟨g4,p⟩) λh1 e hk he=> ?_;let⟨oe,h0,h2⟩:=he;refine aaa (wpAny_isInstance (T:="StopIteration") (b:=true) ⟨oe,h0,h2⟩ isSubtype_stop ?_);exact aaf ⟨rfl,iF (t':=s.toks) I hf λc o hc q=>hk c o (λq=>hc (by simp[q])) (λq=>hc (by simp[q])) q⟩
  ·let⟨jts,rw',p',_⟩:=aO I hy;have D2:=eA (prog:=X.prog) (w:=X.w) (A:=X.A.in1) b2 (I.ok.hd hc) i2 l2 (eZ g5 p') jts.toArray;have ln2:=0#rw'
   have en:i=jts.toArray.size:=by
    simp;lia
   refine yc D1 D2 Z g1 g2 g3 ⟨g4,p⟩ (by simp;lia) (by rw[←en];exact⟨g5,p'⟩) λh1 tk e hk he=> ?_;let⟨oe,h0,h2⟩:=he;refine aaa (wpAny_isInstance (T:="StopIteration") (b:=true) ⟨oe,h0,h2⟩ isSubtype_stop ?_);exact aaf ⟨rfl,iF (t':=tk) I hf λc o hc q=>hk c o (λq=>hc (by simp[q])) (λq=>hc (by simp[q])) (λq=>hc (by simp[q])) (λq=>hc (by simp[q])) q⟩
 self:=λ_ _ _ _ _ st h=>wpAny_pyIter_zip st.1 h
theorem zap {n l1 l2:Nat} (h1:l1<n) (h2:l2<n):ZApart (n+4) (n+2) (n+3) n (n+1) [n,l1] [n+1,l2]:=by
 constructor
 all_goals
  intro q
  try simp only[aaq,ab8,or_false] at q
  have q':_:=q
  first|(exact absurd q (by show¬(_:Nat)=_;lia))|(rcases q with q|q<;>exact absurd q (by show¬(_:Nat)=_;lia))
def KH (K:8#4) (ta:TA):TI:=λσ H R=>ta σ H λvs H1=>∃a c b1 b2,vs=[3#a, 3#c]/\(∃xs,eP b1 K H1 a xs)/\(∃ys,eP b2 K H1 c ys)/\R (Cf K b1 a b2 c) H1
theorem Hb {X:Cx} {a c:Expr} {x1} {tp:Pos} {ta:TA} {p:Pos} (hg:Gl X "zip") (hm:X.mg "zip"=none) (ha:PA X [a,c] ta) (hs:starEach [a,c] X.env=[(false,eval a X.env),(false,eval c X.env)]:=by rfl) (hs2:starEach [c] X.env=[(false,eval c X.env)]:=by rfl):
  PI X (.Tuple elts x1 tp) (.Call (.Name "zip" p) [a,c] [] pos) (KH X.K ta):=by
 intro pins s σ H R I h;refine Call_ (fH I hg hm PyProof.Rows.Boot.«zip» (abi (az (ha pos pins s σ H _ I h) λus s1 z902=> ?_) (by rw[hs,hs2]) (by rw[hs2];rfl)));let⟨vs,H1,I1,r1,q1⟩:=z902;let⟨l1,l2,b1,b2,e,⟨xs,hx⟩,⟨ys,hy⟩,q⟩:=q1;subst e
 cases r1 with
 |cons r rr=>
  cases rr with
  |cons r' rr=>
   cases rr;cases r;cases r';let⟨its,rv,g1,_⟩:=aO I1 hx;let⟨jts,rw',g2,_⟩:=aO I1 hy;have lt1:=g1.lt;have lt2:=g2.lt;refine Bo g1 g2 λh1 z1 z2 z3 z4 z5 hk=>wpAny_pyIter_zip (s:={s1 with heap:=h1}) z1 ?_;refine⟨s1.heap.objs.size+4,[s1.heap.objs.size+4,s1.heap.objs.size+2,s1.heap.objs.size+3,s1.heap.objs.size,s1.heap.objs.size+1],_,_,H1,rfl,I1.kept (t':=s1.toks) hk,AE b1 b2 l1 l2 _ _ _ _ _ (zap lt1 lt2),⟨z1,z2,⟨_,_,z3⟩,z4,z5⟩,λb hb=> ?_,q⟩
   have le:s1.heap.objs.size<=b:=by
    simp only[aaq,ab8,or_false] at hb
    rcases hb with rfl|rfl|rfl|rfl|rfl
    ·exact acx _ _
    ·exact acx _ _
    ·exact acx _ _
    ·exact aah _
    ·exact acx _ _
   exact I1.jQ le (I1.ah.fresh le)
def Ci (K:8#4):2#V->Hp->VK->Prop:=λxs H Q=>∃x t n b,xs=[x, .ty n]/\fe K H x t/\PySem.W.kitOne K t (.type n)=1#b/\Q (.bl b) H
theorem yO {X:Cx}:aC X (.builtin "isinstance") (Ci X.K):=by
 intro pins s σ H xs us Q I r h;let⟨x,t,n,b,rfl,ty,kb,q⟩:=h;let⟨u,v,rfl,r1,r2⟩:=Vals.two r;cases r2;exact yJ I r1 ty kb λtk=>⟨.bl b,H,I.tok tk,rfl,q⟩
def K4 (K:8#4):2#V->Hp->VK->Prop:=λxs H Q=>∃p,∃ys:2#Bool,xs=[3#p]/\bN K H p (ys.map V.bl)/\Q (.bl (ys.all id)) H
theorem range_all (ys:2#Bool):(List.range 0#ys).all (λi=>(ys[i]?).getD true)=ys.all id:=by
 rw[aaA,abo,abo];constructor
 ·intro h y hy;let⟨i,hi,e⟩:=List.getElem_of_mem hy;have:=h i (abf.mpr hi);rw[aac hi,e] at this;exact this
 ·intro h i hi;have hi':=abf.mp hi;rw[aac hi'];exact h _ (List.getElem_mem hi')
theorem A7 {X:Cx} (hc:X.calm=true):aC X (.builtin "all") (K4 X.K):=by
 intro pins s σ H xs us Q I r h;let⟨p,ys,rfl,hp,q⟩:=h;let⟨u,rfl,r1⟩:=Vals.one r;cases r1;let⟨its,rv,g,hz⟩:=I.list hp
 have lt:p<s.heap.objs.size:=by
  let⟨o,n,e,_⟩:=g;exact aam e
 have hl:0#its=0#ys:=by rw[←0#rv,aaz]
 have hsz:its.toArray.size=0#ys:=by rw[aaj,hl]
 refine call_all_walk (ab2 g.isList ⟨s.heap.objs.size,[s.heap.objs.size,p],[s.heap.objs.size],its.toArray.size,_,_,λi=>(ys[i]?).getD true,rfl,Walks.list (A:=X.A.in1) (I.ok.hd hc) s.heap.objs.size p (aay lt) its.toArray,
  ⟨⟨_,aak _ rfl,rfl,rfl⟩,g.isList.push _⟩,λi v s1 Q1 E1 hv hq=> ?_,λh' tk hk=> ?_⟩)
 ·have hv':its[i]?=1#v:=by simpa using hv
  have hi:i<0#ys:=by
   have:=(aae.mp hv').1;lia
  let⟨w',hw,rw'⟩:=rv.get (i:=i) (x:=V.bl ys[i]) (by rw[aaO,aac hi];rfl);rw[hv'] at hw;cases hw;cases rw';replace hq:Q1 ((ys[i]?).getD true) s1:=hq;rw[aac hi] at hq;exact abA hq
 ·refine⟨.bl (ys.all id),H,I.kept (t':=tk) λb o e=>hk b o (λz=> ?_) (aad _ e), ?_,q⟩
  ·rw[aaG.mp z] at e;exact absurd (aam e) (aa5 _)
  ·show Value.bool _=_;rw[hsz,range_all]
end L2.L3
namespace L2
open PySem PySem.Spec PyProof.Rows
section
variable {κ:Type} [DecidableEq κ]
noncomputable def fT (kvs:2#(κ×V)) (k:κ):5#V:=(kvs.find? λkv=>decide (kv.1=k)).map (·.2)
noncomputable def putK (kvs:2#(κ×V)) (k:κ) (v:V):2#(κ×V):=
 if (kvs.any λkv=>decide (kv.1=k))=true then kvs.map (λkv=>if kv.1=k then (kv.1,v) else kv) else kvs++[(k,v)]
theorem gQ {p:κ×V} {r:2#(κ×V)} {k:κ} (e:p.1=k):fT (p::r) k=1#p.2:=by simp[fT,aby,e]
theorem gS {p:κ×V} {r:2#(κ×V)} {k:κ} (e:¬p.1=k):fT (p::r) k=fT r k:=by simp[fT,aby,e]
theorem rj (k:κ):∀kvs:2#(κ×V),(kvs.any λkv=>decide (kv.1=k))=(fT kvs k).isSome
 |[]=>rfl
 |p::r=>by
  rw[abB]
  by_cases e:p.1=k
  ·simp only[gQ e,aaH e,Bool.true_or,Option.isSome_some]
  ·rw[gS e,aaB e,Bool.false_or];exact rj k r
theorem fu (kvs:2#(κ×V)) (k:κ) (v:V):0#(putK kvs k v)<=0#kvs+1:=by
 unfold putK;split
 ·rw[aaz];lia
 ·rw[aaL,aar,ade];lia
theorem dr.fI {o:5#V} {u:5#Value} (r:dr o u):o.isSome=u.isSome:=by
 cases o with
 |none=>cases u with
  |none=>rfl
  |some _=>exact(show False from r).elim
 |some _=>cases u with
  |none=>exact(show False from r).elim
  |some _=>rfl
theorem dr.getD {o:5#V} {u:5#Value} {d:V} {d':Value} (r:dr o u) (rd:RelV d d'):RelV (o.getD d) (u.getD d'):=by
 cases o with
 |none=>cases u with
  |none=>exact rd
  |some _=>exact(show False from r).elim
 |some _=>cases u with
  |none=>exact(show False from r).elim
  |some _=>exact r
theorem KV.val {kvs:2#(κ×V)} {vs:2#(κ×Value)} (r:KV kvs vs) (k:κ):dr (fT kvs k) (valueAt vs k):=by
 unfold KV at r
 induction r with
 |nil=>exact True.intro
 | @cons p q ps qs h t ih=>
  let⟨h1,h2⟩:=h
  by_cases e:p.1=k
  ·have e':q.1=k:=h1.symm.trans e
   have b:valueAt (q::qs) k=1#q.2:=by simp[valueAt,aby,e']
   rw[gQ e,b];exact h2
  ·have e':¬q.1=k:=λz=>e (h1.trans z)
   have b:valueAt (q::qs) k=valueAt qs k:=by simp[valueAt,aby,e']
   rw[gS e,b];exact ih
theorem KV.any {kvs:2#(κ×V)} {vs:2#(κ×Value)} (r:KV kvs vs) (k:κ):(kvs.any λkv=>decide (kv.1=k))=vs.any λkv=>decide (kv.1=k):=by
 unfold KV at r
 induction r with
 |nil=>rfl
 |cons h t ih=>rw[abB,abB,ih,h.1]
theorem KV.BL {kvs:2#(κ×V)} {vs:2#(κ×Value)} (r:KV kvs vs) (k:κ) {y:V} {u:Value} (ry:RelV y u):
  KV (kvs.map λkv=>if kv.1=k then (kv.1,y) else kv) (vs.map λkv=>if kv.1=k then (kv.1,u) else kv):=by
 unfold KV at r⊢
 induction r with
 |nil=>exact .nil
 | @cons p q ps qs h t ih=>
  rw[aas,aas];refine .cons ?_ ih;let⟨h1,h2⟩:=h
  by_cases e:p.1=k
  ·rw[if_pos e,if_pos (h1.symm.trans e)];exact⟨h1,ry⟩
  ·rw[if_neg e,if_neg (λz=>e (h1.trans z))];exact⟨h1,h2⟩
theorem KV.put {kvs:2#(κ×V)} {vs:2#(κ×Value)} (r:KV kvs vs) (k:κ) {y:V} {u:Value} (ry:RelV y u):KV (putK kvs k y) (stored vs k u):=by
 unfold putK stored;rw[r.any k]
 by_cases e:(vs.any λkv=>decide (kv.1=k))=true
 ·rw[if_pos e,if_pos e];exact r.BL k ry
 ·rw[if_neg e,if_neg e];exact Paired.snoc r ⟨rfl,ry⟩
theorem KV.length {kvs:2#(κ×V)} {vs:2#(κ×Value)} (r:KV kvs vs):0#kvs=0#vs:=abm r
end
theorem dX {P:Program} {w:World} {k:Key} {u:Value} (r:RelV (kV k) u):(aN P w).is k u=true:=by
 cases k with
 |inl i=>let⟨t,e⟩:=(show∃t,u=Value.int i t from r);subst e;exact ug P w i t
 |inr x=>let⟨t,e⟩:=(show∃t,u=Value.str x t from r);subst e;exact t9 P w x t
theorem pS {P:Program} {w:World}:∀{ks:2#Key} {us:2#Value},Vals (ks.map kV) us->ItemsAre (aN P w) ks us
 |[],_,r=>by rw[List.map_nil] at r;cases r;exact .nil
 |k::ks,_,r=>by
  rw[aas] at r
  cases r with
  |cons h t=>exact .cons (dX h) (pS t)
abbrev KT (H:Hp):2#(2#Key×V)->2#(2#Key×Addr×Value)->Prop:=Paired λp q=>p.1=q.1/\H q.2.1=1#(.tup (p.1.map kV))/\RelV p.2 q.2.2
theorem KT.val {H:Hp} {kvs:2#(2#Key×V)} {xs:2#(2#Key×Addr×Value)} (r:KT H kvs xs) (k:2#Key):dr (fT kvs k) ((atKey xs k).map (·.2)):=by
 induction r with
 |nil=>exact True.intro
 | @cons p q ps qs h t ih=>
  let⟨h1,_,h2⟩:=h
  by_cases e:p.1=k
  ·have e':q.1=k:=h1.symm.trans e
   have b:atKey (q::qs) k=1#q.2:=by simp[atKey,aby,e']
   rw[gQ e,b];exact h2
  ·have e':¬q.1=k:=λz=>e (h1.trans z)
   have b:atKey (q::qs) k=atKey qs k:=by simp[atKey,aby,e']
   rw[gS e,b];exact ih
theorem KT.BL {H:Hp} {kvs:2#(2#Key×V)} {xs:2#(2#Key×Addr×Value)} (r:KT H kvs xs) (k:2#Key) {y:V} {u:Value} (ry:RelV y u):
  KT H (kvs.map λkv=>if kv.1=k then (kv.1,y) else kv) (xs.map (putAt k u)):=by
 induction r with
 |nil=>exact .nil
 | @cons p q ps qs h t ih=>
  rw[aas,aas];refine .cons ?_ ih;let⟨h1,h2,h3⟩:=h;unfold putAt
  by_cases e:p.1=k
  ·rw[if_pos e,if_pos (h1.symm.trans e)];exact⟨h1,h2,ry⟩
  ·rw[if_neg e,if_neg (λz=>e (h1.trans z))];exact⟨h1,h2,h3⟩
theorem KT.put {H:Hp} {kvs:2#(2#Key×V)} {xs:2#(2#Key×Addr×Value)} (r:KT H kvs xs) (k:2#Key) {b:Addr} {y:V} {u:Value} (hb:H b=1#(.tup (k.map kV))) (ry:RelV y u):
  KT H (putK kvs k y) (storedH xs k b u):=by
 have e:(kvs.any λkv=>decide (kv.1=k))=(atKey xs k).isSome:=by
  rw[rj,(r.val k).fI,ack]
 unfold putK storedH;rw[e]
 by_cases q:(atKey xs k).isSome=true
 ·rw[if_pos q,if_pos q];exact r.BL k ry
 ·rw[if_neg q,if_neg q];exact Paired.snoc r ⟨rfl,hb,ry⟩
theorem KT.keeps {H H':Hp} {kvs:2#(2#Key×V)} {xs:2#(2#Key×Addr×Value)} (r:KT H kvs xs) (ht:∀b ys,H b=1#(.tup ys)->H' b=1#(.tup ys)):KT H' kvs xs:=
 Paired.wO r λ_ _ z=>⟨z.1,ht _ _ z.2.1,z.2.2⟩
section
variable {P:Program} {w:World} {H:Hp} {h:Heap} {a:Addr}
theorem CJ {u:HO} (ok:bA P w H h) (e:Rd H a u):aQ P w H h a u:=e.ok ok
theorem eK {kvs:2#(Key×V)} (ok:bA P w H h) (e:Rd H a (.dK kvs)):0#kvs<=sizeLine/\(a==sysModules)=false/\∃vs,KV kvs vs/\h.DictOf (aN P w) a vs:=
 show aQ P w H h a (.dK kvs) from CJ ok e
theorem Cq {kvs:2#(Key×V)} (ok:bA P w H h) (e:H a=1#(.dK kvs)):0#kvs<=sizeLine/\(a==sysModules)=false/\∃vs,KV kvs vs/\h.DictOf (aN P w) a vs:=eK ok (.inl e)
theorem dh {ks:2#Key} (ok:bA P w H h) (e:H a=1#(.tup (ks.map kV))):(tupleKind (aN P w)).is h ks a:=by
 let⟨_,its,r,o,h1,h2,n,h3⟩:=(show aQ P w H h a (.tup (ks.map kV)) from ok a _ e);exact⟨o,its.toArray,n,h1,h2,h3,by simpa using pS r⟩
theorem eM {kvs:2#(2#Key×V)} (ok:bA P w H h) (e:Rd H a (.dT kvs)):0#kvs<=sizeLine/\(a==sysModules)=false/\
  ∃xs,KT H kvs xs/\h.DictOfH (tupleKind (aN P w)) a xs:=by
 let⟨z,y,xs,r,o,es,ep,h1,h2,h3,h4,h5⟩:=(show aQ P w H h a (.dT kvs) from CJ ok e);refine⟨z,y,xs,r,o,es,ep,h1,h2,h3,h4,λx hx=> ?_,h5⟩
 have all:∀{l:2#(2#Key×V)} {m:2#(2#Key×Addr×Value)},KT H l m->∀x∈m,(tupleKind (aN P w)).is h x.1 x.2.1:=by
  intro l m q
  induction q with
  |nil=>intro x hx;exact nomatch hx
  | @cons p q ps qs hq t ih=>
   intro x hx
   rcases aaq.mp hx with e|hx
   ·subst e;exact dh ok (by rw[←hq.1];exact hq.2.1)
   ·exact ih x hx
 exact all r x hx
theorem Ca {kvs:2#(2#Key×V)} (ok:bA P w H h) (e:H a=1#(.dT kvs)):0#kvs<=sizeLine/\(a==sysModules)=false/\
  ∃xs,KT H kvs xs/\h.DictOfH (tupleKind (aN P w)) a xs:=eM ok (.inl e)
end
def jR (H:Hp) (a:Addr) (y:V) (r:5#V):Prop:=
 (∃kvs k,Rd H a (.dK kvs)/\y=kV k/\r=fT kvs k)∨∃kvs k b,Rd H a (.dT kvs)/\y= 3#b/\H b=1#(.tup (k.map kV))/\r=fT kvs k
def fP (H:Hp) (a:Addr) (y v:V) (H':Hp):Prop:=
 (∃kvs k,H a=1#(.dK kvs)/\y=kV k/\0#kvs<sizeLine/\H'=upd H a (.dK (putK kvs k v)))∨
 ∃kvs k b,H a=1#(.dT kvs)/\y= 3#b/\H b=1#(.tup (k.map kV))/\0#kvs<sizeLine/\H'=upd H a (.dT (putK kvs k v))
theorem fP.k {H:Hp} {a:Addr} {kvs:2#(Key×V)} {k:Key} {v:V} (e:H a=1#(.dK kvs)) (hl:0#kvs<sizeLine):fP H a (kV k) v (upd H a (.dK (putK kvs k v))):= .inl ⟨kvs,k,e,rfl,hl,rfl⟩
theorem fP.t {H:Hp} {a b:Addr} {kvs:2#(2#Key×V)} {k:2#Key} {v:V} (e:H a=1#(.dT kvs)) (eb:H b=1#(.tup (k.map kV))) (hl:0#kvs<sizeLine):
  fP H a 3#b v (upd H a (.dT (putK kvs k v))):= .inr ⟨kvs,k,b,e,rfl,eb,hl,rfl⟩
section
variable {X:Cx} {pins:8#7} {σ:St} {H:Hp} {s:9#4} {a:Addr} {y v:V} {u r:Value} {o:5#V} {A:Around} {E:8#2}
theorem Inv.big (I:8#1):sysModules<s.heap.objs.size:=by
 have h:mainGlobals<s.heap.objs.size:=(I.mod.glob.keeps I.bk).lt;exact Nat.lt_trans 8#16 h
theorem yV {Q:8#2} (hu:A.units+1<cLine) (I:8#1) (g:jR H a y 1#v) (ry:RelV y u) (h:∀w' s',Inv X pins σ H s'->RelV v w'->Q w' s'):
  wpAny 8#3 A (getItem 3#a u) Q E s:=by
 rcases g with⟨kvs,k,e,ey,l⟩|⟨kvs,k,b,e,ey,eb,l⟩
 ·subst ey;let⟨z,hd,vs,rel,dd⟩:=eK I.ah e;let⟨w',hw,rw'⟩:=dr.some_of (v:=v) (o:=valueAt vs k) (by rw[l];exact rel.val k);exact wpAny_getItem_of (dX ry) dd.mapOf hw (h w' _ (I.tok _) rw')
 ·subst ey;cases 8#26;let⟨z,hd,xs,rel,dd⟩:=eM I.ah e;let⟨w',hw,rw'⟩:=dr.some_of (v:=v) (o:=(atKey xs k).map (·.2)) (by rw[l];exact rel.val k);let⟨p,hp,hp2⟩:=aab.mp hw;refine wpAny_getItem_heap (aa1 hu) (dh I.ah eb) dd hp ?_;rw[hp2];exact h w' _ (I.tok _) rw'
theorem LX {Q:8#2} (hu:A.units+1<cLine) (I:8#1) (g:jR H a y o) (ry:RelV y u) (h:∀s',Inv X pins σ H s'->Q (.bool o.isSome) s'):
  wpAny 8#3 A (compareOp .In u 3#a) Q E s:=by
 rcases g with⟨kvs,k,e,ey,l⟩|⟨kvs,k,b,e,ey,eb,l⟩
 ·subst ey;let⟨z,hd,vs,rel,dd⟩:=eK I.ah e;refine wpAny_in_of (dX ry) hd dd.mapOf ?_;rw[←(rel.val k).fI,←l];exact h _ (I.tok _)
 ·subst ey;cases 8#26;let⟨z,hd,xs,rel,dd⟩:=eM I.ah e;refine wpAny_in_heap (aa1 hu) (dh I.ah eb) hd dd ?_;have q:=(rel.val k).fI;rw[ack] at q;rw[←q,←l];exact h _ (I.tok _)
theorem Dg {Q:8#2} (hu:A.units+1<cLine) (I:8#1) (g:jR H a y o) (ry:RelV y u) (h:∀s',Inv X pins σ H s'->Q (.bool (!o.isSome)) s'):
  wpAny 8#3 A (compareOp .NotIn u 3#a) Q E s:=by
 rcases g with⟨kvs,k,e,ey,l⟩|⟨kvs,k,b,e,ey,eb,l⟩
 ·subst ey;let⟨z,hd,vs,rel,dd⟩:=eK I.ah e;refine wpAny_notIn_of (dX ry) hd dd.mapOf ?_;rw[←(rel.val k).fI,←l];exact h _ (I.tok _)
 ·subst ey;cases 8#26;let⟨z,hd,xs,rel,dd⟩:=eM I.ah e;refine wpAny_notIn_heap (aa1 hu) (dh I.ah eb) hd dd ?_;have q:=(rel.val k).fI;rw[ack] at q;rw[←q,←l];exact h _ (I.tok _)
theorem kz {h':Heap} {t':Nat} {ob:HO} (I:8#1) (mu:zE (H a)) (hs:Heap.SameBut a s.heap h') (he:∃q,h'.get? a=1#q) (new:aQ X.prog X.w (upd H a ob) h' a ob):
  Inv X pins σ (upd H a ob) {s with heap:=h',toks:=t'}:=
 I.write (x:=a) (e:=a) mu (.inl rfl) (λb q hb z=>(hs.2 b hb).trans z) he new
theorem yU {P:Program} {w:World} {H':Hp} {h':Heap} {kvs:2#(Key×V)} {vs:2#(Key×Value)} (z:0#kvs<=sizeLine) (hd:(a==sysModules)=false) (rel:KV kvs vs) (dd:h'.DictOf (aN P w) a vs):
  aQ P w H' h' a (.dK kvs):=⟨z,hd,vs,rel,dd⟩
theorem jE {H':Hp} {Q:Unit->Shared->Prop} (hu:A.units+1<cLine) (I:8#1) (g:fP H a y v H') (ry:RelV y u) (rv:RelV v r) (h:∀s',Inv X pins σ H' s'->Q () s'):
  wpAny 8#3 A (setItem 3#a u r) Q E s:=by
 rcases g with⟨kvs,k,e,ey,l,eH⟩|⟨kvs,k,b,e,ey,eb,l,eH⟩
 ·subst ey eH;let⟨z,hd,vs,rel,dd⟩:=Cq I.ah e
  have hz:0#vs<=sizeLine:=by rw[←0#rel];exact z
  have hl:0#(putK kvs k v)<=sizeLine:=by have:=fu kvs k v;lia
  refine wpAny_setItem_pairs (hsz:=hz) (dX ry) dd λh' dd' hs=>h _ ?_
  have he:∃q,h'.get? a=1#q:=let ⟨q,_,_,hq,_⟩:=dd';⟨q,hq⟩
  exact kz I (by rw[e];exact True.intro) hs he (yU hl hd (rel.put k rv) dd')
 ·subst ey eH;cases 8#26;let⟨z,hd,xs,rel,dd⟩:=Ca I.ah e
  have hz:0#xs<=sizeLine:=by rw[←abm rel];exact z
  have hl:0#(putK kvs k v)<=sizeLine:=by have:=fu kvs k v;lia
  refine wpAny_setItem_heap (hsz:=hz) (aa1 hu) (dh I.ah eb) dd λh' dd' hs=>h _ ?_;let⟨q,es,ep,hq,h2,h3,h4,_,h5⟩:=dd';refine kz I (by rw[e];exact True.intro) hs ⟨q,hq⟩ ⟨hl,hd,_,(rel.put k eb rv).keeps λc ys ec=> ?_,q,es,ep,hq,h2,h3,h4,h5⟩;rw[ar (qy ec e (λz=>nomatch z))];exact ec
end
section
variable {X:Cx} {pins:8#7} {σ:St} {H:Hp} {s:9#4} {a:Addr} {kvs:2#(Key×V)} {k:Key} {u:Value} {A:Around} {E:8#2}
theorem IP {Q:8#2} (I:8#1) (e:Rd H a (.dK kvs)) (h:∀t s',Inv X pins σ H s'->Q (.int 0#kvs t) s'):wpAny 8#3 A (call (.builtin "len") [3#a]) Q E s:=by
 let⟨z,hd,vs,rel,dd⟩:=eK I.ah e;refine call_len_dict hd dd (by rw[←0#rel];rw[abH] at z;lia) ?_;rw[←0#rel];exact h _ _ (I.tok _)
end
theorem ui {X:Cx} {σ:St} {H:Hp} {s:9#4} {a:Addr} {y:V} {o:5#V} (I:8#1) (g:jR H a y o):s.TypeIs 3#a "dict":=by
 rcases g with⟨kvs,k,e,_,_⟩|⟨kvs,k,b,e,_,_,_⟩
 ·let⟨_,_,vs,_,dd⟩:=eK I.ah e;exact dd.typeIs
 ·let⟨_,_,xs,_,dd⟩:=eM I.ah e;exact dd.typeIs
section
variable {X:Cx} {o i e value:Expr} {pos pos' tpos:Pos} {td ty tv:TE}
end
theorem tq {P:Program} {w:World} {H:Hp} (h:Heap) (hb:sysModules<h.objs.size):aQ P w H (h.push {cls:= .type "dict",data:= .dict #[]}) h.objs.size (.dK []):=
 ⟨aaX _,beq_eq_false_iff_ne.mpr (Ne.symm (aay hb)),[], .nil,Heap.DictOf.new h⟩
theorem AN {P:Program} {w:World} {H:Hp} (h:Heap) (hb:sysModules<h.objs.size):aQ P w H (h.push {cls:= .type "dict",data:= .dict #[]}) h.objs.size (.dT []):=
 ⟨aaX _,beq_eq_false_iff_ne.mpr (Ne.symm (aay hb)),[], .nil,_,#[],0,aak _ rfl,⟨rfl,rfl,rfl⟩,rfl,rfl,ach⟩
def E8:TE:=λ_ H Q=>∀p,H p=none->Q 3#p (upd H p (.dK []))
section
variable {X:Cx} {pos:Pos}
theorem Bb:PE X (.Dict [] [] pos) E8:=λpins s σ H Q I h=>
 wpAny_Dict_empty ⟨3#s.heap.objs.size,_,I.laid (a:=s.heap.objs.size) (o:= .dK []) (t':=s.toks) (λ_ _ q=>aad _ q) (aah _) (tq s.heap I.big),rfl,h _ (I.ah.fresh (aah _))⟩
end
structure M1 (X:Cx) (o:Expr) (m:Str) (apos:Pos) (e:Expr) (cpos:Pos):Prop where
 base:attributeBase o m X.env (eval o X.env)=eval o X.env
 few:((backTo cpos (starEach [e] X.env)).all (λx=> !x.1)&&(backToKw cpos (keywordEach [] X.env)).all (λx=>x.1.isSome)
  &&decide (0#([e]:2#Expr)+0#([]:2#Keyword)+(if ([]:2#Keyword).isEmpty then 0 else 1)<30))=true
 line:(apos.endLine==cpos.line)=true
 trees:backTo cpos (starEach [e] X.env)=[(false,eval e X.env)]
structure M2 (X:Cx) (o:Expr) (m:Str) (apos:Pos) (e f:Expr) (cpos:Pos):Prop where
 base:attributeBase o m X.env (eval o X.env)=eval o X.env
 few:((backTo cpos (starEach [e,f] X.env)).all (λx=> !x.1)&&(backToKw cpos (keywordEach [] X.env)).all (λx=>x.1.isSome)
  &&decide (0#([e,f]:2#Expr)+0#([]:2#Keyword)+(if ([]:2#Keyword).isEmpty then 0 else 1)<30))=true
 line:(apos.endLine==cpos.line)=true
 trees:backTo cpos (starEach [e,f] X.env)=[(false,eval e X.env),(false,eval f X.env)]
def CB (H:Hp) (a:Addr):Prop:=(∃kvs,Rd H a (.dK kvs))∨∃kvs,Rd H a (.dT kvs)
theorem xy {X:Cx} {σ:St} {H:Hp} {s:9#4} {a:Addr} (I:8#1) (d:CB H a):
  s.TypeIs 3#a "dict"/\(∀b,Value.ref a= 3#b->∃ob,s.heap.get? b=1#ob/\ob.dict=none)/\(a==sysModules)=false:=by
 rcases d with⟨kvs,e⟩|⟨kvs,e⟩
 ·let⟨_,hd,vs,_,dd⟩:=eK I.ah e;refine⟨dd.typeIs,λb q=> ?_,hd⟩;cases q;let⟨ob,_,_,h1,h2,_⟩:=dd;exact⟨ob,h1,h2.2.1⟩
 ·let⟨_,hd,xs,_,dd⟩:=eM I.ah e;refine⟨dd.typeIs,λb q=> ?_,hd⟩;cases q;let⟨ob,_,_,h1,h2,_⟩:=dd;exact⟨ob,h1,h2.2.1⟩
section
variable {X:Cx} {pins:8#7} {σ:St} {H:Hp} {s:9#4} {a:Addr} {y d:V} {u r:Value} {o:5#V} {A:Around} {E:8#2}
theorem Ht {Q:8#2} (hu:A.units+1<cLine) (I:8#1) (g:jR H a y o) (ry:RelV y u) (h:∀w' s',Inv X pins σ H s'->RelV (o.getD .non) w'->Q w' s'):
  wpAny 8#3 A (call (.builtin "dict.get") [3#a,u]) Q E s:=by
 rcases g with⟨kvs,k,e,ey,l⟩|⟨kvs,k,b,e,ey,eb,l⟩
 ·subst ey;let⟨z,hd,vs,rel,dd⟩:=eK I.ah e;refine abT aaR dd.typeIs aa2 (abV _ _) (meets_dict_get (aN X.prog X.w) a (dX ry) hd) ⟨_,dd.mapOf,h _ _ (I.tok _) ?_⟩;rw[l];exact(rel.val k).getD rfl
 ·subst ey;cases 8#26;let⟨z,hd,xs,rel,dd⟩:=eM I.ah e;refine abT aaR dd.typeIs aa2 (abV _ _) (meetsH_dict_get (tupleKind (aN X.prog X.w)) a b hd) ⟨aa1 hu,k,xs,dh I.ah eb,dd,h _ _ (I.tok _) ?_⟩;rw[l];exact(rel.val k).getD rfl
theorem EE {Q:8#2} (hu:A.units+1<cLine) (I:8#1) (g:jR H a y o) (ry:RelV y u) (rd:RelV d r) (h:∀w' s',Inv X pins σ H s'->RelV (o.getD d) w'->Q w' s'):
  wpAny 8#3 A (call (.builtin "dict.get") [3#a,u,r]) Q E s:=by
 rcases g with⟨kvs,k,e,ey,l⟩|⟨kvs,k,b,e,ey,eb,l⟩
 ·subst ey;let⟨z,hd,vs,rel,dd⟩:=eK I.ah e;refine abT aaR dd.typeIs aa2 (abW _ _ _) (meets_dict_get_default (aN X.prog X.w) a (dX ry) hd r) ⟨_,dd.mapOf,h _ _ (I.tok _) ?_⟩;rw[l];exact(rel.val k).getD rd
 ·subst ey;cases 8#26;let⟨z,hd,xs,rel,dd⟩:=eM I.ah e;refine abT aaR dd.typeIs aa2 (abW _ _ _) (meetsH_dict_get_default (tupleKind (aN X.prog X.w)) a b hd r) ⟨aa1 hu,k,xs,dh I.ah eb,dd,h _ _ (I.tok _) ?_⟩;rw[l];exact(rel.val k).getD rd
end
section
variable {X:Cx} {o e f:Expr} {apos cpos:Pos} {td ty tx:TE}
end
section
variable {X:Cx} {pins:8#7} {σ:St} {H:Hp} {s:9#4} {a:Addr} {kvs:2#(Key×V)} {A:Around} {E:8#2}
end
section
variable {X:Cx} {pins:8#7} {σ:St} {H:Hp} {s:9#4} {a:Addr} {y:V} {u:Value} {A:Around} {E:8#2}
end
end L2
namespace SortT
open PySem PySem.W PyProof.Rows
noncomputable def ai {α:Type} (lt:Nat->Nat->Bool):KasT α->α
 | .ret a=>a
 | .ask i j k=>ai lt (k (lt i j))
theorem eI {α β:Type} (lt:Nat->Nat->Bool) (f:α->KasT β):∀t:KasT α,ai lt (t.bind f)=ai lt (f (ai lt t))
 | .ret _=>rfl
 | .ask i j k=>eI lt f (k (lt i j))
def bE {α:Type} (lt:Nat->Nat->Bool) (n:Nat):KasT α->Prop
 | .ret _=>True
 | .ask i j k=>i<n/\j<n/\bE lt n (k (lt i j))
theorem bE.bind {α β:Type} {lt:Nat->Nat->Bool} {n:Nat} {f:α->KasT β}:∀{t:KasT α},bE lt n t->bE lt n (f (ai lt t))->bE lt n (t.bind f)
 | .ret a,_,hf=>hf
 | .ask i j k,h,hf=>⟨h.1,h.2.1,bE.bind h.2.2 hf⟩
theorem wp_run {α:Type} {n:Nat} {lt:Nat->Nat->Bool} {cmp:Nat->Nat->(Bool->Shared->Prop)->Shared->Prop} {s:9#4} (hc:∀i j C,i<n->j<n->C (lt i j) s->cmp i j C s) {Q:α->Shared->Prop}:∀{t:KasT α},bE lt n t->Q (ai lt t) s->t.kasWp cmp Q s
 | .ret _,_,q=>q
 | .ask i j k,h,q=>hc i j _ h.1 h.2.1 (wp_run hc h.2.2 q)
noncomputable abbrev g (p:Array Nat) (i:Nat):Nat:=p.getD i 0
theorem jd {p:Array Nat} {i:Nat}:g p i=(p[i]?).getD 0:=by
 unfold g;rw[Array.getD_eq_getD_getElem?]
def jX (N:Nat) (p:Array Nat):Prop:=∀i,g p i<N
theorem jX.of {N:Nat} {p:Array Nat} (h0:0<N) (h:∀x∈p,x<N):jX N p:=λi=>by
 rw[jd]
 cases e:p[i]? with
 |none=>exact h0
 |some x=>exact h x (Array.mem_of_getElem? e)
theorem jX.perm {N:Nat} {p q:Array Nat} (h0:0<N) (h:∀x∈p,x<N) (pm:q.Perm p):jX N q:=jX.of h0 λx hx=>h x (pm.mem_iff.mp hx)
theorem fk {p:Array Nat} {i j:Nat} (hj:j<=p.size) (k:Nat):g (kas_rev p i j) k=if i<=k/\k<j then g p (i+j-1-k) else g p k:=by
 rw[jd];unfold kas_rev;rw[getElem?_mirror_all hj];split
 ·rw[jd]
 ·rw[jd]
theorem JF {p:Array Nat} {s d:Nat} (hs:s<p.size) (hd:d<=s) (k:Nat):g (bubble p s d) k=if k=s-d then g p s else if s-d<k/\k<=s then g p (k-1) else g p k:=by
 have e:(bubble p s d)[k]?=_:=getElem?_bubble hs d hd k;have a1:g (bubble p s d) k=((bubble p s d)[k]?).getD 0:=jd;have a2:g p s=(p[s]?).getD 0:=jd;have a3:g p (k-1)=(p[k-1]?).getD 0:=jd;have a4:g p k=(p[k]?).getD 0:=jd;rw[a1,e,a2,a3,a4]
 by_cases c:k=s-d
 ·rw[if_pos c,if_pos c]
 ·rw[if_neg c,if_neg c]
  by_cases c2:s-d<k/\k<=s
  ·rw[if_pos c2,if_pos c2]
  ·rw[if_neg c2,if_neg c2]
theorem ju {p:Array Nat} {i j:Nat}:(kas_rev p i j).size=p.size:=mirror_size ..
theorem dG {p:Array Nat} {i j:Nat}:(kas_rev p i j).Perm p:=mirror_perm ..
structure Ord (lt:Nat->Nat->Bool):Prop where
 tr:∀a b c,lt b a=false->lt c b=false->lt c a=false
 as:∀a b,lt a b=true->lt b a=false
section
variable {lt:Nat->Nat->Bool} (O:Ord lt)
include O
theorem Ord.rf (a:Nat):lt a a=false:=by
 cases e:lt a a with
 |false=>rfl
 |true=>exact(O.as a a e).symm.trans e|>.symm▸rfl
omit O
def et (lt:Nat->Nat->Bool) (p:Array Nat) (m:Nat):Prop:=∀i j,i<=j->j<m->lt (g p j) (g p i)=false
def dO (lt:Nat->Nat->Bool) (p:Array Nat) (m:Nat):Prop:=∀i j,i<=j->j<m->lt (g p i) (g p j)=false
def xH (lt:Nat->Nat->Bool) (p:Array Nat) (a b:Nat):Prop:=∀i j,a<=i->i<b->a<=j->j<b->lt (g p i) (g p j)=false
include O
theorem et.one {p:Array Nat}:et lt p 1:=λi j h1 h2=>by
 have:i=j:=by lia
 rw[this];exact O.rf _
theorem et.up {p:Array Nat} {m:Nat} (h:et lt p m) (hm:1<=m) (c:lt (g p m) (g p (m-1))=false):et lt p (m+1):=λi j h1 h2=>by
 by_cases e:j=m
 ·subst e
  by_cases e2:i=j
  ·rw[e2];exact O.rf _
  ·exact O.tr _ _ _ (h i (j-1) 8#0 8#0) c
 ·exact h i j h1 8#0
theorem s8 {p:Array Nat}:∀(f n:Nat),1<=n->et lt p n->n<=ai lt (kas_asc p f n)/\ai lt (kas_asc p f n)<=n+f/\et lt p (ai lt (kas_asc p f n))/\(ai lt (kas_asc p f n)=n+f∨lt (g p (ai lt (kas_asc p f n))) (g p (ai lt (kas_asc p f n)-1))=true)
 |0,n,_,h=>⟨aah _,aah _,h, .inl rfl⟩
 |f+1,n,h1,h=>by
  have e:ai lt (kas_asc p (f+1) n)=ai lt (if lt (g p n) (g p (n-1))=true then .ret n else kas_asc p f (n+1)):=rfl;rw[e]
  by_cases c:lt (g p n) (g p (n-1))=true
  ·rw[if_pos c];exact⟨aah _,by show n<=n+(f+1);lia,h, .inr c⟩
  ·rw[if_neg c];let⟨a1,a2,a3,a4⟩:=s8 f (n+1) 8#0 (et.up O h h1 (by simpa using c));exact⟨by lia,by lia,a3,a4.imp (λz=>by lia) id⟩
omit O in
theorem nV {p:Array Nat} {N:Nat} (b:jX N p):∀(f n:Nat),bE lt N (kas_asc p f n)
 |0,n=>trivial
 |f+1,n=>⟨b _,b _,by
  show bE lt N (if lt (g p n) (g p (n-1))=true then .ret n else kas_asc p f (n+1));split
  ·trivial
  ·exact nV b f (n+1)⟩
theorem dO.up {p:Array Nat} {m:Nat} (h:dO lt p m) (hm:1<=m) (c:lt (g p (m-1)) (g p m)=false):dO lt p (m+1):=λi j h1 h2=>by
 by_cases e:j=m
 ·subst e
  by_cases e2:i=j
  ·rw[e2];exact O.rf _
  ·exact O.tr _ _ _ c (h i (j-1) 8#0 8#0)
 ·exact h i j h1 8#0
theorem dO.turn {p:Array Nat} {a m:Nat} (hm:m<=p.size) (h:dO lt p m) (q:xH lt p a m):dO lt (kas_rev p a m) m:=λi j h1 h2=>by
 rw[fk hm,fk hm]
 by_cases ci:a<=i
 ·rw[if_pos ⟨ci,by lia⟩,if_pos ⟨by lia,h2⟩];exact q _ _ 8#0 8#0 8#0 8#0
 ·rw[if_neg 8#0]
  by_cases cj:a<=j
  ·rw[if_pos ⟨cj,h2⟩];exact h _ _ 8#0 8#0
  ·rw[if_neg 8#0];exact h _ _ h1 h2
theorem iI:∀(f:Nat) (p:Array Nat) (n q:Nat),n+f<=p.size->q+1<=n->dO lt p n->xH lt p (n-(q+1)) n->
  (ai lt (kas_desc f p n q)).1.Perm p/\n<=(ai lt (kas_desc f p n q)).2.1/\(ai lt (kas_desc f p n q)).2.1<=n+f/\(ai lt (kas_desc f p n q)).2.2+1<=(ai lt (kas_desc f p n q)).2.1/\dO lt (ai lt (kas_desc f p n q)).1 (ai lt (kas_desc f p n q)).2.1/\
   xH lt (ai lt (kas_desc f p n q)).1 ((ai lt (kas_desc f p n q)).2.1-((ai lt (kas_desc f p n q)).2.2+1)) (ai lt (kas_desc f p n q)).2.1
 |0,p,n,q,hz,hq,h,he=>⟨.refl _,aah _,aah _,hq,h,he⟩
 |f+1,p,n,q,hz,hq,h,he=>by
  have one:∀(p:Array Nat),xH lt p (n+1-(0+1)) (n+1):=λp i j a1 a2 a3 a4=>by
   have e1:i=n:=by lia
   have e2:j=n:=by lia
   rw[e1,e2];exact O.rf _
  have e:ai lt (kas_desc (f+1) p n q)=ai lt (if lt (g p n) (g p (n-1))=true then (if q>0 then kas_desc f (kas_rev p (n-(q+1)) n) (n+1) 0 else kas_desc f p (n+1) 0)
    else .ask (g p (n-1)) (g p n) λd=>if d=true then .ret (p,n,q) else kas_desc f p (n+1) (q+1)):=rfl
  rw[e]
  by_cases c:lt (g p n) (g p (n-1))=true
  ·rw[if_pos c];have c':=O.as _ _ c
   by_cases c2:q>0
   ·rw[if_pos c2]
    have hn:n<=p.size:=by lia
    have d1:=dO.turn O hn h he
    have gn:g (kas_rev p (n-(q+1)) n) n=g p n:=by
     rw[fk hn,if_neg 8#0]
    have gm:g (kas_rev p (n-(q+1)) n) (n-1)=g p (n-(q+1)):=by
     rw[fk hn,if_pos 8#0];congr 1;lia
    have d2:dO lt (kas_rev p (n-(q+1)) n) (n+1):=dO.up O d1 8#0 (by
     rw[gn,gm]
     exact O.tr _ _ _ c' (he _ _ 8#0 8#0 8#0 8#0))
    let⟨a1,a2,a3,a4,a5,a6⟩:=iI f (kas_rev p (n-(q+1)) n) (n+1) 0 (by rw[ju];lia) 8#0 d2 (one _);exact⟨a1.trans dG,by lia,by lia,a4,a5,a6⟩
   ·rw[if_neg c2];let⟨a1,a2,a3,a4,a5,a6⟩:=iI f p (n+1) 0 8#0 8#0 (dO.up O h 8#0 c') (one _);exact⟨a1,by lia,by lia,a4,a5,a6⟩
  ·rw[if_neg c]
   have c0:lt (g p n) (g p (n-1))=false:=by simpa using c
   show (ai lt (if lt (g p (n-1)) (g p n)=true then .ret (p,n,q) else kas_desc f p (n+1) (q+1))).1.Perm p/\_;have e3:ai lt (KasT.ask (g p (n-1)) (g p n) λd=>if d=true then KasT.ret (p,n,q) else kas_desc f p (n+1) (q+1))=ai lt (if lt (g p (n-1)) (g p n)=true then .ret (p,n,q) else kas_desc f p (n+1) (q+1)):=rfl;rw[e3]
   by_cases d:lt (g p (n-1)) (g p n)=true
   ·rw[if_pos d];exact⟨.refl _,aah _,by show n<=n+(f+1);lia,hq,h,he⟩
   ·rw[if_neg d]
    have d0:lt (g p (n-1)) (g p n)=false:=by simpa using d
    let⟨a1,a2,a3,a4,a5,a6⟩:=iI f p (n+1) (q+1) 8#0 8#0 (dO.up O h 8#0 d0) (λi j b1 b2 b3 b4=>by
     by_cases ei:i=n
     ·by_cases ej:j=n
      ·rw[ei,ej];exact O.rf _
      ·rw[ei];exact O.tr _ _ _ (he j (n-1) 8#0 8#0 8#0 8#0|>λ_=>he (n-1) j 8#0 8#0 8#0 8#0) c0
     ·by_cases ej:j=n
      ·rw[ej];exact O.tr _ _ _ d0 (he i (n-1) 8#0 8#0 8#0 8#0)
      ·exact he i j 8#0 8#0 8#0 8#0)
    exact⟨a1,by lia,by lia,a4,a5,a6⟩
omit O in
theorem jn {N:Nat} (h0:0<N):∀(f:Nat) (p:Array Nat) (n q:Nat),(∀x∈p,x<N)->bE lt N (kas_desc f p n q)
 |0,p,n,q,_=>trivial
 |f+1,p,n,q,hb=>by
  have b:=jX.of h0 hb;refine⟨b _,b _, ?_⟩
  show bE lt N (if lt (g p n) (g p (n-1))=true then (if q>0 then kas_desc f (kas_rev p (n-(q+1)) n) (n+1) 0 else kas_desc f p (n+1) 0)
    else .ask (g p (n-1)) (g p n) λd=>if d=true then .ret (p,n,q) else kas_desc f p (n+1) (q+1))
  split
  ·split
   ·exact jn h0 f _ _ _ λx hx=>hb x (dG.mem_iff.mp hx)
   ·exact jn h0 f _ _ _ hb
  ·refine⟨b _,b _, ?_⟩;show bE lt N (if lt (g p (n-1)) (g p n)=true then .ret (p,n,q) else kas_desc f p (n+1) (q+1));split
   ·trivial
   ·exact jn h0 f _ _ _ hb
theorem uK {p:Array Nat} {n nrem:Nat} (h1:1<=n) (hn:n<=nrem) (hz:nrem<=p.size) (h:dO lt p n):(ai lt (kas_tail3 n nrem p)).2.Perm p/\1<=(ai lt (kas_tail3 n nrem p)).1/\(ai lt (kas_tail3 n nrem p)).1<=nrem/\et lt (ai lt (kas_tail3 n nrem p)).2 (ai lt (kas_tail3 n nrem p)).1:=by
 unfold kas_tail3;rw[eI]
 have s:et lt (kas_rev p 0 n) n:=λi j a1 a2=>by
  rw[fk 8#0,fk 8#0,if_pos ⟨by lia,a2⟩,if_pos ⟨by lia,by lia⟩];exact h _ _ 8#0 8#0
 let⟨a1,a2,a3,_⟩:=s8 O (p:=kas_rev p 0 n) (nrem-n) n h1 s;exact⟨dG,by show 1<=ai lt (kas_asc (kas_rev p 0 n) (nrem-n) n);lia,by show ai lt (kas_asc (kas_rev p 0 n) (nrem-n) n)<=nrem;lia,a3⟩
theorem lh {p:Array Nat} {n nrem:Nat} (h1:1<=n) (hn:n+1<=nrem) (hz:nrem<=p.size) (h:dO lt p (n+1)):
  (ai lt (kas_descPart n nrem p)).2.Perm p/\1<=(ai lt (kas_descPart n nrem p)).1/\(ai lt (kas_descPart n nrem p)).1<=nrem/\et lt (ai lt (kas_descPart n nrem p)).2 (ai lt (kas_descPart n nrem p)).1:=by
 unfold kas_descPart;rw[eI]
 let⟨a1,a2,a3,a4,a5,a6⟩:=iI O (nrem-(n+1)) p (n+1) 0 8#0 8#0 h (λi j b1 b2 b3 b4=>by
  have e1:i=n:=by lia
  have e2:j=n:=by lia
  rw[e1,e2]
  exact O.rf _)
 generalize ai lt (kas_desc (nrem-(n+1)) p (n+1) 0)=r at a1 a2 a3 a4 a5 a6⊢;have sz:r.1.size=p.size:=a1.size_eq;split
 ·let⟨c1,c2,c3,c4⟩:=uK O (p:=kas_rev r.1 (r.2.1-(r.2.2+1)) r.2.1) (n:=r.2.1) (nrem:=nrem) 8#0 8#0 (by rw[ju];lia) (dO.turn O 8#0 a5 a6);exact⟨c1.trans (dG.trans a1),c2,c3,c4⟩
 ·let⟨c1,c2,c3,c4⟩:=uK O (p:=r.1) (n:=r.2.1) (nrem:=nrem) 8#0 8#0 8#0 a5;exact⟨c1.trans a1,c2,c3,c4⟩
omit O in
theorem rZ {p:Array Nat} {n nrem N:Nat} (h0:0<N) (hb:∀x∈p,x<N):bE lt N (kas_tail3 n nrem p):=bE.bind (nV (jX.perm h0 hb dG) _ _) trivial
theorem jM {p:Array Nat} {n nrem N:Nat} (h0:0<N) (hb:∀x∈p,x<N) (h1:1<=n) (hn:n+1<=nrem) (hz:nrem<=p.size) (h:dO lt p (n+1)):bE lt N (kas_descPart n nrem p):=by
 unfold kas_descPart;refine bE.bind (jn h0 _ _ _ _ hb) ?_
 let⟨a1,_⟩:=iI O (nrem-(n+1)) p (n+1) 0 8#0 8#0 h (λi j b1 b2 b3 b4=>by
  have e1:i=n:=by lia
  have e2:j=n:=by lia
  rw[e1,e2]
  exact O.rf _)
 split
 ·exact rZ h0 λx hx=>hb x (a1.mem_iff.mp (dG.mem_iff.mp hx))
 ·exact rZ h0 λx hx=>hb x (a1.mem_iff.mp hx)
set_option tactic.hygienic true in
theorem AU {p:Array Nat} {nrem N:Nat} (h0:0<N) (hb:∀x∈p,x<N) (h1:1<=nrem) (hz:nrem<=p.size):bE lt N (kas_count nrem p)/\(ai lt (kas_count nrem p)).2.Perm p/\1<=(ai lt (kas_count nrem p)).1/\(ai lt (kas_count nrem p)).1<=nrem/\et lt (ai lt (kas_count nrem p)).2 (ai lt (kas_count nrem p)).1:=by
 have b:=jX.of h0 hb;let⟨a1,a2,a3,a4⟩:=s8 O (p:=p) (nrem-1) 1 (aah _) (et.one O)
 have key:bE lt N (if (ai lt 8#17==nrem)=true then KasT.ret (ai lt 8#17,p) else if ai lt 8#17>1 then KasT.ask (g p 0) (g p (ai lt 8#17-1)) λc=>if c=true then .ret (ai lt 8#17,p) else kas_descPart (ai lt 8#17) nrem (kas_rev p 0 (ai lt 8#17))
   else kas_descPart (ai lt 8#17) nrem p)/\∀r,r=ai lt (if (ai lt 8#17==nrem)=true then KasT.ret (ai lt 8#17,p) else if ai lt 8#17>1 then KasT.ask (g p 0) (g p (ai lt 8#17-1)) λc=>if c=true then .ret (ai lt 8#17,p) else kas_descPart (ai lt 8#17) nrem (kas_rev p 0 (ai lt 8#17))
   else kas_descPart (ai lt 8#17) nrem p)->r.2.Perm p/\1<=r.1/\r.1<=nrem/\et lt r.2 r.1:=by
  generalize ai lt 8#17=m at a1 a2 a3 a4⊢;split
  ·exact⟨trivial,λr hr=>by subst hr;exact⟨.refl _,a1,by show m<=nrem;lia,a3⟩⟩
  ·rename_i hne;have hm:m≠nrem:=λe=>hne (by simpa using e);have hlt:lt (g p m) (g p (m-1))=true:=a4.resolve_left 8#0;split
   ·by_cases c:lt (g p 0) (g p (m-1))=true
    ·refine⟨⟨b _,b _,by show bE lt N (if lt (g p 0) (g p (m-1))=true then _ else _);rw[if_pos c];trivial⟩,λr hr=> ?_⟩;have e:r=ai lt (if lt (g p 0) (g p (m-1))=true then KasT.ret (m,p) else kas_descPart m nrem (kas_rev p 0 m)):=hr;rw[if_pos c] at e;subst e;exact⟨.refl _,a1,by show m<=nrem;lia,a3⟩
    ·have c0:lt (g p 0) (g p (m-1))=false:=by simpa using c
     have hmz:m<=p.size:=by lia
     have eqs:xH lt p 0 m:=λi j _ b2 _ b4=>by
      have x1:lt (g p (m-1)) (g p i)=false:=a3 i (m-1) 8#0 8#0;have x2:lt (g p j) (g p 0)=false:=a3 0 j 8#0 b4;have y1:lt (g p 0) (g p j)=false:=O.tr _ _ _ (a3 j (m-1) 8#0 8#0) c0;have y2:lt (g p i) (g p 0)=false:=a3 0 i 8#0 b2;exact O.tr _ _ _ y1 y2
     have d1:dO lt (kas_rev p 0 m) m:=λi j b1 b2=>by
      rw[fk hmz,fk hmz,if_pos ⟨by lia,by lia⟩,if_pos ⟨by lia,b2⟩];exact eqs _ _ 8#0 8#0 8#0 8#0
     have d2:dO lt (kas_rev p 0 m) (m+1):=dO.up O d1 8#0 (by
      rw[fk hmz,fk hmz,if_pos ⟨by lia,by lia⟩,if_neg 8#0]
      exact O.tr _ _ _ (O.as _ _ hlt) (eqs _ _ 8#0 8#0 8#0 8#0))
     have hb':∀x∈kas_rev p 0 m,x<N:=λx hx=>hb x (dG.mem_iff.mp hx);refine⟨⟨b _,b _,by show bE lt N (if lt (g p 0) (g p (m-1))=true then _ else _);rw[if_neg c];exact jM O h0 hb' 8#0 8#0 (by rw[ju];lia) d2⟩,λr hr=> ?_⟩;have e:r=ai lt (if lt (g p 0) (g p (m-1))=true then KasT.ret (m,p) else kas_descPart m nrem (kas_rev p 0 m)):=hr;rw[if_neg c] at e;subst e;let⟨z1,z2,z3,z4⟩:=lh O (p:=kas_rev p 0 m) (n:=m) (nrem:=nrem) 8#0 8#0 (by rw[ju];lia) d2;exact⟨z1.trans dG,z2,z3,z4⟩
   ·have m1:m=1:=by lia
    have d2:dO lt p (m+1):=by
     subst m1
     exact dO.up O (λi j b1 b2=>by
      have:i=j:=by lia
      rw[this]
      exact O.rf _) (aah _) (O.as _ _ hlt)
    refine⟨jM O h0 hb 8#0 8#0 hz d2,λr hr=> ?_⟩;subst hr;exact lh O 8#0 8#0 hz d2
 have e:ai lt (kas_count nrem p)=_:=eI lt _ 8#17;refine⟨bE.bind (nV b _ _) key.1, ?_⟩;rw[e];exact key.2 _ rfl
theorem lG {p:Array Nat} {k N:Nat} (b:jX N p) (s:et lt p k):∀(f l r:Nat),l<=r->r<=k->r-l<=f->(∀i,i<l->lt (g p k) (g p i)=false)->(∀i,r<=i->i<k->lt (g p k) (g p i)=true)->
  bE lt N (kas_place p k f l r)/\ai lt (kas_place p k f l r)<=k/\(∀i,i<ai lt (kas_place p k f l r)->lt (g p k) (g p i)=false)/\∀i,ai lt (kas_place p k f l r)<=i->i<k->lt (g p k) (g p i)=true
 |0,l,r,h1,h2,h3,h4,h5=>by
  have:l=r:=by lia
  subst this;exact⟨trivial,h2,h4,h5⟩
 |f+1,l,r,h1,h2,h3,h4,h5=>by
  unfold kas_place
  by_cases c:l≥r
  ·rw[if_pos c]
   have:l=r:=by lia
   subst this;exact⟨trivial,h2,h4,h5⟩
  ·rw[if_neg c];have e:ai lt (KasT.ask (g p k) (g p ((l+r)/2)) λc=>if c=true then kas_place p k f l ((l+r)/2) else kas_place p k f ((l+r)/2+1) r)=ai lt (if lt (g p k) (g p ((l+r)/2))=true then kas_place p k f l ((l+r)/2) else kas_place p k f ((l+r)/2+1) r):=rfl;have e2:bE lt N (KasT.ask (g p k) (g p ((l+r)/2)) λc=>if c=true then kas_place p k f l ((l+r)/2) else kas_place p k f ((l+r)/2+1) r)=(g p k<N/\g p ((l+r)/2)<N/\bE lt N (if lt (g p k) (g p ((l+r)/2))=true then kas_place p k f l ((l+r)/2) else kas_place p k f ((l+r)/2+1) r)):=rfl;rw[e,e2]
   by_cases d:lt (g p k) (g p ((l+r)/2))=true
   ·rw[if_pos d]
    let⟨z1,z2,z3,z4⟩:=lG b s f l ((l+r)/2) 8#0 8#0 8#0 h4 (λi b1 b2=>by
     cases q:lt (g p k) (g p i) with
     |true=>rfl
     |false=>
      have x:=s ((l+r)/2) i b1 b2;have y:=O.tr _ _ _ x q;rw[d] at y
      cases y)
    exact⟨⟨b _,b _,z1⟩,z2,z3,z4⟩
   ·rw[if_neg d]
    have d0:lt (g p k) (g p ((l+r)/2))=false:=by simpa using d
    let⟨z1,z2,z3,z4⟩:=lG b s f ((l+r)/2+1) r 8#0 h2 8#0 (λi b1=>O.tr _ _ _ (s i ((l+r)/2) 8#0 8#0) d0) h5;exact⟨⟨b _,b _,z1⟩,z2,z3,z4⟩
theorem xQ {N:Nat} (h0:0<N):∀(f:Nat) (p:Array Nat) (k:Nat),(∀x∈p,x<N)->k+f<=p.size->et lt p k->bE lt N (kas_bin f p k)/\(ai lt (kas_bin f p k)).Perm p/\et lt (ai lt (kas_bin f p k)) (k+f)
 |0,p,k,_,_,h=>⟨trivial, .refl _,h⟩
 |f+1,p,k,hb,hz,h=>by
  let⟨z1,z2,z3,z4⟩:=lG O (jX.of h0 hb) h k 0 k 8#0 (aah _) 8#0 (λi hi=>by lia) (λi b1 b2=>by lia);generalize el:ai lt (kas_place p k k 0 k)=l at z2 z3 z4
  have ks:k<p.size:=by lia
  have kl:k-(k-l)=l:=by lia
  have gb:=JF (p:=p) (s:=k) (d:=k-l) ks 8#0;rw[kl] at gb
  have s2:et lt (bubble p k (k-l)) (k+1):=λi j b1 b2=>by
   rw[gb,gb]
   by_cases ej:j=l
   ·rw[if_pos ej]
    by_cases ei:i=l
    ·rw[if_pos ei];exact O.rf _
    ·rw[if_neg ei,if_neg 8#0];exact z3 i 8#0
   ·rw[if_neg ej]
    by_cases cj:l<j/\j<=k
    ·rw[if_pos cj]
     by_cases ei:i=l
     ·rw[if_pos ei];exact O.as _ _ (z4 (j-1) 8#0 8#0)
     ·rw[if_neg ei]
      by_cases ci:l<i/\i<=k
      ·rw[if_pos ci];exact h _ _ 8#0 8#0
      ·rw[if_neg ci];exact h _ _ 8#0 8#0
    ·rw[if_neg cj,if_neg 8#0,if_neg 8#0];exact h _ _ b1 8#0
  have hb':∀x∈bubble p k (k-l),x<N:=λx hx=>hb x ((bubble_perm p k (k-l)).mem_iff.mp hx);let⟨y1,y2,y3⟩:=xQ h0 f (bubble p k (k-l)) (k+1) hb' (by rw[bubble_size];lia) s2
  have e:ai lt (kas_bin (f+1) p k)=ai lt (kas_bin f (bubble p k (k-l)) (k+1)):=by
   show ai lt ((kas_place p k k 0 k).bind λl=>kas_bin f (bubble p k (k-l)) (k+1))=_;rw[eI,el]
  refine⟨bE.bind z1 (by rw[el];exact y1), ?_, ?_⟩
  ·rw[e];exact y2.trans (bubble_perm ..)
  ·rw[e,show k+(f+1)=k+1+f by lia];exact y3
theorem ow {n:Nat} (hn:1<=n):bE lt n (kas_sort n)/\(ai lt (kas_sort n)).toList.Perm (List.range n)/\et lt (ai lt (kas_sort n)) n:=by
 have hb:∀x∈List.toArray (List.range n),x<n:=λx hx=>by simpa using hx
 let⟨a1,a2,a3,a4,a5⟩:=AU O (p:=List.toArray (List.range n)) (nrem:=n) hn hb hn 8#5
 have key:bE lt n (if (ai lt 9#6).1<n then kas_bin (n-max (ai lt 9#6).1 1) (ai lt 9#6).2 (max (ai lt 9#6).1 1) else .ret (ai lt 9#6).2)/\
   ∀q,q=ai lt (if (ai lt 9#6).1<n then kas_bin (n-max (ai lt 9#6).1 1) (ai lt 9#6).2 (max (ai lt 9#6).1 1) else .ret (ai lt 9#6).2)->q.toList.Perm (List.range n)/\et lt q n:=by
  generalize ai lt 9#6=r at a2 a3 a4 a5⊢;have hbr:∀x∈r.2,x<n:=λx hx=>hb x (a2.mem_iff.mp hx)
  have sz:r.2.size=n:=by
   rw[a2.size_eq];simp
  have pm:r.2.toList.Perm (List.range n):=by
   have:=Array.perm_iff_toList_perm.mp a2;simpa using this
  by_cases c:r.1<n
  ·rw[if_pos c]
   have e:max r.1 1=r.1:=by lia
   rw[e];let⟨y1,y2,y3⟩:=xQ O hn (n-r.1) r.2 r.1 hbr 8#0 a5;refine⟨y1,λq hq=> ?_⟩;subst hq
   have:r.1+(n-r.1)=n:=by lia
   rw[this] at y3;exact⟨(Array.perm_iff_toList_perm.mp y2).trans pm,y3⟩
  ·rw[if_neg c]
   have e:r.1=n:=by lia
   rw[e] at a5;exact⟨trivial,λq hq=>by subst hq;exact⟨pm,a5⟩⟩
 refine⟨bE.bind a1 key.1, ?_⟩;have e:ai lt (kas_sort n)=_:=eI lt _ 9#6;rw[e];exact key.2 _ rfl
end
end SortT
namespace L2.L3
open PySem PySem.Spec PyProof.Rows PySem.W
theorem nJ:∀{x y:2#Int},HT.lexLt x y=true->HT.lexLt y x=false
 |[],[],h=>rfl
 |[],_::_,h=>rfl
 |_::_,[],h=>by cases h
 |a::r,b::t,h=>by
  rw[HT.eQ] at h⊢
  by_cases c:a=b
  ·rw[if_pos c] at h;rw[if_pos c.symm];exact nJ h
  ·rw[if_neg c] at h;rw[if_neg (λz=>c z.symm)];have:=aa4 h;exact aaB 8#0
theorem qO:∀{x y z:2#Int},HT.lexLt y x=false->HT.lexLt z y=false->HT.lexLt z x=false
 |[],[],z,_,h2=>h2
 |[],_::_,[],_,h2=>by cases h2
 |[],_::_,_::_,_,_=>rfl
 |_::_,[],z,h1,_=>by cases h1
 |a::r,b::t,[],_,h2=>by cases h2
 |a::r,b::t,c::u,h1,h2=>by
  rw[HT.eQ] at h1 h2⊢
  by_cases e1:b=a
  ·rw[if_pos e1] at h1
   by_cases e2:c=b
   ·rw[if_pos e2] at h2;rw[if_pos (e2.trans e1)];exact qO h1 h2
   ·rw[if_neg e2] at h2;rw[if_neg (λz=>e2 (z.trans e1.symm))];have:=abK h2;exact aaB 8#0
  ·rw[if_neg e1] at h1;have k1:=abK h1
   by_cases e2:c=b
   ·rw[if_pos e2] at h2;rw[if_neg (λz=>e1 (e2.symm.trans z))];exact aaB 8#0
   ·rw[if_neg e2] at h2;have k2:=abK h2;rw[if_neg 8#0];exact aaB 8#0
section
variable {prog:Program} {w:World} {A:Around} {s:9#4}
theorem qM {b:Bool} {Q:Bool->Shared->Prop}:∀{xs ys:2#Value} {ns ms:2#Int} (i:Nat) {fin:Bool},Vals (ns.map V.int) xs->Vals (ms.map V.int) ys->0#ns=0#ms->fin=false->
  Q (HT.lexLt ns ms) s->KatLex prog w A b fin Q (xs.zip ys) i s
 |_,_,[],[],i,_, .nil, .nil,_,hf,q=>by
  rw[hf];exact q
 |_,_,[],_::_,i,_, .nil, .cons _ _,hl,_,_=>by simp at hl
 |_,_,_::_,[],i,_, .cons _ _, .nil,hl,_,_=>by simp at hl
 |u::us,v::vs,n::ns,m::ms,i,fin, .cons r1 h1, .cons r2 h2,hl,hf,q=>by
  let⟨t,rfl⟩:=r1;let⟨t',rfl⟩:=r2;refine kat_cons (wpAny_eqBool_int ?_);rw[HT.eQ] at q
  by_cases c:n=m
  ·rw[if_pos c] at q
   have e:(n==m)=true:=by simpa using c
   rw[e];exact kat_yes (qM (i+1) h1 h2 (by simpa using hl) hf q)
  ·rw[if_neg c] at q
   have e:(n==m)=false:=by simpa using c
   rw[e];refine kat_no ?_
   cases hb':(b&&i==0) with
   |true=>exact oneLt_int q
   |false=>exact kat_one _ _ (lt_int (show PySem.W.BoolBack Q (.bool (decide (n<m))) s from q))
end
def fY (H:Hp) (v:V) (k:2#Int):Prop:=∃p,v= 3#p/\H p=1#(.tup (k.map V.int))
section
variable {X:Cx} {pins:8#7} {σ:St} {H:Hp} {s:9#4} {k:Nat} {f:Addr} {fd:FuncData} {ps:2#Str} {sp:Sp}
theorem AQ {Q:VK} {v:V} {u:Value} (F:8#21) (hr:Room k X.A.in1.in1) (hb:Binds X.K fd ps []) (I:8#1) (r:RelV v u) (h:sp [v] H Q (λ_ _ _=>False)):
  wpAny 8#3 X.A.in1.in1 (call 3#f [u]) (EP X pins σ Q) (λ_ _=>False) s:=by
 have r2:Vals [v] [u]:= .cons r .nil;have hl:0#([u]++([]:2#Value))=0#ps:=F.len _ _ _ _ h;refine wpAny_call (acH (F.run X.A.in1.in1 X.stack s H ⟨[u],[]⟩ [u] [v] Q _ hr I.Ax.in1.in1 (hb s [u] I.bQ hl) r2 h) λr s' hq=> ?_)
 cases r with
 |error e=>
  let⟨_,_,_,_,_,_,_,_,_,_,_,_,_,_,_,z⟩:=hq;exact z
 |ok fl=>
  cases fl with
  |ret u=>exact I.after hq
  |next=>exact False.elim hq
  |brk=>exact False.elim hq
  |cont=>exact False.elim hq
end
section
variable {X:Cx} {pins:8#7} {σ:St} {H H1:Hp} {s:9#4} {D kS:Addr} {e1:Nat} {zs kv:2#V} {ws:2#Value} {E:8#2} {A:Around}
structure Place (X:Cx) (pins:8#7) (D:Addr):Prop where
 fp:∀H:Hp,H D=none->cK X pins H D
 nw:X.s₀.heap.get? D=none
end
theorem range_getD {α:Type} (l:2#α) (d:α):(List.range 0#l).map (λi=>l.getD i d)=l:=by
 refine List.ext_getElem 8#5 λi h1 h2=> ?_;rw[List.getElem_map,List.getElem_range,aax,aac h2];rfl
theorem zj {ys:2#V} {us:2#Value} (h:Vals ys us):∀i,i<0#ys->RelV (ys.getD i .non) (us.getD i .none):=λi hi=>by
 let⟨u,hu,ru⟩:=h.get (aac hi);rw[aax,aac hi,aax,hu];exact ru
theorem pF {ys:2#V} {us:2#Value} (h:Vals ys us):∀{p:2#Nat},(∀i∈p,i<0#ys)->Vals (p.map λi=>ys.getD i .non) (p.map λi=>us.getD i Value.none)
 |[],_=> .nil
 |i::r,hp=> .cons (zj h i (hp i aaD)) (pF h λj hj=>hp j (aat _ hj))
section
variable {X:Cx} {pins:8#7} {σ:St} {H H1:Hp} {s:9#4} {D kS:Addr} {e1 m:Nat} {ys kv:2#V} {us its:2#Value} {keys:2#2#Int} {E:8#2} {A:Around}
theorem ve (I:8#1) {v:V} {u:Value} {k:2#Int} (r:RelV v u) (h:fY H v k):∃a o xs n,u= 3#a/\s.heap.get? a=1#o/\o.cls= .type "tuple"/\o.data= .seq xs n/\Vals (k.map V.int) xs.toList:=by
 let⟨p,rfl,h⟩:=h;cases r;let⟨_,its,rt,o,g1,g2,n,g3⟩:=I.ah p _ h;exact⟨p,o,_,n,rfl,g1,g2,g3,by simpa using rt⟩
theorem qK (I:8#1) (hm:0<m):∀{kv:2#V} {its:2#Value} {keys:2#2#Int},Vals kv its->Paired (fY H) kv keys->(∀k∈keys,0#k=m)->∃fs:2#Value,0#fs=0#kv/\KatTups s.heap its fs/\∀v∈fs,∃i t,v= .int i t
 |_,_,_, .nil, .nil,_=>⟨[],rfl,KatTups.nil,λv hv=>by cases hv⟩
 |_,_,_, .cons r rr, .cons (b:=k) q qq,hl=>by
  let⟨fs,f1,f2,f3⟩:=qK I hm rr qq λk hk=>hl k (aat _ hk);let⟨a,o,xs,n,rfl,g1,g2,g3,g4⟩:=ve I r q;have hk:=hl k aaD
  cases k with
  |nil=>
   rw[show 0#([]:2#Int)=0 from rfl] at hk;lia
  |cons i kr=>
   have g4':Vals (V.int i::kr.map V.int) xs.toList:=g4
   cases ex:xs.toList with
   |nil=>
    rw[ex] at g4';cases g4'
   |cons u0 ur=>
    rw[ex] at g4'
    cases g4' with
    |cons h0 _=>
     let⟨t,rfl⟩:=h0;refine⟨.int i t::fs,by rw[aar,aar,f1],KatTups.cons g1 g2 g3 ?_ f2,λv hv=> ?_⟩
     ·rw[←Array.getElem?_toList,ex];rfl
     ·rcases aaq.mp hv with rfl|hv
      ·exact⟨i,t,rfl⟩
      ·exact f3 v hv
theorem vP (I:8#1) (hv:Vals kv its) (hk:Paired (fY H) kv keys) {i:Nat} (hi:i<0#kv):∃a o xs n,its.getD i .none= 3#a/\s.heap.get? a=1#o/\o.data= .seq xs n/\Vals ((keys.getD i []).map V.int) xs.toList/\keys.getD i []∈keys:=by
 let⟨u,hu,ru⟩:=hv.get (aac hi);have hl:=abm hk
 obtain⟨y,hy,q⟩:∃y,keys[i]?=1#y/\fY H kv[i] y:=by
  have:∀{l:2#V} {r:2#2#Int} {i:Nat} {x:V},Paired (fY H) l r->l[i]?=1#x->∃y,r[i]?=1#y/\fY H x y:=λ{l r i x} h=>by
   induction h generalizing i with
   |nil=>intro e;simp at e
   |cons h _ ih=>
    intro e
    cases i with
    |zero=>
     simp at e;subst e;exact⟨_,rfl,h⟩
    |succ i=>
     let⟨y,h1,h2⟩:=ih (i:=i) (by simpa using e);exact⟨y,by simpa using h1,h2⟩
  exact this hk (aac hi)
 let⟨a,o,xs,n,rfl,g1,g2,g3,g4⟩:=ve I ru q;refine⟨a,o,xs,n, ?_,g1,g3, ?_, ?_⟩
 ·rw[aax,hu];rfl
 ·rw[aax,hy];exact g4
 ·rw[aax,hy];exact aau hy
def mK (keys:2#2#Int) (p:2#Nat):Prop:=p.Pairwise λi j=>HT.lexLt (keys.getD j []) (keys.getD i [])=false
end
section
variable {X:Cx} {pins:8#7} {σ:St} {H:Hp} {s:9#4} {k m:Nat} {f a:Addr} {fd:FuncData} {ps:2#Str} {sp:Sp} {ys:2#V} {keys:2#2#Int} {Q:VK} {E:8#2}
end
section
variable {X:Cx} {pins:8#7} {σ:St} {H:Hp} {s:9#4} {a:Addr} {y v:V} {u r:Value} {A:Around} {E:8#2}
theorem IF {H':Hp} {Q:Unit->Shared->Prop} (hu:A.units<cLine) (I:8#1) (g:fP H a y v H') (ry:RelV y u) (rv:RelV v r) (h:∀s',Inv X pins σ H' s'->Q () s'):
  wpAny 8#3 A (dictSet a u r) Q E s:=by
 rcases g with⟨kvs,k,e,ey,l,eH⟩|⟨kvs,k,b,e,ey,eb,l,eH⟩
 ·subst ey eH;let⟨z,hd,vs,rel,dd⟩:=Cq I.ah e
  have hz:0#vs<=sizeLine:=by rw[←0#rel];exact z
  have hl:0#(putK kvs k v)<=sizeLine:=by have:=fu kvs k v;lia
  refine wpAny_dictSet_pairs (hsz:=hz) (dX ry) dd λh' dd' hs=>h _ ?_
  have he:∃q,h'.get? a=1#q:=let ⟨q,_,_,hq,_⟩:=dd';⟨q,hq⟩
  exact kz I (by rw[e];exact True.intro) hs he (yU hl hd (rel.put k rv) dd')
 ·subst ey eH;cases 8#26;let⟨z,hd,xs,rel,dd⟩:=Ca I.ah e
  have hz:0#xs<=sizeLine:=by rw[←abm rel];exact z
  have hl:0#(putK kvs k v)<=sizeLine:=by have:=fu kvs k v;lia
  refine wpAny_dictSet_heap (hsz:=hz) (show (tupleKind (aN X.prog X.w)).room A from hu) (dh I.ah eb) dd λh' dd' hs=>h _ ?_;let⟨q,es,ep,hq,h2,h3,h4,_,h5⟩:=dd';refine kz I (by rw[e];exact True.intro) hs ⟨q,hq⟩ ⟨hl,hd,_,(rel.put k eb rv).keeps λc ys ec=> ?_,q,es,ep,hq,h2,h3,h4,h5⟩;rw[ar (qy ec e (λz=>nomatch z))];exact ec
end
theorem hG:plainId "dict.update.loop"=true:=by decide+kernel
theorem pL:entryFor table "dict.update.loop"=1#Builtin.«dict.update.loop»:=entryFor_of_fast (by kernel_rfl)
theorem Ei {w:World} {A:Around} {E:8#2} {s:9#4} {b:Bool} {l:Addr} {k:Nat} {xs:Array Value} {x:Value} {Q:5#Value->Shared->Prop} (gi:dS b s.heap it l k) (gl:cT b s.heap l xs) (gx:xs[k]?=1#x)
  (q:∀h1,dS b h1 it l (k+1)->Heap.SameBut it s.heap h1->Q 1#x {s with heap:=h1}):wpAny 9#2 A (pyNext 3#it) Q E s:=by
 cases b
 ·exact wpAny_pyNext_tuple_item gi gl gx λh' a1 a2=>q h' a1 a2
 ·exact wpAny_pyNext_list_item gi gl gx λh' a1 a2=>q h' a1 a2
theorem HE {w:World} {A:Around} {E:8#2} {s:9#4} {b:Bool} {l:Addr} {k:Nat} {xs:Array Value} {Q:5#Value->Shared->Prop} (hh:A.handled=none) (gi:dS b s.heap it l k) (gl:cT b s.heap l xs) (gx:xs[k]?=none)
  (q:∀h1,(∀b o,b≠it->s.heap.get? b=1#o->h1.get? b=1#o)->Q none {s with heap:=h1}):wpAny 9#2 A (pyNext 3#it) Q E s:=by
 cases b
 ·exact wpAny_pyNext_tuple_end hh gi gl gx λh' a1=>q h' λb o hb e=>a1 b o hb e
 ·exact wpAny_pyNext_list_end hh gi gl gx λh' a1=>q h' λb o hb e=>a1 b o hb e
section
variable {X:Cx} {pins:8#7} {σ:St} {A:Around}
def Puts (d:Addr) (ys:2#V) (HH:Nat->Hp):Prop:=∀i,i<0#ys->∃p y v,ys[i]?=1#3#p/\HH i p=1#(.tup [y,v])/\fP (HH i) d y v (HH (i+1))
theorem BO {R:Result->Shared->Prop} {b:Bool} {d l:Addr} {ys:2#V} {HH:Nat->Hp} {res:Value} (hh:A.in1.handled=none) (hu:A.in1.units<cLine) (hq:∀i,i<=0#ys->eP b X.K (HH i) l ys) (hp:Puts d ys HH) (hf:∀i,i<=0#ys->cK X pins (HH i) it)
  (fin:∀s',Inv X pins σ (HH 0#ys) s'->R (.ok (.ret res)) s'):
  ∀(k i:Nat) (s:9#4) (n:Int) (tk:Tok),0#ys-i=k->i<=0#ys->Inv X pins σ (HH i) s->dS b s.heap it l i->codeAny 8#3 A (.builtin "dict.update.loop" ⟨[3#d, 3#it, .int n tk,res],[]⟩) R s:=by
 intro k
 induction k with
 |zero=>
  intro i s n tk hk hi I st
  have hin:i=0#ys:=by lia
  subst hin;refine codeAny_builtin pL ?_;rw[Around.under_plainId hG _];let⟨its,rv,p,hz⟩:=aO I (hq _ hi);let⟨f0,f1,f2,f3,f4,f5⟩:=hf _ hi;have hl:=0#rv;show wpAny _ A.in1 (pyNext 3#it>>=_) _ _ s;refine aaa (HE hh st p (by simp;lia) λh' eb=> ?_);refine aaa (m:=Builtin.Dict.addKeywords d []) (aaf (aaf (fin _ (I.turned (t':=s.toks) (λb o hb e=>eb b o hb e) f0 f1 f3 f4 f5))))
 |succ k ih=>
  intro i s n tk hk hi I st
  have hlt:i<0#ys:=by lia
  refine codeAny_builtin pL ?_;rw[Around.under_plainId hG _];let⟨its,rv,p,hz⟩:=aO I (hq _ hi);let⟨q,y,v,hy,hqp,dp⟩:=hp i hlt;let⟨u,hu',ru⟩:=rv.get hy;cases (show u=Value.ref q from ru);have fi:=hf i hi;let⟨f0,f1,f2,f3,f4,f5⟩:=hf _ hi;show wpAny _ A.in1 (pyNext 3#it>>=_) _ _ s;refine aaa (Ei st p (x:= 3#q) (by simpa using hu') λh1 st1 sb=> ?_);have I1:Inv X pins σ (HH i) {s with heap:=h1}:=I.turned (t':=s.toks) (λb o hb e=>(sb.2 b hb).trans e) f0 f1 f3 f4 f5;let⟨_,its2,r2,o,e1,e2,n2,e3⟩:=(show aQ X.prog X.w (HH i) h1 q (.tup [y,v]) from I1.ah q _ hqp);let⟨uy,uv,rfl,ry,rv2⟩:=Vals.two r2;have tT:Shared.TypeIs {s with heap:=h1} 3#q "tuple":=⟨o,e1,e2⟩;refine aaa (abn ?_);refine aaa (wpAny_tryCatch ?_);unfold Builtin.Dict.pairItems;refine aaa (wpAny_typeOf tT ?_);rw[if_pos 8#16];refine aaa (abh e1 e3 ?_);refine aaf ?_;show wpAny _ A.in1 (holding [uy,uv] (dictSet d uy uv)) _ _ _;refine abn ?_
  have fo:∀b∈[it],∃o,h1.get? b=1#o/\∀v,o.data≠ .cell v:=λb hb=>by
   rw[aaG.mp hb];exact st1.live
  have f1':∀b∈[it],cK X pins (HH i) b:=λb hb=>by
   rw[aaG.mp hb];exact fi
  have I2:=I1.pinned f1' fo;refine IF hu I2 dp ry rv2 λs' I3=> ?_;refine aaf ⟨plainId_quiet hG _,ih (i+1) s' _ _ 8#0 hlt I3.ja (st1.at λo e=> ?_)⟩
  have pm:(it,o)∈bI [it] h1:=by
   unfold bI;simp[e]
  exact(I3.pin (it,o) (aaw _ (aaw _ pm))).1
end
theorem tV:typeLookup (.type "list") "keys"=pure none:=by rw[typeLookup_type,builtinLookup_eq_fast];kernel_rfl
theorem qd:typeLookup (.type "tuple") "keys"=pure none:=by rw[typeLookup_type,builtinLookup_eq_fast];kernel_rfl
theorem rM {w:World} {A:Around} {E:8#2} {s:9#4} {a:Addr} {o:Obj} {xs:Array Value} {k:Nat} {Q:5#Value->Shared->Prop}
  (hx:s.heap.get? a=1#o) (hc:o.cls= .type "list") (hdat:o.data= .seq xs k) (hd:o.dict=none) (hA:A.handled=none)
  (h:∀h' tk e,Heap.NewExcOf s.heap h' e "AttributeError"->Q none {s with heap:=h',toks:=tk}):
  wpAny 9#2 A (getAttr? 3#a "keys") Q E s:=by
 let⟨c,dct,dat,sl⟩:=o;simp only at hc hdat hd;subst hc hdat hd;let⟨hp,g,d,tk,os⟩:=s;have hT:∀tk',(⟨hp,g,d,tk',os⟩:Shared).TypeIs 3#a "list":=λ_=>⟨_,hx,rfl⟩;have f1:=sub_AttributeError;have f3:=F.slot_list_getattribute.lookup;have f4:=F.slot_list_getattribute.bind 3#a;have f5:=am_list_getattr_none;unfold getAttr? getAttrBy? getAttrBy
 repeat (any_goals (first|assumption|exact hT _|((with_reducible show wpAny _ _ (call (Value.builtin "list.__getattribute__") _ _) _ _ _);refine call_meets F.slot_list_getattribute (hT _) am_entry_list_getattribute (F.args_list_getattribute_2 _ _) (meets_getattribute_miss_list a xs k sl "keys" _ tV (by decide+kernel)) ⟨hx,hA,λh' tk' e hx'=> ?_⟩)|wp_step))
 let⟨t',u',he⟩:=hx'.there;show wpAny _ _ (getattributeRaised _ _ _ _ _ _ _) _ _ _;unfold getattributeRaised
 repeat (any_goals (first|assumption|wp_step))
 exact h _ _ _ hx'.of
theorem p8 {w:World} {A:Around} {E:8#2} {s:9#4} {a:Addr} {o:Obj} {xs:Array Value} {k:Nat} {Q:5#Value->Shared->Prop}
  (hx:s.heap.get? a=1#o) (hc:o.cls= .type "tuple") (hdat:o.data= .seq xs k) (hd:o.dict=none) (hA:A.handled=none)
  (h:∀h' tk e,Heap.NewExcOf s.heap h' e "AttributeError"->Q none {s with heap:=h',toks:=tk}):
  wpAny 9#2 A (getAttr? 3#a "keys") Q E s:=by
 let⟨c,dct,dat,sl⟩:=o;simp only at hc hdat hd;subst hc hdat hd;let⟨hp,g,d,tk,os⟩:=s;have hT:∀tk',(⟨hp,g,d,tk',os⟩:Shared).TypeIs 3#a "tuple":=λ_=>⟨_,hx,rfl⟩;have f1:=sub_AttributeError;have f3:=F.slot_tuple_getattribute.lookup;have f4:=F.slot_tuple_getattribute.bind 3#a;have f5:=am_tuple_getattr_none;unfold getAttr? getAttrBy? getAttrBy
 repeat (any_goals (first|assumption|exact hT _|((with_reducible show wpAny _ _ (call (Value.builtin "tuple.__getattribute__") _ _) _ _ _);refine call_meets F.slot_tuple_getattribute (hT _) am_entry_tuple_getattribute (F.args_tuple_getattribute_2 _ _) (meets_getattribute_miss_tuple a xs k sl "keys" _ qd (by decide+kernel)) ⟨hx,hA,λh' tk' e hx'=> ?_⟩)|wp_step))
 let⟨t',u',he⟩:=hx'.there;show wpAny _ _ (getattributeRaised _ _ _ _ _ _ _) _ _ _;unfold getattributeRaised
 repeat (any_goals (first|assumption|wp_step))
 exact h _ _ _ hx'.of
theorem cT.keys {b:Bool} {w:World} {A:Around} {E:8#2} {s:9#4} {l:Addr} {xs:Array Value} {Q:5#Value->Shared->Prop} (hl:cT b s.heap l xs) (hd:∀o,s.heap.get? l=1#o->o.dict=none) (hA:A.handled=none)
  (h:∀h' tk e,Heap.NewExcOf s.heap h' e "AttributeError"->Q none {s with heap:=h',toks:=tk}):wpAny 9#2 A (getAttr? 3#l "keys") Q E s:=by
 cases b
 ·let⟨o,e1,e2,n,e3⟩:=(show s.heap.IsTuple l xs from hl);exact p8 e1 e2 e3 (hd o e1) hA h
 ·let⟨o,e1,e2,n,e3⟩:=(show s.heap.IsList l xs from hl);exact rM e1 e2 e3 (hd o e1) hA h
def Plain (b:Bool) (H:Hp) (a:Addr) (ys:2#V):Prop:=cond b (H a=1#7#ys) (∃o:Obj,H a=1#(.aG o (.tup ys))/\o.dict=none)
theorem Plain.sq {b:Bool} {K:8#4} {H:Hp} {a:Addr} {ys:2#V} (h:Plain b H a ys):eP b K H a ys:=by
 cases b
 ·let⟨o,e,_⟩:=h;exact .inl (.inr ⟨o,e⟩)
 ·exact .inl (.inl h)
theorem Plain.is {b:Bool} {H:Hp} {a:Addr} {ys:2#V} (h:Plain b H a ys):H a≠none:=by
 cases b
 ·let⟨o,e,_⟩:=h;rw[e]
  exact λz=>nomatch z
 ·rw[show H a=_ from h]
  exact λz=>nomatch z
theorem Plain.keep {b:Bool} {H H':Hp} {a:Addr} {ys:2#V} (h:Plain b H a ys) (e:H' a=H a):Plain b H' a ys:=by
 cases b
 ·let⟨o,e1,e2⟩:=h;exact⟨o,e.trans e1,e2⟩
 ·exact e.trans h
theorem Plain.nodict {b:Bool} {X:Cx} {σ:St} {H:Hp} {s:9#4} {a:Addr} {ys:2#V} (h:Plain b H a ys) (I:8#1) (o:Obj) (e:s.heap.get? a=1#o):o.dict=none:=by
 cases b
 ·let⟨o',e1,e2⟩:=h;let⟨z,_⟩:=(show aQ X.prog X.w H s.heap a (.aG o' (.tup ys)) from I.ah a _ e1);rw[e] at z;cases z;exact e2
 ·let⟨_,its,n,_,z⟩:=(show aQ X.prog X.w H s.heap a 7#ys from I.ah a _ h);rw[e] at z;cases z;rfl
def JQ (b:Bool) (ob0:HO):2#V->Hp->VK->Prop:=λxs H Q=>∃l ys,xs=[3#l]/\Plain b H l ys/\∀p,H p=none->∃ob:Nat->HO,ob 0=ob0/\Puts p ys (λi=>upd H p (ob i))/\Q 3#p (upd H p (ob 0#ys))
theorem mV {X:Cx} (hc:X.calm=true) (hu:X.A.units+2<cLine) {b:Bool} {ob0:HO} (h0:ob0= .dK []∨ob0= .dT []):aC X (.type "dict") (JQ b ob0):=by
 intro pins s σ H xs us Q I r h;let⟨l,ys,rfl,hl,q⟩:=h;let⟨u,rfl,rx⟩:=vals1 r;cases (show u=Value.ref l from rx);have fr:=I.ah.fresh (aah s.heap.objs.size);let⟨ob,e0,hp,hq⟩:=q s.heap.objs.size fr;have hA:X.A.handled=none:=I.ok.hd hc;have nl:l≠s.heap.objs.size:=λz=>hl.is (by rw[z];exact fr);refine callType_codes (Q₁:=λobj s₁=>obj= 3#s.heap.objs.size/\s₁={s with heap:=s.heap.push {cls:= .type "dict",data:= .dict #[]}}) F.kt_called_dict (F.kt_typeCall_dict_1 _) F.entry_dict_init (kt_code_dict_new _ ⟨rfl,rfl⟩) ?_
 rintro obj s₁ ⟨rfl,rfl⟩
 have I1:Inv X pins σ (upd H s.heap.objs.size (ob 0)) {s with heap:=s.heap.push {cls:= .type "dict",data:= .dict #[]}}:=by
  rw[e0]
  rcases h0 with rfl|rfl
  ·exact I.laid (a:=s.heap.objs.size) (o:= .dK []) (t':=s.toks) (λ_ _ q=>aad _ q) (aah _) (tq s.heap I.big)
  ·exact I.laid (a:=s.heap.objs.size) (o:= .dT []) (t':=s.toks) (λ_ _ q=>aad _ q) (aah _) (AN s.heap I.big)
 have hnew:Shared.TypeIs {s with heap:=s.heap.push {cls:= .type "dict",data:= .dict #[]}} 3#s.heap.objs.size "dict":=⟨_,aak _ rfl,rfl⟩;have hl1:∀i,Plain b (upd H s.heap.objs.size (ob i)) l ys:=λi=>hl.keep (ar nl);let⟨its,rv,p,hz⟩:=aO (b:=b) I1 (hl1 0).sq
 have hT:Shared.TypeIs {s with heap:=s.heap.push {cls:= .type "dict",data:= .dict #[]}} 3#l (cond b "list" "tuple"):=by
  cases b
  ·let⟨o,e1,e2,_⟩:=(show Heap.IsTuple _ l its.toArray from p);exact⟨o,e1,e2⟩
  ·let⟨o,e1,e2,_⟩:=(show Heap.IsList _ l its.toArray from p);exact⟨o,e1,e2⟩
 refine⟨hnew,F.args_dict_init_2 _ _, ?_⟩;unfold Builtin.«dict.__init__»;refine aaa ?_;unfold Builtin.Dict.selfAndRest;refine aaa (acB hnew ?_);show wpAny _ _ (pure (s.heap.objs.size,[Value.ref l])) _ _ _;refine aaf ?_;show wpAny _ _ (Builtin.Dict.updateFrom "dict.__init__" s.heap.objs.size 3#l [] .none) _ _ _;unfold Builtin.Dict.updateFrom;refine aaa (wpAny_typeOf hT ?_);rw[if_pos (by cases b<;>decide)];refine aaa (cT.keys p ((hl1 0).nodict I1) hA λh' tk e hx=> ?_);rw[if_pos (show (none:5#Value).isNone=true from rfl)];have I2:Inv X pins σ (upd H s.heap.objs.size (ob 0)) {s with heap:=h',toks:=tk}:=I1.kept (t':=tk) hx.keeps;refine aaa (acI (aaa (Ba (b:=b) (s:={s with heap:=h',toks:=tk}) (p.at λo e=>hx.keeps _ _ e) λh1 st kp sz=> ?_)));have I3:Inv X pins σ (upd H s.heap.objs.size (ob 0)) {s with heap:=h1,toks:=tk}:=I2.kept (t':=tk) kp;refine aaf ⟨plainId_quiet hG _, ?_⟩
 have fp:∀i,i<=0#ys->cK X pins (upd H s.heap.objs.size (ob i)) h'.objs.size:=λi _=>by
  have lt:s.heap.objs.size<h'.objs.size:=aam (hx.keeps _ _ (aak (h:=s.heap) (o:={cls:= .type "dict",data:= .dict #[]}) rfl));refine I2.jQ (aah _) ?_;rw[ar (Ne.symm (aay lt))];exact I.ah.fresh (abI lt)
 refine BO (A:=X.A.in1) (b:=b) (l:=l) (ys:=ys) (HH:=λi=>upd H s.heap.objs.size (ob i)) hA hu (λi _=>(hl1 i).sq) hp fp (λs' I4=> ?_) 0#ys 0 _ _ _ 8#0 (aaX _) I3 st;exact⟨rfl, 3#s.heap.objs.size,_,I4,rfl,hq⟩
section
variable {κ:Type} [DecidableEq κ]
def putAll (acc:2#(κ×V)) (ps:2#(κ×V)):2#(κ×V):=ps.foldl (λa p=>putK a p.1 p.2) acc
theorem An (kvs:2#(κ×V)) (k:κ) (v:V):(putK kvs k v).map (·.1)=if k∈kvs.map (·.1) then kvs.map (·.1) else kvs.map (·.1)++[k]:=by
 have q:((kvs.any λkv=>decide (kv.1=k))=true)↔k∈kvs.map (·.1):=by
  simp[acy,aaC]
 unfold putK
 by_cases h:k∈kvs.map (·.1)
 ·rw[if_pos (q.mpr h),if_pos h,abQ];apply List.map_congr_left;intro x _
  by_cases e:x.1=k<;>simp[e]
 ·rw[if_neg (λz=>h (q.mp z)),if_neg h,acd];rfl
theorem mL:∀(ps acc:2#(κ×V)),0#(putAll acc ps)<=0#acc+0#ps
 |[],acc=>by simp[putAll]
 |p::ps,acc=>by
  have h:=mL ps (putK acc p.1 p.2)
  have l:0#(putK acc p.1 p.2)<=0#acc+1:=by
   have:=congrArg List.length (An acc p.1 p.2);rw[aaz] at this;rw[this];split<;>simp
  show 0#(putAll (putK acc p.1 p.2) ps)<=_;rw[aar];lia
theorem kO (ps:2#(κ×V)) {i:Nat} {p:κ×V} (h:ps[i]?=1#p):putAll [] (ps.take (i+1))=putK (putAll [] (ps.take i)) p.1 p.2:=by
 rw[List.take_succ,h];simp[putAll]
end
def Cw (H:Hp) (y:V) (kv:2#Key×V):Prop:=∃q c,y= 3#q/\H q=1#(.tup [3#c,kv.2])/\H c=1#(.tup (kv.1.map kV))
def Cs (H:Hp) (y:V) (kv:Key×V):Prop:=∃q,y= 3#q/\H q=1#(.tup [kV kv.1,kv.2])
def yF (b:Bool):2#V->Hp->VK->Prop:=λxs H Q=>∃l ys kvs,xs=[3#l]/\Plain b H l ys/\Paired (Cw H) ys kvs/\0#kvs<=1000/\∀p,H p=none->Q 3#p (upd H p (.dT (putAll [] kvs)))
def zm (b:Bool):2#V->Hp->VK->Prop:=λxs H Q=>∃l ys kvs,xs=[3#l]/\Plain b H l ys/\Paired (Cs H) ys kvs/\0#kvs<=1000/\∀p,H p=none->Q 3#p (upd H p (.dK (putAll [] kvs)))
theorem jK {α β:Type} {F:α->β->Prop}:∀{l:2#α} {r:2#β},Paired F l r->∀i,i<0#l->∃x y,l[i]?=1#x/\r[i]?=1#y/\F x y
 |_,_, .cons h _,0,_=>⟨_,_,rfl,rfl,h⟩
 |_,_, .cons _ t,i+1,hi=>by
  let⟨x,y,a,b,c⟩:=jK t i (by simpa using hi);exact⟨x,y,by simpa using a,by simpa using b,c⟩
theorem pE {κ:Type} [DecidableEq κ] {kvs:2#(κ×V)} (h:0#kvs<=1000) (i:Nat):0#(putAll [] (kvs.take i))<sizeLine:=by
 have:=mL (kvs.take i) ([]:2#(κ×V));rw[ade,acf,abc] at this;exact iq 8#0
theorem mX {X:Cx} (hc:X.calm=true) (hu:X.A.units+2<cLine) {b:Bool}:aC X (.type "dict") (yF b):=by
 intro pins s σ H xs us Q I r h;let⟨l,ys,kvs,rfl,hl,hp,hz,q⟩:=h;refine mV hc hu (b:=b) (ob0:= .dT []) (.inr rfl) pins s σ H _ us Q I r ⟨l,ys,rfl,hl,λp np=>⟨λi=> .dT (putAll [] (kvs.take i)),rfl,λi hi=> ?_, ?_⟩⟩
 ·let⟨x,kv,e1,e2,qq,c,rfl,h1,h2⟩:=jK hp i hi;have n1:=br h1 np;have n2:=br h2 np;refine⟨qq, 3#c,kv.2,e1,(ar n1).trans h1, ?_⟩;have:=fP.t (H:=upd H p (.dT (putAll [] (kvs.take i)))) (a:=p) (b:=c) (k:=kv.1) (v:=kv.2) aq (by rw[ar n2];exact h2) (pE hz i);rw[iL,←kO kvs e2] at this;exact this
 ·have el:=abm hp;show Q 3#p (upd H p (.dT (putAll [] (kvs.take 0#ys))));rw[el,List.take_length];exact q p np
theorem nE {X:Cx} (hc:X.calm=true) (hu:X.A.units+2<cLine) {b:Bool}:aC X (.type "dict") (zm b):=by
 intro pins s σ H xs us Q I r h;let⟨l,ys,kvs,rfl,hl,hp,hz,q⟩:=h;refine mV hc hu (b:=b) (ob0:= .dK []) (.inl rfl) pins s σ H _ us Q I r ⟨l,ys,rfl,hl,λp np=>⟨λi=> .dK (putAll [] (kvs.take i)),rfl,λi hi=> ?_, ?_⟩⟩
 ·let⟨x,kv,e1,e2,qq,rfl,h1⟩:=jK hp i hi;have n1:=br h1 np;refine⟨qq,kV kv.1,kv.2,e1,(ar n1).trans h1, ?_⟩;have:=fP.k (H:=upd H p (.dK (putAll [] (kvs.take i)))) (a:=p) (k:=kv.1) (v:=kv.2) aq (pE hz i);rw[iL,←kO kvs e2] at this;exact this
 ·have el:=abm hp;show Q 3#p (upd H p (.dK (putAll [] (kvs.take 0#ys))));rw[el,List.take_length];exact q p np
def IZ (K:8#4):2#V->Hp->VK->Prop:=λxs H Q=>∃p ys,xs=[3#p]/\bN K H p ys/\∀l o,H l=none->o.dict=none->Q 3#l (upd H l (.aG o (.tup ys)))
theorem yp {X:Cx}:aC X (.type "tuple") (IZ X.K):=by
 intro pins s σ H xs us Q I r h;let⟨p,ys,rfl,hq,q⟩:=h;let⟨u,rfl,rx⟩:=vals1 r;cases (show u=Value.ref p from rx);let⟨its,r',pl,hz⟩:=I.list hq;have hlen:=0#r';refine call_tuple_list pl.isList (λh' kp=> ?_) (by simp only[aaj]<;>lia);have I1:Inv X pins σ H {s with heap:=h'}:=I.kept (t':=s.toks) kp
 have I2:Inv X pins σ (upd H h'.objs.size (.aG {cls:= .type "tuple",data:= .seq its.toArray} (.tup ys))) {s with heap:=h'.push {cls:= .type "tuple",data:= .seq its.toArray}}:=
  I1.laid (t':=s.toks) (λb o e=>aad _ e) (aah _) (show aQ X.prog X.w _ _ _ (.aG _ (.tup ys)) from ⟨aak _ rfl,hz,its,r',IsTup.new _ _⟩)
 exact⟨3#h'.objs.size,_,I2,rfl,q _ _ (I1.ah.fresh (aah _)) rfl⟩
end L2.L3
namespace L2.L3
open PySem PySem.Spec PyProof.Rows PySem.W PySem.Builtin.Str
noncomputable def jY (x:Str) (lo hi:5#Int):Str:=if 0#(strSliceIndices lo hi 1 0#x)==0#x then x else ⟨((strSliceIndices lo hi 1 0#x).filterMap (x.cps[·]?)).toArray⟩
def LU:V->5#Int->5#Int->Hp->VK->Prop:=λx lo hi H Q=>∃z:Str,x= .str z/\0#z<=1000/\0#(jY z lo hi)<=1000/\Q (.str (jY z lo hi)) H
theorem part_of {v:Value} {lo:5#Int} (h:IsPart v lo):∃l:5#(Int×Tok),v=partValue l/\l.map (·.1)=lo:=by
 cases h with
 |none=>exact⟨none,rfl,rfl⟩
 |int i t=>exact⟨1#(i,t),rfl,rfl⟩
theorem EH {X:Cx}:oK X LU:=by
 intro pins s σ H x v vl vu lo hi sl Q I rx hs pl pu h;let⟨z,rfl,hz,hz2,q⟩:=h;let⟨t,rfl⟩:=(show∃t,v=Value.str z t from rx);let⟨l,rfl,el⟩:=part_of pl;let⟨u,rfl,eu⟩:=part_of pu;refine⟨"str",_,F.slot_str_getitem.lookup,typeIs_str _ _ _,wpAny_getItem_str_slice (l:=l) (u:=u) (st:=none) hs rfl ?_⟩
 have e:slicePicked z l u none=strSliceIndices lo hi 1 0#z:=by
  unfold slicePicked;rw[el,eu];rfl
 unfold sliceMade;rw[e];unfold jY at q hz2
 by_cases w:(0#(strSliceIndices lo hi 1 0#z)==0#z)=true
 ·rw[if_pos w] at q;rw[if_pos (by simpa using w)];exact⟨.str z,H,I,⟨t,rfl⟩,q⟩
 ·rw[if_neg w] at q hz2;rw[if_neg (by simpa using w)];exact⟨abI (iq hz2), .str _,H,I.tok _,⟨_,rfl⟩,q⟩
def J2:R2:=λx y H Q=>∃(z:Str) (k:Int),x= .str z/\y= 6#k/\0<=k/\k<=1000/\0#z<=1000/\Q (.str (Txt.mul z k)) H
theorem C5 {X:Cx}:aJ X (binaryOp .Mult) J2:=by
 intro pins s σ H x y u v Q I rx ry h;let⟨z,k,rfl,rfl,k0,k1,hz,q⟩:=h;let⟨t,rfl⟩:=(show∃t,u=Value.str z t from rx);let⟨t',rfl⟩:=(show∃t,v=Value.int k t from ry);refine SB.mul ⟨?_,λh1 _=> ?_,λ_ _=> ?_⟩ λt2 k2=>⟨.str _,H,I.tok _,⟨_,rfl⟩,q⟩
 ·rw[aaB 8#0,aaB 8#0];rfl
 ·have hk:(2^63-1)/(1000:Int)<=(2^63-1)/k:=by
   rw[Int.le_ediv_iff_mul_le 8#0];have:(2^63-1)/(1000:Int)*k<=(2^63-1)/(1000:Int)*1000:=Int.mul_le_mul_of_nonneg_left k1 8#16
   have h2:(2^63-1)/(1000:Int)*1000<=2^63-1:=by decide
   lia
  have h3:(1000:Int)<(2^63-1)/(1000:Int):=by decide
  lia
 ·unfold tooLong;have:0#z*k.toNat<=1000*1000:=Nat.mul_le_mul hz 8#0;apply aaB
  have h4:1000*1000<=sizeLine:=by decide
  lia
end L2.L3
namespace L2.L3
open PySem PySem.Spec PyProof.Rows PySem.W
def jA (h:Heap) (d:Addr) (es:Array DictEntry) (ep:Nat):Prop:=∃o,h.get? d=1#o/\o.ExactDict/\o.data= .dict es ep
theorem jA.ty {s:9#4} {d:Addr} {es:Array DictEntry} {ep:Nat} (x:jA s.heap d es ep):s.TypeIs 3#d "dict":=let ⟨o,e,c,_⟩:=x;⟨o,e,c.1⟩
section
variable {prog:Program} {w:World} {A:Around} {E:8#2} {s:9#4} {d:Addr} {es:Array DictEntry} {ep:Nat}
theorem CZ {Q:8#2} (hd:(d==sysModules)=false) (x:jA s.heap d es ep) (hf:(es.size:Int)<2^63) (h:∀t k,Q (.int es.size t) {s with toks:=k}):
  wpAny 9#2 A (call (.builtin "len") [3#d]) Q E s:=by
 refine Calls.call_function_entry kind_len plain_len entry_len (args_len1 _) ?_;unfold Builtin.«len»;refine aaa (m:=oneArg "len" _) (aaf ?_);refine aaa (m:=callSpecial? 3#d (Str.ofString "__len__")) (aaZ (name:=Str.ofString "__len__") x.ty F.slot_dict_len (abe F.slot_dict_len x.ty F.entry_dict_len ?_ (F.args_dict_len_1 _)));let⟨o,ho,hc,hdat⟩:=id x;unfold Builtin.«dict.__len__»;refine aaa (aaa (acB x.ty (aaf ?_)));show wpAny _ _ (dictSize d>>=_) _ _ s;unfold dictSize;refine aaa (aaa (aco ho hdat (aaf ?_)));show wpAny _ _ (Builtin.Dict.pendingCount d>>=_) _ _ s;refine aaa (wpAny_pendingCount_other hd ?_);refine aaa (wpAny_mkInt (aaf ⟨_,rfl, ?_⟩));show wpAny _ _ (holding [Value.int ((es.size:Int)+(0:Nat)) s.toks] (asIndex _)>>=_) _ _ _;refine aaa (abn (aaf ?_));refine aaa (acR ?_)
 have e:((es.size:Int)+((0:Nat):Int))=es.size:=by lia
 rw[e];rw[if_neg 8#0];show wpAny _ _ (if ((es.size:Nat):Int)≥2^63 then _ else _) _ _ _;rw[if_neg 8#0];refine aaa (wpAny_mkInt (aaf ⟨_,rfl,h _ _⟩))
theorem rE {Q:8#2} (hd:(d==sysModules)=false) (x:jA s.heap d es ep) (q:∀h1,h1.IsKeyIter s.heap.objs.size d 0 es.size ep->(∀c o,s.heap.get? c=1#o->h1.get? c=1#o)->Q 3#s.heap.objs.size {s with heap:=h1}):
  wpAny 9#2 A (pyIter 3#d) Q E s:=by
 let⟨o,ho,hc,hdat⟩:=id x;refine wpAny_pyIter_slot x.ty F.slot_dict_iter (abe F.slot_dict_iter x.ty F.entry_dict_iter ?_ (F.args_dict_iter_1 _));unfold Builtin.«dict.__iter__»;refine aaa (aaa (acB x.ty (aaf ?_)));show wpAny _ _ (Builtin.Dict.showsAll d>>=_) _ _ s;unfold Builtin.Dict.showsAll;rw[if_neg (by rw[hd];exact aaF)];refine aaa (aaf (aaa (aco ho hdat (aaa (wpAny_dictEpoch ho hdat ?_)))));refine aaa (aaY (aaf ⟨_,rfl,"dict_keyiterator",_,⟨_,aak _ rfl,rfl⟩,abE.lookup, ?_⟩));exact q _ ⟨_,aak _ rfl,rfl,rfl⟩ λc o e=>aad _ e
theorem tX {i:Nat} {Q:5#Value->Shared->Prop} (hit:s.heap.IsKeyIter it d i es.size ep) (x:jA s.heap d es ep) (lt:i<es.size)
  (q:∀h',h'.IsKeyIter it d (i+1) es.size ep->Heap.SameBut it s.heap h'->Q (1#es[i].key) {s with heap:=h'}):wpAny 9#2 A (pyNext 3#it) Q E s:=by
 let⟨o,ho,hc,hd⟩:=id hit;let⟨od,hod,hcd,hdd⟩:=id x;unfold pyNext;refine aaa (acv (aaZ (name:=Str.ofString "__next__") hit.typeIs abE (abe abE hit.typeIs F.entry_dict_keyiterator_next ?_ (acF _))));refine aaa (aaf (aaa (aaa ?_)));refine aaa (abC hit.typeIs (aaf (aaa (wpAny_fieldsOf ho hd ?_))));simp only[show Builtin.Dict_items.ownsTuple "dict_keyiterator"=false by decide,abY,abR];show wpAny _ _ (if (Value.ref d==Value.none)=true then _ else _) _ _ s;rw[if_neg (show¬((Value.ref d==Value.none)=true) from λz=>aaF z)];refine aaa (aaf (aaa (aco hod hdd ?_)));rw[if_neg 8#5];refine aaa (aaf (aaa (wpAny_dictEpoch hod hdd ?_)));rw[if_neg 8#5];refine aaf ?_;simp only[show¬((i:Int)<0) from by lia,abR,acj,Array.getElem?_eq_getElem lt];refine aaa (aaa (abC hit.typeIs (aaf ?_)));refine aaa (wpAny_isOneOf_keyiter hit.typeIs ?_);show wpAny _ _ (setField 3#it 1 (rawInt ((i:Int)+1))>>=_) _ _ s;refine aaa (abP ho hd 8#5 ?_);have hit':(s.heap.update it (Obj.mapFields (·.setIfInBounds 1 (rawInt ((i:Int)+1))))).IsKeyIter it d (i+1) es.size ep:=⟨_,abq _ ho (abL (abd hd _)),(ac1 ..).trans hc,by rw[abd hd];simp[rawInt]⟩;refine aaa (abn (aaa (wpAny_isOneOf_keyiter (s:={s with heap:=s.heap.update it (Obj.mapFields (·.setIfInBounds 1 (rawInt ((i:Int)+1))))}) hit'.typeIs ?_)));show wpAny _ _ (pure es[i].key) _ _ _;exact aaf (aaf ⟨_,rfl,aaf (q _ hit' (aca ..))⟩)
theorem vN {i:Nat} {Q:5#Value->Shared->Prop} (hh:A.handled=none) (hit:s.heap.IsKeyIter it d i es.size ep) (x:jA s.heap d es ep) (ge:es.size<=i)
  (q:∀h',Heap.ExtBut it s.heap h'->Q none {s with heap:=h'}):wpAny 9#2 A (pyNext 3#it) Q E s:=by
 let⟨o,ho,hc,hd⟩:=id hit;let⟨od,hod,hcd,hdd⟩:=id x;unfold pyNext;refine aaa (acv (aaZ (name:=Str.ofString "__next__") hit.typeIs abE (abe abE hit.typeIs F.entry_dict_keyiterator_next ?_ (acF _))));refine aaa (aaf (aaa (aaa ?_)));refine aaa (abC hit.typeIs (aaf (aaa (wpAny_fieldsOf ho hd ?_))));simp only[show Builtin.Dict_items.ownsTuple "dict_keyiterator"=false by decide,abY,abR];show wpAny _ _ (if (Value.ref d==Value.none)=true then _ else _) _ _ s;rw[if_neg (show¬((Value.ref d==Value.none)=true) from λz=>aaF z)];refine aaa (aaf (aaa (aco hod hdd ?_)));rw[if_neg 8#5];refine aaa (aaf (aaa (wpAny_dictEpoch hod hdd ?_)));rw[if_neg 8#5];refine aaf ?_;simp only[show¬((i:Int)<0) from by lia,abR,acj,Array.getElem?_eq_none ge];refine aaa (aaa (abC hit.typeIs (aaf ?_)));show wpAny _ _ (setField 3#it 0 .none>>=_) _ _ s;refine aaa (abP ho hd 8#5 ?_);show wpAny _ _ (newExc (.type "StopIteration") []>>=_) _ _ _;refine aaa ?_;simp only[newExc,newTuple];refine aaa (aaY ?_ (by size_fits));refine aaa (m:=firstArgMember _ _) (wpAny_of_eq (a:=Value.none) (by first|rfl|(simp only[firstArgMember];rfl)) ?_);refine aaY ?_ (by size_fits);simp only[raiseNew];refine aaa (wpAny_handled ?_);rw[show A.in1.handled=none from hh];refine aaa (aaf (wpAny_throw ?_));refine aaa (wpAny_isInstance (T:="StopIteration") (b:=true) ⟨_,aak _ rfl,rfl⟩ isSubtype_stop (aaf (q _ (((aca ..).extBut.push _).push _))))
end
section
variable {X:Cx} {pins:8#7} {σ:St} {H:Hp} {s:9#4} {a:Addr}
theorem Inv.Eb {kvs:2#(2#Key×V)} (I:8#1) (e:H a=1#(.dT kvs)):∃o,Inv X pins σ (upd H a (.aG o (.dT kvs))) s:=by
 let⟨z,y,xs,r,o,es,ep,h1,h2,h3,h4,h5⟩:=(show aQ X.prog X.w H s.heap a (.dT kvs) from I.ah a _ e);refine⟨o,I.write (x:=a) (e:=a) (t':=s.toks) (by rw[e];exact True.intro) (.inl rfl) (λb q hb z=>z) ⟨o,h1⟩ ⟨h1,z,y,xs,Paired.wO r λ_ _ w=>⟨w.1, ?_,w.2.2⟩,o,es,ep,h1,h2,h3,h4,h5⟩⟩;rw[ar (qy w.2.1 e (λz=>nomatch z))];exact w.2.1
theorem Inv.Ef {kvs:2#(Key×V)} (I:8#1) (e:H a=1#(.dK kvs)):∃o,Inv X pins σ (upd H a (.aG o (.dK kvs))) s:=by
 let⟨z,y,vs,r,o,es,ep,h1,h2⟩:=(show aQ X.prog X.w H s.heap a (.dK kvs) from I.ah a _ e);exact⟨o,I.write (x:=a) (e:=a) (t':=s.toks) (by rw[e];exact True.intro) (.inl rfl) (λb q hb z=>z) ⟨o,h1⟩ ⟨h1,z,y,vs,r,o,es,ep,h1,h2⟩⟩
end
def IK:2#V->Hp->VK->Prop:=λxs H Q=>∃a,xs=[3#a]/\((∃kvs,Rd H a (.dT kvs)/\Q 6#0#kvs H)∨∃kvs,Rd H a (.dK kvs)/\Q 6#0#kvs H)
theorem zr {X:Cx}:aC X (.builtin "len") IK:=by
 intro pins s σ H xs us Q I r h;let⟨a,rfl,h⟩:=h;let⟨u,rfl,rx⟩:=vals1 r;cases (show u=Value.ref a from rx)
 rcases h with⟨kvs,e,q⟩|⟨kvs,e,q⟩
 ·let⟨z,hd,xs,rel,o,es,ep,h1,h2,h3,h4,_⟩:=eM I.ah e
  have hz:es.size=0#kvs:=by
   rw[abm rel,←aba,h4,aaz]
  refine CZ hd ⟨o,h1,h2,h3⟩ (by rw[hz];rw[abH] at z;lia) λt k=>⟨6#0#kvs,H,I.tok k,⟨t,by rw[hz]⟩,q⟩
 ·exact IP I e λt s' I'=>⟨6#0#kvs,H,I',⟨t,rfl⟩,q⟩
def CC (o:Obj) (h:Heap) (it d:Addr) (i:Nat):Prop:=∃es ep,o.data= .dict es ep/\h.IsKeyIter it d i es.size ep
def FC (d:Addr) (o:Obj) (kvs:2#(2#Key×V)):It:=
 ⟨λi H=>H d=1#(.aG o (.dT kvs))/\i<0#kvs,λi H x H'=>H'=H/\∃c k v,x= 3#c/\kvs[i]?=1#(k,v)/\H c=1#(.tup (k.map kV)),λi H=>H d=1#(.aG o (.dT kvs))/\0#kvs<=i⟩
theorem sI {P:Program} {w:World} {H:Hp} {d:Addr} {o:Obj} {kvs:2#(2#Key×V)} (ok:bA P w H h) (e:H d=1#(.aG o (.dT kvs))):∃es ep xs,o.data= .dict es ep/\jA h d es ep/\es.toList=xs.map (entryOfKey (tupleKind (aN P w)))/\KT H kvs xs/\es.size=0#kvs/\(d==sysModules)=false:=by
 let⟨h0,z,y,xs,r,o',es,ep,h1,h2,h3,h4,h5⟩:=(show aQ P w H h d (.aG o (.dT kvs)) from ok d _ e);rw[h0] at h1;cases h1;exact⟨es,ep,xs,h3,⟨o,h0,h2,h3⟩,h4,r,by rw[abm r,←aba,h4,aaz],y⟩
theorem yI {P:Program} {w:World} {K:8#4} (d it:Addr) (o:Obj) (kvs:2#(2#Key×V)):Turn P w K tg (FC d o kvs) [it] it (λi h=>CC o h it d i) where
 mem:=by simp
 obj:=λi h st b hb=>by
  let⟨es,ep,_,u,h1,h2,h3⟩:=st;rw[aaG.mp hb];exact⟨u,h1,λv z=>by rw[h3] at z;cases z⟩
 keep:=λi h h' st k=>by
  let⟨es,ep,hd,x⟩:=st;exact⟨es,ep,hd,x.at λo e=>k it 8#5 o e⟩
 item:=by
  intro X hP hw hK hc i pins s σ H E I hf st hg;subst hP hw hK;let⟨es,ep,hdat,hit⟩:=st;let⟨e,lt⟩:=hg;let⟨es',ep',xs,hdat',raw,hes,rel,hsz,_⟩:=sI I.ah e;rw[hdat] at hdat';cases hdat'
  have lt':i<es.size:=by lia
  let⟨f0,f1,f2,f3,f4,f5⟩:=hf it 8#5;refine tX hit raw lt' λh' st' sb=> ?_;have I1:Inv X pins σ H {s with heap:=h'}:=I.turned (t':=s.toks) (λb o hb e=>(sb.2 b hb).trans e) f0 f1 f3 f4 f5;let⟨kv,x,e1,e2,h1,h2,h3⟩:=jK rel i lt
  have ek:es[i].key= 3#x.2.1:=by
   have q:es.toList[i]?=1#es[i]:=by simp[lt']
   rw[hes,aaO,e2] at q;have q':entryOfKey (tupleKind (aN X.prog X.w)) x=es[i]:=Option.some.inj q;rw[←q'];rfl
  let⟨u,v1,v2,v3⟩:=id st';refine⟨es[i].key,rfl,nu (s:={s with heap:=h'}) v1 v2 v3 8#16 ⟨3#x.2.1,H,I1,ek,⟨rfl,x.2.1,kv.1,kv.2,rfl,e1,h2⟩,⟨es,ep,hdat,st'⟩,λb hb=>(hf b hb).1⟩⟩
 done:=by
  intro X hP hw hK hc i pins s σ H E I hf st hg;subst hP hw hK;let⟨es,ep,hdat,hit⟩:=st;let⟨e,ge⟩:=hg;let⟨es',ep',xs,hdat',raw,hes,rel,hsz,_⟩:=sI I.ah e;rw[hdat] at hdat';cases hdat';let⟨f0,f1,f2,f3,f4,f5⟩:=hf it 8#5;exact vN (I.ok.hd hc) hit raw 8#0 λh' eb=>⟨rfl,I.turned (t':=s.toks) (λb o hb e=>eb b o hb e) f0 f1 f3 f4 f5⟩
 self:=λ_ _ _ _ _ st h=>by
  let⟨es,ep,_,hit⟩:=st;exact wpAny_pyIter_keyiter hit h
end L2.L3
namespace L2.L3
open PySem PySem.Spec PyProof.Rows
structure BlockOkC (S sc:Scope):Prop where
 kind:sc.kind= .function
 names:∀y∈sc.names,y.2= .local->sc.names.lookup y.1=1#.local
 free:∀y∈sc.names,y.2= .free->S.names.lookup y.1=1#.cell∨S.names.lookup y.1=1#.free
 cells:∀y∈sc.names,y.2= .cell->sc.names.lookup y.1=1#.cell
theorem q9 {a b c:Nat} (h:b<a) (k:a<=c):c≠b:=λe=>aa5 _ (aan h (e▸k))
def cN (X:Cx) (own:2#(Str×Addr)) (ws:2#Str) (caps:2#Nat) (sc:Scope) (C:Addr) (fp:2#Addr) (pn:8#7) (s:9#4) (H:Hp):Cx:={Cg X ws caps sc C fp pn s H with env:=compEnvC sc (own++a7 X.env sc.names []) C X.env,fn:=λx=>sc.names.lookup x==1#.cell}
abbrev dv (X:Cx) (E:XK) (own:2#(Str×Addr)) (ws:2#Str) (caps:2#Nat) (sc:Scope) (C:Addr) (fp:2#Addr) (pn:8#7) (s:9#4) (H:Hp):Cx:=
 (cN X own ws caps sc C fp pn s H).af (XE (cN X own ws caps sc C fp pn s H) E)
structure OwnOk (sc:Scope) (own:2#(Str×Addr)) (s:9#4) (C:Addr):Prop where
 pl:∀x c,own.lookup x=1#c->s.heap.objs.size<=c/\c≠C/\sc.names.lookup x=1#.cell
 inj:∀x y c,own.lookup x=1#c->own.lookup y=1#c->x=y
 has:∀x,sc.names.lookup x=1#.cell->(own.lookup x).isSome=true
section
variable {X:Cx} {pins:8#7} {σ:St} {H:Hp} {s:9#4} {ws:2#Str} {caps:2#Nat} {sc:Scope} {C:Addr} {fp:2#Addr} {pn:8#7} {own:2#(Str×Addr)}
theorem iA (I:8#1) (B:BlockOkC X.env.scope sc):∀x∈sc.names,x.2= .free->∃c,X.env.cells.lookup x.1=1#c:=λx hx hf=>I.ok.has x.1 (B.free x hx hf)
theorem oM (I:8#1) (B:BlockOkC X.env.scope sc) {x:Str} {c:Addr} (e:(a7 X.env sc.names []).lookup x=1#c):X.env.cells.lookup x=1#c:=
 mQ sc.names [] (iA I B) (λ_ _ z=>by cases z) e
theorem je {l l':2#(Str×Addr)} {x:Str}:(l++l').lookup x=(l.lookup x).or (l'.lookup x):=by
 induction l with
 |nil=>rfl
 |cons a t ih=>
  rw[ac8,aaJ,aaJ]
  cases x==a.1 with
  |true=>rfl
  |false=>exact ih
theorem lS (I:8#1) (B:BlockOkC X.env.scope sc) {x:Str} {c:Addr} (e:(own++a7 X.env sc.names []).lookup x=1#c):own.lookup x=1#c∨X.env.cells.lookup x=1#c:=by
 rw[je] at e
 cases q:own.lookup x with
 |some d=>
  rw[q] at e;exact .inl e
 |none=>
  rw[q] at e;exact .inr (oM I B e)
theorem Co (O:OwnOk sc own s C) {x:Str} {c:Addr} (fr:sc.names.lookup x=1#.free) (e:(a7 X.env sc.names []).lookup x=1#c):(own++a7 X.env sc.names []).lookup x=1#c:=by
 rw[je]
 cases q:own.lookup x with
 |some d=>
  have:=(O.pl x d q).2.2;rw[fr] at this;cases this
 |none=>exact e
theorem D7 (O:OwnOk sc own s C) {x:Str} {c:Addr} (z:(sc.names.lookup x==1#NameKind.cell)=true) (e:(own++a7 X.env sc.names []).lookup x=1#c):s.heap.objs.size<=c:=by
 have z':sc.names.lookup x=1#NameKind.cell:=beq_iff_eq.mp z;let⟨d,hd⟩:=aaW.mp (O.has x z');rw[je,hd] at e;cases e;exact(O.pl x _ hd).1
theorem xF (I:8#1) (O:OwnOk sc own s C) (B:BlockOkC X.env.scope sc) {x y:Str} {c:Addr} (e1:(own++a7 X.env sc.names []).lookup x=1#c) (e2:(own++a7 X.env sc.names []).lookup y=1#c):x=y:=by
 have old:∀z,X.env.cells.lookup z=1#c->c<s.heap.objs.size:=λz h=>let ⟨v,q⟩:=I.cell z c h;q.lt
 rcases lS I B e1 with a|a<;>rcases lS I B e2 with b|b
 ·exact O.inj x y c a b
 ·exact absurd (old y b) (Nat.not_lt.mpr (O.pl x c a).1)
 ·exact absurd (old x a) (Nat.not_lt.mpr (O.pl y c b).1)
 ·exact I.ok.inj x y c a b
theorem xE (O:OwnOk sc own s C) (B:BlockOkC X.env.scope sc) {x:Str} (h:(compEnvC sc (own++a7 X.env sc.names []) C X.env).kindOf x=1#.cell∨(compEnvC sc (own++a7 X.env sc.names []) C X.env).kindOf x=1#.free):
  ∃c,(own++a7 X.env sc.names []).lookup x=1#c:=by
 have e:(compEnvC sc (own++a7 X.env sc.names []) C X.env).kindOf x=(sc.names.lookup x).map λk=>if (k==NameKind.free&&X.env.scope.kind== .function&&X.env.kindOf x==1#.cell) then NameKind.cell else k:=gE sc.names
 rw[e] at h
 cases q:sc.names.lookup x with
 |none=>
  rw[q] at h
  rcases h with h|h<;>cases h
 |some k=>
  have mem:=aaK q;rw[q] at h
  by_cases hk:k= .free
  ·subst hk;let⟨c,hc⟩:=aaW.mp (jC (env:=X.env) sc.names [] (.inl mem));exact⟨c,Co O q hc⟩
  ·have hb:(k==NameKind.free)=false:=by simpa using hk
   simp only[acG,hb,Bool.false_and,abY,abR,Option.some.injEq] at h
   rcases h with h|h
   ·subst h;let⟨c,hc⟩:=aaW.mp (O.has x q);refine⟨c, ?_⟩;rw[je,hc];rfl
   ·exact absurd h hk
theorem FO (I:8#1) (O:OwnOk sc own s C) (B:BlockOkC X.env.scope sc) (hf:∀b∈fp,cK X pins H b) (ho:∀b∈fp,∃o,s.heap.get? b=1#o) (hC:s.heap.objs.size<=C):(cN X own ws caps sc C fp pn s H).Ok where
 mod:=I.ok.mod
 kind:=B.kind
 glob:=I.ok.glob
 blt:=I.ok.blt
 above:=hC
 inj:=λx y c e1 e2=>xF I O B e1 e2
 has:=λx hx=>xE O B hx
 cab:=λx c z e=>D7 O z e
 hd:=I.ok.hd
 frames:=I.ok.frames
 stk:= .inl rfl
 exf:=λb hb=>by
  let⟨o,e⟩:=ho b hb;let⟨_,_,_,_,f4,_⟩:=hf b hb;exact⟨aay (aan (aam e) hC),λx c q=>(lS I B q).elim (λz=>q9 (aam e) (O.pl x c z).1) (f4 x c)⟩
 bs:=I.bs
 bsz:=aaT I.ok.bsz I.sz
 noex:=λb o e hb=>by
  let⟨_,_,_,f3,_⟩:=hf b hb
  rcases f3 with z|z
  ·exact I.ok.noex b o e z
  ·exact absurd (aan (aam e) (aaT I.ok.bsz z)) (aa5 _)
 exfs:=λb hb=>qE I (hf b hb)
 dE:=I.stack
 frf:=I.kq
theorem rO {h1:Heap} {m:8#23} {t:Nat} (I:8#1) (O:OwnOk sc own s C) (B:BlockOkC X.env.scope sc) (hf:∀b∈fp,cK X pins H b) (ho:∀b∈fp,∃o,s.heap.get? b=1#o) (hC:s.heap.objs.size<=C)
  (hcap:8#22) (k:∀b o,s.heap.get? b=1#o->h1.get? b=1#o) (hn:h1.Ns C m) (hw:∀x c,own.lookup x=1#c->∃v,h1.IsCell c v):
  Inv 8#30 [] (stC ws caps σ) H {s with heap:=h1,toks:=t}:=by
 refine⟨FO I O B hf ho hC,rfl,I.bare,Un.kept k,⟨m,hn,λi x v e1 e2 e3=> ?_⟩,λx c e=> ?_,I.ah.fresh hC,λx c e=>(lS I B e).elim (λz=>I.ah.fresh (O.pl x c z).1) (I.freeC x c),λp hp=>absurd (show p∈([]:2#(Addr×Obj)) from hp) 8#5,I.ah.kept k, ?_⟩
 ·have e1':(ws++caps.map λi=>X.N.getD i Str.empty)[i]?=1#x:=e1;have e2':(ws.map (λ_=>(none:5#V))++caps.map λi=>(σ[i]?).getD none)[i]?=1#1#v:=e2
  by_cases hi:i<0#ws
  ·rw[aao (by simpa using hi),aaO] at e2'
   cases q:ws[i]? with
   |none=>
    rw[q] at e2';cases e2'
   |some y=>
    rw[q] at e2';cases e2'
  ·rw[aal 8#0] at e1';rw[aal (by simp;lia),aaz] at e2';rw[aaO] at e1' e2'
   cases q:caps[i-0#ws]? with
   |none=>
    rw[q] at e1';cases e1'
   |some j=>
    rw[q] at e1' e2';have x1:X.N.getD j Str.empty=x:=Option.some.inj e1';have x2:(σ[j]?).getD none=1#v:=Option.some.inj e2'
    have x3:σ[j]?=1#1#v:=by
     cases z:σ[j]? with
     |none=>
      rw[z] at x2;cases x2
     |some u=>
      rw[z] at x2;exact congrArg some x2
    have hj:j<0#X.N:=by
     rw[←I.len];exact(aae.mp x3).1
    have x4:X.N[j]?=1#x:=by
     rw[←x1,aax,aac hj];rfl
    have fr:sc.names.lookup x=1#.free:=by
     rw[←x1];exact hcap j (aau q)
    have out:=B.free _ (aaK fr) rfl;have vis:ye X.env.scope x:= .inr out;let⟨m',hn',hl⟩:=I.loc;let⟨u,r,lk⟩:=hl j x v x4 x3 vis;refine⟨u,r, ?_⟩
    rcases lk with⟨hk,_⟩|⟨_,c,hc,hcell⟩
    ·exfalso;have hk':X.env.scope.names.lookup x=1#.local:=hk
     rcases out with z|z
     ·have z':X.env.scope.names.lookup x=1#.cell:=z;rw[hk'] at z';cases z'
     ·have z':X.env.scope.names.lookup x=1#.free:=z;rw[hk'] at z';cases z'
    ·let⟨c',hc'⟩:=aaW.mp (jC (env:=X.env) sc.names [] (.inl (aaK fr)));have ec:=oM I B hc';rw[hc] at ec;cases ec;refine .inr ⟨?_,c,Co O fr hc', ?_⟩
     ·have e:(compEnvC sc (own++a7 X.env sc.names []) C X.env).kindOf x=(sc.names.lookup x).map λk=>if (k==NameKind.free&&X.env.scope.kind== .function&&X.env.kindOf x==1#.cell) then NameKind.cell else k:=gE sc.names
      show (compEnvC sc (own++a7 X.env sc.names []) C X.env).kindOf x=1#.cell∨(compEnvC sc (own++a7 X.env sc.names []) C X.env).kindOf x=1#.free;rw[e,fr];simp only[acG];split
      ·exact .inl rfl
      ·exact .inr rfl
     ·let⟨o,z1,z2⟩:=hcell;exact⟨o,k _ _ z1,z2⟩
 ·rcases lS I B e with z|z
  ·exact hw x c z
  ·let⟨v,o,z1,z2⟩:=I.cell x c z;exact⟨v,o,k _ _ z1,z2⟩
 ·show 0#(stC ws caps σ)=0#(ws++caps.map λi=>X.N.getD i Str.empty);unfold stC;simp
theorem mF {σ':St} {H' H2:Hp} {s':9#4} (I:8#1) (hf:∀b∈fp,cK X pins H b) (J:Inv (cN X own ws caps sc C fp pn s H) pins' σ' H' s')
  (sb:Heap.SameBut C s'.heap h') (fr:∀b o,s.heap.get? b=1#o->H b=none->b∉fp->H2 b=none) (tu:∀b xs,H' b=1#(.tup xs)->H2 b=1#(.tup xs)) (fz:∀b o u,H' b=1#(.aG o u)->H2 b=1#(.aG o u)) (tb:∀b ps,H' b=1#(.tbl ps)->H2 b=1#(.tbl ps))
  (ah:bA X.prog X.w H2 h'):Inv X pins σ H2 {s' with heap:=h'}:=by
 have B:Un (dj X.stack) fp H H' s.heap s'.heap:=J.base;have nC:∀b o,s.heap.get? b=1#o->b≠C:=λb o e=>aay (aan (aam e) J.ok.above)
 have un:Un (dj X.stack) fp H H2 s.heap h':=by
  refine⟨λb o e n f c=> ?_,λb o e n f c=> ?_,λb o e n c=>fr b o e n c,λb o e c=> ?_,λb xs q=>tu b xs (B.tups b xs q),λb o u q=>fz b o u (B.aV b o u q),λb ps q=> ?_⟩
  ·exact(sb.2 b (nC b o e)).trans (B.keep b o e n f c)
  ·let⟨sl,z⟩:=B.slot b o e n f c;exact⟨sl,(sb.2 b (nC b o e)).trans z⟩
  ·let⟨o',z⟩:=B.there b o e c;exact⟨o',(sb.2 b (nC b o e)).trans z⟩
  ·let⟨more,z⟩:=B.tbls b ps q;exact⟨more,tb b _ z⟩
 exact I.wc (s':={s' with heap:=h'}) (ch:=fp) J.os un ah J.bare λb hb=>by
  let⟨_,f1,_,f3,f4,f5⟩:=hf b hb;exact⟨f3,f1,f4,f5⟩
end
theorem hU:∀(l:2#(Str×NameKind)) (n:Nat) (acc:2#(Str×Addr)),cellsFrom n l acc=cellsFrom n l []++acc
 |[],_,_=>rfl
 |(x,k)::r,n,acc=>by
  unfold cellsFrom;split
  ·rw[hU r _ ((x,n)::acc),hU r _ [(x,n)],ac2];rfl
  ·exact hU r n acc
set_option tactic.hygienic true in
theorem jW {x:Str} {c:Addr}:∀(l:2#(Str×NameKind)) (n:Nat) (acc:2#(Str×Addr)),(x,c)∈cellsFrom n l acc->(x,c)∈acc∨(x,NameKind.cell)∈l
 |[],_,_,h=> .inl h
 |(y,k)::r,n,acc,h=>by
  unfold cellsFrom at h;split at h
  ·rename_i hk
   rcases jW r _ _ h with z|z
   ·rcases aaq.mp z with e|z
    ·cases e;rw[show k= .cell by simpa using hk];exact .inr aaD
    ·exact .inl z
   ·exact .inr (aat _ z)
  ·exact(jW r _ _ h).imp id (aat _)
set_option tactic.hygienic true in
theorem j9 {x:Str}:∀(l:2#(Str×NameKind)) (n:Nat) (acc:2#(Str×Addr)),((x,NameKind.cell)∈l∨(acc.lookup x).isSome=true)->((cellsFrom n l acc).lookup x).isSome=true
 |[],_,_,h=>h.elim (λz=>by cases z) id
 |(y,k)::r,n,acc,h=>by
  unfold cellsFrom;split
  ·refine j9 r _ _ ?_
   rcases h with h|h
   ·rcases aaq.mp h with e|h
    ·cases e;right;simp
    ·exact .inl h
   ·right;rw[aaJ];split
    ·rfl
    ·exact h
  ·rename_i hk;refine j9 r _ _ ?_
   rcases h with h|h
   ·rcases aaq.mp h with e|h
    ·cases e;exact absurd rfl hk
    ·exact .inl h
   ·exact .inr h
theorem Ep {M:Model} {A:Around} {E:8#2} {s:9#4} {sc:Scope} {closure:2#(Str×Addr)} {qual:Str} {outer:Env} {Q:Env->Shared->Prop}
  (hQ:∀h1 own,h1.Ns s.heap.objs.size (λ_=>none)->(∀b o,s.heap.get? b=1#o->h1.get? b=1#o)->
   ((∀x c,own.lookup x=1#c->h1.IsCell c none/\s.heap.objs.size<c)/\(∀x c,own.lookup x=1#c->(x,NameKind.cell)∈sc.names)/\(∀x y c,own.lookup x=1#c->own.lookup y=1#c->x=y)/\∀x,sc.names.lookup x=1#.cell->(own.lookup x).isSome=true)->
   Q (newEnv sc s.heap.objs.size globals (own++closure) qual none .none 1#outer builtinsNs) {s with heap:=h1}):
  wpAny M A (newFunctionEnv sc globals closure [] qual none .none 1#outer) Q E s:=by
 simp only[newFunctionEnv,Option.isSome_some,abX];refine aaa (wpAny_alloc ?_);refine aaa (wpAny_layCells _ (λname kind cells=>by cases hkc:kind==NameKind.cell<;>simp[hkc]) _ _ _ _ ?_);have ok:=cellsFrom_ok sc.names (s.heap.push {cls:= .type "dict",data:= .dict #[]}) 8#11 [] ⟨λ_ _ hm=>(nomatch hm),List.Pairwise.nil⟩ (by rw[aa0];exact aah _);rw[aa0] at ok;rw[show ({s with heap:=s.heap.push {cls:= .type "dict",data:= .dict #[]}}:Shared).heap.objs.size=s.heap.objs.size+1 from aa0 ..];refine aaa ?_;rw[acg];refine aaf (aaf ?_);rw[hU]
 have q:=hQ (pushCells (s.heap.push {cls:= .type "dict",data:= .dict #[]}) sc.names) (cellsFrom 8#11 sc.names [])
  ((Heap.Ns.new s.heap (.type "dict")).keeps (pushCells_keeps _ _)) (λb o e=>pushCells_keeps _ _ b o (aad _ e))
  ⟨λx c e=>ok.empty x c (aaK e),λx c e=>(jW _ _ _ (aaK e)).elim (λz=>by cases z) id,λx y c e1 e2=>name_of_addr ok.apart (aaK e1) (aaK e2),λx e=>j9 _ _ _ (.inl (aaK e))⟩
 exact q
section
variable {X:Cx} {E:XK} {pins:8#7} {σ:St} {H:Hp} {s:9#4} {ws:2#Str} {caps:2#Nat} {sc:Scope} {tg iter elt:Expr} {ifs:2#Expr} {pos:Pos} {g:TG} {tt:TT} {te:TE} {it:Addr} {fp:2#Addr} {tn:Nat->Heap->Prop} {J:It} {Z:2#V->Hp->Prop}
 {RR:Value->Addr->Result->Shared->Prop} {E':8#2}
end
section
variable {X:Cx} {E:XK} {ws:2#Str} {caps:2#Nat} {sc:Scope} {tg iter elt:Expr} {ifs:2#Expr} {pos py spos:Pos} {wi:TI} {g:TG} {tt:TT} {te:TE}
end
end L2.L3
namespace L2.L4
open PySem PySem.Spec L2.L3
open PyProof.Rows hiding lobj
def mB (X:Cx) (E:St->XK) (mk:5#(Addr×Value)->Prop):Value->Shared->Prop:=λe s=>
 ∃(σ:St) (H:Hp) (ea:Addr) (cls:Value) (dx:5#Addr) (tb:5#(Addr×Value)),e= 3#ea/\Inv X.pB [] σ H s/\ExcAt s.heap ea cls dx tb/\Young X H ea/\
  (∀p,tb=1#p->Young X H p.1)/\mk tb/\E σ cls dx H
abbrev XE (X:Cx) (E:St->XK):Value->Shared->Prop:=mB X E λ_=>True
abbrev XT (X:Cx) (E:St->XK):Value->Shared->Prop:=mB X E λtb=>∃p,tb=1#p
abbrev XL (X:Cx) (E:St->XK):Value->Shared->Prop:=mB X E λtb=>∃T,tb=1#(T, .none)
section
variable {X:Cx} {pins:8#7} {σ:St} {H:Hp} {s s':9#4} {E:St->XK} {e:Value}
theorem sF {M:Model} {E':8#2} {mk:5#(Addr×Value)->Prop} (fr:Framed X) (hx:cG X) (h:mB X E mk e s):wpAny M X.A (noteFrame e X.env) (λ_ s'=>XT X E e s') E' s:=by
 let⟨F,rest,L,hst,hF,hv⟩:=fr;let⟨σ,H,ea,cls,dx,tb,rfl,I,x,y,yt,_,q⟩:=h
 have fr':X.A.frames=1#(F::rest):=by
  rw[←hst];exact I.ok.frames
 have fl:s.heap.FunFrames X.base (F::rest):=by
  rw[←hst];exact I.stack
 refine Ew (bs:=X.base) fr' hF hv fl x λh' T m n x'=> ?_;rw[←hst] at m
 have yT:Young X H T:=by
  rcases n with n|n
  ·let⟨a,b,c⟩:=mG (X:=X.pB) hx I n;exact⟨a,b,c⟩
  ·cases tb with
   |none=>cases n
   |some p=>
    cases n;exact yt p rfl
 have I':Inv X.pB [] σ H {s with heap:=h'}:=by
  refine oY I m λb hb=> ?_
  rcases aaq.mp hb with z|z
  ·subst z;exact⟨y.new,(by rw[abj];exact y.npn),y.free,(iH x).1⟩
  ·cases tb with
   |none=>cases z
   |some p=>
    have z':b=p.1:=by simpa using z
    subst z';exact⟨(yt p rfl).new,(by rw[abj];exact(yt p rfl).npn),(yt p rfl).free,(iH x).2 p rfl⟩
 exact⟨σ,H,ea,cls,dx,1#(T,rawInt L),rfl,I',x',y,λp hp=>(by cases hp;exact yT),⟨_,rfl⟩,q⟩
theorem me {M:Model} {E':8#2} {fr:5#Addr} (h:XT X E e s):
  wpAny M X.A (setFlight e fr) (λ_ s'=>mB X E (λtb=>∃T,tb=1#(T,fr.elim .none λf=>rawInt f)) e s') E' s:=by
 let⟨σ,H,ea,cls,dx,tb,rfl,I,x,y,yt,⟨⟨T,fl⟩,rfl⟩,q⟩:=h;refine zt x λh' m x'=> ?_;have m':Moved (dj X.pB.stack) [T] s.heap h':=⟨λb o _ c e=>m.keep b o 8#5 c e,m.slot⟩;have yT:=yt _ rfl
 have I':Inv X.pB [] σ H {s with heap:=h'}:=by
  refine oY I m' λb hb=> ?_
  have z:b=T:=by simpa using hb
  subst z;exact⟨yT.new,(by rw[abj];exact yT.npn),yT.free,(iH x).2 _ rfl⟩
 refine⟨σ,H,ea,cls,dx,_,rfl,I',x',y,λp hp=> ?_,⟨_,rfl⟩,q⟩;cases hp;exact yT
theorem F6 {M:Model} (h:XT X E e s):cameBackBy M X.A X.env (XE X E) e s:=by
 have h0:=h;let⟨σ,H,ea,cls,dx,tb,rfl,I,x,y,yt,⟨⟨T,fl⟩,rfl⟩,q⟩:=h;let⟨oe,vs,he,hc,hx,hd,hz,x1,x2⟩:=x;unfold cameBackBy;refine aaa (aaE he hd x1 ?_);rw[if_neg (show¬((Value.ref T==Value.none)=true) from by simp)]
 exact az (me h0) λ_ s1 z902=>by let⟨σ1,H1,e1,c1,d1,t1,a1,a2,a3,a4,a5,_,a6⟩:=z902;exact⟨σ1,H1,e1,c1,d1,t1,a1,a2,a3,a4,a5,trivial,a6⟩
theorem CA {M:Model} (fr:Framed X) (hx:cG X):PassesOwn M X.A X.env (XE X E):=λe s h=>az (sF fr hx h) λ_ s1 h1=>F6 h1
theorem o5 {α:Type} {M:Model} {what:String} {cenv:Env} {Q:α->Shared->Prop} (h:XT X E e s):wpAny M X.A (PySem.passOn what e cenv:Sem α) Q (XE X E) s:=by
 have h0:=h;let⟨σ,H,ea,cls,dx,tb,rfl,I,x,y,yt,⟨⟨T,fl⟩,rfl⟩,q⟩:=h;let⟨oe,vs,he,hc,hx,hd,hz,x1,x2⟩:=x;unfold PySem.passOn;refine aaa (aaE he hd x1 ?_);rw[if_neg (show¬((Value.ref T==Value.none)=true) from by simp)];exact aaa (az (me h0) λ_ s1 z902=>by let⟨σ1,H1,e1,c1,d1,t1,a1,a2,a3,a4,a5,_,a6⟩:=z902;exact wpAny_throw ⟨σ1,H1,e1,c1,d1,t1,a1,a2,a3,a4,a5,trivial,a6⟩)
end
theorem Dm {X:Cx} {E:XK} {e:Value} {s:9#4} {E':8#2} {M:Model} (fr:Framed X) (hex:X.ex=[]) (h:XE X (λ_=>E) e s):wpAny M X.A (leaving X.env e) (λ_ s'=>dA X.prog X.w X.outer X.H₀ X.s₀ E e s') E' s:=by
 have hx:cG X:=λb hb=>by
  rw[hex] at hb;cases hb
 unfold leaving;refine aaa (az (sF fr hx h) λ_ s1 h1=>az (me (fr:=none) h1) λ_ s2 h2=> ?_);let⟨σ,H,ea,cls,dx,tb,rfl,I,x,y,yt,⟨T,rfl⟩,q⟩:=h2;have B:Un X.fs X.ex X.H₀ H X.s₀.heap s2.heap:=I.base;rw[hex] at B;exact⟨ea,cls,dx,T,H,rfl,I.os,I.bare,B,I.ah,x,y.new,(yt _ rfl).new,y.free,(yt _ rfl).free,q⟩
theorem zd {X:Cx} {E:St->XK} (hx:cG X) {σ:St} {H:Hp} {s:9#4} {e:Value} (I:Inv (X.af (XE X E)) pins σ H s) (h:dA X.prog X.w X.stack H s (E σ) e s'):XE X E e s':=by
 let⟨ea,cls,dx,T,H',rfl,h1,h2,h3,h4,h5,h6,h7,h8,h9,q⟩:=h;have I1:Inv (X.af (XE X E)) pins σ H' s':=I.wc (ch:=[]) h1 h3 h4 h2 λb z=>absurd z 8#5;have I2:Inv X.pB [] σ H' s':=(I1.bD.af λ_ _=>False).dq λp hp=>absurd hp 8#5;let⟨a1,a2,_⟩:=mG (X:=X.af (XE X E)) hx I h6;let⟨b1,b2,_⟩:=mG (X:=X.af (XE X E)) hx I h7;exact⟨σ,H',ea,cls,dx,_,rfl,I2,h5,⟨a1,a2,h8⟩,λp hp=>(by cases hp;exact⟨b1,b2,h9⟩),trivial,q⟩
abbrev dv (X:Cx) (E:St->XK) (own:2#(Str×Addr)) (ws:2#Str) (caps:2#Nat) (sc:Scope) (C:Addr) (fp:2#Addr) (pn:8#7) (s:9#4) (H:Hp):Cx:=
 (cN X own ws caps sc C fp pn s H).af (XE (cN X own ws caps sc C fp pn s H) E)
section
variable {X:Cx} {E:St->XK} {pins:8#7} {σ:St} {H:Hp} {s:9#4} {ws:2#Str} {caps:2#Nat} {sc:Scope} {tg iter elt:Expr} {ifs:2#Expr} {pos:Pos} {g:TG} {tt:TT} {te:TE} {it:Addr} {fp:2#Addr} {tn:Nat->Heap->Prop} {J:It} {Z:2#V->Hp->Prop}
 {RR:Value->Addr->Result->Shared->Prop} {E':8#2}
theorem pK (fm:Framed X) (hx:cG X) (B:BlockOkC X.env.scope sc) (hc:X.calm=true) (hcap:8#22)
  (hg:∀own C pn s H,8#12->PG 8#15 tg g) (ht:∀own C pn s H,8#12->lg 8#15 ifs tt) (he:∀own C pn s H,8#12->PE 8#15 elt te)
  (I:Inv (X.af (XE X E)) pins σ H s) (T:Turn X.prog X.w X.K tg J fp it tn) (st:tn 0 s.heap) (hf:∀b∈fp,cK (X.af (XE X E)) pins H b) (h:runC g tt te J (stC ws caps σ) H Z)
  (hdone:∀D C s' H' ys,H' D=none->H' C=none->D≠C->Z ys H'->(∃m,s'.heap.Ns C m)->s.heap.objs.size<=C->(∀h',Heap.SameBut C s'.heap h'->Inv (X.af (XE X E)) pins σ (upd H' D 7#ys) {s' with heap:=h'})->RR 3#D C (.ok .next) s')
  (herr:∀D C e s',(∃m,s'.heap.Ns C m)->(∀h',Heap.SameBut C s'.heap h'->XT X E e {s' with heap:=h'})->RR 3#D C (.error e) s'):
  wpAny 8#3 X.A (newList []) (λacc s3=>wpAny 8#3 X.A (newFunctionEnv sc X.env.globals (a7 X.env sc.names []) [] X.env.qual none .none 1#X.env) (λcenv s4=>
   codeAny 8#3 X.A (.compStart 9#8 0 3#it acc {cenv with scope:=relabel sc X.env}) (RR acc cenv.locals) s4) E' s3) E' s:=by
 refine aaY (Ep (λh1 own hns hsb hw0=> ?_));dsimp only at hns hsb hw0⊢;generalize hP:s.heap.push {cls:= .type "list",dict:=none,data:= .seq ([]:2#Value).toArray}=P2 at hns hsb hw0⊢
 have zC:P2.objs.size=s.heap.objs.size+1:=by rw[←hP,aa0]
 have leC:s.heap.objs.size<=P2.objs.size:=by rw[zC];exact adh _
 have nDC:s.heap.objs.size≠P2.objs.size:=by rw[zC];exact aay (ab7 _)
 have old:∀b o,s.heap.get? b=1#o->h1.get? b=1#o:=λb o e=>
  hsb _ _ (hP▸aad _ e)
 have acc0:h1.get? s.heap.objs.size=1#(lobj [] 0):=hsb _ _ (hP▸aak _ rfl);have OO:OwnOk sc own s P2.objs.size:=⟨λx c e=>⟨aaT leC (abI (hw0.1 x c e).2),abJ (hw0.1 x c e).2,B.cells _ (hw0.2.1 x c e) rfl⟩,hw0.2.2.1,hw0.2.2.2⟩;have hw:∀x c,own.lookup x=1#c->∃v,h1.IsCell c v:=λx c e=>⟨none,(hw0.1 x c e).1⟩;have abv:∀x c,own.lookup x=1#c->s.heap.objs.size<c:=λx c e=>acT leC (hw0.1 x c e).2;clear hw0
 have there:∀b∈fp,∃o,s.heap.get? b=1#o:=λb hb=>let ⟨o,e,_⟩:=T.obj 0 s.heap st b hb;⟨o,e⟩
 generalize hD:s.heap.objs.size=D at*;generalize hCC:P2.objs.size=C at*;have I0:Inv X pins σ H s:=I.bD;have hf0:∀b∈fp,cK X pins H b:=hf;have st1:tn 0 h1:=T.keep 0 s.heap h1 st λb _ o e=>old b o e;have J0:Inv 8#30 [] (stC ws caps σ) H {s with heap:=h1}:=rO (t:=s.toks) I0 OO B hf0 there 8#0 hcap old hns hw;have D0:H D=none:=I0.ah.fresh 8#0;have nD1:D≠C:=nDC
 have nDc:∀x c,(own++a7 X.env sc.names []).lookup x=1#c->c≠D:=λx c e z=>by
  rcases lS I0 B e with w|w
  ·exact absurd (abv x c w) (by rw[z];exact aa5 _)
  let⟨v,q⟩:=I0.cell x c w;have lt:=q.lt;rw[z,hD] at lt;exact aa5 _ lt
 have nDs:D∉dj X.stack:=λz=>by
  let⟨_,o,e,_⟩:=I0.stack.mem z;have lt:=aam e;rw[hD] at lt;exact aa5 _ lt
 have nDf:D∉fp:=λz=>by
  let⟨o,e⟩:=there D z;have lt:=aam e;rw[hD] at lt;exact aa5 _ lt
 have sD:s.heap.get? D=none:=abg 8#0
 have stat:∀{H':Hp} {p:8#7},(∀b∈fp,H' b=none)->(∀q∈p,q.1∉fp)->∀b∈fp,cK 8#30 p H' b:=λ{H' p} hn hp b hb=>by
  let⟨o,e⟩:=there b hb;have lt:=aam e;let⟨_,_,_,_,f4,_⟩:=hf0 b hb;exact⟨hn b hb,(by rw[hD] at lt;exact aay (aan lt leC)),qE I0 (hf0 b hb), .inl hb,λx c q=>(lS I0 B q).elim (λz=>q9 lt (OO.pl x c z).1) (f4 x c),λq hq z=>hp q hq (by rw[z];exact hb)⟩
 have err:∀{pn:8#7} {e:Value} {s':9#4},8#12->XE (cN X own ws caps sc C fp pn s H) (λ_=>E σ) e s'->
   notedBy 8#3 X.A (compEnvC sc (own++a7 X.env sc.names []) C X.env) (λe s'=>RR 3#D C (.error e) s') e s':=λ{pn e s'} hh x=>by
  have fm':Framed (cN X own ws caps sc C fp pn s H):=fm;refine az (sF (X:=cN X own ws caps sc C fp pn s H) fm' hh x) λ_ s2 x2=> ?_;let⟨σ2,H2,ea,cls,dx,tb,rfl,K2,y2,y3,y4,⟨p,rfl⟩,q2⟩:=x2;let⟨mC,nC,_⟩:=K2.loc;have K3:Inv (cN X own ws caps sc C fp pn s H) [] σ2 H2 s2:=K2;refine herr D C _ s2 ⟨mC,nC⟩ λh' sb=> ?_;have r1:=(iH y2).1;have r2:=(iH y2).2 p rfl
  have ne1:ea≠C:=by let⟨o,vs,e1,e2⟩:=r1;exact(qH K2 e1 e2).1
  have ne2:p.1≠C:=by let⟨o,vs,e1,e2⟩:=r2;exact(qH K2 e1 e2).1
  have hk:bA X.prog X.w H2 h':=by
   refine(Moved.ah (fs:=[]) (ch:=[C]) ⟨λb o _ c e=>(sb.2 b (by simpa using c)).trans e,λb o c e=>⟨o.slots,(sb.2 b (by simpa using c)).trans e⟩⟩ K2.ah (λb hb=>absurd hb 8#5) λb hb=> ?_)
   have z:b=C:=by simpa using hb
   rw[z];exact K2.free
  have I3:Inv X pins σ H2 {s2 with heap:=h'}:=mF I0 hf0 K3 sb (λb o e n c=>K3.base.free b o e n c) (λ_ _ q=>q) (λ_ _ _ q=>q) (λ_ _ q=>q) hk;have I4:Inv X.pB [] σ H2 {s2 with heap:=h'}:=(I3.af λ_ _=>False).dq λp hp=>absurd hp 8#5
  have yo:∀b,Young (cN X own ws caps sc C fp pn s H) H2 b->Young X H2 b:=λb y=>by
   let⟨a1,a2,_⟩:=mG hx I0 y.new;exact⟨a1,a2,y.free⟩
  refine⟨σ,H2,ea,cls,dx,1#p,rfl,I4, ?_,yo _ y3,λp' hp'=>(by cases hp';exact yo _ (y4 p rfl)),⟨p,rfl⟩,q2⟩;let⟨oe,vs,e1,e2,e3,e4,e5,e6,e7,oT,ts,e8,e9,GP⟩:=y2;exact⟨oe,vs,(sb.2 _ ne1).trans e1,e2,e3,e4,e5,e6,e7,oT,ts,(sb.2 _ ne2).trans e8,e9,GP⟩
 let⟨W,⟨m0,w0⟩,turn⟩:=h
 have loop:codeAny 8#3 X.A (.compLoop 9#8 0 3#it 3#D (compEnvC sc (own++a7 X.env sc.names []) C X.env)) (RR 3#D C) {s with heap:=h1}:=by
  refine zZ (λn s'=>∃i ys its k σ' H',Inv 8#30 [(D,lobj its k)] σ' H' s'/\Vals ys its/\0#ys<=sizeLine/\tn i s'.heap/\(∀b∈fp,H' b=none)/\W i n ys σ' H') ?_ m0
   ⟨0,[],[],0,stC ws caps σ,H,J0.dq λp hp=> ?_, .nil,aaX _,st1,λb hb=>(hf0 b hb).1,w0⟩
  rotate_left
  ·have z:p=(D,lobj [] 0):=by simpa using hp
   subst z;exact⟨acc0,D0,nD1,nDs,λv z=>by cases z⟩
  rintro n s1 ⟨i,ys,its,k,σ1,H1,I1,rv,hz,st1',fr1,w1⟩
  have nq:∀q∈[(D,lobj its k)],q.1∉fp:=λq hq=>by
   have z:q=(D,lobj its k):=by simpa using hq
   rw[z];exact nDf
  rcases turn i n ys σ1 H1 w1 with⟨stop,zq⟩|⟨go,N,hN,step⟩
  ·refine aa3 (T.done 8#30 rfl rfl rfl hc i [(D,lobj its k)] s1 σ1 H1 (λ_ _=>False) I1 (stat fr1 nq) st1' stop) (λr s2 z902=> ?_) λ_ _ z=>z.elim;let⟨hr,I2⟩:=z902;subst hr;let⟨mC,nC,_⟩:=I2.loc;have p2:=I2.pin (D,lobj its k) 8#5;refine hdone D C s2 H1 ys p2.2.1 I2.free nD1 zq ⟨mC,nC⟩ 8#0 λh' sb=> ?_
   have hk:bA X.prog X.w (upd H1 D 7#ys) h':=by
    have t1:Inv 8#30 [] σ1 (upd H1 D 7#ys) s2:=nM (o:= 7#ys) (I2.dq (pins':=[]) λp hp=>absurd hp 8#5) p2.2.1 sD nD1 nDc (λp hp=>absurd (show p∈([]:2#(Addr×Obj)) from hp) 8#5) ⟨hz,its,k,rv,p2.1⟩;refine(Moved.ah (fs:=[]) (ch:=[C]) ⟨λb o _ c e=>(sb.2 b (by simpa using c)).trans e,λb o c e=>⟨o.slots,(sb.2 b (by simpa using c)).trans e⟩⟩ t1.ah (λb hb=>absurd hb 8#5) λb hb=> ?_)
    have z:b=C:=by simpa using hb
    rw[z];exact t1.free
   have nn:∀b u,H1 b=1#u->upd H1 D 7#ys b=1#u:=λb u q=>by
    rw[ar (br q p2.2.1)];exact q
   exact(mF I0 hf0 I2 sb (λb o e nb c=>by
    have hb:b≠D:=λz=>by rw[z,sD] at e;cases e
    rw[ar hb]
    exact I2.base.free b o e nb c) (λb xs q=>nn _ _ q) (λb o u q=>nn _ _ q) (λb ps q=>nn _ _ q) hk).af _
  ·refine aa3 (T.item 8#30 rfl rfl rfl hc i [(D,lobj its k)] s1 σ1 H1 (λ_ _=>False) I1 (stat fr1 nq) st1' go) (λr s2 z902=> ?_) λ_ _ z=>z.elim;let⟨u,hr,h2⟩:=z902;subst hr;refine aa3 h2 (λ_ s3 z902=> ?_) λ_ _ z=>z.elim;let⟨x,H3,I3,r3,y3,st3,fr3⟩:=z902;have p3:=I3.pin (D,lobj its k) 8#5
   have hh:∀b∈fp,∃o,(b,o)∈(D,lobj its k)::bI fp s3.heap:=λb hb=>by
    let⟨o,e,_⟩:=T.obj _ _ st3 b hb;exact⟨o,aat _ (dM hb e)⟩
   have I3':Inv (dv X (λ_=>E σ) own ws caps sc C fp ((D,lobj its k)::bI fp s3.heap) s H) [] σ1 H3 s3:=by
    have q:Inv (cN X own ws caps sc C fp ((D,lobj its k)::bI fp s3.heap) s H) [] σ1 H3 s3:=by
     have i4:=I3.pinned (stat fr3 nq) (T.obj _ _ st3)
     exact r9 (qn:=(D,lobj its k)::bI fp s3.heap) (q:=[]) i4 λp hp=>by simpa[cN,Cg] using hp
    exact q.af _
   refine aa3 (hg own C ((D,lobj its k)::bI fp s3.heap) s H hh [] s3 σ1 H3 x u _ I3' r3 (step x H3 y3)) (λ_ s4 z902=> ?_) λe s' z=>err hh z;let⟨σ4,H4,I4,q4⟩:=z902;refine aa3 (ht own C ((D,lobj its k)::bI fp s3.heap) s H hh [] s4 σ4 H4 _ I4 q4) (λok s5 z902=> ?_) λe s' z=>err hh z;let⟨H5,I5,q5⟩:=z902
   have back:∀{σ9:St} {H9:Hp} {s9:9#4},Inv (dv X (λ_=>E σ) own ws caps sc C fp ((D,lobj its k)::bI fp s3.heap) s H) [] σ9 H9 s9->Inv 8#30 [(D,lobj its k)] σ9 H9 s9/\tn (i+1) s9.heap/\∀b∈fp,H9 b=none:=λ{σ9 H9 s9} I9=>by
    have i1:Inv (cN X own ws caps sc C fp ((D,lobj its k)::bI fp s3.heap) s H) [] σ9 H9 s9:=I9.bD;refine⟨r9 (qn:=[]) (q:=[(D,lobj its k)]) i1 λp hp=> ?_,T.keep _ _ _ st3 λb hb o e=> ?_,λb hb=> ?_⟩
    ·have z:p=(D,lobj its k):=by simpa using hp
     subst z;simp[cN,Cg]
    ·exact(i1.pin (b,o) (aaU _ (aat _ (dM hb e)))).1
    ·let⟨o,e,_⟩:=T.obj _ _ st3 b hb;exact(i1.pin (b,o) (aaU _ (aat _ (dM hb e)))).2.1
   cases ok with
   |false=>
    rw[if_neg aaF] at q5⊢;let⟨m',hm,w5⟩:=hN _ _ _ q5;let⟨b1,b2,b3⟩:=back I5;exact⟨m',hm,i+1,ys,its,k,σ4,H5,b1,rv,hz,b2,b3,w5⟩
   |true=>
    rw[if_pos rfl] at q5⊢;refine aa3 (he own C ((D,lobj its k)::bI fp s3.heap) s H hh [] s5 σ4 H5 _ I5 q5) (λv s6 z902=> ?_) λe s' z=>err hh z;let⟨xv,H6,I6,r6,hlt,nq⟩:=z902;let⟨m',hm,w6⟩:=hN _ _ _ nq;let⟨b1,b2,b3⟩:=back I6;have p6:=b1.pin (D,lobj its k) 8#5
    have t1:Inv 8#30 (bI fp s6.heap) σ4 (upd H6 D 7#ys) s6:=by
     have c1:=(b1.dq (pins':=[]) λp hp=>absurd hp 8#5).pinned (fp:=fp) (stat b3 λq hq=>absurd hq 8#5) (T.obj _ _ b2);refine nM (o:= 7#ys) c1 p6.2.1 sD nD1 nDc (λp hp=> ?_) ⟨hz,its,k,rv,p6.1⟩
     have hp':p∈bI fp s6.heap:=by simpa[cN,Cg] using hp
     intro z;exact nDf (z▸(pV hp').1)
    refine aa3 (oQ (X:=cN X own ws caps sc C fp [] s H) (bI fp s6.heap) s6 σ4 (upd H6 D 7#ys) 3#D [xv] 3#D [v] (λ_ H7=>H7=upd (upd H6 D 7#ys) D 7#(ys++[xv])) t1 rfl (.cons r6 .nil) ⟨D,ys,xv,rfl,rfl,aq,hlt,rfl⟩) (λ_ s7 z902=> ?_) λ_ _ z=>z.elim;let⟨_,H7,I7,_,q7⟩:=z902;subst q7;rw[iL] at I7;let⟨z7,its7,n7,v7,l7,e7⟩:=I7.lP aq;have I8:=Ec I7 p6.2.1;refine⟨m',hm,i+1,ys++[xv],its7,n7,σ4,H6, ?_,v7,z7,T.keep _ _ _ b2 λb hb o e=> ?_,b3,w6⟩
    ·refine I8.dq λp hp=> ?_
     have z:p=(D,lobj its7 n7):=by simpa using hp
     subst z;exact⟨e7,p6.2.1,nD1,nDs,λv z=>by cases z⟩
    ·exact(I8.pin (b,o) (aaw _ (dM hb e))).1
 exact codeAny_compStart_list loop (T.self _ 0 _ _ _ st1 loop)
end
def CM (ws:2#Str) (caps:2#Nat) (wi:TI) (g:TG) (tt:St->TT) (te:St->TE):TE:=λσ H Q=>wi σ H λJ H1=>runC g (tt σ) (te σ) J (stC ws caps σ) H1 λys H'=>∀D,H' D=none->Q 3#D (upd H' D 7#ys)
def Cn (i:Nat) (ws:2#Str) (caps:2#Nat) (wi:TI) (g:TG) (tt:St->TT) (te:St->TE):TS:=λD σ H=>wi σ H λJ H1=>runC g (tt σ) (te σ) J (stC ws caps σ) H1 λys H'=>∀a,H' a=none->D.nx (σ.set i 1#3#a) (upd H' a 7#ys)
section
variable {X:Cx} {E:St->XK} {ws:2#Str} {caps:2#Nat} {sc:Scope} {tg iter elt:Expr} {ifs:2#Expr} {pos py spos:Pos} {wi:TI} {g:TG} {tt:St->TT} {te:St->TE}
theorem BM (fm:Framed X) (hx:cG X) (B:BlockOkC X.env.scope sc) (hc:X.calm=true) (hcap:8#22) (hi:PI (X.af (XE X E)) tg iter wi)
  (hg:∀σ own C fp pn s H,8#12->PG 8#15 tg g) (ht:∀σ own C fp pn s H,8#12->lg 8#15 ifs (tt σ))
  (he:∀σ own C fp pn s H,8#12->PE 8#15 elt (te σ)) (hs:∀x,foldedSetIterable iter X.env x=pure x:=by intro _;rfl):
  PE (X.af (XE X E)) 9#8 (CM ws caps wi g tt te):=by
 intro pins s σ H Q I h;have fc:=iA I.bD B;show wpAny 8#3 X.A (eval 9#8 X.env) _ (XE X E) s;rw[eval_ListComp];refine wpAny_comprehension_free (use:=none) (cl:=a7 X.env sc.names []) rfl hs (jz fc) B.kind B.names (az (hi pins s σ H _ I h) λv s1 h1=>az h1 λitv s2 h2=> ?_);let⟨it,fp,tn,J,H2,e,I2,T,st,f2,q⟩:=h2;subst e
 refine pK (RR:=λacc C=>compPost 8#3 X.A (XE X E) none (EP (X.af (XE X E)) pins σ Q) acc C) fm hx B hc hcap (λown C pn s H=>hg σ own C fp pn s H) (λown C pn s H=>ht σ own C fp pn s H) (λown C pn s H=>he σ own C fp pn s H) I2 T st f2 q
  (λD C s' H' ys hD _ _ z z909 _ k=>by let⟨m,hn⟩:=z909;exact⟨m,hn,λh' sb=>⟨3#D,_,k h' sb,rfl,z D hD⟩⟩) λD C e s' z904 k=>by let⟨m,hn⟩:=z904;exact⟨m,hn,λh' sb cenv _=>o5 (k h' sb)⟩
theorem Ad {i:Nat} {y:Str} (fm:Framed X) (hx:cG X) (B:BlockOkC X.env.scope sc) (hc:X.calm=true) (hcap:8#22) (hN:X.N.Nodup) (hy:X.N[i]?=1#y) (hl:X.env.scope.names.lookup y=1#.local)
  (hi:PI (X.af (XE X E)) tg iter wi)
  (hg:∀σ own C fp pn s H,8#12->PG 8#15 tg g) (ht:∀σ own C fp pn s H,8#12->lg 8#15 ifs (tt σ))
  (he:∀σ own C fp pn s H,8#12->PE 8#15 elt (te σ))
  (hsw:swapsWith 9#8 1#(.Name y py) spos.line X.env=pure true:=by rfl) (hs:∀x,foldedSetIterable iter X.env x=pure x:=by intro _;rfl):
  PS (X.af (XE X E)) (.Assign [.Name y py] 9#8 spos) (Cn i ws caps wi g tt te):=by
 intro pins s σ H D I h;show wpAny 8#3 X.A (exec (.Assign [.Name y py] 9#8 spos) X.env) _ _ s;rw[exec_Assign_Name_used _ _ _ _ hsw];refine aaa (acX (aaa ?_))
 show wpAny _ X.A (do let _←comprehension 9#8 sc X.env _ (newList []) false (eval iter X.env) 1#(assign (.Name y py) X.env)) _ _ s
 refine aaa (az (wpAny_comprehension_free (use:=1#(assign (.Name y py) X.env)) (cl:=a7 X.env sc.names []) (Q:=λ_ s'=>SP (X.af (XE X E)) pins D .next s') rfl hs (jz (iA I.bD B)) B.kind B.names
  (az (hi pins s σ H _ I h) λv s1 h1=>az h1 λitv s2 h2=> ?_)) λ_ s' q=>aaf (aaf q))
 let⟨it,fp,tn,J,H2,e,I2,T,st,f2,q⟩:=h2;subst e
 refine pK (RR:=λacc C=>compPost 8#3 X.A (XE X E) 1#(assign (.Name y py) X.env) (λ_ s'=>SP (X.af (XE X E)) pins D .next s') acc C) fm hx B hc hcap (λown C pn s H=>hg σ own C fp pn s H) (λown C pn s H=>ht σ own C fp pn s H) (λown C pn s H=>he σ own C fp pn s H) I2 T st f2 q
  (λa C s' H' ys hD fC naC z ⟨m,hn⟩ hC k=> ?_) λD C e s' z904 k=>by let⟨m,hn⟩:=z904;exact⟨m,hn,λh' sb cenv _=>o5 (k h' sb)⟩
 have k0:=k s'.heap (.refl ..);have I3:Inv X pins σ (upd H' a 7#ys) s':=Inv.bD k0;show wpAny 8#3 X.A (assign (.Name y py) X.env 3#a) _ _ s';have nL:X.env.locals≠C:=aay (aan I2.bD.lt hC)
 have nC:∀x c,X.env.cells.lookup x=1#c->c≠C:=λx c e=>by
  let⟨v,q⟩:=I2.bD.cell x c e;exact aay (aan q.lt hC)
 refine wpAny_assign_Name (oO (X:=X) I3 hN hy (.inl hl) (show RelV 3#a 3#a from rfl) (λs3 I4 z902=> ?_) (.inr hl));let⟨b,sb,hb⟩:=z902
 have nb:C≠b:=by
  rcases hb with rfl|hb
  ·exact nL.symm
  ·exact(nC _ _ hb).symm
 refine⟨m,hn.sameBut sb nb,λh' sb'=> ?_⟩;have mv:Moved (dj X.stack) [C] s3.heap h':=⟨λb o _ c e=>(sb'.2 b (by simpa using c)).trans e,λb o c e=>⟨o.slots,(sb'.2 b (by simpa using c)).trans e⟩⟩
 have uC:upd H' a 7#ys C=none:=by
  rw[ar naC.symm];exact fC
 have I5:Inv X pins (σ.set i 1#3#a) (upd H' a 7#ys) {s3 with heap:=h'}:=by
  refine CN (s':={s3 with heap:=h'}) (ch:=[C]) I4 rfl mv.un (mv.ah I4.ah I4.kq λb hb=> ?_) I4.bare λb hb=> ?_
  ·have e:b=C:=by simpa using hb
   rw[e];exact uC
  ·have e:b=C:=by simpa using hb
   subst e;refine⟨abg (aaT I2.bD.sz hC),nL.symm,nC,I2.bD.GV hC,λp hp=> ?_⟩;exact aay (aan (aam (I2.bD.pin p hp).1) hC)
 exact⟨_,_,I5.af _,z a hD⟩
end
end L2.L4
namespace L2.L3
open PySem PySem.Spec PyProof.Rows PySem.W
abbrev SW:=2#V->2#V->Hp->Prop
def qu (sp:Sp) (kS:Addr) (W:SW):Prop:=∀y rest kv H',W (y::rest) kv H'->sp [y] H' (λv H2=>∃kv2,0#kv2=0#kv/\H2 kS=1#7#kv2/\W rest (kv2++[v]) (upd H2 kS 7#(kv2++[v]))) (λ_ _ _=>False)
section
variable {X:Cx} {pins:8#7} {σ:St} {H:Hp} {s:9#4} {k:Nat} {f:Addr} {fd:FuncData} {ps:2#Str} {sp:Sp}
theorem mr {W:SW} {E:8#2} {R:Shared->Prop} (F:8#21) (hr:Room k X.A.in1.in1) (hb:Binds X.K fd ps []) (hW:qu sp kS W) {body:Value->PUnit->Sem (ForInStep PUnit)}
  (hbody:∀x (s:9#4) (C:Shared->Prop),wpAny 8#3 X.A.in1.in1 (call 3#f [x]) (λu s'=>wpAny 8#3 X.A.in1.in1 (Builtin.List.listUpdate 3#kS (·.push u)) (λ_ s''=>C s'') E s') (λ_ _=>False) s->
   wpAny 8#3 X.A.in1.in1 (body x ⟨⟩) (λr s''=>r= .yield ⟨⟩/\C s'') E s):
  ∀{ys:2#V} {us:2#Value},Vals ys us->∀(kv:2#V) (H':Hp) (s:9#4),Inv X pins σ H' s->H' kS=1#7#kv->W ys kv H'->0#kv+0#ys<64->
   (∀kv' H'' s'',Inv X pins σ H'' s''->H'' kS=1#7#kv'->W [] kv' H''->0#kv'=0#kv+0#ys->R s'')->wpAny 8#3 X.A.in1.in1 (forIn us PUnit.unit body) (λ_ s''=>R s'') E s
 |_,_, .nil,kv,H',s,I,hk,hw,hl,fin=>by
  rw[acg];exact aaf (fin kv H' s I hk hw rfl)
 |y::ys,u::us, .cons r rr,kv,H',s,I,hk,hw,hl,fin=>by
  rw[acb];rw[aar] at hl;refine aaa (aa3 (hbody u s (λs''=>wpAny 8#3 X.A.in1.in1 (forIn us PUnit.unit body) (λ_ s''=>R s'') E s'') ?_) (λr' s'' h=> ?_) λ_ _ e=>e)
  ·refine az (AQ F hr hb I r (hW y ys kv H' hw)) λw s1 zq10=> ?_;let⟨v,H2,I2,rv,kv2,l2,hk2,w2⟩:=zq10;let⟨z,its,n,rt,hlen,e⟩:=I2.lP hk2;refine listUpdate_at e rfl ?_ (by rw[aaj];lia) (by rw[Array.size_push,aaj];lia)
   have hz:0#(kv2++[v])<=sizeLine:=by
    rw[aaL,ab3];exact abI (iq 8#0)
   have I3:=I2.xk (f:=(·.push w)) (its':=its++[w]) (t':=s1.toks) hk2 e 8#5 (rt.append (.cons rv .nil)) hz
   exact mr F hr hb hW hbody rr (kv2++[v]) _ _ I3 aq w2 (by rw[aaL,ab3];lia) (λkv' H'' s'' a1 a2 a3 a4=>fin kv' H'' s'' a1 a2 a3 (by
    rw[a4,aaL,ab3,aar]
    lia))
  ·let⟨rfl,h⟩:=h;exact h
end
section
variable {X:Cx} {pins:8#7} {σ:St} {H:Hp} {s:9#4} {D kS:Addr} {e1:Nat} {zs kv:2#V} {ws:2#Value} {E:8#2} {A:Around}
def B8 (X:Cx) (pins:8#7) (σ:St) (H:Hp) (kS D:Addr) (zs:2#V) (s':9#4):Prop:=Inv X pins σ (upd (upd H kS (.lst [])) D 7#zs) s'/\upd H kS (.lst []) D=none
theorem mP {st:SortSt} (I:Inv X ((D,seqObj "list" #[] e1)::pins) σ H s) (hk:H kS=1#7#kv) (pD:Place X pins D) (hv:Vals zs ws) (hz:0#zs<64) (hout:(arrOf st).map (·.2)=ws.toArray) (hf:failedOf st=none):
  wpAny 8#3 A (ksk_tail D false e1 3#kS st) (λfin s'=>fin= .done (.ret .none)/\B8 X pins σ H kS D zs s') E s:=by
 let⟨z,its,n,rt,hlen,e⟩:=I.lP hk;have hws:0#ws=0#zs:=hv.length.symm;unfold ksk_tail
 try dsimp only
 rw[hout];refine aaa (listUpdate_at e rfl ?_ (by rw[aaj];lia) (aaX _));refine aaa (acR ?_);have I1:=I.xk (f:=λ_=>#[]) (its':=[]) (ys:=[]) (t':=s.toks) hk e rfl .nil (aaX _);have pD1:=I1.pin (D,seqObj "list" #[] e1) (aaw _ aaD);have gD:(s.heap.update kS 8#10).get? D=1#(seqObj "list" #[] e1):=pD1.1;refine aaa (seqEpoch_at gD rfl ?_);refine aaa (listUpdate_at gD rfl ?_ (aaX _) (by show (if false=true then _ else ws.toArray).size<=_;rw[if_neg 8#16,aaj,abH];lia));rw[hf];simp only[bne_self_eq_false,abY,abR];refine aaf ⟨rfl, ?_,pD1.2.1⟩;have I2:Inv X pins σ (upd H kS (.lst [])) {s with heap:=s.heap.update kS 8#10}:=I1.dq λp hp=>I1.pin p (aaw _ (aat _ hp));have fD:=pD.fp (upd H kS (.lst [])) pD1.2.1
 have I3:Inv X pins σ (upd H kS (.lst [])) {s with heap:=(s.heap.update kS 8#10).update D (Obj.mapSeq λ_=>ws.toArray)}:=
  iF (s:={s with heap:=s.heap.update kS 8#10}) (h':=(s.heap.update kS 8#10).update D (Obj.mapSeq λ_=>ws.toArray)) (ch:=[D]) (t':=s.toks) I2 (λb hb=>by rw[aaG.mp hb];exact fD) λb o hb q=>(aa8 _ _ (λz=>hb (by simp[z]))).trans q
 have q:=PySem.IsL.update (items:=#[]) gD (λ_=>ws.toArray);exact nM I3 pD1.2.1 pD.nw fD.2.1 fD.2.2.2.2.1 fD.2.2.2.2.2 ⟨abI (iq 8#0),ws,_,hv,q⟩
end
section
variable {X:Cx} {pins:8#7} {σ:St} {H:Hp} {s:9#4} {D kS:Addr} {e1 m:Nat} {ys kv:2#V} {us its:2#Value} {keys:2#2#Int} {E:8#2} {A:Around}
theorem yn (I:Inv X ((D,seqObj "list" #[] e1)::pins) σ H s) (hk:H kS=1#7#kv) (pD:Place X pins D) (hi:Vals kv its) (hkeys:Paired (fY H) kv keys) (hy:Vals ys us) (hl:0#kv=0#ys) (h64:0#ys<64) (hm:0<m) (hkm:∀k∈keys,0#k=m):
  wpAny 8#3 A (ksk_end D false us.toArray e1 3#kS its.toArray) (λfin s'=>fin= .done (.ret .none)/\∃p:2#Nat,p.Perm (List.range 0#ys)/\mK keys p/\B8 X pins σ H kS D (p.map λi=>ys.getD i .non) s') E s:=by
 have lu:0#us=0#ys:=hy.length.symm
 have li:0#its=0#us:=by rw[←0#hi,hl,lu]
 unfold ksk_end
 try dsimp only
 simp only[abY,abR]
 by_cases h2:us.toArray.size<2
 ·rw[if_pos h2,if_pos h2];refine aaa (aaf ?_)
  have hout:(arrOf (SortSt.mk' general' (its.toArray.zip us.toArray) #[] 7 none)).map (·.2)=us.toArray:=by
   show (its.toArray.zip us.toArray).map (·.2)=us.toArray;apply acz.mp;rw[Array.toList_map,ksk_zip];show (its.zip us).map Prod.snd=us;exact List.map_snd_zip 8#0
  have T:=mP (E:=E) (A:=A) (st:=SortSt.mk' general' (its.toArray.zip us.toArray) #[] 7 none) I hk pD hy h64 hout rfl;refine aaa (aaf ?_);refine aa3 T (λfin s' zq11=> ?_) λ_ _ e=>e;let⟨a,b⟩:=zq11;refine⟨a,List.range 0#ys, .refl _, ?_,by rw[range_getD];exact b⟩
  have hn:0#ys<2:=by
   rw[aaj] at h2;lia
  have:0#ys=0∨0#ys=1:=by lia
  rcases this with h|h
  ·rw[h];exact List.Pairwise.nil
  ·rw[h];exact List.Pairwise.cons (λ_ h=>by cases h) List.Pairwise.nil
 ·rw[if_neg h2,if_neg h2]
  have hn:2<=0#ys:=by
   rw[aaj] at h2;lia
  let⟨fs,f1,f2,f3⟩:=qK I hm hi hkeys hkm;refine aaa (kat_kind (T:= .type "int") f2 8#0 (λv hv=> ?_) 8#16 ?_)
  ·let⟨i,t,rfl⟩:=f3 v hv;exact PySem.W.Looks.now
  have O:SortT.Ord 8#14:=⟨λa b c x y=>qO x y,λa b x=>nJ x⟩;let⟨o1,o2,o3⟩:=SortT.ow O (n:=0#us) 8#0
  refine aaa (aa3 (kat_run (E:=E) (Q:=λst' s'=>s'=s/\∃p:Array Nat,arrOf st'=p.map (kas_item (its.toArray.zip us.toArray))/\failedOf st'=none/\p=SortT.ai 8#14 (kas_sort 0#us)) (G:=λp s'=>s'=s/\p=SortT.ai 8#14 (kas_sort 0#us))
   li 8#0 8#0 (λp st' s' _ b1 b2 b3=>⟨b3.1,p,b1,b2,b3.2⟩) ?_) ?_ λ_ _ e=>e)
  ·refine SortT.wp_run (n:=0#us) (λi j C hi' hj' hC=> ?_) o1 ⟨rfl,rfl⟩;let⟨a,oa,xs,n,ea,ga,da,va,ma⟩:=vP I hi hkeys (i:=i) 8#0;let⟨b,ob,xb,nb,eb,gb,db,vb,mb⟩:=vP I hi hkeys (i:=j) 8#0;unfold kas_ask;rw[ea,eb];refine kat_lt ga da gb db (qM 0 va vb (by rw[hkm _ ma,hkm _ mb]) ?_ hC);have l1:=0#va;have l2:=0#vb;rw[aaz,hkm _ ma,aba] at l1;rw[aaz,hkm _ mb,aba] at l2;exact aaB 8#0
  ·rintro ⟨⟨⟩,st'⟩ s' ⟨rfl,p,har,hf,rfl⟩
   try dsimp only
   have hp:∀i∈(SortT.ai 8#14 (kas_sort 0#us)).toList,i<0#ys:=λi hi=>by
    have:=abf.mp (o2.mem_iff.mp hi);lia
   have T:=mP (E:=E) (A:=A) (st:=st') I hk pD (pF hy hp) (by rw[aaz,o2.length_eq,ac3];lia) (kat_snds li har) hf;refine aa3 T (λfin s' zq12=> ?_) λ_ _ e=>e;let⟨a,b⟩:=zq12;refine⟨a,_,by rw[←lu];exact o2, ?_,b⟩;refine List.pairwise_iff_getElem.mpr λi j h1 h2 hij=> ?_
   have sz:0#(SortT.ai 8#14 (kas_sort 0#us)).toList=0#us:=by rw[o2.length_eq,ac3]
   have z:=o3 i j (abI hij) 8#0
   have gi:∀k (hk:k<0#(SortT.ai 8#14 (kas_sort 0#us)).toList),SortT.g (SortT.ai 8#14 (kas_sort 0#us)) k=(SortT.ai 8#14 (kas_sort 0#us)).toList[k]:=λk hk=>by
    rw[SortT.jd,←Array.getElem?_toList,aac hk];rfl
   rw[gi j h2,gi i h1] at z;exact z
end
section
variable {X:Cx} {pins:8#7} {σ:St} {H:Hp} {s:9#4} {k:Nat} {f a:Addr} {fd:FuncData} {ps:2#Str} {sp:Sp} {ys:2#V} {Q:VK} {E:8#2}
def A9 (ys:2#V) (Q:VK) (kS:Addr) (kv:2#V) (H2:Hp):Prop:=∃keys m,Paired (fY H2) kv keys/\0<m/\(∀k∈keys,0#k=m)/\
 ∀D p,upd H2 kS (.lst []) D=none->p.Perm (List.range 0#ys)->mK keys p->Q 3#D (upd (upd H2 kS (.lst [])) D 7#(p.map λi=>ys.getD i .non))
theorem wV (F:8#21) (hr:Room k X.A.in1.in1) (hb:Binds X.K fd ps []) (I:8#1) (ha:bN X.K H a ys) (h64:0#ys<64)
  (q:∀kS,H kS=none->∃W:SW,qu sp kS W/\W ys [] (upd H kS (.lst []))/\∀kv H2,H2 kS=1#7#kv->0#kv=0#ys->W [] kv H2->A9 ys Q kS kv H2):
  wpAny 8#3 X.A (call (.builtin "sorted") [3#a] [(Str.ofString "key", 3#f)]) (EP X pins σ Q) E s:=by
 let⟨us,hv,g,hz⟩:=I.list ha;have lu:0#us=0#ys:=hv.length.symm;refine call_function_entry_kw kind_sorted plain_sorted entry_sorted (ksk_s1 _ _) ?_;unfold Builtin.«sorted»;refine aaa (m:=checkCount "sorted" 1 1 _) (aaf ?_);refine aaa (collect_list g.isList ?_ (by rw[abH];lia));refine aaa (wpAny_newList ?_ (by rw[abH];lia))
 have hsz:((s.heap.push (seqObj "list" #[] 0)).update s.heap.objs.size (Obj.mapSeq (· ++us.toArray))).objs.size=s.heap.objs.size+1:=by
  rw[Heap.size_update,size_push']
 have keep:∀b o,s.heap.get? b=1#o->(((s.heap.push (seqObj "list" #[] 0)).update s.heap.objs.size (Obj.mapSeq (· ++us.toArray))).push (seqObj "list" us.toArray 0)).get? b=1#o:=λb o q=>by
  have hlt:b<s.heap.objs.size:=aam q;rw[Heap.get?_push_ne _ _ _ (by rw[hsz];exact aay (Nat.lt_succ_of_lt hlt)),Heap.get?_update_ne _ _ _ _ (aay hlt),Heap.get?_push_ne _ _ _ (aay hlt)];exact q
 have hoL:(((s.heap.push (seqObj "list" #[] 0)).update s.heap.objs.size (Obj.mapSeq (· ++us.toArray))).push (seqObj "list" us.toArray 0)).get? 8#11=1#(seqObj "list" us.toArray 0):=by
  rw[←hsz];exact aak _ rfl
 have zA:(((s.heap.push (seqObj "list" #[] 0)).update s.heap.objs.size (Obj.mapSeq (· ++us.toArray))).push (seqObj "list" us.toArray 0)).objs.size=s.heap.objs.size+2:=by rw[size_push',hsz]
 show wpAny _ _ _ _ _ {s with heap:=((s.heap.push (seqObj "list" #[] 0)).update s.heap.objs.size (Obj.mapSeq (· ++us.toArray))).push (seqObj "list" us.toArray 0)};rw[hsz];generalize ((s.heap.push (seqObj "list" #[] 0)).update s.heap.objs.size (Obj.mapSeq (· ++us.toArray))).push (seqObj "list" us.toArray 0)=hA at keep hoL zA⊢;generalize hD:s.heap.objs.size+1=D at hoL⊢
 have nD:s.heap.objs.size<=D:=by lia
 refine aaa (abn (wpAny_call_entry_kw slot_list_sort ⟨_,hoL,rfl⟩ entry_list_sort ?body (ksk_l1 _ _)))
 case body=>
  show wpAny 8#3 X.A.in1.in1 (Builtin.«list.sort» ⟨[3#D],[(Str.ofString "key", 3#f)]⟩) _ _ _;rw[ksk_t1];unfold ksk_tree;refine aaa (listItems_at hoL rfl ?_);refine aaa (listUpdate_at hoL rfl ?_ (by rw[aaj,abH];lia) (aaX _));obtain⟨e1,ho1⟩:∃e1,(hA.update D 8#10).get? D=1#(seqObj "list" #[] e1):=⟨_,get?_update_seq hoL λ_=>#[]⟩;refine aaa (seqEpoch_at ho1 rfl ?_);refine aaa (wpAny_newTuple ?_ (by show 0#us<=_;rw[abH];lia));refine aaa (wpAny_newList ?_ (aaX _));refine abn ?_
  have zB:((hA.update D 8#10).push (seqObj "tuple" us.toArray 0)).objs.size=s.heap.objs.size+3:=by rw[size_push',Heap.size_update,zA]
  have keepB:∀b o,s.heap.get? b=1#o->(((hA.update D 8#10).push (seqObj "tuple" us.toArray 0)).push (seqObj "list" #[] 0)).get? b=1#o:=λb o q=>by
   have hlt:b<s.heap.objs.size:=aam q;refine aad _ (aad _ ?_);rw[Heap.get?_update_ne _ _ _ _ (aay (aan hlt nD))];exact keep b o q
  have gD:(((hA.update D 8#10).push (seqObj "tuple" us.toArray 0)).push (seqObj "list" #[] 0)).get? D=1#(seqObj "list" #[] e1):=aad _ (aad _ ho1)
  have gK:(((hA.update D 8#10).push (seqObj "tuple" us.toArray 0)).push (seqObj "list" #[] 0)).get? (s.heap.objs.size+3)=1#(seqObj "list" #[] 0):=by
   rw[←zB];exact aak _ rfl
  show wpAny _ _ (ksk_rest D 3#f false us.toArray e1 3#((hA.update D 8#10).push (seqObj "tuple" us.toArray 0)).objs.size) _ _ {s with heap:=((hA.update D 8#10).push (seqObj "tuple" us.toArray 0)).push (seqObj "list" #[] 0)};rw[zB];generalize ((hA.update D 8#10).push (seqObj "tuple" us.toArray 0)).push (seqObj "list" #[] 0)=hB at keepB gD gK⊢;generalize hKS:s.heap.objs.size+3=kS at gK⊢
  have nK:s.heap.objs.size<=kS:=by lia
  have I1:Inv X pins σ H {s with heap:=hB}:=I.kept (t':=s.toks) keepB;have frD:=I.ah.fresh nD;have frK:=I.ah.fresh nK;have fpD:=I.jQ nD frD;have fpK:=I.jQ nK frK;have pD:Place X pins D:=⟨λH' hn=>⟨hn,fpD.2⟩,abg (aaT I.sz nD)⟩
  have I2:Inv X ((D,seqObj "list" #[] e1)::pins) σ H {s with heap:=hB}:=I1.dq λp hp=>by
   rcases aaq.mp hp with rfl|hp
   ·exact⟨gD,frD,fpD.2.1,fpD.2.2.1,λv z=>by cases z⟩
   ·exact I1.pin p (aaw _ hp)
  have dk:D≠kS:=by lia
  have I3:Inv X ((D,seqObj "list" #[] e1)::pins) σ (upd H kS (.lst [])) {s with heap:=hB}:=nM I2 frK (abg (aaT I.sz nK)) fpK.2.1 fpK.2.2.2.2.1 (λp hp=>by
   rcases aaM.mp hp with hp|hp
   ·exact fpK.2.2.2.2.2 p (aaU _ hp)
   ·rcases aaq.mp hp with rfl|hp
    ·exact dk
    ·exact fpK.2.2.2.2.2 p (aaw _ hp)) ⟨aaX _,[],0, .nil,gK⟩
  let⟨W,hW,w0,wEnd⟩:=q kS frK;unfold ksk_rest;refine aaa (acI ?_)
  first
   |rw[List.forIn_toArray]
   |(rw[←Array.forIn_toList];simp only[List.toList_toArray])
  refine aaa (az (mr (R:=λs''=>∃kv' H'',Inv X ((D,seqObj "list" #[] e1)::pins) σ H'' s''/\H'' kS=1#7#kv'/\W [] kv' H''/\0#kv'=0+0#ys) F hr hb hW (λx s' C hx=> ?_) hv [] _ _ I3 aq w0 (by rw[ade];lia) (λkv' H'' s'' b1 b2 b3 b4=>⟨kv',H'',b1,b2,b3,b4⟩)) λ_ s'' hs=> ?_)
  ·refine aaa (acv (aa3 hx (λu s'' hu=> ?_) λ_ _ hF=>hF.elim))
   try dsimp only
   exact aaa (az hu λ_ s3 h3=>aaf ⟨rfl,h3⟩)
  ·let⟨kv,H2,J,hkv,hw,lk⟩:=hs;rw[acf] at lk;let⟨keys,m,hks,hm,hkm,q⟩:=wEnd kv H2 hkv lk hw;let⟨_,its,n,rt,hlen,e⟩:=J.lP hkv;refine aaa (listItems_at e rfl ?_);refine aa3 (yn J hkv pD rt hks hv lk h64 hm hkm) (λfin s3 h3=> ?_) λ_ _ e=>e;let⟨rfl,p,p1,p2,J3,d3⟩:=h3;exact⟨_,rfl,aaf ⟨_,rfl, 3#D,_,J3,rfl,q D p d3 p1 p2⟩⟩
end
def Fu (K:8#4) (sp:Sp) (t:TA):TE:=λσ H Q=>t σ H λvs H1=>∃a ys,vs=[3#a]/\bN K H1 a ys/\0#ys<64/\
 ∀kS,H1 kS=none->∃W:SW,qu sp kS W/\W ys [] (upd H1 kS (.lst []))/\∀kv H2,H2 kS=1#7#kv->0#kv=0#ys->W [] kv H2->A9 ys Q kS kv H2
theorem BN {X:Cx} {k:Nat} {f:Addr} {ps:2#Str} {sp:Sp} {fn:Str} {e:Expr} {t:TA} {p:Pos} (F:8#21) (hr:Room (k+2) X.A) (hb:Binds X.K fd ps []) (hg:Gl X "sorted") (hm:X.mg "sorted"=none)
  (hgf:Gl X fn) (hmf:X.mg fn=1#3#f) (ha:PA X [e] t) (hdf:(fn==("__debug__":Str))=false)
  (he:backTo pos (starEach [e] X.env)=(false,eval e X.env)::backTo pos (starEach [] X.env)) (hpl:(backTo pos (starEach [e] X.env)).any (·.1)=false):
  PE X (.Call (.Name "sorted" p) [e] [⟨1#(Str.ofString "key"), .Name fn p2,kpos⟩] pos) (Fu X.K sp t):=by
 intro pins s σ H Q I h;refine abu (fH I hg hm boot_sorted ?_);refine callWith_kw (az (ha pos pins s σ H _ I h) λus s1 z902=> ?_) he hpl;let⟨vs,H1,I1,r1,q1⟩:=z902;have hk:PK X [⟨1#(Str.ofString "key"), .Name fn p2,kpos⟩] (wQ (tC 3#f) A3):=C9 (uT (v:= 3#f) hgf hmf rfl hdf) HX;refine az (hk pos pins s1 σ H1 (λzs H2=>zs=[3#f]/\H2=H1) I1 ⟨rfl,rfl⟩) λws s2 z902=> ?_;let⟨zs,H2,I2,rz,e1,e2⟩:=z902;subst e1 e2;let⟨w',rfl,rw'⟩:=Vals.one rz;cases rw';let⟨a,ys,rfl,ha',h64,q⟩:=q1;let⟨u,rfl,ru⟩:=Vals.one r1;cases ru;exact wV F hr.in1.in1 hb I2 ha' h64 q
theorem Gz {k:Key} {v:Value} (h:ij k v=true):RelV (kV k) v:=by
 cases k with
 |inl i=>
  cases v<;>simp[ij,Value.isInt] at h;subst h;exact⟨_,rfl⟩
 |inr x=>
  let⟨t,e⟩:=Value.isStrOf_shape (x:=x) (v:=v) h;exact⟨t,e⟩
def AL (d:Addr) (o:Obj) (kvs:2#(Key×V)):It:=
 ⟨λi H=>H d=1#(.aG o (.dK kvs))/\i<0#kvs,λi H x H'=>H'=H/\∃k v,x=kV k/\kvs[i]?=1#(k,v),λi H=>H d=1#(.aG o (.dK kvs))/\0#kvs<=i⟩
theorem pO {prog:Program} {w:World} {K:Type} [DecidableEq K] {knd:KeyKind prog w K}:∀{es:2#DictEntry} {kvs:2#(K×Value)} {i:Nat} {e:DictEntry},Pairs knd es kvs->es[i]?=1#e->∃kv,kvs[i]?=1#kv/\knd.is kv.1 e.key=true
 |_,_,_,_, .nil,h=>by simp at h
 |_,_,0,_, .cons a b r,h=>by
  simp at h;subst h;exact⟨_,rfl,a⟩
 |_,_,i+1,_, .cons a b r,h=>by
  let⟨kv,h1,h2⟩:=pO r (i:=i) (by simpa using h);exact⟨kv,by simpa using h1,h2⟩
theorem om {P:Program} {w:World} {H:Hp} {d:Addr} {o:Obj} {kvs:2#(Key×V)} (ok:bA P w H h) (e:H d=1#(.aG o (.dK kvs))):
  ∃es ep vs,o.data= .dict es ep/\jA h d es ep/\Pairs (aN P w) es.toList vs/\KV kvs vs/\es.size=0#kvs/\(d==sysModules)=false:=by
 let⟨h0,z,y,vs,r,o',es,ep,h1,h2,h3,h4,h5,h6⟩:=(show aQ P w H h d (.aG o (.dK kvs)) from ok d _ e);rw[h0] at h1;cases h1;exact⟨es,ep,vs,h3,⟨o,h0,h2,h3⟩,h5,r,by rw[0#r,←aba,0#h5],y⟩
theorem xi {P:Program} {w:World} {K:8#4} (d it:Addr) (o:Obj) (kvs:2#(Key×V)):Turn P w K tg (AL d o kvs) [it] it (λi h=>CC o h it d i) where
 mem:=by simp
 obj:=λi h st b hb=>by
  let⟨es,ep,_,u,h1,h2,h3⟩:=st;rw[aaG.mp hb];exact⟨u,h1,λv z=>by rw[h3] at z;cases z⟩
 keep:=λi h h' st k=>by
  let⟨es,ep,hd,x⟩:=st;exact⟨es,ep,hd,x.at λo e=>k it 8#5 o e⟩
 item:=by
  intro X hP hw hK hc i pins s σ H E I hf st hg;subst hP hw hK;let⟨es,ep,hdat,hit⟩:=st;let⟨e,lt⟩:=hg;let⟨es',ep',vs,hdat',raw,hes,rel,hsz,_⟩:=om I.ah e;rw[hdat] at hdat';cases hdat'
  have lt':i<es.size:=by lia
  let⟨f0,f1,f2,f3,f4,f5⟩:=hf it 8#5;refine tX hit raw lt' λh' st' sb=> ?_;have I1:Inv X pins σ H {s with heap:=h'}:=I.turned (t':=s.toks) (λb o hb e=>(sb.2 b hb).trans e) f0 f1 f3 f4 f5
  have q:es.toList[i]?=1#es[i]:=by simp[lt']
  let⟨kv,e1,e2⟩:=pO hes q;let⟨kv',x,e3,e4,h1,h2⟩:=jK rel i lt;rw[e1] at e4;cases e4;let⟨u,v1,v2,v3⟩:=id st';refine⟨es[i].key,rfl,nu (s:={s with heap:=h'}) v1 v2 v3 8#16 ⟨kV kv'.1,H,I1, ?_,⟨rfl,kv'.1,kv'.2,rfl,e3⟩,⟨es,ep,hdat,st'⟩,λb hb=>(hf b hb).1⟩⟩;rw[h1];exact Gz e2
 done:=by
  intro X hP hw hK hc i pins s σ H E I hf st hg;subst hP hw hK;let⟨es,ep,hdat,hit⟩:=st;let⟨e,ge⟩:=hg;let⟨es',ep',vs,hdat',raw,hes,rel,hsz,_⟩:=om I.ah e;rw[hdat] at hdat';cases hdat';let⟨f0,f1,f2,f3,f4,f5⟩:=hf it 8#5;exact vN (I.ok.hd hc) hit raw 8#0 λh' eb=>⟨rfl,I.turned (t':=s.toks) (λb o hb e=>eb b o hb e) f0 f1 f3 f4 f5⟩
 self:=λ_ _ _ _ _ st h=>by
  let⟨es,ep,_,hit⟩:=st;exact wpAny_pyIter_keyiter hit h
def K1 (K:8#4) (tl:TE):TI:=λσ H R=>tl σ H λx H1=>∃a,x= 3#a/\(((∃xs,bN K H1 a xs)/\R (E7 K a) H1)∨((∃xs,dg K H1 a xs)/\R (HS K a) H1)∨
 (∃kvs,Rd H1 a (.dT kvs)/\∀o,(H1 a=1#(.dT kvs)∨H1 a=1#(.aG o (.dT kvs)))->R (FC a o kvs) (upd H1 a (.aG o (.dT kvs))))∨
 (∃kvs,Rd H1 a (.dK kvs)/\∀o,(H1 a=1#(.dK kvs)∨H1 a=1#(.aG o (.dK kvs)))->R (AL a o kvs) (upd H1 a (.aG o (.dK kvs)))))
set_option tactic.hygienic true in
theorem yY {H:Hp} {a:Addr} {o:HO} (e:H a=1#o):upd H a o=H:=by
 funext b;unfold upd;split
 ·rename_i z;rw[z,e]
 ·rfl
theorem Fi {X:Cx} {l:Expr} {tl:TE} (hl:PE X l tl):PI X tg l (K1 X.K tl):=by
 intro pins s σ H R I h;refine az (hl pins s σ H _ I h) λv s1 z902=> ?_;let⟨x,H1,I1,r1,q1⟩:=z902;let⟨a,e,q⟩:=q1;subst e;cases r1
 have fp:∀{H1:Hp},Inv X pins σ H1 s1->∀b∈[s1.heap.objs.size],cK X pins H1 b:=λ{H1} I1 b hb=>by
  have e:b=s1.heap.objs.size:=by simpa using hb
  subst e;exact I1.jQ (aah _) (I1.ah.fresh (aah _))
 rcases q with⟨⟨xs,hq⟩,q⟩|⟨⟨xs,hq⟩,q⟩|⟨kvs,hq,q⟩|⟨kvs,hq,q⟩
 ·let⟨its,rv,p,hz⟩:=I1.list hq;refine ab2 p.isList ?_;exact⟨s1.heap.objs.size,[s1.heap.objs.size],_,_,H1,rfl,I1.kept (t':=s1.toks) λb o e=>aad _ e,yw a _,⟨_,aak _ rfl,rfl,rfl⟩,fp I1,q⟩
 ·let⟨its,rv,p,hz⟩:=I1.tuple hq;refine acW (show s1.heap.IsTuple a its.toArray from p) ?_;exact⟨s1.heap.objs.size,[s1.heap.objs.size],_,_,H1,rfl,I1.kept (t':=s1.toks) λb o e=>aad _ e,wH a _,⟨_,aak _ rfl,rfl,rfl⟩,fp I1,q⟩
 ·obtain⟨o,I2,qo⟩:∃o,Inv X pins σ (upd H1 a (.aG o (.dT kvs))) s1/\(H1 a=1#(.dT kvs)∨H1 a=1#(.aG o (.dT kvs))):=by
   rcases hq with e|⟨o,e⟩
   ·let⟨o,I2⟩:=Inv.Eb I1 e;exact⟨o,I2, .inl e⟩
   ·exact⟨o,by rw[yY e];exact I1, .inr e⟩
  let⟨es,ep,xs,hdat,raw,_,_,_,hd⟩:=sI I2.ah aq;refine rE hd raw λh1 st kp=> ?_;exact⟨s1.heap.objs.size,[s1.heap.objs.size],_,_,_,rfl,I2.kept (t':=s1.toks) kp,yI a _ o kvs,⟨es,ep,hdat,st⟩,fp I2,q o qo⟩
 ·obtain⟨o,I2,qo⟩:∃o,Inv X pins σ (upd H1 a (.aG o (.dK kvs))) s1/\(H1 a=1#(.dK kvs)∨H1 a=1#(.aG o (.dK kvs))):=by
   rcases hq with e|⟨o,e⟩
   ·let⟨o,I2⟩:=Inv.Ef I1 e;exact⟨o,I2, .inl e⟩
   ·exact⟨o,by rw[yY e];exact I1, .inr e⟩
  let⟨es,ep,xs,hdat,raw,_,_,_,hd⟩:=om I2.ah aq;refine rE hd raw λh1 st kp=> ?_;exact⟨s1.heap.objs.size,[s1.heap.objs.size],_,_,_,rfl,I2.kept (t':=s1.toks) kp,xi a _ o kvs,⟨es,ep,hdat,st⟩,fp I2,q o qo⟩
end L2.L3
namespace PI
open PySem
noncomputable section
inductive Val where
 |non|bl (b:Bool)|int (i:Int)|str (x:Str)|tup (f:Bool) (xs:2#Val)|lst (xs:2#Val)|dct (ks vs:2#Val)|obj (c:Nat) (ns:2#Str) (vs:2#Val)|ref (n:Nat)
deriving Inhabited
inductive Ob where
 |lst (xs:2#Val)|dct (ks vs:2#Val)|ins (c:Nat) (ns:2#Str) (vs:2#Val)
abbrev aa:=2#Ob
abbrev Env:=2#5#Val
structure Exn where
 c:Nat
 ns:2#Str
 vs:2#Val
inductive R (α:Type) where
 |ok (a:α) (st:aa)|exc (x:Exn) (st:aa)|stuck
namespace R
noncomputable def bind {α β:Type} (r:R α) (f:α->aa->R β):R β:=match r with
 | .ok a st=>f a st
 | .exc x st=> .exc x st
 | .stuck=> .stuck
@[simp]theorem oo {α β:Type} (a:α) (st:aa) (f:α->aa->R β):(R.ok a st).bind f=f a st:=rfl
@[simp]theorem Ly {α β:Type} (x:Exn) (st:aa) (f:α->aa->R β):(R.exc x st:R α).bind f= .exc x st:=rfl
@[simp]theorem J9 {α β:Type} (f:α->aa->R β):(R.stuck:R α).bind f= .stuck:=rfl
noncomputable def aj {α:Type} (o:5#α) (st:aa):R α:=match o with
 |some a=> .ok a st
 |none=> .stuck
@[simp]theorem Mr {α:Type} (a:α) (st:aa):aj 1#a st= .ok a st:=rfl
@[simp]theorem LL {α:Type} (st:aa):(aj none st:R α)= .stuck:=rfl
end R
mutual
noncomputable def Val.bd (n:Nat):Val->Bool
 | .tup _ xs=>dy n xs
 | .lst xs=>dy n xs
 | .dct ks vs=>dy n ks&&dy n vs
 | .obj _ _ vs=>dy n vs
 | .ref k=>decide (k<n)
 |_=>true
noncomputable def dy (n:Nat):2#Val->Bool
 |[]=>true
 |v::r=>v.bd n&&dy n r
end
def Ob.bd (n:Nat):Ob->Bool
 | .lst xs=>dy n xs
 | .dct ks vs=>dy n ks&&dy n vs
 | .ins _ _ vs=>dy n vs
mutual
noncomputable def Val.sub (f:Nat->5#Val):Val->5#Val
 | .tup g xs=>(subs f xs).map λxs=> .tup g xs
 | .lst xs=>(subs f xs).map .lst
 | .dct ks vs=>(subs f vs).map λvs=> .dct ks vs
 | .obj c ns vs=>(subs f vs).map λvs=> .obj c ns vs
 | .ref k=>f k
 |v=>1#v
noncomputable def subs (f:Nat->5#Val):2#Val->5#2#Val
 |[]=>some []
 |v::r=>(v.sub f).bind λv=>(subs f r).map λr=>v::r
end
noncomputable def iT (st:aa) (n x:Nat):Nat->Nat->5#Val
 |0,k=>if k<n then 1#3#k else none
 |d+1,k=>if k<n then 1#3#k else if k=x then none else match st[k]? with
  |some 7#xs=>(subs (iT st n x d) xs).map .lst
  |some (.dct ks vs)=>(subs (iT st n x d) vs).map λvs=> .dct ks vs
  |some (.ins c ns vs)=>(subs (iT st n x d) vs).map λvs=> .obj c ns vs
  |none=>none
def Val.aG (st:aa) (n x:Nat) (v:Val):5#Val:=v.sub (iT st n x 6)
def aV (st:aa) (n x:Nat) (vs:2#Val):5#2#Val:=subs (iT st n x 6) vs
def Old (st st':aa):Prop:=0#st<=0#st'/\∀(i:Nat) o,i<0#st->st'[i]?=1#o->st[i]?=1#o∨o.bd 0#st=true
set_option genInjectivity false
inductive Bi where
 |len|tuple|list|dict|abs|sum|all|any|min|max|minD|int|str|bool|sorted|bF (n:String)
inductive Bm where
 |append|extend|insert|pop|clear|reverse|remove|get|join|split|isdigit|count|index|keys|values
inductive T where
 |var (i:Nat)|tup (ts:2#T)
mutual
inductive E where
 |const (v:Val)|var (i:Nat)
 |bin (op:Operator) (a b:E)|neg (a:E)|cmp (op:CmpOp) (a b:E)|cmp2 (op op':CmpOp) (a b c:E)
 |and (a b:E)|or (a b:E)|not (a:E)|ite (c a b:E)
 |tup (es:2#E)|lst (es:2#E)|dct (ks vs:2#E)
 |fld (o:E) (f:Str)|idx (o i:E)|slc (o:E) (lo hi:5#E)
 |call (f:Nat) (es:2#E)|make (c:Nat) (es:2#E)|meth (o:E) (m:Str) (es:2#E)
 |bi (b:Bi) (es:2#E)|bm (m:Bm) (o:E) (es:2#E)|isI (e:E) (c:Nat)|isM (e:E) (cs:2#Nat)
 |comp (nw:Nat) (caps:2#Nat) (t:T) (q:Q) (c:5#E) (e:E)
 |sortK (q:E) (f:Nat)|fz (e:E)|dOf (e:E)
inductive Q where
 |val (e:E)|rng1 (a:E)|rng2 (a b:E)|zip (a b:E)|enm (a:E)|items (a:E)|rev (a:E)
end
abbrev E.ci (n:Int):E:= .const 6#n
inductive S where
 |set (t:T) (e:E)|fQ (o i e:E)|dF (o:E) (f:Str) (e:E)
 |aug (i:Nat) (op:Operator) (e:E)|augI (o i:E) (op:Operator) (e:E)|augF (o:E) (f:Str) (op:Operator) (e:E)
 |expr (e:E)|ret (e:E)|retN|pass|brk|cont
 |ife (c:E) (a b:2#S)|whl (c:E) (b:2#S)|for (t:T) (q:Q) (b:2#S)
 |raise (c:Nat) (es:2#E)|try_ (b:2#S) (c:Nat) (x:5#Nat) (h:2#S)
set_option genInjectivity true
structure Fn where
 np:Nat
 ns:Nat
 body:2#S
structure Cl where
 flds:2#Str
 init:5#Nat
 meths:2#(Str×Nat)
 sup:2#Nat
 exc:Bool
 chg:Bool
structure Pg where
 fns:2#(Nat×Fn)
 cls:2#(Nat×Cl)
 w:Nat
def Pg.fn (P:Pg) (i:Nat):5#Fn:=P.fns.lookup i
def Pg.cl (P:Pg) (i:Nat):5#Cl:=P.cls.lookup i
noncomputable def dz (ns:2#Str) (vs:2#Val) (f:Str):5#Val:=match ns,vs with
 |n::ns,v::vs=>if n=f then 1#v else dz ns vs f
 |_,_=>none
noncomputable def aT (ns:2#Str) (vs:2#Val) (f:Str) (x:Val):2#Str×2#Val:=match ns,vs with
 |n::ns,v::vs=>if n=f then (n::ns,x::vs) else let r:=aT ns vs f x;(n::r.1,v::r.2)
 |_,_=>([f],[x])
noncomputable def j3 (k:Nat):5#Ob->Val
 |some 7#xs=> 7#xs
 |some (.dct ks vs)=> .dct ks vs
 |some (.ins c ns vs)=> .obj c ns vs
 |none=> 3#k
def res (st:aa):Val->Val
 | .ref k=>j3 k st[k]?
 | .non=> .non
 | .bl b=> .bl b
 | .int i=> 6#i
 | .str x=> .str x
 | .tup f xs=> .tup f xs
 | .lst xs=> 7#xs
 | .dct ks vs=> .dct ks vs
 | .obj c ns vs=> .obj c ns vs
noncomputable def new (o:Ob) (st:aa):R Val:= .ok 3#0#st (st++[o])
noncomputable def cV (f:Val->Val->5#Bool):2#Val->2#Val->5#Bool
 |[],[]=>1#true
 |[],_::_=>1#false
 |_::_,[]=>1#false
 |x::xs,y::ys=>(f x y).bind λa=>(cV f xs ys).map λb=>a&&b
noncomputable def eqN:Val->5#Bool
 | .non=>1#true
 |_=>none
noncomputable def eqB (a:Bool):Val->5#Bool
 | .bl b=>1#(a==b)
 |_=>none
noncomputable def eqI (a:Int):Val->5#Bool
 | .int b=>1#(a==b)
 | .str _=>1#false
 |_=>none
noncomputable def eqS (a:Str):Val->5#Bool
 | .str b=>1#(decide (a=b))
 | .int _=>1#false
 |_=>none
noncomputable def eqT (f:2#Val->5#Bool):Val->5#Bool
 | .tup _ ys=>f ys
 |_=>none
noncomputable def eqL (f:2#Val->5#Bool):Val->5#Bool
 | .lst ys=>f ys
 |_=>none
def HR (f:2#Val->2#Val->5#Bool) (v w:Val):5#Bool:=match v with
 | .non=>eqN w
 | .bl a=>eqB a w
 | .int a=>eqI a w
 | .str a=>eqS a w
 | .tup _ xs=>eqT (f xs) w
 | .lst xs=>eqL (f xs) w
 |_=>none
noncomputable def eqv:Nat->Val->Val->5#Bool
 |0=>HR λ_ _=>none
 |d+1=>HR (cV (eqv d))
noncomputable def cZ (x:Val):2#Val->5#Bool
 |[]=>1#false
 |y::ys=>(eqv 8 y x).bind λa=>(cZ x ys).map λb=>a||b
noncomputable def xl:Val->Bool
 | .int _=>true
 | .str _=>true
 |_=>false
def bX:Val->Bool
 | .int _=>true
 | .str _=>true
 | .tup f xs=> !f&&xs.all xl
 |_=>false
noncomputable def iW:Val->Val
 | .tup _ xs=> .tup false xs
 | .non=> .non
 | .bl b=> .bl b
 | .int i=> 6#i
 | .str x=> .str x
 | .lst xs=> 7#xs
 | .dct ks vs=> .dct ks vs
 | .obj c ns vs=> .obj c ns vs
 | .ref k=> 3#k
noncomputable def kT:Val->Bool
 | .tup _ _=>true
 |_=>false
noncomputable def getD (k:Val):2#Val->2#Val->5#5#Val
 |a::ks,v::vs=>if kT a=kT k then (eqv 8 a k).bind λb=>if b=true then 1#1#v else getD k ks vs else none
 |_,_=>1#none
noncomputable def memD (k:Val):2#Val->5#Bool
 |[]=>1#false
 |a::ks=>if kT a=kT k then (eqv 8 a k).bind λb=>(memD k ks).map λc=>b||c else none
noncomputable def lD (k x:Val):2#Val->2#Val->2#Val
 |a::ks,v::vs=>(if eqv 8 a k=1#true then x else v)::lD k x ks vs
 |_,_=>[]
def putD (k x:Val) (ks vs:2#Val):5#(2#Val×2#Val):=(memD k ks).map λb=>if b=true then (ks,lD k x ks vs) else (ks++[k],vs++[x])
noncomputable def pairD:2#Val->2#Val->2#Val->5#(2#Val×2#Val)
 |[],ks,vs=>1#(ks,vs)
 | .tup false [k,v]::r,ks,vs=>if bX k=true then (putD k v ks vs).bind λp=>pairD r p.1 p.2 else none
 |_,_,_=>none
noncomputable def truth:Val->5#Bool
 | .non=>1#false
 | .bl b=>1#b
 | .int i=>1#(i !=0)
 | .str x=>if 0#x<=1000 then 1#((0#x:Int) !=0) else none
 | .tup _ xs=>some !xs.isEmpty
 | .lst xs=>some !xs.isEmpty
 |_=>none
noncomputable def iC:Val->5#Int
 | .tup _ xs=>1#0#xs
 | .lst xs=>1#0#xs
 | .dct ks _=>1#0#ks
 | .str x=>if 0#x<=1000 then 1#(0#x:Int) else none
 |_=>none
noncomputable def gJ (n:Nat) (i:Int):5#Nat:=if 0<=i then (if i<n then 1#i.toNat else none) else if-(n:Int)<=i then 1#(i+n).toNat else none
def g9 (xs:2#Val) (i:Int):5#Val:=(gJ 0#xs i).bind λj=>xs[j]?
noncomputable def bu (n d:Nat):5#Int->Nat
 |none=>d
 |some v=>if v<0 then (v+(n:Int)).toNat else min v.toNat n
def cut {α:Type} (xs:2#α) (lo hi:5#Int):2#α:=(xs.drop (bu 0#xs 0 lo)).take (bu 0#xs 0#xs hi-bu 0#xs 0 lo)
def big (i:Int):Prop:=i.natAbs<2^1000
def xj (i j:Int):Prop:=i.natAbs<2^64∨j.natAbs<2^64∨(big i/\big j)
noncomputable def iff {α:Type} (c:Prop) (r:R α):R α:= @ite _ c (Classical.propDecidable c) r .stuck
theorem bq {α:Type} {c:Prop} {r:R α} (h:c):iff c r=r:=if_pos h
noncomputable def lX {α:Type} (f:Int->Int->aa->R α) (i:Int):Val->aa->R α
 | .int j,st=>f i j st
 |_,_=> .stuck
def bY {α:Type} (f:Int->Int->aa->R α):Val->Val->aa->R α
 | .int i,y,st=>lX f i y st
 |_,_,_=> .stuck
def Bf (i:Str):Val->aa->R Val
 | .str j,st=>iff (0#i+0#j<=100000) (.ok (.str (i++j)) st)
 |_,_=> .stuck
def BR (xs:2#Val):Val->aa->R Val
 | .tup _ ys,st=>iff (xs≠[]/\ys≠[]/\0#xs+0#ys<=10000) (.ok (.tup false (xs++ys)) st)
 |_,_=> .stuck
def KP (xs:2#Val):Val->aa->R Val
 | .lst ys,st=>iff (0#xs+0#ys<=10000) (new 7#(xs++ys) st)
 |_,_=> .stuck
def lQ:Val->Val->aa->R Val
 | .int i,y,st=>lX (λi j st=> .ok 6#(i+j) st) i y st
 | .str i,y,st=>Bf i y st
 | .tup _ xs,y,st=>BR xs y st
 | .lst xs,y,st=>KP xs y st
 |_,_,_=> .stuck
def lJ (i j:Int) (st:aa):R Val:=iff (xj i j) (.ok 6#(i*j) st)
def tf (i j:Int) (st:aa):R Val:=iff (j≠0/\big j) (.ok 6#(i.fdiv j) st)
def sU (i j:Int) (st:aa):R Val:=iff (j≠0) (.ok 6#(i.fmod j) st)
def xh (i j:Int) (st:aa):R Val:=iff (0<=j/\j<=1000/\i.natAbs<2^64) (.ok 6#(i^j.toNat) st)
noncomputable def iy (z:Str) (n:Nat):Str:=⟨(List.replicate n z.cps.toList).flatten.toArray⟩
def wq:Val->Val->aa->R Val
 | .str z, 6#k,st=>iff (0<=k/\k<=1000/\0#z<=1000) (.ok (.str (iy z k.toNat)) st)
 | .int i,y,st=>lX lJ i y st
 |_,_,_=> .stuck
def eY:Operator->Val->Val->aa->R Val
 | .Add,x,y,st=>lQ x y st
 | .Sub,x,y,st=>bY (λi j st=> .ok 6#(i-j) st) x y st
 | .Mult,x,y,st=>wq x y st
 | .FloorDiv,x,y,st=>bY tf x y st
 | .Mod,x,y,st=>bY sU x y st
 | .Pow,x,y,st=>bY xh x y st
 |_,_,_,_=> .stuck
noncomputable def jb:Val->Bool
 | .non=>true
 | .bl _=>false
 | .int _=>false
 | .str _=>false
 | .tup _ _=>false
 | .lst _=>false
 | .dct _ _=>false
 | .obj _ _ _=>false
 | .ref _=>false
noncomputable def isB (neg b:Bool):Val->aa->R Bool
 | .bl a,st=> .ok (if neg=true then !(a==b) else a==b) st
 |_,_=> .stuck
def Cm (neg:Bool) (x:Val):Val->aa->R Bool
 | .non,st=> .ok (if neg=true then !jb x else jb x) st
 | .bl b,st=>isB neg b x st
 |_,_=> .stuck
def vW (neg:Bool) (x:Val):Val->aa->R Bool
 | .tup _ ys,st=>R.aj ((cZ x ys).map λb=>if neg=true then !b else b) st
 | .lst ys,st=>R.aj ((cZ x ys).map λb=>if neg=true then !b else b) st
 | .dct ks vs,st=>iff (bX x=true) (R.aj ((getD x ks vs).map λo=>if neg=true then o.isNone else o.isSome) st)
 |_,_=> .stuck
def bC:CmpOp->Val->Val->aa->R Bool
 | .Eq,x,y,st=>R.aj (eqv 8 x y) st
 | .NotEq,x,y,st=>R.aj ((eqv 8 x y).map λb=> !b) st
 | .Lt,x,y,st=>bY (λi j st=> .ok (decide (i<j)) st) x y st
 | .LtE,x,y,st=>bY (λi j st=> .ok (decide (i<=j)) st) x y st
 | .Gt,x,y,st=>bY (λi j st=> .ok (decide (j<i)) st) x y st
 | .GtE,x,y,st=>bY (λi j st=> .ok (decide (j<=i)) st) x y st
 | .Is,x,y,st=>Cm false x y st
 | .IsNot,x,y,st=>Cm true x y st
 | .In,x,y,st=>vW false x y st
 | .NotIn,x,y,st=>vW true x y st
def dB (r:R Bool):R Val:=r.bind λb st=> .ok (.bl b) st
def dY:Val->Val->aa->R Val
 | .tup _ xs, 6#k,st=>R.aj (g9 xs k) st
 | .lst xs, 6#k,st=>R.aj (g9 xs k) st
 | .str x, 6#k,st=>iff (0#x<=1000) (R.aj (((gJ 0#x k).bind λj=>x.cps.toList[j]?).map λc=> .str ⟨#[c]⟩) st)
 | .dct ks vs,k,st=>iff (bX k=true) (R.aj ((getD k ks vs).bind id) st)
 |_,_,_=> .stuck
def sO:Val->5#Int->5#Int->aa->R Val
 | .tup _ xs,lo,hi,st=>iff (¬(bu 0#xs 0 lo=0/\bu 0#xs 0#xs hi=0#xs)) (.ok (.tup false (cut xs lo hi)) st)
 | .lst xs,lo,hi,st=>new 7#(cut xs lo hi) st
 | .str x,lo,hi,st=>iff (0#x<=1000) (.ok (.str ⟨(cut x.cps.toList lo hi).toArray⟩) st)
 |_,_,_,_=> .stuck
noncomputable def allB:2#Val->5#Bool
 |[]=>1#true
 | .bl b::r=>(allB r).map λc=>b&&c
 |_=>none
noncomputable def anyB:2#Val->5#Bool
 |[]=>1#false
 | .bl b::r=>(anyB r).map λc=>b||c
 |_=>none
noncomputable def gF:Int->2#Val->5#Int
 |a,[]=>1#a
 |a, 6#i::r=>gF (a+i) r
 |_,_=>none
noncomputable def bF (n:String):Val->5#Bool
 | .non=>1#false
 | .bl _=>1#(n=="bool"||n=="int")
 | .int _=>1#(n=="int")
 | .str _=>1#(n=="str")
 | .tup _ _=>1#(n=="tuple")
 | .lst _=>1#(n=="list")
 | .dct _ _=>1#(n=="dict")
 | .obj _ _ _=>none
 | .ref _=>none
noncomputable def gZ:2#Val->5#2#Int
 |[]=>some []
 | .int i::r=>(gZ r).map λr=>i::r
 |_=>none
def jP:Bi->Val->aa->R Val
 | .len,x,st=>R.aj ((iC x).map .int) st
 | .tuple, .tup f xs,st=> .ok (.tup f xs) st
 | .tuple, 7#xs,st=> .ok (.tup true xs) st
 | .list, .tup _ xs,st=>new 7#xs st
 | .list, 7#xs,st=>new 7#xs st
 | .abs, 6#i,st=> .ok 6#i.natAbs st
 | .all, 7#xs,st=>R.aj ((allB xs).map .bl) st
 | .any, 7#xs,st=>R.aj ((anyB xs).map .bl) st
 | .sum, 7#xs,st=>R.aj ((gF 0 xs).map .int) st
 | .max, 7#xs,st=>R.aj ((gZ xs).bind λl=>l.max?.map .int) st
 | .min, 7#xs,st=>R.aj ((gZ xs).bind λl=>l.min?.map .int) st
 | .minD, 7#xs,st=>R.aj ((gZ xs).map λl=>(l.min?.map .int).getD .non) st
 | .int, .bl b,st=> .ok 6#(if b=true then 1 else 0) st
 | .int, 6#i,st=> .ok 6#i st
 | .bF n,x,st=>R.aj ((bF n x).map .bl) st
 |_,_,_=> .stuck
noncomputable def Hv:Bi->Val->Val->aa->R Val
 | .max, 6#i, 6#j,st=> .ok 6#(if j>i then j else i) st
 | .min, 6#i, 6#j,st=> .ok 6#(if j<i then j else i) st
 |_,_,_,_=> .stuck
noncomputable def Ia:Bi->Val->Val->Val->aa->R Val
 | .max, 6#i, 6#j, 6#k,st=> .ok 6#(max i (max j k)) st
 |_,_,_,_,_=> .stuck
def uA (b:Bi):2#Val->aa->R Val
 |[x],st=>jP b x st
 |[x,y],st=>Hv b x y st
 |[x,y,z],st=>Ia b x y z st
 |_,_=> .stuck
def lmV:Bm->Nat->2#Val->2#Val->aa->R Val
 | .append,k,ys,[x],st=>iff (0#ys<10000) (.ok .non (st.set k 7#(ys++[x])))
 | .insert,k,ys,[6#i,x],st=>iff (0<=i/\i<=0#ys/\0#ys<=1000) (.ok .non (st.set k 7#(ys.take i.toNat++[x]++ys.drop i.toNat)))
 | .clear,k,_,[],st=> .ok .non (st.set k (.lst []))
 | .reverse,k,ys,[],st=> .ok .non (st.set k 7#ys.reverse)
 | .pop,k,ys,[],st=>(R.aj ys.getLast? st).bind λy st=> .ok y (st.set k 7#ys.dropLast)
 |_,_,_,_,_=> .stuck
def CO (k:Nat) (ys:2#Val) (st:aa):5#Ob->R Val
 |some 7#zs=>iff (0#ys+0#zs<=10000) (.ok .non (st.set k 7#(ys++zs)))
 |_=> .stuck
def pN (m:Bm) (k:Nat) (xs:2#Val) (st:aa):5#Ob->R Val
 |some 7#ys=>match m,xs with
  | .extend,[3#j]=>CO k ys st st[j]?
  |m,xs=>lmV m k ys xs st
 |_=> .stuck
def sj:Val->2#Val->aa->R Val
 | .dct ks vs,[k],st=>iff (bX k=true) (R.aj ((getD k ks vs).map λo=>o.getD .non) st)
 | .dct ks vs,[k,d],st=>iff (bX k=true) (R.aj ((getD k ks vs).map λo=>o.getD d) st)
 |_,_,_=> .stuck
def k9:Bm->Val->2#Val->aa->R Val
 | .get,o,xs,st=>sj (res st o) xs st
 |m, 3#k,xs,st=>pN m k xs st st[k]?
 |_,_,_,_=> .stuck
mutual
noncomputable def T.put (v:Val) (env:Env):T->5#Env
 | .var i=>if i<0#env then 1#(env.set i 1#v) else none
 | .tup ts=>match v with
  | .tup _ xs=>bL xs env ts
  |_=>none
noncomputable def bL (vs:2#Val) (env:Env):2#T->5#Env
 |[]=>match vs with
  |[]=>1#env
  |_=>none
 |t::ts=>match vs with
  |v::vs=>(t.put v env).bind λenv=>bL vs env ts
  |[]=>none
end
mutual
noncomputable def T.low (n:Nat):T->Bool
 | .var i=>decide (i<n)
 | .tup ts=>lows n ts
noncomputable def lows (n:Nat):2#T->Bool
 |[]=>true
 |t::ts=>t.low n&&lows n ts
end
noncomputable def cg:2#Int->2#Int->Bool
 |[],[]=>false
 |[],_::_=>true
 |_::_,[]=>false
 |a::r,b::t=>if a=b then cg r t else decide (a<b)
noncomputable def cO {α:Type} (k:2#Int) (y:α):2#(2#Int×α)->2#(2#Int×α)
 |[]=>[(k,y)]
 |z::r=>if cg k z.1=true then (k,y)::z::r else z::cO k y r
noncomputable def bt {α:Type}:2#(2#Int×α)->2#(2#Int×α)
 |[]=>[]
 |z::r=>cO z.1 z.2 (bt r)
def FT:Val->5#2#Int
 | .tup false xs=>gZ xs
 |_=>none
noncomputable def dW:2#Val->5#2#2#Int
 |[]=>some []
 |v::r=>(FT v).bind λk=>(dW r).map λr=>k::r
def Kept (chk:2#(Nat×Ob)) (st:aa):Prop:=∀p∈chk,st[p.1]?=1#p.2
end
noncomputable section
def fM (P:Pg) (c:Nat):Bool:=(((P.cl c)).map (·.chg)).getD false
def tY (P:Pg) (n:Nat) (k:Nat) (st':aa):5#Ob->R Val
 |some 7#xs=>(R.aj (aV st' n k xs) st').bind λys st'=> .ok 3#n (st'.take n++[7#ys])
 |some (.dct ks vs)=>(R.aj (aV st' n k vs) st').bind λvs st'=> .ok 3#n (st'.take n++[.dct ks vs])
 |some (.ins c ns vs)=>if fM P c=true then .ok 3#k st' else (R.aj (aV st' n 0#st' vs) st').bind λvs st'=> .ok (.obj c ns vs) (st'.take n)
 |none=> .stuck
noncomputable def isRef:Val->5#Nat
 | .ref k=>1#k
 | .non=>none
 | .bl _=>none
 | .int _=>none
 | .str _=>none
 | .tup _ _=>none
 | .lst _=>none
 | .dct _ _=>none
 | .obj _ _ _=>none
def Ap (P:Pg) (n:Nat) (v:Val) (st':aa):5#Nat->R Val
 |some k=>if k<n then .ok v (st'.take n) else tY P n k st' st'[k]?
 |none=>(R.aj (v.aG st' n 0#st') st').bind λv st'=> .ok v (st'.take n)
open Classical in
def fin (P:Pg) (st:aa) (v:Val) (st':aa):R Val:=if Old st st' then Ap P 0#st v st' (isRef v) else .ok v st'
open Classical in
def Aj (st:aa) (x:Exn) (st':aa):R Val:=
 if Old st st' then (R.aj (aV st' 0#st 0#st' x.vs) st').bind λvs st'=> .exc {x with vs:=vs} (st'.take 0#st) else .exc x st'
open Classical in
def uI (st:aa) (v:Val) (st':aa):R Val:=
 if Old st st' then (R.aj (v.aG st' 0#st 0#st') st').bind λv st'=> .ok v (st'.take 0#st) else .ok v st'
inductive F where
 |next (env:Env) (st:aa)|ret (v:Val) (st:aa)|brk (env:Env) (st:aa)|cont (env:Env) (st:aa)|exc (x:Exn) (env:Env) (st:aa)|stuck
noncomputable def F.bind:F->(Env->aa->F)->F
 | .next env st,k=>k env st
 | .ret v st,_=> .ret v st
 | .brk env st,_=> .brk env st
 | .cont env st,_=> .cont env st
 | .exc x env st,_=> .exc x env st
 | .stuck,_=> .stuck
noncomputable def F.of {α:Type} (env:Env):R α->(α->aa->F)->F
 | .ok a st,k=>k a st
 | .exc x st,_=> .exc x env st
 | .stuck,_=> .stuck
noncomputable def F.aj (st:aa):5#Env->F
 |some env=> .next env st
 |none=> .stuck
abbrev ax:=Nat->2#Val->aa->R Val
noncomputable def iO (k:Nat):5#Ob->5#(2#Val×2#(Nat×Ob))
 |some 7#xs=>1#(xs,[(k, 7#xs)])
 |some (.dct _ _)=>none
 |some (.ins _ _ _)=>none
 |none=>none
def itemsOf (st:aa):Val->5#(2#Val×2#(Nat×Ob))
 | .tup _ xs=>1#(xs,[])
 | .lst xs=>1#(xs,[])
 | .dct _ _=>none
 | .ref k=>iO k st[k]?
 | .non=>none
 | .bl _=>none
 | .int _=>none
 | .str _=>none
 | .obj _ _ _=>none
def gG (st:aa):Val->5#(2#Val×2#(Nat×Ob))
 | .tup _ xs=>1#(xs,[])
 | .lst xs=>1#(xs,[])
 | .dct ks _=>1#(ks.map iW,[])
 | .ref k=>iO k st[k]?
 | .non=>none
 | .bl _=>none
 | .int _=>none
 | .str _=>none
 | .obj _ _ _=>none
def newD (xs:2#Val) (st:aa):R Val:=iff (0#xs<=1000) ((R.aj (pairD xs [] []) st).bind λp st=>new (.dct p.1 p.2) st)
def wz (st:aa):5#Ob->R Val
 |some 7#xs=>newD xs st
 |_=> .stuck
def rX (st:aa):Val->R Val
 | .tup true xs=>newD xs st
 | .ref k=>wz st st[k]?
 |_=> .stuck
noncomputable def qm:Val->Bool
 | .lst _=>true
 |_=>false
noncomputable def gP:2#Val->2#Val->2#Val
 |x::xs,y::ys=> .tup false [x,y]::gP xs ys
 |_,_=>[]
noncomputable def fO:Int->2#Val->2#Val
 |i,x::xs=> .tup false [6#i,x]::fO (i+1) xs
 |_,[]=>[]
noncomputable def aW (lo:Int):Nat->2#Val
 |0=>[]
 |n+1=> 6#lo::aW (lo+1) n
def wC:Val->aa->R (2#Val×2#(Nat×Ob))
 | .int n,st=>iff (-(2^60)<n/\n<2^24) (.ok (aW 0 n.toNat,[]) st)
 |_,_=> .stuck
def xp (a:Int):Val->aa->R (2#Val×2#(Nat×Ob))
 | .int b,st=>iff (b-a<2^24/\ -(2^60)<a/\a<2^60/\ -(2^60)<b) (.ok (aW a (b-a).toNat,[]) st)
 |_,_=> .stuck
def wb:Val->Val->aa->R (2#Val×2#(Nat×Ob))
 | .int a,y,st=>xp a y st
 |_,_,_=> .stuck
noncomputable def fA:5#Val->2#Val->2#Val
 |some x,r=>x::r
 |none,r=>r
open Classical in
noncomputable def ay (f:Val->aa->R 5#Val) (chk:2#(Nat×Ob)):2#Val->aa->R 2#Val
 |[],st=>iff (Kept chk st) (.ok [] st)
 |v::vs,st=>iff (Kept chk st) ((f v st).bind λo st=>(ay f chk vs st).bind λr st=> .ok (fA o r) st)
noncomputable def av (nw:Nat) (caps:2#Nat) (env:Env):Env:=List.replicate nw none++caps.map λi=>(env[i]?).bind id
noncomputable def hR:Val->aa->R Bool
 | .bl b,st=> .ok b st
 |_,_=> .stuck
noncomputable def bT:Bm->Bool
 | .get=>true
 | .keys=>true
 | .values=>true
 |_=>false
def yh (m:Bm):Val->Bool
 | .lst _=> !bT m
 | .dct _ _=>bT m
 |_=>false
noncomputable def KI:Val->aa->R Val
 | .int i,st=> .ok 6#(-i) st
 |_,_=> .stuck
noncomputable def jT:5#Val->aa->R 5#Int
 |none,st=> .ok none st
 |some 6#i,st=> .ok 1#i st
 |_,_=> .stuck
def eL (P:Pg) (c:Nat) (f:Str):Bool:=(((P.cl c)).map λk=>k.flds.contains f).getD false
def gC (P:Pg) (f:Str):Val->aa->R Val
 | .obj c ns vs,st=>iff (eL P c f=true) (R.aj (dz ns vs f) st)
 |_,_=> .stuck
def Mu (P:Pg) (c:Nat):Val->aa->R Val
 | .obj k _ _,st=>R.aj (((P.cl k)).map λk=> .bl (k.sup.contains c)) st
 | .non,_=> .stuck
 | .bl _,_=> .stuck
 | .int _,_=> .stuck
 | .str _,_=> .stuck
 | .tup _ _,_=> .stuck
 | .lst _,_=> .stuck
 | .dct _ _,_=> .stuck
 | .ref _,_=> .stuck
def Lm (P:Pg) (cs:2#Nat):Val->aa->R Val
 | .obj k _ _,st=>R.aj (((P.cl k)).bind λk=>if k.exc=true then 1#(.bl (cs.any λc=>k.sup.contains c)) else none) st
 |_,_=> .stuck
noncomputable def sS {α:Type}:Val->R α->R α
 | .non,r=>r
 |_,_=> .stuck
def gf (P:Pg) (cl:ax) (c:Nat) (xs:2#Val) (st:aa):5#5#Nat->R Val
 |some 1#f=>(cl f (3#0#st::xs) (st++[.ins c [] []])).bind λv st'=>sS v (fin P st 3#0#st st')
 |some none=>if xs.isEmpty then fin P st 3#0#st (st++[.ins c [] []]) else .stuck
 |none=> .stuck
def fG (P:Pg) (m:Str):Val->5#Nat
 | .obj c ns _=>if ns.contains m=true then none else (P.cl c).bind λk=>k.meths.lookup m
 |_=>none
noncomputable def kf {α:Type}:Bool->R α->R α->R α
 |true,a,_=>a
 |false,_,b=>b
def aI (o:5#Env) (c:Env->aa->R Bool) (e:Env->aa->R Val) (st:aa):R 5#Val:=(R.aj o st).bind λenv st=>
 (c env st).bind λb st=>kf b ((e env st).bind λx st=> .ok 1#x st) (.ok none st)
def Bc:5#(2#Val×2#(Nat×Ob))->5#(2#Val×2#(Nat×Ob))->aa->R (2#Val×2#(Nat×Ob))
 |some (xs,c),1#(ys,d),st=>iff (0#ys<=0#xs) (.ok (gP xs ys,c++d) st)
 |_,_,_=> .stuck
noncomputable def noX:R Val->R Val
 | .ok a st=> .ok a st
 | .exc _ _=> .stuck
 | .stuck=> .stuck
noncomputable def ft (cl:ax) (f:Nat) (st:aa):2#Val->2#Val->R 2#Val
 |[],dn=> .ok dn (st++[7#dn])
 |y::ys,dn=>(noX (cl f [y] (st++[7#dn]))).bind λv st'=>iff (st'=st++[7#dn]) (ft cl f st ys (dn++[v]))
def iZ (ys:2#Val) (ks:2#2#Int) (st:aa):R Val:=iff (0#ys<64/\ks.Nodup/\∃m,0<m/\∀k∈ks,0#k=m) (new 7#((bt (ks.zip ys)).map λz=>z.2) (st++[.lst []]))
def qh (cl:ax) (f:Nat) (st:aa):Val->R Val
 | .lst ys=>iff (0#ys<64) ((ft cl f st ys []).bind λks _=>(R.aj (dW ks) st).bind λks st=>iZ ys ks st)
 |_=> .stuck
mutual
noncomputable def E.run (P:Pg) (cl:ax):E->Env->aa->R Val
 | .const v,_,st=> .ok v st
 | .var i,env,st=>R.aj ((env[i]?).bind id) st
 | .bin op a b,env,st=>(a.run P cl env st).bind λx st=>(b.run P cl env st).bind λy st=>eY op (res st x) (res st y) st
 | .neg a,env,st=>(a.run P cl env st).bind λx st=>KI x st
 | .cmp op a b,env,st=>(a.run P cl env st).bind λx st=>(b.run P cl env st).bind λy st=>dB (bC op (res st x) (res st y) st)
 | .cmp2 op op' a b c,env,st=>(a.run P cl env st).bind λx st=>(b.run P cl env st).bind λy st=>(bC op (res st x) (res st y) st).bind λz st=>kf z ((c.run P cl env st).bind λw st=>dB (bC op' (res st y) (res st w) st)) (.ok (.bl false) st)
 | .and a b,env,st=>(a.run P cl env st).bind λx st=>(hR x st).bind λt st=>kf t (b.run P cl env st) (.ok (.bl false) st)
 | .or a b,env,st=>(a.run P cl env st).bind λx st=>(hR x st).bind λt st=>kf t (.ok (.bl true) st) (b.run P cl env st)
 | .not a,env,st=>(a.run P cl env st).bind λx st=>(hR x st).bind λt st=> .ok (.bl !t) st
 | .ite c a b,env,st=>(c.run P cl env st).bind λx st=>(R.aj (truth (res st x)) st).bind λt st=>kf t (a.run P cl env st) (b.run P cl env st)
 | .tup es,env,st=>(aS P cl es env st).bind λxs st=>iff (0#xs<=1000) (.ok (.tup false xs) st)
 | .lst es,env,st=>(aS P cl es env st).bind λxs st=>iff (0#xs<=1000) (new 7#xs st)
 | .dct [] [],_,st=>new (.dct [] []) st
 | .dct _ _,_,_=> .stuck
 | .fld o f,env,st=>(o.run P cl env st).bind λx st=>gC P f (res st x) st
 | .idx o i,env,st=>(o.run P cl env st).bind λx st=>(i.run P cl env st).bind λy st=>dY (res st x) y st
 | .slc o lo hi,env,st=>(o.run P cl env st).bind λx st=>((jv P cl lo env st).bind λa st=>jT a st).bind λa st=>((jv P cl hi env st).bind λb st=>jT b st).bind λb st=>sO (res st x) a b st
 | .call f es,env,st=>(aS P cl es env st).bind λxs st=>cl f xs st
 | .make c es,env,st=>(aS P cl es env st).bind λxs st=>gf P cl c xs st (((P.cl c)).map (·.init))
 | .meth o m es,env,st=>(o.run P cl env st).bind λx st=>(R.aj (fG P m (res st x)) st).bind λf st=>(aS P cl es env st).bind λxs st=>cl f (x::xs) st
 | .bi b es,env,st=>(aS P cl es env st).bind λxs st=>uA b (xs.map (res st)) st
 | .bm m o es,env,st=>(o.run P cl env st).bind λx st=>iff (yh m (res st x)=true) ((aS P cl es env st).bind λxs st=>k9 m x xs st)
 | .isI e c,env,st=>(e.run P cl env st).bind λx st=>Mu P c (res st x) st
 | .isM e cs,env,st=>(e.run P cl env st).bind λx st=>Lm P cs (res st x) st
 | .comp nw caps t q c e,env,st=>(q.run P cl env st).bind λit st=>iff (t.low nw=true/\0#it.1<=10000) ((ay (λv st=>aI (t.put v (av nw caps env)) (runC P cl c) (e.run P cl) st) it.2 it.1 st).bind λxs st=>new 7#xs st)
 | .sortK q f,env,st=>(q.run P cl env st).bind λx st=>qh cl f st (res st x)
 | .dOf e,env,st=>(e.run P cl env st).bind λx st=>rX st x
 | .fz e,env,st=>(e.run P cl env st).bind λv st'=>uI st v st'
noncomputable def aS (P:Pg) (cl:ax):2#E->Env->aa->R 2#Val
 |[],_,st=> .ok [] st
 |e::es,env,st=>(e.run P cl env st).bind λx st=>(aS P cl es env st).bind λxs st=> .ok (x::xs) st
noncomputable def jv (P:Pg) (cl:ax):5#E->Env->aa->R 5#Val
 |none,_,st=> .ok none st
 |some e,env,st=>(e.run P cl env st).bind λx st=> .ok 1#x st
noncomputable def runC (P:Pg) (cl:ax):5#E->Env->aa->R Bool
 |none,_,st=> .ok true st
 |some e,env,st=>(e.run P cl env st).bind λx st=>R.aj (truth (res st x)) st
noncomputable def Q.run (P:Pg) (cl:ax):Q->Env->aa->R (2#Val×2#(Nat×Ob))
 | .val e,env,st=>(e.run P cl env st).bind λx st=>R.aj (gG st x) st
 | .rng1 a,env,st=>(a.run P cl env st).bind λx st=>wC x st
 | .rng2 a b,env,st=>(a.run P cl env st).bind λx st=>(b.run P cl env st).bind λy st=>wb x y st
 | .zip a b,env,st=>(a.run P cl env st).bind λx st=>(b.run P cl env st).bind λy st=>Bc (itemsOf st x) (itemsOf st y) st
 | .enm a,env,st=>(a.run P cl env st).bind λx st=>iff (qm (res st x)=true) ((R.aj (itemsOf st x) st).bind λp st=> .ok (fO 0 p.1,p.2) st)
 | .items _,_,_=> .stuck
 | .rev _,_,_=> .stuck
end
noncomputable def F.turn:F->(Env->aa->F)->F
 | .next env st,k=>k env st
 | .cont env st,k=>k env st
 | .brk env st,_=> .next env st
 | .ret v st,_=> .ret v st
 | .exc x env st,_=> .exc x env st
 | .stuck,_=> .stuck
noncomputable def iB (c:Prop) (r:F):F:= @ite _ c (Classical.propDecidable c) r .stuck
theorem dU {c:Prop} {r:F} (h:c):iB c r=r:=if_pos h
open Classical in
noncomputable def forL (t:T) (body:Env->aa->F) (chk:2#(Nat×Ob)):2#Val->Env->aa->F
 |[],env,st=>iB (Kept chk st) (.next env st)
 |v::vs,env,st=>iB (Kept chk st) ((F.aj st (t.put v env)).bind λenv st=>(body env st).turn λenv st=>forL t body chk vs env st)
noncomputable def vo:Bool->F->F->F
 |true,a,_=>a
 |false,_,b=>b
noncomputable def lA (test:Env->aa->R Bool) (body:Env->aa->F):Nat->Env->aa->F
 |0,_,_=> .stuck
 |n+1,env,st=>F.of env (test env st) λb st=>vo b ((body env st).turn λenv st=>lA test body n env st) (.next env st)
def qj (P:Pg) (k:Nat) (f:Str) (x:Val) (st:aa):5#Ob->R Unit
 |some (.ins c ns vs)=>iff (eL P c f=true/\0#ns<100) (.ok () (st.set k (.ins c (aT ns vs f x).1 (aT ns vs f x).2)))
 |_=> .stuck
def dF (P:Pg) (f:Str) (x:Val):Val->aa->R Unit
 | .ref k,st=>qj P k f x st st[k]?
 |_,_=> .stuck
def ng (k:Nat) (x:Val) (st:aa):5#Ob->Val->R Unit
 |some 7#xs, 6#j=>(R.aj (gJ 0#xs j) st).bind λj st=> .ok () (st.set k 7#(xs.set j x))
 |some (.dct ks vs),i=>iff (bX i=true/\0#ks<10000) ((R.aj (putD i x ks vs) st).bind λr st=> .ok () (st.set k (.dct r.1 r.2)))
 |_,_=> .stuck
def fQ (i x:Val):Val->aa->R Unit
 | .ref k,st=>ng k x st st[k]? i
 |_,_=> .stuck
def Ni (P:Pg) (c k:Nat):Bool:=(((P.cl k)).map λk=>k.sup.contains c).getD false
noncomputable def unset (x:5#Nat) (env:Env):Env:=match x with
 |some i=>env.set i none
 |none=>env
def F.unset (x:5#Nat):F->F
 | .next env st=> .next (PI.unset x env) st
 | .brk env st=> .brk (PI.unset x env) st
 | .cont env st=> .cont (PI.unset x env) st
 | .exc _ _ _=> .stuck
 | .ret v st=> .ret v st
 | .stuck=> .stuck
def Nb (x:5#Nat) (y:Exn) (env:Env):Env:=match x with
 |some i=>env.set i 1#(.obj y.c y.ns y.vs)
 |none=>env
def F.Jl (P:Pg) (c:Nat) (x:5#Nat) (h:Env->aa->F):F->F
 | .exc y env st=>vo (Ni P c y.c) ((h (Nb x y env) st).unset x) .stuck
 | .next env st=> .next env st
 | .brk env st=> .brk env st
 | .cont env st=> .cont env st
 | .ret v st=> .ret v st
 | .stuck=> .stuck
noncomputable def EM (env:Env) (st:aa):Val->F
 | .obj c ns vs=> .exc ⟨c,ns,vs⟩ env st
 |_=> .stuck
def Ha (P:Pg) (cl:ax) (c:Nat) (xs:2#Val) (env:Env) (st:aa):5#5#Nat->F
 |some 1#f=>F.of env ((cl f (3#0#st::xs) (st++[.ins c [] []])).bind λ_ st'=>fin P st 3#0#st st') λv st=>EM env st v
 |some none=> .exc ⟨c,[],[]⟩ env st
 |none=> .stuck
mutual
noncomputable def S.run (P:Pg) (cl:ax):S->Env->aa->F
 | .set t e,env,st=>F.of env (e.run P cl env st) λx st=>F.aj st (t.put x env)
 | .fQ o i e,env,st=>F.of env ((e.run P cl env st).bind λx st=>(o.run P cl env st).bind λy st=>(i.run P cl env st).bind λz st=>fQ z x y st) λ_ st=> .next env st
 | .dF o f e,env,st=>F.of env ((e.run P cl env st).bind λx st=>(o.run P cl env st).bind λy st=>dF P f x y st) λ_ st=> .next env st
 | .aug i op e,env,st=>F.of env ((R.aj ((env[i]?).bind id) st).bind λx st=>(e.run P cl env st).bind λy st=>eY op x (res st y) st) λx st=> .next (env.set i 1#x) st
 | .augI _ _ _ _,_,_=> .stuck
 | .augF _ _ _ _,_,_=> .stuck
 | .expr e,env,st=>F.of env (e.run P cl env st) λ_ st=> .next env st
 | .ret e,env,st=>F.of env (e.run P cl env st) λx st=> .ret x st
 | .retN,_,st=> .ret .non st
 | .pass,env,st=> .next env st
 | .brk,env,st=> .brk env st
 | .cont,env,st=> .cont env st
 | .ife c a b,env,st=>F.of env (runC P cl 1#c env st) λt st=>vo t (aE P cl a env st) (aE P cl b env st)
 | .whl c b,env,st=>lA (λenv st=>runC P cl 1#c env st) (λenv st=>aE P cl b env st) P.w env st
 | .for t q b,env,st=>F.of env (q.run P cl env st) λit st=>forL t (λenv st=>aE P cl b env st) it.2 it.1 env st
 | .raise c es,env,st=>F.of env (aS P cl es env st) λxs st=>Ha P cl c xs env st (((P.cl c)).map (·.init))
 | .try_ b c x h,env,st=>(aE P cl b env st).Jl P c x λenv st=>aE P cl h env st
noncomputable def aE (P:Pg) (cl:ax):2#S->Env->aa->F
 |[],env,st=> .next env st
 |s::ss,env,st=>(s.run P cl env st).bind λenv st=>aE P cl ss env st
end
def F.fin (P:Pg) (st:aa):F->R Val
 | .next _ st'=>PI.fin P st .non st'
 | .ret v st'=>PI.fin P st v st'
 | .exc x _ st'=>Aj st x st'
 | .brk _ _=> .stuck
 | .cont _ _=> .stuck
 | .stuck=> .stuck
def Ct (P:Pg) (cl:ax) (xs:2#Val) (st:aa):5#Fn->R Val
 |some d=>iff (0#xs=d.np) ((aE P cl d.body (xs.map some++List.replicate (d.ns-d.np) none) st).fin P st)
 |none=> .stuck
noncomputable def call (P:Pg):Nat->ax
 |0,_,_,_=> .stuck
 |n+1,f,xs,st=>Ct P (call P n) xs st (P.fn f)
end
theorem Bl (st:aa):Old st st:=⟨aah _,λ_ _ _ h=> .inl h⟩
theorem eF (st g:aa):Old st (st++g):=⟨by simp,λi o h e=> .inl (by rwa[aao h] at e)⟩
theorem uG (st g:aa) (k:Nat) (o:Ob) (h:o.bd 0#st=true):Old st (st.set k o++g):=⟨by simp,λi u hi e=>by
 rw[aao (by simpa using hi),List.getElem?_set] at e;split at e
 ·split at e
  ·exact .inr (by cases e;exact h)
  ·cases e
 ·exact .inl e⟩
end PI
set_option autoImplicit true
set_option relaxedAutoImplicit true
namespace PI
open PySem
@[simp]theorem Np (k:Nat):j3 k 1#7#xs= 7#xs:=rfl
@[simp]theorem NI (k:Nat):j3 k 1#(.dct ks vs)= .dct ks vs:=rfl
@[simp]theorem Nn (k:Nat):j3 k 1#(.ins c ns vs)= .obj c ns vs:=rfl
@[simp]theorem N9 (k:Nat):j3 k none= 3#k:=rfl
@[simp]theorem O0 (st:aa):res st 3#k=j3 k st[k]?:=rfl
@[simp]theorem OV (st:aa):res st .non= .non:=rfl
@[simp]theorem O9 (st:aa):res st (.bl b)= .bl b:=rfl
@[simp]theorem Pp (st:aa):res st 6#i= 6#i:=rfl
@[simp]theorem Pd (st:aa):res st (.str x)= .str x:=rfl
@[simp]theorem OX (st:aa):res st (.tup f xs)= .tup f xs:=rfl
@[simp]theorem Pb (st:aa):res st 7#xs= 7#xs:=rfl
@[simp]theorem OU (st:aa):res st (.dct ks vs)= .dct ks vs:=rfl
@[simp]theorem Pu (st:aa):res st (.obj c ns vs)= .obj c ns vs:=rfl
@[simp]theorem Nz {α:Type} (f:Int->Int->aa->R α) (i:Int):lX f i 6#j st=f i j st:=rfl
@[simp]theorem Oz {α:Type} (f:Int->Int->aa->R α):bY f 6#i y st=lX f i y st:=rfl
@[simp]theorem Nr (i:Str):Bf i (.str j) st=iff (0#i+0#j<=100000) (.ok (.str (i++j)) st):=rfl
@[simp]theorem OQ (xs:2#Val):BR xs (.tup w1_ ys) st=iff (xs≠[]/\ys≠[]/\0#xs+0#ys<=10000) (.ok (.tup false (xs++ys)) st):=rfl
@[simp]theorem NL :lQ 6#i y st=lX (λi j st=> .ok 6#(i+j) st) i y st:=rfl
@[simp]theorem ND :lQ (.str i) y st=Bf i y st:=rfl
@[simp]theorem OE :lQ (.tup w1_ xs) y st=BR xs y st:=rfl
@[simp]theorem OG :wq (.str z) 6#k st=iff (0<=k/\k<=1000/\0#z<=1000) (.ok (.str (iy z k.toNat)) st):=rfl
@[simp]theorem OA :wq 6#i y st=lX lJ i y st:=rfl
@[simp]theorem N8 :eY .Add x y st=lQ x y st:=rfl
@[simp]theorem OJ :eY .Sub x y st=bY (λi j st=> .ok 6#(i-j) st) x y st:=rfl
@[simp]theorem NU :eY .Mult x y st=wq x y st:=rfl
@[simp]theorem OR :eY .FloorDiv x y st=bY tf x y st:=rfl
@[simp]theorem NV :eY .Mod x y st=bY sU x y st:=rfl
@[simp]theorem NT :eY .Pow x y st=bY xh x y st:=rfl
@[simp]theorem OY (neg:Bool) (x:Val):Cm neg x .non st= .ok (if neg=true then !jb x else jb x) st:=rfl
@[simp]theorem O3 (neg:Bool) (x:Val):vW neg x (.tup w1_ ys) st=R.aj ((cZ x ys).map λb=>if neg=true then !b else b) st:=rfl
@[simp]theorem OB :bC .Eq x y st=R.aj (eqv 8 x y) st:=rfl
@[simp]theorem Nw :bC .NotEq x y st=R.aj ((eqv 8 x y).map λb=> !b) st:=rfl
@[simp]theorem N5 :bC .Lt x y st=bY (λi j st=> .ok (decide (i<j)) st) x y st:=rfl
@[simp]theorem NO :bC .LtE x y st=bY (λi j st=> .ok (decide (i<=j)) st) x y st:=rfl
@[simp]theorem NK :bC .Gt x y st=bY (λi j st=> .ok (decide (j<i)) st) x y st:=rfl
@[simp]theorem ON :bC .GtE x y st=bY (λi j st=> .ok (decide (j<=i)) st) x y st:=rfl
@[simp]theorem Ol :bC .IsNot x y st=Cm true x y st:=rfl
@[simp]theorem NM :bC .In x y st=vW false x y st:=rfl
@[simp]theorem M6 :bC .NotIn x y st=vW true x y st:=rfl
@[simp]theorem MI :jb .non=true:=rfl
@[simp]theorem Mi :jb (.tup w1_ w2_)=false:=rfl
@[simp]theorem OL :dY (.tup w1_ xs) 6#k st=R.aj (g9 xs k) st:=rfl
@[simp]theorem nU :dY 7#xs 6#k st=R.aj (g9 xs k) st:=rfl
@[simp]theorem kh :dY (.str x) 6#k st=iff (0#x<=1000) (R.aj (((gJ 0#x k).bind λj=>x.cps.toList[j]?).map λc=> .str ⟨#[c]⟩) st):=rfl
@[simp]theorem Ot :sO (.tup w1_ xs) lo hi st=iff (¬(bu 0#xs 0 lo=0/\bu 0#xs 0#xs hi=0#xs)) (.ok (.tup false (cut xs lo hi)) st):=rfl
@[simp]theorem NX :sO 7#xs lo hi st=new 7#(cut xs lo hi) st:=rfl
@[simp]theorem Ox :sO (.str x) lo hi st=iff (0#x<=1000) (.ok (.str ⟨(cut x.cps.toList lo hi).toArray⟩) st):=rfl
@[simp]theorem MH :truth (.bl b)=1#b:=rfl
@[simp]theorem Om :iC (.tup w1_ xs)=1#0#xs:=rfl
@[simp]theorem Od :iC 7#xs=1#0#xs:=rfl
@[simp]theorem OS :iC (.dct ks w1_)=1#0#ks:=rfl
@[simp]theorem Pm :jP .len x st=R.aj ((iC x).map .int) st:=rfl
@[simp]theorem O7 :jP .tuple (.tup f xs) st= .ok (.tup f xs) st:=rfl
@[simp]theorem Pj :jP .tuple 7#xs st= .ok (.tup true xs) st:=rfl
@[simp]theorem OW :jP .list (.tup w1_ xs) st=new 7#xs st:=rfl
@[simp]theorem Po :jP .abs 6#i st= .ok 6#i.natAbs st:=rfl
@[simp]theorem O1 :jP .sum 7#xs st=R.aj ((gF 0 xs).map .int) st:=rfl
@[simp]theorem NC :jP .int (.bl b) st= .ok 6#(if b=true then 1 else 0) st:=rfl
@[simp]theorem NZ :jP (.bF n) x st=R.aj ((bF n x).map .bl) st:=rfl
@[simp]theorem Pa (b:Bi):uA b [x] st=jP b x st:=rfl
@[simp]theorem PC (k:Nat) (ys:2#Val) (st:aa):CO k ys st 1#7#zs=iff (0#ys+0#zs<=10000) (.ok .non (st.set k 7#(ys++zs))):=rfl
@[simp]theorem O8 :sj (.dct ks vs) [k] st=iff (bX k=true) (R.aj ((getD k ks vs).map λo=>o.getD .non) st):=rfl
@[simp]theorem tL :sj (.dct ks vs) [k,d] st=iff (bX k=true) (R.aj ((getD k ks vs).map λo=>o.getD d) st):=rfl
@[simp]theorem M4 :isRef 3#k=1#k:=by simp only[isRef]
@[simp]theorem L0 :isRef .non=none:=by simp only[isRef]
@[simp]theorem MG :isRef (.bl w1_)=none:=by simp only[isRef]
@[simp]theorem Mm :isRef (.str w1_)=none:=by simp only[isRef]
@[simp]theorem MS :isRef (.tup w1_ w2_)=none:=by simp only[isRef]
@[simp]theorem OK (P:Pg) (n:Nat) (k:Nat) (st':aa):tY P n k st' 1#7#xs=(R.aj (aV st' n k xs) st').bind λys st'=> .ok 3#n (st'.take n++[7#ys]):=rfl
@[simp]theorem NS (P:Pg) (n:Nat) (k:Nat) (st':aa):tY P n k st' 1#(.ins c ns vs)=if fM P c=true then .ok 3#k st' else (R.aj (aV st' n 0#st' vs) st').bind λvs st'=> .ok (.obj c ns vs) (st'.take n):=rfl
@[simp]theorem Oa (P:Pg) (n:Nat) (v:Val) (st':aa):Ap P n v st' 1#k=if k<n then .ok v (st'.take n) else tY P n k st' st'[k]?:=rfl
@[simp]theorem Km :F.bind (.next env st) k=k env st:=rfl
@[simp]theorem Kg :F.bind (.ret v st) w1_= .ret v st:=rfl
@[simp]theorem N6 {α:Type} (env:Env):F.of env (.ok a st) k=k a st:=rfl
@[simp]theorem Lr (st:aa):F.aj st 1#env= .next env st:=rfl
@[simp]theorem Pz (k:Nat):iO k 1#7#xs=1#(xs,[(k, 7#xs)]):=rfl
@[simp]theorem Jw (st:aa):itemsOf st (.tup w1_ xs)=1#(xs,[]):=rfl
@[simp]theorem Jc (st:aa):itemsOf st 3#k=iO k st[k]?:=rfl
@[simp]theorem KA (st:aa):gG st (.tup w1_ xs)=1#(xs,[]):=rfl
@[simp]theorem Kx (st:aa):gG st (.dct ks w1_)=1#(ks.map iW,[]):=rfl
@[simp]theorem Kr (st:aa):gG st 3#k=iO k st[k]?:=rfl
@[simp]theorem LJ :qm 7#w1_=true:=rfl
@[simp]theorem NF (st:aa):wz st 1#7#xs=newD xs st:=rfl
@[simp]theorem OM (st:aa):rX st (.tup true xs)=newD xs st:=rfl
@[simp]theorem Oy (st:aa):rX st 3#k=wz st st[k]?:=rfl
@[simp]theorem M9 :wb 6#a y st=xp a y st:=rfl
@[simp]theorem LB :fA 1#x r=x::r:=rfl
@[simp]theorem Mj :hR (.bl b) st= .ok b st:=rfl
@[simp]theorem Nq :jT none st= .ok none st:=rfl
@[simp]theorem Nu :jT 1#6#i st= .ok 1#i st:=rfl
@[simp]theorem N1 (P:Pg) (f:Str):gC P f (.obj c ns vs) st=iff (eL P c f=true) (R.aj (dz ns vs f) st):=rfl
@[simp]theorem NQ {α:Type}:sS .non r=r:=rfl
@[simp]theorem KO (P:Pg) (cl:ax) (c:Nat) (xs:2#Val) (st:aa):gf P cl c xs st 1#1#f=(cl f (3#0#st::xs) (st++[.ins c [] []])).bind λv st'=>sS v (fin P st 3#0#st st'):=rfl
@[simp]theorem Ls (P:Pg) (cl:ax) (c:Nat) (xs:2#Val) (st:aa):gf P cl c xs st 1#none=if xs.isEmpty then fin P st 3#0#st (st++[.ins c [] []]) else .stuck:=rfl
@[simp]theorem O5 {α:Type}:kf true a w1_=a:=rfl
@[simp]theorem Pe {α:Type}:kf false w1_ b=b:=rfl
@[simp]theorem NN :Bc 1#(xs,c) 1#(ys,d) st=iff (0#ys<=0#xs) (.ok (gP xs ys,c++d) st):=rfl
@[simp]theorem Kf :F.turn (.next env st) k=k env st:=rfl
@[simp]theorem LS (P:Pg) (k:Nat) (f:Str) (x:Val) (st:aa):qj P k f x st 1#(.ins c ns vs)=iff (eL P c f=true/\0#ns<100) (.ok () (st.set k (.ins c (aT ns vs f x).1 (aT ns vs f x).2))):=rfl
@[simp]theorem Oc (P:Pg) (f:Str) (x:Val):dF P f x 3#k st=qj P k f x st st[k]?:=rfl
@[simp]theorem K6 (k:Nat) (x:Val) (st:aa):ng k x st 1#7#xs 6#j=(R.aj (gJ 0#xs j) st).bind λj st=> .ok () (st.set k 7#(xs.set j x)):=rfl
@[simp]theorem MZ (k:Nat) (x:Val) (st:aa):ng k x st 1#(.dct ks vs) i=iff (bX i=true/\0#ks<10000) ((R.aj (putD i x ks vs) st).bind λr st=> .ok () (st.set k (.dct r.1 r.2))):=rfl
@[simp]theorem OF (i x:Val):fQ i x 3#k st=ng k x st st[k]? i:=rfl
@[simp]theorem Mn (P:Pg) (st:aa):F.fin P st (.next w1_ st')=PI.fin P st .non st':=rfl
@[simp]theorem LY (P:Pg) (st:aa):F.fin P st (.ret v st')=PI.fin P st v st':=rfl
@[simp]theorem NB :allB (.bl b::r)=(allB r).map λc=>b&&c:=rfl
@[simp]theorem Ow :anyB []=1#false:=rfl
@[simp]theorem Oj :anyB (.bl b::r)=(anyB r).map λc=>b||c:=rfl
@[simp]theorem N7 :gF a []=1#a:=rfl
@[simp]theorem Nm :gF a (6#i::r)=gF (a+i) r:=rfl
@[simp]theorem OC (n:String):bF n (.bl w1_)=1#(n=="bool"||n=="int"):=rfl
@[simp]theorem NJ (n:String):bF n 6#w1_=1#(n=="int"):=rfl
@[simp]theorem Oq (n:String):bF n (.str w1_)=1#(n=="str"):=rfl
@[simp]theorem OI (n:String):bF n (.tup w1_ w2_)=1#(n=="tuple"):=rfl
@[simp]theorem NY (n:String):bF n 7#w1_=1#(n=="list"):=rfl
@[simp]theorem Pq (m:Bm):yh m 7#w1_= !bT m:=rfl
@[simp]theorem Py (m:Bm):yh m (.dct w1_ w2_)=bT m:=rfl
@[simp]theorem Pf :noX (.ok a st)= .ok a st:=rfl
@[simp]theorem Mw (cl:ax) (f:Nat) (st:aa):qh cl f st 7#ys=iff (0#ys<64) ((ft cl f st ys []).bind λks _=>(R.aj (dW ks) st).bind λks st=>iZ ys ks st):=rfl
@[simp]theorem LH (P:Pg) (cl:ax):E.run P cl (.const v) w1_ st= .ok v st:=rfl
@[simp]theorem Ll (P:Pg) (cl:ax):E.run P cl 4#i env st=R.aj ((env[i]?).bind id) st:=rfl
@[simp]theorem KL (P:Pg) (cl:ax):E.run P cl (.bin op a b) env st=(a.run P cl env st).bind λx st=>(b.run P cl env st).bind λy st=>eY op (res st x) (res st y) st:=rfl
@[simp]theorem Ng (P:Pg) (cl:ax):E.run P cl (.cmp op a b) env st=(a.run P cl env st).bind λx st=>(b.run P cl env st).bind λy st=>dB (bC op (res st x) (res st y) st):=rfl
@[simp]theorem Mt (P:Pg) (cl:ax):E.run P cl (.and a b) env st=(a.run P cl env st).bind λx st=>(hR x st).bind λt st=>kf t (b.run P cl env st) (.ok (.bl false) st):=rfl
@[simp]theorem MJ (P:Pg) (cl:ax):E.run P cl (.or a b) env st=(a.run P cl env st).bind λx st=>(hR x st).bind λt st=>kf t (.ok (.bl true) st) (b.run P cl env st):=rfl
@[simp]theorem KN (P:Pg) (cl:ax):E.run P cl (.not a) env st=(a.run P cl env st).bind λx st=>(hR x st).bind λt st=> .ok (.bl !t) st:=rfl
@[simp]theorem Ku (P:Pg) (cl:ax):E.run P cl (.tup es) env st=(aS P cl es env st).bind λxs st=>iff (0#xs<=1000) (.ok (.tup false xs) st):=rfl
@[simp]theorem KC (P:Pg) (cl:ax):E.run P cl 7#es env st=(aS P cl es env st).bind λxs st=>iff (0#xs<=1000) (new 7#xs st):=rfl
@[simp]theorem Kn (P:Pg) (cl:ax):E.run P cl (.dct [] []) w1_ st=new (.dct [] []) st:=rfl
@[simp]theorem Kz (P:Pg) (cl:ax):E.run P cl (.fld o f) env st=(o.run P cl env st).bind λx st=>gC P f (res st x) st:=rfl
@[simp]theorem Kp (P:Pg) (cl:ax):E.run P cl (.idx o i) env st=(o.run P cl env st).bind λx st=>(i.run P cl env st).bind λy st=>dY (res st x) y st:=rfl
@[simp]theorem Ke (P:Pg) (cl:ax):E.run P cl (.slc o lo hi) env st=(o.run P cl env st).bind λx st=>((jv P cl lo env st).bind λa st=>jT a st).bind λa st=>((jv P cl hi env st).bind λb st=>jT b st).bind λb st=>sO (res st x) a b st:=rfl
@[simp]theorem Kh (P:Pg) (cl:ax):E.run P cl (.call f es) env st=(aS P cl es env st).bind λxs st=>cl f xs st:=rfl
@[simp]theorem Ki (P:Pg) (cl:ax):E.run P cl (.make c es) env st=(aS P cl es env st).bind λxs st=>gf P cl c xs st (((P.cl c)).map (·.init)):=rfl
@[simp]theorem KD (P:Pg) (cl:ax):E.run P cl (.meth o m es) env st=(o.run P cl env st).bind λx st=>(R.aj (fG P m (res st x)) st).bind λf st=>(aS P cl es env st).bind λxs st=>cl f (x::xs) st:=rfl
@[simp]theorem xS (P:Pg) (cl:ax):E.run P cl (.bi b es) env st=(aS P cl es env st).bind λxs st=>uA b (xs.map (res st)) st:=rfl
@[simp]theorem Ky (P:Pg) (cl:ax):E.run P cl (.bm m o es) env st=(o.run P cl env st).bind λx st=>iff (yh m (res st x)=true) ((aS P cl es env st).bind λxs st=>k9 m x xs st):=rfl
@[simp]theorem Ko (P:Pg) (cl:ax):E.run P cl (.sortK q f) env st=(q.run P cl env st).bind λx st=>qh cl f st (res st x):=rfl
@[simp]theorem Ks (P:Pg) (cl:ax):E.run P cl (.dOf e) env st=(e.run P cl env st).bind λx st=>rX st x:=rfl
@[simp]theorem Kt (P:Pg) (cl:ax):E.run P cl (.fz e) env st=(e.run P cl env st).bind λv st'=>uI st v st':=rfl
@[simp]theorem Bq (P:Pg) (cl:ax):aS P cl [] w1_ st= .ok [] st:=rfl
@[simp]theorem AS (P:Pg) (cl:ax):aS P cl (e::es) env st=(e.run P cl env st).bind λx st=>(aS P cl es env st).bind λxs st=> .ok (x::xs) st:=rfl
@[simp]theorem NA (P:Pg) (cl:ax):jv P cl none w1_ st= .ok none st:=rfl
@[simp]theorem Og (P:Pg) (cl:ax):jv P cl 1#e env st=(e.run P cl env st).bind λx st=> .ok 1#x st:=rfl
@[simp]theorem Oo (P:Pg) (cl:ax):runC P cl none w1_ st= .ok true st:=rfl
@[simp]theorem NG (P:Pg) (cl:ax):runC P cl 1#e env st=(e.run P cl env st).bind λx st=>R.aj (truth (res st x)) st:=rfl
@[simp]theorem Lg (P:Pg) (cl:ax):Q.run P cl (.val e) env st=(e.run P cl env st).bind λx st=>R.aj (gG st x) st:=rfl
@[simp]theorem LF (P:Pg) (cl:ax):Q.run P cl (.rng1 a) env st=(a.run P cl env st).bind λx st=>wC x st:=rfl
@[simp]theorem ME (P:Pg) (cl:ax):Q.run P cl (.rng2 a b) env st=(a.run P cl env st).bind λx st=>(b.run P cl env st).bind λy st=>wb x y st:=rfl
@[simp]theorem MY (P:Pg) (cl:ax):Q.run P cl (.zip a b) env st=(a.run P cl env st).bind λx st=>(b.run P cl env st).bind λy st=>Bc (itemsOf st x) (itemsOf st y) st:=rfl
@[simp]theorem Mz (P:Pg) (cl:ax):Q.run P cl (.enm a) env st=(a.run P cl env st).bind λx st=>iff (qm (res st x)=true) ((R.aj (itemsOf st x) st).bind λp st=> .ok (fO 0 p.1,p.2) st):=rfl
@[simp]theorem N2 (f:Val->Val->5#Bool):cV f [] []=1#true:=rfl
@[simp]theorem N3 (f:Val->Val->5#Bool):cV f (x::xs) (y::ys)=(f x y).bind λa=>(cV f xs ys).map λb=>a&&b:=rfl
@[simp]theorem bO (v:Val) (env:Env) (i:Nat):T.put v env 4#i=if i<0#env then 1#(env.set i 1#v) else none:=by simp only[T.put]
@[simp]theorem N0 (f:Bool) (xs:2#Val) (env:Env) (ts:2#T):T.put (.tup f xs) env (.tup ts)=bL xs env ts:=by simp only[T.put]
@[simp]theorem MF (env:Env):bL [] env []=1#env:=by simp only[bL]
@[simp]theorem Kl (v:Val) (vs:2#Val) (env:Env) (t:T) (ts:2#T):bL (v::vs) env (t::ts)=(t.put v env).bind λenv=>bL vs env ts:=by simp only[bL]
@[simp]theorem O4 (xs:2#Val) (i:Int):g9 xs i=(gJ 0#xs i).bind λj=>xs[j]?:=rfl
@[simp]theorem Ov (n:Nat) (i:Int):gJ n i=if 0<=i then (if i<n then 1#i.toNat else none) else if-(n:Int)<=i then 1#(i+n).toNat else none:=rfl
@[simp]theorem Pr (r:R Bool):dB r=r.bind λb st=> .ok (.bl b) st:=rfl
@[simp]theorem Pw (d:Nat) (a b:Bool):eqv d (.bl a) (.bl b)=1#(a==b):=by cases d<;>rfl
@[simp]theorem Oh (d:Nat) (a b:Int):eqv d 6#a 6#b=1#(a==b):=by cases d<;>rfl
@[simp]theorem OH (d:Nat) (a b:Str):eqv d (.str a) (.str b)=1#(decide (a=b)):=by cases d<;>rfl
@[simp]theorem OP (d:Nat) (f g:Bool) (xs ys:2#Val):eqv (d+1) (.tup f xs) (.tup g ys)=cV (eqv d) xs ys:=rfl
inductive Gv where
 |fn (i:Nat)|cls (i:Nat) (ini:Bool)|err (i:Nat)|val (v:Val)
structure Dt where
 gl:2#(Str×Gv)
 fr:2#Str
 fx:2#Str
 is:2#Str
 ff:2#Str
structure Gm where
 N:2#Str
 sc:Scope
 fn:Str->Bool
 cm:Bool
def Gm.gl (g:Gm) (x:Str):Bool:=g.sc.names.lookup x==1#.globalImplicit
noncomputable def HK (sc:Scope) (x:Str):Bool:=sc.names.lookup x==1#.local||sc.names.lookup x==1#.cell||sc.names.lookup x==1#.free
noncomputable def xq (sc:Scope) (x:Str):Bool:=sc.names.lookup x==1#.local||sc.names.lookup x==1#.cell
def Gm.ix (g:Gm) (x:Str):5#Nat:=if (x==("__debug__":Str))||(x==("__classdict__":Str)) then none else (g.N.idxOf? x).bind λi=>if HK g.sc x then 1#i else none
def Gm.lx (g:Gm) (x:Str):5#Nat:=(g.N.idxOf? x).bind λi=>if xq g.sc x&&(g.fn x||g.sc.names.lookup x==1#.local) then 1#i else none
def Gm.gb (g:Gm) (x:Str):Bool:=g.gl x&& !(x==("__debug__":Str))&& !(x==("__name__":Str))
def Gm.gv (D:Dt) (g:Gm) (x:Str):5#Gv:=if g.gb x then D.gl.lookup x else none
noncomputable def BP (x:Str):5#Bi:=if x="len" then 1#.len else if x="abs" then 1#.abs else if x="int" then 1#.int else if x="tuple" then 1#.tuple else if x="list" then 1#.list else if x="all" then 1#.all else if x="sum" then 1#.sum else if x="any" then 1#.any else none
noncomputable def B7 (S sc:Scope):Scope:={sc with names:=sc.names.map λ(n,k)=>if (k== .free&&S.kind== .function&&S.names.lookup n==1#.cell) then (n, .cell) else (n,k)}
noncomputable def jJ:2#Str->Bool
 |[]=>true
 |x::r=> !r.contains x&&jJ r
noncomputable def Aw (S sc:Scope):Bool:=(sc.kind== .function)&&(sc.names.all λy=> !(y.2== .local)||sc.names.lookup y.1==1#.local)
 &&(sc.names.all λy=> !(y.2== .free)||S.names.lookup y.1==1#.cell||S.names.lookup y.1==1#.free)&&(sc.names.all λy=> !(y.2== .cell)||sc.names.lookup y.1==1#.cell)
noncomputable def tJ (sc:Scope):2#Str:=(sc.names.filter λy=>(y.2== .local||y.2== .cell)&& !(y.1==(".0":Str))).map (·.1)
noncomputable def iK (N:2#Str) (sc:Scope):2#Nat:=(sc.names.filter λy=>y.2== .free).filterMap λy=>N.idxOf? y.1
def Gm.block (g:Gm) (sc:Scope):5#Gm:=let ws:=tJ sc;let caps:=iK g.N sc;let N:=ws++caps.map λi=>g.N.getD i Str.empty
 if Aw g.sc sc&&jJ N&&(caps.all λk=>sc.names.lookup (g.N.getD k Str.empty)==1#.free)&&g.cm then 1#⟨N,B7 g.sc sc,λx=>sc.names.lookup x==1#.cell,true⟩ else none
noncomputable def cC:Const->5#E
 | .none=>1#(.const .non)
 | .bool b=>1#(.const (.bl b))
 | .int i=>1#(.const 6#i)
 | .str s=>1#(.const (.str s))
 |_=>none
noncomputable def BX:Operator->Bool
 | .Add=>true
 | .Sub=>true
 | .Mult=>true
 | .FloorDiv=>true
 | .Mod=>true
 | .Pow=>true
 |_=>false
noncomputable def cUn:UnaryOp->E->5#E
 | .Not,a=>1#(.not a)
 |_,_=>none
noncomputable def cL {α β:Type} (f:α->5#β):2#α->5#2#β
 |[]=>some []
 |a::r=>(f a).bind λb=>(cL f r).map λr=>b::r
noncomputable def bop:BoolOp->E->E->E
 | .And,x,y=> .and x y
 | .Or,x,y=> .or x y
noncomputable def cBool (op:BoolOp) (f:Expr->5#E):2#Expr->5#E
 |[]=>none
 |[a]=>f a
 |a::r=>(f a).bind λx=>(cBool op f r).map λy=>bop op x y
noncomputable def notStar:Expr->Bool
 | .Starred _ _=>false
 |_=>true
noncomputable def eO:Expr->Bool
 | .Set _ _ _=>false
 |_=>true
noncomputable def fb:Expr->Bool
 | .Slice _ _ _ _=>false
 |_=>true
noncomputable def eC:Expr->Bool
 | .ListComp _ _ _ _=>false
 | .SetComp _ _ _ _=>false
 | .DictComp _ _ _ _ _=>false
 |_=>true
noncomputable def di:Expr->Bool
 | .IfExp _ _ _ _=>false
 |_=>true
noncomputable def jt:Expr->Bool
 | .Call (.Name _ _) [] [] _=>false
 |_=>true
noncomputable def Ae (m:Str) (n:Nat):5#Bm:=
 if m="append" then (if n=1 then 1#.append else none) else if m="extend" then (if n=1 then 1#.extend else none) else none
noncomputable def ke (m:Str):Bool:=(["append","extend","insert","reverse","clear","get","pop","remove","join","split","isdigit","count","index","keys","values","items","copy","sort"]:2#Str).contains m
def Cj (D:Dt) (g:Gm) (x:Str):5#E:=match g.gv D x with
 |some (.val v)=>1#(.const v)
 |_=>none
noncomputable def mw (x:Str):5#String:=
 if x="bool" then some "bool" else if x="int" then some "int" else if x="str" then some "str" else if x="tuple" then some "tuple" else if x="list" then some "list" else if x="dict" then some "dict" else none
def qr (D:Dt) (g:Gm) (x:Str) (es:2#Expr) (f:Expr->5#E):5#E:=match g.gv D x with
 |some (.fn i)=>if es.all notStar then (cL f es).map λes=> .call i es else none
 |some (.cls c ini)=>if es.all notStar&&(ini== !es.isEmpty) then (cL f es).map λes=> .make c es else none
 |some (.err _)=>none
 |some (.val _)=>none
 |none=>if g.gb x&&D.fr.contains x&&es.all notStar&& !es.isEmpty&&g.cm then (BP x).bind λb=>(cL f es).map λes=> .bi b es else none
def qB (m:Str) (ap pos:Pos) (o:Expr) (es:2#Expr) (f:Expr->5#E):5#E:=
 if jt o&&es.all notStar&&(ap.endLine==pos.line)&&decide (0#es<30) then (f o).bind λo=>(cL f es).bind λes=>
  if ke m then (if m="get" then (match es with
   |[k]=>1#(.bm .get o [k])
   |[k,d]=>1#(.bm .get o [k,d])
   |_=>none) else (Ae m 0#es).map λb=> .bm b o es) else 1#(.meth o m es) else none
noncomputable def kP (g:Gm):Nat->Expr->5#T
 |0,_=>none
 |n+1,e=>match e with
  | .Name x _=>(g.lx x).map .var
  | .Tuple es _ _=>if es.all notStar&&g.cm then (cL (kP g n) es).map .tup else none
  |_=>none
def FZ (f:Expr->5#E) (o:Expr):Expr->5#E
 | .Slice lo hi none _=>(f o).bind λo=>match lo,hi with
  |none,none=>1#(.slc o none none)
  |some a,none=>(f a).map λa=> .slc o 1#a none
  |none,1#b=>(f b).map λb=> .slc o none 1#b
  |some a,1#b=>(f a).bind λa=>(f b).map λb=> .slc o 1#a 1#b
 |i=>if fb i then (f o).bind λo=>(f i).map λi=> .idx o i else none
noncomputable def nI (x:Str):Bool:=x==("isinstance":Str)
def BZ (D:Dt) (g:Gm) (x:Str) (f:Expr->5#E):2#Expr->5#E
 |[a, .Name y _]=>if notStar a&&g.gb x&&D.fr.contains x&&g.gb y&&D.fr.contains y then (mw y).bind λn=>(f a).map λa=> .bi (.bF n) [a] else none
 |_=>none
noncomputable def isSort (x:Str):Bool:=x==("sorted":Str)
def xm (D:Dt) (g:Gm) (x:Str) (f:Expr->5#E) (es:2#Expr) (ks:2#Keyword):5#E:=match es,ks with
 |[a],[⟨1#kn, .Name y _,_⟩]=>if isSort x&&(kn==("key":Str))&&notStar a&&g.gb x&&D.fr.contains x&&g.cm then (match g.gv D y with
  |some (.fn i)=>(f a).map λa=> .sortK a i
  |_=>none) else none
 |_,_=>none
noncomputable def tD (x:Str):Bool:=x==("dict":Str)
def Ck (D:Dt) (g:Gm) (x:Str) (f:Expr->5#E):2#Expr->5#E
 |[a]=>if notStar a&&g.gb x&&D.fr.contains x&&g.cm then (f a).map .dOf else none
 |_=>none
noncomputable def kL (x:Str):Bool:=x==("range":Str)
noncomputable def rY:2#Comprehension->5#Comprehension
 |[c]=>1#c
 |_=>none
def BQ (f:Expr->5#E):2#Expr->5#5#E
 |[]=>1#none
 |[c]=>if di c then (f c).map some else none
 |_=>none
def EZ (D:Dt) (g:Gm) (x:Str) (f:Expr->5#E):2#Expr->5#Q
 |[a]=>if g.gb x&&D.fr.contains x&&notStar a then (f a).map .rng1 else none
 |[a,b]=>if g.gb x&&D.fr.contains x&&notStar a&&notStar b then (f a).bind λa=>(f b).map λb=> .rng2 a b else none
 |_=>none
noncomputable def ql (x:Str):Bool:=x==("enumerate":Str)
noncomputable def qv (x:Str):Bool:=x==("zip":Str)
def Fo (D:Dt) (g:Gm) (x:Str) (f:Expr->5#E):2#Expr->5#Q
 |[a]=>if g.gb x&&D.fr.contains x&&notStar a then (f a).map .enm else none
 |_=>none
def GK (D:Dt) (g:Gm) (x:Str) (f:Expr->5#E):2#Expr->5#Q
 |[a,b]=>if g.gb x&&D.fr.contains x&&notStar a&&notStar b then (f a).bind λa=>(f b).map λb=> .zip a b else none
 |_=>none
noncomputable def Jg:Q->Bool
 | .enm _=>true
 | .zip _ _=>true
 |_=>false
noncomputable def isTup:Expr->Bool
 | .Tuple _ _ _=>true
 |_=>false
def uS (q:Q) (tg:Expr):Bool:= !Jg q||isTup tg
mutual
noncomputable def cE (D:Dt):Nat->Gm->Expr->5#E
 |0,_,_=>none
 |n+1,g,e=>match e with
  | .Constant c _ _=>cC c
  | .Name x _=>match g.ix x with
   |some i=>1#4#i
   |none=>Cj D g x
  | .Dict [] [] _=>1#(.dct [] [])
  | .Call (.Attribute o m ap) es [] pos=>if g.cm||ke m then qB m ap pos o es (cE D n g) else none
  | .BinOp a op b _=>if BX op then (cE D n g a).bind λa=>(cE D n g b).map λb=> .bin op a b else none
  | .UnaryOp op a _=>if di a then (cE D n g a).bind λa=>cUn op a else none
  | .BoolOp op vs _=>if vs.all di then cBool op (cE D n g) vs else none
  | .Compare a [op] [b] _=>if eO b then (cE D n g a).bind λa=>(cE D n g b).map λb=> .cmp op a b else none
  | .Tuple es _ _=>if es.all notStar then (cL (cE D n g) es).map .tup else none
  | .List es _=>if es.all notStar then (cL (cE D n g) es).map .lst else none
  | .Attribute o f _=>if jt o&&D.fx.contains f then (cE D n g o).map λo=> .fld o f else none
  | .Subscript o i _=>FZ (cE D n g) o i
  | .Call (.Name x _) es [] _=>if nI x then BZ D g x (cE D n g) es else if tD x then Ck D g x (cE D n g) es else if g.cm then qr D g x es (cE D n g) else none
  | .Call (.Name x _) es (k::ks) _=>xm D g x (cE D n g) es (k::ks)
  | .ListComp elt gens sc _=>(rY gens).bind λc=>if c.is_async==0&&eO c.iter then (g.block sc).bind λh=>(cQ D n g c.iter).bind λq=>(if uS q c.target then kP h n c.target else none).bind λt=>(cE D n h elt).bind λe=>(BQ (cE D n h) c.ifs).map λc=> .comp 0#(tJ sc) (iK g.N sc) t q c e else none
  |_=>none
noncomputable def cQ (D:Dt):Nat->Gm->Expr->5#Q
 |0,_,_=>none
 |n+1,g,e=>match e with
  | .Call (.Name x _) es [] _=>if kL x then EZ D g x (cE D n g) es else if ql x then Fo D g x (cE D n g) es else if qv x then GK D g x (cE D n g) es else (cE D n g e).map .val
  |_=>(cE D n g e).map .val
end
noncomputable def xx:Expr->Bool
 | .Tuple _ _ _=>false
 |_=>true
noncomputable def Fw:Bool->E->E
 |true,e=> .fz e
 |false,e=>e
mutual
noncomputable def cS (D:Dt):Nat->Gm->Stmt->5#S
 |0,_,_=>none
 |n+1,g,s=>match s with
  | .Return none _=>1#.retN
  | .Return 1#e _=>(cE D n g e).map .ret
  | .Assign [.Name x _] e _=>(g.lx x).bind λi=>(cE D n g e).map λe=> .set 4#i e
  | .Assign [.Subscript o i _] e _=>if fb i&&eC e then (cE D n g o).bind λo=>(cE D n g i).bind λi=>(cE D n g e).map λe=> .fQ o i e else none
  | .Assign [.Attribute o f _] e _=>if eC e&&D.fx.contains f then (cE D n g o).bind λo=>(cE D n g e).map λe=> .dF o f (Fw (D.ff.contains f) e) else none
  | .Assign [.Tuple es k p] e _=>if xx e then (kP g n (.Tuple es k p)).bind λt=>(cE D n g e).map λe=> .set t e else none
  | .While c b [] _=>if di c then (cE D n g c).bind λc=>(iS D n g b).map λb=> .whl c b else none
  | .Raise _ _ _=>1#(.augI (.const .non) (.const .non) .Add (.const .non))
  | .Expr e _=>if eC e then (cE D n g e).map .expr else none
  | .If c a b _=>if di c then (cE D n g c).bind λc=>(iS D n g a).bind λa=>(iS D n g b).map λb=> .ife c a b else none
  | .For tg it b [] _=>if eO it&&g.cm then (cQ D n g it).bind λq=>(if uS q tg then kP g n tg else none).bind λt=>(iS D n g b).map λb=> .for t q b else none
  |_=>none
noncomputable def iS (D:Dt):Nat->Gm->2#Stmt->5#2#S
 |0,_,_=>none
 |n+1,g,ss=>match ss with
  |[]=>some []
  |s::r=>(cS D n g s).bind λs=>(iS D n g r).map λr=>s::r
end
noncomputable def jN (ps:2#Str) (sc:Scope):2#Str:=ps++(sc.names.filter λy=>(y.2== .local||y.2== .cell)&& !ps.contains y.1).map (·.1)
def uM (D:Dt) (ps:2#Str) (sc:Scope) (body:2#Stmt):5#Fn:=let N:=jN ps sc
 (iS D 400 ⟨N,sc,λ_=>true,true⟩ body).map λb=>⟨0#ps,0#N,b⟩
end PI
namespace PI
open PySem L2 L2.L3
noncomputable def bV:Val->5#Key
 | .int i=>1#(.inl i)
 | .str x=>1#(.inr x)
 |_=>none
noncomputable def aM:2#Val->5#2#Key
 |[]=>some []
 |v::r=>(bV v).bind λk=>(aM r).map λr=>k::r
def du:Val->5#2#Key
 | .tup _ xs=>aM xs
 |_=>none
noncomputable def aZ:2#Val->5#2#2#Key
 |[]=>some []
 |v::r=>(du v).bind λk=>(aZ r).map λr=>k::r
def gc (H:Hp) (a:Addr) (ks:2#Val) (us:2#L2.V):Prop:=
 (∃kk,aM ks=1#kk/\0#kk=0#us/\Rd H a (.dK (kk.zip us)))∨(∃kk,aZ ks=1#kk/\0#kk=0#us/\Rd H a (.dT (kk.zip us)))
def wN (H:Hp) (a:Addr) (ks:2#Val) (us:2#L2.V):Prop:=
 (∃kk,aM ks=1#kk/\0#kk=0#us/\H a=1#(.dK (kk.zip us)))∨(∃kk,aZ ks=1#kk/\0#kk=0#us/\H a=1#(.dT (kk.zip us)))
theorem wN.at {H:Hp} {a:Addr} (h:wN H a ks us):gc H a ks us:=h.imp (λz900=>by let⟨k,e,n,r⟩:=z900;exact⟨k,e,n, .inl r⟩) λz900=>by let⟨k,e,n,r⟩:=z900;exact⟨k,e,n, .inl r⟩
structure CT where
 K:PySem.W.Frag
 ca:Nat->Addr
 xc:Nat->Bool
def TupAt (G:Hp) (a:Addr) (f:Bool) (us:2#L2.V):Prop:=cond f (∃o:Obj,G a=1#(.aG o (.tup us))/\o.dict=none) (G a=1#(.tup us))
mutual
noncomputable def Rel (T:CT) (as:2#Addr) (G:Hp):Val->L2.V->Prop
 | .non,u=>u= .non
 | .bl b,u=>u= .bl b
 | .int i,u=>u= 6#i
 | .str x,u=>u= .str x
 | .tup f xs,u=>∃a us,u= 3#a/\TupAt G a f us/\ae T as G xs us
 | .lst xs,u=>∃a us,u= 3#a/\bN T.K G a us/\ae T as G xs us
 | .dct ks vs,u=>∃a us,u= 3#a/\gc G a ks us/\ae T as G vs us
 | .obj c ns vs,u=>∃a us,u= 3#a/\0#ns=0#us/\ae T as G vs us/\
   if T.xc c=true then∃dx,G a=1#(.ext (Ce a (T.ca c) dx))/\((dx=none/\ns=[])∨∃d,dx=1#d/\G d=1#(.xd (ns.zip us)))
   else∃dx,G a=1#(.ins (T.ca c) dx (ns.zip us))
 | .ref n,u=>∃a,as[n]?=1#a/\u= 3#a
noncomputable def ae (T:CT) (as:2#Addr) (G:Hp):2#Val->2#L2.V->Prop
 |[],us=>us=[]
 |v::r,us=>∃u t,us=u::t/\Rel T as G v u/\ae T as G r t
end
noncomputable def FD:HO->Bool
 | .dK _=>true
 | .dT _=>true
 |_=>false
def Le (G H:Hp):Prop:=∀a o,G a=1#o->H a=1#o∨(FD o=true/\∃ob,H a=1#(.aG ob o))
theorem Le.ex {G H:Hp} (l:Le G H) {a:Addr} {o:HO} (e:G a=1#o) (n:FD o=false):H a=1#o:=(l a o e).elim id λz=>by rw[n] at z;cases z.1
theorem Le.refl (G:Hp):Le G G:=λ_ _ e=> .inl e
theorem Le.trans {A B C:Hp} (x:Le A B) (y:Le B C):Le A C:=λa o e=>by
 rcases x a o e with q|⟨q,ob,z⟩
 ·exact y a o q
 ·exact .inr ⟨q,ob,y.ex z rfl⟩
theorem Le.new {G:Hp} {a:Addr} {o:HO} (h:G a=none):Le G (upd G a o):=λb u e=>by
 rw[ar (br e h)];exact .inl e
theorem Rd.le {G H:Hp} {a:Addr} {o:HO} (l:Le G H) (h:Rd G a o):Rd H a o:=h.elim (λe=>(l _ _ e).imp id λz=>z.2) λz900=>by let⟨u,e⟩:=z900;exact .inr ⟨u,l.ex e rfl⟩
theorem mW {G H:Hp} {a:Addr} {f:Bool} (l:Le G H) (h:TupAt G a f xs):TupAt H a f xs:=by
 cases f
 ·exact l.ex h rfl
 ·exact h.imp λo q=>⟨l.ex q.1 rfl,q.2⟩
theorem rG {K:8#4} {G:Hp} {a:Addr} {f:Bool} (h:TupAt G a f xs):dg K G a xs:=by
 cases f
 ·exact .inl (.inl h)
 ·let⟨o,e,_⟩:=h;exact .inl (.inr ⟨o,e⟩)
theorem bc {K:8#4} {G H:Hp} {a:Addr} {f:Bool} (l:Le G H) (h:TupAt G a f xs):dg K H a xs:=rG (mW l h)
theorem Cd {K:8#4} {G H:Hp} {a:Addr} (l:Le G H) (h:dg K G a xs):dg K H a xs:=h.imp (Rd.le l) id
theorem cq {K:8#4} {G H:Hp} {a:Addr} (l:Le G H) (h:bN K G a xs):bN K H a xs:=h.imp (Rd.le l) id
theorem sG {G H:Hp} {a:Addr} (l:Le G H) (h:gc G a ks us):gc H a ks us:=
 h.imp (λz900=>by let⟨k,e,n,r⟩:=z900;exact⟨k,e,n,Rd.le l r⟩) λz900=>by let⟨k,e,n,r⟩:=z900;exact⟨k,e,n,Rd.le l r⟩
theorem km {bs:2#Addr} (p:as<+:bs) {n:Nat} {a:Addr} (h:as[n]?=1#a):bs[n]?=1#a:=by
 let⟨t,rfl⟩:=p;rw[aao (aae.mp h).1];exact h
set_option tactic.hygienic true in
mutual
theorem Rel.mono {T:CT} {as bs:2#Addr} {G H:Hp} (p:as<+:bs) (l:Le G H):∀{v:Val} {u:L2.V},Rel T as G v u->Rel T bs H v u
 | .non,_,h=>h
 | .bl _,_,h=>h
 | .int _,_,h=>h
 | .str _,_,h=>h
 | .tup _ _,_,⟨a,us,e,q,r⟩=>⟨a,us,e,mW l q,ae.mono p l r⟩
 | .lst _,_,⟨a,us,e,q,r⟩=>⟨a,us,e,cq l q,ae.mono p l r⟩
 | .dct _ _,_,⟨a,us,e,q,r⟩=>⟨a,us,e,sG l q,ae.mono p l r⟩
 | .obj c ns vs,_,⟨a,us,e,n,r,q⟩=>⟨a,us,e,n,ae.mono p l r,by
  split at q
  ·rename_i h;rw[if_pos h];let⟨dx,q1,q2⟩:=q;exact⟨dx,l.ex q1 rfl,q2.imp id λz=>z.elim λd w=>⟨d,w.1,l.ex w.2 rfl⟩⟩
  ·rename_i h;rw[if_neg h]
   exact q.imp λdx q=>l.ex q rfl⟩
 | .ref _,_,⟨a,e,q⟩=>⟨a,km p e,q⟩
theorem ae.mono {T:CT} {as bs:2#Addr} {G H:Hp} (p:as<+:bs) (l:Le G H):∀{vs:2#Val} {us:2#L2.V},ae T as G vs us->ae T bs H vs us
 |[],_,h=>h
 |_::_,_,⟨u,t,e,h,r⟩=>⟨u,t,e,Rel.mono p l h,ae.mono p l r⟩
end
def eR (T:CT) (as:2#Addr) (G H:Hp) (a:Addr):Ob->Prop
 | .lst xs=>∃us,H a=1#7#us/\ae T as G xs us
 | .dct ks vs=>∃us,wN H a ks us/\ae T as G vs us
 | .ins c ns vs=>∃dx us,T.xc c=false/\H a=1#(.ins (T.ca c) dx (ns.zip us))/\0#ns=0#us/\ae T as G vs us
structure Sim (T:CT) (st:aa) (as:2#Addr) (G H:Hp):Prop where
 len:0#as=0#st
 nd:as.Nodup
 sub:Le G H
 off:∀a∈as,G a=none
 ob:∀(n:Nat) o a,st[n]?=1#o->as[n]?=1#a->eR T as G H a o
abbrev XS:=St->XK
def Hz (T:CT) (as:2#Addr) (G:Hp) (x:Exn) (cls:Value) (dx:5#Addr):Prop:=
 cls= 3#(T.ca x.c)/\T.xc x.c=true/\((dx=none/\x.ns=[]/\x.vs=[])∨∃d us,dx=1#d/\G d=1#(.xd (x.ns.zip us))/\0#x.ns=0#us/\ae T as G x.vs us)
def aL (T:CT) (as:2#Addr) (G:Hp) (env:Env) (σ:St):Prop:=0#env=0#σ/\∀(i:Nat) v,env[i]?=1#1#v->∃u,σ[i]?=1#1#u/\Rel T as G v u
theorem aL.mono {T:CT} {bs:2#Addr} {G H:Hp} {env:Env} {σ:St} (p:as<+:bs) (l:Le G H) (h:aL T as G env σ):aL T bs H env σ:=
 ⟨h.1,λi v e=>(h.2 i v e).imp λu q=>⟨q.1,q.2.mono p l⟩⟩
def ab {α:Type} (T:CT) (as:2#Addr) (G:Hp) (r:R α) (Q:8#27) (X:XK):Prop:=match r with
 | .ok a st=>∀as' G' H',as<+:as'->Le G G'->Sim T st as' G' H'->Q a st as' G' H'
 | .exc x st=>∀as' G' H' cls dx,as<+:as'->Le G G'->Sim T st as' G' H'->Hz T as' G' x cls dx->X cls dx H'
 | .stuck=>False
theorem ab.mono {α:Type} {T:CT} {bs:2#Addr} {G G2:Hp} {r:R α} {Q:8#27} {X:XK} (p:as<+:bs) (l:Le G G2) (h:ab T as G r Q X):ab T bs G2 r Q X:=by
 cases r with
 |ok a st=>exact λas' G' H' p' l' s=>h as' G' H' (p.trans p') (l.trans l') s
 |exc x st=>exact λas' G' H' cls dx p' l' s e=>h as' G' H' cls dx (p.trans p') (l.trans l') s e
 |stuck=>exact h
theorem ab.bind {α β:Type} {T:CT} {as:2#Addr} {G:Hp} {r:R α} {f:α->aa->R β} {Q:β->aa->2#Addr->Hp->Hp->Prop} {X:XK} (h:ab T as G (r.bind f) Q X):
  ab T as G r (λa st as' G' _=>ab T as' G' (f a st) Q X) X:=by
 cases r with
 |ok a st=>exact λas' G' H' p l s=>ab.mono p l h
 |exc x st=>exact h
 |stuck=>exact h
theorem ab.imp {α:Type} {T:CT} {as:2#Addr} {G:Hp} {r:R α} {Q Q':8#27} {X:XK} (h:ab T as G r Q X)
  (k:∀a st as' G' H',as<+:as'->Le G G'->Sim T st as' G' H'->Q a st as' G' H'->Q' a st as' G' H'):ab T as G r Q' X:=by
 cases r with
 |ok a st=>exact λas' G' H' p l s=>k a st as' G' H' p l s (h as' G' H' p l s)
 |exc x st=>exact h
 |stuck=>exact h
theorem ab.ok {α:Type} {T:CT} {G H:Hp} {a:α} {st:aa} {Q:8#27} {X:XK} (h:ab T as G (.ok a st) Q X) (s:9#3):Q a st as G H:=
 h as G H (aai _) 8#25 s
def dC (T:CT) (as:2#Addr) (G H:Hp):Val->L2.V->Prop
 | .tup f xs,u=>∃a us,u= 3#a/\TupAt G a f us/\ae T as G xs us
 | .lst xs,u=>∃a us,u= 3#a/\bN T.K H a us/\ae T as G xs us
 | .dct ks vs,u=>∃a us,u= 3#a/\gc H a ks us/\ae T as G vs us
 | .obj c ns vs,u=>∃a us,u= 3#a/\0#ns=0#us/\ae T as G vs us/\
   if T.xc c=true then∃dx,H a=1#(.ext (Ce a (T.ca c) dx))/\((dx=none/\ns=[])∨∃d,dx=1#d/\H d=1#(.xd (ns.zip us)))
   else∃dx,H a=1#(.ins (T.ca c) dx (ns.zip us))
 | .non,u=>u= .non
 | .bl b,u=>u= .bl b
 | .int i,u=>u= 6#i
 | .str x,u=>u= .str x
 | .ref _,_=>False
set_option tactic.hygienic true in
theorem Rel.top {T:CT} {G H:Hp} (l:Le G H):∀{v:Val} {u:L2.V},isRef v=none->Rel T as G v u->dC T as G H v u
 | .non,_,_,h=>h
 | .bl _,_,_,h=>h
 | .int _,_,_,h=>h
 | .str _,_,_,h=>h
 | .tup _ _,_,_,h=>h
 | .lst _,_,_,⟨a,us,e,q,r⟩=>⟨a,us,e,cq l q,r⟩
 | .dct _ _,_,_,⟨a,us,e,q,r⟩=>⟨a,us,e,sG l q,r⟩
 | .obj c ns vs,_,_,⟨a,us,e,n,r,q⟩=>⟨a,us,e,n,r,by
  split at q
  ·rename_i h;rw[if_pos h];let⟨dx,q1,q2⟩:=q;exact⟨dx,l.ex q1 rfl,q2.imp id λz=>z.elim λd w=>⟨d,w.1,l.ex w.2 rfl⟩⟩
  ·rename_i h;rw[if_neg h]
   exact q.imp λdx q=>l.ex q rfl⟩
 | .ref _,_,h,_=>by cases h
theorem aY {T:CT} {st:aa} {G H:Hp} (s:9#3) {v:Val} {u:L2.V} (h:Rel T as G v u):dC T as G H (res st v) u:=by
 cases v with
 |ref k=>
  let⟨a,e,rfl⟩:=h;have hk:k<0#as:=(aae.mp e).1;rw[s.len] at hk;have ho:st[k]?=1#st[k]:=aac hk;have ob:=s.ob k _ a ho e;show dC T as G H (j3 k st[k]?) _;rw[ho]
  cases q:st[k] with
  |lst xs=>
   rw[q] at ob;let⟨us,h1,h2⟩:=ob;exact⟨a,us,rfl, .inl (.inl h1),h2⟩
  |dct ks vs=>
   rw[q] at ob;let⟨us,h1,h2⟩:=ob;exact⟨a,us,rfl,h1.at,h2⟩
  |ins c ns vs=>
   rw[q] at ob;let⟨dx,us,x0,h1,h2,h3⟩:=ob;exact⟨a,us,rfl,h2,h3,by rw[if_neg (by rw[x0];decide)];exact⟨dx,h1⟩⟩
 |non=>exact h
 |bl b=>exact h
 |int i=>exact h
 |str x=>exact h
 |tup xs=>exact Rel.top s.sub rfl h
 |lst xs=>exact Rel.top s.sub rfl h
 |dct ks vs=>exact Rel.top s.sub rfl h
 |obj c ns vs=>exact Rel.top s.sub rfl h
theorem qz {α:Type} {l:2#α} (h:l.Nodup) {i j:Nat} {x:α} (a:l[i]?=1#x) (b:l[j]?=1#x):i=j:=by
 let⟨l1,e1⟩:=aae.mp a;let⟨l2,e2⟩:=aae.mp b;have q:=List.pairwise_iff_getElem.mp h
 rcases Nat.lt_trichotomy i j with z|z|z
 ·exact absurd (e1.trans e2.symm) (q i j l1 l2 z)
 ·exact z
 ·exact absurd (e2.trans e1.symm) (q j i l2 l1 z)
theorem eR.live {T:CT} {G H:Hp} {a:Addr} {o:Ob} (h:eR T as G H a o):H a≠none:=by
 intro z
 cases o with
 |lst xs=>
  let⟨us,e,_⟩:=h;rw[z] at e;cases e
 |dct ks vs=>
  let⟨us,e,_⟩:=h
  rcases e with⟨_,_,_,e⟩|⟨_,_,_,e⟩<;>(rw[z] at e;cases e)
 |ins c ns vs=>
  let⟨dx,us,_,e,_⟩:=h;rw[z] at e;cases e
theorem eR.at {T:CT} {G H H':Hp} {a:Addr} {o:Ob} (e:H' a=H a) (h:eR T as G H a o):eR T as G H' a o:=by
 cases o with
 |lst xs=>
  let⟨us,q,r⟩:=h;exact⟨us,e.trans q,r⟩
 |dct ks vs=>
  let⟨us,q,r⟩:=h;refine⟨us, ?_,r⟩;unfold wN at q⊢;rw[e];exact q
 |ins c ns vs=>
  let⟨dx,us,x,q,r⟩:=h;exact⟨dx,us,x,e.trans q,r⟩
theorem eR.mono {T:CT} {bs:2#Addr} {G G' H:Hp} {a:Addr} {o:Ob} (p:as<+:bs) (l:Le G G') (h:eR T as G H a o):eR T bs G' H a o:=by
 cases o with
 |lst xs=>
  let⟨us,q,r⟩:=h;exact⟨us,q,r.mono p l⟩
 |dct ks vs=>
  let⟨us,q,r⟩:=h;exact⟨us,q,r.mono p l⟩
 |ins c ns vs=>
  let⟨dx,us,x,q,n,r⟩:=h;exact⟨dx,us,x,q,n,r.mono p l⟩
theorem Sim.live {T:CT} {st:aa} {G H:Hp} (s:9#3) {a:Addr} (h:a∈as):H a≠none:=by
 let⟨n,hn⟩:=abr.mp h;have hk:n<0#as:=(aae.mp hn).1;rw[s.len] at hk;exact(s.ob n _ a (aac hk) hn).live
theorem Sim.fresh {T:CT} {st:aa} {G H:Hp} (s:9#3) {p:Addr} (hp:H p=none):p∉as/\G p=none:=by
 refine⟨λh=>s.live h hp, ?_⟩
 cases e:G p with
 |none=>rfl
 |some o=>
  rcases s.sub p o e with z|⟨_,ob,z⟩<;>(rw[z] at hp;cases hp)
theorem Le.up {G H:Hp} {p:Addr} {o:HO} (l:Le G H) (hp:G p=none):Le G (upd H p o):=λb u e=>by
 rw[ar (br e hp)];exact l b u e
theorem Sim.wm {T:CT} {st:aa} {G H:Hp} (s:9#3) {p:Addr} {u:HO} (hp:H p=none):Sim T st as (upd G p u) (upd H p u):=by
 let⟨n1,n2⟩:=s.fresh hp;refine⟨s.len,s.nd,λb o e=> ?_,λa ha=> ?_,λn o a h1 h2=> ?_⟩
 ·by_cases hb:b=p
  ·subst hb;rw[aq] at e⊢;exact .inl e
  ·rw[ar hb] at e⊢;exact s.sub b o e
 ·rw[ar (show a≠p from λz=>n1 (by rw[←z];exact ha))];exact s.off a ha
 ·refine((s.ob n o a h1 h2).at (ar λz=>n1 ?_)).mono (aai _) (Le.new n2);rw[←z];exact aau h2
theorem Sim.push {T:CT} {st:aa} {G H:Hp} (s:9#3) {p:Addr} {u:HO} {o:Ob} (hp:H p=none) (hu:eR T (as++[p]) G (upd H p u) p o):Sim T (st++[o]) (as++[p]) G (upd H p u):=by
 let⟨n1,n2⟩:=s.fresh hp;refine⟨by simp[s.len], ?_,s.sub.up n2,λa ha=> ?_,λn o' a h1 h2=> ?_⟩
 ·rw[acm];refine⟨s.nd,by simp,λa ha b hb=> ?_⟩;rw[aaG.mp hb];exact λz=>n1 (z▸ha)
 ·rcases aaM.mp ha with h|h
  ·exact s.off a h
  ·rw[aaG.mp h];exact n2
 ·by_cases hn:n<0#st
  ·rw[aao hn] at h1;rw[aao (by rw[s.len];exact hn)] at h2;refine((s.ob n o' a h1 h2).at (ar λz=>n1 ?_)).mono (aav _ _) 8#25;rw[←z];exact aau h2
  ·have z:n=0#st:=by
    have:=(aae.mp h1).1;simp at this;lia
   subst z;rw[aal (aah _)] at h1;rw[←s.len,aal (aah _)] at h2;simp at h1 h2;subst h1 h2;exact hu
theorem Sim.set {T:CT} {st:aa} {G H:Hp} (s:9#3) {n:Nat} {a:Addr} {u:HO} {o:Ob} (ha:as[n]?=1#a) (hu:eR T as G (upd H a u) a o):Sim T (st.set n o) as G (upd H a u):=by
 have ma:a∈as:=aau ha;refine⟨by simp[s.len],s.nd,s.sub.up (s.off a ma),s.off,λm o' b h1 h2=> ?_⟩
 by_cases hm:m=n
 ·subst hm;rw[ha] at h2;cases h2
  have hl:m<0#st:=by rw[←s.len];exact(aae.mp ha).1
  rw[abF hl] at h1;cases h1;exact hu
 ·rw[abx (λz=>hm z.symm)] at h1;refine(s.ob m o' b h1 h2).at (ar λz=>hm ?_);subst z;let⟨l1,e1⟩:=aae.mp h2;let⟨l2,e2⟩:=aae.mp ha;exact qz s.nd h2 ha
theorem Sim.GU {T:CT} {st:aa} {G H:Hp} {a:Addr} {u:HO} (s:9#3) (q:Rd G a u) (hd:FD u=true) (ho:H a=1#u∨H a=1#(.aG o u)):
  Sim T st as (upd G a (.aG o u)) (upd H a (.aG o u))/\Le G (upd G a (.aG o u)):=by
 have l:Le G (upd G a (.aG o u)):=λb v e=>by
  by_cases hb:b=a
  ·subst hb;rw[aq]
   rcases q with q|⟨o',q⟩
   ·rw[e] at q;cases q;exact .inr ⟨hd,o,rfl⟩
   ·rw[e] at q;cases q;have z:=s.sub.ex e rfl
    rcases ho with ho|ho
    ·rw[ho] at z;rw[Option.some.inj z] at hd;cases hd
    ·rw[ho] at z;exact .inl (by rw[z])
  ·rw[ar hb];exact .inl e
 have na:∀{b},b∈as->b≠a:=λhb z=>by
  subst z;have:=s.off _ hb
  rcases q with q|⟨o',q⟩<;>(rw[q] at this;cases this)
 refine⟨⟨s.len,s.nd,λb v e=> ?_,λb hb=> ?_,λn ob b h1 h2=> ?_⟩,l⟩
 ·by_cases hb:b=a
  ·subst hb;rw[aq] at e⊢;exact .inl e
  ·rw[ar hb] at e⊢;exact s.sub b v e
 ·rw[ar (na hb)];exact s.off b hb
 ·exact((s.ob n ob b h1 h2).at (ar (na (aau h2)))).mono (aai _) l
theorem Sim.Jn {T:CT} {st:aa} {G H:Hp} {c:Addr} (s:9#3) (e:H c=1#(.tup us)):Sim T st as (upd G c (.tup us)) H/\Le G (upd G c (.tup us)):=by
 have nc:∀{b},b∈as->b≠c:=λhb z=>by
  subst z;let⟨n,hn⟩:=abr.mp hb;have hk:n<0#as:=(aae.mp hn).1;rw[s.len] at hk;have ob:=s.ob n _ _ (aac hk) hn
  cases q:st[n] with
  |lst xs=>
   rw[q] at ob;let⟨_,z,_⟩:=ob;rw[e] at z;cases z
  |dct ks vs=>
   rw[q] at ob;let⟨_,z,_⟩:=ob
   rcases z with⟨_,_,_,z⟩|⟨_,_,_,z⟩<;>(rw[e] at z;cases z)
  |ins c ns vs=>
   rw[q] at ob;let⟨_,_,_,z,_⟩:=ob;rw[e] at z;cases z
 have l:Le G (upd G c (.tup us)):=λb v h=>by
  by_cases hb:b=c
  ·subst hb;rw[aq]
   rcases s.sub _ _ h with z|⟨_,_,z⟩
   ·rw[e] at z;exact .inl z
   ·rw[e] at z;cases z
  ·rw[ar hb];exact .inl h
 refine⟨⟨s.len,s.nd,λb v h=> ?_,λb hb=> ?_,λn ob b h1 h2=>(s.ob n ob b h1 h2).mono (aai _) l⟩,l⟩
 ·by_cases hb:b=c
  ·subst hb;rw[aq] at h;exact .inl (e.trans h)
  ·rw[ar hb] at h;exact s.sub b v h
 ·rw[ar (nc hb)];exact s.off b hb
theorem mq {α β:Type} {x:5#α} {y:5#2#α} {c:2#α} (h:(x.bind λa=>y.map λb=>a::b)=1#c):∃a b,x=1#a/\y=1#b/\c=a::b:=by
 let⟨a,e1,e2⟩:=aap.mp h;let⟨b,e3,e4⟩:=aab.mp e2;exact⟨a,b,e1,e3,e4.symm⟩
theorem jU:∀{ks:2#Val} {kk:2#Key},aM ks=1#kk->0#kk=0#ks
 |[],kk,h=>by cases h;rfl
 |v::ks,kk,h=>by
  let⟨a,b,_,e2,rfl⟩:=mq (β:=Nat) (show ((bV v).bind λk=>(aM ks).map λr=>k::r)=1#kk from h);simp[jU e2]
theorem j7:∀{ks:2#Val} {kk:2#2#Key},aZ ks=1#kk->0#kk=0#ks
 |[],kk,h=>by cases h;rfl
 |v::ks,kk,h=>by
  let⟨a,b,_,e2,rfl⟩:=mq (β:=Nat) (show ((du v).bind λk=>(aZ ks).map λr=>k::r)=1#kk from h);simp[j7 e2]
theorem pJ:∀{ks:2#Val} {kk:2#Key} {i:Nat} {v:Val},aM ks=1#kk->ks[i]?=1#v->∃k,kk[i]?=1#k/\bV v=1#k
 |[],kk,i,v,_,e=>by simp at e
 |w::ks,kk,i,v,h,e=>by
  let⟨a,b,e1,e2,rfl⟩:=mq (β:=Nat) (show ((bV w).bind λk=>(aM ks).map λr=>k::r)=1#kk from h)
  cases i with
  |zero=>
   simp at e;subst e;exact⟨a,rfl,e1⟩
  |succ i=>
   let⟨k,h1,h2⟩:=pJ (i:=i) e2 (by simpa using e);exact⟨k,by simpa using h1,h2⟩
theorem o7:∀{ks:2#Val} {kk:2#2#Key} {i:Nat} {v:Val},aZ ks=1#kk->ks[i]?=1#v->∃k,kk[i]?=1#k/\du v=1#k
 |[],kk,i,v,_,e=>by simp at e
 |w::ks,kk,i,v,h,e=>by
  let⟨a,b,e1,e2,rfl⟩:=mq (β:=Nat) (show ((du w).bind λk=>(aZ ks).map λr=>k::r)=1#kk from h)
  cases i with
  |zero=>
   simp at e;subst e;exact⟨a,rfl,e1⟩
  |succ i=>
   let⟨k,h1,h2⟩:=o7 (i:=i) e2 (by simpa using e);exact⟨k,by simpa using h1,h2⟩
theorem rN {T:CT} {G:Hp} {v:Val} {k:Key} (h:bV v=1#k):Rel T as G v (kV k):=by
 cases v<;>first
  |(cases h;exact rfl)
  |cases h
theorem Fg {v:Val} {k:Key} (h:bV v=1#k):iW v=v:=by
 cases v<;>first
  |rfl
  |cases h
theorem nH {T:CT} {G:Hp}:∀{xs:2#Val} {kk:2#Key},aM xs=1#kk->ae T as G xs (kk.map kV)
 |[],kk,h=>by cases h;exact rfl
 |v::xs,kk,h=>by
  let⟨a,b,e1,e2,rfl⟩:=mq (β:=Nat) (show ((bV v).bind λk=>(aM xs).map λr=>k::r)=1#kk from h);exact⟨kV a,b.map kV,rfl,rN e1,nH e2⟩
theorem DW {v:Val} {k:2#Key} (h:du v=1#k):∃f xs,v= .tup f xs/\aM xs=1#k:=by
 cases v<;>first
  |exact⟨_,_,rfl,h⟩
  |cases h
theorem EF {n:Nat} {v:Val} {k:Key} (h:bV v=1#k):v.bd n=true:=by
 cases v<;>first|rfl|(simp[bV] at h)
theorem kH {n:Nat}:∀{vs:2#Val} {kk:2#Key},aM vs=1#kk->dy n vs=true
 |[],_,_=>rfl
 |v::r,kk,h=>by
  unfold aM at h;unfold dy
  cases e:bV v with
  |none=>rw[e] at h;cases h
  |some k=>
   cases e2:aM r with
   |none=>rw[e,e2] at h;cases h
   |some kr=>rw[EF e,kH e2];rfl
theorem C1 {n:Nat} {v:Val} {k:2#Key} (h:du v=1#k):v.bd n=true:=by
 cases v with
 |tup fl xs=>unfold Val.bd;exact kH h
 |_=>cases h
theorem lN {n:Nat}:∀{vs:2#Val} {kk:2#2#Key},aZ vs=1#kk->dy n vs=true
 |[],_,_=>rfl
 |v::r,kk,h=>by
  unfold aZ at h;unfold dy
  cases e:du v with
  |none=>rw[e] at h;cases h
  |some k=>
   cases e2:aZ r with
   |none=>rw[e,e2] at h;cases h
   |some kr=>rw[C1 e,lN e2];rfl
mutual
theorem Rel.bd {T:CT} {as:2#Addr} {G:Hp}:∀{v:Val} {u:L2.V},Rel T as G v u->v.bd 0#as=true
 | .non,_,_=>rfl
 | .bl _,_,_=>rfl
 | .int _,_,_=>rfl
 | .str _,_,_=>rfl
 | .tup _ _,_,⟨_,_,_,_,r⟩=>by unfold Val.bd;exact ae.bd r
 | .lst _,_,⟨_,_,_,_,r⟩=>by unfold Val.bd;exact ae.bd r
 | .dct ks _,_,⟨_,us,_,q,r⟩=>by
  unfold Val.bd;rw[ae.bd r,acr]
  rcases q with⟨kk,e,_,_⟩|⟨kk,e,_,_⟩
  ·exact kH e
  ·exact lN e
 | .obj _ _ _,_,⟨_,_,_,_,r,_⟩=>by unfold Val.bd;exact ae.bd r
 | .ref _,_,⟨_,e,_⟩=>by unfold Val.bd;exact aaH (aae.mp e).1
theorem ae.bd {T:CT} {as:2#Addr} {G:Hp}:∀{vs:2#Val} {us:2#L2.V},ae T as G vs us->dy 0#as vs=true
 |[],_,_=>rfl
 |_::_,_,⟨_,_,_,h,r⟩=>by unfold dy;rw[Rel.bd h,ae.bd r];rfl
end
mutual
theorem Rel.cut {T:CT} {as:2#Addr} {G:Hp} {n:Nat}:∀{v:Val} {u:L2.V},v.bd n=true->Rel T as G v u->Rel T (as.take n) G v u
 | .non,_,_,h=>h
 | .bl _,_,_,h=>h
 | .int _,_,_,h=>h
 | .str _,_,_,h=>h
 | .tup _ _,_,b,⟨a,us,e,q,r⟩=>⟨a,us,e,q,ae.cut (by unfold Val.bd at b;exact b) r⟩
 | .lst _,_,b,⟨a,us,e,q,r⟩=>⟨a,us,e,q,ae.cut (by unfold Val.bd at b;exact b) r⟩
 | .dct _ _,_,b,⟨a,us,e,q,r⟩=>⟨a,us,e,q,ae.cut (by unfold Val.bd at b;exact(aag _ _▸b).2) r⟩
 | .obj _ _ _,_,b,⟨a,us,e,n,r,q⟩=>⟨a,us,e,n,ae.cut (by unfold Val.bd at b;exact b) r,q⟩
 | .ref k,_,b,⟨a,e,q⟩=>⟨a,by
  unfold Val.bd at b;rw[aa6 (aa4 b)]
  exact e,q⟩
theorem ae.cut {T:CT} {as:2#Addr} {G:Hp} {n:Nat}:∀{vs:2#Val} {us:2#L2.V},dy n vs=true->ae T as G vs us->ae T (as.take n) G vs us
 |[],_,_,h=>h
 |_::_,_,b,⟨u,t,e,h,r⟩=>⟨u,t,e,Rel.cut (by unfold dy at b;exact(aag _ _▸b).1) h,ae.cut (by unfold dy at b;exact(aag _ _▸b).2) r⟩
end
open Classical in
noncomputable def dQ (G H:Hp) (as:2#Addr) (n x:Nat):Hp:=λb=>if b∈as.drop n/\as[x]?≠1#b then H b else G b
section
variable {T:CT} {st:aa} {as:2#Addr} {G H:Hp} {n x:Nat}
theorem vx {a:Addr} {k:Nat} (hk:n<=k) (hx:k≠x) (nd:as.Nodup) (e:as[k]?=1#a):dQ G H as n x a=H a:=by
 unfold dQ;rw[if_pos];refine⟨?_,λz=>hx (qz nd e z)⟩;rw[abr];exact⟨k-n,by rw[List.getElem?_drop,show n+(k-n)=k by lia];exact e⟩
theorem bo (s:9#3):Le G (dQ G H as n x):=λa o e=>by
 unfold dQ;rw[if_neg]
 ·exact .inl e
 ·rintro ⟨h,_⟩
  rw[s.off a (List.mem_of_mem_drop h)] at e;cases e
theorem AF (s:9#3):Le (dQ G H as n x) H:=λa o e=>by
 unfold dQ at e;split at e
 ·exact .inl e
 ·exact s.sub a o e
theorem take_drop {α:Type} {l:2#α} (nd:l.Nodup) {n:Nat} {a:α} (h1:a∈l.take n) (h2:a∈l.drop n):False:=by
 rw[←List.take_append_drop n l] at nd;exact(acm.mp nd).2.2 a h1 a h2 rfl
theorem AB (s:9#3):∀a∈as.take n,dQ G H as n x a=none:=λa ha=>by
 unfold dQ;rw[if_neg λz=>take_drop s.nd ha z.1];exact s.off a (List.mem_of_mem_take ha)
end
set_option tactic.hygienic true in
mutual
theorem nW {T:CT} {as bs:2#Addr} {G D:Hp} (l:Le G D) {f:Nat->5#Val} (hf:∀k v' u,f k=1#v'->Rel T as G 3#k u->Rel T bs D v' u):∀{v v':Val} {u:L2.V},v.sub f=1#v'->Rel T as G v u->Rel T bs D v' u
 | .non,_,_,e,h=>by cases e;exact h
 | .bl _,_,_,e,h=>by cases e;exact h
 | .int _,_,_,e,h=>by cases e;exact h
 | .str _,_,_,e,h=>by cases e;exact h
 | .tup _ _,_,_,e,⟨a,us,e1,q,r⟩=>by
  unfold Val.sub at e;let⟨ys,e2,rfl⟩:=aab.mp e;exact⟨a,us,e1,mW l q,bU l hf e2 r⟩
 | .lst _,_,_,e,⟨a,us,e1,q,r⟩=>by
  unfold Val.sub at e;let⟨ys,e2,rfl⟩:=aab.mp e;exact⟨a,us,e1,cq l q,bU l hf e2 r⟩
 | .dct _ _,_,_,e,⟨a,us,e1,q,r⟩=>by
  unfold Val.sub at e;let⟨ys,e2,rfl⟩:=aab.mp e;exact⟨a,us,e1,sG l q,bU l hf e2 r⟩
 | .obj c _ _,_,_,e,⟨a,us,e1,n,r,q⟩=>by
  unfold Val.sub at e;let⟨ys,e2,rfl⟩:=aab.mp e;refine⟨a,us,e1,n,bU l hf e2 r, ?_⟩;split at q
  ·rename_i h;rw[if_pos h];let⟨dx,q1,q2⟩:=q;exact⟨dx,l.ex q1 rfl,q2.imp id λz900=>by let⟨d,q3,q4⟩:=z900;exact⟨d,q3,l.ex q4 rfl⟩⟩
  ·rename_i h;rw[if_neg h];exact q.imp λdx q=>l.ex q rfl
 | .ref k,_,_,e,h=>by
  unfold Val.sub at e;exact hf k _ _ e h
theorem bU {T:CT} {as bs:2#Addr} {G D:Hp} (l:Le G D) {f:Nat->5#Val} (hf:∀k v' u,f k=1#v'->Rel T as G 3#k u->Rel T bs D v' u):∀{vs vs':2#Val} {us:2#L2.V},subs f vs=1#vs'->ae T as G vs us->ae T bs D vs' us
 |[],_,_,e,h=>by cases e;exact h
 |v::r,_,_,e,⟨u,t,e1,h,q⟩=>by
  unfold subs at e
  cases e2:v.sub f with
  |none=>rw[e2] at e;cases e
  |some v'=>
   cases e3:subs f r with
   |none=>rw[e2,e3] at e;cases e
   |some r'=>
    rw[e2,e3] at e;cases e;exact⟨u,t,e1,nW l hf e2 h,bU l hf e3 q⟩
end
theorem gg {T:CT} {st:aa} {as:2#Addr} {G H:Hp} {n x:Nat} (s:9#3):∀(d k:Nat) (v':Val) (u:L2.V),iT st n x d k=1#v'->Rel T as G 3#k u->Rel T (as.take n) (dQ G H as n x) v' u:=by
 intro d
 induction d with
 |zero=>
  intro k v' u e ⟨a,ea,eu⟩
  by_cases hk:k<n
  ·cases (show 1#_=1#v' from (if_pos hk).symm.trans e);exact⟨a,by rw[aa6 hk];exact ea,eu⟩
  ·cases (show none=1#v' from (if_neg hk).symm.trans e)
 |succ d ih=>
  intro k v' u e ⟨a,ea,eu⟩
  by_cases hk:k<n
  ·cases (show 1#_=1#v' from (if_pos hk).symm.trans e);exact⟨a,by rw[aa6 hk];exact ea,eu⟩
  ·replace e:=(if_neg hk).symm.trans e
   by_cases hx:k=x
   ·cases (show none=1#v' from (if_pos hx).symm.trans e)
   replace e:=(if_neg hx).symm.trans e
   have lk:k<0#st:=by rw[←s.len];exact(aae.mp ea).1
   have ho:st[k]?=1#st[k]:=aac lk;have ob:=s.ob k _ a ho ea;have ga:dQ G H as n x a=H a:=vx 8#0 hx s.nd ea;rw[ho] at e;generalize st[k]=o at e ob;subst eu
   cases o with
   |lst xs=>
    let⟨us,q,r⟩:=ob;let⟨ys,e2,rfl⟩:=aab.mp e;exact⟨a,us,rfl, .inl (.inl (ga.trans q)),bU (bo s) ih e2 r⟩
   |dct ks vs=>
    let⟨us,q,r⟩:=ob;let⟨ys,e2,rfl⟩:=aab.mp e;refine⟨a,us,rfl, ?_,bU (bo s) ih e2 r⟩;have q2:=q.at;unfold gc Rd at q2⊢;rw[ga];exact q2
   |ins c ns vs=>
    let⟨dx,us,x0,q,m,r⟩:=ob;let⟨ys,e2,rfl⟩:=aab.mp e;exact⟨a,us,rfl,m,bU (bo s) ih e2 r,by rw[if_neg (by rw[x0];decide)];exact⟨dx,ga.trans q⟩⟩
theorem Ge {T:CT} {as:2#Addr} {G D H:Hp} {n:Nat} {a:Addr} {o:Ob} (l:Le G D) (b:o.bd n=true) (h:eR T as G H a o):eR T (as.take n) D H a o:=by
 cases o with
 |lst xs=>
  let⟨us,q,r⟩:=h;exact⟨us,q,(ae.cut b r).mono (aai _) l⟩
 |dct ks vs=>
  let⟨us,q,r⟩:=h;exact⟨us,q,(ae.cut (by unfold Ob.bd at b;exact(aag _ _▸b).2) r).mono (aai _) l⟩
 |ins c ns vs=>
  let⟨dx,us,x0,q,m,r⟩:=h;exact⟨dx,us,x0,q,m,(ae.cut b r).mono (aai _) l⟩
theorem eR.bd {T:CT} {as:2#Addr} {G H:Hp} {a:Addr} {o:Ob} (h:eR T as G H a o):o.bd 0#as=true:=by
 cases o with
 |lst xs=>
  let⟨us,q,r⟩:=h;exact r.bd
 |dct ks vs=>
  let⟨us,q,r⟩:=h;show (dy _ ks&&dy _ vs)=true;rw[r.bd,acr]
  rcases q with⟨kk,e,_,_⟩|⟨kk,e,_,_⟩
  ·exact kH e
  ·exact lN e
 |ins c ns vs=>
  let⟨dx,us,x0,q,m,r⟩:=h;exact r.bd
theorem Sim.cut {T:CT} {st st':aa} {as':2#Addr} {G G' H H':Hp} (s:9#3) (s':Sim T st' as' G' H') (p:as<+:as') (o:Old st st') (x:Nat):as'.take 0#st=as/\Sim T (st'.take 0#st) as (dQ G' H' as' 0#st x) H':=by
 have e:as'.take 0#st=as:=by
  let⟨t,rfl⟩:=p;rw[←s.len,List.take_left'];rfl
 refine⟨e, ?_,s.nd,AF s',λa ha=> ?_,λn ob a h1 h2=> ?_⟩
 ·rw[s.len,abc,Nat.min_eq_left o.1]
 ·rw[←e] at ha;exact AB s' a ha
 ·have hn:n<0#st:=by
   have:=(aae.mp h1).1;rw[abc] at this;lia
  rw[aa6 hn] at h1
  have b:ob.bd 0#st=true:=by
   rcases o.2 n ob hn h1 with z|z
   ·rw[←s.len];exact(s.ob n ob a z h2).bd
   ·exact z
  have:=Ge (n:=0#st) (bo (n:=0#st) (x:=x) s') b (s'.ob n ob a h1 (km p h2));rw[e] at this;exact this
section
variable {T:CT} {P:Pg} {st st':aa} {as as':2#Addr} {G G' H H':Hp} {X:XK}
set_option tactic.hygienic true in
theorem ni {v:Val} {u:L2.V} {Q:VK} (s:9#3) (s':Sim T st' as' G' H') (p:as<+:as') (l:Le G G') (r:Rel T as' G' v u)
  (h:ab T as G (fin P st v st') (λv _ as2 G2 H2=>∀u,Rel T as2 G2 v u->Q u H2) X):Q u H':=by
 unfold fin at h;split at h
 ·rename_i o
  cases e:isRef v with
  |none=>
   rw[e] at h;unfold Ap at h
   cases e2:v.aG st' 0#st 0#st' with
   |none=>rw[e2] at h;exact h.elim
   |some v'=>
    rw[e2] at h;let⟨c1,c2⟩:=Sim.cut s s' p o 0#st';refine h as _ H' (aai _) (l.trans (bo s')) c2 u ?_;have:=nW (bo s') (gg s' 6) e2 r;rw[c1] at this;exact this
  |some k=>
   have ev:v= 3#k:=by
    cases v<;>first|(cases e;rfl)|cases e
   subst ev;rw[e] at h;replace h:ab T as G (if k<0#st then .ok 3#k (st'.take 0#st) else tY P 0#st k st' st'[k]?) (λv _ as2 G2 H2=>∀u,Rel T as2 G2 v u->Q u H2) X:=h;let⟨a,ea,eu⟩:=r;split at h
   ·rename_i hk;let⟨c1,c2⟩:=Sim.cut s s' p o 0#st';refine h as _ H' (aai _) (l.trans (bo s')) c2 u ⟨a, ?_,eu⟩;rw[←c1,aa6 hk];exact ea
   ·rename_i hk;let⟨c1,c2⟩:=Sim.cut s s' p o k
    have lk:k<0#st':=by rw[←s'.len];exact(aae.mp ea).1
    have ho:st'[k]?=1#st'[k]:=aac lk;have ob:=s'.ob k _ a ho ea;rw[ho] at h;generalize st'[k]=o' at h ob
    have ga:dQ G' H' as' 0#st k a=none:=by
     unfold dQ;rw[if_neg λz=>z.2 ea];exact s'.off a (aau ea)
    have na:a∉as:=λz=>by
     rw[←c1] at z;let⟨i,hi⟩:=abr.mp z;have li:=(aae.mp hi).1;rw[abc] at li;rw[aa6 8#0] at hi;have:=qz s'.nd hi ea;lia
    have put:∀{o2:Ob},eR T (as++[a]) (dQ G' H' as' 0#st k) H' a o2->Sim T (st'.take 0#st++[o2]) (as++[a]) (dQ G' H' as' 0#st k) H':=λ{o2} q=>by
     refine⟨by simp[c2.len], ?_,c2.sub,λb hb=> ?_,λi ob2 b h1 h2=> ?_⟩
     ·rw[acm];refine⟨s.nd,by simp,λb hb c hc=> ?_⟩;rw[aaG.mp hc];exact λz=>na (z▸hb)
     ·rcases aaM.mp hb with z|z
      ·exact c2.off b z
      ·rw[aaG.mp z];exact ga
     ·by_cases hi:i<0#(st'.take 0#st)
      ·rw[aao hi] at h1;rw[aao (by rw[c2.len];exact hi)] at h2;exact(c2.ob i ob2 b h1 h2).mono (aav _ _) 8#25
      ·have z:i=0#(st'.take 0#st):=by
        have:=(aae.mp h1).1;rw[aaL] at this;simp at this hi⊢;lia
       rw[z,aal (aah _)] at h1;rw[z,←c2.len,aal (aah _)] at h2;simp at h1 h2;subst h1 h2;exact q
    have told:Rel T (as++[a]) (dQ G' H' as' 0#st k) 3#0#st u:=⟨a,by
     rw[←s.len,aal (aah _)]
     simp,eu⟩
    cases o' with
    |lst xs=>
     replace h:ab T as G ((R.aj (aV st' 0#st k xs) st').bind λys st'=> .ok 3#0#st (st'.take 0#st++[7#ys])) (λv _ as2 G2 H2=>∀u,Rel T as2 G2 v u->Q u H2) X:=h
     cases e2:aV st' 0#st k xs with
     |none=>rw[e2] at h;exact h.elim
     |some ys=>
      rw[e2] at h;let⟨us,q,r⟩:=ob;have r2:=bU (bo s') (gg s' 6) e2 r;rw[c1] at r2;exact h (as++[a]) _ H' (aav _ _) (l.trans (bo s')) (put ⟨us,q,r2.mono (aav _ _) 8#25⟩) u told
    |dct ks vs=>
     replace h:ab T as G ((R.aj (aV st' 0#st k vs) st').bind λvs st'=> .ok 3#0#st (st'.take 0#st++[.dct ks vs])) (λv _ as2 G2 H2=>∀u,Rel T as2 G2 v u->Q u H2) X:=h
     cases e2:aV st' 0#st k vs with
     |none=>rw[e2] at h;exact h.elim
     |some ys=>
      rw[e2] at h;let⟨us,q,r⟩:=ob;have r2:=bU (bo s') (gg s' 6) e2 r;rw[c1] at r2;exact h (as++[a]) _ H' (aav _ _) (l.trans (bo s')) (put ⟨us,q,r2.mono (aav _ _) 8#25⟩) u told
    |ins c ns vs=>
     replace h:ab T as G (if fM P c=true then .ok 3#k st' else (R.aj (aV st' 0#st 0#st' vs) st').bind λvs st'=> .ok (.obj c ns vs) (st'.take 0#st)) (λv _ as2 G2 H2=>∀u,Rel T as2 G2 v u->Q u H2) X:=h;split at h
     ·exact h as' G' H' p l s' u ⟨a,ea,eu⟩
     ·cases e2:aV st' 0#st 0#st' vs with
      |none=>rw[e2] at h;exact h.elim
      |some ys=>
       rw[e2] at h;let⟨dx,us,x0,q,m,r⟩:=ob;let⟨d1,d2⟩:=Sim.cut s s' p o 0#st'
       have kx:k≠0#st':=by lia
       have r2:=bU (bo (n:=0#st) (x:=0#st') s') (gg s' 6) e2 r;rw[d1] at r2;refine h as _ H' (aai _) (l.trans (bo s')) d2 u ⟨a,us,eu,m,r2, ?_⟩;rw[if_neg (by rw[x0];decide)];exact⟨dx,(vx 8#0 kx s'.nd ea).trans q⟩
 ·exact h as' G' H' p l s' u r
set_option tactic.hygienic true in
theorem D4 {x:Exn} {cls:Value} {dx:5#Addr} {Q:Val->aa->2#Addr->Hp->Hp->Prop} (s:9#3) (s':Sim T st' as' G' H') (p:as<+:as') (l:Le G G') (r:Hz T as' G' x cls dx)
  (h:ab T as G (Aj st x st') Q X):X cls dx H':=by
 unfold Aj at h;split at h
 ·rename_i o
  cases e2:aV st' 0#st 0#st' x.vs with
  |none=>rw[e2] at h;exact h.elim
  |some ys=>
   rw[e2] at h;let⟨d1,d2⟩:=Sim.cut s s' p o 0#st';refine h as _ H' cls dx (aai _) (l.trans (bo s')) d2 ?_;let⟨r1,r0,r2⟩:=r;refine⟨r1,r0,r2.imp (λ⟨q1,q2,q3⟩=>⟨q1,q2, ?_⟩) λ⟨d,us,q1,q2,q3,q4⟩=>⟨d,us,q1,(bo s').ex q2 rfl,q3, ?_⟩⟩
   ·rw[q3] at e2;cases e2;rfl
   ·have r2:=bU (bo (n:=0#st) (x:=0#st') s') (gg s' 6) e2 q4;rw[d1] at r2;exact r2
 ·exact h as' G' H' cls dx p l s' r
set_option tactic.hygienic true in
theorem ID {v:Val} {u:L2.V} {Q:Val->aa->2#Addr->Hp->Hp->Prop} (s:9#3) (s':Sim T st' as' G' H') (p:as<+:as') (l:Le G G') (r:Rel T as' G' v u) (h:ab T as G (uI st v st') Q X):
  ∃v2 st2 as2 G2,Sim T st2 as2 G2 H'/\Rel T as2 G2 v2 u/\Q v2 st2 as2 G2 H':=by
 unfold uI at h;split at h
 ·rename_i o
  cases e2:v.aG st' 0#st 0#st' with
  |none=>rw[e2] at h;exact h.elim
  |some v'=>
   rw[e2] at h;let⟨c1,c2⟩:=Sim.cut s s' p o 0#st';have r2:=nW (bo (n:=0#st) (x:=0#st') s') (gg s' 6) e2 r;rw[c1] at r2;exact⟨v',_,as,_,c2,r2,h as _ H' (aai _) (l.trans (bo s')) c2⟩
 ·exact⟨v,st',as',G',s',r,h as' G' H' p l s'⟩
end
end PI
namespace PI
open PySem L2 L2.L3 L2.L4
def tE (T:CT) (P:Pg) (cl:ax) (E:XS) (e:PI.E):TE:=λσ H Q=>∃env st as G,Sim T st as G H/\aL T as G env σ/\ab T as G (e.run P cl env st) 9#1 (E σ)
def tT (T:CT) (P:Pg) (cl:ax) (E:XS) (e:PI.E):TT:=λσ H Q=>∃env st as G,Sim T st as G H/\aL T as G env σ/\ab T as G (runC P cl 1#e env st) (λb _ _ _ H'=>Q b H') (E σ)
def eD (T:CT) (P:Pg) (cl:ax) (E:XS) (es:2#PI.E):TA:=λσ H Q=>∃env st as G,Sim T st as G H/\aL T as G env σ/\ab T as G (aS P cl es env st) (λvs _ as' G' H'=>∀us,ae T as' G' vs us->Q us H') (E σ)
theorem PE.mono {X:Cx} {e:Expr} {t t':TE} (h:PE X e t) (k:∀σ H Q,t' σ H Q->t σ H Q):PE X e t':=λpins s σ H Q I q=>h pins s σ H Q I (k σ H Q q)
theorem PT.mono {X:Cx} {e:Expr} {t t':TT} (h:PT X e t) (k:∀σ H Q,t' σ H Q->t σ H Q):PT X e t':=λpins s σ H Q I q=>h pins s σ H Q I (k σ H Q q)
theorem PA.mono {X:Cx} {t t':TA} (h:PA X es t) (k:∀σ H Q,t' σ H Q->t σ H Q):PA X es t':=λpos pins s σ H Q I q=>h pos pins s σ H Q I (k σ H Q q)
section
variable {T:CT} {P:Pg} {cl:ax} {E:XS} {X:Cx} {pos:Pos}
theorem aB {α:Type} {e:PI.E} {env:Env} {st:aa} {G H:Hp} {σ:St} {f:Val->aa->R α} {Q:8#27} {K:VK} (s:9#3) (er:aL T as G env σ)
  (h:ab T as G ((e.run P cl env st).bind f) Q (E σ))
  (k:∀v st1 as1 G1 H1 u,Sim T st1 as1 G1 H1->aL T as1 G1 env σ->Rel T as1 G1 v u->as<+:as1->Le G G1->ab T as1 G1 (f v st1) Q (E σ)->K u H1):tE T P cl E e σ H K:=
 ⟨env,st,as,G,s,er,h.bind.imp λv st1 as1 G1 H1 p l s1 q u r=>k v st1 as1 G1 H1 u s1 (er.mono p l) r p l q⟩
theorem cX {α:Type} {es:2#PI.E} {env:Env} {st:aa} {G H:Hp} {σ:St} {f:2#Val->aa->R α} {Q:8#27} {K:2#L2.V->Hp->Prop} (s:9#3) (er:aL T as G env σ)
  (h:ab T as G ((aS P cl es env st).bind f) Q (E σ))
  (k:∀vs st1 as1 G1 H1 us,Sim T st1 as1 G1 H1->aL T as1 G1 env σ->ae T as1 G1 vs us->as<+:as1->Le G G1->ab T as1 G1 (f vs st1) Q (E σ)->K us H1):eD T P cl E es σ H K:=
 ⟨env,st,as,G,s,er,h.bind.imp λv st1 as1 G1 H1 p l s1 q u r=>k v st1 as1 G1 H1 u s1 (er.mono p l) r p l q⟩
theorem ab.aj {α β:Type} {G:Hp} {o:5#α} {st:aa} {f:α->aa->R β} {Q:β->aa->2#Addr->Hp->Hp->Prop} {X:XK} (h:ab T as G ((R.aj o st).bind f) Q X):∃a,o=1#a/\ab T as G (f a st) Q X:=by
 cases o with
 |none=>exact h.elim
 |some a=>exact⟨a,rfl,h⟩
theorem ab.eh {α:Type} {G:Hp} {o:5#α} {st:aa} {Q:8#27} {X:XK} (h:ab T as G (R.aj o st) Q X):∃a,o=1#a/\ab T as G (.ok a st) Q X:=by
 cases o with
 |none=>exact h.elim
 |some a=>exact⟨a,rfl,h⟩
set_option tactic.hygienic true in
theorem ab.iff {α:Type} {G:Hp} {c:Prop} {r:R α} {Q:8#27} {X:XK} (h:ab T as G (iff c r) Q X):c/\ab T as G r Q X:=by
 unfold PI.iff at h;split at h
 ·rename_i z;exact⟨z,h⟩
 ·exact h.elim
theorem JA {i:Int} {j:Nat}:PE X (.Constant 6#i j pos) (tE T P cl E (.const 6#i)):=PE.mono Hq λσ H Q z903=>by let⟨env,st,as,G,s,er,h⟩:=z903;exact h.ok s _ rfl
theorem Lv {i:Bool} {j:Nat}:PE X (.Constant (.bool i) j pos) (tE T P cl E (.const (.bl i))):=PE.mono Jq λσ H Q z903=>by let⟨env,st,as,G,s,er,h⟩:=z903;exact h.ok s _ rfl
theorem Ip {i:Str} {j:Nat}:PE X (.Constant (.str i) j pos) (tE T P cl E (.const (.str i))):=PE.mono Gd λσ H Q z903=>by let⟨env,st,as,G,s,er,h⟩:=z903;exact h.ok s _ rfl
theorem IT {j:Nat}:PE X (.Constant .none j pos) (tE T P cl E (.const .non)):=PE.mono E4 λσ H Q z903=>by let⟨env,st,as,G,s,er,h⟩:=z903;exact h.ok s _ rfl
theorem II {i:Nat} {x:Str} (hN:X.N[i]?=1#x) (hv:ye X.env.scope x) (hd:(x==("__debug__":Str))=false) (hcd:(x==("__classdict__":Str))=false):PE X (.Name x pos) (tE T P cl E 4#i):=
 PE.mono (E2 hN hv hd hcd) λσ H Q z903=>by
  let⟨env,st,as,G,s,er,h⟩:=z903;let⟨v,e,h⟩:=ab.eh h
  have e':env[i]?=1#1#v:=by
   cases q:env[i]? with
   |none=>rw[q] at e;cases e
   |some o=>rw[q] at e;exact congrArg some e
  let⟨u,e1,r⟩:=er.2 i v e';exact⟨u,e1,h.ok s u r⟩
theorem Jp {a b:Expr} {op:Operator} {r:R2} (ho:aJ X (binaryOp op) r) (ha:PE X a (tE T P cl E ia)) (hb:PE X b (tE T P cl E ib))
  (k:∀{st as G H x y u w} {Q:VK} {Z:XK},Sim T st as G H->dC T as G H (res st x) u->dC T as G H (res st y) w->ab T as G (eY op (res st x) (res st y) st) 9#1 Z->r u w H Q):PE X (.BinOp a op b pos) (tE T P cl E (.bin op ia ib)):=
 PE.mono (Jz ho ha hb) λσ H Q z903=>by
  let⟨env,st,as,G,s,er,h⟩:=z903;dsimp only[PI.E.run] at h;refine aB s er h λx st1 as1 G1 H1 u s1 er1 r1 p1 l1 h=> ?_;refine aB s1 er1 h λy st2 as2 G2 H2 w s2 er2 r2 p2 l2 h=> ?_;exact k s2 (aY s2 (r1.mono p2 l2)) (aY s2 r2) h
theorem Iu {a b:Expr} {op:CmpOp} {r:R2} (ho:aJ X (compareOp op) r) (hm:behindInMarks op b=false) (ha:PE X a (tE T P cl E ia)) (hb:PE X b (tE T P cl E ib))
  (k:∀{st as G H x y u w} {Q:VK} {Z:XK},Sim T st as G H->dC T as G H (res st x) u->dC T as G H (res st y) w->ab T as G (dB (bC op (res st x) (res st y) st)) 9#1 Z->r u w H Q):PE X (.Compare a [op] [b] pos) (tE T P cl E (.cmp op ia ib)):=
 PE.mono (Er ho ha hb hm) λσ H Q z903=>by
  let⟨env,st,as,G,s,er,h⟩:=z903;dsimp only[PI.E.run] at h;refine aB s er h λx st1 as1 G1 H1 u s1 er1 r1 p1 l1 h=> ?_;refine aB s1 er1 h λy st2 as2 G2 H2 w s2 er2 r2 p2 l2 h=> ?_;exact k s2 (aY s2 (r1.mono p2 l2)) (aY s2 r2) h
end
end PI
namespace PI
open PySem L2 L2.L3 L2.L4 PySem.SeqAt
noncomputable def pX (f:Val->Val->5#Bool) (xs ys:2#Val) (j:Nat):Bool:=(f (xs.getD j .non) (ys.getD j .non)).getD false
theorem all_succ (n:Nat) (e:Nat->Bool):(List.range (n+1)).all e=(e 0&&(List.range n).all λj=>e (j+1)):=by
 rw[acp,aaP,List.all_map];rfl
theorem cY (f:Val->Val->5#Bool):∀(xs ys:2#Val) (b:Bool),cV f xs ys=1#b->
  b=((List.range (min 0#xs 0#ys)).all (pX f xs ys)&&0#xs==0#ys)/\∀(j:Nat) x y,xs[j]?=1#x->ys[j]?=1#y->f x y=1#(pX f xs ys j)
 |[],[],b,h=>by
  cases h;exact⟨rfl,λj x y e=>by simp at e⟩
 |[],y::ys,b,h=>by
  cases h;exact⟨by simp,λj x y e=>by simp at e⟩
 |x::xs,[],b,h=>by
  cases h;exact⟨by simp,λj x y e e'=>by simp at e'⟩
 |x::xs,y::ys,b,h=>by
  unfold cV at h
  cases e1:f x y with
  |none=>rw[e1] at h;cases h
  |some c=>
   cases e2:cV f xs ys with
   |none=>rw[e1,e2] at h;cases h
   |some c'=>
    rw[e1,e2] at h;cases h;let⟨i1,i2⟩:=cY f xs ys c' e2;have z:∀j,pX f (x::xs) (y::ys) (j+1)=pX f xs ys j:=λj=>rfl
    have z0:pX f (x::xs) (y::ys) 0=c:=by
     show (f x y).getD false=c;rw[e1];rfl
    refine⟨?_,λj x' y' ex ey=> ?_⟩
    ·rw[show min 0#(x::xs) 0#(y::ys)=min 0#xs 0#ys+1 by simp[Nat.succ_min_succ],all_succ,z0,i1];simp only[z,aar,Bool.and_assoc];congr 2;rw[aaA];simp
    ·cases j with
     |zero=>
      simp at ex ey;subst ex ey;rw[z0];exact e1
     |succ j=>
      rw[z];exact i2 j x' y' (by simpa using ex) (by simpa using ey)
theorem ae.get {T:CT} {G:Hp}:∀{vs:2#Val} {us:2#L2.V} {j:Nat} {v:Val},ae T as G vs us->vs[j]?=1#v->∃u,us[j]?=1#u/\Rel T as G v u
 |[],_,_,_,_,e=>by simp at e
 |_::_,_,0,_,⟨u,t,e1,h,r⟩,e=>by
  simp at e;subst e e1;exact⟨u,rfl,h⟩
 |_::_,_,j+1,_,⟨u,t,e1,h,r⟩,e=>by
  subst e1;simpa using ae.get r (by simpa using e)
theorem ae.length {T:CT} {G:Hp}:∀{vs:2#Val} {us:2#L2.V},ae T as G vs us->0#vs=0#us
 |[],_,h=>by
  cases h;rfl
 |_::_,_,⟨u,t,e1,h,r⟩=>by
  subst e1;rw[aar,aar,ae.length r]
section
variable {T:CT} {X:Cx} {pins:8#7} {σ:St} {as:2#Addr} {G H:Hp} {s:9#4}
end
inductive gr (f:2#Val->2#Val->5#Bool):Val->Val->Bool->Prop
 |non:gr f .non .non true
 |bl (a c:Bool):gr f (.bl a) (.bl c) (a==c)
 |int (a c:Int):gr f 6#a 6#c (a==c)
 |str (a c:Str):gr f (.str a) (.str c) (decide (a=c))
 |is (a:Int) (c:Str):gr f 6#a (.str c) false
 |si (a:Str) (c:Int):gr f (.str a) 6#c false
 |tup (p q:Bool) (xs ys:2#Val) (b:Bool) (h:f xs ys=1#b):gr f (.tup p xs) (.tup q ys) b
 |lst (xs ys:2#Val) (b:Bool) (h:f xs ys=1#b):gr f 7#xs 7#ys b
theorem gM {f:2#Val->2#Val->5#Bool} {v w:Val} {b:Bool} (e:HR f v w=1#b):gr f v w b:=by
 cases v with
 |non=>cases w<;>cases e;exact .non
 |bl a=>cases w<;>cases e;exact .bl _ _
 |int a=>
  cases w<;>cases e
  ·exact .int _ _
  ·exact .is _ _
 |str a=>
  cases w<;>cases e
  ·exact .si _ _
  ·exact .str _ _
 |tup p xs=>cases w with
  |tup q ys=>exact .tup _ _ _ _ _ e
  |_=>cases e
 |lst xs=>cases w with
  |lst ys=>exact .lst _ _ _ e
  |_=>cases e
 |_=>cases e
section
variable {T:CT} {X:Cx} {pins:8#7} {σ:St} {as:2#Addr} {G H:Hp} {s:9#4}
theorem pj (I:8#1) (hK:T.K=X.K) (l:Le G H) {f:2#Val->2#Val->5#Bool}
  (hf:∀xs ys us b,f xs ys=1#b->ae T as G xs us->ae T as G ys us->b=true) {v w:Val} {u:L2.V} {b:Bool} (c:gr f v w b) (r1:Rel T as G v u) (r2:Rel T as G w u):b=true:=by
 cases c with
 |non=>rfl
 |bl a c=>cases r1;cases r2;exact abS _
 |int a c=>cases r1;cases r2;exact abS _
 |str a c=>cases r1;cases r2;exact aaH rfl
 |is a c=>cases r1;cases r2
 |si a c=>cases r1;cases r2
 |tup p q xs ys b e=>
  let⟨a,us,rfl,h1,h2⟩:=r1;let⟨a',us',e',h3,h4⟩:=r2;cases e';cases (I.ig (bc l h1) (bc l h3):us=us');exact hf _ _ _ _ e h2 h4
 |lst xs ys b e=>
  let⟨a,us,rfl,h1,h2⟩:=r1;let⟨a',us',e',h3,h4⟩:=r2;cases e';cases (I.jg (hK▸cq l h1) (hK▸cq l h3):us=us');exact hf _ _ _ _ e h2 h4
theorem eT {α:Type} {xs:2#α} {j:Nat} (h:j<0#xs):∃x,xs[j]?=1#x:=⟨_,aac h⟩
theorem qG (I:8#1) (hK:T.K=X.K) (l:Le G H):∀(d:Nat) {v w:Val} {u:L2.V} {b:Bool},eqv d v w=1#b->Rel T as G v u->Rel T as G w u->b=true
 |0,_,_,_,_,e,r1,r2=>pj I hK l (λ_ _ _ _ z=>(by cases z)) (gM e) r1 r2
 |d+1,_,_,_,_,e,r1,r2=>pj I hK l (λxs ys us b e r1 r2=>by
  let⟨i1,i2⟩:=cY (eqv d) xs ys b e;have ln:0#xs=0#ys:=r1.length.trans r2.length.symm;rw[i1,ln,abS,acr,ab4,abo];intro j hj;have hj':=abf.mp hj;let⟨x,e1⟩:=eT (show j<0#xs from ln▸hj');let⟨y,e2⟩:=eT hj';let⟨u1,q1,s1⟩:=r1.get e1;let⟨u2,q2,s2⟩:=r2.get e2;rw[q1] at q2;cases q2
  exact qG I hK l d (i2 j _ _ e1 e2) s1 s2) (gM e) r1 r2
theorem zh {its:2#Value} {j:Nat} {x:Value} (e:its[j]?=1#x) (h:j<its.toArray.size):its.toArray[j]=x:=by
 have z:=aac (show j<0#its from h);exact Option.some.inj (z.symm.trans e)
def G9 (T:CT) (as:2#Addr) (G:Hp) (s:9#4) (A:Around) (g:Val->Val->5#Bool):Prop:=∀(v w:Val) (u u':L2.V) (x y:Value) (c:Bool),g v w=1#c->Rel T as G v u->Rel T as G w u'->RelV u x->RelV u' y->EqAt A s x y c
theorem jq {g:Val->Val->5#Bool} {A:Around} (ih:G9 T as G s A g) {b:Bool} {its its':2#Value} (e:cV g xs ys=1#b) (r1:ae T as G xs us) (r2:ae T as G ys us') (v1:Vals us its) (v2:Vals us' its'):
  ∀j (h1:j<its.toArray.size) (h2:j<its'.toArray.size),EqAt A s its.toArray[j] its'.toArray[j] (pX g xs ys j):=λj h1 h2=>by
 let⟨x,e1⟩:=eT (show j<0#xs from (r1.length.trans 0#v1)▸h1);let⟨y,e2⟩:=eT (show j<0#ys from (r2.length.trans 0#v2)▸h2);let⟨u1,a1,s1⟩:=r1.get e1;let⟨u2,a2,s2⟩:=r2.get e2;let⟨x1,b1,t1⟩:=Vals.get v1 a1;let⟨x2,b2,t2⟩:=Vals.get v2 a2;rw[zh b1 h1,zh b2 h2];exact ih _ _ _ _ _ _ _ ((cY g xs ys b e).2 j _ _ e1 e2) s1 s2 t1 t2
theorem uo (I:8#1) (hK:T.K=X.K) (l:Le G H) {g:Val->Val->5#Bool} {A:Around} (hA:A.units+1<cLine)
  (ih:G9 T as G s A.in1 g) {v w:Val} {u:L2.V} {x y:Value} {b:Bool} (c:gr (cV g) v w b) (r1:Rel T as G v u) (r2:Rel T as G w u') (q1:RelV u x) (q2:RelV u' y):RcAt A s x y b:=by
 cases c with
 |non=>cases r1;cases r2;cases q1;cases q2;exact RcAt.none_none
 |bl a c=>cases r1;cases r2;cases q1;cases q2;exact RcAt.bool_bool _ _
 |int a c=>cases r1;cases r2;let⟨t,rfl⟩:=q1;let⟨t',rfl⟩:=q2;exact RcAt.int_int _ _ _ _
 |str a c=>
  cases r1;cases r2;let⟨t,rfl⟩:=q1;let⟨t',rfl⟩:=q2;rw[show decide (a=c)=(a==c) by rw[aaA];simp];exact RcAt.str_str _ _ _ _
 |is a c=>cases r1;cases r2;let⟨t,rfl⟩:=q1;let⟨t',rfl⟩:=q2;exact RcAt.int_str _ _ _ _
 |si a c=>cases r1;cases r2;let⟨t,rfl⟩:=q1;let⟨t',rfl⟩:=q2;exact RcAt.str_int _ _ _ _
 |tup p q xs ys b e=>
  let⟨a,us,rfl,h1,h2⟩:=r1;let⟨a',us',rfl,h3,h4⟩:=r2;cases q1;cases q2;let⟨its,v1,t1,_⟩:=aO (b:=false) I (bc l h1);let⟨its',v2,t2,_⟩:=aO (b:=false) I (bc l h3);have R:=RcAt.tuples (A:=A) t1 t2 8#0 (jq ih e h2 h4 v1 v2);rw[(cY g _ _ b e).1,h2.length.trans 0#v1,h4.length.trans 0#v2];exact R
 |lst xs ys b e=>
  let⟨a,us,rfl,h1,h2⟩:=r1;let⟨a',us',rfl,h3,h4⟩:=r2;cases q1;cases q2;let⟨its,v1,t1,_⟩:=aO (b:=true) I (hK▸cq l h1);let⟨its',v2,t2,_⟩:=aO (b:=true) I (hK▸cq l h3);rw[(cY g _ _ b e).1,h2.length.trans 0#v1,h4.length.trans 0#v2]
  by_cases hs:0#its=0#its'
  ·have R:=RcAt.lists (A:=A) t1 t2 hs 8#0 (jq ih e h2 h4 v1 v2);rw[hs,abS,acr,ab4];rw[show its.toArray.size=0#its' from hs] at R;exact R
  ·rw[show (0#its==0#its')=false from acK hs,acP];exact RcAt.lists_lengths (A:=A) t1 t2 (by simpa using hs) 8#0
theorem ux {A:Around} {f:2#Val->2#Val->5#Bool} {v w:Val} {u:L2.V} {x y:Value} {b:Bool} (c:gr f v w b) (r1:Rel T as G v u) (r2:Rel T as G w u') (q1:RelV u x) (q2:RelV u' y):EqAt A s x y b∨(∃a a',u= 3#a/\u'= 3#a'):=by
 cases c with
 |non=>cases r1;cases r2;cases q1;cases q2;exact .inl (EqAt.same _)
 |bl a c=>cases r1;cases r2;exact .inl (j6 q1 q2 rfl rfl)
 |int a c=>cases r1;cases r2;exact .inl (j6 q1 q2 rfl rfl)
 |str a c=>
  rw[show decide (a=c)=HM (.str a) (.str c) by show _=(_==_);rw[aaA];simp];cases r1;cases r2;exact .inl (j6 q1 q2 rfl rfl)
 |is a c=>cases r1;cases r2;exact .inl (j6 q1 q2 rfl rfl)
 |si a c=>cases r1;cases r2;exact .inl (j6 q1 q2 rfl rfl)
 |tup p q xs ys b e=>let⟨a,us,h1,_⟩:=r1;let⟨a',us',h2,_⟩:=r2;exact .inr ⟨a,a',h1,h2⟩
 |lst xs ys b e=>let⟨a,us,h1,_⟩:=r1;let⟨a',us',h2,_⟩:=r2;exact .inr ⟨a,a',h1,h2⟩
set_option tactic.hygienic true in
theorem ko (I:8#1) (hK:T.K=X.K) (l:Le G H):∀(d:Nat) {v w:Val} {u u':L2.V} {x y:Value} {b:Bool} {A:Around},A.units+d<cLine->eqv d v w=1#b->Rel T as G v u->Rel T as G w u'->RelV u x->RelV u' y->EqAt A s x y b
 |0,v,w,u,u',x,y,b,A,hA,e,r1,r2,q1,q2=>by
  have c:=gM e;refine(ux c r1 r2 q1 q2).elim id λz900=> ?_;let⟨a,a',h1,h2⟩:=z900
  cases c<;>first|(rename_i z;cases z;done)|(subst h1;cases r1)
 |d+1,v,w,u,u',x,y,b,A,hA,e,r1,r2,q1,q2=>by
  refine(ux (gM e) r1 r2 q1 q2).elim id λz900=> ?_;let⟨a,a',h1,h2⟩:=z900;subst h1;subst h2
  by_cases ha:a=a'
  ·subst ha;rw[qG I hK l (d+1) e r1 r2];cases q1;cases q2;exact EqAt.same _
  ·have R:=uo I hK l (A:=A) 8#0 (λ_ _ _ _ _ _ _ e r1 r2 q1 q2=>ko I hK l d (by show A.units+1+d<cLine;lia) e r1 r2 q1 q2) (gM e) r1 r2 q1 q2;cases q1;cases q2;exact EqAt.of_refs ha R
theorem C3 (I:8#1) (hK:T.K=X.K) (l:Le G H) {g:Val->Val->5#Bool} {A:Around} (hA:A.units+1<cLine)
  (ih:G9 T as G s A.in1 g) {v w:Val} {u:L2.V} {x y:Value} {b:Bool} (c:gr (cV g) v w b) (r1:Rel T as G v u) (r2:Rel T as G w u') (q1:RelV u x) (q2:RelV u' y):RcNeAt A s x y (!b):=by
 cases c with
 |non=>cases r1;cases r2;cases q1;cases q2;exact RcNeAt.none_none
 |bl a c=>cases r1;cases r2;cases q1;cases q2;exact RcNeAt.bool_bool _ _
 |int a c=>cases r1;cases r2;let⟨t,rfl⟩:=q1;let⟨t',rfl⟩:=q2;exact RcNeAt.int_int _ _ _ _
 |str a c=>
  cases r1;cases r2;let⟨t,rfl⟩:=q1;let⟨t',rfl⟩:=q2;rw[show decide (a=c)=(a==c) by rw[aaA];simp];exact RcNeAt.str_str _ _ _ _
 |is a c=>cases r1;cases r2;let⟨t,rfl⟩:=q1;let⟨t',rfl⟩:=q2;exact RcNeAt.int_str _ _ _ _
 |si a c=>cases r1;cases r2;let⟨t,rfl⟩:=q1;let⟨t',rfl⟩:=q2;exact RcNeAt.str_int _ _ _ _
 |tup p q xs ys b e=>
  let⟨a,us,rfl,h1,h2⟩:=r1;let⟨a',us',rfl,h3,h4⟩:=r2;cases q1;cases q2;let⟨its,v1,t1,_⟩:=aO (b:=false) I (bc l h1);let⟨its',v2,t2,_⟩:=aO (b:=false) I (bc l h3);have R:=RcNeAt.tuples (A:=A) t1 t2 8#0 (jq ih e h2 h4 v1 v2);rw[(cY g _ _ b e).1,h2.length.trans 0#v1,h4.length.trans 0#v2];exact R
 |lst xs ys b e=>
  let⟨a,us,rfl,h1,h2⟩:=r1;let⟨a',us',rfl,h3,h4⟩:=r2;cases q1;cases q2;let⟨its,v1,t1,_⟩:=aO (b:=true) I (hK▸cq l h1);let⟨its',v2,t2,_⟩:=aO (b:=true) I (hK▸cq l h3);rw[(cY g _ _ b e).1,h2.length.trans 0#v1,h4.length.trans 0#v2]
  by_cases hs:0#its=0#its'
  ·have R:=RcNeAt.lists (A:=A) t1 t2 hs 8#0 (jq ih e h2 h4 v1 v2);rw[hs,abS,acr,ab4];rw[show its.toArray.size=0#its' from hs] at R;exact R
  ·rw[show (0#its==0#its')=false from acK hs,acP];exact RcNeAt.lists_lengths (A:=A) t1 t2 (by simpa using hs) 8#0
end
theorem dC.rel {T:CT} {G H:Hp} (l:Le G H):∀{v:Val} {u:L2.V},dC T as G H v u->Rel T as H v u
 | .non,_,h=>h
 | .bl _,_,h=>h
 | .int _,_,h=>h
 | .str _,_,h=>h
 | .tup _ _,_,⟨a,us,e,q,r⟩=>⟨a,us,e,mW l q,r.mono (aai _) l⟩
 | .lst _,_,⟨a,us,e,q,r⟩=>⟨a,us,e,q,r.mono (aai _) l⟩
 | .dct _ _,_,⟨a,us,e,q,r⟩=>⟨a,us,e,q,r.mono (aai _) l⟩
 | .obj _ _ _,_,⟨a,us,e,n,r,q⟩=>⟨a,us,e,n,r.mono (aai _) l,q⟩
 | .ref n,_,h=>h.elim
def CD (T:CT) (neg:Bool):R2:=λu w H Q=>∃as v v' b,Rel T as H v u/\Rel T as H v' w/\eqv 8 v v'=1#b/\Q (.bl (if neg=true then !b else b)) H
theorem wa {T:CT} {X:Cx} (hK:T.K=X.K) (hu:X.A.units+8<cLine):aJ X (compareOp .Eq) (CD T false):=by
 intro pins s σ H x y u v Q I rx ry h;let⟨as,v1,v2,b,r1,r2,e,q⟩:=h;exact uo I hK 8#25 (A:=X.A) 8#0 (λ_ _ _ _ _ _ _ e r1 r2 q1 q2=>ko I hK 8#25 7 (by show X.A.units+1+7<cLine;lia) e r1 r2 q1 q2) (gM (f:=cV (eqv 7)) e) r1 r2 rx ry _ _ _ _ ⟨.bl b,H,I,rfl,q⟩
theorem wg {T:CT} {X:Cx} (hK:T.K=X.K) (hu:X.A.units+8<cLine):aJ X (compareOp .NotEq) (CD T true):=by
 intro pins s σ H x y u v Q I rx ry h;let⟨as,v1,v2,b,r1,r2,e,q⟩:=h;exact C3 I hK 8#25 (A:=X.A) 8#0 (λ_ _ _ _ _ _ _ e r1 r2 q1 q2=>ko I hK 8#25 7 (by show X.A.units+1+7<cLine;lia) e r1 r2 q1 q2) (gM (f:=cV (eqv 7)) e) r1 r2 rx ry _ _ _ _ ⟨.bl (!b),H,I,rfl,q⟩
end PI
namespace PI
open PySem L2 L2.L3 L2.L4 PySem.SeqAt PyProof.Rows
abbrev PV (T:CT) (Q:VK):Val->aa->2#Addr->Hp->Hp->Prop:=λv _ as' G' H'=>∀u,Rel T as' G' v u->Q u H'
def cR (T:CT) (f:Val->Val->aa->R Val):R2:=λu w H Q=>∃st as G x y Z,Sim T st as G H/\dC T as G H x u/\dC T as G H y w/\ab T as G (f x y st) (PV T Q) Z
theorem aJ.imp {X:Cx} {f:Value->Value->Sem Value} {r r':R2} (h:aJ X f r) (k:∀x y H Q,r' x y H Q->r x y H Q):aJ X f r':=λpins s σ H x y v u Q I rx ry q=>h pins s σ H x y v u Q I rx ry (k x y H Q q)
section
variable {T:CT} {X:Cx}
theorem jV {f:Value->Value->Sem Value} {C:Int->Int->Prop} {g:Int->Int->L2.V} {h:Int->Int->aa->R Val} (ho:aJ X f (rI C g))
  (k:∀{st as G H Z Q} {i j:Int},Sim T st as G H->ab T as G (h i j st) (PV T Q) Z->C i j/\Q (g i j) H):aJ X f (cR T (bY h)):=
 aJ.imp ho λu w H Q z904=>by
  let⟨st,as,G,x,y,Z,s,r1,r2,p⟩:=z904
  cases x with
  |int i=>cases y with
   |int j=>
    cases r1;cases r2;let⟨c,q⟩:=k s p;exact⟨i,j,rfl,rfl,c,q⟩
   |_=>exact p.elim
  |_=>exact p.elim
theorem IE {g:Int->Int->L2.V} {x y:L2.V} {H:Hp} {Q:VK} (h:rI (λ_ _=>True) g x y H Q):k8 g x y H Q:=by
 let⟨i,j,a,b,_,c⟩:=h;exact⟨i,j,a,b,c⟩
theorem D8:aJ X (binaryOp .Sub) (cR T (bY λi j st=> .ok 6#(i-j) st)):=jV (aJ.imp Ig λ_ _ _ _=>IE) λs p=>⟨trivial,p.ok s _ rfl⟩
theorem EC:aJ X (binaryOp .Mod) (cR T (bY sU)):=jV Ea λs p=>by
 let⟨c,p⟩:=ab.iff p;exact⟨c,p.ok s _ rfl⟩
theorem kC {f:Value->Value->Sem Value} {g:Int->Int->Bool} (ho:aJ X f (k8 λi j=> .bl (g i j))):aJ X f (cR T λx y st=>dB (bY (λi j st=> .ok (g i j) st) x y st)):=
 aJ.imp ho λu w H Q z904=>by
  let⟨st,as,G,x,y,Z,s,r1,r2,p⟩:=z904
  cases x with
  |int i=>cases y with
   |int j=>
    cases r1;cases r2;exact⟨i,j,rfl,rfl,p.ok s _ rfl⟩
   |_=>exact p.elim
  |_=>exact p.elim
theorem FY:aJ X (compareOp .Lt) (cR T λx y st=>dB (bC .Lt x y st)):=kC Jv
theorem Fh:aJ X (compareOp .LtE) (cR T λx y st=>dB (bC .LtE x y st)):=kC IY
theorem EW:aJ X (compareOp .Gt) (cR T λx y st=>dB (bC .Gt x y st)):=kC JR
theorem GS:aJ X (compareOp .GtE) (cR T λx y st=>dB (bC .GtE x y st)):=kC IA
theorem tw {i:Int} (h:big i):Builtin.Int.intBits i<=1000:=by
 unfold Builtin.Int.intBits;split
 ·exact aaX _
 ·have:i.natAbs.log2<1000:=by
   rcases Nat.eq_zero_or_pos i.natAbs with h0|hp
   ·rw[h0];decide
   ·exact(Nat.log2_lt (abJ hp)).mpr h
  lia
theorem Hu {i j:Int} (h:xj i j):IntMulOk i j:=by
 rcases h with h|h|⟨h1,h2⟩
 ·exact IntMulOk.of_left (intBits_le_64 8#0 8#0)
 ·exact IntMulOk.of_right (intBits_le_64 8#0 8#0)
 ·have b1:=tw h1;have b2:=tw h2;unfold IntMulOk
  have:Builtin.Int.intTooBig (Builtin.Int.intBits i+Builtin.Int.intBits j)=false:=by
   unfold Builtin.Int.intTooBig;have z:bitsLine=2^27:=rfl;simp only[decide_eq_false_iff_not,z];lia
  rw[this,acP];decide
theorem Dc:aJ X (binaryOp .Mult) (cR T (bY lJ)):=jV (Cu (C:=IntMulOk) (g:=λi j=>i*j) λ_ _ _ _ _ _ _ hc q=>mul_int q hc) λs p=>by
 let⟨c,p⟩:=ab.iff p;exact⟨Hu c,p.ok s _ rfl⟩
theorem Hm {i j:Int} (h:big j):Builtin.divisionGoesByPylong i j=false:=by
 unfold Builtin.divisionGoesByPylong
 have:(if (j==0)=true then 0 else j.natAbs.log2/30+1)<=300:=by
  split
  ·lia
  ·have:j.natAbs.log2<1000:=by
    rcases Nat.eq_zero_or_pos j.natAbs with h0|hp
    ·rw[h0];decide
    ·exact(Nat.log2_lt (abJ hp)).mpr h
   lia
 simp only[Bool.and_eq_false_iff,decide_eq_false_iff_not];left;lia
theorem Dp:aJ X (binaryOp .FloorDiv) (cR T (bY tf)):=jV (Cu (C:=λi j=>j≠0/\big j) (g:=λi j=>i.fdiv j) λ_ _ _ _ _ _ _ hc q=>floordiv_int hc.1 q (.inl (Hm hc.2))) λs p=>by
 let⟨c,p⟩:=ab.iff p;exact⟨c,p.ok s _ rfl⟩
theorem C6:aJ X (binaryOp .Pow) (cR T (bY xh)):=jV ER λs p=>by
 let⟨c,p⟩:=ab.iff p;exact⟨⟨c.1,by lia,c.2.2⟩,p.ok s _ rfl⟩
def Iy (K:8#4):R2:=λx y H Q=>∃l b xs zs,x= 3#l/\y= 3#b/\bN K H l xs/\bN K H b zs/\0#xs+0#zs<=sizeLine/\∀p,H p=none->Q 3#p (upd H p 7#(xs++zs))
theorem El:aJ X (binaryOp .Add) (Iy X.K):=by
 intro pins s σ H x y v u Q I rx ry h;let⟨l,b,xs,zs,rfl,rfl,hH,hB,hz,q⟩:=h;cases rx;cases ry;let⟨vs,r1,hl,_⟩:=aO (b:=true) I hH;let⟨ws,r2,hb,_⟩:=aO (b:=true) I hB;let⟨⟨cls,dd,data,sl⟩,ho,hc,n,hd⟩:=id hl;let⟨⟨cls2,dd2,data2,sl2⟩,ho2,hc2,n2,hd2⟩:=id hb;simp only at hc hd hc2 hd2;subst hc hd hc2 hd2
 have e:vs.toArray++ws.toArray=(vs++ws).toArray:=by simp
 refine concat_meets ⟨_,ho,rfl⟩ ⟨_,ho2,rfl⟩ noFill_list_add seq_list_add PySem.F.slot_list_add PySem.F.entry_list_add (PySem.F.args_list_add_2 _ _) (list_addW l b vs.toArray ws.toArray n n2 dd dd2 sl sl2 (by simpa[0#r1,0#r2] using hz)) ⟨ho,ho2, ?_⟩;rw[e];exact⟨3#_,_,I.L5 (t':=s.toks) (r1.append r2) (by rw[aaL];lia),rfl,q _ I.fresh⟩
theorem ae.append {G:Hp}:∀{xs ys:2#Val} {us ws:2#L2.V},ae T as G xs us->ae T as G ys ws->ae T as G (xs++ys) (us++ws)
 |[],_,_,_,h,r=>by
  cases h;exact r
 |_::_,_,_,_,⟨u,t,e,h,q⟩,r=>by
  subst e;exact⟨u,_,rfl,h,ae.append q r⟩
theorem oA {st:aa} {G H:Hp} {Q:VK} {Z:XK} (s:9#3) (r:ae T as G xs us) (p:ab T as G (.ok (.tup false xs) st) (PV T Q) Z) {a:Addr} (ha:H a=none):Q 3#a (upd H a (.tup us)):=by
 have l:Le G (upd G a (.tup us)):=Le.new (s.fresh ha).2;exact p as _ _ (aai _) l (s.wm ha) _ ⟨a,us,rfl,(show upd G a (.tup us) a=_ from aq),r.mono (aai _) l⟩
theorem AK {st:aa} {G H:Hp} {Q:VK} {Z:XK} (s:9#3) (r:ae T as G xs us) (p:ab T as G (.ok (.tup true xs) st) (PV T Q) Z) {a:Addr} {o:Obj} (ha:H a=none) (ho:o.dict=none):Q 3#a (upd H a (.aG o (.tup us))):=by
 have l:Le G (upd G a (.aG o (.tup us))):=Le.new (s.fresh ha).2;exact p as _ _ (aai _) l (s.wm ha) _ ⟨a,us,rfl,⟨o,aq,ho⟩,r.mono (aai _) l⟩
theorem gh {st:aa} {G H:Hp} {Q:VK} {Z:XK} (s:9#3) (r:ae T as G xs us) (p:ab T as G (new 7#xs st) (PV T Q) Z) {a:Addr} (ha:H a=none):Q 3#a (upd H a 7#us):=by
 refine p (as++[a]) G _ (aav _ _) 8#25 (s.push ha ⟨us,aq,r.mono (aav _ _) 8#25⟩) _ ⟨a, ?_,rfl⟩;rw[←s.len,aal (aah _)];simp
theorem Dd (hK:T.K=X.K):aJ X (binaryOp .Add) (cR T lQ):=by
 refine aJ.imp (((Ft (X:=X)).or wL).or ((Ez (X:=X)).or El)) λu w H Q z904=> ?_;let⟨st,as,G,x,y,Z,s,r1,r2,p⟩:=z904
 cases x with
 |int i=>cases y with
  |int j=>
   cases r1;cases r2;exact .inl (.inl ⟨i,j,rfl,rfl,p.ok s _ rfl⟩)
  |_=>exact p.elim
 |str i=>cases y with
  |str j=>
   cases r1;cases r2;let⟨c,p⟩:=ab.iff p;have z:sizeLine=2^24:=rfl;exact .inl (.inr ⟨i,j,rfl,rfl,by lia,p.ok s _ rfl⟩)
  |_=>exact p.elim
 |tup fl xs=>cases y with
  |tup fl ys=>
   let⟨a,us,rfl,q1,s1⟩:=r1;let⟨b,ws,rfl,q2,s2⟩:=r2;let⟨c,p⟩:=ab.iff p;have z:sizeLine=2^24:=rfl;refine .inr (.inl ⟨a,b,us,ws,rfl,rfl,bc s.sub q1,bc s.sub q2,λz=>c.1 ?_,by rw[←0#s1,←0#s2];lia,λz=> ?_,λ_ l hl=>oA s (s1.append s2) p hl⟩)
   ·have:=0#s1;rw[z] at this;exact aaI this
   ·refine absurd ?_ c.2.1;have:=0#s2;rw[z] at this;exact aaI this
  |_=>exact p.elim
 |lst xs=>cases y with
  |lst ys=>
   let⟨a,us,rfl,q1,s1⟩:=r1;let⟨b,ws,rfl,q2,s2⟩:=r2;let⟨c,p⟩:=ab.iff p;have z:sizeLine=2^24:=rfl;exact .inr (.inr ⟨a,b,us,ws,rfl,rfl,hK▸q1,hK▸q2,by rw[←0#s1,←0#s2];lia,λl hl=>gh s (s1.append s2) p hl⟩)
  |_=>exact p.elim
 |_=>exact p.elim
theorem G8 (hK:T.K=X.K) (hu:X.A.units+8<cLine):aJ X (compareOp .Eq) (cR T λx y st=>dB (bC .Eq x y st)):=
 aJ.imp (wa hK hu) λu w H Q z904=>by
  let⟨st,as,G,x,y,Z,s,r1,r2,p⟩:=z904;let⟨b,e,p⟩:=ab.aj (show ab T as G ((R.aj (eqv 8 x y) st).bind λb st=> .ok (.bl b) st) (PV T Q) Z from p);exact⟨as,x,y,b,r1.rel s.sub,r2.rel s.sub,e,p.ok s _ rfl⟩
theorem EL (hK:T.K=X.K) (hu:X.A.units+8<cLine):aJ X (compareOp .NotEq) (cR T λx y st=>dB (bC .NotEq x y st)):=
 aJ.imp (wg hK hu) λu w H Q z904=>by
  let⟨st,as,G,x,y,Z,s,r1,r2,p⟩:=z904;let⟨c,e,p⟩:=ab.aj (show ab T as G ((R.aj ((eqv 8 x y).map λb=> !b) st).bind λb st=> .ok (.bl b) st) (PV T Q) Z from p);let⟨b,e1,e2⟩:=aab.mp e;subst e2;exact⟨as,x,y,b,r1.rel s.sub,r2.rel s.sub,e1,p.ok s _ rfl⟩
theorem vY {G H:Hp} {v:Val} {u:L2.V} (h:dC T as G H v u):decide (u= .non)=jb v:=by
 cases v with
 |non=>cases h;rfl
 |bl b=>cases h;rfl
 |int b=>cases h;rfl
 |str b=>cases h;rfl
 |ref k=>exact h.elim
 |tup fl xs=>let⟨a,us,rfl,_⟩:=h;rfl
 |lst xs=>let⟨a,us,rfl,_⟩:=h;rfl
 |dct ks vs=>let⟨a,us,rfl,_⟩:=h;rfl
 |obj c ns vs=>let⟨a,us,rfl,_⟩:=h;rfl
theorem aJ.or {f:Value->Value->Sem Value} {r r':L2.V->L2.V->Hp->VK->Prop} (h:aJ X f r) (h':aJ X f r'):aJ X f (λx y H Q=>r x y H Q∨r' x y H Q):=λpins s σ H x y v u Q I rx ry q=>q.elim (h pins s σ H x y v u Q I rx ry) (h' pins s σ H x y v u Q I rx ry)
theorem bool_beq (a b:Bool):(Value.bool a==Value.bool b)=(a==b):=by cases a<;>cases b<;>decide
theorem Ho:aJ X (compareOp .Is) (λx y H Q=>∃a b,x= .bl a/\y= .bl b/\Q (.bl (a==b)) H):=by
 intro pins s σ H x y v u Q I rx ry ⟨a,b,e1,e2,q⟩;subst e1 e2;cases rx;cases ry;exact wpAny_is_plain rfl (L2.nj I q (bool_beq a b).symm)
theorem Ds:aJ X (compareOp .IsNot) (λx y H Q=>∃a b,x= .bl a/\y= .bl b/\Q (.bl (!(a==b))) H):=by
 intro pins s σ H x y v u Q I rx ry ⟨a,b,e1,e2,q⟩;subst e1 e2;cases rx;cases ry;exact wpAny_isNot_plain rfl (L2.nj I q (by rw[bool_beq]))
theorem E6:aJ X (compareOp .Is) (cR T λx y st=>dB (bC .Is x y st)):=
 aJ.imp (aJ.or H8 Ho) λu w H Q z904=>by
  let⟨st,as,G,x,y,Z,s,r1,r2,p⟩:=z904
  cases y with
  |non=>
   cases r2;refine .inl ⟨rfl, ?_⟩;rw[vY r1];exact p.ok s _ rfl
  |bl b=>cases x with
   |bl a=>
    cases r1;cases r2;exact .inr ⟨a,b,rfl,rfl,p.ok s _ rfl⟩
   |_=>exact p.elim
  |_=>exact p.elim
theorem xB:aJ X (compareOp .IsNot) (cR T λx y st=>dB (bC .IsNot x y st)):=
 aJ.imp (aJ.or DL Ds) λu w H Q z904=>by
  let⟨st,as,G,x,y,Z,s,r1,r2,p⟩:=z904
  cases y with
  |non=>
   cases r2;refine .inl ⟨rfl, ?_⟩;rw[vY r1];exact p.ok s _ rfl
  |bl b=>cases x with
   |bl a=>
    cases r1;cases r2;exact .inr ⟨a,b,rfl,rfl,p.ok s _ rfl⟩
   |_=>exact p.elim
  |_=>exact p.elim
end
end PI
namespace PI
open PySem L2 L2.L3 L2.L4 PySem.SeqAt
section
variable {T:CT} {X:Cx} {pins:8#7} {σ:St} {as:2#Addr} {G H:Hp} {s:9#4}
theorem Bg {g:Val->Val->5#Bool} (ih:∀v v' w u b b',Rel T as G v u->Rel T as G v' u->g v w=1#b->g v' w=1#b'->b=b') (us:2#L2.V) (xs xs' ys:2#Val) (b b':Bool) (r:ae T as G xs us) (r':ae T as G xs' us) (e:cV g xs ys=1#b) (e':cV g xs' ys=1#b'):b=b':=by
 let⟨i1,i2⟩:=cY g xs ys b e;let⟨j1,j2⟩:=cY g xs' ys b' e';have ln:0#xs=0#xs':=r.length.trans r'.length.symm;rw[i1,j1,ln];refine congrArg (· &&_) (aaA.mpr ?_);rw[abo,abo]
 have at_:∀j∈List.range (min 0#xs' 0#ys),pX g xs ys j=pX g xs' ys j:=λj hj=>by
  have hj':=abf.mp hj;let⟨x,e1⟩:=eT (show j<0#xs by lia);let⟨x',e2⟩:=eT (show j<0#xs' by lia);let⟨y,e3⟩:=eT (show j<0#ys by lia);let⟨u1,q1,s1⟩:=r.get e1;let⟨u2,q2,s2⟩:=r'.get e2;rw[q1] at q2;cases q2;exact ih _ _ _ _ _ _ s1 s2 (i2 j _ _ e1 e3) (j2 j _ _ e2 e3)
 exact⟨λh j hj=>(at_ j hj)▸h j hj,λh j hj=>(at_ j hj).symm▸h j hj⟩
theorem rp (I:8#1) (hK:T.K=X.K) (l:Le G H) {f:2#Val->2#Val->5#Bool} (hf:∀us xs xs' ys b b',ae T as G xs us->ae T as G xs' us->f xs ys=1#b->f xs' ys=1#b'->b=b')
  {v w:Val} {u:L2.V} {b b':Bool} (r1:Rel T as G v u) (r2:Rel T as G v' u) (c:gr f v w b) (c':gr f v' w b'):b=b':=by
 cases c with
 |non=>cases c';rfl
 |bl a c=>cases c';cases r1;cases r2;rfl
 |int a c=>cases c'<;>cases r1<;>cases r2;rfl
 |str a c=>cases c'<;>cases r1<;>cases r2;rfl
 |is a c=>cases c'<;>cases r1<;>cases r2;rfl
 |si a c=>cases c'<;>cases r1<;>cases r2;rfl
 |tup p q xs ys b e=>
  cases c' with
  |tup p' _ xs' _ b' e'=>
   let⟨a,us,rfl,h1,h2⟩:=r1;let⟨a',us',z,h3,h4⟩:=r2;cases z;cases (I.ig (bc l h1) (bc l h3):us=us');exact hf _ _ _ _ _ _ h2 h4 e e'
 |lst xs ys b e=>
  cases c' with
  |lst xs' _ b' e'=>
   let⟨a,us,rfl,h1,h2⟩:=r1;let⟨a',us',z,h3,h4⟩:=r2;cases z;cases (I.jg (hK▸cq l h1) (hK▸cq l h3):us=us');exact hf _ _ _ _ _ _ h2 h4 e e'
theorem vJ (I:8#1) (hK:T.K=X.K) (l:Le G H):∀(d:Nat) {v v' w:Val} {u:L2.V} {b b':Bool},Rel T as G v u->Rel T as G v' u->eqv d v w=1#b->eqv d v' w=1#b'->b=b'
 |0,_,_,_,_,_,_,r1,r2,e,e'=>rp I hK l (λ_ _ _ _ _ _ _ _ z=>(by cases z)) r1 r2 (gM e) (gM e')
 |d+1,_,_,_,_,_,_,r1,r2,e,e'=>rp I hK l (f:=cV (eqv d)) (Bg (g:=eqv d) λ_ _ _ _ _ _ r1 r2 e e'=>vJ I hK l d r1 r2 e e') r1 r2 (gM e) (gM e')
theorem uJ {x:Val}:∀{ys:2#Val} {b:Bool},cZ x ys=1#b->(∀y∈ys,∃c,eqv 8 y x=1#c)/\(b=true↔∃y∈ys,eqv 8 y x=1#true)
 |[],b,e=>by
  cases e;exact⟨λy h=>(by cases h),by simp⟩
 |y::ys,b,e=>by
  unfold cZ at e
  cases e1:eqv 8 y x with
  |none=>rw[e1] at e;cases e
  |some c=>
   cases e2:cZ x ys with
   |none=>rw[e1,e2] at e;cases e
   |some c'=>
    rw[e1,e2] at e;cases e;let⟨i1,i2⟩:=uJ e2;refine⟨λy' hy=> ?_, ?_⟩
    ·rcases aaq.mp hy with z|z
     ·rw[z];exact⟨c,e1⟩
     ·exact i1 y' z
    ·simp only[abk,aaq,exists_eq_or_imp,e1,i2,Option.some.injEq]
noncomputable def J1:Value->L2.V
 | .bool b=> .bl b
 | .int i _=> 6#i
 | .str i _=> .str i
 | .bytes i _=> .byt i
 | .float i _=> .flt i
 | .ref a=> 3#a
 | .type n=> .ty n
 |_=> .non
theorem RelV.back {u:L2.V} {x:Value} (h:RelV u x):J1 x=u:=by
 cases u with
 |non=>cases h;rfl
 |bl b=>cases h;rfl
 |int i=>let⟨t,rfl⟩:=h;rfl
 |str i=>let⟨t,rfl⟩:=h;rfl
 |byt i=>let⟨t,rfl⟩:=h;rfl
 |flt i=>let⟨t,rfl⟩:=h;rfl
 |ref a=>cases h;rfl
 |ty n=>cases h;rfl
theorem RelV.one {u:L2.V} {x:Value} (h:RelV u x) (h':RelV u' x):u=u':=(RelV.back h).symm.trans (RelV.back h')
open Classical in
noncomputable def isIn (T:CT) (as:2#Addr) (G:Hp) (ys:2#Val) (us:2#L2.V) (x:Val) (z:Value):Bool:=decide (∃(j:Nat) (v:Val) (u:L2.V),ys[j]?=1#v/\us[j]?=1#u/\RelV u z/\eqv 8 v x=1#true)
open Classical in
theorem jl (I:8#1) (hK:T.K=X.K) (l:Le G H) {A:Around} (hA:A.units+8<cLine) {x:Val} {u:L2.V} {xv:Value} {its:2#Value} {b:Bool} (rx:Rel T as G x u) (qx:RelV u xv) (r:ae T as G ys us) (q:Vals us its) (e:cZ x ys=1#b):
  (∀z,z∈its.toArray->EqAt A s z xv (isIn T as G ys us x z))/\its.toArray.any (isIn T as G ys us x)=b:=by
 let⟨m1,m2⟩:=uJ e
 have at_:∀(j:Nat) z,its[j]?=1#z->∃v u',ys[j]?=1#v/\us[j]?=1#u'/\Rel T as G v u'/\RelV u' z:=λj z hz=>by
  have lj:j<0#ys:=by rw[0#r,0#q];exact(aae.mp hz).1
  have e1:ys[j]?=1#ys[j]:=aac lj;let⟨u',e2,h1⟩:=r.get e1;let⟨z',e3,h2⟩:=Vals.get q e2;rw[hz] at e3;cases e3;exact⟨_,u',e1,e2,h1,h2⟩
 have val:∀(j:Nat) z v u' c,ys[j]?=1#v->us[j]?=1#u'->RelV u' z->Rel T as G v u'->eqv 8 v x=1#c->isIn T as G ys us x z=c:=λj z v u' c e1 e2 h1 h2 ec=>by
  cases c with
  |true=>exact aaH ⟨j,v,u',e1,e2,h1,ec⟩
  |false=>
   refine aaB λz900=> ?_;let⟨k,v',u2,a1,a2,a3,a4⟩:=z900;have z2:=RelV.one h1 a3;subst z2;let⟨u3,b1,b2⟩:=r.get a1;rw[a2] at b1;cases b1;cases vJ I hK l 8 h2 b2 ec a4
 refine⟨λz hz=> ?_, ?_⟩
 ·let⟨j,hj⟩:=abr.mp (show z∈its by simpa using hz);let⟨v,u',e1,e2,h1,h2⟩:=at_ j z hj;let⟨c,ec⟩:=m1 v (aau e1);rw[val j z v u' c e1 e2 h2 h1 ec];exact ko I hK l 8 hA ec h1 rx h2 qx
 ·rw[aaA,m2,List.any_toArray,acy];constructor
  ·rintro ⟨z,hz,t⟩
   let⟨j,v,u',e1,e2,h1,h2⟩:=aa4 t;exact⟨v,aau e1,h2⟩
  ·rintro ⟨v,hv,ev⟩
   let⟨j,hj⟩:=abr.mp hv;let⟨u',e2,h1⟩:=r.get hj;let⟨z,e3,h2⟩:=Vals.get q e2;exact⟨z,aau e3,val j z v u' true hj e2 h2 h1 ev⟩
end
section
variable {T:CT} {X:Cx}
def GF (neg:Bool) (x:Val):Val->aa->R Bool
 | .tup _ ys,st=>R.aj ((cZ x ys).map λb=>if neg=true then !b else b) st
 | .lst ys,st=>R.aj ((cZ x ys).map λb=>if neg=true then !b else b) st
 |_,_=> .stuck
theorem xM (hK:T.K=X.K) (hu:X.A.units+9<cLine):aJ X (compareOp .In) (cR T λx y st=>dB (GF false x y st)):=by
 intro pins s σ H u w uv wv Q I ru rw' ⟨st,as,G,x,y,Z,sm,r1,r2,p⟩
 have hA:X.A.in1.units+8<cLine:=by show X.A.units+1+8<cLine;lia
 cases y with
 |tup fl ys=>
  let⟨a,us,rfl,q1,s1⟩:=r2;cases rw';let⟨v,e,p⟩:=ab.aj (show ab T as G ((R.aj ((cZ x ys).map λb=>b) st).bind λb st=> .ok (.bl b) st) (PV T Q) Z from p);let⟨b,e1,e2⟩:=aab.mp e;subst e2;let⟨its,v1,t1,_⟩:=aO (b:=false) I (bc sm.sub q1);let⟨c1,c2⟩:=jl (A:=X.A.in1) I hK 8#25 hA (r1.rel sm.sub) ru (s1.mono (aai _) sm.sub) v1 e1;refine in_tupleAt _ t1 c1 ?_;rw[c2];exact⟨.bl b,H,I,rfl,p.ok sm _ rfl⟩
 |lst ys=>
  let⟨a,us,rfl,q1,s1⟩:=r2;cases rw';let⟨v,e,p⟩:=ab.aj (show ab T as G ((R.aj ((cZ x ys).map λb=>b) st).bind λb st=> .ok (.bl b) st) (PV T Q) Z from p);let⟨b,e1,e2⟩:=aab.mp e;subst e2;let⟨its,v1,t1,_⟩:=aO (b:=true) I (hK▸q1);let⟨c1,c2⟩:=jl (A:=X.A.in1) I hK 8#25 hA (r1.rel sm.sub) ru (s1.mono (aai _) sm.sub) v1 e1;refine in_listAt _ t1 c1 ?_;rw[c2];exact⟨.bl b,H,I,rfl,p.ok sm _ rfl⟩
 |_=>exact p.elim
theorem pd (hK:T.K=X.K) (hu:X.A.units+9<cLine):aJ X (compareOp .NotIn) (cR T λx y st=>dB (GF true x y st)):=by
 intro pins s σ H u w uv wv Q I ru rw' ⟨st,as,G,x,y,Z,sm,r1,r2,p⟩
 have hA:X.A.in1.units+8<cLine:=by show X.A.units+1+8<cLine;lia
 cases y with
 |tup fl ys=>
  let⟨a,us,rfl,q1,s1⟩:=r2;cases rw';let⟨v,e,p⟩:=ab.aj (show ab T as G ((R.aj ((cZ x ys).map λb=> !b) st).bind λb st=> .ok (.bl b) st) (PV T Q) Z from p);let⟨b,e1,e2⟩:=aab.mp e;subst e2;let⟨its,v1,t1,_⟩:=aO (b:=false) I (bc sm.sub q1);let⟨c1,c2⟩:=jl (A:=X.A.in1) I hK 8#25 hA (r1.rel sm.sub) ru (s1.mono (aai _) sm.sub) v1 e1;refine notIn_tupleAt _ t1 c1 ?_;rw[c2];exact⟨.bl !b,H,I,rfl,p.ok sm _ rfl⟩
 |lst ys=>
  let⟨a,us,rfl,q1,s1⟩:=r2;cases rw';let⟨v,e,p⟩:=ab.aj (show ab T as G ((R.aj ((cZ x ys).map λb=> !b) st).bind λb st=> .ok (.bl b) st) (PV T Q) Z from p);let⟨b,e1,e2⟩:=aab.mp e;subst e2;let⟨its,v1,t1,_⟩:=aO (b:=true) I (hK▸q1);let⟨c1,c2⟩:=jl (A:=X.A.in1) I hK 8#25 hA (r1.rel sm.sub) ru (s1.mono (aai _) sm.sub) v1 e1;refine notIn_listAt _ t1 c1 ?_;rw[c2];exact⟨.bl !b,H,I,rfl,p.ok sm _ rfl⟩
 |_=>exact p.elim
end
section
variable {T:CT} {P:Pg} {cl:ax} {E:XS} {X:Cx} {pos:Pos}
theorem Ld {a b:Expr} {op:Operator} (ho:aJ X (binaryOp op) (cR T (eY op))) (ha:PE X a (tE T P cl E ia)) (hb:PE X b (tE T P cl E ib)):PE X (.BinOp a op b pos) (tE T P cl E (.bin op ia ib)):=
 Jp ho ha hb λs r1 r2 p=>⟨_,_,_,_,_,_,s,r1,r2,p⟩
theorem Mh {a b:Expr} {op:CmpOp} (ho:aJ X (compareOp op) (cR T λx y st=>dB (bC op x y st))) (hm:behindInMarks op b=false) (ha:PE X a (tE T P cl E ia)) (hb:PE X b (tE T P cl E ib)):PE X (.Compare a [op] [b] pos) (tE T P cl E (.cmp op ia ib)):=
 Iu ho hm ha hb λs r1 r2 p=>⟨_,_,_,_,_,_,s,r1,r2,p⟩
theorem IS {a b:Expr} {rest:2#Expr} (ha:PE X a (tE T P cl E ia)) (hb:PE X (.BoolOp .And (b::rest) pos) (tE T P cl E ib)):PE X (.BoolOp .And (a::b::rest) pos) (tE T P cl E (.and ia ib)):=
 PE.mono (Gk ha hb) λσ H Q z903=>by
  let⟨env,st,as,G,s,er,h⟩:=z903;dsimp only[PI.E.run] at h;refine aB s er h λx st1 as1 G1 H1 u s1 er1 r1 p1 l1 h=> ?_
  cases x with
  |bl t=>
   cases r1;refine⟨t,rfl, ?_⟩
   cases t with
   |true=>exact lM ⟨env,st1,as1,G1,s1,er1,h⟩
   |false=>exact lZ (h.ok s1 _ rfl)
  |_=>exact h.elim
theorem Mq {a b:Expr} {rest:2#Expr} (ha:PE X a (tE T P cl E ia)) (hb:PE X (.BoolOp .Or (b::rest) pos) (tE T P cl E ib)):PE X (.BoolOp .Or (a::b::rest) pos) (tE T P cl E (.or ia ib)):=
 PE.mono (Jk ha hb) λσ H Q z903=>by
  let⟨env,st,as,G,s,er,h⟩:=z903;dsimp only[PI.E.run] at h;refine aB s er h λx st1 as1 G1 H1 u s1 er1 r1 p1 l1 h=> ?_
  cases x with
  |bl t=>
   cases r1;refine⟨t,rfl, ?_⟩
   cases t with
   |true=>exact lM (h.ok s1 _ rfl)
   |false=>exact lZ ⟨env,st1,as1,G1,s1,er1,h⟩
  |_=>exact h.elim
theorem J7 {a:Expr} (ha:PE X a (tE T P cl E ia)):PE X (.UnaryOp .Not a pos) (tE T P cl E (.not ia)):=
 PE.mono (Gx ha) λσ H Q z903=>by
  let⟨env,st,as,G,s,er,h⟩:=z903;dsimp only[PI.E.run] at h;refine aB s er h λx st1 as1 G1 H1 u s1 er1 r1 p1 l1 h=> ?_
  cases x with
  |bl t=>
   cases r1;exact⟨t,rfl,h.ok s1 _ rfl⟩
  |_=>exact h.elim
set_option tactic.hygienic true in
theorem EI {st:aa} {G H:Hp} {x:Val} {u:L2.V} {b:Bool} (hK:T.K=X.K) (s:9#3) (r:dC T as G H x u) (e:truth x=1#b):BW X.K u H b:=by
 cases x with
 |non=>cases r;cases e;rfl
 |bl t=>cases r;cases e;rfl
 |int i=>cases r;cases e;rfl
 |str y=>
  cases r;replace e:(if 0#y<=1000 then 1#((0#y:Int) !=0) else none)=1#b:=e;split at e
  ·rename_i c;cases e;have z:sizeLine=2^24:=rfl;exact⟨by lia,rfl⟩
  ·cases e
 |tup fl xs=>
  let⟨a,us,rfl,q,r⟩:=r;cases e;refine .inr (.inl ⟨us,bc s.sub q, ?_⟩)
  cases xs with
  |nil=>cases r;rfl
  |cons x xs=>let⟨_,_,rfl,_⟩:=r;rfl
 |lst xs=>
  let⟨a,us,rfl,q,r⟩:=r;cases e;refine .inl ⟨us,hK▸q, ?_⟩
  cases xs with
  |nil=>cases r;rfl
  |cons x xs=>let⟨_,_,rfl,_⟩:=r;rfl
 |dct ks vs=>cases e
 |obj c ns vs=>cases e
 |ref k=>cases e
theorem Iw {a:Expr} (hK:T.K=X.K) (ha:PE X a (tE T P cl E ia)) (he:∀whole,isTrue a X.env whole=(do let v←whole;standAt a.pos;holding [v] (truthy v))):PT X a (tT T P cl E ia):=
 PT.mono (Al ha he) λσ H Q z903=>by
  let⟨env,st,as,G,s,er,h⟩:=z903;dsimp only[runC] at h;refine aB s er h λx st1 as1 G1 H1 u s1 er1 r1 p1 l1 h=> ?_;let⟨b,e,h⟩:=ab.eh h;exact⟨b,EI hK s1 (aY s1 r1) e,h.ok s1⟩
theorem IV {a b:Expr} {op:CmpOp} (ho:aJ X (compareOp op) (cR T λx y st=>dB (bC op x y st))) (hm:behindInMarks op b=false) (ha:PE X a (tE T P cl E ia)) (hb:PE X b (tE T P cl E ib)):PT X (.Compare a [op] [b] pos) (tT T P cl E (.cmp op ia ib)):=
 PT.mono (D5 ho ha hb hm) λσ H Q z903=>by
  let⟨env,st,as,G,s,er,h⟩:=z903;dsimp only[runC,PI.E.run] at h;have h2:=h.bind;refine aB s er h2 λx st1 as1 G1 H1 u s1 er1 r1 p1 l1 h=> ?_;refine aB s1 er1 h λy st2 as2 G2 H2 w s2 er2 r2 p2 l2 h=> ?_;refine⟨st2,as2,G2,_,_,E σ,s2,aY s2 (r1.mono p2 l2),aY s2 r2, ?_⟩;show ab T as2 G2 (dB (bC op (res st2 x) (res st2 y) st2)) _ _
  cases e:bC op (res st2 x) (res st2 y) st2 with
  |stuck=>rw[e] at h;exact h.elim
  |exc x st=>rw[e] at h;exact h
  |ok b st3=>
   rw[e] at h;exact λas' G' H' p l s u ru=>⟨b,ru,(h as' G' H' p l s).ok s⟩
theorem rH {e:PI.E} {env:Env} {st:aa} {G H:Hp} {σ:St} {f:Val->aa->R Bool} {Q K:Bool->Hp->Prop} (s:9#3) (er:aL T as G env σ)
  (h:ab T as G ((e.run P cl env st).bind f) (λb _ _ _ H'=>Q b H') (E σ))
  (k:∀t st1 as1 G1 H1,Sim T st1 as1 G1 H1->aL T as1 G1 env σ->ab T as1 G1 (f (.bl t) st1) (λb _ _ _ H'=>Q b H') (E σ)->K t H1) (hb:∀v st,(∀t,v≠ .bl t)->f v st= .stuck):tT T P cl E e σ H K:=by
 refine⟨env,st,as,G,s,er, ?_⟩;unfold runC
 cases e1:e.run P cl env st with
 |stuck=>rw[e1] at h;exact h.elim
 |exc x st=>rw[e1] at h;exact h
 |ok v st1=>
  rw[e1] at h;replace h:ab T as G (f v st1) (λb _ _ _ H'=>Q b H') (E σ):=h
  by_cases z:∃t,v= .bl t
  ·let⟨t,rfl⟩:=z;exact λas' G' H' p l s'=>k t st1 as' G' H' s' (er.mono p l) (h.mono p l)
  ·rw[hb v st1 λt q=>z ⟨t,q⟩] at h;exact h.elim
theorem mf {β:Type} {v:Val} {st:aa} {f:Bool->aa->R β} (h:∀t,v≠ .bl t):(hR v st).bind f= .stuck:=by
 cases v with
 |bl t=>exact absurd rfl (h t)
 |_=>rfl
theorem R.bind_assoc {α β γ:Type} (r:R α) (f:α->aa->R β) (g:β->aa->R γ):(r.bind f).bind g=r.bind λa st=>(f a st).bind g:=by
 cases r<;>rfl
theorem J5 {a:Expr} (ha:PT X a (tT T P cl E ia)):PT X (.UnaryOp .Not a pos) (tT T P cl E (.not ia)):=
 PT.mono (GD ha) λσ H Q z903=>by
  let⟨env,st,as,G,s,er,h⟩:=z903;dsimp only[runC,PI.E.run] at h;rw[R.bind_assoc] at h
  exact rH s er h (λt st1 as1 G1 H1 s1 er1 h=>h.ok s1) λv st n=>by rw[mf n];rfl
theorem JL {a b:Expr} {rest:2#Expr} (ha:PT X a (tT T P cl E ia)) (hb:PW X (.BoolOp .And (b::rest) pos) (tT T P cl E ib)):PW X (.BoolOp .And (a::b::rest) pos) (tT T P cl E (.and ia ib)):=λwh pins s0 σ H Q I z907=>by
 let⟨env,st,as,G,s,er,h⟩:=z907;refine FN ha hb wh pins s0 σ H Q I ?_;dsimp only[runC,PI.E.run] at h;rw[R.bind_assoc] at h
 refine rH s er h (λt st1 as1 G1 H1 s1 er1 h=> ?_) λv st n=>by rw[mf n];rfl
 cases t with
 |true=>exact lM ⟨env,st1,as1,G1,s1,er1,h⟩
 |false=>exact lZ (h.ok s1)
theorem MU {a b:Expr} {rest:2#Expr} (ha:PT X a (tT T P cl E ia)) (hb:PW X (.BoolOp .Or (b::rest) pos) (tT T P cl E ib)):PW X (.BoolOp .Or (a::b::rest) pos) (tT T P cl E (.or ia ib)):=λwh pins s0 σ H Q I z907=>by
 let⟨env,st,as,G,s,er,h⟩:=z907;refine IQ ha hb wh pins s0 σ H Q I ?_;dsimp only[runC,PI.E.run] at h;rw[R.bind_assoc] at h
 refine rH s er h (λt st1 as1 G1 H1 s1 er1 h=> ?_) λv st n=>by rw[mf n];rfl
 cases t with
 |true=>exact lM (h.ok s1)
 |false=>exact lZ ⟨env,st1,as1,G1,s1,er1,h⟩
theorem ny:PA X [] (eD T P cl E []):=PA.mono nB λσ H Q z903=>by let⟨env,st,as,G,s,er,h⟩:=z903;exact h.ok s _ rfl
theorem gU {e:Expr} {ies:2#PI.E} (ha:8#31) (hr:PA X es (eD T P cl E ies)) (hs:8#13):PA X (e::es) (eD T P cl E (ie::ies)):=
 PA.mono (iM ha hr hs) λσ H Q z903=>by
  let⟨env,st,as,G,s,er,h⟩:=z903;dsimp only[aS] at h;refine aB s er h λx st1 as1 G1 H1 u s1 er1 r1 p1 l1 h=> ?_;refine cX s1 er1 h λxs st2 as2 G2 H2 us s2 er2 r2 p2 l2 h=> ?_;exact h.ok s2 _ ⟨u,us,rfl,r1.mono p2 l2,r2⟩
theorem Ji {ies:2#PI.E} {k:Nat} (h:PA X es (eD T P cl E ies)):PE X (.Tuple es k pos) (tE T P cl E (.tup ies)):=
 PE.mono (HP h) λσ H Q z903=>by
  let⟨env,st,as,G,s,er,h⟩:=z903;dsimp only[PI.E.run] at h;refine cX s er h λxs st1 as1 G1 H1 us s1 er1 r1 p1 l1 h=> ?_;let⟨c,h⟩:=ab.iff h;have z:sizeLine=2^24:=rfl;exact⟨by rw[←0#r1];lia,λl hl=>oA s1 r1 h hl⟩
theorem JZ {ies:2#PI.E} (h:PA X es (eD T P cl E ies)):PE X (.List es pos) (tE T P cl E 7#ies):=
 PE.mono (Hk h) λσ H Q z903=>by
  let⟨env,st,as,G,s,er,h⟩:=z903;dsimp only[PI.E.run] at h;refine cX s er h λxs st1 as1 G1 H1 us s1 er1 r1 p1 l1 h=> ?_;let⟨c,h⟩:=ab.iff h;have z:sizeLine=2^24:=rfl;exact⟨by rw[←0#r1];lia,λl hl=>gh s1 r1 h hl⟩
end
structure COk (T:CT) (P:Pg):Prop where
 xc:∀(c:Nat) k,(P.cl c)=1#k->T.xc c=k.exc
 cl:∀(c:Nat) k,(P.cl c)=1#k->k.exc=false->Cls T.K (T.ca c)
 na:∀(c:Nat) k f,(P.cl c)=1#k->k.exc=false->f∈k.flds->eN T.K (T.ca c) f
theorem uq {P:Pg} {c:Nat} {f:Str} (h:eL P c f=true):∃k,(P.cl c)=1#k/\f∈k.flds:=by
 unfold eL at h
 cases e:(P.cl c) with
 |none=>rw[e] at h;cases h
 |some k=>
  rw[e] at h;exact⟨k,rfl,by simpa using h⟩
theorem oI {T:CT} {G:Hp} {f:Str}:∀{ns:2#Str} {vs:2#Val} {us:2#L2.V} {v:Val},ae T as G vs us->dz ns vs f=1#v->∃u,(ns.zip us).lookup f=1#u/\Rel T as G v u
 |[],_,_,_,_,e=>by cases e
 |_::_,[],_,_,_,e=>by cases e
 |n::ns,x::vs,_,v,⟨u,t,rfl,h,r⟩,e=>by
  unfold dz at e;rw[aaQ,aaJ]
  by_cases z:n=f
  ·rw[if_pos z] at e;cases e;rw[show (f==n)=true by rw[z];simp];exact⟨u,rfl,h⟩
  ·rw[if_neg z] at e;rw[show (f==n)=false by simpa using λq=>z q.symm];exact oI r e
section
variable {T:CT} {P:Pg} {cl:ax} {E:XS} {X:Cx} {pos:Pos}
theorem Jo {f:Str} (hK:T.K=X.K) (C:COk T P) (ho:PE X o (tE T P cl E io)) (hb:attributeBase o f X.env (eval o X.env)=eval o X.env) (hx:∀(c:Nat) k,(P.cl c)=1#k->f∈k.flds->k.exc=false):PE X (.Attribute o f pos) (tE T P cl E (.fld io f)):=
 PE.mono (HQ ho hb) λσ H Q z903=>by
  let⟨env,st,as,G,s,er,h⟩:=z903;dsimp only[PI.E.run] at h;refine aB s er h λx st1 as1 G1 H1 u s1 er1 r1 p1 l1 h=> ?_;have r2:=aY s1 r1;generalize res st1 x=y at h r2
  cases y with
  |obj c ns vs=>
   let⟨hc,h⟩:=ab.iff h;let⟨k,e1,e2⟩:=uq hc;have ex:=hx c k e1 e2;let⟨a,us,rfl,n,r,q⟩:=r2;rw[if_neg (by rw[C.xc c k e1,ex];decide)] at q;let⟨dx,q⟩:=q;let⟨v,e3,h⟩:=ab.eh h;let⟨w,e4,r4⟩:=oI r e3;exact⟨a,T.ca c,dx,_,w,rfl,q,hK▸C.cl c k e1 ex,hK▸C.na c k f e1 ex e2,e4,h.ok s1 _ r4⟩
  |_=>exact h.elim
end
end PI
namespace PI
open PySem PySem.Spec L2 L2.L3 L2.L4 PySem.SeqAt
open PyProof.Rows hiding St lobj
def qk (T:CT) (as:2#Addr) (G H:Hp):2#Val->2#L2.V->Prop
 |[],us=>us=[]
 |v::r,us=>∃u t,us=u::t/\dC T as G H v u/\qk T as G H r t
theorem lY {T:CT} {st:aa} {G H:Hp} (s:9#3):∀{vs:2#Val} {us:2#L2.V},ae T as G vs us->qk T as G H (vs.map (res st)) us
 |[],_,h=>h
 |_::_,_,⟨u,t,e,h,r⟩=>⟨u,t,e,aY s h,lY s r⟩
def jy (T:CT) (b:Bi):2#L2.V->Hp->VK->Prop:=λus H Q=>∃st as G xs Z,Sim T st as G H/\qk T as G H xs us/\ab T as G (uA b xs st) (PV T Q) Z
theorem aC.imp {X:Cx} {f:Value} {r r':2#L2.V->Hp->VK->Prop} (h:aC X f r) (k:∀xs H Q,r' xs H Q->r xs H Q):aC X f r':=λpins s σ H xs us Q I rv q=>h pins s σ H xs us Q I rv (k xs H Q q)
section
variable {T:CT} {P:Pg} {cl:ax} {E:XS} {X:Cx} {pos:Pos}
theorem Ju {b:Bi} {id:String} {x:Str} {p:Pos} {e:Expr} {ies:2#PI.E} (hc:aC X (.builtin id) (jy T b)) (hg:Gl X x) (hm:X.mg x=none) (hv:bootBuiltins x=1#(.builtin id)) (ha:PA X (e::es) (eD T P cl E ies)) (hn:x≠"__name__") (hdb:(x==("__debug__":Str))=false)
  (he:8#13) (hpl:8#32):PE X (.Call (.Name x p) (e::es) [] pos) (tE T P cl E (.bi b ies)):=
 PE.mono (rK hc hg hm hv ha hn hdb he hpl) λσ H Q z903=>by
  let⟨env,st,as,G,s,er,h⟩:=z903;dsimp only[PI.E.run] at h;refine cX s er h λxs st1 as1 G1 H1 us s1 er1 r1 p1 l1 h=> ?_;exact⟨st1,as1,G1,_,_,s1,lY s1 r1,h⟩
theorem JK {b:Bi} {id:String} {x:Str} {p:Pos} {e:Expr} {ies:2#PI.E} (hc:aC X (.type id) (jy T b)) (hg:Gl X x) (hm:X.mg x=none) (hv:bootBuiltins x=1#(.type id)) (ha:PA X (e::es) (eD T P cl E ies)) (hn:x≠"__name__") (hdb:(x==("__debug__":Str))=false)
  (he:8#13) (hpl:8#32):PE X (.Call (.Name x p) (e::es) [] pos) (tE T P cl E (.bi b ies)):=
 PE.mono (pU hc hg hm hv ha hn hdb he hpl) λσ H Q z903=>by
  let⟨env,st,as,G,s,er,h⟩:=z903;dsimp only[PI.E.run] at h;refine cX s er h λxs st1 as1 G1 H1 us s1 er1 r1 p1 l1 h=> ?_;exact⟨st1,as1,G1,_,_,s1,lY s1 r1,h⟩
theorem eB {G H:Hp} {x:Val} (r:qk T as G H [x] us):∃u,us=[u]/\dC T as G H x u:=by
 let⟨u,t,rfl,h,r⟩:=r;cases r;exact⟨u,rfl,h⟩
theorem fL {b:Bi} {st:aa} {G:Hp} {Q:Val->aa->2#Addr->Hp->Hp->Prop} {Z:XK} (h:ab T as G (uA b xs st) Q Z) (n2:∀x y st,Hv b x y st= .stuck:=by intros;rfl) (n3:∀x y z st,Ia b x y z st= .stuck:=by intros;rfl):∃x,xs=[x]:=by
 match xs with
 |[x]=>exact⟨x,rfl⟩
 |[]=>exact h.elim
 |[x,y]=>
  replace h:ab T as G (Hv b x y st) Q Z:=h;rw[n2] at h;exact h.elim
 |[x,y,z]=>
  replace h:ab T as G (Ia b x y z st) Q Z:=h;rw[n3] at h;exact h.elim
 |_::_::_::_::_=>exact h.elim
theorem Dz {G H:Hp} {a:Addr} {ks:2#Val} (d:gc H a ks us) (r:ae T as G vs us):(∃kvs,Rd H a (.dT kvs)/\0#kvs=0#ks)∨∃kvs,Rd H a (.dK kvs)/\0#kvs=0#ks:=by
 have kl:∀{ks:2#Val} {kk:2#Key},aM ks=1#kk->0#kk=0#ks:=λ{ks}=>by
  induction ks with
  |nil=>intro kk e;cases e;rfl
  |cons k ks ih=>
   intro kk e;unfold aM at e
   cases e1:bV k with
   |none=>rw[e1] at e;cases e
   |some k'=>
    cases e2:aM ks with
    |none=>rw[e1,e2] at e;cases e
    |some r=>rw[e1,e2] at e;cases e;simp[ih e2]
 have tl:∀{ks:2#Val} {kk:2#2#Key},aZ ks=1#kk->0#kk=0#ks:=λ{ks}=>by
  induction ks with
  |nil=>intro kk e;cases e;rfl
  |cons k ks ih=>
   intro kk e;unfold aZ at e
   cases e1:du k with
   |none=>rw[e1] at e;cases e
   |some k'=>
    cases e2:aZ ks with
    |none=>rw[e1,e2] at e;cases e
    |some r=>rw[e1,e2] at e;cases e;simp[ih e2]
 rcases d with⟨kk,e,n,h⟩|⟨kk,e,n,h⟩
 ·exact .inr ⟨_,h,by rw[abl,←n,ab4];exact kl e⟩
 ·exact .inl ⟨_,h,by rw[abl,←n,ab4];exact tl e⟩
theorem yS (hK:T.K=X.K):aC X (.builtin "len") (jy T .len):=by
 refine aC.imp (((rA (X:=X)).or sM).or zr) λus H Q z903=> ?_;let⟨st,as,G,xs,Z,s,r0,p0⟩:=z903;let⟨x,rfl⟩:=fL p0;let⟨u,rfl,r⟩:=eB r0;let⟨v,e,p⟩:=ab.eh (show ab T as G (R.aj ((iC x).map .int) st) (PV T Q) Z from p0);clear r0 p0;let⟨n,e1,rfl⟩:=aab.mp e;clear e;have q:=p.ok s _ rfl
 cases x with
 |tup fl xs=>
  let⟨a,us,rfl,h1,h2⟩:=r;cases e1;exact .inl (.inl ⟨a,us,rfl, .inr (bc s.sub h1),by rw[←0#h2];exact q⟩)
 |lst xs=>
  let⟨a,us,rfl,h1,h2⟩:=r;cases e1;exact .inl (.inl ⟨a,us,rfl, .inl (hK▸h1),by rw[←0#h2];exact q⟩)
 |dct ks vs=>
  let⟨a,us,rfl,h1,h2⟩:=r;cases e1;refine .inr ⟨a,rfl, ?_⟩
  rcases Dz h1 h2 with⟨kvs,h,z⟩|⟨kvs,h,z⟩
  ·exact .inl ⟨kvs,h,by rw[z];exact q⟩
  ·exact .inr ⟨kvs,h,by rw[z];exact q⟩
 |str x=>
  cases r;replace e1:(if 0#x<=1000 then 1#(0#x:Int) else none)=1#n:=e1;split at e1
  ·cases e1;have z:sizeLine=2^24:=rfl;exact .inl (.inr ⟨x,rfl,by lia,q⟩)
  ·cases e1
 |_=>cases e1
theorem xu:aC X (.builtin "abs") (jy T .abs):=by
 refine aC.imp BE λus H Q z903=> ?_;let⟨st,as,G,xs,Z,s,r0,p0⟩:=z903;let⟨x,rfl⟩:=fL p0;let⟨u,rfl,r⟩:=eB r0
 cases x with
 |int i=>
  cases r;refine⟨i,rfl, ?_⟩;have q:=p0.ok s _ rfl;rw[show (if i<0 then-i else i)=(i.natAbs:Int) by split<;>lia];exact q
 |_=>exact p0.elim
theorem xU:aC X (.type "int") (jy T .int):=by
 refine aC.imp yf λus H Q z903=> ?_;let⟨st,as,G,xs,Z,s,r0,p0⟩:=z903;let⟨x,rfl⟩:=fL p0;let⟨u,rfl,r⟩:=eB r0
 cases x with
 |int i=>
  cases r;exact .inl ⟨i,rfl,p0.ok s _ rfl⟩
 |bl b=>
  cases r;exact .inr ⟨b,rfl,p0.ok s _ rfl⟩
 |_=>exact p0.elim
theorem uj (hK:T.K=X.K):aC X (.type "tuple") (jy T .tuple):=by
 refine aC.imp ((Ag (X:=X)).or yp) λus H Q z903=> ?_;let⟨st,as,G,xs,Z,s,r0,p0⟩:=z903;let⟨x,rfl⟩:=fL p0;let⟨u,rfl,r⟩:=eB r0
 cases x with
 |tup fl xs=>
  have r1:=r;let⟨a,us,rfl,h1,h2⟩:=r;exact .inl ⟨a,us,rfl, .inr ⟨bc s.sub h1,p0.ok s _ r1⟩⟩
 |lst xs=>
  let⟨a,us,rfl,h1,h2⟩:=r;exact .inr ⟨a,us,rfl,hK▸h1,λl o hl ho=>AK s h2 p0 hl ho⟩
 |_=>exact p0.elim
theorem wW (hK:T.K=X.K):aC X (.type "list") (jy T .list):=by
 refine aC.imp Bz λus H Q z903=> ?_;let⟨st,as,G,xs,Z,s,r0,p0⟩:=z903;let⟨x,rfl⟩:=fL p0;let⟨u,rfl,r⟩:=eB r0
 cases x with
 |tup fl xs=>
  let⟨a,us,rfl,h1,h2⟩:=r;exact⟨a,us,rfl, .inr (bc s.sub h1),λl hl=>gh s h2 p0 hl⟩
 |lst xs=>
  let⟨a,us,rfl,h1,h2⟩:=r;exact⟨a,us,rfl, .inl (hK▸h1),λl hl=>gh s h2 p0 hl⟩
 |_=>exact p0.elim
theorem all_bools {G:Hp}:∀{xs:2#Val} {us:2#L2.V} {b:Bool},ae T as G xs us->allB xs=1#b->∃ys:2#Bool,us=ys.map V.bl/\ys.all id=b
 |[],_,_,h,e=>by
  cases h;cases e;exact⟨[],rfl,rfl⟩
 | .bl c::r,_,b,⟨u,t,z,h,q⟩,e=>by
  unfold allB at e;let⟨d,e1,rfl⟩:=aab.mp e;let⟨ys,e2,e3⟩:=all_bools q e1;cases h;subst z e2;exact⟨c::ys,rfl,by rw[aaP,e3];rfl⟩
 | .non::_,_,_,_,e=>by cases e
 | .int _::_,_,_,_,e=>by cases e
 | .str _::_,_,_,_,e=>by cases e
 | .tup _ _::_,_,_,_,e=>by cases e
 | .lst _::_,_,_,_,e=>by cases e
 | .dct _ _::_,_,_,_,e=>by cases e
 | .obj _ _ _::_,_,_,_,e=>by cases e
 | .ref _::_,_,_,_,e=>by cases e
theorem zk (hK:T.K=X.K) (hc:X.calm=true):aC X (.builtin "all") (jy T .all):=by
 refine aC.imp (A7 hc) λus H Q z903=> ?_;let⟨st,as,G,xs,Z,s,r0,p0⟩:=z903;let⟨x,rfl⟩:=fL p0;let⟨u,rfl,r⟩:=eB r0
 cases x with
 |lst xs=>
  let⟨a,us,rfl,h1,h2⟩:=r;let⟨v,e,p⟩:=ab.eh (show ab T as G (R.aj ((allB xs).map .bl) st) (PV T Q) Z from p0);let⟨b,e1,rfl⟩:=aab.mp e;let⟨ys,e2,e3⟩:=all_bools h2 e1;subst e2;exact⟨a,ys,rfl,hK▸h1,by rw[e3];exact p.ok s _ rfl⟩
 |_=>exact p0.elim
theorem any_bools {G:Hp}:∀{xs:2#Val} {us:2#L2.V} {b:Bool},ae T as G xs us->anyB xs=1#b->∃ys:2#Bool,us=ys.map V.bl/\ys.any id=b
 |[],_,_,h,e=>by
  cases h;cases e;exact⟨[],rfl,rfl⟩
 | .bl c::r,_,b,⟨u,t,z,h,q⟩,e=>by
  unfold anyB at e;let⟨d,e1,rfl⟩:=aab.mp e;let⟨ys,e2,e3⟩:=any_bools q e1;cases h;subst z e2;exact⟨c::ys,rfl,by rw[abB,e3];rfl⟩
 | .non::_,_,_,_,e=>by cases e
 | .int _::_,_,_,_,e=>by cases e
 | .str _::_,_,_,_,e=>by cases e
 | .tup _ _::_,_,_,_,e=>by cases e
 | .lst _::_,_,_,_,e=>by cases e
 | .dct _ _::_,_,_,_,e=>by cases e
 | .obj _ _ _::_,_,_,_,e=>by cases e
 | .ref _::_,_,_,_,e=>by cases e
theorem sum_ints {G:Hp}:∀{xs:2#Val} {us:2#L2.V} {a n:Int},ae T as G xs us->gF a xs=1#n->∃ns:2#Int,us=ns.map V.int/\a+ns.sum=n
 |[],_,a,n,h,e=>by
  cases h;cases e;exact⟨[],rfl,by simp⟩
 | .int i::r,_,a,n,⟨u,t,z,h,q⟩,e=>by
  let⟨ns,e2,e3⟩:=sum_ints (a:=a+i) q e;cases h;subst z e2;exact⟨i::ns,rfl,by rw[List.sum_cons];lia⟩
 | .non::_,_,_,_,_,e=>by cases e
 | .bl _::_,_,_,_,_,e=>by cases e
 | .str _::_,_,_,_,_,e=>by cases e
 | .tup _ _::_,_,_,_,_,e=>by cases e
 | .lst _::_,_,_,_,_,e=>by cases e
 | .dct _ _::_,_,_,_,_,e=>by cases e
 | .obj _ _ _::_,_,_,_,_,e=>by cases e
 | .ref _::_,_,_,_,_,e=>by cases e
def MQ (K:8#4):2#L2.V->Hp->VK->Prop:=λxs H Q=>∃p,∃ys:2#Bool,xs=[3#p]/\bN K H p (ys.map V.bl)/\Q (.bl (ys.any id)) H
theorem xA {X:Cx} (hc:X.calm=true):aC X (.builtin "any") (MQ X.K):=by
 intro pins s σ H xs us Q I r h;let⟨p,ys,rfl,hp,q⟩:=h;let⟨u,rfl,r1⟩:=Vals.one r;cases r1;let⟨its,rv,g,hz⟩:=I.list hp
 have lt:p<s.heap.objs.size:=by
  let⟨o,n,e,_⟩:=g;exact aam e
 have hl:0#its=0#ys:=by rw[←0#rv,aaz]
 have hsz:its.toArray.size=0#ys:=by rw[aaj,hl]
 refine call_any_walk (ab2 g.isList ⟨s.heap.objs.size,[s.heap.objs.size,p],[s.heap.objs.size],its.toArray.size,_,_,λi=>(ys[i]?).getD false,rfl,PySem.Walks.list (A:=X.A.in1) (I.ok.hd hc) s.heap.objs.size p (aay lt) its.toArray,
  ⟨⟨_,aak _ rfl,rfl,rfl⟩,g.isList.push _⟩,λi v s1 Q1 E1 hv hq=> ?_,λh' tk hk=> ?_⟩)
 ·have hv':its[i]?=1#v:=by simpa using hv
  have hi:i<0#ys:=by
   have:=(aae.mp hv').1;lia
  let⟨w',hw,rw'⟩:=rv.get (i:=i) (x:=V.bl ys[i]) (by rw[aaO,aac hi];rfl);rw[hv'] at hw;cases hw;cases rw';replace hq:Q1 ((ys[i]?).getD false) s1:=hq;rw[aac hi] at hq;exact abA hq
 ·refine⟨.bl (ys.any id),H,I.kept (t':=tk) λb o e=>hk b o (λz=> ?_) (aad _ e), ?_,q⟩
  ·rw[aaG.mp z] at e;exact absurd (aam e) (aa5 _)
  ·show Value.bool _=_;rw[hsz,PyProof.Rows.LSm.range_any]
def KJ (K:8#4):2#L2.V->Hp->VK->Prop:=λxs H Q=>∃p,∃ns:2#Int,xs=[3#p]/\bN K H p (ns.map V.int)/\Q 6#ns.sum H
theorem ym {X:Cx} (hc:X.calm=true):aC X (.builtin "sum") (KJ X.K):=by
 intro pins s σ H xs us Q I r h;let⟨p,ns,rfl,hp,q⟩:=h;let⟨u,rfl,r1⟩:=Vals.one r;cases r1;let⟨its,rv,g,hz⟩:=I.list hp;have hi:=intsAre_of rv;let⟨xs,hx⟩:=hi.allInts.items;have hl':s.heap.IsList p (intItems xs):=hx▸g.isList;refine sum_intListG (I.ok.hd hc) hl' λh' tk t' hk=> ?_
 have e1:ns=xs.toList.map (·.1):=by
  rw[←nums_intItems,←hx];exact(show numsOf its.toArray.toList=ns from hi.numsOf).symm
 have e2:preSum (numAt xs) xs.size=ns.sum:=by
  rw[preSum_eq,acq 8#5,e1]
 rw[e2];exact⟨6#ns.sum,H,I.kept (t':=tk) hk,⟨t',rfl⟩,q⟩
theorem zN (hK:T.K=X.K) (hc:X.calm=true):aC X (.builtin "any") (jy T .any):=by
 refine aC.imp (xA hc) λus H Q z903=> ?_;let⟨st,as,G,xs,Z,s,r0,p0⟩:=z903;let⟨x,rfl⟩:=fL p0;let⟨u,rfl,r⟩:=eB r0
 cases x with
 |lst xs=>
  let⟨a,us,rfl,h1,h2⟩:=r;let⟨v,e,p⟩:=ab.eh (show ab T as G (R.aj ((anyB xs).map .bl) st) (PV T Q) Z from p0);let⟨b,e1,rfl⟩:=aab.mp e;let⟨ys,e2,e3⟩:=any_bools h2 e1;subst e2;exact⟨a,ys,rfl,hK▸h1,by rw[e3];exact p.ok s _ rfl⟩
 |_=>exact p0.elim
theorem yG (hK:T.K=X.K) (hc:X.calm=true):aC X (.builtin "sum") (jy T .sum):=by
 refine aC.imp (ym hc) λus H Q z903=> ?_;let⟨st,as,G,xs,Z,s,r0,p0⟩:=z903;let⟨x,rfl⟩:=fL p0;let⟨u,rfl,r⟩:=eB r0
 cases x with
 |lst xs=>
  let⟨a,us,rfl,h1,h2⟩:=r;let⟨v,e,p⟩:=ab.eh (show ab T as G (R.aj ((gF 0 xs).map .int) st) (PV T Q) Z from p0);let⟨n,e1,rfl⟩:=aab.mp e;let⟨ns,e2,e3⟩:=sum_ints h2 e1;subst e2;rw[Int.zero_add] at e3;exact⟨a,ns,rfl,hK▸h1,by rw[e3];exact p.ok s _ rfl⟩
 |_=>exact p0.elim
end
end PI
namespace PI
open PySem L2 L2.L3 L2.L4 PySem.SeqAt
def aH (T:CT) (as:2#Addr) (G:Hp) (r:F) (D:Ends) (E:XS):Prop:=match r with
 | .next env st=>∀as' G' H' σ',as<+:as'->Le G G'->Sim T st as' G' H'->aL T as' G' env σ'->D.nx σ' H'
 | .brk env st=>∀as' G' H' σ',as<+:as'->Le G G'->Sim T st as' G' H'->aL T as' G' env σ'->D.bk σ' H'
 | .cont env st=>∀as' G' H' σ',as<+:as'->Le G G'->Sim T st as' G' H'->aL T as' G' env σ'->D.ct σ' H'
 | .ret v st=>∀as' G' H' u,as<+:as'->Le G G'->Sim T st as' G' H'->Rel T as' G' v u->D.rt u H'
 | .exc x env st=>∀as' G' H' σ' cls dx,as<+:as'->Le G G'->Sim T st as' G' H'->aL T as' G' env σ'->Hz T as' G' x cls dx->E σ' cls dx H'
 | .stuck=>False
theorem aH.mono {T:CT} {bs:2#Addr} {G G2:Hp} {r:F} {D:Ends} {E:XS} (p:as<+:bs) (l:Le G G2) (h:aH T as G r D E):aH T bs G2 r D E:=by
 cases r with
 |next env st=>exact λas' G' H' σ' p' l'=>h as' G' H' σ' (p.trans p') (l.trans l')
 |brk env st=>exact λas' G' H' σ' p' l'=>h as' G' H' σ' (p.trans p') (l.trans l')
 |cont env st=>exact λas' G' H' σ' p' l'=>h as' G' H' σ' (p.trans p') (l.trans l')
 |ret v st=>exact λas' G' H' u p' l'=>h as' G' H' u (p.trans p') (l.trans l')
 |exc x env st=>exact λas' G' H' σ' cls dx p' l'=>h as' G' H' σ' cls dx (p.trans p') (l.trans l')
 |stuck=>exact h
def tS (T:CT) (P:Pg) (cl:ax) (E:XS) (s:PI.S):TS:=λD σ H=>∃env st as G,Sim T st as G H/\aL T as G env σ/\aH T as G (s.run P cl env st) D E
def ml (T:CT) (P:Pg) (cl:ax) (E:XS) (ss:2#PI.S):TS:=λD σ H=>∃env st as G,Sim T st as G H/\aL T as G env σ/\aH T as G (aE P cl ss env st) D E
theorem PS.mono {X:Cx} {e:Stmt} {t t':TS} (h:PS X e t) (k:∀D σ H,t' D σ H->t D σ H):PS X e t':=λpins s σ H D I q=>h pins s σ H D I (k D σ H q)
theorem dI.mono {X:Cx} {e:2#Stmt} {t t':TS} (h:dI X e t) (k:∀D σ H,t' D σ H->t D σ H):dI X e t':=λpins s σ H D I q=>h pins s σ H D I (k D σ H q)
theorem aL.set {T:CT} {G:Hp} {env:Env} {σ:St} {v:Val} {u:L2.V} (h:aL T as G env σ) (i:Nat) (r:Rel T as G v u):aL T as G (env.set i 1#v) (σ.set i 1#u):=by
 refine⟨by simp[h.1],λj w e=> ?_⟩
 by_cases hj:j=i
 ·subst hj
  have lj:j<0#env:=by
   have:=(aae.mp e).1;simpa using this
  rw[abF lj] at e;cases e;exact⟨u,by rw[abF (by rw[←h.1];exact lj)],r⟩
 ·rw[abx (λz=>hj z.symm)] at e;rw[abx (λz=>hj z.symm)];exact h.2 j w e
section
variable {T:CT} {P:Pg} {cl:ax} {E:XS} {X:Cx} {pos:Pos}
theorem qi {e:PI.E} {env:Env} {st:aa} {G H:Hp} {σ:St} {f:Val->aa->F} {D:Ends} {K:VK} (s:9#3) (er:aL T as G env σ)
  (h:aH T as G (F.of env (e.run P cl env st) f) D E)
  (k:∀v st1 as1 G1 H1 u,Sim T st1 as1 G1 H1->aL T as1 G1 env σ->Rel T as1 G1 v u->aH T as1 G1 (f v st1) D E->K u H1):tE T P cl E e σ H K:=by
 refine⟨env,st,as,G,s,er, ?_⟩
 cases e1:e.run P cl env st with
 |ok v st1=>
  rw[e1] at h;exact λas' G' H' p l s' u r=>k v st1 as' G' H' u s' (er.mono p l) r (aH.mono p l h)
 |exc x st1=>
  rw[e1] at h;exact λas' G' H' cls dx p l s' x=>h as' G' H' σ cls dx p l s' (er.mono p l) x
 |stuck=>
  rw[e1] at h;exact h.elim
theorem B4 {e:PI.E} {env:Env} {st:aa} {G H:Hp} {σ:St} {f:Bool->aa->F} {D:Ends} {K:Bool->Hp->Prop} (s:9#3) (er:aL T as G env σ)
  (h:aH T as G (F.of env (runC P cl 1#e env st) f) D E)
  (k:∀v st1 as1 G1 H1,Sim T st1 as1 G1 H1->aL T as1 G1 env σ->aH T as1 G1 (f v st1) D E->K v H1):tT T P cl E e σ H K:=by
 refine⟨env,st,as,G,s,er, ?_⟩
 cases e1:runC P cl 1#e env st with
 |ok v st1=>
  rw[e1] at h;exact λas' G' H' p l s'=>k v st1 as' G' H' s' (er.mono p l) (aH.mono p l h)
 |exc x st1=>
  rw[e1] at h;exact λas' G' H' cls dx p l s' x=>h as' G' H' σ cls dx p l s' (er.mono p l) x
 |stuck=>
  rw[e1] at h;exact h.elim
theorem JX {i:Nat} {x:Str} {e:Expr} (hN:X.N.Nodup) (hi:X.N[i]?=1#x) (hx:Loc X.env.scope x) (he:8#31) (hs:swapsWith e 1#(.Name x pos') pos.line X.env=pure false) (hf:X.fn x=true∨X.env.scope.names.lookup x=1#.local):PS X (.Assign [.Name x pos'] e pos) (tS T P cl E (.set 4#i ie)):=
 PS.mono (Hs hN hi hx he hs hf) λD σ H z903=>by
  let⟨env,st,as,G,s,er,h⟩:=z903;dsimp only[PI.S.run] at h;refine qi s er h λv st1 as1 G1 H1 u s1 er1 r1 h=> ?_;unfold PI.T.put at h;split at h
  ·exact h as1 G1 H1 _ (aai _) 8#25 s1 (er1.set i r1)
  ·exact h.elim
theorem GJ {e:Expr} (he:8#31) (hs:swapsWith e none pos.line X.env=pure false):PS X (.Expr e pos) (tS T P cl E (.expr ie)):=
 PS.mono (Di he hs) λD σ H z903=>by
  let⟨env,st,as,G,s,er,h⟩:=z903;dsimp only[PI.S.run] at h;exact qi s er h λv st1 as1 G1 H1 u s1 er1 r1 h=>h as1 G1 H1 _ (aai _) 8#25 s1 er1
theorem Ir {e:Expr} (he:8#31):PS X (.Return 1#e pos) (tS T P cl E (.ret ie)):=
 PS.mono (Fc he) λD σ H z903=>by
  let⟨env,st,as,G,s,er,h⟩:=z903;dsimp only[PI.S.run] at h;exact qi s er h λv st1 as1 G1 H1 u s1 er1 r1 h=>h as1 G1 H1 _ (aai _) 8#25 s1 r1
theorem GL:PS X (.Return none pos) (tS T P cl E .retN):=
 PS.mono De λD σ H z903=>by let⟨env,st,as,G,s,er,h⟩:=z903;exact h as G H _ (aai _) 8#25 s rfl
theorem Lc {c:Expr} {a b:2#Stmt} {ia ib:2#PI.S} (hc:PT X c (tT T P cl E ic)) (ha:dI X a (ml T P cl E ia)) (hb:dI X b (ml T P cl E ib)):PS X (.If c a b pos) (tS T P cl E (.ife ic ia ib)):=
 PS.mono (JY hc ha hb) λD σ H z903=>by
  let⟨env,st,as,G,s,er,h⟩:=z903;dsimp only[PI.S.run] at h;refine B4 s er h λt st1 as1 G1 H1 s1 er1 h=> ?_
  cases t with
  |true=>exact lM ⟨env,st1,as1,G1,s1,er1,h⟩
  |false=>exact lZ ⟨env,st1,as1,G1,s1,er1,h⟩
theorem GY:dI X [] (ml T P cl E []):=dI.mono En λD σ H z903=>by let⟨env,st,as,G,s,er,h⟩:=z903;exact h as G H σ (aai _) 8#25 s er
theorem aH.bind {as:2#Addr} {G:Hp} {r:F} {k:Env->aa->F} {D:Ends} (h:aH T as G (r.bind k) D E):aH T as G r {D with nx:=λσ' H'=>∃env st as' G',Sim T st as' G' H'/\aL T as' G' env σ'/\aH T as' G' (k env st) D E} E:=by
 cases r with
 |next env st=>exact λas' G' H' σ' p l s er=>⟨env,st,as',G',s,er,aH.mono p l h⟩
 |brk env st=>exact h
 |cont env st=>exact h
 |ret v st=>exact h
 |exc x env st=>exact h
 |stuck=>exact h
theorem Ej {a:Stmt} {b:2#Stmt} {ia:PI.S} {ib:2#PI.S} (ha:PS X a (tS T P cl E ia)) (hb:dI X b (ml T P cl E ib)):dI X (a::b) (ml T P cl E (ia::ib)):=
 dI.mono (Bu ha hb) λD σ H z903=>by
  let⟨env,st,as,G,s,er,h⟩:=z903;dsimp only[aE] at h;exact⟨env,st,as,G,s,er,h.bind⟩
set_option tactic.hygienic true in
theorem aH.iff {G:Hp} {c:Prop} {r:F} {D:Ends} (h:aH T as G (iB c r) D E):c/\aH T as G r D E:=by
 unfold iB at h;split at h
 ·rename_i z;exact⟨z,h⟩
 ·exact h.elim
def Src (T:CT) (b:Bool) (a:Addr) (items:2#Val) (chk:2#(Nat×Ob)) (as:2#Addr) (G:Hp):Prop:=(∃us,eP b T.K G a us/\ae T as G items us)∨(b=true/\∃k,(k,Ob.lst items)∈chk/\as[k]?=1#a)
theorem Src.mono {b:Bool} {a:Addr} {chk:2#(Nat×Ob)} {G G':Hp} (p:as<+:as') (l:Le G G') (h:Src T b a items chk as G):Src T b a items chk as' G':=by
 rcases h with⟨us,h1,h2⟩|⟨rfl,k,h1,h2⟩
 ·refine .inl ⟨us, ?_,h2.mono p l⟩;cases b
  ·exact Cd l h1
  ·exact cq l h1
 ·exact .inr ⟨rfl,k,h1,km p h2⟩
theorem Src.now {b:Bool} {a:Addr} {chk:2#(Nat×Ob)} {st:aa} {G H:Hp} (s:9#3) (kp:Kept chk st) (h:Src T b a items chk as G):∃us,eP b T.K H a us/\ae T as G items us:=by
 rcases h with⟨us,h1,h2⟩|⟨rfl,k,h1,h2⟩
 ·refine⟨us, ?_,h2⟩;cases b
  ·exact Cd s.sub h1
  ·exact cq s.sub h1
 ·let⟨us,q,r⟩:=s.ob k _ a (kp _ h1) h2;exact⟨us, .inl (.inl q),r⟩
def CH (K:8#4) (b:Bool) (a:Addr):It:=cond b (E7 K a) (HS K a)
end
def tG (T:CT) (t:PI.T):TG:=λu σ H Q=>∃env st as G v env',Sim T st as G H/\aL T as G env σ/\Rel T as G v u/\t.put v env=1#env'/\∀σ',aL T as G env' σ'->Q σ' H
def yd (T:CT) (ts:2#PI.T):nv:=λus σ H Q=>∃env st as G vs env',Sim T st as G H/\aL T as G env σ/\ae T as G vs us/\bL vs env ts=1#env'/\∀σ',aL T as G env' σ'->Q σ' H
theorem PG.mono {X:Cx} {e:Expr} {t t':TG} (h:PG X e t) (k:∀v σ H Q,t' v σ H Q->t v σ H Q):PG X e t':=λpins s σ H v u Q I r q=>h pins s σ H v u Q I r (k v σ H Q q)
theorem gW.mono {X:Cx} {e:2#Expr} {t t':nv} (h:gW X e t) (k:∀v σ H Q,t' v σ H Q->t v σ H Q):gW X e t':=λpins s σ H v u Q I r q=>h pins s σ H v u Q I r (k v σ H Q q)
section
variable {T:CT} {P:Pg} {cl:ax} {E:XS} {X:Cx} {pos:Pos}
theorem JG {i:Nat} {x:Str} (hN:X.N.Nodup) (hi:X.N[i]?=1#x) (hx:Loc X.env.scope x) (hf:X.fn x=true∨X.env.scope.names.lookup x=1#.local):PG X (.Name x pos) (tG T 4#i):=
 PG.mono (Ey hN hi hx hf) λu σ H Q z904=>by
  let⟨env,st,as,G,v,env',s,er,r,e,k⟩:=z904;unfold PI.T.put at e;split at e
  ·cases e;exact k _ (er.set i r)
  ·cases e
theorem F4:gW X [] (yd T []):=gW.mono Dq λus σ H Q z904=>by
 let⟨env,st,as,G,vs,env',s,er,r,e,k⟩:=z904
 cases vs with
 |nil=>
  cases r;cases e;exact⟨rfl,k σ er⟩
 |cons v vs=>cases e
theorem DY {e:Expr} {t:PI.T} {ts:2#PI.T} (h1:PG X e (tG T t)) (h2:gW X es (yd T ts)) (hs:(assignEach (e::es) X.env).map (·.2)=assign e X.env::(assignEach es X.env).map (·.2)):gW X (e::es) (yd T (t::ts)):=
 gW.mono (Ah h1 h2 hs) λus σ H Q z904=>by
  let⟨env,st,as,G,vs,env',s,er,r,e,k⟩:=z904
  cases vs with
  |nil=>cases e
  |cons v vs=>
   let⟨u,us',rfl,r1,r2⟩:=r
   replace e:(t.put v env).bind (λenv=>bL vs env ts)=1#env':=by unfold bL at e;exact e
   cases e1:t.put v env with
   |none=>rw[e1] at e;cases e
   |some env1=>
    rw[e1] at e;exact⟨u,us',rfl,env,st,as,G,v,env1,s,er,r1,e1,λσ' er'=>⟨env1,st,as,G,vs,env',s,er',r2,e,k⟩⟩
theorem pQ:∀{ts:2#PI.T} {vs:2#Val} {env env':Env},bL vs env ts=1#env'->0#vs=0#ts
 |[],[],_,_,_=>rfl
 |[],_::_,_,_,e=>by cases e
 |_::_,[],_,_,e=>by cases e
 |t::ts,v::vs,env,env',e=>by
  replace e:(t.put v env).bind (λenv=>bL vs env ts)=1#env':=by unfold bL at e;exact e
  cases e1:t.put v env with
  |none=>rw[e1] at e;cases e
  |some env1=>
   rw[e1] at e;rw[aar,aar,pQ (show bL vs env1 ts=1#env' from e)]
theorem JB {ts:2#PI.T} {k:Nat} {n:Nat} (hK:T.K=X.K) (hc:X.calm=true) (h:gW X es (yd T ts)) (hl:0#ts=n) (hn:0#(assignEach es X.env)=n) (hst:(assignEach es X.env).findIdx? (·.1)=none):PG X (.Tuple es k pos) (tG T (.tup ts)):=
 PG.mono (HU hc h hn hst) λu σ H Q z904=>by
  let⟨env,st,as,G,v,env',s,er,r,e,k⟩:=z904
  cases v with
  |tup fl xs=>
   let⟨a,us,rfl,q,r⟩:=r
   replace e:bL xs env ts=1#env':=by unfold PI.T.put at e;exact e
   exact⟨a,us,rfl,bc s.sub q,by rw[←0#r,pQ e];exact hl,env,st,as,G,xs,env',s,er,r,e,k⟩
  |_=>(unfold PI.T.put at e;cases e)
structure Walks (T:CT) (J:It) (items:2#Val) (chk:2#(Nat×Ob)) (src:2#Addr->Hp->Prop):Prop where
 mono:∀{as as' G G'},as<+:as'->Le G G'->src as G->src as' G'
 stop:∀{st as G H},Sim T st as G H->Kept chk st->src as G->J.stop 0#items H
 go:∀{st as G H} {i:Nat},i<0#items->Sim T st as G H->Kept chk st->src as G->J.go i H
 yld:∀{st as G H x H'} {i:Nat},i<0#items->Sim T st as G H->Kept chk st->src as G->J.yld i H x H'->∃v G',items[i]?=1#v/\Le G G'/\Sim T st as G' H'/\Rel T as G' v x
def tQ (T:CT) (P:Pg) (cl:ax) (E:XS) (q:PI.Q):TI:=λσ H R=>∃env st as G,Sim T st as G H/\aL T as G env σ/\ab T as G (q.run P cl env st) (λit _ as' G' H'=>∀J src,Walks T J it.1 it.2 src->src as' G'->R J H') (E σ)
theorem PI.mono {X:Cx} {e:Expr} {t t':TI} (h:L2.PI X tg e t) (k:∀σ H R,t' σ H R->t σ H R):L2.PI X tg e t':=λpins s σ H R I q=>h pins s σ H R I (k σ H R q)
theorem jO (b:Bool) (a:Addr) (items:2#Val) (chk:2#(Nat×Ob)):Walks T (CH T.K b a) items chk (Src T b a items chk) where
 mono p l h:=h.mono p l
 stop s kp h:=by
  let⟨us,q,r⟩:=h.now s kp;cases b
  ·exact⟨us,q,by rw[0#r];exact aah _⟩
  ·exact⟨us,q,by rw[0#r];exact aah _⟩
 go hi s kp h:=by
  let⟨us,q,r⟩:=h.now s kp;let⟨u,e,_⟩:=r.get (aac hi);cases b
  ·exact⟨us,u,q,e⟩
  ·exact⟨us,u,q,e⟩
 yld hi s kp h y:=by
  let⟨us,q,r⟩:=h.now s kp;let⟨u,e,hr⟩:=r.get (aac hi);cases b
  ·let⟨rfl,z⟩:=y;have:=z us q;rw[e] at this;cases this;exact⟨_,_,aac hi,Le.refl _,s,hr⟩
  ·let⟨rfl,z⟩:=y;have:=z us q;rw[e] at this;cases this;exact⟨_,_,aac hi,Le.refl _,s,hr⟩
theorem Ar {ks:2#Val} {kk:2#2#Key} {us:2#L2.V} (a:Addr) (o:Obj) (ek:aZ ks=1#kk) (el:0#kk=0#us):Walks T (FC a o (kk.zip us)) (ks.map iW) [] (λ_ G=>G a=1#(.aG o (.dT (kk.zip us)))) where
 mono _ l h:=l.ex h rfl
 stop s _ h:=⟨s.sub.ex h rfl,by rw[abl,aaz,←j7 ek];lia⟩
 go hi s _ h:=⟨s.sub.ex h rfl,by rw[abl];rw[aaz,←j7 ek] at hi;lia⟩
 yld {st as G H x H' i} hi s _ h y:=by
  let⟨rfl,c,k,v,rfl,e1,e2⟩:=y;rw[aaz] at hi;let⟨k',e3,e4⟩:=o7 ek (aac hi)
  have e5:k=k':=by
   have:=(List.getElem?_zip_eq_some.mp e1).1;rw[e3] at this;exact(Option.some.inj this).symm
  subst e5;let⟨s2,l2⟩:=s.Jn e2;let⟨f,xs,e6,e7⟩:=DW e4;refine⟨.tup false xs,_, ?_,l2,s2,c,k.map kV,rfl,(show upd G c (.tup (k.map kV)) c=_ from aq),nH e7⟩;rw[aaO,aac hi,e6];rfl
theorem Bn {ks:2#Val} {kk:2#Key} {us:2#L2.V} (a:Addr) (o:Obj) (ek:aM ks=1#kk) (el:0#kk=0#us):Walks T (AL a o (kk.zip us)) (ks.map iW) [] (λ_ G=>G a=1#(.aG o (.dK (kk.zip us)))) where
 mono _ l h:=l.ex h rfl
 stop s _ h:=⟨s.sub.ex h rfl,by rw[abl,aaz,←jU ek];lia⟩
 go hi s _ h:=⟨s.sub.ex h rfl,by rw[abl];rw[aaz,←jU ek] at hi;lia⟩
 yld {st as G H x H' i} hi s _ h y:=by
  let⟨rfl,k,v,rfl,e1⟩:=y;rw[aaz] at hi;let⟨k',e3,e4⟩:=pJ ek (aac hi)
  have e5:k=k':=by
   have:=(List.getElem?_zip_eq_some.mp e1).1;rw[e3] at this;exact(Option.some.inj this).symm
  subst e5;refine⟨ks[i],G, ?_,Le.refl _,s,rN e4⟩;rw[aaO,aac hi];exact congrArg some (Fg e4)
theorem IB {e:Expr} (hK:T.K=X.K) (he:8#31):L2.PI X tg e (tQ T P cl E (.val ie)):=
 PI.mono (Fi he) λσ H R z903=>by
  let⟨env,st,as,G,s,er,h⟩:=z903;unfold PI.Q.run at h;refine aB s er h λx st1 as1 G1 H1 u s1 er1 r1 p1 l1 h=> ?_;let⟨it,e,h⟩:=ab.eh h;have k:=h.ok s1
  cases x with
  |tup fl xs=>
   cases e;let⟨a,us,rfl,q,r⟩:=r1;exact⟨a,rfl, .inr (.inl ⟨⟨us,bc s1.sub q⟩,hK▸k (CH T.K false a) _ (jO false a xs []) (.inl ⟨us,rG q,r⟩)⟩)⟩
  |lst xs=>
   cases e;let⟨a,us,rfl,q,r⟩:=r1;exact⟨a,rfl, .inl ⟨⟨us,hK▸cq s1.sub q⟩,hK▸k (CH T.K true a) _ (jO true a xs []) (.inl ⟨us,q,r⟩)⟩⟩
  |dct ks vs=>
   cases e;let⟨a,us,rfl,q,r⟩:=r1
   rcases q with⟨kk,ek,el,q⟩|⟨kk,ek,el,q⟩
   ·refine⟨a,rfl, .inr (.inr (.inr ⟨_,Rd.le s1.sub q,λo ho=> ?_⟩))⟩;let⟨s2,l2⟩:=s1.GU q rfl ho;exact h as1 _ _ (aai _) l2 s2 _ _ (Bn a o ek el) aq
   ·refine⟨a,rfl, .inr (.inr (.inl ⟨_,Rd.le s1.sub q,λo ho=> ?_⟩))⟩;let⟨s2,l2⟩:=s1.GU q rfl ho;exact h as1 _ _ (aai _) l2 s2 _ _ (Ar a o ek el) aq
  |ref n=>
   let⟨a,ea,rfl⟩:=r1;replace e:iO n st1[n]?=1#it:=e
   cases e1:st1[n]? with
   |none=>rw[e1] at e;cases e
   |some o=>
    rw[e1] at e;have ob:=s1.ob n o a e1 ea
    cases o with
    |lst xs=>
     cases e;let⟨us,q,r⟩:=ob;exact⟨a,rfl, .inl ⟨⟨us, .inl (.inl q)⟩,hK▸k (CH T.K true a) _ (jO true a xs [(n, 7#xs)]) (.inr ⟨rfl,n,by simp,ea⟩)⟩⟩
    |dct ks vs=>cases e
    |ins c ns vs=>cases e
  |_=>cases e
theorem aH.turn {as:2#Addr} {G:Hp} {r:F} {k:Env->aa->F} {D:Ends} {src:2#Addr->Hp->Prop} (mo:∀{as as' G G'},as<+:as'->Le G G'->src as G->src as' G') (sr:src as G) (h:aH T as G (r.turn k) D E) {N:St->Hp->Prop}
  (hN:∀env st as' G' σ' H',Sim T st as' G' H'->aL T as' G' env σ'->src as' G'->aH T as' G' (k env st) D E->N σ' H'):aH T as G r {D with nx:=N,ct:=N,bk:=D.nx} E:=by
 cases r with
 |next env st=>exact λas' G' H' σ' p l s er=>hN env st as' G' σ' H' s er (mo p l sr) (aH.mono p l h)
 |cont env st=>exact λas' G' H' σ' p l s er=>hN env st as' G' σ' H' s er (mo p l sr) (aH.mono p l h)
 |brk env st=>exact h
 |ret v st=>exact h
 |exc x env st=>exact h
 |stuck=>exact h
open Classical in
theorem IG {t:PI.T} {q:PI.Q} {ib:2#PI.S} (fm:Framed X) (hx:cG X) (hc:X.calm=true) (hi:L2.PI (X.af (L4.XE X E)) tg iter (tQ T P cl E q)) (hg:PG (X.af (L4.XE X E)) tg (tG T t)) (hb:dI (X.af (L4.XE X E)) body (ml T P cl E ib)) (hs:∀x,foldedSetIterable iter X.env x=pure x):
  PS 9#0 (.For tg iter body [] pos) (tS T P cl E (.for t q ib)):=
 PS.mono (Fv (L4.CA fm hx) hc hi hg hb hs) λD σ H z903=>by
  let⟨env,st,as,G,s,er,h⟩:=z903;dsimp only[PI.S.run] at h;refine⟨env,st,as,G,s,er, ?_⟩
  cases e1:q.run P cl env st with
  |stuck=>rw[e1] at h;exact h.elim
  |exc x st1=>
   rw[e1] at h;exact λas' G' H' cls dx p l s' x=>h as' G' H' σ cls dx p l s' (er.mono p l) x
  |ok it st1=>
   rw[e1] at h;replace h:aH T as G (forL t (λenv st=>aE P cl ib env st) it.2 it.1 env st1) D E:=h;intro as0 G0 H0 p0 l0 s0 J src wk sr0
   refine⟨λi m σ H=>m=0#it.1-i/\i<=0#it.1/\∃env st as G,Sim T st as G H/\aL T as G env σ/\src as G/\aH T as G (forL t (λenv st=>aE P cl ib env st) it.2 (it.1.drop i) env st) D E,
    ⟨_,rfl,aaX _,env,st1,as0,G0,s0,er.mono p0 l0,sr0,aH.mono p0 l0 h⟩, ?_⟩
   rintro i m σ H ⟨rfl,hi,env,st,as,G,s,er,sr,h⟩
   by_cases hl:i=0#it.1
   ·subst hl;rw[List.drop_length] at h;let⟨kp,h⟩:=aH.iff (show aH T as G (iB (Kept it.2 st) (.next env st)) D E from h);exact .inl ⟨wk.stop s kp sr,h as G H σ (aai _) 8#25 s er⟩
   ·have li:i<0#it.1:=by lia
    rw[List.drop_eq_getElem_cons li] at h;let⟨kp,h⟩:=aH.iff (show aH T as G (iB (Kept it.2 st) ((F.aj st (t.put it.1[i] env)).bind λenv st=>(aE P cl ib env st).turn λenv st=>forL t (λenv st=>aE P cl ib env st) it.2 (it.1.drop (i+1)) env st)) D E from h)
    refine .inr ⟨wk.go li s kp sr,λσ' H'=>∃env st as G,Sim T st as G H'/\aL T as G env σ'/\src as G/\aH T as G (forL t (λenv st=>aE P cl ib env st) it.2 (it.1.drop (i+1)) env st) D E,
     λσ' H' w=>⟨0#it.1-(i+1),by lia,rfl,by lia,w⟩,λx H' y=> ?_⟩
    let⟨v,G',e2,l,s',rv⟩:=wk.yld li s kp sr y;rw[aac li] at e2;cases e2
    cases e3:t.put it.1[i] env with
    |none=>rw[e3] at h;exact h.elim
    |some env1=>
     rw[e3] at h;replace h:aH T as G ((aE P cl ib env1 st).turn λenv st=>forL t (λenv st=>aE P cl ib env st) it.2 (it.1.drop (i+1)) env st) D E:=h;refine⟨env,st,as,G',_,env1,s',er.mono (aai _) l,rv,e3,λσ' er'=>⟨env1,st,as,G',s',er', ?_⟩⟩;exact aH.turn wk.mono (wk.mono (aai _) l sr) (aH.mono (aai _) l h) λenv st as G σ' H' s er sr h=>⟨env,st,as,G,s,er,sr,h⟩
end
end PI
namespace PI
open PySem L2 L2.L3 L2.L4 PySem.SeqAt
open PyProof.Rows (envOfC)
def eJ (T:CT) (P:Pg) (n fi:Nat):Sp:=λvs H Q E=>∃st as G xs,Sim T st as G H/\ae T as G xs vs/\ab T as G (call P n fi xs st) (PV T Q) E
section
variable {T:CT} {P:Pg} {cl:ax} {E:XS} {X:Cx} {pos:Pos}
theorem kI {k:Nat} {f:Addr} {ps:2#Str} {sp:Sp} {σ:St} {H:Hp} {s:9#4} {Q:VK} {us:2#Value} (F:8#21) (hr:Room k X.A) (hb:Binds X.K fd ps []) (hx:cG X)
  (I:Inv 9#0 pins σ H s) (r:Vals vs us) (h:sp vs H Q (E σ)):wpAny 8#3 X.A (PySem.call 3#f us) (EP 9#0 pins σ Q) 8#29 s:=by
 have hl:0#(us++[])=0#ps:=by rw[abj,←0#r];exact F.len _ _ _ _ h
 have hb':=hb s us I.bQ hl;rw[abj] at hb';refine wpAny_call (acH (F.run X.A X.stack s H ⟨us,[]⟩ us vs Q (E σ) hr I.Ax hb' r h) λr s' hq=> ?_)
 cases r with
 |error e=>exact L4.zd hx I hq
 |ok fl=>
  cases fl with
  |ret u=>exact I.after hq
  |next=>exact False.elim hq
  |brk=>exact False.elim hq
  |cont=>exact False.elim hq
theorem s_call {k n fi:Nat} {f:Addr} {ps:2#Str} {x:Str} {p:Pos} {e:Expr} {ies:2#PI.E} (F:FnOk X.prog X.w X.K X.mg X.base (dA X.prog X.w) k f fd ps (eJ T P n fi)) (hr:Room k X.A) (hb:Binds X.K fd ps []) (hx:cG X) (hg:Gl X x) (hm:X.mg x=1#3#f) (hk:PySem.W.keepIn X.K 3#f=true)
  (ha:PA 9#0 (e::es) (eD T P (call P n) E ies)) (hdb:(x==("__debug__":Str))=false) (he:8#13) (hpl:8#32):
  PE 9#0 (.Call (.Name x p) (e::es) [] pos) (tE T P (call P n) E (.call fi ies)):=by
 intro pins s σ H Q I ⟨env,st,as,G,sm,er,h⟩;dsimp only[PI.E.run] at h;have h2:=cX (K:=λus H1=>eJ T P n fi us H1 Q (E σ)) sm er h λxs st1 as1 G1 H1 us s1 er1 r1 p1 l1 h=>⟨st1,as1,G1,xs,s1,r1,h⟩;refine abu (iJ I hg hm ?_ hdb);refine acV (h₀:=X.base) I.ok.mod.kin hk (az (ha pos pins s σ H _ I h2) λus s1 zq13=> ?_) he hpl;let⟨vs,H1,I1,r,q⟩:=zq13;refine⟨I1.bQ, ?_⟩;exact kI F hr hb hx I1 r q
theorem DF {k n fi:Nat} {f:Addr} {ps:2#Str} {x:Str} {p:Pos} (F:FnOk X.prog X.w X.K X.mg X.base (dA X.prog X.w) k f fd ps (eJ T P n fi)) (hr:Room k X.A) (hb:Binds X.K fd ps []) (hx:cG X) (hg:Gl X x) (hm:X.mg x=1#3#f) (hk:PySem.W.keepIn X.K 3#f=true)
  (hdb:(x==("__debug__":Str))=false):PE 9#0 (.Call (.Name x p) [] [] pos) (tE T P (call P n) E (.call fi [])):=by
 intro pins s σ H Q I ⟨env,st,as,G,sm,er,h⟩;dsimp only[PI.E.run] at h;refine abu (iJ I hg hm ?_ hdb);exact acN I.bQ hk (kI (us:=[]) F hr hb hx I .nil ⟨st,as,G,[],sm,rfl,h⟩)
end
section
variable {P':Program} {w:World} {K:8#4} {mg:8#23} {base:Heap} {N:2#Str} {qual:Str} {f:Addr}
theorem okS {x:Str} {st:Stmt} {ps:2#Str} {k:Nat} {sp:Sp} (F:Fun K x qual st f fd) (S:FnScope N ps (aA st)) (len:∀vs H Q E,sp vs H Q E->0#vs=0#ps)
  (hbody:∀(cdv:Value) (A:Around) (outer:2#PySem.Env) (s:9#4) (H:Hp) (vs:2#L2.V) (Q:VK) (E:XK),Room k (A.deeper (envOfC qual (aA st) s.heap.objs.size f cdv))->sp vs H Q E->
   ∃t,dI ((vE P' w K mg base N qual (aA st) f cdv A outer s H E).af (L4.XE (vE P' w K mg base N qual (aA st) f cdv A outer s H E) λ_=>E)) (bj st) t/\t {nx:=λ_ H'=>Q .non H',rt:=Q} (start N vs) H):
  FnOk P' w K mg base (dA P' w) (k+1) f fd ps sp:=by
 let⟨oc,od,kV,doc,pm,an,cdv,ct,osl,rfl,lk,hcd⟩:=F.ex;refine IL lk hcd S len λA outer s H vs Q E hr hsp=> ?_;let⟨t,h,q⟩:=hbody cdv A outer s H vs Q E hr hsp;refine⟨t,λpins s1 σ1 H1 D I hw=> ?_,q⟩;exact aa3 (h pins s1 σ1 H1 D (I.af _) hw) (λ_ _ z=>z.bD) λe s2 z=>L4.Dm fmD rfl z
variable {T:CT} {P:Pg}
theorem JD {x:Str} {st:Stmt} {ps:2#Str} {k n fi:Nat} {d:Fn} (F:Fun K x qual st f fd) (S:FnScope N ps (aA st)) (hd:(P.fn fi)=1#d) (hp:d.np=0#ps) (hn:d.ns=0#N)
  (body:∀(cdv:Value) (A:Around) (outer:2#PySem.Env) (s:9#4) (H:Hp) (E:XK),Room k (A.deeper (envOfC qual (aA st) s.heap.objs.size f cdv))->
   dI ((vE P' w K mg base N qual (aA st) f cdv A outer s H E).af (L4.XE (vE P' w K mg base N qual (aA st) f cdv A outer s H E) λ_=>E)) (bj st) (ml T P (call P n) (λ_=>E) d.body)):
  FnOk P' w K mg base (dA P' w) (k+1) f fd ps (eJ T P (n+1) fi):=by
 have arity:∀{as G xs st Q X},ab T as G (call P (n+1) fi xs st) Q X->0#xs=d.np/\ab T as G ((aE P (call P n) d.body (xs.map some++List.replicate (d.ns-d.np) none) st).fin P st) Q X:=λ{as G xs st Q X} h=>by
  unfold call at h;rw[hd] at h;exact ab.iff h
 refine okS F S (λvs H Q E ⟨st,as,G,xs,s,r,h⟩=> ?_) λcdv A outer s H vs Q E hr ⟨st,as,G,xs,sm,r,h⟩=>⟨_,body cdv A outer s H E hr, ?_⟩
 ·rw[←0#r,(arity h).1,hp]
 ·let⟨la,h⟩:=arity h;refine⟨xs.map some++List.replicate (d.ns-d.np) none,st,as,G,sm, ?_, ?_⟩
  ·have lv:0#vs=0#xs:=r.length.symm;refine⟨by simp[L2.start,lv,la,hn],λi v e=> ?_⟩
   by_cases hi:i<0#xs
   ·rw[aao (by simpa using hi),aaO] at e;let⟨v',e1,e2⟩:=aab.mp e;cases e2;let⟨u,e3,hr⟩:=r.get e1;refine⟨u, ?_,hr⟩;unfold L2.start;rw[aao (by simpa[lv] using hi),aaO,e3];rfl
   ·rw[aal (by simpa using hi),abU] at e;split at e<;>cases e
  ·cases e1:aE P (call P n) d.body (xs.map some++List.replicate (d.ns-d.np) none) st with
   |next env st'=>
    rw[e1] at h;exact λas' G' H' σ' p l s' er=>ni (v:= .non) (u:= .non) sm s' p l rfl h
   |ret v st'=>
    rw[e1] at h;exact λas' G' H' u p l s' rv=>ni sm s' p l rv h
   |exc x env st'=>
    rw[e1] at h;exact λas' G' H' σ' cls dx p l s' er ex=>D4 sm s' p l ex h
   |brk env st'=>rw[e1] at h;exact h.elim
   |cont env st'=>rw[e1] at h;exact h.elim
   |stuck=>rw[e1] at h;exact h.elim
end
end PI
namespace PI
open PySem L2 L2.L3 L2.L4 PySem.SeqAt
mutual
theorem pf {n:Nat}:∀{t:PI.T} {v:Val} {env env':Env},t.low n=true->t.put v env=1#env'->0#env'=0#env/\∀(i:Nat),n<=i->env'[i]?=env[i]?
 | .var k,v,env,env',l,e=>by
  unfold PI.T.put at e;unfold PI.T.low at l;split at e
  ·cases e;refine⟨by simp,λi hi=> ?_⟩;have:=aa4 l;rw[abx 8#0]
  ·cases e
 | .tup ts,v,env,env',l,e=>by
  unfold PI.T.low at l
  cases v with
  |tup fl xs=>exact mM l (show bL xs env ts=1#env' by unfold PI.T.put at e;exact e)
  |_=>(unfold PI.T.put at e;cases e)
theorem mM {n:Nat}:∀{ts:2#PI.T} {vs:2#Val} {env env':Env},lows n ts=true->bL vs env ts=1#env'->0#env'=0#env/\∀(i:Nat),n<=i->env'[i]?=env[i]?
 |[],[],_,_,_,e=>by
  cases e;exact⟨rfl,λ_ _=>rfl⟩
 |[],_::_,_,_,_,e=>by cases e
 |_::_,[],_,_,_,e=>by cases e
 |t::ts,v::vs,env,env',l,e=>by
  replace e:(t.put v env).bind (λenv=>bL vs env ts)=1#env':=by unfold bL at e;exact e
  unfold lows at l;rw[aag] at l
  cases e1:t.put v env with
  |none=>rw[e1] at e;cases e
  |some env1=>
   rw[e1] at e;let⟨a1,a2⟩:=pf l.1 e1;let⟨b1,b2⟩:=mM l.2 (show bL vs env1 ts=1#env' from e);exact⟨b1.trans a1,λi hi=>(b2 i hi).trans (a2 i hi)⟩
end
theorem DB {T:CT} {G:Hp} {env:Env} {σ:St} (ws:2#Str) (caps:2#Nat) (h:aL T as G env σ):aL T as G (av 0#ws caps env) (stC ws caps σ):=by
 refine⟨by simp[av,stC],λi v e=> ?_⟩;unfold av at e
 by_cases hi:i<0#ws
 ·rw[aao (by simpa using hi),abU,if_pos hi] at e;cases e
 ·rw[aal (by simpa using hi),aaO] at e;let⟨c,e1,e2⟩:=aab.mp e
  have e3:env[c]?=1#1#v:=by
   cases q:env[c]? with
   |none=>rw[q] at e2;cases e2
   |some o=>rw[q] at e2;exact congrArg some e2
  let⟨u,e4,r⟩:=h.2 c v e3;refine⟨u, ?_,r⟩;unfold stC;rw[aal (by simpa using hi),aaO];rw[show i-0#(ws.map λ_=>(none:5#L2.V))=i-0#(List.replicate 0#ws (none:5#Val)) by simp,e1];simp[e4]
theorem qP {T:CT} {G:Hp} {env env1:Env} {σ:St} {n:Nat} {caps:2#Nat} {t:PI.T} {v:Val} (l:t.low n=true) (e:t.put v (av n caps env)=1#env1) (h:aL T as G env1 σ):aL T as G (av n caps env) σ:=by
 let⟨a1,a2⟩:=pf l e;refine⟨by rw[←a1];exact h.1,λi w ew=> ?_⟩
 by_cases hi:i<n
 ·unfold av at ew;rw[aao (by simpa using hi),abU,if_pos hi] at ew;cases ew
 ·exact h.2 i w (by rw[a2 i 8#0];exact ew)
section
variable {T:CT} {P:Pg} {cl:ax} {E:XS} {X:Cx} {pos:Pos}
theorem Lb {e:Expr} (he:8#31):PE X e (tE T P cl E (.fz ie)):=
 PE.mono he λσ H Q z903=>by
  let⟨env,st,as,G,s,er,h⟩:=z903;dsimp only[PI.E.run] at h;refine⟨env,st,as,G,s,er, ?_⟩
  cases e1:ie.run P cl env st with
  |stuck=>rw[e1] at h;exact h.elim
  |exc x st1=>rw[e1] at h;exact h
  |ok v st1=>
   rw[e1] at h;intro as1 G1 H1 p l s1 u r;let⟨v2,st2,as2,G2,s2,r2,q⟩:=ID s s1 p l r h;exact q u r2
def tO (T:CT) (P:Pg) (cl:ax) (E:XS) (c:5#PI.E):TT:=λσ H Q=>∃env st as G,Sim T st as G H/\aL T as G env σ/\ab T as G (runC P cl c env st) (λb _ _ _ H'=>Q b H') (E σ)
theorem FK:lg X [] (tO T P cl E none):=λpins s σ H Q I z906=>by let⟨env,st,as,G,sm,er,h⟩:=z906;exact CQ pins s σ H Q I (h.ok sm)
theorem F3 {c:Expr} (hc:PT X c (tT T P cl E ic)):lg X [c] (tO T P cl E 1#ic):=Dl hc
open Classical in
theorem oW {σ0:St} {ws:2#Str} {caps:2#Nat} {t:PI.T} {c:5#PI.E} {ie:PI.E} {it:2#Val×2#(Nat×Ob)} {env:Env} {st:aa} {as:2#Addr} {G H:Hp} {Q:Val->aa->2#Addr->Hp->Hp->Prop} {Z:2#L2.V->Hp->Prop} {J:It} {src:2#Addr->Hp->Prop}
  (s:9#3) (er:aL T as G env σ0) (wk:Walks T J it.1 it.2 src) (sr:src as G) (low:t.low 0#ws=true) (len:0#it.1<=10000)
  (h:ab T as G ((ay 8#6 it.2 it.1 st).bind λxs st=>new 7#xs st) Q (E σ0))
  (hZ:∀xs ys st as' G' H',as<+:as'->Le G G'->Sim T st as' G' H'->ae T as' G' xs ys->ab T as' G' (new 7#xs st) Q (E σ0)->Z ys H'):
  L3.runC (tG T t) (tO T P cl (λ_=>E σ0) c) (tE T P cl (λ_=>E σ0) ie) J (stC ws caps σ0) H Z:=by
 have sz:sizeLine=2^24:=rfl
 refine⟨λi m ys σ H=>m=0#it.1-i/\i<=0#it.1/\∃st as1 G1 xs,as<+:as1/\Le G G1/\Sim T st as1 G1 H/\aL T as1 G1 (av 0#ws caps env) σ/\src as1 G1/\ae T as1 G1 xs ys/\0#xs<=i/\
   ab T as1 G1 ((ay 8#6 it.2 (it.1.drop i) st).bind λr st=>new 7#(xs++r) st) Q (E σ0),
  ⟨_,rfl,aaX _,st,as,G,[],aai _,Le.refl _,s,DB ws caps er,sr,rfl,aah _,h⟩, ?_⟩
 rintro i m ys σ H ⟨rfl,hi,st,as1,G1,xs,p1,l1,s,er,sr,rx,lx,h⟩
 by_cases hl:i=0#it.1
 ·subst hl;rw[List.drop_length] at h
  let⟨kp,h⟩:=ab.iff (show ab T as1 G1 (iff (Kept it.2 st) (new 7#(xs++[]) st)) Q (E σ0) by
   by_cases z:Kept it.2 st
   ·rw[bq z];have:ay 8#6 it.2 [] st= .ok [] st:=bq z;rw[this] at h;exact h
   ·have:ay 8#6 it.2 [] st= .stuck:=if_neg z;rw[this] at h
    exact h.elim)
  rw[abj] at h;exact .inl ⟨wk.stop s kp sr,hZ xs ys st as1 G1 H p1 l1 s rx h⟩
 ·have li:i<0#it.1:=by lia
  rw[List.drop_eq_getElem_cons li] at h
  have ⟨kp,h⟩:Kept it.2 st/\ab T as1 G1 ((aI (t.put it.1[i] (av 0#ws caps env)) (runC P cl c) (ie.run P cl) st).bind λo st=>(ay 8#6 it.2 (it.1.drop (i+1)) st).bind λr st=>new 7#(xs++fA o r) st) Q (E σ0):=by
   by_cases z:Kept it.2 st
   ·refine⟨z, ?_⟩;have:ay 8#6 it.2 (it.1[i]::it.1.drop (i+1)) st=(aI (t.put it.1[i] (av 0#ws caps env)) (runC P cl c) (ie.run P cl) st).bind λo st=>(ay 8#6 it.2 (it.1.drop (i+1)) st).bind λr st=> .ok (fA o r) st:=bq z;rw[this,R.bind_assoc] at h;simpa only[R.bind_assoc,R.oo] using h
   ·have:ay 8#6 it.2 (it.1[i]::it.1.drop (i+1)) st= .stuck:=if_neg z;rw[this] at h;exact h.elim
  refine .inr ⟨wk.go li s kp sr,λys' σ' H'=>∃st as1 G1 xs,as<+:as1/\Le G G1/\Sim T st as1 G1 H'/\aL T as1 G1 (av 0#ws caps env) σ'/\src as1 G1/\ae T as1 G1 xs ys'/\0#xs<=i+1/\
    ab T as1 G1 ((ay 8#6 it.2 (it.1.drop (i+1)) st).bind λr st=>new 7#(xs++r) st) Q (E σ0),
   λys' σ' H' w=>⟨0#it.1-(i+1),by lia,rfl,by lia,w⟩,λx H2 y=> ?_⟩
  let⟨v,G2,e2,l2,s2,rv⟩:=wk.yld li s kp sr y;rw[aac li] at e2;cases e2;unfold aI at h;rw[R.bind_assoc] at h;let⟨env1,e3,h⟩:=ab.aj h;refine⟨av 0#ws caps env,st,as1,G2,_,env1,s2,er.mono (aai _) l2,rv,e3,λσ3 er3=> ?_⟩;rw[R.bind_assoc] at h;refine⟨env1,st,as1,G2,s2,er3,(ab.mono (aai _) l2 h).bind.imp λb st4 as4 G4 H4 p4 l4 s4 h=> ?_⟩
  cases b with
  |false=>exact lZ ⟨st4,as4,G4,xs,p1.trans p4,l1.trans (l2.trans l4),s4,qP low e3 (er3.mono p4 l4),wk.mono p4 (l2.trans l4) sr,rx.mono p4 (l2.trans l4),by lia,h⟩
  |true=>
   refine lM ?_;replace h:ab T as4 G4 (((ie.run P cl env1 st4).bind λx st=> .ok 1#x st).bind λo st=>(ay 8#6 it.2 (it.1.drop (i+1)) st).bind λr st=>new 7#(xs++fA o r) st) Q (E σ0):=h;rw[R.bind_assoc] at h;refine aB (E:=λ_=>E σ0) (σ:=σ3) s4 (er3.mono p4 l4) h λx st5 as5 G5 H5 u s5 er5 r5 p5 l5 h=> ?_;refine⟨by rw[←0#rx];lia,st5,as5,G5,xs++[x],p1.trans (p4.trans p5),l1.trans (l2.trans (l4.trans l5)),s5,qP low e3 er5,wk.mono (p4.trans p5) (l2.trans (l4.trans l5)) sr,ae.append (rx.mono (p4.trans p5) (l2.trans (l4.trans l5))) ⟨u,[],rfl,r5,rfl⟩,by simp;lia, ?_⟩;simpa[fA] using h
theorem EN {ws:2#Str} {caps:2#Nat} {sc:Scope} {t:PI.T} {q:PI.Q} {c:5#PI.E} (fm:Framed X) (hx:cG X) (B:BlockOkC X.env.scope sc) (hc:X.calm=true) (hcap:8#22) (hi:L2.PI (X.af (L4.XE X E)) tg iter (tQ T P cl E q))
  (hg:∀σ own C fp pn s H,8#12->PG 8#34 tg (tG T t)) (ht:∀σ own C fp pn s H,8#12->lg 8#34 ifs (tO T P cl (λ_=>E σ) c))
  (he:∀σ own C fp pn s H,8#12->PE 8#34 elt (tE T P cl (λ_=>E σ) ie)) (hs:∀x,foldedSetIterable iter X.env x=pure x):
  PE 9#0 9#8 (tE T P cl E (.comp 0#ws caps t q c ie)):=
 PE.mono (L4.BM fm hx B hc hcap hi hg ht he hs) λσ H Q z903=>by
  let⟨env,st,as,G,s,er,h⟩:=z903;dsimp only[PI.E.run] at h;refine⟨env,st,as,G,s,er,h.bind.imp λit st1 as1 G1 H1 p l s1 h J src wk sr=> ?_⟩;let⟨⟨low,len⟩,h⟩:=ab.iff h;exact oW s1 (er.mono p l) wk sr low len h λxs ys st as' G' H' p' l' s' r h D hD=>gh s' r h hD
theorem Gh {i:Nat} {y:Str} {ws:2#Str} {caps:2#Nat} {sc:Scope} {t:PI.T} {q:PI.Q} {c:5#PI.E} (fm:Framed X) (hx:cG X) (B:BlockOkC X.env.scope sc) (hc:X.calm=true) (hcap:8#22) (hN:X.N.Nodup) (hy:X.N[i]?=1#y) (hl:X.env.scope.names.lookup y=1#.local) (hi:L2.PI (X.af (L4.XE X E)) tg iter (tQ T P cl E q))
  (hg:∀σ own C fp pn s H,8#12->PG 8#34 tg (tG T t)) (ht:∀σ own C fp pn s H,8#12->lg 8#34 ifs (tO T P cl (λ_=>E σ) c))
  (he:∀σ own C fp pn s H,8#12->PE 8#34 elt (tE T P cl (λ_=>E σ) ie)) (hsw:swapsWith (.ListComp elt [⟨tg,iter,ifs,0⟩] sc cpos) 1#(.Name y py) pos.line X.env=pure true) (hs:∀x,foldedSetIterable iter X.env x=pure x):
  PS 9#0 (.Assign [.Name y py] (.ListComp elt [⟨tg,iter,ifs,0⟩] sc cpos) pos) (tS T P cl E (.set 4#i (.comp 0#ws caps t q c ie))):=
 PS.mono (L4.Ad fm hx B hc hcap hN hy hl hi hg ht he hsw hs) λD σ H z903=>by
  let⟨env,st,as,G,s,er,h⟩:=z903;dsimp only[PI.S.run,PI.E.run] at h;refine⟨env,st,as,G,s,er, ?_⟩
  cases e1:q.run P cl env st with
  |stuck=>rw[e1] at h;exact h.elim
  |exc x st1=>
   rw[e1] at h;exact λas' G' H' cls dx p l s' x=>h as' G' H' σ cls dx p l s' (er.mono p l) x
  |ok it st1=>
   rw[e1] at h;intro as1 G1 H1 p1 l1 s1 J src wk sr
   have h2:ab T as G (iff (t.low 0#ws=true/\0#it.1<=10000) ((ay 8#6 it.2 it.1 st1).bind λxs st=>new 7#xs st)) (λv st as' G' H'=>∀u,Rel T as' G' v u->∀σ',aL T as' G' (env.set i 1#v) σ'->D.nx σ' H') (E σ):=by
    replace h:aH T as G (F.of env (iff (t.low 0#ws=true/\0#it.1<=10000) ((ay 8#6 it.2 it.1 st1).bind λxs st=>new 7#xs st)) λx st=>F.aj st ((PI.T.var i).put x env)) D E:=h;generalize iff (t.low 0#ws=true/\0#it.1<=10000) ((ay 8#6 it.2 it.1 st1).bind λxs st=>new 7#xs st)=r at h⊢
    cases r with
    |stuck=>exact h
    |exc x st=>exact λas' G' H' cls dx p l s' x=>h as' G' H' σ cls dx p l s' (er.mono p l) x
    |ok v st=>
     intro as' G' H' p l s' u ru σ' er';replace h:aH T as G (F.aj st ((PI.T.var i).put v env)) D E:=h;unfold PI.T.put at h;split at h
     ·exact h as' G' H' σ' p l s' er'
     ·exact h.elim
   let⟨⟨low,len⟩,h3⟩:=ab.iff h2;refine oW s1 (er.mono p1 l1) wk sr low len (ab.mono p1 l1 h3) λxs ys st as' G' H' p' l' s' r h D' hD=> ?_;have h4:=h (as'++[D']) G' _ (aav _ _) 8#25 (s'.push hD ⟨ys,aq,r.mono (aav _ _) 8#25⟩) 3#D';have rn:Rel T (as'++[D']) G' 3#0#st 3#D':=⟨D',by rw[←s'.len,aal (aah _)];simp,rfl⟩;exact h4 rn _ ((er.mono (p1.trans (p'.trans (aav _ _))) (l1.trans l')).set i rn)
end
theorem ky:∀(n:Nat) (lo:Int),0#(aW lo n)=n
 |0,_=>rfl
 |n+1,lo=>by
  unfold aW;rw[aar,ky n]
theorem vn:∀(n:Nat) (lo:Int) (i:Nat),i<n->(aW lo n)[i]?=1#6#(lo+i)
 |0,_,_,h=>by lia
 |n+1,lo,0,_=>by
  unfold aW;simp
 |n+1,lo,i+1,h=>by
  unfold aW;rw[abD,vn n (lo+1) i 8#0];congr 2
  push_cast
  lia
section
variable {T:CT} {P:Pg} {cl:ax} {E:XS} {X:Cx} {pos:Pos}
theorem pT (lo:Int) (n:Nat):Walks T (yN lo n) (aW lo n) [] (λ_ _=>True) where
 mono _ _ h:=h
 stop _ _ _:=by rw[ky];exact aah n
 go hi _ _ _:=by rw[ky] at hi;exact hi
 yld hi s _ _ y:=by
  rw[ky] at hi;let⟨rfl,rfl⟩:=y;exact⟨_,_,vn n lo _ hi,Le.refl _,s,rfl⟩
theorem vM {α:Type} {e:PI.E} {env:Env} {st:aa} {G H:Hp} {σ:St} {f:Val->aa->R α} {Q:8#27} {K:2#L2.V->Hp->Prop} (s:9#3) (er:aL T as G env σ)
  (h:ab T as G ((e.run P cl env st).bind f) Q (E σ))
  (k:∀v st1 as1 G1 H1 u,Sim T st1 as1 G1 H1->aL T as1 G1 env σ->Rel T as1 G1 v u->ab T as1 G1 (f v st1) Q (E σ)->K [u] H1):eD T P cl E [e] σ H K:=by
 refine⟨env,st,as,G,s,er, ?_⟩;unfold aS
 cases e1:e.run P cl env st with
 |stuck=>rw[e1] at h;exact h.elim
 |exc x st1=>rw[e1] at h;exact h
 |ok v st1=>
  rw[e1] at h;intro as1 G1 H1 p l s1 us r;let⟨u,t,rfl,r1,r2⟩:=r;cases r2;exact k v st1 as1 G1 H1 u s1 (er.mono p l) r1 (ab.mono p l h)
theorem vk {α:Type} {e e':PI.E} {env:Env} {st:aa} {G H:Hp} {σ:St} {f:Val->Val->aa->R α} {Q:8#27} {K:2#L2.V->Hp->Prop} (s:9#3) (er:aL T as G env σ)
  (h:ab T as G ((e.run P cl env st).bind λx st=>(e'.run P cl env st).bind λy st=>f x y st) Q (E σ))
  (k:∀v v' st1 as1 G1 H1 u u',Sim T st1 as1 G1 H1->aL T as1 G1 env σ->Rel T as1 G1 v u->Rel T as1 G1 v' u'->ab T as1 G1 (f v v' st1) Q (E σ)->K [u,u'] H1):eD T P cl E [e,e'] σ H K:=by
 refine⟨env,st,as,G,s,er, ?_⟩;unfold aS aS
 cases e1:e.run P cl env st with
 |stuck=>rw[e1] at h;exact h.elim
 |exc x st1=>rw[e1] at h;exact h
 |ok v st1=>
  rw[e1] at h;replace h:ab T as G ((e'.run P cl env st1).bind λy st=>f v y st) Q (E σ):=h;rw[R.oo]
  cases e2:e'.run P cl env st1 with
  |stuck=>rw[e2] at h;exact h.elim
  |exc x st1=>rw[e2] at h;exact h
  |ok v' st2=>
   rw[e2] at h;intro as1 G1 H1 p l s1 us r;let⟨u,t,rfl,r1,u',t',rfl,r2,r3⟩:=r;cases r3;exact k v v' st2 as1 G1 H1 u u' s1 (er.mono p l) r1 r2 (ab.mono p l h)
theorem Gj {a:Expr} {p:Pos} (hg:Gl X "range") (hm:X.mg "range"=none) (ha:PA X [a] (eD T P cl E [ia])) (hs:starEach [a] X.env=[(false,eval a X.env)]):L2.PI X tg (.Call (.Name "range" p) [a] [] pos) (tQ T P cl E (.rng1 ia)):=
 PI.mono (yg hg hm ha hs) λσ H R z903=>by
  let⟨env,st,as,G,s,er,h⟩:=z903;unfold PI.Q.run at h;refine vM s er h λx st1 as1 G1 H1 u s1 er1 r1 h=> ?_
  cases x with
  |int n=>
   cases r1;let⟨c,h⟩:=ab.iff h;exact⟨n,rfl,by lia,by lia,h.ok s1 _ _ (pT 0 n.toNat) trivial⟩
  |_=>exact h.elim
theorem Fs {a b:Expr} {p:Pos} (hg:Gl X "range") (hm:X.mg "range"=none) (ha:PA X [a,b] (eD T P cl E [ia,ib])) (hs:starEach [a,b] X.env=[(false,eval a X.env),(false,eval b X.env)]) (hs2:starEach [b] X.env=[(false,eval b X.env)]):L2.PI X tg (.Call (.Name "range" p) [a,b] [] pos) (tQ T P cl E (.rng2 ia ib)):=
 PI.mono (zX hg hm ha hs hs2) λσ H R z903=>by
  let⟨env,st,as,G,s,er,h⟩:=z903;unfold PI.Q.run at h;refine vk s er h λx y st1 as1 G1 H1 u w s1 er1 r1 r2 h=> ?_
  cases x with
  |int n=>cases y with
   |int m=>
    cases r1;cases r2;let⟨c,h⟩:=ab.iff h;exact⟨n,m,rfl,⟨by lia,by lia,by lia,by lia⟩,h.ok s1 _ _ (pT n (m-n).toNat) trivial⟩
   |_=>exact h.elim
  |_=>exact h.elim
theorem qI {st:aa} {G H:Hp} {k:Nat} {u:L2.V} (s:9#3) (r:Rel T as G 3#k u) (e:st[k]?=1#7#ys):∃a us,u= 3#a/\as[k]?=1#a/\H a=1#7#us/\ae T as G ys us:=by
 let⟨a,ea,rfl⟩:=r;let⟨us,q,r⟩:=s.ob k _ a e ea;exact⟨a,us,rfl,ea,q,r⟩
def zM (T:CT) (m:Bm):L2.V->2#L2.V->Hp->VK->Prop:=λu ws H Q=>∃st as G x xs Z,Sim T st as G H/\Rel T as G x u/\ae T as G xs ws/\ab T as G (k9 m x xs st) (PV T Q) Z
theorem Mp {e:Expr} {ies:2#PI.E} {m:Bm} {name:Str} {apos:Pos} {id:String} (hd:bT m=false) (hK:T.K=X.K) (slot:Slot "list" name id) (hty:typeOf (.builtin id)=pure (.type "method_descriptor")) (hm:rF X id (zM T m)) (ho:PE X o (tE T P cl E io)) (ha:PA X (e::es) (eD T P cl E ies))
  (hbase:attributeBase o name X.env (eval o X.env)=eval o X.env)
  (hfew:((backTo pos (starEach (e::es) X.env)).all (λx=> !x.1)&&(backToKw pos (keywordEach [] X.env)).all (λx=>x.1.isSome)&&decide (0#(e::es)+0#([]:2#Keyword)+(if ([]:2#Keyword).isEmpty then 0 else 1)<30))=true)
  (hline:(apos.endLine==pos.line)=true) (hs:8#13) (hplain:8#32):
  PE X (.Call (.Attribute o name apos) (e::es) [] pos) (tE T P cl E (.bm m io ies)):=
 PE.mono (Ij PySem.F.plainAttrs_list slot hty hm ho ha hbase hfew hline hs hplain) λσ H Q z903=>by
  let⟨env,st,as,G,s,er,h⟩:=z903;dsimp only[PI.E.run] at h;refine aB s er h λx st1 as1 G1 H1 u s1 er1 r1 p1 l1 h=> ?_;let⟨c,h⟩:=ab.iff h;refine⟨?_,cX s1 er1 h λxs st2 as2 G2 H2 us s2 er2 r2 p2 l2 h=>⟨st2,as2,G2,x,xs,_,s2,r1.mono p2 l2,r2,h⟩⟩;have r3:=aY s1 r1;generalize res st1 x=y at c r3
  cases y with
  |lst xs=>
   let⟨a,us,rfl,q,_⟩:=r3;exact .inl ⟨rfl,us,hK▸q⟩
  |dct ks vs=>
   replace c:bT m=true:=c;rw[hd] at c;cases c
  |_=>cases c
theorem zK {m:Bm} {x:Val} {st:aa} {G:Hp} {Q:Val->aa->2#Addr->Hp->Hp->Prop} {Z:XK} (hd:m≠ .get) (h:ab T as G (k9 m x xs st) Q Z):∃k ys,x= 3#k/\st[k]?=1#7#ys/\ab T as G (pN m k xs st 1#7#ys) Q Z:=by
 cases x with
 |ref k=>
  have e:k9 m 3#k xs st=pN m k xs st st[k]?:=by cases m<;>first|rfl|exact absurd rfl hd
  rw[e] at h
  cases e2:st[k]? with
  |none=>rw[e2] at h;exact h.elim
  |some o=>
   rw[e2] at h
   cases o with
   |lst ys=>exact⟨k,ys,rfl,e2,h⟩
   |dct ks vs=>exact h.elim
   |ins c ns vs=>exact h.elim
 |_=>
  exfalso
  cases m<;>first|exact absurd rfl hd|exact h
theorem uW {st:aa} {G H:Hp} {k:Nat} {a:Addr} {v:Val} {u:L2.V} {Q:VK} {Z:XK} (s:9#3) (ea:as[k]?=1#a) (r:ae T as G ys us) (rv:Rel T as G v u) (h:ab T as G (.ok v (st.set k 7#ys)) (PV T Q) Z):Q u (upd H a 7#us):=
 h as G _ (aai _) 8#25 (s.set ea ⟨us,aq,r⟩) u rv
theorem AV:rF X "list.append" (zM T .append):=λpins s0 σ H u ws v vs Q I ru rw' z912=>by
 let⟨st,as,G,x,xs,Z,s,r1,r2,h⟩:=z912;let⟨k,ys,rfl,e,h⟩:=zK (λz=>by cases z) h;let⟨a,us,rfl,ea,q,r⟩:=qI s r1 e
 match xs,r2,h with
 |[y],⟨w,t,z,r3,r4⟩,h=>
  subst z;cases r4;let⟨c,h⟩:=ab.iff h;have sz:sizeLine=2^24:=rfl;exact oQ pins s0 σ H _ _ v vs Q I ru rw' ⟨a,us,w,rfl,rfl,q,by rw[←0#r];lia,uW (v:= .non) s ea (ae.append r (show ae T as G [y] [w] from ⟨w,[],rfl,r3,rfl⟩)) rfl h⟩
 |[],_,h=>exact h.elim
 |_::_::_,_,h=>exact h.elim
theorem HI {k:Nat} {x y:Val} {r:2#Val} {st:aa} {G:Hp} {Q:Val->aa->2#Addr->Hp->Hp->Prop} {Z:XK} (h:ab T as G (pN .extend k (x::y::r) st 1#7#ys) Q Z):False:=by
 cases x<;>exact h
theorem BG:rF X "list.extend" (zM T .extend):=λpins s0 σ H u ws v vs Q I ru rw' z912=>by
 let⟨st,as,G,x,xs,Z,s,r1,r2,h⟩:=z912;let⟨k,ys,rfl,e,h⟩:=zK (λz=>by cases z) h;let⟨a,us,rfl,ea,q,r⟩:=qI s r1 e
 match xs,r2,h with
 |[3#j],⟨w,t,z,r3,r4⟩,h=>
  subst z;cases r4;replace h:ab T as G (CO k ys st st[j]?) (PV T Q) Z:=h
  cases e2:st[j]? with
  |none=>rw[e2] at h;exact h.elim
  |some o=>
   rw[e2] at h
   cases o with
   |lst zs=>
    let⟨b,us2,rfl,eb,q2,rb⟩:=qI s r3 e2;let⟨c,h⟩:=ab.iff h;have sz:sizeLine=2^24:=rfl;exact xV pins s0 σ H _ _ v vs Q I ru rw' ⟨a,b,us,us2,rfl,rfl,q,q2,by rw[←0#r,←0#rb];lia,uW (v:= .non) s ea (ae.append r rb) rfl h⟩
   |dct ks vs=>exact h.elim
   |ins c ns vs=>exact h.elim
 |[],_,h=>exact h.elim
 |[.non],_,h=>exact h.elim
 |[.bl _],_,h=>exact h.elim
 |[6#_],_,h=>exact h.elim
 |[.str _],_,h=>exact h.elim
 |[.tup _ _],_,h=>exact h.elim
 |[7#_],_,h=>exact h.elim
 |[.dct _ _],_,h=>exact h.elim
 |[.obj _ _ _],_,h=>exact h.elim
 |_::_::_,_,h=>exact(HI h).elim
theorem IX {m:Bm} {name:Str} {apos:Pos} {id:String} (hd:bT m=false) (hK:T.K=X.K) (slot:Slot "list" name id) (hty:typeOf (.builtin id)=pure (.type "method_descriptor")) (hm:rF X id (zM T m)) (ho:PE X o (tE T P cl E io))
  (hbase:attributeBase o name X.env (eval o X.env)=eval o X.env) (hline:(apos.endLine==pos.line)=true):PE X (.Call (.Attribute o name apos) [] [] pos) (tE T P cl E (.bm m io [])):=
 PE.mono (HB PySem.F.plainAttrs_list slot hty hm ho hbase hline) λσ H Q z903=>by
  let⟨env,st,as,G,s,er,h⟩:=z903;dsimp only[PI.E.run] at h;refine aB s er h λx st1 as1 G1 H1 u s1 er1 r1 p1 l1 h=> ?_;let⟨c,h⟩:=ab.iff h;refine⟨?_,st1,as1,G1,x,[],_,s1,r1,rfl,h⟩;have r3:=aY s1 r1;generalize res st1 x=y at c r3
  cases y with
  |lst xs=>
   let⟨a,us,rfl,q,_⟩:=r3;exact .inl ⟨rfl,us,hK▸q⟩
  |dct ks vs=>
   replace c:bT m=true:=c;rw[hd] at c;cases c
  |_=>cases c
end
end PI
namespace PI
open PySem PySem.Spec L2 L2.L3 L2.L4 PySem.SeqAt
open PyProof.Rows hiding St lobj
section
variable {T:CT} {P:Pg} {cl:ax} {E:XS} {X:Cx} {pos:Pos}
theorem vt {G:Hp} {i:Int} {v:Val} (r:ae T as G xs us) (e:g9 xs i=1#v):∃u,oX us i=1#u/\Rel T as G v u:=by
 unfold g9 at e
 cases e1:gJ 0#xs i with
 |none=>rw[e1] at e;cases e
 |some j=>
  rw[e1] at e;let⟨u,e2,h⟩:=r.get (show xs[j]?=1#v from e);refine⟨u, ?_,h⟩;unfold oX;rw[←0#r,show vg 0#xs i=1#j from e1];exact e2
def Lk:R2:=λx y H Q=>∃a v,x= 3#a/\jR H a y 1#v/\Q v H
theorem DJ (hu:X.A.units+1<cLine):k7 X Lk:=by
 intro value slice pins s σ H x y v u Q I rx ry h hs;let⟨a,w,rfl,g,q⟩:=h;obtain rfl:v=Value.ref a:=rx;have hT:=ui I g;unfold subscriptTail;refine aaa ?_;rw[getitemInPython_of_ne hT.not_modules];refine aaa (wpAny_specialOf hT PySem.F.slot_dict_getitem.lookup ?_)
 have fin:wpAny 8#3 X.A (subscripted slice false 3#a u) (λr s₃=>wpAny 8#3 X.A (letTemporaryGo value 3#a r>>=λ_=>pure r) (EP X pins σ Q) X.xe s₃) X.xe s:=by
  rw[hs];exact wpAny_operating (aa3 (yV hu I g ry λw' s3 I3 rw'=>⟨w,H,I3,rw',q⟩) (λr s₃ h₃=>aaa (wpAny_letTemporaryGo (aaf h₃))) λ_ _ x=>x)
 first
  |exact aaf (aaa fin)
  |exact aaa (aaf (aaa fin))
  |exact aaa fin
end
theorem sd {T:CT} {G:Hp} {v:Val} {k:Key} {u:L2.V} (h:bV v=1#k) (r:Rel T as G v u):u=kV k:=by
 cases v<;>first|(cases h;done)|(cases h;exact r)
theorem v5 {T:CT} {G:Hp}:∀{vs:2#Val} {kk:2#Key} {us:2#L2.V},aM vs=1#kk->ae T as G vs us->us=kk.map kV
 |[],_,_,h,r=>by
  cases h;exact r
 |v::vs,kk,us,h,⟨u,t,e,r1,r2⟩=>by
  unfold aM at h
  cases e1:bV v with
  |none=>rw[e1] at h;cases h
  |some k=>
   cases e2:aM vs with
   |none=>rw[e1,e2] at h;cases h
   |some kr=>
    rw[e1,e2] at h;cases h;rw[e,sd e1 r1,v5 e2 r2];rfl
set_option tactic.hygienic true in
theorem oE {d:Nat} {v w:Val} {k k':Key} (h:bV v=1#k) (h':bV w=1#k'):eqv d v w=1#(decide (k=k')):=by
 cases v<;>first|(cases h;done)|skip
 ·rename_i a
  cases w<;>first|(cases h';done)|skip
  ·rename_i b;cases h;cases h';rw[zU];cases d<;>rfl
  ·cases h;cases h';cases d<;>rfl
 ·rename_i a
  cases w<;>first|(cases h';done)|skip
  ·cases h;cases h';cases d<;>rfl
  ·rename_i b;cases h;cases h';rw[zP];cases d<;>rfl
end PI
namespace L2.L3
open PySem PySem.Spec PyProof.Rows
def DG (H:Hp) (a:Addr) (y:V) (o:5#V):Prop:=jR H a y o∨(o=none/\((∃b k,y= 3#b/\H b=1#(.tup (List.map kV k))/\Rd H a (.dK []))∨∃k,y=kV k/\Rd H a (.dT [])))
section
variable {X:Cx} {pins:8#7} {σ:St} {H:Hp} {s:9#4} {a:Addr} {y d:V} {u r:Value} {o:5#V} {A:Around} {E:8#2}
theorem zO (I:8#1) (e:Rd H a (.dK [])):(a==sysModules)=false/\s.heap.DictOfH (tupleKind (aN X.prog X.w)) a []:=by
 let⟨_,hd,vs,rel,dd⟩:=eK I.ah e;cases rel;let⟨ob,es,ep,h1,h2,h3,_,h4,_⟩:=dd
 have e0:es.toList=[]:=by
  generalize es.toList=l at h4;cases h4;rfl
 exact⟨hd,ob,es,ep,h1,h2,h3,e0,λx hx=>(by cases hx),ach⟩
theorem zv (I:8#1) (e:Rd H a (.dT [])):(a==sysModules)=false/\s.heap.DictOf (aN X.prog X.w) a []:=by
 let⟨_,hd,xs,rel,dd⟩:=eM I.ah e;cases rel;let⟨ob,es,ep,h1,h2,h3,h4,_⟩:=dd;have e0:es=#[]:=acz.mp h4;subst e0;let⟨_,es',_,g1,_,g3,g4,g5,_⟩:=Heap.DictOf.new (knd:=aN X.prog X.w) s.heap;rw[aak _ rfl] at g1;cases g1;cases g3;exact⟨hd,ob,#[],ep,h1,h2,h3,g4,g5,ach⟩
theorem Js {Q:8#2} (hu:A.units+1<cLine) (I:8#1) (g:DG H a y o) (ry:RelV y u) (h:∀s',Inv X pins σ H s'->Q (.bool o.isSome) s'):
  wpAny 8#3 A (compareOp .In u 3#a) Q E s:=by
 rcases g with g|⟨rfl,⟨b,k,rfl,eb,e⟩|⟨k,rfl,e⟩⟩
 ·exact LX hu I g ry h
 ·cases 8#26;let⟨hd,dd⟩:=zO I e;refine wpAny_in_heap (aa1 hu) (dh I.ah eb) hd dd ?_;exact h _ (I.tok _)
 ·let⟨hd,dd⟩:=zv I e;refine wpAny_in_of (dX ry) hd dd.mapOf ?_;exact h _ (I.tok _)
theorem Be {Q:8#2} (hu:A.units+1<cLine) (I:8#1) (g:DG H a y o) (ry:RelV y u) (h:∀s',Inv X pins σ H s'->Q (.bool (!o.isSome)) s'):
  wpAny 8#3 A (compareOp .NotIn u 3#a) Q E s:=by
 rcases g with g|⟨rfl,⟨b,k,rfl,eb,e⟩|⟨k,rfl,e⟩⟩
 ·exact Dg hu I g ry h
 ·cases 8#26;let⟨hd,dd⟩:=zO I e;refine wpAny_notIn_heap (aa1 hu) (dh I.ah eb) hd dd ?_;exact h _ (I.tok _)
 ·let⟨hd,dd⟩:=zv I e;refine wpAny_notIn_of (dX ry) hd dd.mapOf ?_;exact h _ (I.tok _)
theorem DU {Q:8#2} (hu:A.units+1<cLine) (I:8#1) (g:DG H a y o) (ry:RelV y u) (h:∀w' s',Inv X pins σ H s'->RelV (o.getD .non) w'->Q w' s'):
  wpAny 8#3 A (call (.builtin "dict.get") [3#a,u]) Q E s:=by
 rcases g with g|⟨rfl,⟨b,k,rfl,eb,e⟩|⟨k,rfl,e⟩⟩
 ·exact Ht hu I g ry h
 ·cases 8#26;let⟨hd,dd⟩:=zO I e;exact abT aaR dd.typeIs aa2 (abV _ _) (meetsH_dict_get (tupleKind (aN X.prog X.w)) a b hd) ⟨aa1 hu,k,[],dh I.ah eb,dd,h _ _ (I.tok _) rfl⟩
 ·let⟨hd,dd⟩:=zv I e;exact abT aaR dd.typeIs aa2 (abV _ _) (meets_dict_get (aN X.prog X.w) a (dX ry) hd) ⟨_,dd.mapOf,h _ _ (I.tok _) rfl⟩
theorem Eh {Q:8#2} (hu:A.units+1<cLine) (I:8#1) (g:DG H a y o) (ry:RelV y u) (rd:RelV d r) (h:∀w' s',Inv X pins σ H s'->RelV (o.getD d) w'->Q w' s'):
  wpAny 8#3 A (call (.builtin "dict.get") [3#a,u,r]) Q E s:=by
 rcases g with g|⟨rfl,⟨b,k,rfl,eb,e⟩|⟨k,rfl,e⟩⟩
 ·exact EE hu I g ry rd h
 ·cases 8#26;let⟨hd,dd⟩:=zO I e;exact abT aaR dd.typeIs aa2 (abW _ _ _) (meetsH_dict_get_default (tupleKind (aN X.prog X.w)) a b hd r) ⟨aa1 hu,k,[],dh I.ah eb,dd,h _ _ (I.tok _) rd⟩
 ·let⟨hd,dd⟩:=zv I e;exact abT aaR dd.typeIs aa2 (abW _ _ _) (meets_dict_get_default (aN X.prog X.w) a (dX ry) hd r) ⟨_,dd.mapOf,h _ _ (I.tok _) rd⟩
end
end L2.L3
namespace PI
open PySem PySem.Spec L2 L2.L3 L2.L4 PySem.SeqAt
open PyProof.Rows hiding St lobj
set_option tactic.hygienic true in
theorem oJ:∀{xs:2#Val},xs.all xl=true->∃kk,aM xs=1#kk
 |[],_=>⟨[],rfl⟩
 |x::xs,h=>by
  rw[aaP,aag] at h;let⟨kk,e⟩:=oJ h.2;have:=h.1
  cases x<;>first|(cases this;done)|skip
  ·rename_i i;exact⟨.inl i::kk,by simp[aM,bV,e]⟩
  ·rename_i i;exact⟨.inr i::kk,by simp[aM,bV,e]⟩
theorem mO {T:CT} {G H:Hp} {k:Val} {w:L2.V} (l:Le G H) (hk:bX k=true) (r:Rel T as G k w):
  (kT k=false/\∃κ,bV k=1#κ/\w=kV κ)∨(kT k=true/\∃κs b,du k=1#κs/\w= 3#b/\H b=1#(.tup (κs.map kV))):=by
 cases k with
 |int i=>exact .inl ⟨rfl, .inl i,rfl,sd rfl r⟩
 |str i=>exact .inl ⟨rfl, .inr i,rfl,sd rfl r⟩
 |tup f xs=>
  unfold bX at hk;rw[aag] at hk
  have hf:f=false:=by simpa using hk.1
  subst hf;let⟨kk,e⟩:=oJ hk.2;let⟨b,us,rfl,h1,h2⟩:=r;refine .inr ⟨rfl,kk,b,e,rfl, ?_⟩;rw[←v5 e h2];exact l.ex h1 rfl
 |_=>cases hk
theorem cF {v:Val} {kk:2#Key} (h:aM (v::vs)=1#kk):∃k t,bV v=1#k/\aM vs=1#t/\kk=k::t:=by
 unfold aM at h;let⟨k,e1,e2⟩:=aap.mp h;let⟨t,e3,e4⟩:=aab.mp e2;exact⟨k,t,e1,e3,e4.symm⟩
theorem fZ {v:Val} {kk:2#2#Key} (h:aZ (v::vs)=1#kk):∃k t,du v=1#k/\aZ vs=1#t/\kk=k::t:=by
 unfold aZ at h;let⟨k,e1,e2⟩:=aap.mp h;let⟨t,e3,e4⟩:=aab.mp e2;exact⟨k,t,e1,e3,e4.symm⟩
theorem pC {d:Nat}:∀{xs ys:2#Val} {a b:2#Key},aM xs=1#a->aM ys=1#b->cV (eqv d) xs ys=1#(decide (a=b))
 |[],[],_,_,h,h'=>by cases h;cases h';rfl
 |[],y::ys,_,_,h,h'=>by
  cases h;let⟨k,t,_,_,rfl⟩:=cF h';rfl
 |x::xs,[],_,_,h,h'=>by
  cases h';let⟨k,t,_,_,rfl⟩:=cF h;rfl
 |x::xs,y::ys,_,_,h,h'=>by
  let⟨k,t,e1,e2,rfl⟩:=cF h;let⟨k',t',e3,e4,rfl⟩:=cF h';show (eqv d x y).bind (λa=>(cV (eqv d) xs ys).map λb=>a&&b)=_;rw[oE e1 e3,pC e2 e4];show 1#(decide (k=k')&&decide (t=t'))=_;rw[←Bool.decide_and];congr 1;exact decide_eq_decide.mpr 8#5
theorem lI {v:Val} {a:2#Key} (h:du v=1#a):∃f xs,v= .tup f xs/\aM xs=1#a:=by
 cases v<;>first|(cases h;done)|exact⟨_,_,rfl,h⟩
theorem qN {v w:Val} {a b:2#Key} (h:du v=1#a) (h':du w=1#b):eqv 8 v w=1#(decide (a=b)):=by
 let⟨f,xs,rfl,e1⟩:=lI h;let⟨g,ys,rfl,e2⟩:=lI h';exact pC e1 e2
theorem rg {v:Val} {k:Key} (h:bV v=1#k):kT v=false:=by
 cases v<;>first|(cases h;done)|rfl
theorem sC {v:Val} {k:2#Key} (h:du v=1#k):kT v=true:=by
 let⟨f,xs,rfl,_⟩:=lI h;rfl
section
variable {T:CT} {as:2#Addr} {G H:Hp}
def AH (T:CT) (as:2#Addr) (G:Hp):5#Val->5#L2.V->Prop
 |none,none=>True
 |some v,1#u=>Rel T as G v u
 |_,_=>False
theorem xZ {k:Val} {κ:Key} (hk:bV k=1#κ):∀{ks vs:2#Val} {kk:2#Key} {us:2#L2.V} {r:5#Val},aM ks=1#kk->0#kk=0#us->ae T as G vs us->getD k ks vs=1#r->AH T as G r (fT (kk.zip us) κ)
 |[],vs,kk,us,r,h,hl,rv,e=>by
  cases h;cases e;exact trivial
 |a::ks,vs,kk,us,r,h,hl,rv,e=>by
  let⟨k1,t,e1,e2,rfl⟩:=cF h
  cases vs with
  |nil=>cases rv;cases hl
  |cons v vs=>
   let⟨u,us',rfl,r1,r2⟩:=rv;replace e:(if kT a=kT k then (eqv 8 a k).bind λb=>if b=true then 1#1#v else getD k ks vs else none)=1#r:=e;rw[if_pos (by rw[rg e1,rg hk]),oE e1 hk] at e;replace e:(if decide (k1=κ)=true then 1#1#v else getD k ks vs)=1#r:=e;rw[aaQ]
   by_cases z:k1=κ
   ·rw[if_pos (aaH z)] at e;cases e;rw[gQ z];exact r1
   ·rw[if_neg (by simpa using z)] at e;rw[gS z];exact xZ hk e2 (by simpa using hl) r2 e
theorem xO {k:Val} {κ:2#Key} (hk:du k=1#κ):∀{ks vs:2#Val} {kk:2#2#Key} {us:2#L2.V} {r:5#Val},aZ ks=1#kk->0#kk=0#us->ae T as G vs us->getD k ks vs=1#r->AH T as G r (fT (kk.zip us) κ)
 |[],vs,kk,us,r,h,hl,rv,e=>by
  cases h;cases e;exact trivial
 |a::ks,vs,kk,us,r,h,hl,rv,e=>by
  let⟨k1,t,e1,e2,rfl⟩:=fZ h
  cases vs with
  |nil=>cases rv;cases hl
  |cons v vs=>
   let⟨u,us',rfl,r1,r2⟩:=rv;replace e:(if kT a=kT k then (eqv 8 a k).bind λb=>if b=true then 1#1#v else getD k ks vs else none)=1#r:=e;rw[if_pos (by rw[sC e1,sC hk]),qN e1 hk] at e;replace e:(if decide (k1=κ)=true then 1#1#v else getD k ks vs)=1#r:=e;rw[aaQ]
   by_cases z:k1=κ
   ·rw[if_pos (aaH z)] at e;cases e;rw[gQ z];exact r1
   ·rw[if_neg (by simpa using z)] at e;rw[gS z];exact xO hk e2 (by simpa using hl) r2 e
theorem qQ {k:Val} {r:5#Val} {vs:2#Val} {us:2#L2.V}:∀{ks:2#Val},(∀a∈ks,kT a≠kT k)->0#ks=0#vs->getD k ks vs=1#r->ks=[]/\r=none
 |[],_,_,e=>by
  cases e;exact⟨rfl,rfl⟩
 |a::ks,h,hl,e=>by
  cases vs with
  |nil=>cases hl
  |cons v vs=>
   replace e:(if kT a=kT k then (eqv 8 a k).bind λb=>if b=true then 1#1#v else getD k ks vs else none)=1#r:=e;rw[if_neg (h a aaD)] at e;cases e
theorem gR:∀{ks:2#Val} {kk:2#Key},aM ks=1#kk->0#ks=0#kk/\∀a∈ks,kT a=false
 |[],_,h=>by cases h;exact⟨rfl,λ_ z=>by cases z⟩
 |v::vs,kk,h=>by
  let⟨k,t,e1,e2,rfl⟩:=cF h;let⟨h1,h2⟩:=gR e2;exact⟨by simp[h1],λa ha=>(aaq.mp ha).elim (λz=>by rw[z];exact rg e1) (h2 a)⟩
theorem gN:∀{ks:2#Val} {kk:2#2#Key},aZ ks=1#kk->0#ks=0#kk/\∀a∈ks,kT a=true
 |[],_,h=>by cases h;exact⟨rfl,λ_ z=>by cases z⟩
 |v::vs,kk,h=>by
  let⟨k,t,e1,e2,rfl⟩:=fZ h;let⟨h1,h2⟩:=gN e2;exact⟨by simp[h1],λa ha=>(aaq.mp ha).elim (λz=>by rw[z];exact sC e1) (h2 a)⟩
theorem nk {a:Addr} {k:Val} {w:L2.V} {r:5#Val} (l:Le G H) (d:gc H a ks us) (rv:ae T as G vs us) (hk:bX k=true) (rk:Rel T as G k w) (e:getD k ks vs=1#r):∃ro,DG H a w ro/\AH T as G r ro:=by
 rcases d with⟨kk,h1,h2,h3⟩|⟨kk,h1,h2,h3⟩<;>rcases mO l hk rk with⟨t,κ,e1,rfl⟩|⟨t,κ,b,e1,rfl,e2⟩
 ·exact⟨_, .inl (.inl ⟨_,κ,h3,rfl,rfl⟩),xZ e1 h1 h2 rv e⟩
 ·let⟨z1,z2⟩:=gR h1;let⟨rfl,rfl⟩:=qQ (us:=us) (λa ha=>by rw[z2 a ha,t];decide) (by rw[z1,h2,0#rv]) e;cases h1;exact⟨none, .inr ⟨rfl, .inl ⟨b,κ,rfl,e2,h3⟩⟩,trivial⟩
 ·let⟨z1,z2⟩:=gN h1;let⟨rfl,rfl⟩:=qQ (us:=us) (λa ha=>by rw[z2 a ha,t];decide) (by rw[z1,h2,0#rv]) e;cases h1;exact⟨none, .inr ⟨rfl, .inr ⟨κ,rfl,h3⟩⟩,trivial⟩
 ·exact⟨_, .inl (.inr ⟨_,κ,b,h3,rfl,e2,rfl⟩),xO e1 h1 h2 rv e⟩
theorem pq:∀{ks:2#Val} {kk:2#(Key)} {k:Val} {κ:Key},aM ks=1#kk->bV k=1#κ->aM (ks++[k])=1#(kk++[κ])
 |[],_,k,κ,h,h'=>by
  cases h;simp[aM,h']
 |a::ks,kk,k,κ,h,h'=>by
  let⟨k1,t,e1,e2,rfl⟩:=cF h;have:=pq e2 h';simp only[ac8,aM,e1,this];rfl
theorem oU:∀{ks:2#Val} {kk:2#2#Key} {k:Val} {κ:2#Key},aZ ks=1#kk->du k=1#κ->aZ (ks++[k])=1#(kk++[κ])
 |[],_,k,κ,h,h'=>by
  cases h;simp[aZ,h']
 |a::ks,kk,k,κ,h,h'=>by
  let⟨k1,t,e1,e2,rfl⟩:=fZ h;have:=oU e2 h';simp only[ac8,aZ,e1,this];rfl
theorem yC {k x:Val} {κ:Key} {u:L2.V} (hk:bV k=1#κ) (hx:Rel T as G x u):∀{ks vs:2#Val} {kk:2#(Key)} {us:2#L2.V} {b:Bool},aM ks=1#kk->0#kk=0#us->ae T as G vs us->memD k ks=1#b->
  ((kk.zip us).any λkv=>decide (kv.1=κ))=b/\∃us',(kk.zip us).map (λkv=>if kv.1=κ then (kv.1,u) else kv)=kk.zip us'/\0#kk=0#us'/\ae T as G (lD k x ks vs) us'
 |[],vs,kk,us,b,h,hl,rv,e=>by
  cases h;cases e;have e0:us=[]:=aaI hl.symm;subst e0;exact⟨rfl,[],rfl,rfl,by cases vs<;>rfl⟩
 |a::ks,vs,kk,us,b,h,hl,rv,e=>by
  let⟨k1,t,e1,e2,rfl⟩:=cF h
  cases vs with
  |nil=>cases rv;cases hl
  |cons v vs=>
   let⟨w,us',rfl,r1,r2⟩:=rv;replace e:(if kT a=kT k then (eqv 8 a k).bind λb=>(memD k ks).map λc=>b||c else none)=1#b:=e;have ek:=oE (d:=8) e1 hk;rw[if_pos (by rw[rg e1,rg hk]),ek] at e;let⟨c,e3,rfl⟩:=aab.mp (show (memD k ks).map (λc=>decide (k1=κ)||c)=1#b from e);let⟨h1,us2,h2,h3,h4⟩:=yC hk hx e2 (by simpa using hl) r2 e3;refine⟨by rw[aaQ,abB,h1],(if k1=κ then u else w)::us2, ?_,by simp[h3], ?_⟩
   ·rw[aaQ,aas,h2,aaQ]
    by_cases z:k1=κ
    ·rw[if_pos z,if_pos z]
    ·rw[if_neg z,if_neg z]
   ·refine⟨_,us2,rfl, ?_,h4⟩;rw[ek]
    by_cases z:k1=κ
    ·rw[if_pos z,if_pos (by rw[aaH z])];exact hx
    ·rw[if_neg z,if_neg (by rw[aaB z];simp)];exact r1
theorem xg {k x:Val} {κ:Key} {u:L2.V} (hk:bV k=1#κ) (hx:Rel T as G x u) {kk:2#(Key)} {us:2#L2.V} (h:aM ks=1#kk) (hl:0#kk=0#us) (rv:ae T as G vs us) (e:putD k x ks vs=1#(ks',vs')):
  ∃kk' us',aM ks'=1#kk'/\0#kk'=0#us'/\putK (kk.zip us) κ u=kk'.zip us'/\ae T as G vs' us':=by
 let⟨b,e1,e2⟩:=aab.mp e;let⟨h1,us2,h2,h3,h4⟩:=yC hk hx h hl rv e1;unfold putK;rw[h1]
 cases b with
 |true=>
  cases e2;exact⟨kk,us2,h,h3,by rw[if_pos rfl];exact h2,h4⟩
 |false=>
  cases e2;refine⟨kk++[κ],us++[u],pq h hk,by simp[hl], ?_,ae.append rv ⟨u,[],rfl,hx,rfl⟩⟩;rw[if_neg 8#16,List.zip_append hl];rfl
theorem yZ {k x:Val} {κ:2#Key} {u:L2.V} (hk:du k=1#κ) (hx:Rel T as G x u):∀{ks vs:2#Val} {kk:2#2#Key} {us:2#L2.V} {b:Bool},aZ ks=1#kk->0#kk=0#us->ae T as G vs us->memD k ks=1#b->
  ((kk.zip us).any λkv=>decide (kv.1=κ))=b/\∃us',(kk.zip us).map (λkv=>if kv.1=κ then (kv.1,u) else kv)=kk.zip us'/\0#kk=0#us'/\ae T as G (lD k x ks vs) us'
 |[],vs,kk,us,b,h,hl,rv,e=>by
  cases h;cases e;have e0:us=[]:=aaI hl.symm;subst e0;exact⟨rfl,[],rfl,rfl,by cases vs<;>rfl⟩
 |a::ks,vs,kk,us,b,h,hl,rv,e=>by
  let⟨k1,t,e1,e2,rfl⟩:=fZ h
  cases vs with
  |nil=>cases rv;cases hl
  |cons v vs=>
   let⟨w,us',rfl,r1,r2⟩:=rv;replace e:(if kT a=kT k then (eqv 8 a k).bind λb=>(memD k ks).map λc=>b||c else none)=1#b:=e;have ek:=qN e1 hk;rw[if_pos (by rw[sC e1,sC hk]),ek] at e;let⟨c,e3,rfl⟩:=aab.mp (show (memD k ks).map (λc=>decide (k1=κ)||c)=1#b from e);let⟨h1,us2,h2,h3,h4⟩:=yZ hk hx e2 (by simpa using hl) r2 e3;refine⟨by rw[aaQ,abB,h1],(if k1=κ then u else w)::us2, ?_,by simp[h3], ?_⟩
   ·rw[aaQ,aas,h2,aaQ]
    by_cases z:k1=κ
    ·rw[if_pos z,if_pos z]
    ·rw[if_neg z,if_neg z]
   ·refine⟨_,us2,rfl, ?_,h4⟩;rw[ek]
    by_cases z:k1=κ
    ·rw[if_pos z,if_pos (by rw[aaH z])];exact hx
    ·rw[if_neg z,if_neg (by rw[aaB z];simp)];exact r1
theorem wR {k x:Val} {κ:2#Key} {u:L2.V} (hk:du k=1#κ) (hx:Rel T as G x u) {kk:2#2#Key} {us:2#L2.V} (h:aZ ks=1#kk) (hl:0#kk=0#us) (rv:ae T as G vs us) (e:putD k x ks vs=1#(ks',vs')):
  ∃kk' us',aZ ks'=1#kk'/\0#kk'=0#us'/\putK (kk.zip us) κ u=kk'.zip us'/\ae T as G vs' us':=by
 let⟨b,e1,e2⟩:=aab.mp e;let⟨h1,us2,h2,h3,h4⟩:=yZ hk hx h hl rv e1;unfold putK;rw[h1]
 cases b with
 |true=>
  cases e2;exact⟨kk,us2,h,h3,by rw[if_pos rfl];exact h2,h4⟩
 |false=>
  cases e2;refine⟨kk++[κ],us++[u],oU h hk,by simp[hl], ?_,ae.append rv ⟨u,[],rfl,hx,rfl⟩⟩;rw[if_neg 8#16,List.zip_append hl];rfl
end
section
variable {T:CT} {P:Pg} {cl:ax} {E:XS} {X:Cx} {pos:Pos}
theorem vi {G H:Hp} {k:Val} {w:L2.V} (hk:bX k=true) (r:dC T as G H k w):Rel T as G k w:=by
 cases k<;>first|(cases hk;done)|exact r
theorem F5 (hK:T.K=X.K) (hu:X.A.units+9<cLine):aJ X (compareOp .In) (cR T λx y st=>dB (bC .In x y st)):=by
 intro pins s σ H u w uv wv Q I ru rw' ⟨st,as,G,x,y,Z,sm,r1,r2,p⟩
 cases y with
 |dct ks vs=>
  let⟨a,us,rfl,d,rv⟩:=r2;cases (show wv=Value.ref a from rw');replace p:ab T as G (dB (PI.iff (bX x=true) (R.aj ((getD x ks vs).map λo=>if false=true then o.isNone else o.isSome) st))) (PV T Q) Z:=p
  by_cases hk:bX x=true
  ·rw[bq hk] at p;let⟨b,e,p⟩:=ab.aj p;let⟨r,e1,rfl⟩:=aab.mp e;let⟨ro,g,o⟩:=nk sm.sub d rv hk (vi hk r1) e1;refine Js 8#0 I g ru λs' I'=>⟨.bl ro.isSome,H,I',rfl, ?_⟩
   have:ro.isSome=r.isSome:=by
    cases r<;>cases ro<;>first|rfl|exact o.elim
   rw[this];exact p.ok sm _ rfl
  ·have z:PI.iff (bX x=true) (R.aj ((getD x ks vs).map λo=>if false=true then o.isNone else o.isSome) st)= .stuck:=if_neg hk;rw[z] at p;exact p.elim
 |tup f ys=>exact xM hK hu pins s σ H u w uv wv Q I ru rw' ⟨st,as,G,x, .tup f ys,Z,sm,r1,r2,p⟩
 |lst ys=>exact xM hK hu pins s σ H u w uv wv Q I ru rw' ⟨st,as,G,x, 7#ys,Z,sm,r1,r2,p⟩
 |_=>exact p.elim
theorem yL (hK:T.K=X.K) (hu:X.A.units+9<cLine):aJ X (compareOp .NotIn) (cR T λx y st=>dB (bC .NotIn x y st)):=by
 intro pins s σ H u w uv wv Q I ru rw' ⟨st,as,G,x,y,Z,sm,r1,r2,p⟩
 cases y with
 |dct ks vs=>
  let⟨a,us,rfl,d,rv⟩:=r2;cases (show wv=Value.ref a from rw');replace p:ab T as G (dB (PI.iff (bX x=true) (R.aj ((getD x ks vs).map λo=>if true=true then o.isNone else o.isSome) st))) (PV T Q) Z:=p
  by_cases hk:bX x=true
  ·rw[bq hk] at p;let⟨b,e,p⟩:=ab.aj p;let⟨r,e1,rfl⟩:=aab.mp e;let⟨ro,g,o⟩:=nk sm.sub d rv hk (vi hk r1) e1;refine Be 8#0 I g ru λs' I'=>⟨.bl (!ro.isSome),H,I',rfl, ?_⟩
   have:(!ro.isSome)=r.isNone:=by
    cases r<;>cases ro<;>first|rfl|exact o.elim
   rw[this];exact p.ok sm _ rfl
  ·have z:PI.iff (bX x=true) (R.aj ((getD x ks vs).map λo=>if true=true then o.isNone else o.isSome) st)= .stuck:=if_neg hk;rw[z] at p;exact p.elim
 |tup f ys=>exact pd hK hu pins s σ H u w uv wv Q I ru rw' ⟨st,as,G,x, .tup f ys,Z,sm,r1,r2,p⟩
 |lst ys=>exact pd hK hu pins s σ H u w uv wv Q I ru rw' ⟨st,as,G,x, 7#ys,Z,sm,r1,r2,p⟩
 |_=>exact p.elim
theorem Ab {H:Hp} {a:Addr} (d:gc H a ks us):CB H a:=d.elim (λz900=>by let⟨kk,_,_,h⟩:=z900;exact .inl ⟨_,h⟩) λz900=>by let⟨kk,_,_,h⟩:=z900;exact .inr ⟨_,h⟩
theorem FI {e:Expr} (hu:X.A.units+1<cLine) (ho:PE X o (tE T P cl E io)) (he:8#31) (m:M1 X o "get" apos e pos):PE X (.Call (.Attribute o "get" apos) [e] [] pos) (tE T P cl E (.bm .get io [ie])):=by
 intro pins s σ H Q I ⟨env,st,as,G,sm,er,h⟩;dsimp only[PI.E.run] at h
 have h2:=aB (K:=λu H1=>∃a,u= 3#a/\CB H1 a/\tE T P cl E ie σ H1 λy H2=>∃ov,DG H2 a y ov/\Q (ov.getD .non) H2) sm er h λv st1 as1 G1 H1 u s1 er1 r1 p1 l1 h=>by
  let⟨c,h⟩:=ab.iff h;have rr:=aY s1 r1
  have cd:∃ks vs,res st1 v= .dct ks vs:=by
   generalize res st1 v=y at c
   cases y<;>first|(cases c;done)|exact⟨_,_,rfl⟩
  let⟨ks,vs,ev⟩:=cd;rw[ev] at rr;let⟨a,us,rfl,d,rv⟩:=rr;refine⟨a,rfl,Ab d, ?_⟩
  replace h:ab T as1 G1 (((ie.run P cl env st1).bind λx st=> .ok [x] st).bind λxs st=>k9 .get v xs st) 9#1 (E σ):=by
   have z:aS P cl [ie] env st1=(ie.run P cl env st1).bind λx st=> .ok [x] st:=by
    unfold aS;rfl
   rw[z] at h;exact h
  rw[R.bind_assoc] at h;refine aB s1 er1 h λk st2 as2 G2 H2 w s2 er2 r2 p2 l2 h=> ?_;replace h:ab T as2 G2 (sj (res st2 v) [k] st2) 9#1 (E σ):=h;have r3:=aY s2 (r1.mono p2 l2);generalize res st2 v=y at h r3
  cases y with
  |dct ks vs=>
   let⟨hk,h⟩:=ab.iff h;let⟨b,e,h⟩:=ab.eh h;let⟨r,e1,rfl⟩:=aab.mp e;let⟨a',us',ea,d',rv'⟩:=r3;cases ea;let⟨ro,g,og⟩:=nk s2.sub d' rv' hk r2 e1;refine⟨ro,g, ?_⟩
   cases r<;>cases ro<;>first|exact og.elim|exact h.ok s2 _ rfl|exact h.ok s2 _ og
  |_=>exact h.elim
 refine wpAny_Call_method m.base m.few m.line PySem.F.plainAttrs_dict aaR PySem.F.type_dict_get (az (ho pins s σ H _ I h2) λu s1 z902=> ?_);let⟨x,H1,I1,rx,a,ex,d,q1⟩:=z902;subst ex;obtain rfl:u=Value.ref a:=rx;let⟨t1,t2,_⟩:=xy I1 d;refine⟨t1,t2, ?_⟩;rw[m.trees];refine ab0 rfl (acD (ace (az (he pins s1 σ H1 _ I1 q1) λiv s2 zq14=> ?_)));let⟨y,H2,I2,ry,ov,g,q2⟩:=zq14;refine ac0 ?_;exact DU hu I2 g ry λw' s3 I3 rw'=>⟨_,H2,I3,rw',q2⟩
theorem EO:PE X (.Dict [] [] pos) (tE T P cl E (.dct [] [])):=
 PE.mono Bb λσ H Q z903 p hp=>by
  let⟨env,st,as,G,s,er,h⟩:=z903;dsimp only[PI.E.run] at h;have s2:=s.push (o:= .dct [] []) (u:= .dK []) hp ⟨[], .inl ⟨[],rfl,rfl,aq⟩,rfl⟩;refine h (as++[p]) G _ (aav _ _) 8#25 s2 _ ⟨p, ?_,rfl⟩;rw[←s.len,aal (aah _)];simp
end
end PI
namespace L2.L3
open PySem PySem.Spec PyProof.Rows
section
variable {X:Cx} {pins:8#7} {σ:St} {H:Hp} {s:9#4} {a:Addr}
theorem Inv.JH (I:8#1) (e:H a=1#(.dK [])):Inv X pins σ (upd H a (.dT [])) s:=by
 let⟨hd,o,es,ep,h1,h2,h3,h4,_,h5⟩:=zO I (.inl e);exact I.write (x:=a) (e:=a) (t':=s.toks) (by rw[e];exact True.intro) (.inl rfl) (λb q hb z=>z) ⟨o,h1⟩ ⟨aaX _,hd,[], .nil,o,es,ep,h1,h2,h3,h4,h5⟩
theorem Inv.IM (I:8#1) (e:H a=1#(.dT [])):Inv X pins σ (upd H a (.dK [])) s:=by
 let⟨hd,dd⟩:=zv I (.inl e);let⟨o,es,ep,h1,r⟩:=id dd;exact I.write (x:=a) (e:=a) (t':=s.toks) (by rw[e];exact True.intro) (.inl rfl) (λb q hb z=>z) ⟨o,h1⟩ ⟨aaX _,hd,[], .nil,dd⟩
end
def Iz:V->V->V->Hp->(Hp->Prop)->Prop:=λo i v H Q=>∃a,o= 3#a/\((∃H',fP H a i v H'/\Q H')∨(H a=1#(.dK [])/\∃H',fP (upd H a (.dT [])) a i v H'/\Q H')∨(H a=1#(.dT [])/\∃H',fP (upd H a (.dK [])) a i v H'/\Q H'))
theorem set_dict {X:Cx} (hu:X.A.units+1<cLine):jF X Iz:=by
 intro pins s σ H o i v ov iv u Q I ro ri rv h;let⟨a,rfl,h⟩:=h;cases (show ov=Value.ref a from ro)
 rcases h with⟨H',g,q⟩|⟨e,H',g,q⟩|⟨e,H',g,q⟩
 ·exact jE hu I g ri rv λs' I'=>⟨H',I',q⟩
 ·exact jE hu (Inv.JH I e) g ri rv λs' I'=>⟨H',I',q⟩
 ·exact jE hu (Inv.IM I e) g ri rv λs' I'=>⟨H',I',q⟩
theorem jF.or {X:Cx} {t t':wx} (h:jF X t) (h':jF X t'):jF X (λo i v H Q=>t o i v H Q∨t' o i v H Q):=λpins s σ H o i v ov iv u Q I ro ri rv q=>q.elim (h pins s σ H o i v ov iv u Q I ro ri rv) (h' pins s σ H o i v ov iv u Q I ro ri rv)
end L2.L3
namespace PI
open PySem PySem.Spec L2 L2.L3 L2.L4 PySem.SeqAt
open PyProof.Rows hiding St lobj
section
variable {T:CT} {P:Pg} {cl:ax} {E:XS} {X:Cx} {pos:Pos}
theorem jh (n d:Nat) (o:5#Int):bu n d o=HT.aU n d o:=by
 cases o<;>rfl
theorem ae.drop {G:Hp}:∀{xs:2#Val} {us:2#L2.V} (n:Nat),ae T as G xs us->ae T as G (xs.drop n) (us.drop n)
 |_,_,0,h=>h
 |[],_,_+1,h=>by cases h;rfl
 |_::_,_,n+1,⟨u,t,e,h,r⟩=>by subst e;exact ae.drop n r
theorem ae.take {G:Hp}:∀{xs:2#Val} {us:2#L2.V} (n:Nat),ae T as G xs us->ae T as G (xs.take n) (us.take n)
 |_,_,0,h=>rfl
 |[],_,_+1,h=>by cases h;rfl
 |_::_,_,n+1,⟨u,t,e,h,r⟩=>by subst e;exact⟨u,t.take n,rfl,h,ae.take n r⟩
theorem sx {G:Hp} (lo hi:5#Int) (r:ae T as G xs us):ae T as G (cut xs lo hi) (kc us lo hi):=by
 unfold cut kc;rw[jh,jh,0#r];exact(r.drop _).take _
def qS (T:CT) (P:Pg) (cl:ax) (E:XS) (e:5#PI.E):TO:=λσ H Q=>∃env st as G,Sim T st as G H/\aL T as G env σ/\ab T as G ((jv P cl e env st).bind λa st=>jT a st) (λv _ _ _ H'=>Q v H') (E σ)
theorem wG:PO X none (qS T P cl E none):=λpins s σ H Q I z906=>by let⟨env,st,as,G,sm,er,h⟩:=z906;exact DV pins s σ H Q I (h.ok sm)
theorem wy {e:Expr} (he:8#31):PO X 1#e (qS T P cl E 1#ie):=λpins s σ H Q I z906=>by
 let⟨env,st,as,G,sm,er,h⟩:=z906;refine Et he pins s σ H Q I ?_;unfold jv at h;rw[R.bind_assoc] at h;refine aB sm er h λx st1 as1 G1 H1 u s1 er1 r1 p1 l1 h=> ?_
 cases x with
 |int i=>
  cases r1;exact⟨i,rfl,h.ok s1⟩
 |_=>exact h.elim
theorem vm {α:Type} {e:5#PI.E} {env:Env} {st:aa} {G H:Hp} {σ:St} {f:5#Int->aa->R α} {Q:8#27} {K:5#Int->Hp->Prop} (s:9#3) (er:aL T as G env σ)
  (h:ab T as G (((jv P cl e env st).bind λa st=>jT a st).bind f) Q (E σ))
  (k:∀v st1 as1 G1 H1,Sim T st1 as1 G1 H1->aL T as1 G1 env σ->as<+:as1->Le G G1->ab T as1 G1 (f v st1) Q (E σ)->K v H1):qS T P cl E e σ H K:=
 ⟨env,st,as,G,s,er,h.bind.imp λv st1 as1 G1 H1 p l s1 q=>k v st1 as1 G1 H1 s1 (er.mono p l) p l q⟩
theorem xN {α:Type} (xs:2#α) (a b:Nat) (h:b<=0#xs):((List.range (b-a)).filterMap λi=>xs[a+i]?)=(xs.drop a).take (b-a):=by
 induction xs generalizing a b with
 |nil=>
  simp at h;subst h;simp
 |cons x xs ih=>
  cases a with
  |zero=>
   cases b with
   |zero=>simp
   |succ b=>
    have q:=ih 0 b (by simpa using h);simp only[Nat.sub_zero,acf,List.drop_zero] at q⊢;rw[acp,aa9,acS];simp only[List.getElem?_cons_zero,List.take_succ_cons];rw[←q];rfl
  |succ a=>
   cases b with
   |zero=>simp
   |succ b=>
    have q:=ih a b (by simpa using h);rw[show b+1-(a+1)=b-a by lia,List.drop_succ_cons,←q];congr 1;funext i;rw[show a+1+i=(a+i)+1 by lia,abD]
theorem DC (n:Nat) (o:5#Int) (d:Nat) (h:d<=n):bu n d o<=n:=by
 cases o with
 |none=>exact h
 |some v=>
  unfold bu;simp only;split<;>lia
theorem xY (lo hi:5#Int) (n:Nat):PySem.Builtin.Str.strSliceIndices lo hi 1 n=(List.range (bu n n hi-bu n 0 lo)).map (bu n 0 lo+ ·):=by
 have clip:∀(v:5#Int) (d:Nat),((match v with|none=>(d:Int)|some i=>if (1:Int)>0 then max 0 (min (if i<0 then i+(n:Int) else i) n) else max (-1) (min (if i<0 then i+(n:Int) else i) ((n:Int)-1))):Int)=((bu n d v:Nat):Int):=λv d=>by
  cases v with
  |none=>rfl
  |some i=>
   simp only[bu];rw[if_pos 8#16];split<;>lia
 rw[←sliceRange_one,←clip lo 0,←clip hi n];rfl
set_option tactic.hygienic true in
theorem nr (x:Str) (lo hi:5#Int):jY x lo hi=⟨(cut x.cps.toList lo hi).toArray⟩:=by
 have hl:0#x.cps.toList=0#x:=by simp[Str.length]
 have hb:=DC 0#x hi 0#x (aah _)
 have e:((PySem.Builtin.Str.strSliceIndices lo hi 1 0#x).filterMap (x.cps[·]?))=cut x.cps.toList lo hi:=by
  rw[xY,acS];unfold cut;rw[hl,←xN x.cps.toList _ _ (by rw[hl];exact hb)];congr 1;funext i;simp
 unfold jY;rw[e];split
 ·rename_i z;rw[xY] at z;simp only[aaz,ac3,abz] at z
  have c0:bu 0#x 0 lo=0∨0#x=0:=by lia
  have c:cut x.cps.toList lo hi=x.cps.toList:=by
   unfold cut;rw[hl]
   by_cases z0:0#x=0
   ·have:x.cps.toList=[]:=aaI (by rw[hl];exact z0);rw[this];simp
   ·have c1:bu 0#x 0 lo=0:=by lia
    rw[c1,List.drop_zero,acq (by rw[hl];lia)]
  rw[c]
 ·rfl
theorem qt {lo hi:5#Expr} {il ih:5#PI.E} (hK:T.K=X.K) (ho:PE X o (tE T P cl E io)) (hl:PO X lo (qS T P cl E il)) (hh:PO X hi (qS T P cl E ih)):PE X (.Subscript o (.Slice lo hi none p2) pos) (tE T P cl E (.slc io il ih)):=
 PE.mono (Ak ((Gn.or Du).or EH) ho hl hh) λσ H Q z903=>by
  let⟨env,st,as,G,s,er,h⟩:=z903;dsimp only[PI.E.run] at h;refine aB s er h λx st1 as1 G1 H1 u s1 er1 r1 p1 l1 h=> ?_;refine vm s1 er1 h λa st2 as2 G2 H2 s2 er2 p2 l2 h=> ?_;refine vm s2 er2 h λb st3 as3 G3 H3 s3 er3 p3 l3 h=> ?_;have rr:=aY s3 (r1.mono (p2.trans p3) (l2.trans l3));generalize res st3 x=y at h rr
  cases y with
  |tup f xs=>
   let⟨d,us,rfl,q,r⟩:=rr;let⟨c,h⟩:=ab.iff h;rw[jh,jh,0#r] at c;exact .inl (.inl ⟨d,us,rfl,bc s3.sub q,c,λp hp=>oA s3 (sx a b r) h hp⟩)
  |lst xs=>
   let⟨d,us,rfl,q,r⟩:=rr;exact .inl (.inr ⟨d,us,rfl,hK▸q,λp hp=>gh s3 (sx a b r) h hp⟩)
  |str z=>
   cases rr;let⟨c,h⟩:=ab.iff h;have q:=h.ok s3 _ rfl;refine .inr ⟨z,rfl,c, ?_,by rw[nr];exact q⟩;rw[nr];show (cut z.cps.toList a b).toArray.size<=1000;unfold cut;rw[aaj,abc,acw]
   have:0#z.cps.toList=0#z:=by simp[Str.length]
   lia
  |_=>exact h.elim
theorem Kb {a b:Expr} (hK:T.K=X.K) (hu:X.A.units+1<cLine) (ha:PE X a (tE T P cl E ia)) (hb:PE X b (tE T P cl E ib)) (hs:nS b):PE X (.Subscript a b pos) (tE T P cl E (.idx ia ib)):=
 PE.mono (Iq (G7.or (DJ hu)) ha hb hs) λσ H Q z903=>by
  let⟨env,st,as,G,s,er,h⟩:=z903;dsimp only[PI.E.run] at h;refine aB s er h λx st1 as1 G1 H1 u s1 er1 r1 p1 l1 h=> ?_;refine aB s1 er1 h λy st2 as2 G2 H2 w s2 er2 r2 p2 l2 h=> ?_;have rr:=aY s2 (r1.mono p2 l2);generalize res st2 x=z at h rr
  cases z with
  |tup f xs=>cases y with
   |int i=>
    cases r2;let⟨d,us,rfl,q,r⟩:=rr;let⟨v,e,h⟩:=ab.eh h;let⟨u,e2,rv⟩:=vt r e;exact .inl (.inr (.inl ⟨d,us,i,u,rfl,rfl,bc s2.sub q,e2,h.ok s2 _ rv⟩))
   |_=>exact h.elim
  |lst xs=>cases y with
   |int i=>
    cases r2;let⟨d,us,rfl,q,r⟩:=rr;let⟨v,e,h⟩:=ab.eh h;let⟨u,e2,rv⟩:=vt r e;exact .inl (.inl ⟨d,us,i,u,rfl,rfl,hK▸q,e2,h.ok s2 _ rv⟩)
   |_=>exact h.elim
  |str t=>cases y with
   |int i=>
    cases r2;cases rr;let⟨c,h⟩:=ab.iff h;let⟨v,e,h⟩:=ab.eh h;let⟨c',e1,rfl⟩:=aab.mp e;have z:sizeLine=2^24:=rfl;refine .inl (.inr (.inr ⟨t,i,c',rfl,rfl,by lia, ?_,h.ok s2 _ rfl⟩));unfold oX;rw[show 0#t.cps.toList=0#t by simp[Str.length]];exact e1
   |_=>exact h.elim
  |dct ks vs=>
   let⟨hk,h⟩:=ab.iff h;let⟨v,e,h⟩:=ab.eh h;let⟨ov,e1,e2⟩:=aap.mp e;obtain rfl:ov=1#v:=e2;let⟨d,us,rfl,q,r⟩:=rr;let⟨ro,g,og⟩:=nk s2.sub q r hk r2 e1
   cases ro with
   |none=>exact og.elim
   |some w'=>
    rcases g with g|⟨z,_⟩
    ·exact .inr ⟨d,w',rfl,g,h.ok s2 _ og⟩
    ·cases z
  |_=>exact h.elim
theorem of_post {α:Type} {env:Env} {as:2#Addr} {G:Hp} {σ:St} {r:R α} {k:α->aa->F} {D:Ends} (h:aH T as G (F.of env r k) D E) (er:aL T as G env σ):ab T as G r (λa st as' G' _=>aH T as' G' (k a st) D E) (E σ):=by
 cases r with
 |ok a st=>exact λas' G' H' p l s=>aH.mono p l h
 |exc x st=>exact λas' G' H' cls dx p l s x=>h as' G' H' σ cls dx p l s (er.mono p l) x
 |stuck=>exact h
theorem ae.set {G:Hp} {v:Val} {u:L2.V} (h:Rel T as G v u):∀{xs:2#Val} {us:2#L2.V} (j:Nat),ae T as G xs us->ae T as G (xs.set j v) (us.set j u)
 |[],_,_,r=>by cases r;rfl
 |_::_,_,0,⟨w,t,e,_,r⟩=>by subst e;exact⟨u,t,rfl,h,r⟩
 |_::_,_,j+1,⟨w,t,e,hw,r⟩=>by subst e;exact⟨w,t.set j u,rfl,hw,ae.set h j r⟩
theorem vF {z x:Val} {ks:2#Val} {p:2#Val×2#Val} (h:∀a∈ks,¬kT a=kT z) (e:putD z x ks vs=1#p):ks=[]:=by
 cases ks with
 |nil=>rfl
 |cons a0 ks=>
  have e3:memD z (a0::ks)=none:=if_neg (h a0 aaD);unfold putD at e;rw[e3] at e;cases e
theorem GN {a b e:Expr} (hu:X.A.units+1<cLine) (ha:PE X a (tE T P cl E ia)) (hb:PE X b (tE T P cl E ib)) (he:8#31) (hn:fb b=true) (hc:eC e=true):PS X (.Assign [.Subscript a b tpos] e pos) (tS T P cl E (.fQ ia ib ie)):=
 PS.mono (zo he (HW ha hb (jF.or set_list (set_dict hu)) (by intro v;cases b<;>first|rfl|cases hn)) (by show swapsWith e 1#(.Subscript a b tpos) pos.line X.env=pure false;cases e<;>first|rfl|cases hc) (by cases e<;>rfl) rfl) λD σ H z903=>by
  let⟨env,st,as,G,s,er,h⟩:=z903;dsimp only[PI.S.run] at h;have h2:=of_post h er;refine aB s er h2 λx st1 as1 G1 H1 u s1 er1 r1 p1 l1 h=> ?_;refine aB s1 er1 h λy st2 as2 G2 H2 w s2 er2 r2 p2 l2 h=> ?_;refine aB s2 er2 h λz st3 as3 G3 H3 i s3 er3 r3 p3 l3 h=> ?_
  cases y with
  |ref k=>
   let⟨d,ed,rfl⟩:=r2.mono p3 l3;replace h:ab T as3 G3 (ng k x st3 st3[k]? z) (λa st as' G' _=>aH T as' G' (.next env st) D E) (E σ):=h
   cases e1:st3[k]? with
   |none=>rw[e1] at h;exact h.elim
   |some o=>
    rw[e1] at h;have ob:=s3.ob k o d e1 ed
    cases o with
    |lst xs=>cases z with
     |int j=>
      cases r3;let⟨us,q,r⟩:=ob;let⟨jj,e2,h⟩:=ab.aj h;have rx:=r1.mono (p2.trans p3) (l2.trans l3);have s4:=s3.set (o:= 7#(xs.set jj x)) ed ⟨us.set jj u,aq,ae.set rx jj r⟩;exact .inl ⟨d,us,j,jj,rfl,rfl,q,by rw[←0#r];exact e2,h.ok s4 as3 G3 _ σ (aai _) 8#25 s4 er3⟩
     |_=>exact h.elim
    |dct ks vs=>
     let⟨⟨hk,hl⟩,h⟩:=ab.iff h;let⟨⟨ks',vs'⟩,e2,h⟩:=ab.aj h;let⟨us,q,r⟩:=ob;have rx:=r1.mono (p2.trans p3) (l2.trans l3);have sz:sizeLine=2^24:=rfl
     have fin:∀{u':HO},eR T as3 G3 (upd H3 d u') d (.dct ks' vs')->D.nx σ (upd H3 d u'):=λ{u'} o=>by
      have s4:=s3.set (o:= .dct ks' vs') ed o;exact h.ok s4 as3 G3 _ σ (aai _) 8#25 s4 er3
     refine .inr ⟨d,rfl, ?_⟩
     rcases q with⟨kk,h1,h2,h3⟩|⟨kk,h1,h2,h3⟩<;>rcases mO s3.sub hk r3 with⟨t,κ,k1,rfl⟩|⟨t,κ,b',k1,rfl,k2⟩
     ·let⟨kk',us',z1,z2,z3,z4⟩:=xg k1 rx h1 h2 r e2;refine .inl ⟨_, .inl ⟨_,κ,h3,rfl, ?_,rfl⟩,fin ⟨us', .inl ⟨kk',z1,z2,by rw[z3];exact aq⟩,z4⟩⟩;rw[abl,←h2,ab4,←(gR h1).1];lia
     ·let⟨z1,z2⟩:=gR h1;have e0:ks=[]:=vF (λa h=>by rw[z2 a h,t];decide) e2;subst e0;cases h1;have e1':us=[]:=aaI h2.symm;subst e1';let⟨kk',us',y1,y2,y3,y4⟩:=wR (kk:=[]) (us:=[]) k1 rx rfl rfl r e2;refine .inr (.inl ⟨h3,_, .inr ⟨[],κ,b',aq,rfl, ?_,aan (by decide:0<2^24) (ac6 sz.symm),rfl⟩, ?_⟩)
      ·rw[ar (qy k2 h3 (λz=>nomatch z))];exact k2
      ·rw[iL];exact fin ⟨us', .inr ⟨kk',y1,y2,by rw[show putK [] κ u=kk'.zip us' from y3];exact aq⟩,y4⟩
     ·let⟨z1,z2⟩:=gN h1;have e0:ks=[]:=vF (λa h=>by rw[z2 a h,t];decide) e2;subst e0;cases h1;have e1':us=[]:=aaI h2.symm;subst e1';let⟨kk',us',y1,y2,y3,y4⟩:=xg (kk:=[]) (us:=[]) k1 rx rfl rfl r e2;refine .inr (.inr ⟨h3,_, .inl ⟨[],κ,aq,rfl,aan (by decide:0<2^24) (ac6 sz.symm),rfl⟩, ?_⟩);rw[iL];exact fin ⟨us', .inl ⟨kk',y1,y2,by rw[show putK [] κ u=kk'.zip us' from y3];exact aq⟩,y4⟩
     ·let⟨kk',us',z1,z2,z3,z4⟩:=wR k1 rx h1 h2 r e2;refine .inl ⟨_, .inr ⟨_,κ,b',h3,rfl,k2, ?_,rfl⟩,fin ⟨us', .inr ⟨kk',z1,z2,by rw[z3];exact aq⟩,z4⟩⟩;rw[abl,←h2,ab4,←(gN h1).1];lia
    |ins c ns vs=>exact h.elim
  |_=>exact h.elim
end
end PI
namespace L2.L3
open PySem PySem.Spec PyProof.Rows
def CK (K:8#4):2#V->Hp->VK->Prop:=λxs H Q=>∃a n b,xs=[3#a, .ty n]/\((∃ys,bN K H a ys/\PySem.W.kitOne K (.type "list") (.type n)=1#b)∨(∃ys,dg K H a ys/\PySem.W.kitOne K (.type "tuple") (.type n)=1#b)∨
 (∃kvs,Rd H a (.dK kvs)/\PySem.W.kitOne K (.type "dict") (.type n)=1#b)∨∃kvs,Rd H a (.dT kvs)/\PySem.W.kitOne K (.type "dict") (.type n)=1#b)/\Q (.bl b) H
theorem xJ {X:Cx}:aC X (.builtin "isinstance") (CK X.K):=by
 intro pins s σ H xs us Q I r h;let⟨a,n,b,rfl,h,q⟩:=h;let⟨u,v,rfl,r1,r2⟩:=Vals.two r;cases r2;cases (show u=Value.ref a from r1);have fin:∀tk,EP X pins σ Q (.bool b) {s with toks:=tk}:=λtk=>⟨.bl b,H,I.tok tk,rfl,q⟩
 rcases h with⟨ys,h,k⟩|⟨ys,h,k⟩|⟨kvs,h,k⟩|⟨kvs,h,k⟩
 ·let⟨its,_,⟨o,m,e1,e2,_⟩,_⟩:=I.list h;exact aaN acZ I.bQ ⟨o,e1,e2⟩ k (λz=>nomatch z) fin
 ·let⟨its,_,⟨o,e1,e2,_⟩,_⟩:=I.tuple h;exact aaN PySem.W.kitx_tuple I.bQ ⟨o,e1,e2⟩ k (λz=>nomatch z) fin
 ·let⟨_,_,vs,_,p⟩:=eK I.ah h;let⟨o,es,ep,h1,h2,_⟩:=p;exact aaN aci I.bQ ⟨o,h1,h2.1⟩ k (λz=>nomatch z) fin
 ·let⟨_,_,xs,_,o,es,ep,h1,h2,_⟩:=eM I.ah h;exact aaN aci I.bQ ⟨o,h1,h2.1⟩ k (λz=>nomatch z) fin
end L2.L3
namespace PI
open PySem PySem.Spec L2 L2.L3 L2.L4 PySem.SeqAt
open PyProof.Rows hiding St lobj
section
variable {T:CT} {P:Pg} {cl:ax} {E:XS} {X:Cx} {pos:Pos}
def v8 (K:8#4):Prop:=∀a n,a∈["NoneType","bool","int","str","tuple","list","dict"]->n∈["bool","int","str","tuple","list","dict"]->PySem.W.kitOne K (.type a) (.type n)=1#(a==n||(a=="bool"&&n=="int"))
set_option tactic.hygienic true in
theorem xR {y:Str} {n:String} (h:mw y=1#n):n∈["bool","int","str","tuple","list","dict"]/\bootBuiltins y=1#(.type n)/\y≠"__name__"/\(y==("__debug__":Str))=false:=by
 unfold mw at h;split at h
 ·rename_i z;subst z;cases h;exact⟨by decide,PyProof.Rows.Boot.«bool»,by decide,by decide⟩
 split at h
 ·rename_i z;subst z;cases h;exact⟨by decide,PyProof.Rows.Boot.«int»,by decide,by decide⟩
 split at h
 ·rename_i z;subst z;cases h;exact⟨by decide,PyProof.Rows.Boot.«str»,by decide,by decide⟩
 split at h
 ·rename_i z;subst z;cases h;exact⟨by decide,PyProof.Rows.boot_tuple,by decide,by decide⟩
 split at h
 ·rename_i z;subst z;cases h;exact⟨by decide,PyProof.Rows.Boot.«list»,by decide,by decide⟩
 split at h
 ·rename_i z;subst z;cases h;exact⟨by decide,PyProof.Rows.Boot.«dict»,by decide,by decide⟩
 cases h
theorem Dw {G H:Hp} {v:Val} {u:L2.V} {n:String} {b:Bool} {Q:VK} (hK:T.K=X.K) (kt:v8 X.K) (l:Le G H) (hn:n∈["bool","int","str","tuple","list","dict"]) (r:dC T as G H v u) (e:bF n v=1#b) (q:Q (.bl b) H):(Ci X.K [u, .ty n] H Q∨CK X.K [u, .ty n] H Q):=by
 have kk:=λa h=>kt a n h hn
 have sy:∀a:String,(a==n)=(n==a):=λa=>by
  by_cases h:a=n
  ·rw[h]
  ·rw[beq_eq_false_iff_ne.mpr h,beq_eq_false_iff_ne.mpr (Ne.symm h)]
 have fin1:∀{c:Bool} {a:String},Q (.bl c) H->(a=="bool")=false->Q (.bl (c||(a=="bool"&&n=="int"))) H:=λ{c a} h e=>by
  rw[e,Bool.false_and,Bool.or_false];exact h
 cases v with
 |non=>
  cases r;cases e;have:=kk "NoneType" 8#16;refine .inl ⟨_,_,n,_,rfl, .non,this, ?_⟩
  have z:("NoneType"==n||("NoneType"=="bool"&&n=="int"))=false:=by
   have:"NoneType"≠n:=λz=>by rw[←z] at hn;exact absurd hn 8#16
   rw[beq_eq_false_iff_ne.mpr this,show ("NoneType"=="bool")=false from by decide];rfl
  rw[z];exact q
 |bl t=>
  cases r;cases e;refine .inl ⟨_,_,n,_,rfl, .bl t,kk "bool" 8#16, ?_⟩;rw[sy,show ("bool"=="bool")=true from by decide,Bool.true_and];exact q
 |int t=>
  cases r;cases e;refine .inl ⟨_,_,n,_,rfl, 6#t,kk "int" 8#16, ?_⟩;rw[sy];exact fin1 q 8#16
 |str t=>
  cases r;cases e;refine .inl ⟨_,_,n,_,rfl, .str t,kk "str" 8#16, ?_⟩;rw[sy];exact fin1 q 8#16
 |tup f xs=>
  let⟨a,us,rfl,h1,h2⟩:=r;cases e;refine .inr ⟨a,n,_,rfl, .inr (.inl ⟨us,bc l h1,kk "tuple" 8#16⟩), ?_⟩;rw[sy];exact fin1 q 8#16
 |lst xs=>
  let⟨a,us,rfl,h1,h2⟩:=r;cases e;refine .inr ⟨a,n,_,rfl, .inl ⟨us,hK▸h1,kk "list" 8#16⟩, ?_⟩;rw[sy];exact fin1 q 8#16
 |dct ks vs=>
  let⟨a,us,rfl,h1,h2⟩:=r;cases e
  have q2:Q (.bl ("dict"==n||("dict"=="bool"&&n=="int"))) H:=by
   rw[sy];exact fin1 q 8#16
  rcases h1 with⟨_,_,_,h⟩|⟨_,_,_,h⟩
  ·exact .inr ⟨a,n,_,rfl, .inr (.inr (.inl ⟨_,h,kk "dict" 8#16⟩)),q2⟩
  ·exact .inr ⟨a,n,_,rfl, .inr (.inr (.inr ⟨_,h,kk "dict" 8#16⟩)),q2⟩
 |obj c ns vs=>cases e
 |ref k=>cases e
theorem He {a:Expr} {n:String} {x y:Str} {p:Pos} (hK:T.K=X.K) (kt:v8 X.K) (hx:x="isinstance") (hy:mw y=1#n) (ha:PE X a (tE T P cl E ia)) (gx:Gl X x) (mx:X.mg x=none) (gy:Gl X y) (my:X.mg y=none) (hs:notStar a=true):
  PE X (.Call (.Name x p) [a, .Name y p2] [] pos) (tE T P cl E (.bi (.bF n) [ia])):=by
 subst hx;let⟨t1,t2,t3,t4⟩:=xR hy;refine PE.mono (rK ((yO (X:=X)).or xJ) gx mx PyProof.Rows.Boot.«isinstance» (iM ha (iM (D6 (v:= .ty n) gy my t2 rfl t3 t4) nB rfl) (by cases a<;>first|rfl|cases hs)) 8#16 8#16 (by cases a<;>first|rfl|cases hs) rfl) λσ H Q zq15=> ?_;let⟨env,st,as,G,s,er,h⟩:=zq15;dsimp only[PI.E.run] at h
 replace h:ab T as G (((ia.run P cl env st).bind λx st=> .ok [x] st).bind λxs st=>uA (.bF n) (xs.map (res st)) st) 9#1 (E σ):=by
  have z:aS P cl [ia] env st=(ia.run P cl env st).bind λx st=> .ok [x] st:=by
   unfold aS;rfl
  rw[z] at h;exact h
 rw[R.bind_assoc] at h;refine aB s er h λx st1 as1 G1 H1 u s1 er1 r1 p1 l1 h=> ?_;let⟨v,e,h⟩:=ab.eh (show ab T as1 G1 (R.aj ((bF n (res st1 x)).map .bl) st1) 9#1 (E σ) from h);let⟨b,e1,rfl⟩:=aab.mp e;exact Dw hK kt s1.sub t1 (aY s1 r1) e1 (h.ok s1 _ rfl)
theorem zG {k:Nat} {f C:Addr} {ps:2#Str} {sp:Sp} {σ:St} {H:Hp} {s:9#4} {Q:VK} {us:2#Value} (M:Mk X.K C f) (F:8#21) (hr:Room (k+1) X.A) (hb:Binds X.K fd ps []) (hx:cG X)
  (I:Inv 9#0 pins σ H s) (r:Vals vs us) (h:∀x dx,H x=none->H dx=none->dx≠x->sp (3#x::vs) (upd (upd H dx (.own x)) x (.ins C dx [])) (λv H2=>v= .non/\Q 3#x H2) (E σ)):
  wpAny 8#3 X.A (PySem.call 3#C us) (EP 9#0 pins σ Q) 8#29 s:=by
 have hq:=h 8#11 s.heap.objs.size (I.ah.fresh (adh _)) (I.ah.fresh (aah _)) (aay (ab7 _));have I2:=Inv.made (C:=C) I;have r2:Vals (V.ref 8#11::vs) (Value.ref 8#11::us):= .cons rfl r
 have hl:0#(Value.ref 8#11::us++[])=0#ps:=by
  have e:=0#r2;rw[F.len _ _ _ _ hq] at e;rw[abj];exact e.symm
 have hb':=hb _ (Value.ref 8#11::us) I2.bQ hl;rw[abj] at hb'
 refine wpAny_call (BF (f:=f) I.bQ M.makes M.init (beq_iff_eq.mp M.fn) (acH (F.run _ X.stack _ _ ⟨Value.ref 8#11::us,[]⟩ (Value.ref 8#11::us) _ _ (E σ) (hr.make C us [])
  (I2.Ax.make C us []) hb' r2 hq) λr s' hq'=> ?_))
 cases r with
 |error e=>exact L4.zd hx I2 hq'
 |ok fl=>
  cases fl with
  |ret u=>
   let⟨v,H',I3,rv,ev,q3⟩:=I2.after hq';subst ev;exact⟨rv,⟨V.ref 8#11,H',I3,rfl,q3⟩⟩
  |next=>exact False.elim hq'
  |brk=>exact False.elim hq'
  |cont=>exact False.elim hq'
theorem make_core {n c fi:Nat} {C:Addr} {st:aa} {as:2#Addr} {G H:Hp} {Q:VK} {Z:XK} (hC:T.ca c=C) (hX:T.xc c=false) (s:9#3) (r:ae T as G xs vs)
  (h:ab T as G ((call P n fi (3#0#st::xs) (st++[.ins c [] []])).bind λv st'=>sS v (fin P st 3#0#st st')) 9#1 Z) (x dx:Addr) (hx:H x=none) (hd:H dx=none) (ne:dx≠x):
  eJ T P n fi (3#x::vs) (upd (upd H dx (.own x)) x (.ins C dx [])) (λv H2=>v= .non/\Q 3#x H2) Z:=by
 subst hC
 have hx1:upd H dx (.own x) x=none:=by rw[ar (Ne.symm ne)];exact hx
 have s1:Sim T st as G (upd H dx (.own x)):=by
  let⟨n1,n2⟩:=s.fresh hd;refine⟨s.len,s.nd,s.sub.up n2,s.off,λm o a h1 h2=>(s.ob m o a h1 h2).at (ar λz=>n1 ?_)⟩;rw[←z];exact aau h2
 have s2:Sim T (st++[.ins c [] []]) (as++[x]) G (upd (upd H dx (.own x)) x (.ins (T.ca c) dx [])):=s1.push hx1 ⟨dx,[],hX,aq,rfl,rfl⟩;refine⟨st++[.ins c [] []],as++[x],G, 3#0#st::xs,s2,⟨3#x,vs,rfl,⟨x,by rw[←s.len,aal (aah _)];simp,rfl⟩,r.mono (aav _ _) 8#25⟩, ?_⟩
 cases e:call P n fi (3#0#st::xs) (st++[.ins c [] []]) with
 |stuck=>rw[e] at h;exact h.elim
 |exc y st'=>
  rw[e] at h;exact λas' G' H' cls dx p l s' ex=>h as' G' H' cls dx ((aav _ _).trans p) l s' ex
 |ok v st'=>
  rw[e] at h;intro as' G' H' p l s' u ru;replace h:ab T as G (sS v (fin P st 3#0#st st')) 9#1 Z:=h
  cases v with
  |non=>
   cases ru;refine⟨rfl,ni (v:= 3#0#st) (u:= 3#x) s1 s' ((aav _ _).trans p) l ⟨x, ?_,rfl⟩ h⟩;refine km p ?_;rw[←s.len,aal (aah _)];simp
  |_=>exact h.elim
theorem Hl {k n c fi:Nat} {K':Cl} {C f:Addr} {ps:2#Str} {x:Str} {p:Pos} {e:Expr} {ies:2#PI.E} (hk:P.cl c=1#K') (hi:K'.init=1#fi) (hC:T.ca c=C) (hX:T.xc c=false) (M:Mk X.K C f) (F:FnOk X.prog X.w X.K X.mg X.base (dA X.prog X.w) k f fd ps (eJ T P n fi)) (hr:Room (k+1) X.A) (hb:Binds X.K fd ps []) (hx:cG X) (hg:Gl X x) (hm:X.mg x=1#3#C)
  (ha:PA 9#0 (e::es) (eD T P (call P n) E ies)) (hdb:(x==("__debug__":Str))=false) (he:8#13) (hpl:8#32):
  PE 9#0 (.Call (.Name x p) (e::es) [] pos) (tE T P (call P n) E (.make c ies)):=by
 intro pins s σ H Q I ⟨env,st,as,G,sm,er,h⟩;dsimp only[PI.E.run] at h;rw[hk] at h;replace h:ab T as G ((aS P (call P n) ies env st).bind λxs st=>gf P (call P n) c xs st 1#K'.init) 9#1 (E σ):=h;rw[hi] at h;have h2:=cX (K:=λus H1=>∀x dx,H1 x=none->H1 dx=none->dx≠x->eJ T P n fi (3#x::us) (upd (upd H1 dx (.own x)) x (.ins C dx [])) (λv H2=>v= .non/\Q 3#x H2) (E σ)) sm er h λxs st1 as1 G1 H1 us s1 er1 r1 p1 l1 h=>make_core hC hX s1 r1 h;refine abu (iJ I hg hm ?_ hdb);refine acV (h₀:=X.base) I.ok.mod.kin M.kp (az (ha pos pins s σ H _ I h2) λus s1 zq16=> ?_) he hpl;let⟨vs,H1,I1,r,q⟩:=zq16;refine⟨I1.bQ, ?_⟩;exact zG M F hr hb hx I1 r q
theorem tZ {m:Str}:∀{ns:2#Str} {us:2#L2.V},ns.contains m=false->(ns.zip us).lookup m=none
 |[],_,_=>rfl
 |_::_,[],_=>rfl
 |n::ns,u::us,h=>by
  rw[List.contains_cons,Bool.or_eq_false_iff] at h;rw[aaQ,aaJ,h.1];exact tZ h.2
def wB (T:CT) (P:Pg) (X:Cx) (k n:Nat) (m:Str):Prop:=∀(c:Nat) k' fi,P.cl c=1#k'->k'.meths.lookup m=1#fi->k'.exc=false/\∃f fd ps,Meth X.K (T.ca c) m f/\FnOk X.prog X.w X.K X.mg X.base (dA X.prog X.w) k f fd ps (eJ T P n fi)/\Binds X.K fd ps []
def E0 (T:CT) (P:Pg) (X:Cx) (k n:Nat) (m:Str) (R:L2.V->Hp->Nat->Prop):VK:=λu H1=>∃a C dx fs fi f fd ps,u= 3#a/\H1 a=1#(.ins C dx fs)/\fs.lookup m=none/\Cls X.K C/\Meth X.K C m f/\FnOk X.prog X.w X.K X.mg X.base (dA X.prog X.w) k f fd ps (eJ T P n fi)/\Binds X.K fd ps []/\R u H1 fi
set_option tactic.hygienic true in
theorem uE {k n:Nat} {m:Str} {st:aa} {G H:Hp} {v:Val} {u:L2.V} {fi:Nat} {R:L2.V->Hp->Nat->Prop} (hK:T.K=X.K) (C:COk T P) (hM:wB T P X k n m) (s:9#3) (r:Rel T as G v u) (e:fG P m (res st v)=1#fi) (q:R u H fi):E0 T P X k n m R u H:=by
 have rr:=aY s r;generalize res st v=y at e rr
 cases y with
 |obj c ns vs=>
  replace e:(if ns.contains m=true then none else (P.cl c).bind λk=>k.meths.lookup m)=1#fi:=e;split at e
  ·cases e
  ·rename_i z;let⟨k',e1,e2⟩:=aap.mp e;let⟨ex,f,fd,ps,h1,h2,h3⟩:=hM c k' fi e1 e2;let⟨a,us,rfl,nl,r1,q1⟩:=rr;rw[if_neg (by rw[C.xc c k' e1,ex];decide)] at q1;let⟨dx,q1⟩:=q1;exact⟨a,_,dx,_,fi,f,fd,ps,rfl,q1,tZ (by simpa using z),hK▸C.cl c k' e1 ex,h1,h2,h3,q⟩
 |_=>cases e
theorem HC {k n:Nat} {m:Str} {e:Expr} {ies:2#PI.E} {apos:Pos} {pl:Sem Bool} (hK:T.K=X.K) (C:COk T P) (hM:wB T P X k n m) (hr:Room k X.A) (hx:cG X)
  (ho:PE 9#0 o (tE T P (call P n) E io)) (ha:PA 9#0 (e::es) (eD T P (call P n) E ies))
  (hst:8#13) (hpl:8#32)
  (ht:eval (.Call (.Attribute o m apos) (e::es) [] pos) X.env=(do
   let ov←eval o X.env
   standAt apos.atName
   let (f,first)←holding [ov] (getMethod ov m pl)
   callWith pos f first (backTo pos (starEach (e::es) X.env)) (backToKw pos (keywordEach [] X.env)))):
  PE 9#0 (.Call (.Attribute o m apos) (e::es) [] pos) (tE T P (call P n) E (.meth io m ies)):=by
 intro pins s σ H Q I ⟨env,st,as,G,sm,er,h⟩;dsimp only[PI.E.run] at h
 have h2:=aB (K:=E0 T P X k n m λu H1 fi=>eD T P (call P n) E ies σ H1 λvs H2=>eJ T P n fi (u::vs) H2 Q (E σ)) sm er h λv st1 as1 G1 H1 u s1 er1 r1 p1 l1 h=>by
  let⟨fi,e1,h⟩:=ab.aj h;exact uE hK C hM s1 r1 e1 (cX s1 er1 h λxs st2 as2 G2 H2 us s2 er2 r2 p2 l2 h=>⟨st2,as2,G2,v::xs,s2,⟨u,us,rfl,r1.mono p2 l2,r2⟩,h⟩)
 refine PySem.W.methodCall_KW (pl:=pl) (az (ho pins s σ H _ I h2) λu s1 hp=> ?_) ht;let⟨x,H1,I1,rx,a,C',dx,fs,fi,f,fd,ps,ex,ea,lm,c,hm,F,hb,q⟩:=hp;subst ex;obtain rfl:u=Value.ref a:=rx;refine nF I1 ea c hm lm ?_;refine acV (first:=[3#a]) (h₀:=X.base) I.ok.mod.kin hm.kp (az (ha pos pins s1 σ H1 _ I1 q) λus s2 zq17=> ?_) hst hpl;let⟨vs,H2,I2,r,q2⟩:=zq17;refine⟨I2.bQ, ?_⟩;exact kI (us:= 3#a::us) (vs:= 3#a::vs) F hr hb hx I2 (.cons rfl r) q2
theorem CS {k n:Nat} {m:Str} {apos:Pos} {pl:Sem Bool} (hK:T.K=X.K) (C:COk T P) (hM:wB T P X k n m) (hr:Room k X.A) (hx:cG X)
  (ho:PE 9#0 o (tE T P (call P n) E io))
  (ht:eval (.Call (.Attribute o m apos) [] [] pos) X.env=(do
   let ov←eval o X.env
   standAt apos.atName
   let (f,first)←holding [ov] (getMethod ov m pl)
   callWith pos f first (backTo pos (starEach [] X.env)) (backToKw pos (keywordEach [] X.env)))):
  PE 9#0 (.Call (.Attribute o m apos) [] [] pos) (tE T P (call P n) E (.meth io m [])):=by
 intro pins s σ H Q I ⟨env,st,as,G,sm,er,h⟩;dsimp only[PI.E.run] at h
 have h2:=aB (K:=E0 T P X k n m λu H1 fi=>eJ T P n fi [u] H1 Q (E σ)) sm er h λv st1 as1 G1 H1 u s1 er1 r1 p1 l1 h=>by
  let⟨fi,e1,h⟩:=ab.aj h;exact uE hK C hM s1 r1 e1 ⟨st1,as1,G1,[v],s1,⟨u,[],rfl,r1,rfl⟩,h⟩
 refine PySem.W.methodCall_KW (pl:=pl) (az (ho pins s σ H _ I h2) λu s1 hp=> ?_) ht;let⟨x,H1,I1,rx,a,C',dx,fs,fi,f,fd,ps,ex,ea,lm,c,hm,F,hb,q⟩:=hp;subst ex;obtain rfl:u=Value.ref a:=rx;refine nF I1 ea c hm lm ?_;exact acN (first:=[3#a]) I1.bQ hm.kp (kI (us:=[3#a]) (vs:=[3#a]) F hr hb hx I1 (.cons rfl .nil) q)
theorem sf {T:CT} {G:Hp} {f:Str} {x:Val} {u:L2.V} (hx:Rel T as G x u):∀{ns:2#Str} {vs:2#Val} {us:2#L2.V},0#ns=0#us->ae T as G vs us->∃us',(aT ns vs f x).1.zip us'=L2.aT f u (ns.zip us)/\(aT ns vs f x).1.length=0#us'/\ae T as G (aT ns vs f x).2 us'
 |[],vs,us,hl,r=>by
  have e0:us=[]:=aaI hl.symm;subst e0;exact⟨[u],rfl,rfl,⟨u,[],rfl,hx,rfl⟩⟩
 |n::ns,[],us,hl,r=>by
  cases r;cases hl
 |n::ns,v::vs,us,hl,r=>by
  let⟨w,t,rfl,h1,h2⟩:=r
  by_cases z:n=f
  ·refine⟨u::t, ?_, ?_, ?_⟩
   ·simp only[aT,if_pos z,aaQ,L2.aT]
   ·simp only[aT,if_pos z];exact hl
   ·simp only[aT,if_pos z];exact⟨u,t,rfl,hx,h2⟩
  ·let⟨us',e1,e2,e3⟩:=sf (f:=f) hx (ns:=ns) (vs:=vs) (us:=t) (by simpa using hl) h2;refine⟨w::us', ?_, ?_, ?_⟩
   ·simp only[aT,if_neg z,aaQ,L2.aT,e1]
   ·simp only[aT,if_neg z,aar,e2]
   ·simp only[aT,if_neg z];exact⟨w,us',rfl,h1,e3⟩
theorem Fj {e:Expr} {f:Str} (hK:T.K=X.K) (C:COk T P) (hf:∀(c:Nat) k,P.cl c=1#k->f∈k.flds->k.exc=false) (ho:PE X o (tE T P cl E io)) (he:8#31) (hs:swapsWith e 1#(.Attribute o f pos') pos.line X.env=pure false):
  PS X (.Assign [.Attribute o f pos'] e pos) (tS T P cl E (.dF io f ie)):=
 PS.mono (Hh ho he hs) λD σ H z903=>by
  let⟨env,st,as,G,s,er,h⟩:=z903;dsimp only[PI.S.run] at h;have h2:=of_post h er;refine aB s er h2 λx st1 as1 G1 H1 u s1 er1 r1 p1 l1 h=> ?_;refine aB s1 er1 h λy st2 as2 G2 H2 w s2 er2 r2 p2 l2 h=> ?_
  cases y with
  |ref k=>
   let⟨a,ea,rfl⟩:=r2;replace h:ab T as2 G2 (qj P k f x st2 st2[k]?) (λa st as' G' _=>aH T as' G' (.next env st) D E) (E σ):=h
   cases e1:st2[k]? with
   |none=>rw[e1] at h;exact h.elim
   |some o'=>
    rw[e1] at h;have ob:=s2.ob k o' a e1 ea
    cases o' with
    |ins c ns vs=>
     let⟨⟨c1,c2⟩,h⟩:=ab.iff h;let⟨k',e2,e3⟩:=uq c1;have ex:=hf c k' e2 e3;let⟨dx,us,x0,q,n,r⟩:=ob;let⟨us',z1,z2,z3⟩:=sf (f:=f) (r1.mono p2 l2) n r;have s4:=s2.set (o:= .ins c (aT ns vs f x).1 (aT ns vs f x).2) (u:= .ins (T.ca c) dx (L2.aT f u (ns.zip us))) ea ⟨dx,us',x0,by rw[z1];exact aq,z2,z3⟩;refine⟨a,T.ca c,dx,_,rfl,q,hK▸C.cl c k' e2 ex,hK▸C.na c k' f e2 ex e3, ?_,h.ok s4 as2 G2 _ σ (aai _) 8#25 s4 er2⟩;rw[abl];lia
    |lst xs=>exact h.elim
    |dct ks vs=>exact h.elim
  |_=>exact h.elim
theorem Gq {e:Expr} {t:PI.T} (he:8#31) (hg:PG X tg (tG T t)) (hs:swapsWithSole [tg] e pos.line X.env=pure false) (hw:swappedStores [tg] e X.env=pure none) (h1:(assignEach [tg] X.env).map (·.2)=[assign tg X.env]):PS X (.Assign [tg] e pos) (tS T P cl E (.set t ie)):=
 PS.mono (zo he hg hs hw h1) λD σ H z903=>by
  let⟨env,st,as,G,s,er,h⟩:=z903;dsimp only[PI.S.run] at h;refine qi s er h λv st1 as1 G1 H1 u s1 er1 r1 h=> ?_
  cases e1:t.put v env with
  |none=>rw[e1] at h;exact h.elim
  |some env'=>
   rw[e1] at h;exact⟨env,st1,as1,G1,v,env',s1,er1,r1,e1,λσ' er'=>h as1 G1 H1 σ' (aai _) 8#25 s1 er'⟩
theorem EA {c:Expr} {ib:2#PI.S} (fm:Framed X) (hx:cG X) (hc:PT (X.af (L4.XE X E)) c (tT T P cl E ic)) (hb:dI (X.af (L4.XE X E)) body (ml T P cl E ib)):PS 9#0 (.While c body [] pos) (tS T P cl E (.whl ic ib)):=
 PS.mono (Ay (L4.CA fm hx) hc hb) λD σ H z903=>by
  let⟨env,st,as,G,s,er,h⟩:=z903;dsimp only[PI.S.run] at h;refine⟨λm σ H=>∃env st as G,Sim T st as G H/\aL T as G env σ/\aH T as G (lA (λenv st=>runC P cl 1#ic env st) (λenv st=>aE P cl ib env st) m env st) D E,⟨_,env,st,as,G,s,er,h⟩, ?_⟩
  rintro m σ H ⟨env,st,as,G,s,er,h⟩
  cases m with
  |zero=>exact h.elim
  |succ m=>
   replace h:aH T as G (F.of env (runC P cl 1#ic env st) λb st=>vo b ((aE P cl ib env st).turn λenv st=>lA (λenv st=>runC P cl 1#ic env st) (λenv st=>aE P cl ib env st) m env st) (.next env st)) D E:=h;refine B4 s er h λb st1 as1 G1 H1 s1 er1 h=> ?_
   cases b with
   |false=>exact lZ (h as1 G1 H1 σ (aai _) 8#25 s1 er1)
   |true=>
    refine lM ⟨_,λσ' H' w=>⟨m,ab7 m,w⟩,env,st1,as1,G1,s1,er1, ?_⟩;exact aH.turn (src:=λ_ _=>True) (λ_ _ _=>trivial) trivial h λenv st as' G' σ' H' s er _ h=>⟨env,st,as',G',s,er,h⟩
theorem FA {x:Str} {v:Val} {u:L2.V} {uv:Value} (hg:Gl X x) (hm:X.mg x=1#uv) (r:RelV u uv) (hr:∀as G,Rel T as G v u) (hd:(x==("__debug__":Str))=false):PE X (.Name x pos) (tE T P cl E (.const v)):=
 PE.mono (uT hg hm r hd) λσ H Q z903=>by let⟨env,st,as,G,s,er,h⟩:=z903;exact h.ok s _ (hr _ _)
theorem rq {st:aa} {G H:Hp} {x:Val} {u:L2.V} {it:2#Val×2#(Nat×Ob)} (s:9#3) (r:Rel T as G x u) (e:itemsOf st x=1#it):∃a b,u= 3#a/\Src T b a it.1 it.2 as G/\(qm (res st x)=true->b=true)/\∃us,eP b T.K H a us:=by
 cases x with
 |tup f xs=>
  cases e;let⟨a,us,rfl,q,r⟩:=r;exact⟨a,false,rfl, .inl ⟨us,rG q,r⟩,λz=>(by cases z),us,bc s.sub q⟩
 |lst xs=>
  cases e;let⟨a,us,rfl,q,r⟩:=r;exact⟨a,true,rfl, .inl ⟨us,q,r⟩,λ_=>rfl,us,cq s.sub q⟩
 |ref n=>
  let⟨a,ea,rfl⟩:=r;replace e:iO n st[n]?=1#it:=e
  cases e1:st[n]? with
  |none=>rw[e1] at e;cases e
  |some o=>
   rw[e1] at e;have ob:=s.ob n o a e1 ea
   cases o with
   |lst xs=>
    cases e;let⟨us,q,r⟩:=ob;exact⟨a,true,rfl, .inr ⟨rfl,n,by simp,ea⟩,λ_=>rfl,us, .inl (.inl q)⟩
   |dct ks vs=>cases e
   |ins c ns vs=>cases e
 |_=>cases e
theorem kF:∀(i:Int) (xs:2#Val),0#(fO i xs)=0#xs
 |_,[]=>rfl
 |i,x::xs=>by unfold fO;rw[aar,kF,aar]
theorem vp:∀(i:Int) (xs:2#Val) (j:Nat) (x:Val),xs[j]?=1#x->(fO i xs)[j]?=1#(.tup false [6#(i+j),x])
 |_,[],_,_,h=>by cases h
 |i,x::xs,0,y,h=>by
  cases h;unfold fO;simp
 |i,x::xs,j+1,y,h=>by
  have:=vp (i+1) xs j y h;unfold fO;rw[abD,this];congr 4
  push_cast
  lia
theorem rJ {st:aa} {G H:Hp} {p:Addr} (s:9#3) (hp:H p=none) (r:ae T as G xs us):∃G',Le G G'/\Sim T st as G' (upd H p (.tup us))/\Rel T as G' (.tup false xs) 3#p:=by
 have l:Le G (upd G p (.tup us)):=Le.new (s.fresh hp).2;exact⟨_,l,s.wm hp,p,us,rfl,(show upd G p (.tup us) p=_ from aq),r.mono (aai _) l⟩
theorem yb (a:Addr) (items:2#Val) (chk:2#(Nat×Ob)):Walks T (B3 T.K true a) (fO 0 items) chk (Src T true a items chk) where
 mono p l h:=h.mono p l
 stop s kp h:=by
  let⟨us,q,r⟩:=h.now s kp;exact⟨us,q,by rw[kF,0#r]⟩
 go hi s kp h:=by
  let⟨us,q,r⟩:=h.now s kp;rw[kF] at hi;let⟨u,e,_⟩:=r.get (aac hi);exact⟨us,u,q,e⟩
 yld {st as G H x H' i} hi s kp h y:=by
  let⟨us,q,r⟩:=h.now s kp;rw[kF] at hi;let⟨u,e,hr⟩:=r.get (aac hi);let⟨p,w,rfl,hp,rfl,z⟩:=y;have:=z us q;rw[e] at this;cases this;let⟨G',l,s',rr⟩:=rJ (xs:=[6#i,items[i]]) (us:=[6#i,u]) s hp ⟨6#i,[u],rfl,rfl,u,[],rfl,hr,rfl⟩;refine⟨_,G',vp 0 items i _ (aac hi),l,s', ?_⟩;rw[Int.zero_add];exact rr
theorem Ja {a:Expr} {x1:Nat} {tp p:Pos} (hK:T.K=X.K) (hg:Gl X "enumerate") (hm:X.mg "enumerate"=none) (ha:PA X [a] (eD T P cl E [ia])) (hs:starEach [a] X.env=[(false,eval a X.env)]):L2.PI X (.Tuple elts x1 tp) (.Call (.Name "enumerate" p) [a] [] pos) (tQ T P cl E (.enm ia)):=
 PI.mono (Dv hg hm ha hs) λσ H R z903=>by
  let⟨env,st,as,G,s,er,h⟩:=z903;unfold PI.Q.run at h;refine vM s er h λx st1 as1 G1 H1 u s1 er1 r1 h=> ?_;let⟨c,h⟩:=ab.iff h;let⟨it,e,h⟩:=ab.aj h;let⟨a',b,rfl,sr,hb,us,q⟩:=rq s1 r1 e;cases hb c;exact⟨a',rfl,⟨us,hK▸q⟩,hK▸h.ok s1 (B3 T.K true a') _ (yb a' it.1 it.2) sr⟩
theorem kA:∀(xs ys:2#Val),0#ys<=0#xs->0#(gP xs ys)=0#ys
 |[],[],_=>rfl
 |_::_,[],_=>rfl
 |x::xs,y::ys,h=>by unfold gP;rw[aar,kA xs ys (by simpa using h),aar]
theorem zip_get:∀(xs ys:2#Val) (j:Nat) (x y:Val),xs[j]?=1#x->ys[j]?=1#y->(gP xs ys)[j]?=1#(.tup false [x,y])
 |[],_,_,_,_,h,_=>by cases h
 |_::_,[],_,_,_,_,h=>by cases h
 |x::xs,y::ys,0,_,_,h,h'=>by
  cases h;cases h';rfl
 |x::xs,y::ys,j+1,_,_,h,h'=>zip_get xs ys j _ _ h h'
theorem Kept.left {c d:2#(Nat×Ob)} {st:aa} (h:Kept (c++d) st):Kept c st:=λp hp=>h p (aaU _ hp)
theorem Kept.right {c d:2#(Nat×Ob)} {st:aa} (h:Kept (c++d) st):Kept d st:=λp hp=>h p (aaw _ hp)
theorem zF (b1 b2:Bool) (a1 a2:Addr) (xs ys:2#Val) (c d:2#(Nat×Ob)) (hl:0#ys<=0#xs):Walks T (Cf T.K b1 a1 b2 a2) (gP xs ys) (c++d) (λas G=>Src T b1 a1 xs c as G/\Src T b2 a2 ys d as G) where
 mono p l h:=⟨h.1.mono p l,h.2.mono p l⟩
 stop s kp h:=by
  let⟨us,q,r⟩:=h.1.now s kp.left;let⟨us2,q2,r2⟩:=h.2.now s kp.right;have n1:=0#r;have n2:=0#r2;have n3:=kA _ _ hl;refine⟨us,q, ?_⟩
  by_cases e:0#us=0#(gP xs ys)
  ·exact .inl e
  ·exact .inr ⟨by lia,us2,q2,by lia⟩
 go hi s kp h:=by
  let⟨us,q,r⟩:=h.1.now s kp.left;let⟨us2,q2,r2⟩:=h.2.now s kp.right;rw[kA _ _ hl] at hi;let⟨u,e,_⟩:=r.get (aac (aan hi hl));let⟨u2,e2,_⟩:=r2.get (aac hi);exact⟨us,us2,u,u2,q,q2,e,e2⟩
 yld {st as G H x H' i} hi s kp h y:=by
  let⟨us,q,r⟩:=h.1.now s kp.left;let⟨us2,q2,r2⟩:=h.2.now s kp.right;rw[kA _ _ hl] at hi;let⟨u,e,hr⟩:=r.get (aac (aan hi hl));let⟨u2,e2,hr2⟩:=r2.get (aac hi);let⟨p,w,w2,rfl,hp,rfl,z,z2⟩:=y;have z':=z us q;have z2':=z2 us2 q2;rw[e] at z';rw[e2] at z2';cases z';cases z2';let⟨G',l,s',rr⟩:=rJ (xs:=[xs[i]'(aan hi hl),ys[i]]) (us:=[u,u2]) s hp ⟨u,[u2],rfl,hr,u2,[],rfl,hr2,rfl⟩;exact⟨_,G',zip_get xs ys i _ _ (aac (aan hi hl)) (aac hi),l,s',rr⟩
theorem JU {a b:Expr} {x1:Nat} {tp p:Pos} (hK:T.K=X.K) (hg:Gl X "zip") (hm:X.mg "zip"=none) (ha:PA X [a,b] (eD T P cl E [ia,ib])) (hs:starEach [a,b] X.env=[(false,eval a X.env),(false,eval b X.env)]) (hs2:starEach [b] X.env=[(false,eval b X.env)]):
  L2.PI X (.Tuple elts x1 tp) (.Call (.Name "zip" p) [a,b] [] pos) (tQ T P cl E (.zip ia ib)):=
 PI.mono (Hb hg hm ha hs hs2) λσ H R z903=>by
  let⟨env,st,as,G,s,er,h⟩:=z903;unfold PI.Q.run at h;refine vk s er h λx y st1 as1 G1 H1 u u' s1 er1 r1 r2 h=> ?_
  cases e1:itemsOf st1 x with
  |none=>rw[e1] at h;exact h.elim
  |some it1=>cases e2:itemsOf st1 y with
   |none=>rw[e1,e2] at h;exact h.elim
   |some it2=>
    rw[e1,e2] at h;let⟨hl,h⟩:=ab.iff (show ab T as1 G1 (PI.iff (0#it2.1<=0#it1.1) (.ok (gP it1.1 it2.1,it1.2++it2.2) st1)) _ _ from h);let⟨a1,b1,rfl,sr1,_,us1,q1⟩:=rq s1 r1 e1;let⟨a2,b2,rfl,sr2,_,us2,q2⟩:=rq s1 r2 e2;exact⟨a1,a2,b1,b2,rfl,⟨us1,hK▸q1⟩,⟨us2,hK▸q2⟩,hK▸h.ok s1 (Cf T.K b1 a1 b2 a2) _ (zF b1 b2 a1 a2 it1.1 it2.1 it1.2 it2.2 hl) ⟨sr1,sr2⟩⟩
theorem zD {C:Addr} {σ:St} {H:Hp} {s:9#4} {Q:VK} (hm:PySem.W.makesIn X.K C=true) (hi:PySem.W.findIn X.K 3#C "__init__"=1#1#(.builtin "object.__init__")) (I:8#1)
  (h:∀x dx,H x=none->H dx=none->dx≠x->Q 3#x (upd (upd H dx (.own x)) x (.ins C dx []))):wpAny 8#3 X.A (PySem.call 3#C []) (EP X pins σ Q) X.xe s:=by
 have hq:=h 8#11 s.heap.objs.size (I.ah.fresh (adh _)) (I.ah.fresh (aah _)) (aay (ab7 _));have I2:=Inv.made (C:=C) I;let⟨hh,g,d,t,os⟩:=s;have Y:=ac5 (M:=model X.prog X.w) I.bQ hm;refine wpAny_call (yy I.bQ hm hi (λself=>PySem.W.Looks.of_pure (PySem.W.oi_bind self)) ?_)
 have e2:((hh.push PySem.W.emptyDict).push (PySem.W.instObj C hh.objs.size)).get? (hh.objs.size+1)=1#(PySem.W.instObj C hh.objs.size):=by
  have:=aak (hh.push PySem.W.emptyDict) (o:=PySem.W.instObj C hh.objs.size) rfl;rw[aa0] at this;exact this
 have t1:PySem.W.Looks 8#3 ((hh.push PySem.W.emptyDict).push (PySem.W.instObj C hh.objs.size)) (typeOf 3#(hh.objs.size+1)) 3#C:=(PySem.W.Looks.ld e2).andThen .now;have t2:PySem.W.Looks 8#3 ((hh.push PySem.W.emptyDict).push (PySem.W.instObj C hh.objs.size)) (isInstance 3#(hh.objs.size+1) (.type "object")) true:=t1.andThen (Y.top.keeps λb o e=>aad _ (aad _ e));refine codeAny_call_builtin PySem.W.oi_plain PySem.W.entry_oi (@PySem.W.check_slot 8#3 _ _ _ "object.__init__" "object" "__init__" 3#(hh.objs.size+1) [] [] _ PySem.W.oi_kind PySem.W.oi_split t2 (PySem.W.oi_args 3#(hh.objs.size+1)) ?_);rw[PySem.W.oi_run];exact aaf (And.intro rfl ⟨V.ref (hh.objs.size+1),_,I2,rfl,hq⟩)
theorem Eo {c:Nat} {K':Cl} {C:Addr} {x:Str} {p:Pos} (hk:P.cl c=1#K') (hin:K'.init=none) (hC:T.ca c=C) (hX:T.xc c=false) (hm:PySem.W.makesIn X.K C=true) (hi:PySem.W.findIn X.K 3#C "__init__"=1#1#(.builtin "object.__init__")) (kp:PySem.W.keepIn X.K 3#C=true) (hg:Gl X x) (hmg:X.mg x=1#3#C) (hdb:(x==("__debug__":Str))=false):
  PE X (.Call (.Name x p) [] [] pos) (tE T P cl E (.make c [])):=by
 intro pins s σ H Q I ⟨env,st,as,G,sm,er,h⟩;dsimp only[PI.E.run] at h;rw[hk] at h;replace h:ab T as G (gf P cl c [] st 1#K'.init) 9#1 (E σ):=h;rw[hin] at h;replace h:ab T as G (fin P st 3#0#st (st++[.ins c [] []])) 9#1 (E σ):=h;refine abu (iJ I hg hmg ?_ hdb);refine acN I.bQ kp (zD hm hi I λx dx hx hd ne=> ?_);subst hC
 have hx1:upd H dx (.own x) x=none:=by rw[ar (Ne.symm ne)];exact hx
 have s1:Sim T st as G (upd H dx (.own x)):=by
  let⟨n1,n2⟩:=sm.fresh hd;refine⟨sm.len,sm.nd,sm.sub.up n2,sm.off,λm o a h1 h2=>(sm.ob m o a h1 h2).at (ar λz=>n1 ?_)⟩;rw[←z];exact aau h2
 have s2:Sim T (st++[.ins c [] []]) (as++[x]) G (upd (upd H dx (.own x)) x (.ins (T.ca c) dx [])):=s1.push hx1 ⟨dx,[],hX,aq,rfl,rfl⟩;refine ni (v:= 3#0#st) (u:= 3#x) s1 s2 (aav _ _) 8#25 ⟨x, ?_,rfl⟩ h;rw[←sm.len,aal (aah _)];simp
theorem qF {α:Type}:∀(l:2#(Array α)) (acc:Array α),(l.foldl (· ++ ·) acc).toList=acc.toList++(l.map Array.toList).flatten
 |[],acc=>by simp
 |a::l,acc=>by
  rw[List.foldl_cons,qF l];simp
set_option tactic.hygienic true in
theorem BJ (z:Str) (k:Int) (h:0<=k):iy z k.toNat=Txt.mul z k:=by
 unfold iy Txt.mul;split
 ·rw[show k.toNat=0 by lia];rfl
 ·split
  ·rename_i h1 h2;rw[abk,abz,abz] at h2
   rcases h2 with h2|h2
   ·subst h2;simp
   ·have e:z.cps.toList=[]:=aaI (by simpa[Str.length] using h2);rw[e];have e2:z.cps=#[]:=acz.mp e
    have e3:(List.replicate k.toNat ([]:2#Nat)).flatten=([]:2#Nat):=by simp
    rw[e3];cases z;simp at e2;rw[e2]
  ·congr 1;apply acz.mp;rw[qF];simp
theorem DQ:aJ X (binaryOp .Mult) (cR T (eY .Mult)):=by
 intro pins s σ H u w uv wv Q I ru rw' ⟨st,as,G,x,y,Z,sm,r1,r2,p⟩
 cases x with
 |str z=>cases y with
  |int k=>
   cases r1;cases r2;let⟨⟨c1,c2,c3⟩,p⟩:=ab.iff (show ab T as G (PI.iff (0<=k/\k<=1000/\0#z<=1000) (.ok (.str (iy z k.toNat)) st)) (PV T Q) Z from p);refine C5 pins s σ H _ _ uv wv Q I ru rw' ⟨z,k,rfl,rfl,c1,c2,c3, ?_⟩;rw[←BJ z k c1];exact p.ok sm _ rfl
  |_=>exact p.elim
 |int i=>exact Dc pins s σ H u w uv wv Q I ru rw' ⟨st,as,G, 6#i,y,Z,sm,r1,r2,p⟩
 |_=>exact p.elim
theorem HD {e f:Expr} (hu:X.A.units+1<cLine) (ho:PE X o (tE T P cl E io)) (he:8#31) (hf:PE X f (tE T P cl E jf)) (m:M2 X o "get" apos e f pos):PE X (.Call (.Attribute o "get" apos) [e,f] [] pos) (tE T P cl E (.bm .get io [ie,jf])):=by
 intro pins s σ H Q I ⟨env,st,as,G,sm,er,h⟩;dsimp only[PI.E.run] at h
 have h2:=aB (K:=λu H1=>∃a,u= 3#a/\CB H1 a/\tE T P cl E ie σ H1 λy H2=>tE T P cl E jf σ H2 λz H3=>∃ov,DG H3 a y ov/\Q (ov.getD z) H3) sm er h λv st1 as1 G1 H1 u s1 er1 r1 p1 l1 h=>by
  let⟨c,h⟩:=ab.iff h;have rr:=aY s1 r1
  have cd:∃ks vs,res st1 v= .dct ks vs:=by
   generalize res st1 v=y at c
   cases y<;>first|(cases c;done)|exact⟨_,_,rfl⟩
  let⟨ks,vs,ev⟩:=cd;rw[ev] at rr;let⟨a,us,rfl,d,rv⟩:=rr;refine⟨a,rfl,Ab d, ?_⟩
  replace h:ab T as1 G1 (((ie.run P cl env st1).bind λx st=>(jf.run P cl env st).bind λy st=> .ok [x,y] st).bind λxs st=>k9 .get v xs st) 9#1 (E σ):=by
   have z:aS P cl [ie,jf] env st1=(ie.run P cl env st1).bind λx st=>(jf.run P cl env st).bind λy st=> .ok [x,y] st:=by
    unfold aS;congr 1;funext x st;unfold aS;rw[R.bind_assoc];rfl
   rw[z] at h;exact h
  rw[R.bind_assoc] at h;refine aB s1 er1 h λk st2 as2 G2 H2 w s2 er2 r2 p2 l2 h=> ?_;rw[R.bind_assoc] at h;refine aB s2 er2 h λx st3 as3 G3 H3 w3 s3 er3 r3 p3 l3 h=> ?_;replace h:ab T as3 G3 (sj (res st3 v) [k,x] st3) 9#1 (E σ):=h;have r4:=aY s3 (r1.mono (p2.trans p3) (l2.trans l3));generalize res st3 v=y at h r4
  cases y with
  |dct ks vs=>
   let⟨hk,h⟩:=ab.iff h;let⟨b,e,h⟩:=ab.eh h;let⟨r,e1,rfl⟩:=aab.mp e;let⟨a',us',ea,d',rv'⟩:=r4;cases ea;let⟨ro,g,og⟩:=nk s3.sub d' rv' hk (r2.mono p3 l3) e1;refine⟨ro,g, ?_⟩
   cases r<;>cases ro<;>first|exact og.elim|exact h.ok s3 _ r3|exact h.ok s3 _ og
  |_=>exact h.elim
 refine wpAny_Call_method m.base m.few m.line PySem.F.plainAttrs_dict aaR PySem.F.type_dict_get (az (ho pins s σ H _ I h2) λu s1 z902=> ?_);let⟨x,H1,I1,rx,a,ex,d,q1⟩:=z902;subst ex;obtain rfl:u=Value.ref a:=rx;let⟨t1,t2,_⟩:=xy I1 d;refine⟨t1,t2, ?_⟩;rw[m.trees];refine ab0 rfl (acD (ace (az (he pins s1 σ H1 _ I1 q1) λiv s2 zq18=> ?_)));let⟨y,H2,I2,ry,q2⟩:=zq18;refine ace (az (hf pins s2 σ H2 _ I2 q2) λfv s3 zq19=> ?_);let⟨z,H3,I3,rz,ov,g,q3⟩:=zq19;refine ac0 ?_;exact Eh hu I3 g ry rz λw' s4 I4 rw'=>⟨_,H3,I4,rw',q3⟩
end
theorem vq {m:Str} {apos pos:Pos} {args:2#Expr} {env:PySem.Env} (hb:attributeBase o m env (eval o env)=eval o env) (hf:methodCallForm (0#args+0#([]:2#Keyword)) (backTo pos (starEach args env)) (backToKw pos (keywordEach [] env))=true) (hl:(apos.endLine==pos.line)=true):
  eval (.Call (.Attribute o m apos) args [] pos) env=(do
   let ov←eval o env
   standAt apos.atName
   let (f,first)←holding [ov] (getMethod ov m (do return (←importBound o env).getD true))
   callWith pos f first (backTo pos (starEach args env)) (backToKw pos (keywordEach [] env))):=by
 rw[arm_eval_Call,hb];unfold methodCall calleeOf methodCallPos;rw[hf,hl];rfl
def fB:2#Val->Bool
 | .tup _ (k::_)::_=>kT k
 |_=>false
set_option tactic.hygienic true in
theorem mS {x:Val} {r:2#Val} (h:pairD (x::r) ks vs=1#(ks',vs')):∃k v p,x= .tup false [k,v]/\bX k=true/\putD k v ks vs=1#p/\pairD r p.1 p.2=1#(ks',vs'):=by
 unfold pairD at h;split at h
 ·rename_i z;cases z
 ·rename_i k v r' z;cases z;split at h
  ·rename_i hk;let⟨p,e1,e2⟩:=aap.mp h;exact⟨k,v,p,rfl,hk,e1,e2⟩
  ·cases h
 ·cases h
theorem vO {k:Val}:∀{ks:2#Val},ks≠[]->(∀a∈ks,kT a≠kT k)->memD k ks=none
 |[],h,_=>absurd rfl h
 |a::ks,_,h=>by
  show (if kT a=kT k then _ else none)=none;rw[if_neg (h a aaD)]
section
variable {T:CT} {as:2#Addr} {G H:Hp}
set_option tactic.hygienic true in
theorem um (l:Le G H):∀{xs:2#Val} {ys:2#L2.V} {ks vs ks' vs':2#Val} {kk:2#2#Key} {us:2#L2.V},ae T as G xs ys->aZ ks=1#kk->0#kk=0#us->ae T as G vs us->(ks=[]->xs=[]∨fB xs=true)->pairD xs ks vs=1#(ks',vs')->
  ∃kvs kk' us',Paired (Cw H) ys kvs/\0#kvs=0#xs/\putAll (kk.zip us) kvs=kk'.zip us'/\aZ ks'=1#kk'/\0#kk'=0#us'/\ae T as G vs' us'
 |[],ys,ks,vs,ks',vs',kk,us,rx,h1,h2,rv,_,e=>by
  cases rx;cases e;exact⟨[],kk,us, .nil,rfl,rfl,h1,h2,rv⟩
 |x::r,ys,ks,vs,ks',vs',kk,us,rx,h1,h2,rv,ht,e=>by
  let⟨k,v,⟨ks1,vs1⟩,rfl,hk,e1,e2⟩:=mS e;let⟨u,t,rfl,ru,rr⟩:=rx;let⟨q,us0,rfl,hq,r0⟩:=ru;let⟨uk,t0,rfl,rk,uv,t1,rfl,rvv,r1⟩:=r0;cases r1
  rcases mO l hk rk with⟨tk,κ,k1,k2⟩|⟨tk,κ,b,k1,rfl,k2⟩
  ·exfalso
   by_cases z:ks=[]
   ·rcases ht z with z|z
    ·cases z
    ·have:kT k=true:=z;rw[tk] at this;cases this
   ·have:=vO (k:=k) z λa ha=>by rw[(gN h1).2 a ha,tk];decide
    unfold putD at e1;rw[this] at e1;cases e1
  ·let⟨kk1,us1,z1,z2,z3,z4⟩:=wR k1 rvv h1 h2 rv e1
   have ne:ks1≠[]:=λz=>by
    subst z;unfold putD at e1;let⟨bb,_,e4⟩:=aab.mp e1
    cases bb with
    |true=>
     cases ks with
     |nil=>rename_i e3;cases e3
     |cons _ _=>cases e4
    |false=>
     have:=congrArg (λp=>0#p.1) e4;simp at this
   let⟨kvs,kk2,us2,p1,p2,p3,p4,p5,p6⟩:=um l rr z1 z2 z4 (λz=>absurd z ne) e2;refine⟨(κ,uv)::kvs,kk2,us2, .cons ⟨q,b,rfl,l.ex hq rfl,k2⟩ p1,by simp[p2], ?_,p4,p5,p6⟩;show putAll (putK (kk.zip us) κ uv) kvs=_;rw[z3,p3]
set_option tactic.hygienic true in
theorem vG (l:Le G H):∀{xs:2#Val} {ys:2#L2.V} {ks vs ks' vs':2#Val} {kk:2#Key} {us:2#L2.V},ae T as G xs ys->aM ks=1#kk->0#kk=0#us->ae T as G vs us->(ks=[]->xs≠[]/\fB xs=false)->pairD xs ks vs=1#(ks',vs')->
  ∃kvs kk' us',Paired (Cs H) ys kvs/\0#kvs=0#xs/\putAll (kk.zip us) kvs=kk'.zip us'/\aM ks'=1#kk'/\0#kk'=0#us'/\ae T as G vs' us'
 |[],ys,ks,vs,ks',vs',kk,us,rx,h1,h2,rv,_,e=>by
  cases rx;cases e;exact⟨[],kk,us, .nil,rfl,rfl,h1,h2,rv⟩
 |x::r,ys,ks,vs,ks',vs',kk,us,rx,h1,h2,rv,ht,e=>by
  let⟨k,v,⟨ks1,vs1⟩,rfl,hk,e1,e2⟩:=mS e;let⟨u,t,rfl,ru,rr⟩:=rx;let⟨q,us0,rfl,hq,r0⟩:=ru;let⟨uk,t0,rfl,rk,uv,t1,rfl,rvv,r1⟩:=r0;cases r1
  rcases mO l hk rk with⟨tk,κ,k1,rfl⟩|⟨tk,κ,b,k1,k3,k2⟩
  ·let⟨kk1,us1,z1,z2,z3,z4⟩:=xg k1 rvv h1 h2 rv e1
   have ne:ks1≠[]:=λz=>by
    subst z;unfold putD at e1;let⟨bb,_,e4⟩:=aab.mp e1
    cases bb with
    |true=>
     cases ks with
     |nil=>rename_i e3;cases e3
     |cons _ _=>cases e4
    |false=>
     have:=congrArg (λp=>0#p.1) e4;simp at this
   let⟨kvs,kk2,us2,p1,p2,p3,p4,p5,p6⟩:=vG l rr z1 z2 z4 (λz=>absurd z ne) e2;refine⟨(κ,uv)::kvs,kk2,us2, .cons ⟨q,rfl,l.ex hq rfl⟩ p1,by simp[p2], ?_,p4,p5,p6⟩;show putAll (putK (kk.zip us) κ uv) kvs=_;rw[z3,p3]
  ·exfalso
   by_cases z:ks=[]
   ·have:=(ht z).2;have t2:kT k=false:=this;rw[tk] at t2;cases t2
   ·have:=vO (k:=k) z λa ha=>by rw[(gR h1).2 a ha,tk];decide
    unfold putD at e1;rw[this] at e1;cases e1
end
section
variable {T:CT} {P:Pg} {cl:ax} {E:XS} {X:Cx} {pos:Pos}
def Li (T:CT):2#L2.V->Hp->VK->Prop:=λus H Q=>∃st as G x u Z,us=[u]/\Sim T st as G H/\Rel T as G x u/\ab T as G (rX st x) (PV T Q) Z
theorem vH {st:aa} {G H:Hp} {a:Addr} {b:Bool} {Q:VK} {Z:XK} (s:9#3) (r:ae T as G xs ys) (hp:Plain b H a ys) (h:ab T as G (newD xs st) (PV T Q) Z):yF b [3#a] H Q∨zm b [3#a] H Q:=by
 let⟨c,h⟩:=ab.iff h;let⟨⟨ks,vs⟩,e,h⟩:=ab.aj h
 have fin:∀{u:HO} (p:Addr),H p=none->eR T (as++[p]) G (upd H p u) p (.dct ks vs)->Q 3#p (upd H p u):=λ{u} p hp o=>by
  have s2:=s.push hp o;refine h (as++[p]) G _ (aav _ _) 8#25 s2 _ ⟨p, ?_,rfl⟩;rw[←s.len,aal (aah _)];simp
 by_cases z:xs=[]∨fB xs=true
 ·let⟨kvs,kk,us,p1,p2,p3,p4,p5,p6⟩:=um s.sub (kk:=[]) (us:=[]) r rfl rfl (show ae T as G [] [] from rfl) (λ_=>z) e;refine .inl ⟨a,ys,kvs,rfl,hp,p1,by rw[p2];exact c,λp hp=>fin p hp ⟨us, .inr ⟨kk,p4,p5, ?_⟩,p6.mono (aav _ _) 8#25⟩⟩;rw[show putAll [] kvs=kk.zip us from p3];exact aq
 ·have z1:xs≠[]:=λq=>z (.inl q)
  have z2:fB xs=false:=by
   cases q:fB xs with
   |true=>exact absurd (.inr q) z
   |false=>rfl
  let⟨kvs,kk,us,p1,p2,p3,p4,p5,p6⟩:=vG s.sub (kk:=[]) (us:=[]) r rfl rfl (show ae T as G [] [] from rfl) (λ_=>⟨z1,z2⟩) e;refine .inr ⟨a,ys,kvs,rfl,hp,p1,by rw[p2];exact c,λp hp=>fin p hp ⟨us, .inl ⟨kk,p4,p5, ?_⟩,p6.mono (aav _ _) 8#25⟩⟩;rw[show putAll [] kvs=kk.zip us from p3];exact aq
theorem A2 (hc:X.calm=true) (hu:X.A.units+2<cLine):aC X (.type "dict") (Li T):=by
 refine aC.imp (((mX hc hu (b:=true)).or (nE hc hu (b:=true))).or ((mX hc hu (b:=false)).or (nE hc hu (b:=false)))) λus H Q z903=> ?_;let⟨st,as,G,x,u,Z,e,s,r,h⟩:=z903;subst e
 cases x with
 |tup f xs=>
  cases f with
  |false=>exact h.elim
  |true=>
   let⟨a,ys,rfl,⟨o,q1,q2⟩,r⟩:=r;exact .inr (vH s r ⟨o,s.sub.ex q1 rfl,q2⟩ h)
 |ref k=>
  let⟨a,ea,rfl⟩:=r;replace h:ab T as G (wz st st[k]?) (PV T Q) Z:=h
  cases e1:st[k]? with
  |none=>rw[e1] at h;exact h.elim
  |some o=>
   rw[e1] at h;have ob:=s.ob k o a e1 ea
   cases o with
   |lst xs=>
    let⟨ys,q,r⟩:=ob;exact .inl (vH s r q h)
   |dct ks vs=>exact h.elim
   |ins c ns vs=>exact h.elim
 |_=>exact h.elim
theorem J6 {e:Expr} {p:Pos} (hc:X.calm=true) (hu:X.A.units+2<cLine) (hg:Gl X "dict") (hm:X.mg "dict"=none) (he:8#31) (hs:notStar e=true):PE X (.Call (.Name "dict" p) [e] [] pos) (tE T P cl E (.dOf ie)):=
 PE.mono (pU (A2 hc hu) hg hm PyProof.Rows.Boot.«dict» (iM he nB (by cases e<;>first|rfl|cases hs)) 8#16 8#16 (by cases e<;>first|rfl|cases hs) rfl) λσ H Q z903=>by
  let⟨env,st,as,G,s,er,h⟩:=z903;dsimp only[PI.E.run] at h;exact aB s er h λx st1 as1 G1 H1 u s1 er1 r1 p1 l1 h=>⟨st1,as1,G1,x,u,_,rfl,s1,r1,h⟩
end
end PI
namespace PI
open PySem L2 L2.L3
theorem nZ:∀x y:2#Int,cg x y=HT.lexLt x y
 |[],[]=>rfl
 |[],_::_=>rfl
 |_::_,[]=>rfl
 |a::r,b::t=>by
  rw[HT.eQ];unfold cg;rw[nZ r t]
theorem yK:∀{x y:2#Int},HT.lexLt x y=false->HT.lexLt y x=false->x=y
 |[],[],_,_=>rfl
 |[],_::_,h,_=>by cases h
 |_::_,[],_,h=>by cases h
 |a::r,b::t,h1,h2=>by
  rw[HT.eQ] at h1 h2
  by_cases e:a=b
  ·subst e;rw[if_pos rfl] at h1 h2;rw[yK h1 h2]
  ·rw[if_neg e] at h1;rw[if_neg (λz=>e z.symm)] at h2;have k1:=abK h1;have k2:=abK h2;lia
section
variable {α β:Type}
theorem jH {k:2#Int} {y:α}:∀{l:2#(2#Int×α)},(cO k y l).Perm ((k,y)::l)
 |[]=> .refl _
 |z::r=>by
  unfold cO;split
  ·exact .refl _
  ·exact((jH (l:=r)).cons z).trans (.swap _ _ _)
theorem iV:∀{l:2#(2#Int×α)},(bt l).Perm l
 |[]=> .refl _
 |z::r=>jH.trans ((iV (l:=r)).cons _)
def sv (l:2#(2#Int×α)):Prop:=l.Pairwise λx y=>HT.lexLt y.1 x.1=false
set_option tactic.hygienic true in
theorem nA {k:2#Int} {y:α}:∀{l:2#(2#Int×α)},sv l->sv (cO k y l)
 |[],_=>List.Pairwise.cons (λ_ h=>by cases h) .nil
 |z::r,h=>by
  unfold cO;split
  ·rename_i c;rw[nZ] at c;refine List.Pairwise.cons (λw hw=> ?_) h
   rcases aaq.mp hw with rfl|hw
   ·exact nJ c
   ·exact qO (nJ c) (List.rel_of_pairwise_cons h hw)
  ·rename_i c;rw[nZ] at c
   have c0:HT.lexLt k z.1=false:=by simpa using c
   refine List.Pairwise.cons (λw hw=> ?_) (nA (abZ.mp h).2)
   rcases aaq.mp (jH.mem_iff.mp hw) with rfl|hw
   ·exact c0
   ·exact List.rel_of_pairwise_cons h hw
theorem k6:∀{l:2#(2#Int×α)},sv (bt l)
 |[]=> .nil
 |_::r=>nA (k6 (l:=r))
theorem rR (g:α->β) {k:2#Int} {y:α}:∀{l:2#(2#Int×α)},cO k (g y) (l.map λz=>(z.1,g z.2))=(cO k y l).map λz=>(z.1,g z.2)
 |[]=>rfl
 |z::r=>by
  show (if cg k z.1=true then _ else _)=_;rw[cO];split
  ·rfl
  ·rw[aas,←rR g]
theorem oN (g:α->β):∀{l:2#(2#Int×α)},bt (l.map λz=>(z.1,g z.2))=(bt l).map λz=>(z.1,g z.2)
 |[]=>rfl
 |z::r=>by
  show cO z.1 (g z.2) (bt (r.map λz=>(z.1,g z.2)))=_;rw[oN g,rR g];rfl
end
theorem zY {α:Type} {d:α} (ks:2#2#Int) (ys:2#α) (h:0#ks=0#ys):ks.zip ys=(ks.zip (List.range 0#ys)).map λz=>(z.1,ys.getD z.2 d):=by
 refine List.ext_getElem (by simp[h]) λi h1 h2=> ?_
 have hy:i<0#ys:=by simp at h1;lia
 simp[aax,aac hy]
theorem yE {α:Type} {d:α} {ks:2#2#Int} {ys:2#α} (h:0#ks=0#ys) (nd:ks.Nodup) {p:2#Nat} (pp:p.Perm (List.range 0#ys)) (pr:mK ks p):(bt (ks.zip ys)).map (λz=>z.2)=p.map λi=>ys.getD i d:=by
 rw[zY (d:=d) ks ys h,oN (λi=>ys.getD i d),abQ]
 have e:p=(bt (ks.zip (List.range 0#ys))).map λz=>z.2:=by
  have m:∀z∈bt (ks.zip (List.range 0#ys)),z.1=ks.getD z.2 []/\z.2<0#ks:=λz hz=>by
   let⟨i,hi,e⟩:=List.mem_iff_getElem.mp (iV.mem_iff.mp hz);subst e
   have hk:i<0#ks:=by simp at hi;lia
   simp[aax,aac hk,hk]
  have sn:((ks.zip (List.range 0#ys)).map λz=>z.2)=List.range 0#ys:=List.map_snd_zip (by simp[h])
  have pm:((bt (ks.zip (List.range 0#ys))).map λz=>z.2).Perm (List.range 0#ys):=by
   have:=(iV (l:=ks.zip (List.range 0#ys))).map λz=>z.2;rwa[sn] at this
  have rs:mK ks ((bt (ks.zip (List.range 0#ys))).map λz=>z.2):=by
   unfold mK;rw[ab1];refine(List.Pairwise.and_mem.mp (k6 (l:=ks.zip (List.range 0#ys)))).imp λ{a b} z901=> ?_;let⟨ma,mb,q⟩:=z901;rw[←(m a ma).1,←(m b mb).1];exact q
  refine List.Perm.eq_of_pairwise (λa b ha hb h1 h2=> ?_) pr rs (pp.trans pm.symm)
  have la:a<0#ks:=by rw[h];exact abf.mp (pp.mem_iff.mp ha)
  have lb:b<0#ks:=by rw[h];exact abf.mp (pm.mem_iff.mp hb)
  have q:=yK h1 h2;rw[aax,aax,aac la,aac lb] at q;have q':ks[b]=ks[a]:=q;exact qz nd (aac la) (by rw[aac lb,q'])
 rw[e,abQ];rfl
end PI
namespace PI
open PySem PySem.Spec L2 L2.L3 L2.L4 PySem.SeqAt
open PyProof.Rows hiding St lobj
theorem Bv {α β:Type} {c:Prop} {r:R α} {f:α->aa->R β}:(iff c r).bind f=iff c (r.bind f):=by
 unfold iff;split<;>rfl
theorem eqz {α β γ:Type} {x:5#α} {y:5#β} {f:α->β->γ} {c:γ} (h:(x.bind λa=>y.map λb=>f a b)=1#c):∃a b,x=1#a/\y=1#b/\c=f a b:=by
 let⟨a,e1,e2⟩:=aap.mp h;let⟨b,e3,e4⟩:=aab.mp e2;exact⟨a,b,e1,e3,e4.symm⟩
section
variable {T:CT} {as:2#Addr} {G H:Hp}
set_option tactic.hygienic true in
theorem oF:∀{xs:2#Val} {us:2#L2.V} {k:2#Int},gZ xs=1#k->ae T as G xs us->us=k.map L2.V.int
 |[],us,k,h,r=>by
  cases h;exact r
 |x::xs,us,k,h,r=>by
  cases x<;>try (cases h;done)
  rename_i i;let⟨k',e,rfl⟩:=aab.mp h;let⟨u,t,rfl,ru,rr⟩:=r;cases ru;rw[oF e rr];rfl
set_option tactic.hygienic true in
theorem qU (l:Le G H):∀{dn:2#Val} {kv:2#L2.V} {ks:2#2#Int},dW dn=1#ks->ae T as G dn kv->Paired (fY H) kv ks
 |[],kv,ks,h,r=>by
  cases h;cases r;exact .nil
 |v::dn,kv,ks,h,r=>by
  let⟨k,ks',e1,e2,rfl⟩:=eqz h;let⟨u,t,rfl,ru,rr⟩:=r;refine .cons ?_ (qU l e2 rr)
  cases v<;>try (cases e1;done)
  rename_i f xs
  cases f with
  |true=>cases e1
  |false=>
   let⟨a,us,rfl,ha,hr⟩:=ru;have e3:gZ xs=1#k:=e1;rw[oF e3 hr] at ha;exact⟨a,rfl,l.ex ha rfl⟩
theorem pG:∀{dn:2#Val} {ks:2#2#Int},dW dn=1#ks->0#ks=0#dn
 |[],ks,h=>by
  cases h;rfl
 |v::dn,ks,h=>by
  let⟨k,ks',e1,e2,rfl⟩:=eqz h;simp[pG e2]
theorem o4 {ys:2#Val} {us:2#L2.V} (r:ae T as G ys us):∀{p:2#Nat},(∀i∈p,i<0#ys)->ae T as G (p.map λi=>ys.getD i .non) (p.map λi=>us.getD i .non)
 |[],_=>rfl
 |i::p,h=>by
  have hi:=h i aaD;let⟨u,e,ru⟩:=r.get (aac hi);refine⟨_,_,rfl, ?_,o4 r λj hj=>h j (aat _ hj)⟩;show Rel T as G (ys.getD i .non) (us.getD i .non);rw[aax,aac hi,aax,e];exact ru
theorem vc {α:Type} (l:2#α) (a b:α):(l++[a]).set 0#l b=l++[b]:=by simp
end
section
variable {T:CT} {P:Pg} {E:XS} {X:Cx} {pos:Pos} {n fi:Nat}
theorem HZ {st:aa} {G H:Hp} {us:2#L2.V} {Q:VK} {Z:XK} (s:9#3) (r:ae T as G ys us)
  (h:ab T as G ((ft (call P n) fi st ys []).bind λks _=>(R.aj (dW ks) st).bind λks st=>iZ ys ks st) (PV T Q) Z):
  ∀kS,H kS=none->∃W:SW,qu (eJ T P n fi) kS W/\W us [] (upd H kS (.lst []))/\∀kv H2,H2 kS=1#7#kv->0#kv=0#us->W [] kv H2->A9 us Q kS kv H2:=by
 intro kS hS;have pre:as<+:as++[kS]:=aav _ _
 have ix:(as++[kS])[0#st]?=1#kS:=by
  rw[←s.len,aal (aah _)];simp
 refine⟨λrest kv H'=>∃G' dn rv,Le G G'/\Sim T (st++[7#dn]) (as++[kS]) G' H'/\ae T (as++[kS]) G' dn kv/\ae T (as++[kS]) G' rv rest/\0#rv+0#dn=0#ys/\
  ab T (as++[kS]) G' ((ft (call P n) fi st rv dn).bind λks _=>(R.aj (dW ks) st).bind λks st=>iZ ys ks st) (PV T Q) Z, ?_, ?_, ?_⟩
 ·rintro y rest kv H' ⟨G',dn,rv,l,sm,rd,rr,ln,hp⟩
  cases rv with
  |nil=>cases rr
  |cons yv rv=>
   let⟨u,t,e,ry,rr⟩:=rr;cases e;refine⟨st++[7#dn],as++[kS],G',[yv],sm,⟨y,[],rfl,ry,rfl⟩, ?_⟩;unfold ft at hp
   cases ec:call P n fi [yv] (st++[7#dn]) with
   |stuck=>rw[ec] at hp;exact hp.elim
   |exc x st'=>rw[ec] at hp;exact hp.elim
   |ok v st'=>
    rw[ec] at hp;replace hp:ab T (as++[kS]) G' ((iff (st'=st++[7#dn]) (ft (call P n) fi st rv (dn++[v]))).bind λks _=>(R.aj (dW ks) st).bind λks st=>iZ ys ks st) (PV T Q) Z:=hp;rw[Bv] at hp;let⟨e9,hq⟩:=ab.iff hp;subst e9;intro as' G2 H2 p l2 s2 w rw';have ea:as++[kS]=as':=p.eq_of_length (by rw[sm.len,s2.len]);subst ea;let⟨kv2,hk2,rd2⟩:=s2.ob 0#st 7#dn kS 8#5 ix;have rd3:ae T (as++[kS]) G2 (dn++[v]) (kv2++[w]):=rd2.append ⟨w,[],rfl,rw',rfl⟩;have s3:=s2.set (u:= 7#(kv2++[w])) (o:= 7#(dn++[v])) ix ⟨_,aq,rd3⟩;rw[vc] at s3;exact⟨kv2,by rw[←0#rd2,←0#rd],hk2,G2,dn++[v],rv,l.trans l2,s3,rd3,rr.mono (aai _) l2,by simp at ln⊢;lia,ab.mono (aai _) l2 hq⟩
 ·exact⟨G,[],ys,Le.refl _,s.push hS ⟨[],aq,rfl⟩,rfl,r.mono pre 8#25,by simp,ab.mono pre 8#25 h⟩
 ·rintro kv H2 hk lk ⟨G',dn,rv,l,sm,rd,rr,ln,hp⟩
  cases rv with
  |cons yv rv=>
   let⟨u,t,e,_⟩:=rr;cases e
  |nil=>
   replace hp:ab T (as++[kS]) G' ((R.aj (dW dn) st).bind λks st=>iZ ys ks st) (PV T Q) Z:=hp;let⟨ks,ek,hp⟩:=ab.aj hp;let⟨⟨c1,nd,m,hm,hkm⟩,hp⟩:=ab.iff hp;refine⟨ks,m,qU sm.sub ek rd,hm,hkm,λD p hD pp pr=> ?_⟩;have s2:=sm.set (u:= .lst []) (o:= .lst []) ix ⟨[],aq,rfl⟩;rw[vc] at s2;have ly:0#ys=0#us:=0#r
   have lks:0#ks=0#ys:=by
    rw[pG ek];simpa using ln
   rw[←ly] at pp;have eq:=yE (d:=Val.non) lks nd pp pr
   have rs:ae T (as++[kS]++[D]) G' ((bt (ks.zip ys)).map λz=>z.2) (p.map λi=>us.getD i .non):=by
    rw[eq];exact(o4 r λi hi=>abf.mp (pp.mem_iff.mp hi)).mono (pre.trans (aav _ _)) l
   have s3:=s2.push (u:= 7#(p.map λi=>us.getD i .non)) (o:= 7#((bt (ks.zip ys)).map λz=>z.2)) hD ⟨_,aq,rs⟩;refine hp _ G' _ (aav _ _) 8#25 s3 3#D ⟨D, ?_,rfl⟩;rw[←s2.len,aal (aah _)];simp
theorem CY {k:Nat} {f:Addr} {ps:2#Str} {fn:Str} {e:Expr} {p:Pos} (hK:T.K=X.K) (F:FnOk X.prog X.w X.K X.mg X.base (dA X.prog X.w) k f fd ps (eJ T P n fi)) (hr:Room (k+2) X.A) (hb:Binds X.K fd ps []) (hg:Gl X "sorted") (hm:X.mg "sorted"=none)
  (hgf:Gl X fn) (hmf:X.mg fn=1#3#f) (he:PE 9#0 e (tE T P (call P n) E ie)) (hdf:(fn==("__debug__":Str))=false) (hs:notStar e=true):
  PE 9#0 (.Call (.Name "sorted" p) [e] [⟨1#(Str.ofString "key"), .Name fn p2,kpos⟩] pos) (tE T P (call P n) E (.sortK ie fi)):=
 PE.mono (BN (X:=X.af 8#29) F hr hb hg hm hgf hmf (iM he nB (by cases e<;>first|rfl|cases hs)) hdf (by cases e<;>first|rfl|cases hs) (by cases e<;>first|rfl|cases hs)) λσ H Q z903=>by
  let⟨env,st,as,G,s,er,h⟩:=z903;dsimp only[PI.E.run] at h;refine aB s er h λx st1 as1 G1 H1 u s1 er1 r1 p1 l1 h=> ?_;have rt:=aY s1 r1
  cases ex:res st1 x with
  |lst ys=>
   rw[ex] at rt h;let⟨a,us,rfl,hq,rr⟩:=rt;let⟨c,h⟩:=ab.iff h;exact⟨a,us,rfl,hK▸hq,by rw[←0#rr];exact c,HZ s1 rr h⟩
  |_=>rw[ex] at h;exact h.elim
end
section
variable {T:CT} {P:Pg} {cl:ax} {E:XS} {X:Cx} {pos:Pos}
def wj (T:CT) (P:Pg) (c:Nat):Prop:=∀k K',P.cl k=1#K'->K'.sup.contains c=true->PySem.W.exmOne T.K 3#(T.ca k) 3#(T.ca c)=1#true
end
structure Md where
 fa:Nat->Addr
 fd:Nat->FuncData
 ps:Nat->2#Str
structure MOk (D:Dt) (P:Pg) (T:CT) (M:Md) (mg:8#23):Prop where
 fn:∀x i,D.gl.lookup x=1#(.fn i)->mg x=1#3#(M.fa i)/\PySem.W.keepIn T.K 3#(M.fa i)=true/\Binds T.K (M.fd i) (M.ps i) []
 fr:∀x,D.fr.contains x=true->mg x=none
 ty:v8 T.K
 cls:COk T P
 cm:∀x c b,D.gl.lookup x=1#(.cls c b)->mg x=1#3#(T.ca c)/\T.xc c=false/\PySem.W.keepIn T.K 3#(T.ca c)=true/\PySem.W.makesIn T.K (T.ca c)=true/\∃K',P.cl c=1#K'/\
  (b=false->K'.init=none/\PySem.W.findIn T.K 3#(T.ca c) "__init__"=1#1#(.builtin "object.__init__"))/\
  (b=true->∃fi,K'.init=1#fi/\PySem.W.findIn T.K 3#(T.ca c) "__init__"=1#1#3#(M.fa fi)/\PySem.W.isFn T.K 3#(M.fa fi)=true/\Binds T.K (M.fd fi) (M.ps fi) [])
 er:∀x c,D.gl.lookup x=1#(.err c)->mg x=1#3#(T.ca c)/\T.xc c=true/\PySem.W.excIn T.K (T.ca c) Cz "ValueError.__new__"=true/\∃K',P.cl c=1#K'/\K'.init=none
 va:∀x v,D.gl.lookup x=1#(.val v)->∃u uv,mg x=1#uv/\RelV u uv/\∀as G,Rel T as G v u
 mt:∀m (c:Nat) k' fi,P.cl c=1#k'->k'.meths.lookup m=1#fi->k'.exc=false/\Meth T.K (T.ca c) m (M.fa fi)/\Binds T.K (M.fd fi) (M.ps fi) []
 fx:∀f,D.fx.contains f=true->∀(c:Nat) k,P.cl c=1#k->f∈k.flds->k.exc=false
 ex:∀y c,D.is.contains y=true->D.gl.lookup y=1#(.err c)->wj T P c
structure XOk (T:CT) (P':Program) (w:World) (mg:8#23) (base:Heap) (k:Nat) (g:Gm) (X:Cx):Prop where
 N:X.N=g.N
 nd:g.N.Nodup
 sc:X.env.scope=g.sc
 fn:∀x,g.fn x=true->X.fn x=true
 kd:g.sc.kind= .function
 fm:Framed X
 hx:cG X
 calm:g.cm=true->X.calm=true
 K:T.K=X.K
 prog:X.prog=P'
 w:X.w=w
 mg:X.mg=mg
 base:X.base=base
 room:g.cm=true->Room (k+3) X.A
 un:X.A.units+200<cLine
theorem zV {N:2#Str} {x:Str} {i:Nat} (h:N.idxOf? x=1#i):N[i]?=1#x:=by
 rw[List.idxOf?,List.findIdx?_eq_some_iff_getElem] at h;let⟨l,e,_⟩:=h;rw[aac l];exact congrArg some (by simpa using e)
section
variable {T:CT} {P:Pg} {D:Dt} {M:Md} {P':Program} {w:World} {mg:8#23} {base:Heap} {k:Nat} {g:Gm} {X:Cx}
set_option tactic.hygienic true in
theorem XOk.ix (h:8#35) {x:Str} {i:Nat} (e:g.ix x=1#i):X.N[i]?=1#x/\ye X.env.scope x/\(x==("__debug__":Str))=false/\(x==("__classdict__":Str))=false:=by
 unfold Gm.ix at e;split at e
 ·cases e
 ·rename_i z;rw[abk,not_or] at z;let⟨j,e1,e2⟩:=aap.mp e;split at e2
  ·rename_i v;cases e2;refine⟨h.N▸zV e1, ?_,by simpa using z.1,by simpa using z.2⟩;unfold HK at v;rw[h.sc];simp only[abk,abz] at v;exact or_assoc.mp v
  ·cases e2
set_option tactic.hygienic true in
theorem XOk.lx (h:8#35) {x:Str} {i:Nat} (e:g.lx x=1#i):X.N[i]?=1#x/\Loc X.env.scope x/\(X.fn x=true∨X.env.scope.names.lookup x=1#.local):=by
 unfold Gm.lx at e;let⟨j,e1,e2⟩:=aap.mp e;split at e2
 ·rename_i v;cases e2;rw[aag] at v;refine⟨h.N▸zV e1, ?_, ?_⟩
  ·have:=v.1;unfold xq at this;rw[h.sc];simp only[abk,abz] at this;exact this
  ·have:=v.2;rw[abk] at this;refine this.imp (h.fn x) λq=> ?_;rw[h.sc];simpa using q
 ·cases e2
theorem XOk.gb (h:8#35) {x:Str} (e:g.gb x=true):Gl X x/\(x==("__debug__":Str))=false/\x≠"__name__":=by
 unfold Gm.gb at e;rw[aag,aag] at e;refine⟨?_,by simpa using e.1.2,by simpa using e.2⟩;show X.env.scope.names.lookup x=1#.globalImplicit;rw[h.sc];simpa[Gm.gl] using e.1.1
set_option tactic.hygienic true in
theorem qg {x:Str} {v:Gv} (e:g.gv D x=1#v):g.gb x=true/\D.gl.lookup x=1#v:=by
 unfold Gm.gv at e;split at e
 ·rename_i z;exact⟨z,e⟩
 ·cases e
end
theorem aR {e:Expr} {env:PySem.Env} (h:notStar e=true):starEach (e::es) env=(false,eval e env)::starEach es env:=by
 cases e<;>first|rfl|cases h
theorem eg {env:PySem.Env}:∀{es:2#Expr},es.all notStar=true->(backTo pos (starEach es env)).any (·.1)=false
 |[],_=>rfl
 |e::es,h=>by
  rw[aaP,aag] at h;rw[aR h.1];show (false||(backTo pos (starEach es env)).any (·.1))=false;rw[eg h.2];rfl
theorem Br {b:Expr} (h:fb b=true):nS b:=by
 intro o i
 cases b<;>first|rfl|cases h
theorem sY {e:Expr} {env:PySem.Env} (h:eO e=true):∀x,foldedSetIterable e env x=pure x:=by
 intro x
 cases e<;>first|rfl|cases h
theorem vf {op:CmpOp} {b:Expr} (h:eO b=true):behindInMarks op b=false:=by
 cases b<;>first|rfl|cases h
theorem uF {e:Expr} {t:5#Expr} {line:Nat} {env:PySem.Env} (h:eC e=true):swapsWith e t line env=pure false:=by
 cases e<;>first|rfl|cases h
set_option tactic.hygienic true in
theorem eW {f:Str} {env:PySem.Env} {whole:Sem Value} (h:jt o=true):attributeBase o f env whole=whole:=by
 cases o<;>first|rfl|skip
 rename_i fn as ks pos
 cases fn<;>first|rfl|skip
 cases as<;>first|rfl|skip
 cases ks<;>first|rfl|cases h
theorem gk {α β:Type} {f:α->5#β} {a:α} {r:2#α} {l:2#β} (h:cL f (a::r)=1#l):∃b t,f a=1#b/\cL f r=1#t/\l=b::t:=by
 unfold cL at h;let⟨b,e1,e2⟩:=aap.mp h;let⟨t,e3,e4⟩:=aab.mp e2;exact⟨b,t,e1,e3,e4.symm⟩
theorem eq2 {α β γ:Type} {x:5#α} {y:α->5#β} {f:α->β->γ} {c:γ} (h:(x.bind λa=>(y a).map λb=>f a b)=1#c):∃a b,x=1#a/\y a=1#b/\c=f a b:=by
 let⟨a,e1,e2⟩:=aap.mp h;let⟨b,e3,e4⟩:=aab.mp e2;exact⟨a,b,e1,e3,e4.symm⟩
theorem eq3 {α β γ δ:Type} {x:5#α} {y:α->5#β} {z:α->β->5#γ} {f:α->β->γ->δ} {c:δ} (h:(x.bind λa=>(y a).bind λb=>(z a b).map λd=>f a b d)=1#c):∃a b d,x=1#a/\y a=1#b/\z a b=1#d/\c=f a b d:=by
 let⟨a,e1,e2⟩:=aap.mp h;let⟨b,d,e3,e4,e5⟩:=eq2 e2;exact⟨a,b,d,e1,e3,e4,e5⟩
set_option tactic.hygienic true in
theorem cc {α:Type} {b:Bool} {x:5#α} {c:α} (h:(if b=true then x else none)=1#c):b=true/\x=1#c:=by
 split at h
 ·rename_i z;exact⟨z,h⟩
 ·cases h
theorem bP {α:Type} {a:α} {p:Prop} (h:none=1#a):p:=nomatch h
theorem l6:∀{l:2#Str},jJ l=true->l.Nodup
 |[],_=>ach
 |x::r,h=>by
  unfold jJ at h;rw[aag] at h;rw[aa7];refine⟨?_,l6 h.2⟩;have:=h.1;simpa using this
theorem zf {S:Scope} (h:Aw S sc=true):BlockOkC S sc:=by
 unfold Aw at h;simp only[aag,abo,abk,Bool.not_eq_true',abz,beq_eq_false_iff_ne] at h;let⟨⟨⟨h1,h2⟩,h3⟩,h4⟩:=h;refine⟨h1,λy hy e=>(h2 y hy).elim (λz=>absurd e z) id,λy hy e=> ?_,λy hy e=>(h4 y hy).elim (λz=>absurd e z) id⟩
 rcases h3 y hy with (z|z)|z
 ·exact absurd e z
 ·exact .inl z
 ·exact .inr z
section
variable {T:CT} {P:Pg} {D:Dt} {M:Md} {P':Program} {w:World} {mg:8#23} {base:Heap} {k:Nat} {g:Gm} {X:Cx}
set_option tactic.hygienic true in
theorem XOk.block (h:8#35) {sc:Scope} (e:g.block sc=1#g'):X.calm=true/\BlockOkC X.env.scope sc/\(∀j∈iK g.N sc,sc.names.lookup (X.N.getD j Str.empty)=1#.free)/\
  ∀own C fp pn s H,8#12->XOk T P' w mg base k g' (cN X own (tJ sc) (iK g.N sc) sc C fp pn s H):=by
 unfold Gm.block at e;simp only at e;split at e
 ·rename_i z;simp only[aag] at z;let⟨⟨⟨z1,z2⟩,z3⟩,z4⟩:=z;cases e;refine⟨h.calm z4,h.sc▸zf z1,λj hj=> ?_,λown C fp pn s H hh=>⟨?_,l6 z2, ?_,λx q=>q, ?_,h.fm,hh,λ_=>h.calm z4,h.K,h.prog,h.w,h.mg,h.base,λ_=>h.room z4,h.un⟩⟩
  ·rw[h.N];simpa using (abo.mp z3) j hj
  ·show tJ sc++(iK g.N sc).map (λi=>X.N.getD i Str.empty)=_;rw[h.N]
  ·show relabel sc X.env=B7 g.sc sc;rw[←h.sc];rfl
  ·exact(zf z1).kind
 ·cases e
end
section
variable {T:CT} {X:Cx}
theorem JP (hK:T.K=X.K) {op:Operator} (h:BX op=true):aJ X (binaryOp op) (cR T (eY op)):=by
 cases op<;>first|(cases h;done)|exact Dd hK|exact D8|exact DQ|exact Dp|exact EC|exact C6
theorem BY (hK:T.K=X.K) (hu:X.A.units+9<cLine) {op:CmpOp}:aJ X (compareOp op) (cR T λx y st=>dB (bC op x y st)):=by
 have hu8:X.A.units+8<cLine:=by lia
 cases op
 ·exact G8 hK hu8
 ·exact EL hK hu8
 ·exact FY
 ·exact Fh
 ·exact EW
 ·exact GS
 ·exact E6
 ·exact xB
 ·exact F5 hK hu
 ·exact yL hK hu
set_option tactic.hygienic true in
theorem JT (hK:T.K=X.K) (hc:X.calm=true) {x:Str} {b:Bi} (h:BP x=1#b):(∃id,bootBuiltins x=1#(.builtin id)/\aC X (.builtin id) (jy T b))∨∃id,bootBuiltins x=1#(.type id)/\aC X (.type id) (jy T b):=by
 unfold BP at h;split at h
 ·rename_i z;subst z;cases h;exact .inl ⟨"len",PySem.boot_len,yS hK⟩
 split at h
 ·rename_i z;subst z;cases h;exact .inl ⟨"abs",PyProof.Rows.Boot.«abs»,xu⟩
 split at h
 ·rename_i z;subst z;cases h;exact .inr ⟨"int",PyProof.Rows.Boot.«int»,xU⟩
 split at h
 ·rename_i z;subst z;cases h;exact .inr ⟨"tuple",PyProof.Rows.boot_tuple,uj hK⟩
 split at h
 ·rename_i z;subst z;cases h;exact .inr ⟨"list",PyProof.Rows.Boot.«list»,wW hK⟩
 split at h
 ·rename_i z;subst z;cases h;exact .inl ⟨"all",PyProof.Rows.Boot.«all»,zk hK hc⟩
 split at h
 ·rename_i z;subst z;cases h;exact .inl ⟨"sum",PyProof.Rows.Boot.«sum»,yG hK hc⟩
 split at h
 ·rename_i z;subst z;cases h;exact .inl ⟨"any",PyProof.Rows.Boot.«any»,zN hK hc⟩
 cases h
end
def gX (T:CT) (P:Pg) (m:Nat) (X:Cx) (e:Expr) (ie:PI.E):Prop:=∀E:XS,PE 9#0 e (tE T P (call P m) E ie)/\(di e=true->PT 9#0 e (tT T P (call P m) E ie))
section
variable {T:CT} {P:Pg} {D:Dt} {M:Md} {P':Program} {w:World} {mg:8#23} {base:Heap} {k m:Nat} {g:Gm} {X:Cx}
theorem bh {e:Expr} (O:8#35) (h:∀E:XS,PE (X.af (L4.XE X E)) e (tE T P (call P m) E ie)) (he:∀whole,isTrue e X.env whole=(do let v←whole;standAt e.pos;holding [v] (truthy v))):gX T P m X e ie:=λE=>⟨h E,λ_=>Iw (X:=X.af 8#29) O.K (h E) he⟩
theorem jo {f:Expr->5#PI.E} (ih:∀e ie,f e=1#ie->gX T P m X e ie) (E:XS):∀{es:2#Expr} {ies:2#PI.E},es.all notStar=true->cL f es=1#ies->PA 9#0 es (eD T P (call P m) E ies)
 |[],_,_,h=>by
  cases h;exact ny
 |e::es,ies,hs,h=>by
  rw[aaP,aag] at hs;let⟨b,t,e1,e2,rfl⟩:=gk h;exact gU (ih e b e1 E).1 (jo ih E hs.2 e2) (aR hs.1)
theorem lV {f:Expr->5#PI.E} (ih:∀e ie,f e=1#ie->gX T P m X e ie) {op:BoolOp} (E:XS):∀{vs:2#Expr} {ie:PI.E},vs.all di=true->cBool op f vs=1#ie->
  PE 9#0 (.BoolOp op vs pos) (tE T P (call P m) E ie)/\PW 9#0 (.BoolOp op vs pos) (tT T P (call P m) E ie)
 |[],_,_,h=>by cases h
 |[a],ie,hn,h=>by
  rw[aaP,aag] at hn;have q:=ih a ie h E;refine⟨GC q.1, ?_⟩;cases op
  ·exact DI (q.2 hn.1)
  ·exact Fy (q.2 hn.1)
 |a::b::r,ie,hn,h=>by
  rw[aaP,aag] at hn;replace h:((f a).bind λx=>(cBool op f (b::r)).map λy=>bop op x y)=1#ie:=h;let⟨x,y,e1,e2,rfl⟩:=eq2 h;have q:=ih a x e1 E;have z:=lV ih (op:=op) (pos:=pos) E hn.2 e2;cases op
  ·exact⟨IS q.1 z.1,JL (q.2 hn.1) z.2⟩
  ·exact⟨Mq q.1 z.1,MU (q.2 hn.1) z.2⟩
set_option tactic.hygienic true in
theorem Bj (MO:MOk D P T M mg) (hc:8#18) (O:8#35) {f:Expr->5#PI.E} (ih:∀e ie,f e=1#ie->gX T P m X e ie)
  {x:Str} {p:Pos} {ie:PI.E} (zc:g.cm=true) (h:qr D g x es f=1#ie) (E:XS):PE 9#0 (.Call (.Name x p) es [] pos) (tE T P (call P m) E ie):=by
 unfold qr at h;split at h
 ·rename_i i z;let⟨a1,h⟩:=cc h;let⟨ies,e1,rfl⟩:=aab.mp h;let⟨z1,z2⟩:=qg z;let⟨g1,g2,g3⟩:=O.gb z1;let⟨f1,f2,f3⟩:=MO.fn x i z2;have F:=hc i;rw[←O.prog,←O.w,←O.mg,←O.base,O.K] at F;have A:=jo ih E a1 e1
  cases es with
  |nil=>
   cases e1;exact DF F ((O.room zc).mono 8#0) (O.K▸f3) O.hx g1 (O.mg▸f1) (O.K▸f2) g2
  |cons e es=>
   rw[aaP,aag] at a1;exact s_call F ((O.room zc).mono 8#0) (O.K▸f3) O.hx g1 (O.mg▸f1) (O.K▸f2) A g2 (aR a1.1) (eg a1.2)
 ·rename_i c ini z;let⟨a1,h⟩:=cc h;let⟨ies,e1,rfl⟩:=aab.mp h;rw[aag,abz] at a1;let⟨z1,z2⟩:=qg z;let⟨g1,g2,g3⟩:=O.gb z1;let⟨m1,m2,m3,m4,K',m5,m6,m7⟩:=MO.cm x c ini z2;have A:=jo ih E a1.1 e1
  cases es with
  |nil=>
   cases e1;let⟨i1,i2⟩:=m6 (by rw[a1.2];rfl);exact Eo (X:=X.af 8#29) m5 i1 rfl m2 (O.K▸m4) (O.K▸i2) (O.K▸m3) g1 (by show X.mg x=_;rw[O.mg];exact m1) g2
  |cons e es=>
   let⟨fi,i1,i2,i3,i4⟩:=m7 (by rw[a1.2];rfl);have a2:=a1.1;rw[aaP,aag] at a2;have F:=hc fi;rw[←O.prog,←O.w,←O.mg,←O.base,O.K] at F;exact Hl m5 i1 rfl m2 ⟨O.K▸m4,O.K▸i2,O.K▸i3,O.K▸m3⟩ F ((O.room zc).mono 8#0) (O.K▸i4) O.hx g1 (by rw[O.mg];exact m1) A g2 (aR a2.1) (eg a2.2)
 ·cases h
 ·cases h
 ·rename_i z;let⟨a1,h⟩:=cc h;let⟨b,ies,e1,e2,rfl⟩:=eq2 h;simp only[aag] at a1;let⟨⟨⟨⟨c1,c2⟩,c3⟩,c4⟩,c5⟩:=a1;let⟨g1,g2,g3⟩:=O.gb c1;have mn:=MO.fr x c2;have A:=jo ih E c3 e2
  cases es with
  |nil=>cases c4
  |cons e es=>
   rw[aaP,aag] at c3
   rcases JT (X:=X.af 8#29) O.K (O.calm c5) e1 with⟨id,b1,b2⟩|⟨id,b1,b2⟩
   ·exact Ju b2 g1 (by show X.mg x=none;rw[O.mg];exact mn) b1 A g3 g2 (aR c3.1) (eg c3.2)
   ·exact JK b2 g1 (by show X.mg x=none;rw[O.mg];exact mn) b1 A g3 g2 (aR c3.1) (eg c3.2)
set_option tactic.hygienic true in
theorem qw (O:8#35):∀(n:Nat) (e:Expr) (t:PI.T) (E:XS),kP g n e=1#t->PG 9#0 e (tG T t):=by
 intro n
 induction n with
 |zero=>intro e t E h;cases h
 |succ n ih=>
  intro e t E h
  cases e<;>first|exact bP h|skip
  ·rename_i x pos;let⟨i,e1,rfl⟩:=aab.mp (show (g.lx x).map PI.T.var=1#t from h);let⟨h1,h2,h3⟩:=O.lx e1;exact JG (X:=X.af 8#29) (by show X.N.Nodup;rw[O.N];exact O.nd) h1 h2 h3
  ·rename_i es k' pos;let⟨a0,h⟩:=cc (show (if (es.all notStar&&g.cm)=true then (cL (kP g n) es).map PI.T.tup else none)=1#t from h);rw[aag] at a0;let⟨a1,a2⟩:=a0;let⟨ts,e1,rfl⟩:=aab.mp h
   have all:∀{es:2#Expr} {ts:2#PI.T},es.all notStar=true->cL (kP g n) es=1#ts->gW 9#0 es (yd T ts)/\0#(assignEach es X.env)=0#ts/\(assignEach es X.env).findIdx? (·.1)=none:=by
    intro es
    induction es with
    |nil=>
     intro ts _ h;cases h;exact⟨F4,rfl,rfl⟩
    |cons e es ihs=>
     intro ts hs h;rw[aaP,aag] at hs;let⟨b,r,e1,e2,rfl⟩:=gk h;let⟨q1,q2,q3⟩:=ihs hs.2 e2
     have z:assignEach (e::es) X.env=(false,assign e X.env)::assignEach es X.env:=by
      have:=hs.1
      cases e<;>first|rfl|cases this
     refine⟨DY (ih e b E e1) q1 (by show (assignEach (e::es) X.env).map (·.2)=_;rw[z];rfl),by rw[z];simp[q2], ?_⟩;rw[z,List.findIdx?_cons];simp[q3]
   let⟨q1,q2,q3⟩:=all a1 e1;exact JB (X:=X.af 8#29) O.K (O.calm a2) q1 rfl q2 q3
theorem lB {env:PySem.Env}:∀{es:2#Expr},es.all notStar=true->(backTo pos (starEach es env)).all (λx=> !x.1)=true
 |[],_=>rfl
 |e::es,h=>by
  rw[aaP,aag] at h;rw[aR h.1];show (!false&&(backTo pos (starEach es env)).all (λx=> !x.1))=true;rw[lB h.2];rfl
theorem qX {env:PySem.Env} {es:2#Expr} (h:es.all notStar=true) (hl:0#es<30):((backTo pos (starEach es env)).all (λx=> !x.1)&&(backToKw pos (keywordEach [] env)).all (λx=>x.1.isSome)&&decide (0#es+0#([]:2#Keyword)+(if ([]:2#Keyword).isEmpty then 0 else 1)<30))=true:=by
 rw[lB h];show (true&&true&&decide (0#es+0+0<30))=true;rw[aaH 8#0];rfl
theorem uZ {env:PySem.Env} {es:2#Expr} (h:es.all notStar=true) (hl:0#es<30):methodCallForm (0#es+0#([]:2#Keyword)) (backTo pos (starEach es env)) (backToKw pos (keywordEach [] env))=true:=by
 unfold methodCallForm;rw[lB h];show (true&&true&&decide (0#es+0+0<30))=true;rw[aaH 8#0];rfl
theorem nQ {α β:Type} {f:α->5#β}:∀{l:2#α} {r:2#β},cL f l=1#r->0#r=0#l
 |[],_,h=>by cases h;rfl
 |a::l,r,h=>by
  let⟨b,t,_,e2,rfl⟩:=gk h;rw[aar,nQ e2,aar]
set_option tactic.hygienic true in
theorem IJ (hK:T.K=X.K) {m:Str} {n:Nat} {b:Bm} (h:Ae m n=1#b):∃id,bT b=false/\Slot "list" m id/\typeOf (.builtin id)=pure (.type "method_descriptor")/\rF X id (zM T b):=by
 unfold Ae at h;split at h
 ·rename_i z;subst z;split at h<;>cases h;exact⟨"list.append",rfl,PySem.F.slot_list_append,PySem.F.type_list_append,AV⟩
 split at h
 ·rename_i z;subst z;split at h<;>cases h;exact⟨"list.extend",rfl,PySem.F.slot_list_extend,PySem.F.type_list_extend,BG⟩
 cases h
theorem AO (MO:MOk D P T M mg) (hc:8#18) (O:8#35) {f:Expr->5#PI.E} (ih:∀e ie,f e=1#ie->gX T P m X e ie)
  {x:Str} {ie:PI.E} (hz:(g.cm||ke x)=true) (h:qB x ap pos o es f=1#ie) (E:XS):PE 9#0 (.Call (.Attribute o x ap) es [] pos) (tE T P (call P m) E ie):=by
 unfold qB at h;let⟨c,h⟩:=cc h;simp only[aag,ac4] at c;let⟨⟨⟨c1,c2⟩,c3⟩,c4⟩:=c;let⟨io,e1,h⟩:=aap.mp h;let⟨ies,e2,h⟩:=aap.mp h;have ho:=(ih o io e1 E).1;have A:=jo ih E c2 e2
 have hu:X.A.units+1<cLine:=by have:=O.un;lia
 have tr:∀{e:Expr},notStar e=true->backTo pos (starEach [e] X.env)=[(false,eval e X.env)]:=λ{e} he=>by
  rw[aR he];rfl
 by_cases zb:ke x=true
 ·rw[if_pos zb] at h
  by_cases zg:x="get"
  ·subst zg;rw[if_pos rfl] at h
   match ies,h with
   |[k1],h=>
    cases h
    match es,e2,c2,c4 with
    |[e],e2,c2,c4=>
     let⟨b,t,e3,_,e5⟩:=gk e2;cases e5;have c2':=c2;rw[aaP,aag] at c2';exact FI (X:=X.af 8#29) hu ho (ih e k1 e3 E).1 ⟨eW c1,qX c2 c4,c3,tr c2'.1⟩
    |[],e2,_,_=>cases e2
    |_::_::_,e2,_,_=>have:=nQ e2;simp at this
   |[k1,k2],h=>
    cases h
    match es,e2,c2,c4 with
    |[e,e'],e2,c2,c4=>
     let⟨b,t,e3,e4,e5⟩:=gk e2;cases e5;let⟨b,t,e6,_,e7⟩:=gk e4;cases e7;have c2':=c2;rw[aaP,aaP,aag,aag] at c2';refine HD (X:=X.af 8#29) hu ho (ih e k1 e3 E).1 (ih e' k2 e6 E).1 ⟨eW c1,qX c2 c4,c3, ?_⟩;show backTo pos (starEach [e,e'] X.env)=_;rw[aR c2'.1,aR c2'.2.1];rfl
    |[],e2,_,_=>cases e2
    |[_],e2,_,_=>have:=nQ e2;simp at this
    |_::_::_::_,e2,_,_=>have:=nQ e2;simp at this
   |[],h=>exact bP h
   |_::_::_::_,h=>exact bP h
  ·rw[if_neg zg] at h;let⟨b,e3,rfl⟩:=aab.mp h;let⟨id,b1,b2,b3,b4⟩:=IJ (X:=X.af 8#29) O.K e3
   cases es with
   |nil=>
    cases e2;exact IX (X:=X.af 8#29) b1 O.K b2 b3 b4 ho (eW c1) c3
   |cons e es=>
    have c2':=c2;rw[aaP,aag] at c2';exact Mp (X:=X.af 8#29) b1 O.K b2 b3 b4 ho A (eW c1) (qX c2 c4) c3 (aR c2'.1) (eg c2'.2)
 ·rw[if_neg zb] at h;cases h
  have zc:g.cm=true:=by
   rcases abk _ _|>.mp hz with z|z
   ·exact z
   ·exact absurd z zb
  have hM:wB T P X k m x:=λc k' fi q1 q2=>by
   let⟨m1,m2,m3⟩:=MO.mt x c k' fi q1 q2;have F:=hc fi;rw[←O.prog,←O.w,←O.mg,←O.base,O.K] at F;exact⟨m1,_,_,_,O.K▸m2,F,O.K▸m3⟩
  cases es with
  |nil=>
   cases e2;exact CS O.K MO.cls hM ((O.room zc).mono 8#0) O.hx ho (vq (eW c1) (uZ c2 c4) c3)
  |cons e es=>
   have c2':=c2;rw[aaP,aag] at c2';exact HC O.K MO.cls hM ((O.room zc).mono 8#0) O.hx ho A (aR c2'.1) (eg c2'.2) (vq (eW c1) (uZ c2 c4) c3)
end
section
variable {T:CT} {P:Pg} {D:Dt} {M:Md} {P':Program} {w:World} {mg:8#23} {base:Heap} {k m:Nat}
set_option tactic.hygienic true in
theorem HN (MO:MOk D P T M mg) {g:Gm} {X:Cx} (O:8#35) {f:Expr->5#PI.E} (ih:∀e ie,f e=1#ie->gX T P m X e ie) {x:Str} {p:Pos} {ie:PI.E} (zx:nI x=true) (h:BZ D g x f es=1#ie) (E:XS):
  PE 9#0 (.Call (.Name x p) es [] pos) (tE T P (call P m) E ie):=by
 unfold BZ at h;split at h
 ·rename_i a y p2;let⟨c,h⟩:=cc h;simp only[aag] at c;let⟨⟨⟨⟨c1,c2⟩,c3⟩,c4⟩,c5⟩:=c;let⟨ty,ia,e1,e2,rfl⟩:=eq2 h;exact He (X:=X.af 8#29) O.K (O.K▸MO.ty) (by simpa[nI] using zx) e1 (ih a ia e2 E).1 (O.gb c2).1 (by show X.mg x=none;rw[O.mg];exact MO.fr x c3) (O.gb c4).1 (by show X.mg y=none;rw[O.mg];exact MO.fr y c5) c1
 ·cases h
set_option tactic.hygienic true in
theorem Au (MO:MOk D P T M mg) (hc:8#18) {g:Gm} {X:Cx} (O:8#35) {f:Expr->5#PI.E} (ih:∀e ie,f e=1#ie->gX T P m X e ie) {x:Str} {p:Pos} {ks:2#Keyword} {ie:PI.E} (h:xm D g x f es ks=1#ie) (E:XS):
  PE 9#0 (.Call (.Name x p) es ks pos) (tE T P (call P m) E ie):=by
 unfold xm at h;split at h
 ·rename_i a kn y p2 kpos;let⟨c,h9⟩:=cc h;clear h;simp only[aag] at c;let⟨⟨⟨⟨⟨c1,c2⟩,c3⟩,c4⟩,c5⟩,c6⟩:=c
  have ex:x="sorted":=by simpa[isSort] using c1
  have ek:kn="key":=by simpa using c2
  subst ex ek
  cases z:g.gv D y with
  |none=>rw[z] at h9;cases h9
  |some v=>
   rw[z] at h9
   cases v with
   |fn i=>
    let⟨ia,e1,rfl⟩:=aab.mp (show (f a).map (λa=>PI.E.sortK a i)=1#ie from h9);let⟨z1,z2⟩:=qg z;let⟨g1,g2,g3⟩:=O.gb z1;let⟨f1,f2,f3⟩:=MO.fn y i z2;have F:=hc i;rw[←O.prog,←O.w,←O.mg,←O.base,O.K] at F;exact CY O.K F ((O.room c6).mono 8#0) (O.K▸f3) (O.gb c4).1 (by rw[O.mg];exact MO.fr _ c5) g1 (O.mg▸f1) (ih a ia e1 E).1 g2 c3
   |cls _ _=>cases h9
   |err _=>cases h9
   |val _=>cases h9
 ·cases h
theorem mD {g:Gm} {n:Nat} {gens:2#Comprehension} (h:cE D (n+1) g (.ListComp elt gens sc pos)=1#ie):∃tg iter ifs g' q t c ee,gens=[⟨tg,iter,ifs,0⟩]/\eO iter=true/\g.block sc=1#g'/\cQ D n g iter=1#q/\uS q tg=true/\kP g' n tg=1#t/\cE D n g' elt=1#ee/\
  BQ (cE D n g') ifs=1#c/\ie= .comp 0#(tJ sc) (iK g.N sc) t q c ee:=by
 let⟨c,o,h⟩:=aap.mp (show ((rY gens).bind λc=>_)=1#ie from h)
 obtain rfl:gens=[c]:=by
  unfold rY at o;split at o<;>cases o;rfl
 let⟨tg,iter,ifs,as⟩:=c;let⟨z,h⟩:=cc (show (if (as==0&&eO iter)=true then _ else none)=1#ie from h);rw[aag,abz] at z;let⟨rfl,z⟩:=z;let⟨g',b1,h⟩:=aap.mp h;let⟨q,b2,h⟩:=aap.mp h;let⟨t,b3,h⟩:=aap.mp h;let⟨b0,b3⟩:=cc b3;let⟨ee,b4,h⟩:=aap.mp h;let⟨c,b5,rfl⟩:=aab.mp h;exact⟨tg,iter,ifs,g',q,t,c,ee,rfl,z,b1,b2,b0,b3,b4,b5,rfl⟩
theorem vh {X:Cx} {f:Expr->5#PI.E} (ih:∀e ie,f e=1#ie->gX T P m X e ie) {c:5#PI.E} (h:BQ f ifs=1#c) (E:XS):lg 9#0 ifs (tO T P (call P m) E c):=by
 cases ifs with
 |nil=>
  cases h;exact FK
 |cons f' r=>cases r with
  |cons _ _=>exact bP h
  |nil=>
   let⟨c1,b6⟩:=cc (show (if di f'=true then (f f').map some else none)=1#c from h);let⟨x,e1,rfl⟩:=aab.mp b6;exact F3 ((ih f' x e1 E).2 c1)
theorem Bk {g:Gm} {X:Cx} (O:8#35) {n:Nat} (ihE:∀(g:Gm) (X:Cx) (e:Expr) (ie:PI.E),XOk T P' w mg base k g X->cE D n g e=1#ie->gX T P m X e ie)
  (ihQ:∀(g:Gm) (X:Cx) (e:Expr) (q:PI.Q),XOk T P' w mg base k g X->cQ D n g e=1#q->∀(E:XS) (tg:Expr),uS q tg=true->L2.PI 9#0 tg e (tQ T P (call P m) E q))
  {gens:2#Comprehension} (h:cE D (n+1) g (.ListComp elt gens sc pos)=1#ie) (E:XS):PE 9#0 (.ListComp elt gens sc pos) (tE T P (call P m) E ie):=by
 let⟨tg,iter,ifs,g',q,t,c,ee,rfl,z,b1,b2,b0,b3,b4,b5,rfl⟩:=mD h;let⟨k0,k1,k2,k3⟩:=O.block b1;exact EN O.fm O.hx k1 k0 k2 (ihQ g X iter q O b2 E tg b0) (λσ own C fp pn s H hh=>qw (k3 own C fp pn s H hh) n tg t _ b3) (λσ own C fp pn s H hh=>vh (λe ie=>ihE g' _ e ie (k3 own C fp pn s H hh)) b5 _) (λσ own C fp pn s H hh=>(ihE g' _ elt ee (k3 own C fp pn s H hh) b4 _).1) (sY z)
set_option tactic.hygienic true in
theorem B9 (MO:MOk D P T M mg) (hc:8#18):∀n:Nat,
  (∀(g:Gm) (X:Cx) (e:Expr) (ie:PI.E),XOk T P' w mg base k g X->cE D n g e=1#ie->gX T P m X e ie)/\
  (∀(g:Gm) (X:Cx) (e:Expr) (q:PI.Q),XOk T P' w mg base k g X->cQ D n g e=1#q->∀(E:XS) (tg:Expr),uS q tg=true->L2.PI 9#0 tg e (tQ T P (call P m) E q)):=by
 intro n
 induction n with
 |zero=>exact⟨λg X e ie _ h=>(by cases h),λg X e q _ h=>(by cases h)⟩
 |succ n' ih=>
  let⟨ihE,ihQ⟩:=ih
  have stepE:∀(g:Gm) (X:Cx) (e:Expr) (ie:PI.E),XOk T P' w mg base k g X->cE D (n'+1) g e=1#ie->gX T P m X e ie:=by
   intro g X e ie O h;have ihs:∀e ie,cE D n' g e=1#ie->gX T P m X e ie:=λe ie q=>ihE g X e ie O q
   cases e with
   |Constant c j pos=>
    cases c<;>first|exact bP h|skip
    ·cases h;exact bh O (λE=>IT) λ_=>rfl
    ·cases h;exact bh O (λE=>Lv) λ_=>rfl
    ·cases h;exact bh O (λE=>JA) λ_=>rfl
    ·cases h;exact bh O (λE=>Ip) λ_=>rfl
   |Name x pos=>
    replace h:(match g.ix x with|some i=>1#(PI.E.var i)|none=>Cj D g x)=1#ie:=h
    cases e1:g.ix x with
    |some i=>
     rw[e1] at h;cases h;let⟨h1,h2,h3,h4⟩:=O.ix e1;exact bh O (λE=>II (X:=X.af 8#29) h1 h2 h3 h4) λ_=>rfl
    |none=>
     rw[e1] at h;replace h:Cj D g x=1#ie:=h;unfold Cj at h;split at h
     ·rename_i v z;cases h;let⟨z1,z2⟩:=qg z;let⟨g1,g2,g3⟩:=O.gb z1;let⟨u,uv,m1,m2,m3⟩:=MO.va x v z2;exact bh O (λE=>FA (X:=X.af 8#29) g1 (by show X.mg x=_;rw[O.mg];exact m1) m2 m3 g2) λ_=>rfl
     ·cases h
   |Dict ks vs pos=>
    cases ks with
    |cons _ _=>exact bP h
    |nil=>cases vs with
     |cons _ _=>exact bP h
     |nil=>
      cases h;exact bh O (λE=>EO) λ_=>rfl
   |BinOp a op b pos=>
    let⟨z,h⟩:=cc (show (if BX op=true then (cE D n' g a).bind λa=>(cE D n' g b).map λb=>PI.E.bin op a b else none)=1#ie from h);let⟨x,y,e1,e2,rfl⟩:=eq2 h;exact bh O (λE=>Ld (JP (X:=X.af 8#29) O.K z) (ihs a x e1 E).1 (ihs b y e2 E).1) λ_=>rfl
   |UnaryOp op a pos=>
    let⟨z,h⟩:=cc (show (if di a=true then (cE D n' g a).bind λa=>cUn op a else none)=1#ie from h);let⟨x,e1,e2⟩:=aap.mp h
    cases op<;>first|(cases e2;done)|skip
    cases e2;exact λE=>⟨J7 (ihs a x e1 E).1,λ_=>J5 ((ihs a x e1 E).2 z)⟩
   |BoolOp op vs pos=>
    let⟨z,h⟩:=cc (show (if vs.all di=true then cBool op (cE D n' g) vs else none)=1#ie from h);exact λE=>⟨(lV ihs E z h).1,λ_=>(lV ihs E z h).2.pt⟩
   |Compare a ops bs pos=>
    have hu:X.A.units+9<cLine:=by have:=O.un;lia
    match ops,bs,h with
    |[op],[b],h=>
     let⟨z,h⟩:=cc (show (if eO b=true then (cE D n' g a).bind λa=>(cE D n' g b).map λb=>PI.E.cmp op a b else none)=1#ie from h);let⟨x,y,e1,e2,rfl⟩:=eq2 h;exact λE=>⟨Mh (BY (X:=X.af 8#29) O.K hu) (vf z) (ihs a x e1 E).1 (ihs b y e2 E).1,λ_=>IV (BY (X:=X.af 8#29) O.K hu) (vf z) (ihs a x e1 E).1 (ihs b y e2 E).1⟩
    |[_,_],[_,_],h=>exact bP h
    |[],_,h=>exact bP h
    |[_],[],h=>exact bP h
    |[_],_::_::_,h=>exact bP h
    |[_,_],[],h=>exact bP h
    |[_,_],[_],h=>exact bP h
    |[_,_],_::_::_::_,h=>exact bP h
    |_::_::_::_,_,h=>exact bP h
   |IfExp c a b pos=>exact bP h
   |Tuple es j pos=>
    let⟨z,h⟩:=cc (show (if es.all notStar=true then (cL (cE D n' g) es).map PI.E.tup else none)=1#ie from h);let⟨ies,e1,rfl⟩:=aab.mp h;exact bh O (λE=>Ji (jo ihs E z e1)) λ_=>rfl
   |List es pos=>
    let⟨z,h⟩:=cc (show (if es.all notStar=true then (cL (cE D n' g) es).map PI.E.lst else none)=1#ie from h);let⟨ies,e1,rfl⟩:=aab.mp h;exact bh O (λE=>JZ (jo ihs E z e1)) λ_=>rfl
   |Attribute o f pos=>
    let⟨z,h⟩:=cc (show (if (jt o&&D.fx.contains f)=true then (cE D n' g o).map λo=>PI.E.fld o f else none)=1#ie from h);let⟨x,e1,rfl⟩:=aab.mp h;rw[aag] at z;exact bh O (λE=>Jo (X:=X.af 8#29) O.K MO.cls (ihs o x e1 E).1 (eW z.1) (MO.fx f z.2)) λ_=>rfl
   |Subscript o i pos=>
    refine bh O (λE=> ?_) λ_=>rfl;replace h:FZ (cE D n' g) o i=1#ie:=h
    have plain:fb i=true->((cE D n' g o).bind λo=>(cE D n' g i).map λi=>PI.E.idx o i)=1#ie->PE 9#0 (.Subscript o i pos) (tE T P (call P m) E ie):=λz h=>by
     let⟨x,y,e1,e2,rfl⟩:=eq2 h;exact Kb (X:=X.af 8#29) O.K (by have:=O.un;show X.A.units+1<cLine;lia) (ihs o x e1 E).1 (ihs i y e2 E).1 (Br z)
    cases i with
    |Slice lo hi st p2=>cases st with
     |some _=>exact bP h
     |none=>
      let⟨x,e1,h⟩:=aap.mp (show ((cE D n' g o).bind λo=>_)=1#ie from h)
      cases lo with
      |none=>cases hi with
       |none=>
        cases h;exact qt (X:=X.af 8#29) O.K (ihs o x e1 E).1 wG wG
       |some b=>
        let⟨y,e2,rfl⟩:=aab.mp h;exact qt (X:=X.af 8#29) O.K (ihs o x e1 E).1 wG (wy (ihs b y e2 E).1)
      |some a=>cases hi with
       |none=>
        let⟨y,e2,rfl⟩:=aab.mp h;exact qt (X:=X.af 8#29) O.K (ihs o x e1 E).1 (wy (ihs a y e2 E).1) wG
       |some b=>
        let⟨y,z,e2,e3,rfl⟩:=eq2 h;exact qt (X:=X.af 8#29) O.K (ihs o x e1 E).1 (wy (ihs a y e2 E).1) (wy (ihs b z e3 E).1)
    |_=>exact plain rfl h
   |Call f es ks pos=>
    cases f<;>first|exact bP h|skip
    ·rename_i o x ap
     cases ks with
     |cons _ _=>exact bP h
     |nil=>
      let⟨hz,h⟩:=cc (show (if (g.cm||ke x)=true then qB x ap pos o es (cE D n' g) else none)=1#ie from h);exact bh O (λE=>AO MO hc O ihs hz h E) λ_=>rfl
    rename_i x p
    cases ks with
    |cons kw ks=>exact bh O (λE=>Au MO hc O ihs h E) λ_=>rfl
    |nil=>
     replace h:(if nI x=true then BZ D g x (cE D n' g) es else if tD x=true then Ck D g x (cE D n' g) es else if g.cm=true then qr D g x es (cE D n' g) else none)=1#ie:=h;split at h
     ·rename_i zx;exact bh O (λE=>HN MO O ihs zx h E) λ_=>rfl
     ·split at h
      ·rename_i zx
       have ex:x="dict":=by simpa[tD] using zx
       subst ex
       cases es with
       |nil=>exact bP h
       |cons a r=>cases r with
        |cons _ _=>exact bP h
        |nil=>
         let⟨c,h⟩:=cc (show (if (notStar a&&g.gb "dict"&&D.fr.contains "dict"&&g.cm)=true then (cE D n' g a).map PI.E.dOf else none)=1#ie from h);simp only[aag] at c;let⟨⟨⟨c1,c2⟩,c3⟩,c4⟩:=c;let⟨y,e1,rfl⟩:=aab.mp h;exact bh O (λE=>J6 (X:=X.af 8#29) (O.calm c4) (by have:=O.un;show X.A.units+2<cLine;lia) (O.gb c2).1 (by show X.mg "dict"=none;rw[O.mg];exact MO.fr _ c3) (ihs a y e1 E).1 c1) λ_=>rfl
      ·let⟨zc,h⟩:=cc h;exact bh O (λE=>Bj MO hc O ihs zc h E) λ_=>rfl
   |ListComp elt gens sc pos=>
    exact bh O (λE=>Bk O ihE ihQ h E) λ_=>rfl
   |_=>exact bP h
  refine⟨stepE,λg X e q O h E tg ht=> ?_⟩;have ihs:∀e ie,cE D n' g e=1#ie->gX T P m X e ie:=λe ie q=>ihE g X e ie O q
  have val:(cE D n' g e).map PI.Q.val=1#q->L2.PI 9#0 tg e (tQ T P (call P m) E q):=λh=>by
   let⟨x,e1,rfl⟩:=aab.mp h;exact IB (X:=X.af 8#29) O.K (ihs e x e1 E).1
  cases e with
  |Call f es ks pos=>
   cases f<;>first|exact val h|skip
   rename_i x p
   cases ks with
   |cons _ _=>exact val h
   |nil=>
    replace h:(if kL x=true then EZ D g x (cE D n' g) es else if ql x=true then Fo D g x (cE D n' g) es else if qv x=true then GK D g x (cE D n' g) es else (cE D n' g (.Call (.Name x p) es [] pos)).map PI.Q.val)=1#q:=h
    by_cases zx:kL x=true
    ·have ex:x="range":=by simpa[kL] using zx
     rw[if_pos zx] at h;subst ex
     cases es with
     |nil=>exact bP h
     |cons a r=>cases r with
      |nil=>
       let⟨c,h⟩:=cc h;simp only[aag] at c;let⟨⟨c1,c2⟩,c3⟩:=c;let⟨x,e1,rfl⟩:=aab.mp h;exact Gj (X:=X.af 8#29) (O.gb c1).1 (by show X.mg "range"=none;rw[O.mg];exact MO.fr _ c2) (gU (ihs a x e1 E).1 ny (aR c3)) (aR c3)
      |cons b r=>cases r with
       |cons _ _=>exact bP h
       |nil=>
        let⟨c,h⟩:=cc h;simp only[aag] at c;let⟨⟨⟨c1,c2⟩,c3⟩,c4⟩:=c;let⟨x,y,e1,e2,rfl⟩:=eq2 h;refine Fs (X:=X.af 8#29) (O.gb c1).1 (by show X.mg "range"=none;rw[O.mg];exact MO.fr _ c2) (gU (ihs a x e1 E).1 (gU (ihs b y e2 E).1 ny (aR c4)) (aR c3)) ?_ (aR c4);show starEach [a,b] X.env=_;rw[aR c3,aR c4];rfl
    rw[if_neg zx] at h
    by_cases ze:ql x=true
    ·have ex:x="enumerate":=by simpa[ql] using ze
     rw[if_pos ze] at h;subst ex
     cases es with
     |nil=>exact bP h
     |cons a r=>cases r with
      |cons _ _=>exact bP h
      |nil=>
       let⟨c,h⟩:=cc h;simp only[aag] at c;let⟨⟨c1,c2⟩,c3⟩:=c;let⟨x,e1,rfl⟩:=aab.mp h
       cases tg<;>first|(cases ht;done)|skip
       exact Ja (X:=X.af 8#29) O.K (O.gb c1).1 (by show X.mg "enumerate"=none;rw[O.mg];exact MO.fr _ c2) (gU (ihs a x e1 E).1 ny (aR c3)) (aR c3)
    rw[if_neg ze] at h
    by_cases zz:qv x=true
    ·have ex:x="zip":=by simpa[qv] using zz
     rw[if_pos zz] at h;subst ex
     cases es with
     |nil=>exact bP h
     |cons a r=>cases r with
      |nil=>exact bP h
      |cons b r=>cases r with
       |cons _ _=>exact bP h
       |nil=>
        let⟨c,h⟩:=cc h;simp only[aag] at c;let⟨⟨⟨c1,c2⟩,c3⟩,c4⟩:=c;let⟨x,y,e1,e2,rfl⟩:=eq2 h
        cases tg<;>first|(cases ht;done)|skip
        refine JU (X:=X.af 8#29) O.K (O.gb c1).1 (by show X.mg "zip"=none;rw[O.mg];exact MO.fr _ c2) (gU (ihs a x e1 E).1 (gU (ihs b y e2 E).1 ny (aR c4)) (aR c3)) ?_ (aR c4);show starEach [a,b] X.env=_;rw[aR c3,aR c4];rfl
    rw[if_neg zz] at h;exact val h
  |_=>exact val h
theorem BC {g:Gm} {X:Cx} (O:8#35) {gens:2#Comprehension} {sc:Scope} {cpos py:Pos} {x:Str} {line:Nat}:
  swapsWith (.ListComp elt gens sc cpos) 1#(.Name x py) line X.env=pure (g.sc.kind== .function&&g.sc.names.lookup x==1#.local&&py.line==cpos.line&& !(sc.names.any λ(n,k)=>n==x&&(k== .local||k== .cell))):=by
 have b:X.env.blockKind= .function:=by
  unfold Env.blockKind;rw[O.sc,O.kd];rfl
 show pure (X.env.blockKind== .function&&X.env.scope.names.lookup x==1#.local&&py.line==cpos.line&& !(sc.names.any λ(n,k)=>n==x&&(k== .local||k== .cell)))=_;rw[b,O.sc,O.kd]
set_option tactic.hygienic true in
theorem Io (MO:MOk D P T M mg) (hc:8#18):∀n:Nat,
  (∀(g:Gm) (X:Cx) (s:Stmt) (is:PI.S),XOk T P' w mg base k g X->cS D n g s=1#is->∀E:XS,PS 9#0 s (tS T P (call P m) E is))/\
  (∀(g:Gm) (X:Cx) (ss:2#Stmt) (iss:2#PI.S),XOk T P' w mg base k g X->iS D n g ss=1#iss->∀E:XS,dI 9#0 ss (ml T P (call P m) E iss)):=by
 intro n
 induction n with
 |zero=>exact⟨λg X s is _ h=>(by cases h),λg X ss iss _ h=>(by cases h)⟩
 |succ n ih=>
  let⟨ihS,ihSs⟩:=ih;let⟨sE,sQ⟩:=B9 MO hc n;refine⟨λg X s is O h E=> ?_,λg X ss iss O h E=> ?_⟩
  ·have ihs:∀e ie,cE D n g e=1#ie->gX T P m X e ie:=λe ie q=>sE g X e ie O q
   cases s with
   |Return v pos=>cases v with
    |none=>
     cases h;exact GL
    |some e=>
     let⟨x,e1,rfl⟩:=aab.mp (show (cE D n g e).map PI.S.ret=1#is from h);exact Ir (ihs e x e1 E).1
   |Expr e pos=>
    let⟨z,h⟩:=cc (show (if eC e=true then (cE D n g e).map PI.S.expr else none)=1#is from h);let⟨x,e1,rfl⟩:=aab.mp h;exact GJ (ihs e x e1 E).1 (uF z)
   |If c a b pos=>
    let⟨z,h⟩:=cc (show (if di c=true then (cE D n g c).bind λc=>(iS D n g a).bind λa=>(iS D n g b).map λb=>PI.S.ife c a b else none)=1#is from h);let⟨x,y,y',e1,e2,e3,rfl⟩:=eq3 h;exact Lc ((ihs c x e1 E).2 z) (ihSs g X a y O e2 E) (ihSs g X b y' O e3 E)
   |For tg it b els pos=>cases els with
    |cons _ _=>exact bP h
    |nil=>
     let⟨z,h⟩:=cc (show (if (eO it&&g.cm)=true then (cQ D n g it).bind λq=>(if uS q tg=true then kP g n tg else none).bind λt=>(iS D n g b).map λb=>PI.S.for t q b else none)=1#is from h);let⟨q,t,y,e1,e2,e3,rfl⟩:=eq3 h;let⟨e0,e2⟩:=cc e2;rw[aag] at z;exact IG O.fm O.hx (O.calm z.2) (sQ g X it q O e1 E tg e0) (qw O n tg t E e2) (ihSs g X b y O e3 E) (sY z.1)
   |Assign tgs e pos=>cases tgs with
    |nil=>exact bP h
    |cons t r=>cases r with
     |cons _ _=>cases t<;>cases h
     |nil=>
      cases t<;>first|exact bP h|skip
      ·rename_i o f tp;let⟨z,h⟩:=cc (show (if (eC e&&D.fx.contains f)=true then (cE D n g o).bind λo=>(cE D n g e).map λe=>PI.S.dF o f (Fw (D.ff.contains f) e) else none)=1#is from h);let⟨x,y,e1,e2,rfl⟩:=eq2 h;rw[aag] at z
       have hz:PE 9#0 e (tE T P (call P m) E (Fw (D.ff.contains f) y)):=by
        cases D.ff.contains f with
        |true=>exact Lb (ihs e y e2 E).1
        |false=>exact(ihs e y e2 E).1
       exact Fj (X:=X.af 8#29) O.K MO.cls (MO.fx f z.2) (ihs o x e1 E).1 hz (uF z.1)
      ·rename_i o i tp;let⟨z,h⟩:=cc (show (if (fb i&&eC e)=true then (cE D n g o).bind λo=>(cE D n g i).bind λi=>(cE D n g e).map λe=>PI.S.fQ o i e else none)=1#is from h);let⟨x,y,y',e1,e2,e3,rfl⟩:=eq3 h;rw[aag] at z;exact GN (X:=X.af 8#29) (by have:=O.un;show X.A.units+1<cLine;lia) (ihs o x e1 E).1 (ihs i y e2 E).1 (ihs e y' e3 E).1 z.1 z.2
      ·rename_i x py;let⟨i,ie,e1,e2,rfl⟩:=eq2 (show ((g.lx x).bind λi=>(cE D n g e).map λe=>PI.S.set 4#i e)=1#is from h);let⟨h1,h2,h3⟩:=O.lx e1
       have nd:X.N.Nodup:=by rw[O.N];exact O.nd
       have std:swapsWith e 1#(.Name x py) pos.line X.env=pure false->PS 9#0 (.Assign [.Name x py] e pos) (tS T P (call P m) E (.set 4#i ie)):=λq=>JX (X:=X.af 8#29) nd h1 h2 (ihs e ie e2 E).1 q h3
       cases e<;>first|exact std rfl|(cases n<;>cases e2;done)|skip
       rename_i elt gens sc cpos;have sw:=BC (elt:=elt) (gens:=gens) (sc:=sc) (cpos:=cpos) (py:=py) (x:=x) (line:=pos.line) O
       cases n with
       |zero=>cases e2
       |succ n=>
        let⟨sE',sQ'⟩:=B9 MO hc n
        cases eb:(g.sc.kind== .function&&g.sc.names.lookup x==1#.local&&py.line==cpos.line&& !(sc.names.any λ(n,k)=>n==x&&(k== .local||k== .cell))) with
        |false=>exact std (by rw[sw,eb])
        |true=>
         rw[eb] at sw
         have hl:X.env.scope.names.lookup x=1#.local:=by
          simp only[aag,abz] at eb;rw[O.sc];exact eb.1.1.2
         let⟨tg,iter,ifs,g',q,t,c,ee,rfl,z,b1,b2,b0,b3,b4,b5,rfl⟩:=mD e2;let⟨k0,k1,k2,k3⟩:=O.block b1;exact Gh O.fm O.hx k1 k0 k2 nd h1 hl (sQ' g X iter q O b2 E tg b0) (λσ own C fp pn s H hh=>qw (k3 own C fp pn s H hh) n tg t _ b3) (λσ own C fp pn s H hh=>vh (λe ie=>sE' g' _ e ie (k3 own C fp pn s H hh)) b5 _) (λσ own C fp pn s H hh=>(sE' g' _ elt ee (k3 own C fp pn s H hh) b4 _).1) sw (sY z)
      ·rename_i tes tk tp;let⟨z,h⟩:=cc (show (if xx e=true then (kP g n (.Tuple tes tk tp)).bind λt=>(cE D n g e).map λe=>PI.S.set t e else none)=1#is from h);let⟨t,ie,e1,e2,rfl⟩:=eq2 h;exact Gq (X:=X.af 8#29) (ihs e ie e2 E).1 (qw O n _ t E e1) (by cases e<;>rfl) (by cases e<;>first|rfl|cases z) rfl
   |While c b els pos=>cases els with
    |cons _ _=>exact bP h
    |nil=>
     let⟨z,h⟩:=cc (show (if di c=true then (cE D n g c).bind λc=>(iS D n g b).map λb=>PI.S.whl c b else none)=1#is from h);let⟨x,y,e1,e2,rfl⟩:=eq2 h;exact EA O.fm O.hx ((ihs c x e1 E).2 z) (ihSs g X b y O e2 E)
   |Raise exc cause pos=>
    cases h;intro pins s σ H D I q;let⟨env,st,as,G,s2,er,q⟩:=q;exact q.elim
   |_=>exact bP h
  ·cases ss with
   |nil=>
    cases h;exact GY
   |cons s r=>
    let⟨x,y,e1,e2,rfl⟩:=eq2 (show ((cS D n g s).bind λs=>(iS D n g r).map λr=>s::r)=1#iss from h);exact Ej (ihS g X s x O e1 E) (ihSs g X r y O e2 E)
structure DOk (D:Dt) (P:Pg) (T:CT) (M:Md) (base:Heap) (mg:8#23):Prop where
 def_:∀i d,P.fn i=1#d->∃(x qual:Str) (st:Stmt),Fun T.K x qual st (M.fa i) (M.fd i)/\FnScope (jN (M.ps i) (aA st)) (M.ps i) (aA st)/\uM D (M.ps i) (aA st) (bj st)=1#d
theorem FL (MO:MOk D P T M mg) (DO:DOk D P T M base mg):∀(n:Nat) (i:Nat),FnOk P' w T.K mg base (dA P' w) (4*n) (M.fa i) (M.fd i) (M.ps i) (eJ T P n i):=by
 intro n
 induction n with
 |zero=>exact λi=>⟨λvs H Q E z904=>by let⟨st,as,G,xs,s,r,h⟩:=z904;exact h.elim,λA outer s H args us vs Q E _ _ _ _ z913=>by let⟨st,as,G,xs,s',r,h⟩:=z913;exact h.elim⟩
 |succ n ih=>
  intro i
  cases e:P.fn i with
  |none=>
   have no:∀{as G xs st Q X},¬ab T as G (call P (n+1) i xs st) Q X:=λ{as G xs st Q X} h=>by
    unfold call at h;rw[e] at h;exact h
   exact⟨λvs H Q E z904=>by let⟨st,as,G,xs,s,r,h⟩:=z904;exact(no h).elim,λA outer s H args us vs Q E _ _ _ _ z913=>by let⟨st,as,G,xs,s',r,h⟩:=z913;exact(no h).elim⟩
  |some d=>
   let⟨x,qual,st,F,S,c⟩:=DO.def_ i d e;let⟨b,c1,rfl⟩:=aab.mp (show (iS D 400 ⟨jN (M.ps i) (aA st),aA st,λ_=>true,true⟩ (bj st)).map (λb=>(⟨0#(M.ps i),0#(jN (M.ps i) (aA st)),b⟩:Fn))=1#d from c);refine JD (k:=4*n+3) F S e rfl rfl λcdv A outer s H E hr=> ?_;refine(Io MO ih 400).2 ⟨jN (M.ps i) (aA st),aA st,λ_=>true,true⟩ _ _ _ ⟨rfl,S.nd,rfl,λ_ _=>rfl,S.kind,fmD,hxD,λ_=>rfl,rfl,rfl,rfl,rfl,rfl,λ_=>hr,by have:=hr.un;show (A.deeper (envOfC qual (aA st) s.heap.objs.size (M.fa i) cdv)).units+200<cLine;lia⟩ c1 _
end
theorem Ac (K:8#4):v8 K:=by
 intro a n ha hn;simp only[aaq,ab8,or_false] at ha hn
 rcases ha with rfl|rfl|rfl|rfl|rfl|rfl|rfl<;>rcases hn with rfl|rfl|rfl|rfl|rfl|rfl<;>exact(by with_unfolding_all rfl)
structure Df where
 i:Nat
 o:5#Str
 x:Str
 q:Str
 st:Stmt
 ps:2#Str
def kG (K:8#4) (x q:Str) (st:Stmt) (f:Addr):Prop:=∃(oc:Value) (od:5#Addr) (kV doc pm:Value) (an:5#Addr) (cdv ct:Value) (osl:Array 5#Value),
 K.lookup f=1#⟨oc,od, .func (PySem.W.fnOf x q (dJ st) (bj st) (aA st) .none kV doc pm an cdv ct),osl⟩/\PySem.W.codeIn K cdv q=true/\PySem.W.keepIn K 3#f=true
def FU (ps:2#Str) (sc:Scope):Bool:=(sc.kind== .function)&& !sc.isCoroutine&& !sc.isGenerator&&jJ (jN ps sc)&&(ps.all λx=>xq sc x)&&(sc.names.all λy=> !(y.2== .free))
theorem J8 {ps:2#Str} (h:FU ps sc=true):FnScope (jN ps sc) ps sc:=by
 unfold FU at h;simp only[aag,Bool.not_eq_true',abz,abo,beq_eq_false_iff_ne] at h;let⟨⟨⟨⟨⟨h1,h2⟩,h3⟩,h4⟩,h5⟩,h6⟩:=h;refine⟨h1,h2,h3,l6 h4, ?_,λx hx=> ?_,h6⟩
 ·unfold jN;simp
 ·have:=h5 x hx;unfold xq at this;simpa only[abk,abz] using this
structure DS (D:Dt) (d:Df):Prop where
 b:∀(kV doc pm:Value) (an:5#Addr) (cdv ct:Value) (us:2#Value),0#us=0#d.ps->bindArgs (PySem.W.fnOf d.x d.q (dJ d.st) (bj d.st) (aA d.st) .none kV doc pm an cdv ct) ⟨us,[]⟩=pure (d.ps.zip us)
 s:FU d.ps (aA d.st)=true
 c:(uM D d.ps (aA d.st) (bj d.st)).isSome=true
def fX (D:Dt) (ds:2#Df) (cls:2#(Nat×Cl)) (w:Nat):Pg:=⟨ds.map λd=>(d.i,(uM D d.ps (aA d.st) (bj d.st)).getD ⟨0,0,[]⟩),cls,w⟩
theorem uY {D:Dt} {cls:2#(Nat×Cl)} {w:Nat} {i:Nat} {f:Fn}:∀{ds:2#Df},(fX D ds cls w).fn i=1#f->∃d,ds.find? (λd=>d.i==i)=1#d/\d∈ds/\f=(uM D d.ps (aA d.st) (bj d.st)).getD ⟨0,0,[]⟩
 |[],h=>by cases h
 |d::ds,h=>by
  replace h:((d.i,(uM D d.ps (aA d.st) (bj d.st)).getD ⟨0,0,[]⟩)::ds.map λd=>(d.i,(uM D d.ps (aA d.st) (bj d.st)).getD ⟨0,0,[]⟩)).lookup i=1#f:=h;rw[aaJ] at h
  cases e:(i==d.i) with
  |true=>
   rw[e] at h;cases h;refine⟨d, ?_,aaD,rfl⟩;rw[aby,show (d.i==i)=true by simpa using (beq_iff_eq.mp e).symm]
  |false=>
   rw[e] at h;let⟨d',h1,h2,h3⟩:=uY (D:=D) (cls:=cls) (w:=w) (ds:=ds) h;refine⟨d', ?_,aat _ h2,h3⟩;rw[aby,show (d.i==i)=false by simpa using λz=>(beq_eq_false_iff_ne.mp e) z.symm];exact h1
theorem build {K:8#4} {D:Dt} {ds:2#Df} {fa:Nat->Addr} (h:∀i d,ds.find? (λd=>d.i==i)=1#d->kG K d.x d.q d.st (fa i)):∃M:Md,M.fa=fa/\∀i d,ds.find? (λd=>d.i==i)=1#d->M.ps i=d.ps/\Fun K d.x d.q d.st (fa i) (M.fd i):=by
 have ex:∀i,∃fd:FuncData,∀d,ds.find? (λd=>d.i==i)=1#d->Fun K d.x d.q d.st (fa i) fd:=λi=>by
  cases e:ds.find? (λd=>d.i==i) with
  |none=>exact⟨PySem.W.fnOf "" "" ⟨[],[],none,[],[],none,[]⟩ [] ⟨.function,[],false,false,[]⟩ .none .none .none .none none .none .none,λd z=>by cases z⟩
  |some d=>
   let⟨oc,od,kV,doc,pm,an,cdv,ct,osl,l,c,k⟩:=h i d e;exact⟨_,λd' z=>by cases z;exact Gu l c k⟩
 refine⟨⟨fa,λi=>Classical.choose (ex i),λi=>((ds.find? (λd=>d.i==i)).map (·.ps)).getD []⟩,rfl,λi d e=>⟨?_,Classical.choose_spec (ex i) d e⟩⟩;show ((ds.find? (λd=>d.i==i)).map (·.ps)).getD []=d.ps;rw[e];rfl
noncomputable def iE (K:8#4) (x:Str):Addr:=match PySem.W.nsIn K mainGlobals x with
 |some 1#3#a=>a
 |_=>0
noncomputable def fnAt (K:8#4) (C:Addr) (m:Str):Addr:=match PySem.W.findIn K 3#C m with
 |some 1#3#a=>a
 |_=>0
def jB (K:8#4) (d:Df):Addr:=match d.o with
 |none=>iE K d.x
 |some c=>fnAt K (iE K c) d.x
def mh (K:8#4) (ds:2#Df) (i:Nat):Addr:=((ds.find? λd=>d.i==i).map (jB K)).getD 0
def cx (K:8#4) (cn:2#(Nat×Str)) (c:Nat):Addr:=((cn.lookup c).map (iE K)).getD 0
theorem gp {K:8#4} {x:Str} {a:Addr} (h:PySem.W.nsIn K mainGlobals x=1#1#3#a):iE K x=a:=by
 unfold iE;rw[h]
theorem uz {K:8#4} {C:Addr} {x:Str} {a:Addr} (h:PySem.W.findIn K 3#C x=1#1#3#a):fnAt K C x=a:=by
 unfold fnAt;rw[h]
def j8 (K:8#4) (d:Df):Prop:=match d.o with
 |none=>∃f,PySem.W.nsIn K mainGlobals d.x=1#1#3#f/\kG K d.x d.q d.st f
 |some c=>∃C f,PySem.W.nsIn K mainGlobals c=1#1#3#C/\PySem.W.findIn K 3#C d.x=1#1#3#f/\kG K d.x d.q d.st f
set_option tactic.hygienic true in
theorem Ex {K:8#4} {d:Df} (h:j8 K d):kG K d.x d.q d.st (jB K d):=by
 unfold j8 at h;unfold jB;split at h
 ·let⟨f,e,q⟩:=h;rename_i z;show kG K d.x d.q d.st (iE K d.x);rw[gp e];exact q
 ·let⟨C,f,e1,e2,q⟩:=h;rename_i c z;show kG K d.x d.q d.st (fnAt K (iE K c) d.x);rw[gp e1,uz e2];exact q
def lH (K:8#4) (ds:2#Df) (cls:2#(Nat×Cl)) (cn:2#(Nat×Str)) (xc:Nat->Bool):Str×Gv->Prop
 |(x, .fn i)=>∃d,ds.find? (λd=>d.i==i)=1#d/\d.o=none/\d.x=x
 |(x, .cls c b)=>∃C K',PySem.W.nsIn K mainGlobals x=1#1#3#C/\cn.lookup c=1#x/\cls.lookup c=1#K'/\xc c=false/\PySem.W.keepIn K 3#C=true/\PySem.W.makesIn K C=true/\
  (b=false->K'.init=none/\PySem.W.findIn K 3#C "__init__"=1#1#(.builtin "object.__init__"))/\
  (b=true->∃fi d f,K'.init=1#fi/\ds.find? (λd=>d.i==fi)=1#d/\d.o=1#x/\d.x="__init__"/\PySem.W.findIn K 3#C "__init__"=1#1#3#f/\PySem.W.isFn K 3#f=true)
 |(x, .err c)=>∃C K',PySem.W.nsIn K mainGlobals x=1#1#3#C/\cn.lookup c=1#x/\cls.lookup c=1#K'/\K'.init=none/\xc c=true/\PySem.W.excIn K C Cz "ValueError.__new__"=true
 |(x, .val v)=>∃i tk,v= 6#i/\PySem.W.nsIn K mainGlobals x=1#1#(.int i tk)
def qJ (K:8#4) (ds:2#Df) (cn:2#(Nat×Str)) (c:Nat) (p:Str×Nat):Prop:=∃x C f d y R,cn.lookup c=1#x/\PySem.W.nsIn K mainGlobals x=1#1#3#C/\PySem.W.findIn K 3#C p.1=1#1#3#f/\PySem.W.isFn K 3#f=true/\
 ds.find? (λd=>d.i==p.2)=1#d/\d.o=1#y/\d.x=p.1/\PySem.W.nsIn K mainGlobals y=1#1#3#R/\PySem.W.findIn K 3#R p.1=1#1#3#f
set_option tactic.hygienic true in
theorem eX {α:Type} {x:Str} {v:α}:∀{l:2#(Str×α)},l.lookup x=1#v->(x,v)∈l
 |[],h=>by cases h
 |(y,w)::r,h=>by
  rw[aaJ] at h;split at h
  ·rename_i e;cases h;rw[eq_of_beq e];exact aaD
  ·exact aat _ (eX h)
section
variable {K:8#4} {D:Dt} {ds:2#Df} {cls:2#(Nat×Cl)} {cn:2#(Nat×Str)} {w:Nat} {xc:Nat->Bool} {mg:8#23} {h:Heap} {M:Md}
theorem nz {i:Nat} {d:Df} (e:ds.find? (λd=>d.i==i)=1#d):mh K ds i=jB K d:=by
 unfold mh;rw[e];rfl
theorem mR {c:Nat} {x:Str} {C:Addr} (e:cn.lookup c=1#x) (h:PySem.W.nsIn K mainGlobals x=1#1#3#C):cx K cn c=C:=by
 unfold cx;rw[e];exact gp h
theorem zH {d:Df} {x:Str} {C f:Addr} (o:d.o=1#x) (h:PySem.W.nsIn K mainGlobals x=1#1#3#C) (h2:PySem.W.findIn K 3#C d.x=1#1#3#f):jB K d=f:=by
 unfold jB;rw[o];show fnAt K (iE K x) d.x=f;rw[gp h,uz h2]
theorem ES (X:K.In h) (G:h.Ns mainGlobals mg) (hD:∀d∈ds,j8 K d) (hM:M.fa=mh K ds) (hF:∀i d,ds.find? (λd=>d.i==i)=1#d->M.ps i=d.ps/\Fun K d.x d.q d.st (mh K ds i) (M.fd i)) (hS:∀d∈ds,DS D d)
  (hg:∀p∈D.gl,lH K ds cls cn xc p) (hr:∀x∈D.fr,PySem.W.nsIn K mainGlobals x=1#none) (hc:COk ⟨K,cx K cn,xc⟩ (fX D ds cls w)) (hm:∀(c:Nat) k',cls.lookup c=1#k'->∀p∈k'.meths,k'.exc=false/\qJ K ds cn c p) (hx:∀f,D.fx.contains f=true->∀(c:Nat) k,(fX D ds cls w).cl c=1#k->f∈k.flds->k.exc=false)
  (he:∀y∈D.is,∀c,D.gl.lookup y=1#(.err c)->wj ⟨K,cx K cn,xc⟩ (fX D ds cls w) c):MOk D (fX D ds cls w) ⟨K,cx K cn,xc⟩ M mg:=by
 refine⟨λx i e=> ?_,λx e=>PySem.W.mg_none_of X G (hr x (by simpa using e)),Ac K,hc,λx c b e=> ?_,λx c e=> ?_,λx v e=> ?_,λm c k' fi q1 q2=> ?_,hx,λy c q=>he y (by simpa using q) c⟩
 ·let⟨d,e1,e2,e3⟩:=hg _ (eX e);let⟨f1,f2⟩:=hF i d e1;have dm:=abb e1;rw[hM];refine⟨?_,f2.kp, ?_⟩
  ·have z:=hD d dm;unfold j8 at z;rw[e2] at z;let⟨f,z1,_⟩:=z;rw[nz e1];unfold jB;rw[e2];show mg x=1#3#(iE K d.x);rw[gp z1,←e3];exact acs X G z1
  ·rw[f1];exact f2.binds (hS d dm).b
 ·let⟨C,K',g1,g2,g3,g4,g5,g6,g7,g8⟩:=hg _ (eX e);have ec:cx K cn c=C:=mR g2 g1
  show mg x=1#3#(cx K cn c)/\xc c=false/\PySem.W.keepIn K 3#(cx K cn c)=true/\PySem.W.makesIn K (cx K cn c)=true/\∃K',(fX D ds cls w).cl c=1#K'/\(b=false->K'.init=none/\PySem.W.findIn K 3#(cx K cn c) "__init__"=1#1#(.builtin "object.__init__"))/\
   (b=true->∃fi,K'.init=1#fi/\PySem.W.findIn K 3#(cx K cn c) "__init__"=1#1#3#(M.fa fi)/\PySem.W.isFn K 3#(M.fa fi)=true/\Binds K (M.fd fi) (M.ps fi) [])
  rw[ec];refine⟨acs X G g1,g4,g5,g6,K',g3,g7,λhb=> ?_⟩;let⟨fi,d,f,i1,i2,i3,i4,i5,i6⟩:=g8 hb;let⟨f1,f2⟩:=hF fi d i2
  have ef:M.fa fi=f:=by
   rw[hM,nz i2];exact zH i3 g1 (by rw[i4];exact i5)
  refine⟨fi,i1,by rw[ef];exact i5,by rw[ef];exact i6, ?_⟩;rw[f1];exact f2.binds (hS d (abb i2)).b
 ·let⟨C,K',g1,g2,g3,g4,g5,g6⟩:=hg _ (eX e);have ec:cx K cn c=C:=mR g2 g1;show mg x=1#3#(cx K cn c)/\xc c=true/\PySem.W.excIn K (cx K cn c) Cz "ValueError.__new__"=true/\∃K',(fX D ds cls w).cl c=1#K'/\K'.init=none;rw[ec];exact⟨acs X G g1,g5,g6,K',g3,g4⟩
 ·let⟨i,tk,rfl,g1⟩:=hg _ (eX e);exact⟨6#i,_,acs X G g1,⟨tk,rfl⟩,λ_ _=>rfl⟩
 ·let⟨n1,x,C,f,d,y,R,m1,m2,m3,m4,m5,m6,m7,m8,m9⟩:=hm c k' q1 (m,fi) (eX q2);have ec:cx K cn c=C:=mR m1 m2;let⟨f1,f2⟩:=hF fi d m5
  have ef:M.fa fi=f:=by
   rw[hM,nz m5];exact zH m6 m8 (by rw[m7];exact m9)
  show k'.exc=false/\Meth K (cx K cn c) m (M.fa fi)/\Binds K (M.fd fi) (M.ps fi) [];rw[ec];refine⟨n1,⟨by rw[ef];exact m3,by rw[ef];exact m4, ?_⟩, ?_⟩
  ·have:=f2.kp;rw[←hM] at this;exact this
  ·rw[f1];exact f2.binds (hS d (abb m5)).b
theorem EK {ca:Nat->Addr} (hM:M.fa=mh K ds) (hF:∀i d,ds.find? (λd=>d.i==i)=1#d->M.ps i=d.ps/\Fun K d.x d.q d.st (mh K ds i) (M.fd i)) (hS:∀d∈ds,DS D d):DOk D (fX D ds cls w) ⟨K,ca,xc⟩ M base mg:=by
 refine⟨λi f e=> ?_⟩;let⟨d,e1,e2,rfl⟩:=uY e;let⟨f1,f2⟩:=hF i d e1;have S:=hS d e2;refine⟨d.x,d.q,d.st,hM▸f2,f1▸J8 S.s, ?_⟩;rw[f1];let⟨y,e3⟩:=aaW.mp S.c;rw[e3];rfl
end
theorem qT {T:CT} {G:Hp}:∀ns:2#Int,ae T as G (ns.map .int) (ns.map V.int)
 |[]=>rfl
 |n::ns=>⟨6#n,ns.map V.int,rfl,rfl,qT ns⟩
structure HeadOk (K:8#4) (D:Dt) (ds:2#Df) (cls:2#(Nat×Cl)) (cn:2#(Nat×Str)) (xc:Nat->Bool) (wn:Nat):Prop where
 d:∀d∈ds,j8 K d
 g:∀p∈D.gl,lH K ds cls cn xc p
 m:∀(c:Nat) k',cls.lookup c=1#k'->∀p∈k'.meths,k'.exc=false/\qJ K ds cn c p
 r:∀x∈D.fr,PySem.W.nsIn K mainGlobals x=1#none
 c:COk ⟨K,cx K cn,xc⟩ (fX D ds cls wn)
 e:∀y∈D.is,∀c,D.gl.lookup y=1#(.err c)->wj ⟨K,cx K cn,xc⟩ (fX D ds cls wn) c
theorem JJ {l:PySem.W.OpenLaw} {q:Program} {loose:2#Str} {XP:(Str->5#Value)->Heap->Prop} {YP:World->Heap->Prop} {d:DefRec} {K:Params->PySem.W.Frag} {D:Dt} {ds:2#Df} {cls:2#(Nat×Cl)} {cn:2#(Nat×Str)} {xc:Nat->Bool} {wn:Nat} {n f:Nat} {x:Str} {df:Df}
  (hn:l.most=1#63) (hdf:d.params.defaults=[]) (hroom:Room (4*n) callerA) (hY:∀(w:World) (h:Heap),YP w h->(K w.params).In h)
  (hS:∀d∈ds,DS D d) (hf:ds.find? (λd=>d.i==f)=1#df) (hps:df.ps=[x]) (ho:df.o=none) (hname:d.name=df.x) (hx:∀f,D.fx.contains f=true->∀(c:Nat) k,(fX D ds cls wn).cl c=1#k->f∈k.flds->k.exc=false)
  (F:∀w:World,HeadOk (K w.params) D ds cls cn xc wn)
  (pure_:∀ns:2#Int,0#ns<=63->call (fX D ds cls wn) n f [7#(ns.map .int)] []= .ok (.bl true) []):
  PySem.W.WalkO q loose XP YP l.row.toRowW d [] (λf vs=>PySem.call f vs):=
 L2.EB (n:=63) (k:=4*n) (x:=x) (CX:=λw=>dA l.prog w) (K:=K) (sp:=λw=>eJ ⟨K w.params,cx (K w.params) cn,xc⟩ (fX D ds cls wn) n f) hn 8#16 hdf hroom hY
  (λw mg a h KX G hm=>by
   have O:=F w
   let⟨M,hM,hF⟩:=build (D:=D) (fa:=mh (K w.params) ds) (K:=K w.params) (ds:=ds) λi d' hd'=>by
    rw[nz hd'];exact Ex (O.d d' (abb hd'))
   let⟨f1,f2⟩:=hF f df hf;have dm:=abb hf
   have ea:M.fa f=a:=by
    have z:=O.d df dm;unfold j8 at z;rw[ho] at z;let⟨f',z1,_⟩:=z;rw[hM,nz hf];unfold jB;rw[ho];show iE (K w.params) df.x=a;rw[gp z1];have:=acs KX G z1;rw[←hname,hm] at this;cases this;rfl
   refine⟨M.fd f,λs v=> ?_,λbase _ _=> ?_⟩
   ·let⟨oc,od,kV,doc,pm,an,cdv,ct,osl,efd,_⟩:=f2.ex;rw[efd];have:=(hS df dm).b kV doc pm an cdv ct [v] (by rw[hps];rfl);rw[hps] at this;exact .of_eq this
   ·have:=FL (P':=l.prog) (w:=w) (base:=base) (ES KX G O.d hM hF hS O.g O.r O.c O.m hx O.e) (EK hM hF hS) n f;rw[ea,f1,hps] at this
    exact this)
  (λw H a ns hl hO hS=>by
   refine⟨[],[],H,[7#(ns.map .int)],⟨rfl,ach,Le.refl _,λa h=>(by cases h),λn o a h=>(by cases h)⟩,⟨3#a,[],rfl,⟨a,ns.map V.int,rfl,hS,qT ns⟩,rfl⟩, ?_⟩;rw[pure_ ns hl]
   exact λas' G' H' _ _ _ u hu=>hu)
  λ_ _ _ _ _ h=>by
   let⟨_,_,_,_,_,_,_,_,_,_,_,_,_,_,_,z⟩:=h;exact z
theorem uR {K:8#4} {i:Nat} {x q:Str} {st:Stmt} {ps:2#Str} {f:Addr} {oc:Value} {od an:5#Addr} {osl:Array 5#Value} {kV doc pm cdv ct:Value} (a:PySem.W.nsIn K mainGlobals x=1#1#3#f)
  (l:K.lookup f=1#⟨oc,od, .func (PySem.W.fnOf x q (dJ st) (bj st) (aA st) .none kV doc pm an cdv ct),osl⟩) (c:PySem.W.codeIn K cdv q=true) (k:PySem.W.keepIn K 3#f=true):j8 K ⟨i,none,x,q,st,ps⟩:=⟨f,a,oc,od,kV,doc,pm,an,cdv,ct,osl,l,c,k⟩
theorem lC {α:Type} {p:α->Prop} {a:α} {l:2#α} (h:p a) (t:∀x∈l,p x):∀x∈a::l,p x:=List.forall_mem_cons.mpr ⟨h,t⟩
theorem kJ {α:Type} {p:α->Prop}:∀x∈([]:2#α),p x:=λ_ h=>by cases h
theorem B0 {K:8#4} {ds:2#Df} {cls:2#(Nat×Cl)} {cn:2#(Nat×Str)} {xc:Nat->Bool} {x:Str} {i:Nat} {d:Df} (e:ds.find? (λd=>d.i==i)=1#d) (h:d.o=none) (z:d.x=x):lH K ds cls cn xc (x, .fn i):=⟨d,e,h,z⟩
theorem vK {K:8#4} {i:Nat} {c x q:Str} {st:Stmt} {ps:2#Str} {C f:Addr} {oc:Value} {od an:5#Addr} {osl:Array 5#Value} {kV doc pm cdv ct:Value} (n:PySem.W.nsIn K mainGlobals c=1#1#3#C) (a:PySem.W.findIn K 3#C x=1#1#3#f)
  (l:K.lookup f=1#⟨oc,od, .func (PySem.W.fnOf x q (dJ st) (bj st) (aA st) .none kV doc pm an cdv ct),osl⟩) (cd:PySem.W.codeIn K cdv q=true) (k:PySem.W.keepIn K 3#f=true):j8 K ⟨i,1#c,x,q,st,ps⟩:=⟨C,f,n,a,oc,od,kV,doc,pm,an,cdv,ct,osl,l,cd,k⟩
section
variable {K:8#4} {ds:2#Df} {cls:2#(Nat×Cl)} {cn:2#(Nat×Str)} {xc:Nat->Bool} {D:Dt} {w:Nat}
theorem yM {x:Str} {c:Nat} {C:Addr} {k:Cl} (n:PySem.W.nsIn K mainGlobals x=1#1#3#C) (e1:cn.lookup c=1#x) (e2:cls.lookup c=1#k) (e3:k.init=none) (e4:xc c=true) (h:PySem.W.excIn K C Cz "ValueError.__new__"=true):lH K ds cls cn xc (x, .err c):=⟨C,k,n,e1,e2,e3,e4,h⟩
theorem xW {x:Str} {c fi:Nat} {C f:Addr} {k:Cl} {d:Df} (n:PySem.W.nsIn K mainGlobals x=1#1#3#C) (e1:cn.lookup c=1#x) (e2:cls.lookup c=1#k) (e4:xc c=false) (h1:PySem.W.keepIn K 3#C=true) (h2:PySem.W.makesIn K C=true) (e5:k.init=1#fi) (e6:ds.find? (λd=>d.i==fi)=1#d) (e7:d.o=1#x) (e8:d.x="__init__")
  (h3:PySem.W.findIn K 3#C "__init__"=1#1#3#f) (h4:PySem.W.isFn K 3#f=true):lH K ds cls cn xc (x, .cls c true):=⟨C,k,n,e1,e2,e4,h1,h2,λh=>(by cases h),λ_=>⟨fi,d,f,e5,e6,e7,e8,h3,h4⟩⟩
theorem vL {x:Str} {c:Nat} {C:Addr} {k:Cl} (n:PySem.W.nsIn K mainGlobals x=1#1#3#C) (e1:cn.lookup c=1#x) (e2:cls.lookup c=1#k) (e4:xc c=false) (h1:PySem.W.keepIn K 3#C=true) (h2:PySem.W.makesIn K C=true) (e5:k.init=none)
  (h3:PySem.W.findIn K 3#C "__init__"=1#1#(.builtin "object.__init__")):lH K ds cls cn xc (x, .cls c false):=⟨C,k,n,e1,e2,e4,h1,h2,λ_=>⟨e5,h3⟩,λh=>(by cases h)⟩
theorem zJ {x:Str} {i:Int} {tk:Nat} (n:PySem.W.nsIn K mainGlobals x=1#1#(.int i tk)):lH K ds cls cn xc (x, .val 6#i):=⟨i,tk,rfl,n⟩
set_option tactic.hygienic true in
theorem eE {α:Type} {x:Nat} {v:α}:∀{l:2#(Nat×α)},l.lookup x=1#v->(x,v)∈l
 |[],h=>by cases h
 |(y,w)::r,h=>by
  rw[aaJ] at h;split at h
  ·rename_i e;cases h;rw[eq_of_beq e];exact aaD
  ·exact aat _ (eE h)
def Hj (K:8#4) (cn:2#(Nat×Str)) (xc:Nat->Bool) (p:Nat×Cl):Prop:=xc p.1=p.2.exc/\(p.2.exc=false->∃x C,cn.lookup p.1=1#x/\PySem.W.nsIn K mainGlobals x=1#1#3#C/\Cls K C/\∀f∈p.2.flds,eN K C f)
theorem uD {p:Nat×Cl} (e1:xc p.1=p.2.exc) (e2:p.2.exc=true):Hj K cn xc p:=⟨e1,λh=>by rw[e2] at h;cases h⟩
theorem vX {p:Nat×Cl} {x:Str} {C:Addr} (e1:xc p.1=p.2.exc) (e2:cn.lookup p.1=1#x) (n:PySem.W.nsIn K mainGlobals x=1#1#3#C) (h1:PySem.W.plainGet K C Str.empty=true) (h2:PySem.W.hasDictIn K C=true) (h3:PySem.W.plainOver K C=true) (h4:PySem.W.findIn K 3#C "__setattr__"=1#1#(.builtin "object.__setattr__"))
  (h5:∀f∈p.2.flds,PySem.W.findIn K 3#C f=1#none):Hj K cn xc p:=⟨e1,λ_=>⟨x,C,e2,n,⟨h1,h2,h3,h4⟩,h5⟩⟩
theorem Gp (h:∀p∈cls,Hj K cn xc p):COk ⟨K,cx K cn,xc⟩ (fX D ds cls w):=by
 refine⟨λc k e=>(h _ (eE e)).1,λc k e x=> ?_,λc k f e x hf=> ?_⟩
 ·let⟨x,C,e1,e2,e3,e4⟩:=(h _ (eE e)).2 x;show Cls K (cx K cn c);rw[mR e1 e2];exact e3
 ·let⟨x,C,e1,e2,e3,e4⟩:=(h _ (eE e)).2 x;show eN K (cx K cn c) f;rw[mR e1 e2];exact e4 f hf
theorem AD (h:∀q∈cls,∀p∈q.2.meths,q.2.exc=false/\qJ K ds cn q.1 p):∀(c:Nat) k',cls.lookup c=1#k'->∀p∈k'.meths,k'.exc=false/\qJ K ds cn c p:=λc k' e p hp=>h _ (eE e) p hp
theorem B5 {c:Nat} {p:Str×Nat} {x y:Str} {C f R:Addr} {d:Df} {q:Cl} (e0:q.exc=false) (e1:cn.lookup c=1#x) (a:PySem.W.nsIn K mainGlobals x=1#1#3#C) (b:PySem.W.findIn K 3#C p.1=1#1#3#f) (i:PySem.W.isFn K 3#f=true) (e2:ds.find? (λd=>d.i==p.2)=1#d) (e3:d.o=1#y) (e4:d.x=p.1)
  (g:PySem.W.nsIn K mainGlobals y=1#1#3#R) (h:PySem.W.findIn K 3#R p.1=1#1#3#f):q.exc=false/\qJ K ds cn c p:=⟨e0,x,C,f,d,y,R,e1,a,b,i,e2,e3,e4,g,h⟩
theorem Jr (h:∀q∈cls,q.2.exc=true->q.2.flds=[]):∀f,D.fx.contains f=true->∀(c:Nat) k,(fX D ds cls w).cl c=1#k->f∈k.flds->k.exc=false:=λf _ c k e hf=>by
 cases x:k.exc with
 |false=>rfl
 |true=>
  have:=h _ (eE e) x;rw[this] at hf;cases hf
end
end PI
namespace PI
open PySem
theorem ak {P:Pg} {f:Nat} {d:Fn} (h:P.fn f=1#d) (n:Nat) (xs:2#Val) (st:aa) (hl:0#xs=d.np):call P (n+1) f xs st=(aE P (call P n) d.body (xs.map some++List.replicate (d.ns-d.np) none) st).fin P st:=by
 show Ct P (call P n) xs st (P.fn f)=_;rw[h];exact bq hl
@[simp]theorem Na (P:Pg) (st:aa) (v:Val) (h:v.aG st 0#st 0#st=1#v) (hr:isRef v=none):fin P st v st= .ok v st:=by
 unfold fin;rw[if_pos (Bl st),hr];show (R.aj (v.aG st 0#st 0#st) st).bind _=_;rw[h];simp
theorem fh (P:Pg) (st st':aa) (v v':Val) (ho:Old st st') (h:v.aG st' 0#st 0#st'=1#v') (hr:isRef v=none):fin P st v st'= .ok v' (st'.take 0#st):=by
 unfold fin;rw[if_pos ho,hr];show (R.aj (v.aG st' 0#st 0#st') st').bind _=_;rw[h];simp
@[simp]theorem OZ (st:aa) (n x:Nat) (b:Bool):(Val.bl b).aG st n x=1#(.bl b):=by simp[Val.aG,Val.sub]
@[simp]theorem N4 (st:aa) (n x:Nat) (b:Int):(Val.int b).aG st n x=1#6#b:=by simp[Val.aG,Val.sub]
@[simp]theorem Oe (st:aa) (n x:Nat) (b:Str):(Val.str b).aG st n x=1#(.str b):=by simp[Val.aG,Val.sub]
@[simp]theorem Ny (st:aa) (n x:Nat):Val.non.aG st n x=1#.non:=by simp[Val.aG,Val.sub]
@[simp]theorem Dk (st:aa) (n x:Nat) (f:Bool) (xs:2#Val):(Val.tup f xs).aG st n x=(aV st n x xs).map λxs=> .tup f xs:=by simp[Val.aG,Val.sub,aV]
@[simp]theorem Bw (st:aa) (n x:Nat):aV st n x []=some []:=by simp[aV,subs]
@[simp]theorem ph (st:aa) (n x:Nat) (v:Val) (r:2#Val):aV st n x (v::r)=(v.aG st n x).bind λv=>(aV st n x r).map λr=>v::r:=by simp[Val.aG,subs,aV]
@[simp]theorem Kk {α:Type} (r:R α):iff True r=r:=if_pos trivial
@[simp]theorem O6 (t b:Bool) (st:aa):kf t (R.ok (Val.bl true) st) (R.ok (Val.bl b) st)=R.ok (Val.bl (t||b)) st:=by cases t<;>rfl
@[simp]theorem Oi (t b:Bool) (st:aa):kf t (R.ok (Val.bl b) st) (R.ok (Val.bl false) st)=R.ok (Val.bl (t&&b)) st:=by cases t<;>rfl
@[simp]theorem bx (st:aa):Kept [] st:=λ_ h=>by cases h
theorem D3 (st:aa):Old [] st:=⟨aaX _,λi o h _=>absurd h (Nat.not_lt_zero _)⟩
@[simp]theorem Kq (P:Pg) (st:aa) (b:Bool):fin P [] (.bl b) st= .ok (.bl b) []:=by
 have:=fh P [] st (.bl b) (.bl b) (D3 st) 8#5 rfl;simpa using this
@[simp]theorem MW (i j:Int) (st:aa) (h:0<j):sU i j st= .ok 6#(i % j) st:=by
 unfold sU;rw[bq 8#0,Int.fmod_eq_emod_of_nonneg _ 8#0]
@[simp]theorem BD (i j:Int) (st:aa) (h:0<j) (hb:j<2^64):tf i j st= .ok 6#(i/j) st:=by
 unfold tf
 have:big j:=by
  unfold big;exact aan (show j.natAbs<2^64 by lia) (Nat.pow_le_pow_right 8#0 8#0)
 rw[bq ⟨by lia,this⟩,Int.fdiv_eq_ediv_of_nonneg _ 8#0]
@[simp]theorem O2 (i j:Int) (st:aa) (h:j.natAbs<2^64):lJ i j st= .ok 6#(i*j) st:=bq (.inr (.inl h))
@[simp]theorem FR (i j:Int) (st:aa) (h:i.natAbs<2^64):lJ i j st= .ok 6#(i*j) st:=bq (.inl h)
@[simp]theorem NH (n:Int) (st:aa) (h0:0<=n) (h1:n<16777216):wC 6#n st= .ok (aW 0 n.toNat,[]) st:=bq ⟨by lia,by lia⟩
@[simp]theorem Nv (a b:Int) (st:aa) (h0: -16777216<a) (h1:a<16777216) (h2: -16777216<b) (h3:b-a<16777216):xp a 6#b st= .ok (aW a (b-a).toNat,[]) st:=bq ⟨by lia,by lia,by lia,by lia⟩
theorem AX (ns:2#Int) (i:Int) (h0:0<=i) (h1:i<0#ns):g9 (ns.map .int) i=1#6#(ns.getD i.toNat 0):=by
 have l:i.toNat<0#ns:=by lia
 unfold g9 gJ;rw[aaz,if_pos h0,if_pos h1];show (ns.map Val.int)[i.toNat]?=_;rw[aaO,aac l,aax,aac l];rfl
@[simp high] theorem LA (ns:2#Int) (i:Int) (st:aa) (h0:0<=i) (h1:i<0#ns):dY 7#(ns.map .int) 6#i st= .ok 6#(ns.getD i.toNat 0) st:=by
 show R.aj (g9 _ i) st=_;rw[AX ns i h0 h1];rfl
@[simp 5000] theorem gt0 {α:Type} {x0:α} {l:2#α}:(x0::l)[0]?=1#x0:=rfl
@[simp 5000] theorem gt1 {α:Type} {x0 x1:α} {l:2#α}:(x0::x1::l)[1]?=1#x1:=rfl
@[simp 5000] theorem gt2 {α:Type} {x0 x1 x2:α} {l:2#α}:(x0::x1::x2::l)[2]?=1#x2:=rfl
@[simp 5000] theorem gt3 {α:Type} {x0 x1 x2 x3:α} {l:2#α}:(x0::x1::x2::x3::l)[3]?=1#x3:=rfl
@[simp 5000] theorem gt4 {α:Type} {x0 x1 x2 x3 x4:α} {l:2#α}:(x0::x1::x2::x3::x4::l)[4]?=1#x4:=rfl
@[simp 5000] theorem gt5 {α:Type} {x0 x1 x2 x3 x4 x5:α} {l:2#α}:(x0::x1::x2::x3::x4::x5::l)[5]?=1#x5:=rfl
@[simp 5000] theorem gt6 {α:Type} {x0 x1 x2 x3 x4 x5 x6:α} {l:2#α}:(x0::x1::x2::x3::x4::x5::x6::l)[6]?=1#x6:=rfl
@[simp 5000] theorem gt7 {α:Type} {x0 x1 x2 x3 x4 x5 x6 x7:α} {l:2#α}:(x0::x1::x2::x3::x4::x5::x6::x7::l)[7]?=1#x7:=rfl
@[simp 5000] theorem gt8 {α:Type} {x0 x1 x2 x3 x4 x5 x6 x7 x8:α} {l:2#α}:(x0::x1::x2::x3::x4::x5::x6::x7::x8::l)[8]?=1#x8:=rfl
@[simp 5000] theorem gt9 {α:Type} {x0 x1 x2 x3 x4 x5 x6 x7 x8 x9:α} {l:2#α}:(x0::x1::x2::x3::x4::x5::x6::x7::x8::x9::l)[9]?=1#x9:=rfl
@[simp 5000] theorem gt10 {α:Type} {x0 x1 x2 x3 x4 x5 x6 x7 x8 x9 x10:α} {l:2#α}:(x0::x1::x2::x3::x4::x5::x6::x7::x8::x9::x10::l)[10]?=1#x10:=rfl
@[simp 5000] theorem gt11 {α:Type} {x0 x1 x2 x3 x4 x5 x6 x7 x8 x9 x10 x11:α} {l:2#α}:(x0::x1::x2::x3::x4::x5::x6::x7::x8::x9::x10::x11::l)[11]?=1#x11:=rfl
@[simp 5000] theorem gt12 {α:Type} {x0 x1 x2 x3 x4 x5 x6 x7 x8 x9 x10 x11 x12:α} {l:2#α}:(x0::x1::x2::x3::x4::x5::x6::x7::x8::x9::x10::x11::x12::l)[12]?=1#x12:=rfl
@[simp 5000] theorem gt13 {α:Type} {x0 x1 x2 x3 x4 x5 x6 x7 x8 x9 x10 x11 x12 x13:α} {l:2#α}:(x0::x1::x2::x3::x4::x5::x6::x7::x8::x9::x10::x11::x12::x13::l)[13]?=1#x13:=rfl
@[simp 5000] theorem pt0 {v:Val} {x0:5#Val} {l:Env}:T.put v (x0::l) 4#0=1#(1#v::l):=(bO ..).trans (if_pos (aaS _ _))
@[simp 5000] theorem pt1 {v:Val} {x0 x1:5#Val} {l:Env}:T.put v (x0::x1::l) 4#1=1#(x0::1#v::l):=(bO ..).trans (if_pos (aaS _ _))
@[simp 5000] theorem pt2 {v:Val} {x0 x1 x2:5#Val} {l:Env}:T.put v (x0::x1::x2::l) 4#2=1#(x0::x1::1#v::l):=(bO ..).trans (if_pos (aaS _ _))
@[simp 5000] theorem pt3 {v:Val} {x0 x1 x2 x3:5#Val} {l:Env}:T.put v (x0::x1::x2::x3::l) 4#3=1#(x0::x1::x2::1#v::l):=(bO ..).trans (if_pos (aaS _ _))
@[simp 5000] theorem pt4 {v:Val} {x0 x1 x2 x3 x4:5#Val} {l:Env}:T.put v (x0::x1::x2::x3::x4::l) 4#4=1#(x0::x1::x2::x3::1#v::l):=(bO ..).trans (if_pos (aaS _ _))
@[simp 5000] theorem pt5 {v:Val} {x0 x1 x2 x3 x4 x5:5#Val} {l:Env}:T.put v (x0::x1::x2::x3::x4::x5::l) 4#5=1#(x0::x1::x2::x3::x4::1#v::l):=(bO ..).trans (if_pos (aaS _ _))
@[simp 5000] theorem pt6 {v:Val} {x0 x1 x2 x3 x4 x5 x6:5#Val} {l:Env}:T.put v (x0::x1::x2::x3::x4::x5::x6::l) 4#6=1#(x0::x1::x2::x3::x4::x5::1#v::l):=(bO ..).trans (if_pos (aaS _ _))
@[simp 5000] theorem pt7 {v:Val} {x0 x1 x2 x3 x4 x5 x6 x7:5#Val} {l:Env}:T.put v (x0::x1::x2::x3::x4::x5::x6::x7::l) 4#7=1#(x0::x1::x2::x3::x4::x5::x6::1#v::l):=(bO ..).trans (if_pos (aaS _ _))
@[simp 5000] theorem pt8 {v:Val} {x0 x1 x2 x3 x4 x5 x6 x7 x8:5#Val} {l:Env}:T.put v (x0::x1::x2::x3::x4::x5::x6::x7::x8::l) 4#8=1#(x0::x1::x2::x3::x4::x5::x6::x7::1#v::l):=(bO ..).trans (if_pos (aaS _ _))
@[simp 5000] theorem pt9 {v:Val} {x0 x1 x2 x3 x4 x5 x6 x7 x8 x9:5#Val} {l:Env}:T.put v (x0::x1::x2::x3::x4::x5::x6::x7::x8::x9::l) 4#9=1#(x0::x1::x2::x3::x4::x5::x6::x7::x8::1#v::l):=(bO ..).trans (if_pos (aaS _ _))
@[simp 5000] theorem pt10 {v:Val} {x0 x1 x2 x3 x4 x5 x6 x7 x8 x9 x10:5#Val} {l:Env}:T.put v (x0::x1::x2::x3::x4::x5::x6::x7::x8::x9::x10::l) 4#10=1#(x0::x1::x2::x3::x4::x5::x6::x7::x8::x9::1#v::l):=(bO ..).trans (if_pos (aaS _ _))
@[simp 5000] theorem pt11 {v:Val} {x0 x1 x2 x3 x4 x5 x6 x7 x8 x9 x10 x11:5#Val} {l:Env}:T.put v (x0::x1::x2::x3::x4::x5::x6::x7::x8::x9::x10::x11::l) 4#11=1#(x0::x1::x2::x3::x4::x5::x6::x7::x8::x9::x10::1#v::l):=(bO ..).trans (if_pos (aaS _ _))
@[simp 5000] theorem pt12 {v:Val} {x0 x1 x2 x3 x4 x5 x6 x7 x8 x9 x10 x11 x12:5#Val} {l:Env}:T.put v (x0::x1::x2::x3::x4::x5::x6::x7::x8::x9::x10::x11::x12::l) 4#12=1#(x0::x1::x2::x3::x4::x5::x6::x7::x8::x9::x10::x11::1#v::l):=(bO ..).trans (if_pos (aaS _ _))
@[simp 5000] theorem pt13 {v:Val} {x0 x1 x2 x3 x4 x5 x6 x7 x8 x9 x10 x11 x12 x13:5#Val} {l:Env}:T.put v (x0::x1::x2::x3::x4::x5::x6::x7::x8::x9::x10::x11::x12::x13::l) 4#13=1#(x0::x1::x2::x3::x4::x5::x6::x7::x8::x9::x10::x11::x12::1#v::l):=(bO ..).trans (if_pos (aaS _ _))
theorem y0 (xs:2#Val) (n:Nat):g9 xs (n:Int)=xs[n]?:=by
 unfold g9 gJ;rw[if_pos (Int.natCast_nonneg n)]
 by_cases h:n<0#xs
 ·rw[if_pos (Int.ofNat_lt.mpr h)];rfl
 ·rw[if_neg λz=>h (Int.ofNat_lt.mp z)];exact(ab5 (Nat.le_of_not_lt h)).symm
@[simp 5000] theorem PB {f:Bool} {n:Nat} {st:aa}:dY (.tup f xs) 6#(no_index (OfNat.ofNat n)) st=R.aj xs[(OfNat.ofNat n:Nat)]? st:=congrArg (R.aj · st) (y0 xs n)
@[simp 5000] theorem Nt {n:Nat} {st:aa}:dY 7#xs 6#(no_index (OfNat.ofNat n)) st=R.aj xs[(OfNat.ofNat n:Nat)]? st:=congrArg (R.aj · st) (y0 xs n)
noncomputable def Rest (P:Pg) (cl:ax) (ss:2#S) (env:Env) (st:aa):F:=aE P cl ss env st
noncomputable def Cy (P:Pg) (cl:ax) (a b:2#S) (env:Env) (t:Bool) (st:aa):F:=vo t (aE P cl a env st) (aE P cl b env st)
noncomputable def cI (P:Pg) (cl:ax) (b:2#S) (env:Env) (st:aa):F:=aE P cl b env st
noncomputable def Lp (P:Pg) (cl:ax) (t:T) (b:2#S) (env:Env) (it:2#Val×2#(Nat×Ob)) (st:aa):F:=forL t (cI P cl b) it.2 it.1 env st
section
variable (P:Pg) (cl:ax) (env:Env) (st:aa)
@[simp]theorem OT:aE P cl [] env st= .next env st:=rfl
@[simp]theorem NW (s:S) (ss:2#S):aE P cl (s::ss) env st=(s.run P cl env st).bind (Rest P cl ss):=rfl
@[simp]theorem LO (ss:2#S):Rest P cl ss env st=aE P cl ss env st:=rfl
@[simp]theorem Pc (b:2#S):cI P cl b env st=aE P cl b env st:=rfl
@[simp]theorem JC (a b:2#S):Cy P cl a b env true st=aE P cl a env st:=rfl
@[simp]theorem bra_f (a b:2#S):Cy P cl a b env false st=aE P cl b env st:=rfl
@[simp]theorem lp_at (t:T) (b:2#S) (xs:2#Val) (c:2#(Nat×Ob)):Lp P cl t b env (xs,c) st=forL t (cI P cl b) c xs env st:=rfl
@[simp]theorem s_set (t:T) (e:E):(S.set t e).run P cl env st=F.of env (e.run P cl env st) λx st=>F.aj st (t.put x env):=rfl
@[simp]theorem PD (o i e:E):(S.fQ o i e).run P cl env st=F.of env ((e.run P cl env st).bind λx st=>(o.run P cl env st).bind λy st=>(i.run P cl env st).bind λz st=>PI.fQ z x y st) λ_ st=> .next env st:=rfl
@[simp]theorem Px (o e:E) (f:Str):(S.dF o f e).run P cl env st=F.of env ((e.run P cl env st).bind λx st=>(o.run P cl env st).bind λy st=>PI.dF P f x y st) λ_ st=> .next env st:=rfl
@[simp]theorem Ph (e:E):(S.expr e).run P cl env st=F.of env (e.run P cl env st) λ_ st=> .next env st:=rfl
@[simp]theorem s_ret (e:E):(S.ret e).run P cl env st=F.of env (e.run P cl env st) λx st=> .ret x st:=rfl
@[simp]theorem s_ife (c:E) (a b:2#S):(S.ife c a b).run P cl env st=F.of env (runC P cl 1#c env st) (Cy P cl a b env):=rfl
@[simp]theorem s_for (t:T) (q:Q) (b:2#S):(S.for t q b).run P cl env st=F.of env (q.run P cl env st) (Lp P cl t b env):=rfl
end
noncomputable def Nx (t:T) (body:Env->aa->F) (vs:2#Val) (env:Env) (st:aa):F:=forL t body [] vs env st
@[simp]theorem nx_at (t:T) (body:Env->aa->F) (vs:2#Val) (env:Env) (st:aa):Nx t body vs env st=forL t body [] vs env st:=rfl
open Classical in
@[simp]theorem Ou (t:T) (body:Env->aa->F) (env:Env) (st:aa):forL t body [] [] env st= .next env st:=dU (bx st)
open Classical in
@[simp]theorem tU (t:T) (body:Env->aa->F) (v:Val) (vs:2#Val) (env:Env) (st:aa):forL t body [] (v::vs) env st=(F.aj st (t.put v env)).bind λenv st=>(body env st).turn (Nx t body vs):=dU (bx st)
open Classical in
theorem uX {t:T} {body:Env->aa->F} {chk:2#(Nat×Ob)} (I:Nat->Env->aa->Prop):∀(items:2#Val) (j:Nat) (env:Env) (st:aa),I j env st->(∀i env st,I i env st->Kept chk st)->
  (∀i v env st,items[i]?=1#v->I (j+i) env st->∃env1,t.put v env=1#env1/\∃env' st',(body env1 st= .next env' st'∨body env1 st= .cont env' st')/\I (j+i+1) env' st')->
  ∃env' st',forL t body chk items env st= .next env' st'/\I (j+0#items) env' st'
 |[],j,env,st,h,hk,_=>⟨env,st,dU (hk j env st h),h⟩
 |v::vs,j,env,st,h,hk,hs=>by
  let⟨env1,e1,env2,st2,e2,h2⟩:=hs 0 v env st rfl h
  let⟨env3,st3,e3,h3⟩:=uX I vs (j+1) env2 st2 h2 hk λi w env st e q=>by
   have:=hs (i+1) w env st e (by rw[show j+(i+1)=j+1+i by lia];exact q);rwa[show j+(i+1)+1=j+1+i+1 by lia] at this
  refine⟨env3,st3, ?_,by rw[show j+0#(v::vs)=j+1+0#vs by simp;lia];exact h3⟩;show iB (Kept chk st) ((F.aj st (t.put v env)).bind λenv st=>(body env st).turn λenv st=>forL t body chk vs env st)=_;rw[dU (hk j env st h),e1];show (body env1 st).turn (λenv st=>forL t body chk vs env st)=_
  rcases e2 with e2|e2<;>rw[e2]<;>exact e3
theorem rP {t:T} {body:Env->aa->F} {chk:2#(Nat×Ob)} (I:Nat->Env->aa->Prop) (items:2#Val) (env:Env) (st:aa) (h:I 0 env st) (hk:∀i env st,I i env st->Kept chk st)
  (hs:∀i v env st,items[i]?=1#v->I i env st->∃env1,t.put v env=1#env1/\∃env' st',(body env1 st= .next env' st'∨body env1 st= .cont env' st')/\I (i+1) env' st'):
  ∃env' st',forL t body chk items env st= .next env' st'/\I 0#items env' st':=by
 let⟨env',st',e,q⟩:=uX I items 0 env st h hk λi v env st e q=>by
  have:=hs i v env st e (by rwa[acf] at q);rwa[acf]
 exact⟨env',st',e,by rwa[acf] at q⟩
@[simp]theorem sJ:∀(n:Nat) (lo:Int),0#(aW lo n)=n
 |0,_=>rfl
 |n+1,lo=>by unfold aW;rw[aar,sJ n]
theorem tF:∀(n:Nat) (lo:Int) (i:Nat) (v:Val),(aW lo n)[i]?=1#v->v= 6#(lo+i)/\i<n
 |0,_,_,_,h=>by cases h
 |n+1,lo,0,v,h=>by
  cases h;exact⟨by simp,by lia⟩
 |n+1,lo,i+1,v,h=>by
  let⟨h1,h2⟩:=tF n (lo+1) i v h;exact⟨by rw[h1];congr 1;push_cast;lia,by lia⟩
noncomputable abbrev rz:S:= .augI (.const .non) (.const .non) .Add (.const .non)
noncomputable def ir3:Fn:=⟨5,5,[.ife (.cmp .Eq (.bi .len [4#1]) (.ci 0)) [rz] [],
 .ife (.or (.cmp .Lt 4#3 (.ci 0)) (.cmp .Lt 4#4 (.ci 0))) [rz] [],
 .dF 4#0 "bays" (.bi .tuple [.comp 1 [] 4#0 (.val 4#1) none (.call 4 [4#0])]),
 .dF 4#0 "foes" (.bi .tuple [.comp 1 [] 4#0 (.val 4#2) none (.bi .tuple [4#0])]),
 .dF 4#0 "trim" 4#3,
 .dF 4#0 "heel" 4#4]⟩
noncomputable def FE:Fn:=⟨1,2,[.set 4#1 (.idx 4#0 (.ci 1)),
 .ife (.cmp .Eq (.bi .len [4#1]) (.ci 0)) [rz] [],
 .ret (.tup [.idx 4#0 (.ci 0), .bi .tuple [.comp 1 [] 4#0 (.val 4#1) none (.call 5 [4#0])]])]⟩
noncomputable def CG:Fn:=⟨1,1,[.ret (.tup [.idx 4#0 (.ci 0), .call 6 [.idx 4#0 (.ci 1)], .call 6 [.idx 4#0 (.ci 2)]])]⟩
noncomputable def yW:Fn:=⟨1,1,[.ret (.call 7 [.idx 4#0 (.ci 0), .idx 4#0 (.ci 1), .idx 4#0 (.ci 2), .bi .tuple [.idx 4#0 (.ci 3)], .idx 4#0 (.ci 4)])]⟩
noncomputable def vd:Fn:=⟨5,5,[.ife (.or (.cmp .Lt 4#0 (.ci 0)) (.cmp .Gt 4#0 (.ci 9))) [rz] [],
 .ife (.or (.cmp .Lt 4#1 (.ci 0)) (.or (.cmp .Lt 4#2 (.ci 0)) (.cmp .Lt 4#4 (.ci 0)))) [rz] [],
 .ife (.not (.call 8 [4#3, 4#0])) [rz] [],
 .ret (.tup [4#0, 4#1, 4#2, 4#3, 4#4])]⟩
noncomputable def sT:Fn:=⟨2,4,[.set 4#2 (.ci 0),
 .for 4#3 (.val 4#0) [.ife (.or (.cmp .Lt 4#3 4#2) (.cmp .GtE 4#3 4#1)) [.ret 8#33] [], .set 4#2 (.bin .Add 4#3 (.ci 1))],
 .ret (.const (.bl true))]⟩
noncomputable def ir9:Fn:=⟨1,5,[.set 4#1 (.lst []),
 .for 4#2 (.rng1 (.bi .len [.fld 4#0 "bays"])) [.set 4#3 (.bi .len [.idx (.idx (.fld 4#0 "bays") 4#2) (.ci 1)]), .for 4#4 (.val (.tup [.ci 0, .ci 1])) [.expr (.bm .extend 4#1 [.comp 1 [2,4] 4#0 (.rng1 4#3) none (.tup [4#1, 4#0, 4#2])])]],
 .ret 4#1]⟩
noncomputable def AJ:Fn:=⟨1,3,[.set 4#1 (.lst []),
 .for 4#2 (.val (.call 9 [4#0])) [.expr (.bm .extend 4#1 [.call 11 [4#0, 4#2]])],
 .ret 4#1]⟩
noncomputable def Bt:Fn:=⟨2,2,[.ret (.comp 1 [1] 4#0 (.rng1 (.idx (.call 12 [4#0, 4#1]) (.ci 0))) none (.bin .Add 4#1 (.tup [4#0])))]⟩
noncomputable def EV:Fn:=⟨2,2,[.ret (.idx (.call 13 [4#0, 4#1]) (.bin .Add (.ci 1) (.idx 4#1 (.ci 2))))]⟩
noncomputable def Gy:Fn:=⟨2,2,[.ife (.not (.call 14 [4#0, 4#1])) [rz] [],
 .ret (.idx (.idx (.idx (.fld 4#0 "bays") (.idx 4#1 (.ci 0))) (.ci 1)) (.idx 4#1 (.ci 1)))]⟩
noncomputable def GH:Fn:=⟨2,2,[.ife (.or (.cmp .Lt (.idx 4#1 (.ci 0)) (.ci 0)) (.cmp .GtE (.idx 4#1 (.ci 0)) (.bi .len [.fld 4#0 "bays"]))) [.ret 8#33] [],
 .ife (.or (.cmp .Lt (.idx 4#1 (.ci 1)) (.ci 0)) (.cmp .GtE (.idx 4#1 (.ci 1)) (.bi .len [.idx (.idx (.fld 4#0 "bays") (.idx 4#1 (.ci 0))) (.ci 1)]))) [.ret 8#33] [],
 .ret (.cmp .In (.idx 4#1 (.ci 2)) (.tup [.ci 0, .ci 1]))]⟩
noncomputable def F9:Fn:=⟨2,4,[.fQ 4#1 (.ci 0) (.bin .Add (.idx 4#1 (.ci 0)) (.ci 1)),
 .set 4#2 (.ci 0),
 .ife (.cmp .Gt (.bi .len [4#0]) (.ci 0)) [.set 4#2 (.idx 4#0 (.bin .Mod (.idx 4#1 (.ci 0)) (.bi .len [4#0])))] [],
 .set 4#3 (.bin .Mod (.bin .Mult (.bin .Add (.bin .Add (.bin .Mod 4#2 (.ci 2147483647)) (.bin .Mult (.bin .Mult (.idx 4#1 (.ci 0)) (.idx 4#1 (.ci 0))) (.ci 7919))) (.ci 11)) (.ci 48271)) (.ci 2147483647)),
 .ret (.bin .Mod (.bin .Mult 4#3 4#3) (.ci 1999999973))]⟩
noncomputable def rh:Fn:=⟨3,5,[.set 4#3 8#20,
 .set 4#4 (.ci 0),
 .ife (.cmp .Gt (.bi .len [4#0]) (.ci 0)) [.set 4#4 (.idx 4#0 (.bin .Mod (.idx 4#1 (.ci 0)) (.bi .len [4#0])))] [],
 .ife (.cmp .Lt (.bin .Mod 4#3 (.ci 3)) (.ci 2)) [.ret (.bin .Mod (.bin .FloorDiv 4#3 (.ci 3)) 4#2)] [],
 .ret (.bin .Mod (.bin .Add (.bin .Mod 4#4 (.bin .Pow (.ci 10) (.ci 40))) (.bin .Mult 4#3 (.bin .Pow (.ci 10) (.ci 29)))) (.bin .Pow (.ci 10) (.ci 40)))]⟩
noncomputable def Fx:Fn:=⟨3,6,[.set 4#3 8#20,
 .set 4#4 (.bin .Mod 4#3 (.bin .Add 4#2 (.ci 1))),
 .set 4#5 (.comp 1 [3] 4#0 (.rng1 4#4) 1#(.cmp .Gt (.bin .Mod (.bin .FloorDiv (.bin .FloorDiv 4#1 (.ci 10)) (.bin .Add (.bin .Mult 4#0 4#0) (.ci 1))) (.ci 3)) (.ci 0)) 4#0),
 .ret (.tup [4#4, .bin .Add (.ci 5) (.bin .Mod (.bin .FloorDiv 4#3 (.ci 7)) (.ci 40)), .bin .Add (.ci 5) (.bin .Mod (.bin .FloorDiv 4#3 (.ci 300)) (.ci 30)), 4#5, .bin .Mod (.bin .FloorDiv 4#3 (.ci 9000)) (.ci 60)])]⟩
noncomputable def iw:Fn:=⟨2,2,[.ife (.bi (.bF "dict") [4#1]) [.ife (.or (.not (.bi (.bF "dict") [4#0])) (.cmp .NotEq (.bi .len [4#0]) (.bi .len [4#1]))) [.ret 8#33] [], .ret (.bi .all [.comp 1 [1,0] 4#0 (.val 4#1) none (.and (.cmp .In 4#0 4#2) (.call 18 [.idx 4#2 4#0, .idx 4#1 4#0]))])] [],
 .ife (.or (.bi (.bF "list") [4#1]) (.bi (.bF "tuple") [4#1])) [.ife (.or (.cmp .NotEq (.bi (.bF "list") [4#0]) (.bi (.bF "list") [4#1])) (.cmp .NotEq (.bi (.bF "tuple") [4#0]) (.bi (.bF "tuple") [4#1]))) [.ret 8#33] [], .ret (.and (.cmp .Eq (.bi .len [4#0]) (.bi .len [4#1])) (.bi .all [.comp 2 [] (.tup [4#0, 4#1]) (.zip 4#0 4#1) none (.call 18 [4#0, 4#1])]))] [],
 .ife (.bi (.bF "str") [4#1]) [.ret (.and (.bi (.bF "str") [4#0]) (.cmp .Eq 4#0 4#1))] [],
 .ret (.and (.bi (.bF "int") [4#0]) (.and (.not (.bi (.bF "bool") [4#0])) (.cmp .Eq 4#0 4#1)))]⟩
noncomputable def Gg:Fn:=⟨2,3,[.set 4#2 (.slc 4#1 none 1#(.ci 3)),
 .ret (.and (.call 14 [4#0, 4#2]) (.and (.cmp .GtE (.idx 4#1 (.ci 3)) (.ci 0)) (.cmp .Lt (.idx 4#1 (.ci 3)) (.idx (.call 12 [4#0, 4#2]) (.ci 0)))))]⟩
noncomputable def F8:Fn:=⟨1,1,[.ret (.tup [.idx 4#0 (.ci 0), .idx 4#0 (.ci 2), .idx 4#0 (.ci 1), .idx 4#0 (.ci 3)])]⟩
noncomputable def Hx:Fn:=⟨3,3,[.dF 4#0 "ship" 4#1,
 .dF 4#0 "placed" (.bi .tuple [.sortK 4#2 34]),
 .dF 4#0 "box_by_cell" (.fz (.dOf (.fld 4#0 "placed"))),
 .dF 4#0 "cell_by_name" (.fz (.dOf (.comp 2 [] (.tup [4#0, 4#1]) (.val (.fld 4#0 "placed")) none (.tup [.idx 4#1 (.ci 0), 4#0])))),
 .expr (.call 35 [4#0])]⟩
noncomputable def G6:Fn:=⟨1,1,[.ret (.call 32 [.idx 4#0 (.ci 0)])]⟩
noncomputable def Gb:Fn:=⟨1,2,[.ife (.cmp .Lt (.bi .len [.fld 4#0 "box_by_cell"]) (.bi .len [.fld 4#0 "placed"])) [rz] [],
 .ife (.cmp .Lt (.bi .len [.fld 4#0 "cell_by_name"]) (.bi .len [.fld 4#0 "placed"])) [rz] [],
 .for 4#1 (.val (.fld 4#0 "box_by_cell")) [.ife (.not (.call 31 [.fld 4#0 "ship", 4#1])) [rz] [], .ife (.not (.call 36 [4#0, 4#1])) [rz] []]]⟩
noncomputable def E9:Fn:=⟨2,2,[.ret (.or (.cmp .Eq (.idx 4#1 (.ci 3)) (.ci 0)) (.cmp .IsNot (.call 37 [4#0, .bin .Add (.slc 4#1 none 1#(.ci 3)) (.tup [.bin .Sub (.idx 4#1 (.ci 3)) (.ci 1)])]) (.const (.non))))]⟩
noncomputable def Hf:Fn:=⟨2,2,[.ret (.bm .get (.fld 4#0 "box_by_cell") [4#1])]⟩
noncomputable def FP:Fn:=⟨3,11,[.set 4#3 (.const (.str "abcdefghijklmnopqrstuvwxyz")),
 .set 4#4 8#20,
 .set 4#5 (.bin .Add (.idx 4#3 (.bin .Mod (.bin .FloorDiv 4#4 (.ci 6)) (.ci 26))) (.idx 4#3 (.bin .Mod (.bin .FloorDiv 4#4 (.ci 156)) (.ci 26)))),
 .set 4#6 (.idx (.lst [.ci 1, .ci 3, .ci 5, .ci 7, .ci 9, .ci 11]) (.bin .Mod 4#4 (.ci 6))),
 .set 4#7 (.bin .Mod (.bin .FloorDiv 4#4 (.ci 4056)) (.ci 3)),
 .set 4#8 (.lst []),
 .for 4#9 (.rng1 4#2) [.set 4#10 (.idx 4#3 (.bin .Mod (.bin .Add (.bin .FloorDiv 4#4 (.ci 156)) (.bin .Mult 4#9 4#6)) (.ci 26))), .ife (.and (.cmp .Eq (.bin .Mod (.bin .FloorDiv 4#4 (.ci 12168)) (.ci 4)) (.ci 0)) (.cmp .Lt 4#2 (.ci 13))) [.expr (.bm .append 4#8 [.bin .Mult (.idx 4#3 (.bin .Mod (.bin .FloorDiv 4#4 (.ci 6)) (.ci 26))) (.bin .Add 4#9 (.ci 1))])] [.expr (.bm .append 4#8 [.bin .Add (.bin .Add (.slc 4#5 none 1#4#7) 4#10) (.slc 4#5 1#4#7 none)])]],
 .ret 4#8]⟩
noncomputable def FH:Fn:=⟨5,14,[.set 4#5 (.lst []),
 .for 4#6 (.rng1 (.bin .Add (.ci 1) (.bin .Mod 8#20 4#2))) [.set 4#7 (.lst []), .for 4#8 (.rng1 (.bin .Add (.ci 1) (.bin .Mod 8#20 4#3))) [.set 4#9 (.bin .Sub (.bin .Mod 8#20 (.ci 9)) (.ci 4)), .set 4#10 (.call 17 [4#0, 4#1, 4#4]), .expr (.bm .append 4#7 [.tup [4#9, 4#10, .call 17 [4#0, 4#1, 4#4]]])], .expr (.bm .append 4#5 [.tup [.bin .Sub (.bin .Mod 8#20 (.ci 21)) (.ci 10), 4#7]])],
 .set 4#11 8#20,
 .set 4#12 (.lst [.const (.str "dry"), .const (.str "wet"), .const (.str "hot")]),
 .set 4#13 (.slc (.lst [.tup [.idx 4#12 (.bin .Mod 4#11 (.ci 3)), .idx 4#12 (.bin .Mod (.bin .FloorDiv 4#11 (.ci 3)) (.ci 3))], .tup [.idx 4#12 (.bin .Mod (.bin .FloorDiv 4#11 (.ci 9)) (.ci 3)), .const (.str "oil")]]) none 1#(.bin .Mod (.bin .FloorDiv 4#11 (.ci 27)) (.ci 3))),
 .ret (.make 9 [4#5, 4#13, .bin .Mod (.bin .FloorDiv 4#11 (.ci 81)) (.ci 200), .bin .Mod (.bin .FloorDiv 4#11 (.ci 16200)) (.ci 100)])]⟩
noncomputable def GW:Fn:=⟨3,5,[.set 4#3 8#20,
 .set 4#4 (.idx (.lst [.const (.str "dry"), .const (.str "wet"), .const (.str "hot"), .const (.str "oil")]) (.bin .Mod 4#3 (.ci 4))),
 .ret (.tup [4#2, .bin .Mod (.bin .FloorDiv 4#3 (.ci 4)) (.ci 12), .bin .Mod (.bin .FloorDiv 4#3 (.ci 48)) (.ci 9), .bi .int [.cmp .Eq (.bin .Mod (.bin .FloorDiv 4#3 (.ci 432)) (.ci 4)) (.ci 0)], 4#4, .bin .Mod (.bin .FloorDiv 4#3 (.ci 1728)) (.ci 5)])]⟩
noncomputable def Fd:Fn:=⟨3,3,[.ret (.comp 1 [1,0] 4#0 (.val (.call 40 [4#0, 4#1, 4#2])) none (.call 42 [4#2, 4#1, 4#0]))]⟩
noncomputable def Fp:Fn:=⟨4,10,[.set 4#4 (.dct [] []),
 .set 4#5 (.lst []),
 .set 4#6 (.call 9 [4#2]),
 .for 4#7 (.val 4#3) [.set 4#8 (.idx 4#6 (.bin .Mod 8#20 (.bi .len [4#6]))), .set 4#9 (.bm .get 4#4 [4#8, .ci 0]), .ife (.cmp .Lt 4#9 (.idx (.call 12 [4#2, 4#8]) (.ci 0))) [.fQ 4#4 4#8 (.bin .Add 4#9 (.ci 1)), .expr (.bm .append 4#5 [.tup [.bin .Add 4#8 (.tup [4#9]), 4#7]])] []],
 .ret 4#5]⟩
noncomputable def Ih:Fn:=⟨2,4,[.set 4#2 (.lst []),
 .for 4#3 (.val (.call 10 [4#0])) [.expr (.bm .extend 4#2 [.comp 1 [3] 4#0 (.val 4#1) 1#(.cmp .Eq (.idx 4#0 (.ci 0)) 4#1) 4#0])],
 .ret 4#2]⟩
noncomputable def LZ:Fn:=⟨1,1,[.ret (.const (.str "none"))]⟩
noncomputable def Hi:Fn:=⟨3,3,[.ret (.and (.cmp .IsNot (.call 37 [4#1, 4#2]) (.const (.non))) (.meth 4#0 "breaks" [4#1, 4#2]))]⟩
noncomputable def Nj:Fn:=⟨3,3,[.ret 8#33]⟩
noncomputable def Hw:Fn:=⟨1,1,[.ret (.const (.str "strength"))]⟩
noncomputable def EG:Fn:=⟨3,4,[.set 4#3 (.comp 1 [] 4#0 (.val (.call 65 [4#1, 4#2])) none (.idx 4#0 (.ci 1))),
 .ret (.cmp .Gt (.bi .sum [4#3]) (.idx (.call 12 [.fld 4#1 "ship", .slc 4#2 none 1#(.ci 3)]) (.ci 1)))]⟩
noncomputable def GI:Fn:=⟨1,1,[.ret (.const (.str "height"))]⟩
noncomputable def F7:Fn:=⟨3,4,[.set 4#3 (.comp 1 [] 4#0 (.val (.call 65 [4#1, 4#2])) none (.idx 4#0 (.ci 2))),
 .ret (.cmp .Gt (.bi .sum [4#3]) (.idx (.call 12 [.fld 4#1 "ship", .slc 4#2 none 1#(.ci 3)]) (.ci 2)))]⟩
noncomputable def Ga:Fn:=⟨1,1,[.ret (.const (.str "cold"))]⟩
noncomputable def Ff:Fn:=⟨3,4,[.set 4#3 (.cmp .Eq (.idx (.call 37 [4#1, 4#2]) (.ci 3)) (.ci 1)),
 .ret (.and 4#3 (.cmp .NotIn (.idx 4#2 (.ci 3)) (.idx (.call 12 [.fld 4#1 "ship", .slc 4#2 none 1#(.ci 3)]) (.ci 3))))]⟩
noncomputable def Ie:Fn:=⟨1,1,[.ret (.const (.str "apart"))]⟩
noncomputable def ED:Fn:=⟨3,5,[.set 4#3 (.idx (.call 37 [4#1, 4#2]) (.ci 4)),
 .set 4#4 (.comp 1 [1] 4#0 (.val (.call 68 [4#2])) none (.call 37 [4#1, 4#0])),
 .ret (.bi .any [.comp 1 [1,3] 4#0 (.val 4#4) 1#(.cmp .IsNot 4#0 (.const (.non))) (.call 66 [.fld 4#1 "ship", 4#2, .idx 4#0 (.ci 4)])])]⟩
noncomputable def HF:Fn:=⟨1,1,[.ret (.const (.str "lash"))]⟩
noncomputable def FF:Fn:=⟨3,4,[.set 4#3 (.comp 2 [] (.tup [4#0, 4#1]) (.enm (.call 65 [4#1, 4#2])) none (.bin .Mult (.idx 4#1 (.ci 1)) (.bin .Add 4#0 (.ci 1)))),
 .ret (.and (.cmp .Eq (.idx 4#2 (.ci 2)) (.ci 1)) (.cmp .Gt (.bi .sum [4#3]) (.idx (.call 12 [.fld 4#1 "ship", .slc 4#2 none 1#(.ci 3)]) (.ci 4))))]⟩
noncomputable def EX:Fn:=⟨2,2,[.ret (.comp 1 [1,0] 4#0 (.rng1 (.bin .Add (.idx 4#1 (.ci 3)) (.ci 1))) none (.call 37 [4#2, .bin .Add (.slc 4#1 none 1#(.ci 3)) (.tup [4#0])]))]⟩
noncomputable def Gf:Fn:=⟨3,3,[.ret (.or (.cmp .In (.tup [4#1, 4#2]) (.fld 4#0 "foes")) (.cmp .In (.tup [4#2, 4#1]) (.fld 4#0 "foes")))]⟩
noncomputable def FW:Fn:=⟨2,2,[.ife (.or (.cmp .NotEq (.idx 4#0 (.ci 0)) (.idx 4#1 (.ci 0))) (.cmp .NotEq (.idx 4#0 (.ci 2)) (.idx 4#1 (.ci 2)))) [.ret 8#33] [],
 .ret (.and (.cmp .LtE (.bi .abs [.bin .Sub (.idx 4#0 (.ci 1)) (.idx 4#1 (.ci 1))]) (.ci 1)) (.and (.cmp .LtE (.bi .abs [.bin .Sub (.idx 4#0 (.ci 3)) (.idx 4#1 (.ci 3))]) (.ci 1)) (.cmp .NotEq 4#0 4#1)))]⟩
noncomputable def GX:Fn:=⟨1,3,[.set 4#1 (.lst []),
 .for 4#2 (.rng2 (.bin .Sub (.idx 4#0 (.ci 1)) (.ci 1)) (.bin .Add (.idx 4#0 (.ci 1)) (.ci 2))) [.expr (.bm .extend 4#1 [.comp 1 [0,2] 4#0 (.rng2 (.bin .Sub (.idx 4#0 (.ci 3)) (.ci 1)) (.bin .Add (.idx 4#0 (.ci 3)) (.ci 2))) none (.tup [.idx 4#1 (.ci 0), 4#2, .idx 4#1 (.ci 2), 4#0])])],
 .ret (.comp 1 [0] 4#0 (.val 4#1) 1#(.call 67 [4#1, 4#0]) 4#0)]⟩
noncomputable def lO:Fn:=⟨4,11,[.set 4#4 (.call 12 [4#0, .slc 4#3 none 1#(.ci 3)]),
 .set 4#5 (.idx (.comp 1 [3] 4#0 (.val 4#1) 1#(.cmp .Eq (.idx 4#0 (.ci 0)) 4#1) (.idx 4#0 (.ci 1))) (.ci 0)),
 .set 4#6 (.comp 1 [3] 4#0 (.val 4#1) 1#8#19 4#0),
 .ife (.cmp .Eq 4#2 (.const (.str "strength"))) [.ret (.cmp .Gt (.bi .sum [.comp 2 [] (.tup [4#0, 4#1]) (.val 4#6) none (.idx 4#1 (.ci 1))]) (.idx 4#4 (.ci 1)))] [],
 .ife (.cmp .Eq 4#2 (.const (.str "height"))) [.ret (.cmp .Gt (.bi .sum [.comp 2 [] (.tup [4#0, 4#1]) (.val 4#6) none (.idx 4#1 (.ci 2))]) (.idx 4#4 (.ci 2)))] [],
 .ife (.cmp .Eq 4#2 (.const (.str "cold"))) [.ret (.and (.cmp .Eq (.idx 4#5 (.ci 3)) (.ci 1)) (.cmp .NotIn (.idx 4#3 (.ci 3)) (.idx 4#4 (.ci 3))))] [],
 .ife (.cmp .Eq 4#2 (.const (.str "lash"))) [.set 4#9 (.bi .sum [.comp 2 [] (.tup [4#0, 4#1]) (.val 4#6) none (.bin .Mult (.idx 4#1 (.ci 1)) (.bin .Add (.idx 4#0 (.ci 3)) (.ci 1)))]), .ret (.and (.cmp .Eq (.idx 4#3 (.ci 2)) (.ci 1)) (.cmp .Gt 4#9 (.idx 4#4 (.ci 4))))] [],
 .for (.tup [4#7, 4#8]) (.val 4#1) [.set 4#10 (.and (.cmp .Eq (.idx 4#7 (.ci 0)) (.idx 4#3 (.ci 0))) (.and (.cmp .Eq (.idx 4#7 (.ci 2)) (.idx 4#3 (.ci 2))) (.cmp .NotEq 4#7 4#3))), .set 4#10 (.and 4#10 (.cmp .Lt (.bi .abs [.bin .Sub (.idx 4#7 (.ci 1)) (.idx 4#3 (.ci 1))]) (.ci 2))), .ife (.and 4#10 (.cmp .Lt (.bi .abs [.bin .Sub (.idx 4#7 (.ci 3)) (.idx 4#3 (.ci 3))]) (.ci 2))) [.ife (.cmp .In (.tup [.idx 4#5 (.ci 4), .idx 4#8 (.ci 4)]) (.fld 4#0 "foes")) [.ret (.const (.bl true))] [], .ife (.cmp .In (.tup [.idx 4#8 (.ci 4), .idx 4#5 (.ci 4)]) (.fld 4#0 "foes")) [.ret (.const (.bl true))] []] []],
 .ret 8#33]⟩
noncomputable def qC:Fn:=⟨3,13,[.set 4#3 (.lst []),
 .for (.tup [4#4, 4#5]) (.val (.fld 4#0 "bays")) [.set 4#6 (.lst []), .for (.tup [4#7, 4#8, 4#9]) (.val 4#5) [.set 4#10 (.lst []), .for 4#11 (.val (.tup [4#8, 4#9])) [.expr (.bm .append 4#10 [.tup [.idx 4#11 (.ci 0), .bin .Mult (.idx 4#11 (.ci 1)) 4#2, .idx 4#11 (.ci 2), .idx 4#11 (.ci 3), .bin .Mult (.idx 4#11 (.ci 4)) 4#2]])], .expr (.bm .append 4#6 [.tup [4#7, .idx 4#10 (.ci 0), .idx 4#10 (.ci 1)]])], .expr (.bm .append 4#3 [.tup [4#4, 4#6]])],
 .set 4#12 (.comp 2 [2] (.tup [4#0, 4#1]) (.val 4#1) none (.tup [4#0, .bin .Add (.tup [.idx 4#1 (.ci 0), .bin .Mult (.idx 4#1 (.ci 1)) 4#2]) (.slc 4#1 1#(.ci 2) none)])),
 .ret (.tup [.make 9 [4#3, .bi .list [.fld 4#0 "foes"], .bin .Mult (.fld 4#0 "trim") 4#2, .bin .Mult (.fld 4#0 "heel") 4#2], 4#12])]⟩
noncomputable def FJ:Fn:=⟨0,0,[.ret (.lst [.make 12 [], .make 13 [], .make 14 [], .make 15 [], .make 16 []])]⟩
noncomputable def E3:Fn:=⟨1,5,[.set 4#1 (.call 73 []),
 .set 4#2 (.lst []),
 .for (.tup [4#3, 4#4]) (.val (.fld 4#0 "placed")) [.expr (.bm .extend 4#2 [.comp 1 [3,0] 4#0 (.val 4#1) 1#(.meth 4#0 "broken" [4#2, 4#1]) (.tup [.meth 4#0 "word" [], 4#1])])],
 .ret 4#2]⟩
noncomputable def GO:Fn:=⟨1,1,[.ret (.cmp .Eq (.bi .len [.call 74 [4#0]]) (.ci 0))]⟩
noncomputable def FX:Fn:=⟨2,6,[.set 4#2 (.lst []),
 .for (.tup [4#3, 4#4]) (.val (.call 45 [4#0, 4#1])) [.for 4#5 (.val (.tup [.const (.str "strength"), .const (.str "height"), .const (.str "cold"), .const (.str "apart"), .const (.str "lash")])) [.ife (.call 69 [4#0, 4#1, 4#5, 4#3]) [.expr (.bm .append 4#2 [.tup [4#5, 4#3]])] []]],
 .ret 4#2]⟩
noncomputable def Hr:Fn:=⟨2,4,[.set 4#2 (.call 76 [4#0, 4#1]),
 .whl (.cmp .Gt (.bi .len [4#2]) (.ci 0)) [.set 4#3 (.idx (.idx 4#2 (.bin .Sub (.bi .len [4#2]) (.ci 1))) (.ci 1)), .set 4#1 (.comp 1 [3] 4#0 (.val 4#1) 1#9#5 4#0), .set 4#2 (.call 76 [4#0, 4#1])],
 .ret 4#1]⟩
noncomputable def Hn:Fn:=⟨1,10,[.set 4#1 (.lst [.ci 0]),
 .for 4#2 (.rng1 (.bin .Add (.ci 1) (.bin .FloorDiv (.bi .len [.slc 4#0 none 1#(.ci 60)]) (.ci 20)))) [.set 4#3 (.call 41 [4#0, 4#1, .ci 2, .ci 3, .ci 4]), .set 4#4 (.call 44 [4#0, 4#1, 4#3, .call 43 [4#0, 4#1, .bin .Mod 8#20 (.ci 11)]]), .set 4#5 8#20, .ife (.cmp .Eq (.bin .Mod 4#5 (.ci 3)) (.ci 0)) [.set (.tup [4#3, 4#4]) (.call 70 [4#3, 4#4, .bin .Add (.ci 1) (.call 16 [4#0, 4#1, .ci 3])])] [], .ife (.cmp .Eq (.bin .Mod (.bin .FloorDiv 4#5 (.ci 3)) (.ci 2)) (.ci 0)) [.set 4#4 (.call 77 [4#3, 4#4])] [], .set 4#6 (.make 10 [4#3, 4#4]), .set 4#7 (.call 76 [4#3, 4#4]), .set 4#8 (.call 75 [4#6]), .ife (.or (.not (.bi (.bF "bool") [4#8])) (.cmp .NotEq 4#8 (.cmp .Eq (.bi .len [4#7]) (.ci 0)))) [.ret 8#33] [], .set 4#9 (.call 74 [4#6]), .ife (.not (.call 18 [4#9, 4#7])) [.ret 8#33] [], .expr (.bm .append 4#9 [.tup [.const (.str "none"), .tup [.ci 0, .ci 0, .ci 0, .ci 0]]]), .ife (.not (.call 18 [.call 74 [4#6], 4#7])) [.ret 8#33] []],
 .ret (.const (.bl true))]⟩
mutual
noncomputable def Val.tree:Val->Bool
 | .tup _ xs=>trees xs
 | .lst xs=>trees xs
 | .dct ks vs=>trees ks&&trees vs
 | .obj _ _ vs=>trees vs
 | .ref _=>false
 | .non=>true
 | .bl _=>true
 | .int _=>true
 | .str _=>true
noncomputable def trees:2#Val->Bool
 |[]=>true
 |v::r=>v.tree&&trees r
end
@[simp]theorem LW:Val.non.tree=true:=rfl
@[simp]theorem NP (b:Bool):(Val.bl b).tree=true:=rfl
@[simp]theorem Mo (b:Int):(Val.int b).tree=true:=rfl
@[simp]theorem Lq (b:Str):(Val.str b).tree=true:=rfl
@[simp]theorem MR (f:Bool) (xs:2#Val):(Val.tup f xs).tree=trees xs:=rfl
@[simp]theorem LN (xs:2#Val):(Val.lst xs).tree=trees xs:=rfl
@[simp]theorem KY (ks xs:2#Val):(Val.dct ks xs).tree=(trees ks&&trees xs):=rfl
@[simp]theorem M0 (c:Nat) (ns:2#Str) (xs:2#Val):(Val.obj c ns xs).tree=trees xs:=rfl
@[simp]theorem LI (k:Nat):(Val.ref k).tree=false:=rfl
@[simp]theorem Kv:trees []=true:=rfl
@[simp]theorem Jj (v:Val) (r:2#Val):trees (v::r)=(v.tree&&trees r):=rfl
@[simp]theorem yR:∀a b:2#Val,trees (a++b)=(trees a&&trees b)
 |[],b=>by simp
 |v::a,b=>by simp[yR a b,Bool.and_assoc]
theorem o9:∀xs:2#Val,trees xs=true↔∀v∈xs,v.tree=true
 |[]=>by simp
 |v::r=>by simp[o9 r]
theorem aK {α:Type} (f:α->Val) (xs:2#α) (h:∀a,(f a).tree=true):trees (xs.map f)=true:=by
 rw[o9];intro v hv;let⟨a,_,rfl⟩:=aaC.mp hv;exact h a
@[simp]theorem IC (xs:2#Int):trees (xs.map .int)=true:=aK _ _ λ_=>by simp
mutual
theorem tH (f:Nat->5#Val):∀v:Val,v.tree=true->v.sub f=1#v
 | .tup g xs,h=>by rw[Val.sub,cD f xs (by simpa using h)];rfl
 | .lst xs,h=>by rw[Val.sub,cD f xs (by simpa using h)];rfl
 | .dct ks vs,h=>by rw[Val.sub,cD f vs (by simp at h;exact h.2)];rfl
 | .obj c ns vs,h=>by rw[Val.sub,cD f vs (by simpa using h)];rfl
 | .ref k,h=>by simp at h
 | .non,_=>by simp[Val.sub]
 | .bl _,_=>by simp[Val.sub]
 | .int _,_=>by simp[Val.sub]
 | .str _,_=>by simp[Val.sub]
theorem cD (f:Nat->5#Val):∀xs:2#Val,trees xs=true->subs f xs=1#xs
 |[],_=>by simp[subs]
 |v::r,h=>by
  simp at h;rw[subs,tH f v h.1,cD f r h.2];rfl
end
mutual
theorem Ek (n:Nat):∀v:Val,v.tree=true->v.bd n=true
 | .tup g xs,h=>by rw[Val.bd];exact dD n xs (by simpa using h)
 | .lst xs,h=>by rw[Val.bd];exact dD n xs (by simpa using h)
 | .dct ks vs,h=>by
  simp at h;rw[Val.bd,dD n ks h.1,dD n vs h.2];rfl
 | .obj c ns vs,h=>by rw[Val.bd];exact dD n vs (by simpa using h)
 | .ref k,h=>by simp at h
 | .non,_=>by simp[Val.bd]
 | .bl _,_=>by simp[Val.bd]
 | .int _,_=>by simp[Val.bd]
 | .str _,_=>by simp[Val.bd]
theorem dD (n:Nat):∀xs:2#Val,trees xs=true->dy n xs=true
 |[],_=>by simp[dy]
 |v::r,h=>by
  simp at h;rw[dy,Ek n v h.1,dD n r h.2];rfl
end
theorem iX (st:aa) (n x:Nat) (v:Val) (h:v.tree=true):v.aG st n x=1#v:=tH _ v h
theorem a8 (st:aa) (n x:Nat) (vs:2#Val) (h:trees vs=true):aV st n x vs=1#vs:=cD _ vs h
theorem l9 {v:Val} (h:v.tree=true):isRef v=none:=by cases v<;>first|rfl|simp at h
@[simp low] theorem sP (st:aa) (v:Val) (h:v.tree=true):res st v=v:=by cases v<;>first|rfl|simp at h
theorem cM (P:Pg) (st g:aa) (v:Val) (h:v.tree=true):fin P st v (st++g)= .ok v st:=by
 rw[fh P st _ v v (eF st g) (iX _ _ _ v h) (l9 h)];simp
theorem fK (P:Pg) (st:aa) (v:Val) (h:v.tree=true):fin P st v st= .ok v st:=by
 have:=cM P st [] v h;simpa using this
theorem qY (z z':Int) (s g:aa):Old (.lst [6#z]::s) (.lst [6#z']::(s++g)):=by
 have:=uG (.lst [6#z]::s) g 0 (.lst [6#z']) (dD _ _ 8#5);simpa using this
theorem rQ (P:Pg) (z z':Int) (s g:aa) (v:Val) (h:v.tree=true):fin P (.lst [6#z]::s) v (.lst [6#z']::(s++g))= .ok v (.lst [6#z']::s):=by
 rw[fh P _ _ v v (qY z z' s g) (iX _ _ _ v h) (l9 h)];simp
theorem vy (P:Pg) (z z':Int) (s:aa) (v:Val) (h:v.tree=true):fin P (.lst [6#z]::s) v (.lst [6#z']::s)= .ok v (.lst [6#z']::s):=by
 have:=rQ P z z' s [] v h;simpa using this
theorem DT (P:Pg) (z z':Int) (s g:aa) (v v':Val) (hr:isRef v=none) (h:v.aG (.lst [6#z']::(s++g)) (0#s+1) (0#s+1+0#g)=1#v'):fin P (.lst [6#z]::s) v (.lst [6#z']::(s++g))= .ok v' (.lst [6#z']::s):=by
 rw[fh P _ _ v v' (qY z z' s g) (by rw[←h];congr 1;simp;lia) hr];simp
theorem n8 (P:Pg) (z z':Int) (s g:aa) (j:Nat) (xs ys:2#Val) (hj:g[j]?=1#7#xs) (h:aV (.lst [6#z']::(s++g)) (0#s+1) (0#s+1+j) xs=1#ys):fin P (.lst [6#z]::s) 3#(0#s+1+j) (.lst [6#z']::(s++g))= .ok 3#(0#s+1) (.lst [6#z']::(s++[7#ys])):=by
 unfold fin;rw[if_pos (qY z z' s g)]
 have e:(Ob.lst [6#z']::(s++g))[0#s+1+j]?=1#7#xs:=by
  rw[show 0#s+1+j=(0#s+j)+1 by lia,abD,aal 8#0];rw[←hj];congr 1;lia
 simp[e,h]
theorem cH (P:Pg) (s g:aa) (j:Nat) (xs ys:2#Val) (hj:g[j]?=1#7#xs) (h:aV (s++g) 0#s (0#s+j) xs=1#ys):fin P s 3#(0#s+j) (s++g)= .ok 3#0#s (s++[7#ys]):=by
 unfold fin;rw[if_pos (eF s g)]
 have e:(s++g)[0#s+j]?=1#7#xs:=by
  rw[aal 8#0,←hj];congr 1;lia
 simp[e,h]
@[simp 5000] theorem n9 (s g:aa) (j:Nat):(s++g)[0#s+j]?=g[j]?:=by
 rw[aal 8#0];congr 1;lia
@[simp 5000] theorem Nc (s g:aa):(s++g)[0#s]?=g[0]?:=n9 s g 0
@[simp 5000] theorem CP (s g:aa) (j:Nat) (o:Ob):(s++g).set (0#s+j) o=s++g.set j o:=by
 rw[List.set_append_right _ _ 8#0];congr 2;lia
@[simp 5000] theorem M7 (s g:aa) (o:Ob):(s++g).set 0#s o=s++g.set 0 o:=CP s g 0 o
def bg {α β:Type} (R:α->β->Prop):2#α->2#β->Prop
 |[],[]=>True
 |a::as,b::bs=>R a b/\bg R as bs
 |_,_=>False
theorem bg.imp {α β:Type} {R S:α->β->Prop} (h:∀a b,R a b->S a b):∀{as:2#α} {bs:2#β},bg R as bs->bg S as bs
 |[],[],_=>trivial
 |_::_,_::_,q=>⟨h _ _ q.1,q.2.imp h⟩
theorem bg.len {α β:Type} {R:α->β->Prop}:∀{as:2#α} {bs:2#β},bg R as bs->0#as=0#bs
 |[],[],_=>rfl
 |_::_,_::_,q=>by simp[q.2.len]
theorem bg.map {α β γ:Type} {R:γ->β->Prop} (f:α->γ) (g:α->β) (h:∀a,R (f a) (g a)):∀as:2#α,bg R (as.map f) (as.map g)
 |[]=>trivial
 |a::as=>⟨h a,bg.map f g h as⟩
theorem bg.AR {α β γ:Type} {R:α->β->Prop} {S:α->γ->Prop} (f:β->γ) (h:∀a b,R a b->S a (f b)):∀{as:2#α} {bs:2#β},bg R as bs->bg S as (bs.map f)
 |[],[],_=>trivial
 |_::_,_::_,q=>⟨h _ _ q.1,q.2.AR f h⟩
theorem bg.of {α β:Type} {R S:α->β->Prop} {T:β->Prop} (h:∀a b,T b->R a b->S a b):∀{as:2#α} {bs:2#β},(∀b∈bs,T b)->bg R as bs->bg S as bs
 |[],[],_,_=>trivial
 |_::_,_::_,t,q=>⟨h _ _ (t _ 8#5) q.1,q.2.of h λb hb=>t b (by simp[hb])⟩
open Classical in
theorem fJ {f:Val->aa->R 5#Val} {chk:2#(Nat×Ob)} {st:aa} (hk:Kept chk st):∀{vs ys:2#Val},bg (λv y=>f v st= .ok 1#y st) vs ys->ay f chk vs st= .ok ys st
 |[],[],_=>bq hk
 |v::vs,y::ys,⟨h,t⟩=>by
  show iff (Kept chk st) ((f v st).bind λo st=>(ay f chk vs st).bind λr st=> .ok (fA o r) st)=_;rw[bq hk,h];show (ay f chk vs st).bind _=_;rw[fJ hk t];rfl
open Classical in
theorem bS {α:Type} {f:Val->aa->R 5#Val} {chk:2#(Nat×Ob)} {st:aa} (hk:Kept chk st) (g:α->Val) (y:α->5#Val):∀(xs:2#α),(∀a∈xs,f (g a) st= .ok (y a) st)->ay f chk (xs.map g) st= .ok (xs.filterMap y) st
 |[],_=>bq hk
 |a::xs,h=>by
  show iff (Kept chk st) ((f (g a) st).bind λo st=>(ay f chk (xs.map g) st).bind λr st=> .ok (fA o r) st)=_;rw[bq hk,h a 8#5];show (ay f chk (xs.map g) st).bind _=_;rw[bS hk g y xs λb hb=>h b (by simp[hb])];cases e:y a<;>simp[e,fA]
noncomputable def Tn (P:Pg) (cl:ax) (nw:Nat) (caps:2#Nat) (t:T) (c:5#E) (e:E) (env:Env) (v:Val) (st:aa):R 5#Val:=aI (t.put v (av nw caps env)) (runC P cl c) (e.run P cl) st
@[simp high] theorem A4 (P:Pg) (cl:ax) (nw:Nat) (caps:2#Nat) (t:T) (q:Q) (c:5#E) (e:E) (env:Env) (st:aa):E.run P cl (.comp nw caps t q c e) env st=(q.run P cl env st).bind λit st=>iff (t.low nw=true/\0#it.1<=10000) ((ay (Tn P cl nw caps t c e env) it.2 it.1 st).bind λxs st=>new 7#xs st):=rfl
theorem ki (P:Pg) (cl:ax) (b:Bi) (nw:Nat) (caps:2#Nat) (t:T) (q:Q) (c:5#E) (e:E) (env:Env) (st:aa):E.run P cl (.bi b [.comp nw caps t q c e]) env st=(q.run P cl env st).bind λit st=>iff (t.low nw=true/\0#it.1<=10000) ((ay (Tn P cl nw caps t c e env) it.2 it.1 st).bind λxs st=>jP b 7#xs (st++[7#xs])):=by
 rw[xS];simp only[AS,Bq,A4]
 cases q.run P cl env st with
 |ok it st=>
  simp only[R.oo];unfold iff;split
  ·cases ay (Tn P cl nw caps t c e env) it.2 it.1 st with
   |ok xs st=>simp[new]
   |exc x st=>rfl
   |stuck=>rfl
  ·rfl
 |exc x st=>rfl
 |stuck=>rfl
@[simp high] theorem IH (P:Pg) (cl:ax) (nw:Nat) (caps:2#Nat) (t:T) (q:Q) (c:5#E) (e:E) (env:Env) (st:aa):E.run P cl (.bi .tuple [.comp nw caps t q c e]) env st=(q.run P cl env st).bind λit st=>iff (t.low nw=true/\0#it.1<=10000) ((ay (Tn P cl nw caps t c e env) it.2 it.1 st).bind λxs st=> .ok (.tup true xs) (st++[7#xs])):=ki P cl .tuple nw caps t q c e env st
@[simp high] theorem Nl (P:Pg) (cl:ax) (nw:Nat) (caps:2#Nat) (t:T) (q:Q) (c:5#E) (e:E) (env:Env) (st:aa):E.run P cl (.bi .all [.comp nw caps t q c e]) env st=(q.run P cl env st).bind λit st=>iff (t.low nw=true/\0#it.1<=10000) ((ay (Tn P cl nw caps t c e env) it.2 it.1 st).bind λxs st=>R.aj ((allB xs).map .bl) (st++[7#xs])):=ki P cl .all nw caps t q c e env st
@[simp high] theorem LQ (P:Pg) (cl:ax) (nw:Nat) (caps:2#Nat) (t:T) (q:Q) (c:5#E) (e:E) (env:Env) (st:aa):E.run P cl (.bi .any [.comp nw caps t q c e]) env st=(q.run P cl env st).bind λit st=>iff (t.low nw=true/\0#it.1<=10000) ((ay (Tn P cl nw caps t c e env) it.2 it.1 st).bind λxs st=>R.aj ((anyB xs).map .bl) (st++[7#xs])):=ki P cl .any nw caps t q c e env st
@[simp high] theorem Mc (P:Pg) (cl:ax) (nw:Nat) (caps:2#Nat) (t:T) (q:Q) (c:5#E) (e:E) (env:Env) (st:aa):E.run P cl (.bi .sum [.comp nw caps t q c e]) env st=(q.run P cl env st).bind λit st=>iff (t.low nw=true/\0#it.1<=10000) ((ay (Tn P cl nw caps t c e env) it.2 it.1 st).bind λxs st=>R.aj ((gF 0 xs).map .int) (st++[7#xs])):=ki P cl .sum nw caps t q c e env st
structure Pt where
 c:Int
 s:Int
 h:Int
 p:2#Int
 l:Int
structure Sk where
 side:Int
 hold:Pt
 deck:Pt
structure By where
 arm:Int
 sks:2#Sk
structure Sh where
 bays:2#By
 foes:2#(Str×Str)
 trim:Int
 heel:Int
def cb (p:Pt):Val:= .tup false [6#p.c, 6#p.s, 6#p.h, .tup true (p.p.map .int), 6#p.l]
def dw (s:Sk):Val:= .tup false [6#s.side,cb s.hold,cb s.deck]
def dN (b:By):Val:= .tup false [6#b.arm, .tup true (b.sks.map dw)]
noncomputable def cv (f:Str×Str):Val:= .tup false [.str f.1, .str f.2]
noncomputable def lT:2#Str:=["bays","foes","trim","heel"]
def aF (s:Sh):Val:= .obj 9 lT [.tup true (s.bays.map dN), .tup true (s.foes.map cv), 6#s.trim, 6#s.heel]
@[simp]theorem L9 (p:Pt):(cb p).tree=true:=by simp[cb]
@[simp]theorem Ms (p:Sk):(dw p).tree=true:=by simp[dw]
@[simp]theorem Lh (p:By):(dN p).tree=true:=by simp[dN,aK]
@[simp]theorem Kc (p:Str×Str):(cv p).tree=true:=by simp[cv]
@[simp]theorem K5 (s:Sh):(aF s).tree=true:=by simp[aF,aK]
def jm (e:Int):Int->2#Int->Prop
 |_,[]=>True
 |a,x::r=>a<=x/\x<e/\jm e (x+1) r
def Pt.Ok (p:Pt):Prop:=(0<=p.c/\p.c<=9)/\(0<=p.s/\0<=p.h/\0<=p.l)/\jm p.c 0 p.p
def Sk.Ok (s:Sk):Prop:=s.hold.Ok/\s.deck.Ok
def By.Ok (b:By):Prop:=b.sks≠[]/\0#b.sks<=20/\∀s∈b.sks,s.Ok
def Sh.Ok (s:Sh):Prop:=s.bays≠[]/\0#s.bays<=20/\0#s.foes<=1000/\(∀b∈s.bays,b.Ok)/\0<=s.trim/\0<=s.heel
theorem vB (P:Pg) (cl:ax) (a:5#Val) (e:Int) (st:aa):∀(p:2#Int) (l:Int) (x:5#Val),jm e l p->∃l' x',forL 4#3 (cI P cl [.ife (.or (.cmp .Lt 4#3 4#2) (.cmp .GtE 4#3 4#1)) [.ret 8#33] [], .set 4#2 (.bin .Add 4#3 (.ci 1))]) [] (p.map .int) [a,1#6#e,1#6#l,x] st= .next [a,1#6#e,1#6#l',x'] st
 |[],l,x,_=>⟨l,x,by simp⟩
 |y::p,l,x,h=>by
  let⟨h1,h2,h3⟩:=h;let⟨l',x',q⟩:=vB P cl a e st p (y+1) 1#6#y h3;refine⟨l',x', ?_⟩
  have g1:¬y<l:=by lia
  have g2:¬e<=y:=by lia
  simp[g1,g2];exact q
theorem yQ {P:Pg} (h8:P.fn 8=1#sT) (n:Nat) (f:Bool) (p:2#Int) (e:Int) (st:aa) (h:jm e 0 p):call P (n+1) 8 [.tup f (p.map .int), 6#e] st= .ok (.bl true) st:=by
 rw[ak h8 _ _ _ rfl];unfold sT;simp;let⟨l',x',q⟩:=vB P (call P n) 1#(.tup f (p.map .int)) e st p 0 none h;rw[q];simp
theorem nP {P:Pg} (h7:P.fn 7=1#vd) (h8:P.fn 8=1#sT) (n:Nat) (p:Pt) (st:aa) (h:p.Ok):call P (n+2) 7 [6#p.c, 6#p.s, 6#p.h, .tup true (p.p.map .int), 6#p.l] st= .ok (cb p) st:=by
 rw[ak h7 _ _ _ rfl];unfold vd;let⟨⟨a1,a2⟩,⟨b1,b2,b3⟩,c⟩:=h
 have g1:¬p.c<0:=by lia
 have g2:¬9<p.c:=by lia
 have g3:¬p.s<0:=by lia
 have g4:¬p.h<0:=by lia
 have g5:¬p.l<0:=by lia
 simp[g1,g2,g3,g4,g5,yQ h8 n true p.p p.c st c];exact fK P st (cb p) 8#5
def iU (st:aa) (v:Val) (p:Pt):Prop:=∃f x,v= .tup f [6#p.c, 6#p.s, 6#p.h,x, 6#p.l]/\(res st x= 7#(p.p.map .int)∨x= .tup true (p.p.map .int))
def fF (st:aa) (v:Val) (s:Sk):Prop:=∃f a b,v= .tup f [6#s.side,a,b]/\iU st a s.hold/\iU st b s.deck
def gd (st:aa) (v:Val) (b:By):Prop:=∃f x vs,v= .tup f [6#b.arm,x]/\(res st x= 7#vs∨x= .tup true vs)/\bg (fF st) vs b.sks
set_option tactic.hygienic true in
theorem cz {st g:aa} {x:Val} (h:res st x= 7#vs):res (st++g) x= 7#vs:=by
 cases x<;>first|exact h|(simp at h)
 rename_i k;simp
 cases e:st[k]? with
 |none=>rw[e] at h;simp at h
 |some o=>
  rw[e] at h;rw[aao (aae.mp e).1,e];exact h
theorem iU.app {st g:aa} {v:Val} {p:Pt} (h:iU st v p):iU (st++g) v p:=by
 let⟨f,x,e,q⟩:=h;exact⟨f,x,e,q.imp (cz (g:=g)) id⟩
theorem fF.app {st g:aa} {v:Val} {p:Sk} (h:fF st v p):fF (st++g) v p:=by
 let⟨f,a,b,e,q1,q2⟩:=h;exact⟨f,a,b,e,q1.app,q2.app⟩
theorem gd.app {st g:aa} {v:Val} {p:By} (h:gd st v p):gd (st++g) v p:=by
 let⟨f,x,vs,e,q1,q2⟩:=h;exact⟨f,x,vs,e,q1.imp (cz (g:=g)) id,q2.imp λa b h=>h.app⟩
theorem ka {P:Pg} (h6:P.fn 6=1#yW) (h7:P.fn 7=1#vd) (h8:P.fn 8=1#sT) (n:Nat) (v:Val) (p:Pt) (st:aa) (hr:iU st v p) (h:p.Ok):call P (n+3) 6 [v] st= .ok (cb p) st:=by
 rw[ak h6 _ _ _ rfl];unfold yW;let⟨f,x,rfl,q⟩:=hr
 rcases q with q|rfl
 ·simp[q,nP h7 h8 n p st h];exact fK P st (cb p) 8#5
 ·simp[nP h7 h8 n p st h];exact fK P st (cb p) 8#5
theorem qf {P:Pg} (h5:P.fn 5=1#CG) (h6:P.fn 6=1#yW) (h7:P.fn 7=1#vd) (h8:P.fn 8=1#sT) (n:Nat) (v:Val) (p:Sk) (st:aa) (hr:fF st v p) (h:p.Ok):call P (n+4) 5 [v] st= .ok (dw p) st:=by
 rw[ak h5 _ _ _ rfl];unfold CG;let⟨f,a,b,rfl,q1,q2⟩:=hr;simp[ka h6 h7 h8 n _ _ st q1 h.1,ka h6 h7 h8 n _ _ st q2 h.2];exact fK P st (dw p) 8#5
set_option tactic.hygienic true in
theorem de {st:aa} {x:Val} (h:res st x= 7#vs∨x= .tup true vs):∃chk,gG st x=1#(vs,chk)/\Kept chk st/\∀g,Kept chk (st++g):=by
 rcases h with h|rfl
 ·cases x<;>simp at h
  ·subst h;exact⟨[],rfl,bx _,λg=>bx _⟩
  ·rename_i k
   cases e:st[k]? with
   |none=>rw[e] at h;simp at h
   |some o=>
    rw[e] at h;cases o<;>simp at h;subst h;rename_i xs;refine⟨[(k, 7#xs)],by simp[gG,e],λp hp=> ?_,λg p hp=> ?_⟩
    ·simp at hp;subst hp;exact e
    ·simp at hp;subst hp;rw[aao (aae.mp e).1,e]
 ·exact⟨[],rfl,bx _,λg=>bx _⟩
theorem t6 {P:Pg} (h4:P.fn 4=1#FE) (h5:P.fn 5=1#CG) (h6:P.fn 6=1#yW) (h7:P.fn 7=1#vd) (h8:P.fn 8=1#sT) (n:Nat) (v:Val) (p:By) (st:aa) (hr:gd st v p) (h:p.Ok):call P (n+5) 4 [v] st= .ok (dN p) st:=by
 rw[ak h4 _ _ _ rfl];unfold FE;let⟨f,x,vs,rfl,q1,q2⟩:=hr;let⟨chk,w1,w2,w3⟩:=de q1;have hl:=q2.len
 have l0:¬0#vs=0:=by rw[hl];intro e;exact h.1 (List.length_eq_zero_iff.mp e)
 have l1:¬vs=[]:=λe=>l0 (by rw[e];rfl)
 have l2:0#vs<=10000:=by rw[hl];have:=h.2.1;lia
 have lz:((0#vs:Int)==0)=false:=by simp[l1]
 have hx:iC (res st x)=1#(0#vs:Int):=by rcases q1 with q|rfl<;>simp[*]
 have hc:ay (Tn P (call P (n+4)) 1 [] 4#0 none (.call 5 [4#0]) [1#(.tup f [6#p.arm,x]),1#x]) chk vs st= .ok (p.sks.map dw) st:=by
  refine fJ w2 ((q2.of (S:=λa b=>call P (n+4) 5 [a] st= .ok (dw b) st) (λa b hb q=>qf h5 h6 h7 h8 n a b st q hb) h.2.2).AR dw λa b q=> ?_);simp[Tn,aI,av,q]
 simp[hx,lz,w1,l2,hc,T.low];exact cM P st [7#_] (dN p) 8#5
@[simp]theorem n1:¬(Str.ofString "bays"=Str.ofString "foes"):=by decide
@[simp]theorem n2:¬(Str.ofString "bays"=Str.ofString "trim"):=by decide
@[simp]theorem n3:¬(Str.ofString "bays"=Str.ofString "heel"):=by decide
@[simp]theorem n4:¬(Str.ofString "foes"=Str.ofString "trim"):=by decide
@[simp]theorem n5:¬(Str.ofString "foes"=Str.ofString "heel"):=by decide
@[simp]theorem n6:¬(Str.ofString "trim"=Str.ofString "heel"):=by decide
def Fz (P:Pg):Prop:=((P.cl 9).map (·.init))=1#1#3/\fM P 9=false/\eL P 9 "bays"=true/\eL P 9 "foes"=true/\eL P 9 "trim"=true/\eL P 9 "heel"=true
structure FShip (P:Pg):Prop where
 f3:P.fn 3=1#ir3
 f4:P.fn 4=1#FE
 f5:P.fn 5=1#CG
 f6:P.fn 6=1#yW
 f7:P.fn 7=1#vd
 f8:P.fn 8=1#sT
 c9:Fz P
@[simp]theorem KZ (s g:aa) (j:Nat):(s++g).take (0#s+j)=s++g.take j:=by
 rw[List.take_append,acq 8#0];simp
theorem rC (P:Pg) (st g:aa) (c c':Nat) (ns ns':2#Str) (vs vs':2#Val) (v:Val) (hv:v.tree=true) (ht:trees vs'=true):fin P (st++[.ins c ns vs]) v (st++(.ins c' ns' vs'::g))= .ok v (st++[.ins c' ns' vs']):=by
 have e:st++(Ob.ins c' ns' vs'::g)=(st++[Ob.ins c ns vs]).set 0#st (.ins c' ns' vs')++g:=by simp
 have ho:=uG (st++[.ins c ns vs]) g 0#st (.ins c' ns' vs') (by simp[Ob.bd];exact dD _ _ ht);rw[←e] at ho;rw[fh P _ _ v v ho (iX _ _ _ v hv) (l9 hv)];rw[e];simp
theorem DZ {st:aa} {x:Val} {vs:2#Val} (h:res st x= 7#vs∨x= .tup true vs):iC (res st x)=1#(0#vs:Int):=by rcases h with q|rfl<;>simp[*]
theorem zW {P:Pg} (F:FShip P) (n:Nat) (s:Sh) (st:aa) (bv fv:Val) (bs:2#Val) (hb:res st bv= 7#bs∨bv= .tup true bs) (rb:bg (gd st) bs s.bays) (hf:res st fv= 7#(s.foes.map cv)) (h:s.Ok):
  call P (n+6) 3 [3#0#st,bv,fv, 6#s.trim, 6#s.heel] (st++[.ins 9 [] []])= .ok .non (st++[.ins 9 lT [.tup true (s.bays.map dN), .tup true (s.foes.map cv), 6#s.trim, 6#s.heel]]):=by
 rw[ak F.f3 _ _ _ rfl];unfold ir3;let⟨a1,a2,a3,a4,a5,a6⟩:=h;let⟨b1,b2,b3,b4,b5,b6⟩:=F.c9;have hb1:res (st++[.ins 9 [] []]) bv= 7#bs∨bv= .tup true bs:=hb.imp cz id;let⟨chk,w1,w2,_⟩:=de hb1;have hf1:=cz (g:=[.ins 9 ["bays"] [.tup true (s.bays.map dN)], 7#(s.bays.map dN)]) hf;let⟨chk',y1,y2,_⟩:=de (.inl hf1);have hl:=rb.len;have l1:¬bs=[]:=λe=>a1 (by rw[e] at hl;exact List.length_eq_zero_iff.mp hl.symm)
 have lz:((0#bs:Int)==0)=false:=by simp[l1]
 have lb:0#bs<=10000:=by lia
 have lf:0#s.foes<=10000:=by lia
 have g1:¬s.trim<0:=by lia
 have g2:¬s.heel<0:=by lia
 have hc:ay (Tn P (call P (n+5)) 1 [] 4#0 none (.call 4 [4#0]) [1#3#0#st,1#bv,1#fv,1#6#s.trim,1#6#s.heel]) chk bs (st++[.ins 9 [] []])= .ok (s.bays.map dN) (st++[.ins 9 [] []]):=by
  refine fJ w2 ((rb.of (S:=λa b=>call P (n+5) 4 [a] (st++[.ins 9 [] []])= .ok (dN b) (st++[.ins 9 [] []])) (λa b hb q=>t6 F.f4 F.f5 F.f6 F.f7 F.f8 n a b _ q.app hb) a4).AR dN λa b q=> ?_);simp[Tn,aI,av,q]
 have hd:ay (Tn P (call P (n+5)) 1 [] 4#0 none (.bi .tuple [4#0]) [1#3#0#st,1#bv,1#fv,1#6#s.trim,1#6#s.heel]) chk' (s.foes.map cv) (st++[.ins 9 ["bays"] [.tup true (s.bays.map dN)], 7#(s.bays.map dN)])= .ok (s.foes.map cv) (st++[.ins 9 ["bays"] [.tup true (s.bays.map dN)], 7#(s.bays.map dN)]):=by
  refine fJ y2 (bg.map _ _ (λa=> ?_) s.foes);simp[Tn,aI,av,cv]
 have hx:=DZ hb1;simp[hx,lz,g1,g2,w1,lb,hc,T.low,b3,b4,b5,b6,aT,y1,lf,hd];exact rC P st _ 9 9 [] lT [] [.tup true (s.bays.map dN), .tup true (s.foes.map cv), 6#s.trim, 6#s.heel] .non 8#5 (by simp[aK])
theorem vZ {P:Pg} (F:FShip P) (n:Nat) (s:Sh) (st:aa) (bv fv:Val) (bs:2#Val) (hb:res st bv= 7#bs∨bv= .tup true bs) (rb:bg (gd st) bs s.bays) (hf:res st fv= 7#(s.foes.map cv)) (h:s.Ok):
  gf P (call P (n+6)) 9 [bv,fv, 6#s.trim, 6#s.heel] st ((P.cl 9).map (·.init))= .ok (aF s) st:=by
 rw[F.c9.1];simp[zW F n s st bv fv bs hb rb hf h];unfold fin;rw[if_pos (eF _ _)];simp[F.c9.2.1,a8,aK,aF]
@[simp]theorem JN (k:Nat) (xs:2#Val) (st:aa):k9 .append 3#k xs st=pN .append k xs st st[k]?:=rfl
@[simp]theorem Jt (k:Nat) (xs:2#Val) (st:aa):k9 .extend 3#k xs st=pN .extend k xs st st[k]?:=rfl
@[simp]theorem OD (o:Val) (xs:2#Val) (st:aa):k9 .get o xs st=sj (res st o) xs st:=rfl
@[simp]theorem Im (k:Nat) (x:Val) (st:aa) (ys:2#Val):pN .append k [x] st 1#7#ys=iff (0#ys<10000) (.ok .non (st.set k 7#(ys++[x]))):=rfl
@[simp]theorem JW (k j:Nat) (st:aa) (ys:2#Val):pN .extend k [3#j] st 1#7#ys=CO k ys st st[j]?:=rfl
theorem sA:∀(n:Nat) (lo:Int),aW lo n=(List.range n).map λi=> 6#(lo+(i:Int))
 |0,_=>rfl
 |n+1,lo=>by
  unfold aW;rw[sA n,acp];simp;intro a _;lia
open Classical in
theorem comp_map {α:Type} {f:Val->aa->R 5#Val} {chk:2#(Nat×Ob)} {st:aa} (hk:Kept chk st) (g:α->Val) (y:α->Val) (xs:2#α) (h:∀a∈xs,f (g a) st= .ok 1#(y a) st):ay f chk (xs.map g) st= .ok (xs.map y) st:=by
 have:=bS hk g (λa=>1#(y a)) xs h;simpa using this
structure FPart (P:Pg):Prop extends FShip P where
 f9:P.fn 9=1#ir9
 f12:P.fn 12=1#EV
 f13:P.fn 13=1#Gy
 f14:P.fn 14=1#GH
 f31:P.fn 31=1#Gg
 f32:P.fn 32=1#F8
theorem eU {P:Pg} (F:FShip P) (s:Sh) (st:aa):gC P "bays" (aF s) st= .ok (.tup true (s.bays.map dN)) st:=by
 simp[aF,lT,F.c9.2.2.1,dz]
theorem gB {P:Pg} (F:FShip P) (s:Sh) (st:aa):gC P "foes" (aF s) st= .ok (.tup true (s.foes.map cv)) st:=by
 simp[aF,lT,F.c9.2.2.2.1,dz]
theorem qZ {P:Pg} (F:FShip P) (s:Sh) (st:aa):gC P "trim" (aF s) st= .ok 6#s.trim st:=by
 simp[aF,lT,F.c9.2.2.2.2.1,dz]
theorem tj {P:Pg} (F:FShip P) (s:Sh) (st:aa):gC P "heel" (aF s) st= .ok 6#s.heel st:=by
 simp[aF,lT,F.c9.2.2.2.2.2,dz]
def Sh.sk? (s:Sh) (b k:Int):5#Sk:=if 0<=b/\0<=k then (s.bays[b.toNat]?).bind λy=>y.sks[k.toNat]? else none
def Sh.iD (s:Sh) (b k d:Int):Bool:=(s.sk? b k).isSome&&(d==0||d==1)
theorem Lj (d:Int):((0:Int)==d)=(d==0):=by rw[aaA];simp;lia
theorem Me (d:Int):((1:Int)==d)=(d==1):=by rw[aaA];simp;lia
theorem ll {P:Pg} (F:FPart P) (n:Nat) (s:Sh) (f:Bool) (b k d:Int) (st:aa):call P (n+1) 14 [aF s, .tup f [6#b, 6#k, 6#d]] st= .ok (.bl (s.iD b k d)) st:=by
 rw[ak F.f14 _ _ _ rfl];unfold GH;have F1:=F.toFShip;simp[eU F1]
 by_cases h0:b<0
 ·have:¬0<=b:=by lia
  simp[h0,this,Sh.iD,Sh.sk?]
 ·have h0':0<=b:=by lia
  by_cases h1:(0#s.bays:Int)<=b
  ·have e:s.bays[b.toNat]?=none:=ab5 8#0;simp[h0,h1,h0',Sh.iD,Sh.sk?,e]
  ·have h1':b<(0#s.bays:Int):=by lia
   have l:b.toNat<0#s.bays:=by lia
   have e:s.bays[b.toNat]?=1#s.bays[b.toNat]:=aac l;obtain⟨y,e'⟩:∃y,s.bays[b.toNat]=y:=⟨_,rfl⟩;rw[e'] at e;simp[h0,h1,h0',h1',e,e',dN,eU F1]
   by_cases k0:k<0
   ·have:¬0<=k:=by lia
    simp[k0,this,Sh.iD,Sh.sk?]
   ·have k0':0<=k:=by lia
    by_cases k1:(0#y.sks:Int)<=k
    ·have e2:y.sks[k.toNat]?=none:=ab5 8#0;simp[k0,k1,k0',h0',Sh.iD,Sh.sk?,e,e',e2]
    ·have l2:k.toNat<0#y.sks:=by lia
     have e2:y.sks[k.toNat]?=1#y.sks[k.toNat]:=aac l2;simp[k0,k1,k0',h0',Sh.iD,Sh.sk?,e,e',e2,cZ,Lj d,Me d]
set_option tactic.hygienic true in
theorem jL {s:Sh} {b k:Int} {y:Sk} (h:s.sk? b k=1#y):0<=b/\0<=k/\∃z:By,s.bays[b.toNat]?=1#z/\z.sks[k.toNat]?=1#y/\b<0#s.bays/\k<0#z.sks:=by
 unfold Sh.sk? at h;split at h
 ·rename_i q
  cases e:s.bays[b.toNat]? with
  |none=>rw[e] at h;cases h
  |some z=>
   rw[e] at h;refine⟨q.1,q.2,z,rfl,h, ?_, ?_⟩
   ·have:=(aae.mp e).1;lia
   ·have:=(aae.mp h).1;lia
 ·cases h
theorem t8 {P:Pg} (F:FPart P) (n:Nat) (s:Sh) (f:Bool) (b k d:Int) (y:Sk) (st:aa) (h:s.sk? b k=1#y) (hd:d=0∨d=1):call P (n+2) 13 [aF s, .tup f [6#b, 6#k, 6#d]] st= .ok (dw y) st:=by
 rw[ak F.f13 _ _ _ rfl];unfold Gy;have F1:=F.toFShip
 have hp:s.iD b k d=true:=by simp[Sh.iD,h,hd]
 let⟨b0,k0,z,e1,e2,b1,k1⟩:=jL h;let⟨_,e1'⟩:=aae.mp e1;let⟨_,e2'⟩:=aae.mp e2;simp[ll F,hp,eU F1,b0,b1,e1,e1',dN,k0,k1,e2,e2'];exact fK P st (dw y) 8#5
def Sk.pt (y:Sk) (d:Int):Pt:=if d=0 then y.hold else y.deck
theorem cA {P:Pg} (F:FPart P) (n:Nat) (s:Sh) (f:Bool) (b k d:Int) (y:Sk) (st:aa) (h:s.sk? b k=1#y) (hd:d=0∨d=1):call P (n+3) 12 [aF s, .tup f [6#b, 6#k, 6#d]] st= .ok (cb (y.pt d)) st:=by
 rw[ak F.f12 _ _ _ rfl];unfold EV;simp[t8 F n s f b k d y st h hd,dw]
 rcases hd with rfl|rfl
 ·simp[Sk.pt];exact fK P st (cb _) 8#5
 ·simp[Sk.pt];exact fK P st (cb _) 8#5
theorem uc {P:Pg} (F:FPart P) (n:Nat) (s:Sh) (f:Bool) (b k d t:Int) (y:Sk) (st:aa) (h:s.sk? b k=1#y) (hd:d=0∨d=1) (t0:0<=t) (t1:t<(y.pt d).c):call P (n+4) 31 [aF s, .tup f [6#b, 6#k, 6#d, 6#t]] st= .ok (.bl true) st:=by
 rw[ak F.f31 _ _ _ rfl];unfold Gg
 have hp:s.iD b k d=true:=by simp[Sh.iD,h,hd]
 simp[bu,cut,ll F,cA F n s false b k d y st h hd,hp,t0,t1,cb]
theorem qc {P:Pg} (F:FPart P) (n:Nat) (f:Bool) (b k d t:Int) (st:aa):call P (n+1) 32 [.tup f [6#b, 6#k, 6#d, 6#t]] st= .ok (.tup false [6#b, 6#d, 6#k, 6#t]) st:=by
 rw[ak F.f32 _ _ _ rfl];unfold F8;simp
noncomputable def aD (p:Int×Int×Int):Val:= .tup false [6#p.1, 6#p.2.1, 6#p.2.2]
noncomputable def bG (i:Int) (m:Nat) (d:Int):2#(Int×Int×Int):=(List.range m).map λ(k:Nat)=>(i,(k:Int),d)
noncomputable def partsFrom:Nat->2#By->2#(Int×Int×Int)
 |_,[]=>[]
 |i,b::r=>bG i 0#b.sks 0++(bG i 0#b.sks 1++partsFrom (i+1) r)
def Sh.parts (s:Sh):2#(Int×Int×Int):=partsFrom 0 s.bays
noncomputable def ik:2#S:=[.set 4#3 (.bi .len [.idx (.idx (.fld 4#0 "bays") 4#2) (.ci 1)]), .for 4#4 (.val (.tup [.ci 0, .ci 1])) [.expr (.bm .extend 4#1 [.comp 1 [2,4] 4#0 (.rng1 4#3) none (.tup [4#1, 4#0, 4#2])])]]
@[simp]theorem kX (i:Int) (m:Nat) (d:Int):0#(bG i m d)=m:=by simp[bG]
theorem wJ (P:Pg) (cl:ax) (a b c:5#Val) (i d:Int) (m:Nat) (st:aa):ay (Tn P cl 1 [2,4] 4#0 none (.tup [4#1, 4#0, 4#2]) [a,b,1#6#i,c,1#6#d]) [] (aW 0 m) st= .ok ((bG i m d).map aD) st:=by
 rw[sA,bG,abQ];refine comp_map (bx st) _ _ _ λk _=> ?_;simp[Tn,aI,av,aD]
theorem mE {P:Pg} (F:FShip P) (cl:ax) (s:Sh) (hs:s.Ok) (st:aa):∀(r:2#By) (i:Nat) (acc:2#Val) (g:aa) (x2 x3 x4:5#Val),s.bays.drop i=r->0#acc<=40*i->i+0#r<=20->
  ∃g' y2 y3 y4,forL 4#2 (cI P cl ik) [] (aW i 0#r) [1#(aF s),1#3#0#st,x2,x3,x4] (st++(7#acc::g))= .next [1#(aF s),1#3#0#st,y2,y3,y4] (st++(7#(acc++(partsFrom i r).map aD)::g'))
 |[],i,acc,g,x2,x3,x4,_,_,_=>⟨g,x2,x3,x4,by simp[aW,partsFrom]⟩
 |b::r,i,acc,g,x2,x3,x4,hr,ha,hi=>by
  have e1:s.bays[i]?=1#b:=by
   have:=congrArg (·[0]?) hr;simpa using this
  have hr2:s.bays.drop (i+1)=r:=by rw[←List.drop_drop,hr];rfl
  have hl:i<0#s.bays:=(aae.mp e1).1;let⟨_,e1'⟩:=aae.mp e1;have hb:0#b.sks<=20:=(hs.2.2.2.1 b (aau e1)).2.1
  have q1:(0#b.sks:Int)<16777216:=by lia
  have q4:0#b.sks<=10000:=by lia
  have q2:0#acc+0#b.sks<=10000:=by simp at hi;lia
  have q3:0#acc+(0#b.sks+0#b.sks)<=10000:=by simp at hi;lia
  unfold ik;simp[aW,eU F,e1,e1',hl,dN,q1,T.low,wJ,new,yh,bT,q2,q3,q4,kX,Nat.add_assoc];let⟨g',y2,y3,y4,h⟩:=mE F cl s hs st r (i+1) (acc++(bG i 0#b.sks 0++bG i 0#b.sks 1).map aD) (g++[7#((bG i 0#b.sks 0).map aD), 7#((bG i 0#b.sks 1).map aD)]) 1#6#i 1#6#0#b.sks 1#6#1 hr2 (by simp[kX];lia) (by simp at hi;lia);refine⟨g',y2,y3,y4, ?_⟩;unfold ik at h;simp[partsFrom] at h⊢;exact h
@[simp]theorem JS (p:Int×Int×Int):(aD p).tree=true:=by simp[aD]
theorem kZ {P:Pg} (F:FPart P) (n:Nat) (s:Sh) (hs:s.Ok) (st:aa):call P (n+1) 9 [aF s] st= .ok 3#0#st (st++[7#(s.parts.map aD)]):=by
 rw[ak F.f9 _ _ _ rfl];unfold ir9;have F1:=F.toFShip;have h1:0#s.bays<=20:=hs.2.1
 have h2:(0#s.bays:Int)<16777216:=by lia
 let⟨g',y2,y3,y4,h⟩:=mE F1 (call P n) s hs st s.bays 0 [] [] none none none rfl 8#5 8#0;unfold ik at h;simp at h;simp[new,eU F1,h2];rw[h];simp;exact cH P st _ 0 _ _ rfl 8#28
theorem kW {i:Int} {m:Nat} {d:Int} {p:Int×Int×Int} (h:p∈bG i m d):p.1=i/\0<=p.2.1/\p.2.1<m/\p.2.2=d:=by
 simp[bG] at h;let⟨k,hk,rfl⟩:=h;simp;lia
theorem fS:∀(r:2#By) (i:Nat) (p:Int×Int×Int),p∈partsFrom i r->∃(j:Nat) (b:By),r[j]?=1#b/\p.1=((i+j:Nat):Int)/\0<=p.2.1/\p.2.1<0#b.sks/\(p.2.2=0∨p.2.2=1)
 |[],_,_,h=>by simp[partsFrom] at h
 |b::r,i,p,h=>by
  simp only[partsFrom,aaM] at h
  rcases h with h|h|h
  ·let⟨h1,h2,h3,h4⟩:=kW h;exact⟨0,b,rfl,by simpa using h1,h2,h3, .inl h4⟩
  ·let⟨h1,h2,h3,h4⟩:=kW h;exact⟨0,b,rfl,by simpa using h1,h2,h3, .inr h4⟩
  ·let⟨j,c,h1,h2,h3,h4,h5⟩:=fS r (i+1) p h;exact⟨j+1,c,h1,by rw[h2];congr 1;lia,h3,h4,h5⟩
theorem jS {s:Sh} {p:Int×Int×Int} (h:p∈s.parts):∃y,s.sk? p.1 p.2.1=1#y/\(p.2.2=0∨p.2.2=1):=by
 let⟨j,b,h1,h2,h3,h4,h5⟩:=fS _ _ _ h
 have l:p.2.1.toNat<0#b.sks:=by lia
 refine⟨b.sks[p.2.1.toNat], ?_,h5⟩;unfold Sh.sk?;rw[if_pos ⟨by lia,h3⟩]
 have:p.1.toNat=j:=by lia
 rw[this,h1];exact aac l
theorem Aq {s:Sh} (hs:s.Ok):s.parts≠[]:=by
 unfold Sh.parts
 cases h:s.bays with
 |nil=>exact absurd h hs.1
 |cons b r=>
  have hb:=hs.2.2.2.1 b (by simp[h]);intro e;have:=congrArg List.length e;simp[partsFrom] at this;exact hb.1 this.1
theorem pZ:∀(r:2#By) (i:Nat),(∀b∈r,0#b.sks<=20)->0#(partsFrom i r)<=40*0#r
 |[],_,_=>by simp[partsFrom]
 |b::r,i,h=>by
  have:=pZ r (i+1) λc hc=>h c (by simp[hc]);have:=h b 8#5;simp[partsFrom];lia
structure KOk {α:Type} [DecidableEq α] (kV:α->Val):Prop where
 key:∀a,bX (kV a)=true
 eq:∀a b,eqv 8 (kV a) (kV b)=1#(decide (a=b))
 kt:∀a b,kT (kV a)=kT (kV b)
section
variable {α β:Type} [DecidableEq α] {kV:α->Val} (K:KOk kV)
include K
theorem nX (a:α):∀as:2#α,memD (kV a) (as.map kV)=1#(decide (a∈as))
 |[]=>by simp[memD]
 |b::as=>by
  simp only[aas,memD];rw[if_pos (K.kt b a),K.eq,nX a as];simp
  by_cases h:b=a
  ·simp[h]
  ·have h2:¬a=b:=λe=>h e.symm;simp[h,h2]
theorem oy (vV:β->Val) (a:α):∀ps:2#(α×β),getD (kV a) (ps.map λp=>kV p.1) (ps.map λp=>vV p.2)=1#((ps.find? λp=>p.1=a).map λp=>vV p.2)
 |[]=>by simp[getD]
 |b::as=>by
  simp only[aas,getD];rw[if_pos (K.kt b.1 a),K.eq,oy vV a as]
  by_cases h:b.1=a
  ·simp[h]
  ·simp[h]
theorem lp (vV:β->Val):∀(ps:2#(α×β)) (qs:2#(α×β)),(ps.map λp=>p.1).Nodup->(∀p∈ps,p.1∉qs.map λp=>p.1)->pairD (ps.map λp=> .tup false [kV p.1,vV p.2]) (qs.map λp=>kV p.1) (qs.map λp=>vV p.2)=1#((qs++ps).map (λp=>kV p.1),(qs++ps).map λp=>vV p.2)
 |[],qs,_,_=>by simp[pairD]
 |p::ps,qs,hn,hq=>by
  have e:(qs.map λp=>kV p.1)=(qs.map λp=>p.1).map kV:=by simp
  have hp:=hq p 8#5;simp only[aas,pairD];rw[if_pos (K.key p.1),putD,e,nX K];simp only[aas,aa7] at hn;rw[aaB hp]
  have:=lp vV ps (qs++[p]) hn.2 λr hr=>by
   simp;refine⟨λx hx=> ?_,λe=>hn.1 ?_⟩
   ·have:=hq r (by simp[hr]);simp at this;exact this x hx
   ·rw[←e];exact aaC.mpr ⟨r,hr,rfl⟩
  simp at this⊢;exact this
end
structure Cell where
 b:Int
 k:Int
 d:Int
 t:Int
deriving DecidableEq
structure Bx where
 name:Str
 w:Int
 h:Int
 cold:Int
 sort:Str
 port:Int
def ag (c:Cell):Val:= .tup false [6#c.b, 6#c.k, 6#c.d, 6#c.t]
def aw (x:Bx):Val:= .tup false [.str x.name, 6#x.w, 6#x.h, 6#x.cold, .str x.sort, 6#x.port]
def ao (p:Cell×Bx):Val:= .tup false [ag p.1,aw p.2]
@[simp]theorem MC (c:Cell):(ag c).tree=true:=by simp[ag]
@[simp]theorem Lo (c:Bx):(aw c).tree=true:=by simp[aw]
@[simp]theorem lL (c:Cell×Bx):(ao c).tree=true:=by simp[ao]
theorem qA:KOk ag where
 key a:=by simp[ag,bX,xl]
 eq a b:=by
  simp[ag];cases a;cases b;simp;rw[aaA];simp
 kt a b:=by simp[ag,kT]
theorem KQ:KOk Val.str where
 key a:=by simp[bX]
 eq a b:=by simp
 kt a b:=by simp[kT]
def Cell.key (c:Cell):2#Int:=[c.b,c.d,c.k,c.t]
def aP (L:8#8):2#(Cell×Bx):=(bt (L.map λp=>(p.1.key,p))).map λz=>z.2
theorem pe {α β:Type} (f:α->β) (k:2#Int) (y:α):∀r:2#(2#Int×α),cO k (f y) (r.map λz=>(z.1,f z.2))=(cO k y r).map λz=>(z.1,f z.2)
 |[]=>by simp[cO]
 |z::r=>by
  simp only[aas,cO];split
  ·simp
  ·simp[pe f k y r]
theorem mT {α β:Type} (f:α->β):∀r:2#(2#Int×α),bt (r.map λz=>(z.1,f z.2))=(bt r).map λz=>(z.1,f z.2)
 |[]=>by simp[bt]
 |z::r=>by
  simp only[aas,bt];rw[mT f r,pe]
theorem jc {α:Type} (k:2#Int) (y:α):∀r:2#(2#Int×α),(cO k y r).Perm ((k,y)::r)
 |[]=>by simp[cO]
 |z::r=>by
  unfold cO;split
  ·exact .refl _
  ·exact((jc k y r).cons z).trans (.swap _ _ _)
theorem fE {α:Type}:∀r:2#(2#Int×α),(bt r).Perm r
 |[]=> .refl _
 |z::r=>by
  unfold bt;exact(jc _ _ _).trans ((fE r).cons z)
theorem cU (L:8#8):(aP L).Perm L:=by
 have:=(fE (L.map λp=>(p.1.key,p))).map (λz=>z.2);have e:((λz:2#Int×(Cell×Bx)=>z.2)∘λp:Cell×Bx=>(p.1.key,p))=id:=rfl;simpa[aP,e] using this
theorem Ka (L:8#8):((bt ((L.map λp=>p.1.key).zip (L.map ao))).map λz=>z.2)=(aP L).map ao:=by
 have e:(L.map λp=>p.1.key).zip (L.map ao)=(L.map λp=>(p.1.key,p)).map λz=>(z.1,ao z.2):=by
  simp[List.zip_map']
 rw[e,mT];simp[aP]
theorem vz {a b:Cell} (h:a.key=b.key):a=b:=by
 cases a;cases b;simp[Cell.key] at h;simp[h]
structure FLoad (P:Pg):Prop extends FPart P where
 f33:P.fn 33=1#Hx
 f34:P.fn 34=1#G6
 f35:P.fn 35=1#Gb
 f36:P.fn 36=1#E9
 f37:P.fn 37=1#Hf
 i10:((P.cl 10).map (·.init))=1#1#33
 g10:fM P 10=false
 hs:eL P 10 "ship"=true
 hp:eL P 10 "placed"=true
 hc:eL P 10 "box_by_cell"=true
 hn:eL P 10 "cell_by_name"=true
noncomputable def ji:2#Str:=["ship","placed","box_by_cell","cell_by_name"]
def gw (s:Sh) (L:8#8):2#Val:=[aF s, .tup true (L.map ao), .dct (L.map λp=>ag p.1) (L.map λp=>aw p.2), .dct (L.map λp=> .str p.2.name) (L.map λp=>ag p.1)]
def bB (s:Sh) (L:8#8):Val:= .obj 10 ji (gw s L)
theorem jG (s:Sh) (L:8#8):trees (gw s L)=true:=by simp[gw,aK];exact aK _ _ λ_=>rfl
@[simp]theorem AI (s:Sh) (L:8#8):(bB s L).tree=true:=by simp[bB,jG]
@[simp]theorem m1:¬(Str.ofString "ship"=Str.ofString "placed"):=by decide
@[simp]theorem m2:¬(Str.ofString "ship"=Str.ofString "box_by_cell"):=by decide
@[simp]theorem m3:¬(Str.ofString "ship"=Str.ofString "cell_by_name"):=by decide
@[simp]theorem m4:¬(Str.ofString "placed"=Str.ofString "box_by_cell"):=by decide
@[simp]theorem m5:¬(Str.ofString "placed"=Str.ofString "cell_by_name"):=by decide
@[simp]theorem m6:¬(Str.ofString "box_by_cell"=Str.ofString "cell_by_name"):=by decide
theorem eS {P:Pg} (F:FLoad P) (s:Sh) (L:8#8) (st:aa):gC P "ship" (bB s L) st= .ok (aF s) st:=by
 simp[bB,ji,gw,F.hs,dz]
theorem nt {P:Pg} (F:FLoad P) (s:Sh) (L:8#8) (st:aa):gC P "placed" (bB s L) st= .ok (.tup true (L.map ao)) st:=by
 simp[bB,ji,gw,F.hp,dz]
theorem pP {P:Pg} (F:FLoad P) (s:Sh) (L:8#8) (st:aa):gC P "box_by_cell" (bB s L) st= .ok (.dct (L.map λp=>ag p.1) (L.map λp=>aw p.2)) st:=by
 simp[bB,ji,gw,F.hc,dz]
theorem zp {P:Pg} (F:FLoad P) (s:Sh) (L:8#8) (st:aa):gC P "cell_by_name" (bB s L) st= .ok (.dct (L.map λp=> .str p.2.name) (L.map λp=>ag p.1)) st:=by
 simp[bB,ji,gw,F.hn,dz]
def cf (L:8#8) (c:Cell):5#Bx:=(L.find? λp=>p.1=c).map (·.2)
def oV (o:5#Bx):Val:=(o.map aw).getD .non
@[simp]theorem Of (o:5#Bx):(oV o).tree=true:=by cases o<;>simp[oV]
theorem eG {P:Pg} (F:FLoad P) (n:Nat) (s:Sh) (L:8#8) (v:Val) (c:Cell) (st:aa) (hv:res st v=bB s L):call P (n+1) 37 [v,ag c] st= .ok (oV (cf L c)) st:=by
 rw[ak F.f37 _ _ _ rfl];unfold Hf;simp[hv,pP F,bT,qA.key];rw[oy qA aw c L];simp
 have e:(Option.map (λp=>aw p.2) (List.find? (λp=>decide (p.1=c)) L)).getD Val.non=oV (cf L c):=by
  simp[oV,cf];cases List.find? (λp=>decide (p.1=c)) L<;>rfl
 rw[e];exact fK P st _ 8#5
theorem zI {P:Pg} (F:FLoad P) (n:Nat) (s:Sh) (L:8#8) (v:Val) (c:Cell) (st:aa) (hv:res st v=bB s L) (h:c.t=0∨(cf L ⟨c.b,c.k,c.d,c.t-1⟩).isSome=true):call P (n+2) 36 [v,ag c] st= .ok (.bl true) st:=by
 rw[ak F.f36 _ _ _ rfl];unfold E9;have q:=eG F n s L v ⟨c.b,c.k,c.d,c.t-1⟩ st hv;unfold ag at q;simp only at q
 by_cases h0:c.t=0
 ·simp[ag,bu,cut,h0]
 ·have h1:=h.resolve_left h0;let⟨x,hx⟩:=aaW.mp h1
  have h2:(c.t==0)=false:=by simp[h0]
  rw[hx] at q;simp[ag,bu,cut,h2,q,oV,aw]
def bp (s:Sh) (L:8#8):Prop:=0#L<64/\(L.map λp=>p.1).Nodup/\(L.map λp=>p.2.name).Nodup/\(∀p∈L,∃y,s.sk? p.1.b p.1.k=1#y/\(p.1.d=0∨p.1.d=1)/\0<=p.1.t/\p.1.t<(y.pt p.1.d).c)/\∀p∈L,p.1.t=0∨∃q∈L,q.1=⟨p.1.b,p.1.k,p.1.d,p.1.t-1⟩
theorem q8 {L:8#8} {q:Cell×Bx} {c:Cell} (hq:q∈L) (hc:q.1=c):(cf L c).isSome=true:=by
 unfold cf;rw[ack,List.find?_isSome];exact⟨q,hq,by simp[hc]⟩
theorem BB {P:Pg} (F:FLoad P) (n:Nat) (s:Sh) (L:8#8) (v:Val) (st:aa) (hv:res st v=bB s L) (h:bp s L):call P (n+5) 35 [v] st= .ok .non st:=by
 rw[ak F.f35 _ _ _ rfl];unfold Gb;let⟨h1,h2,h3,h4,h5⟩:=h
 have ek:(L.map λp=>ag p.1).map iW=L.map λp=>ag p.1:=by simp[ag,iW]
 simp[hv,pP F,nt F,zp F]
 have ek2:iW∘(λp:Cell×Bx=>ag p.1)=λp=>ag p.1:=by funext p;simp[ag,iW]
 rw[ek2]
 let⟨env',st',e,hI⟩:=rP (t:= 4#1) (body:=cI P (call P (n+4)) [.ife (.not (.call 31 [.fld 4#0 "ship", 4#1])) [rz] [], .ife (.not (.call 36 [4#0, 4#1])) [rz] []]) (chk:=[]) (λ_ env st'=>st'=st/\∃x,env=[1#v,x]) (L.map λp=>ag p.1) [1#v,none] st ⟨rfl,_,rfl⟩ (λ_ _ st _=>bx st) λi w env st' e hI=>by
  let⟨rfl,x,rfl⟩:=hI;simp at e;let⟨c,⟨y,e⟩,rfl⟩:=e;have hm:=aau e;let⟨sk,a1,a2,a3,a4⟩:=h4 _ hm;refine⟨[1#v,1#(ag c)],rfl,[1#v,1#(ag c)],st', .inl ?_,rfl,_,rfl⟩;have q1:=uc F.toFPart n s false c.b c.k c.d c.t sk st' a1 a2 a3 a4;have q2:=zI F (n+2) s L v c st' hv ((h5 _ hm).imp id λz900=>by let⟨q,hq,e⟩:=z900;exact q8 hq e);have e1:ag c= .tup false [6#c.b, 6#c.k, 6#c.d, 6#c.t]:=rfl;rw[←e1] at q1;simp[hv,eS F,q1,q2]
 rw[e,hI.1];simp
theorem qa {P:Pg} (F:FLoad P) (n:Nat) (p:Cell×Bx) (st:aa):call P (n+2) 34 [ao p] st= .ok (.tup false [6#p.1.b, 6#p.1.d, 6#p.1.k, 6#p.1.t]) st:=by
 rw[ak F.f34 _ _ _ rfl];unfold G6;simp[ao,ag,qc F.toFPart]
theorem su {P:Pg} (F:FLoad P) (n:Nat) (st:aa):∀(L:8#8) (dn:2#Val),ft (call P (n+2)) 34 st (L.map ao) dn= .ok (dn++L.map λp=> .tup false (p.1.key.map .int)) (st++[7#(dn++L.map λp=> .tup false (p.1.key.map .int))])
 |[],dn=>by simp[ft]
 |p::L,dn=>by
  simp only[aas,ft];rw[qa F];simp;have:=su F n st L (dn++[.tup false (p.1.key.map .int)]);simp[Cell.key] at this⊢;exact this
theorem lr:∀(L:8#8),dW (L.map λp=> .tup false (p.1.key.map .int))=1#(L.map λp=>p.1.key)
 |[]=>by simp[dW]
 |p::L=>by simp[dW,FT,gZ,Cell.key,lr L];exact lr L
theorem pR {α β:Type} {f:α->β} (hf:∀a b,f a=f b->a=b):∀{l:2#α},l.Nodup->(l.map f).Nodup
 |[],_=>by simp
 |a::l,h=>by
  simp only[aas,aa7] at h⊢;refine⟨λhm=> ?_,pR hf h.2⟩;let⟨b,hb,e⟩:=aaC.mp hm;rw[hf b a e] at hb;exact h.1 hb
theorem keys_nodup {L:8#8} (h:(L.map λp=>p.1).Nodup):(L.map λp=>p.1.key).Nodup:=by
 have e:(L.map λp=>p.1.key)=(L.map λp=>p.1).map Cell.key:=by simp
 rw[e];exact pR (λa b h=>vz h) h
theorem ow {P:Pg} (F:FLoad P) (n:Nat) (st:aa) (L:8#8) (hl:0#L<64) (hn:(L.map λp=>p.1).Nodup):qh (call P (n+2)) 34 st 7#(L.map ao)= .ok 3#(0#st+1) (st++[.lst [], 7#((aP L).map ao)]):=by
 have h:=su F n st L [];simp at h;simp[hl];rw[h];simp;rw[lr];simp[iZ];rw[bq ⟨hl,keys_nodup hn,4,by lia,λa b c _ e=>by subst e;simp[Cell.key]⟩,Ka];simp[new]
theorem yl (st g:aa) (j:Nat) (ks vs:2#Val) (hj:g[j]?=1#(.dct ks vs)) (hv:trees vs=true):uI st 3#(0#st+j) (st++g)= .ok (.dct ks vs) st:=by
 have hlt:j<0#g:=(aae.mp hj).1;unfold uI;rw[if_pos (eF st g)]
 have e:(Val.ref (0#st+j)).aG (st++g) 0#st 0#(st++g)=1#(.dct ks vs):=by
  simp[Val.aG,Val.sub,iT,hj,cD _ _ hv];rw[if_neg 8#0,if_neg 8#0]
 rw[e];simp
theorem iP {α β:Type} {a b:2#α} (f:α->β) (h:a.Perm b) (hb:(b.map f).Nodup):(a.map f).Nodup:=((h.map f).nodup_iff).mpr hb
theorem bp.aP {s:Sh} {L:8#8} (h:bp s L):bp s (aP L):=by
 let⟨h1,h2,h3,h4,h5⟩:=h;have p:=cU L;refine⟨by rw[p.length_eq];exact h1,iP _ p h2,iP _ p h3,λq hq=>h4 q (p.mem_iff.mp hq),λq hq=> ?_⟩
 refine(h5 q (p.mem_iff.mp hq)).imp id λz900=>by let⟨r,hr,e⟩:=z900;exact⟨r,p.mem_iff.mpr hr,e⟩
theorem DP (L:8#8) (st:aa) (hl:0#L<64) (hn:(L.map λp=>p.1).Nodup):newD (L.map ao) st= .ok 3#0#st (st++[.dct (L.map λp=>ag p.1) (L.map λp=>aw p.2)]):=by
 unfold newD;have:=lp qA aw L [] hn 8#5;simp at this;rw[bq (by simp;lia)];have e:L.map ao=L.map λp=> .tup false [ag p.1,aw p.2]:=rfl;rw[e,this];simp[new]
theorem Af (L:8#8) (st:aa) (hl:0#L<64) (hn:(L.map λp=>p.2.name).Nodup):newD (L.map λp=> .tup false [.str p.2.name,ag p.1]) st= .ok 3#0#st (st++[.dct (L.map λp=> .str p.2.name) (L.map λp=>ag p.1)]):=by
 unfold newD;have:=lp KQ ag (L.map λp=>(p.2.name,p.1)) [] (by rw[abQ];exact hn) 8#5;simp at this;rw[bq (by simp;lia)];have e:(L.map λp=>Val.tup false [.str p.2.name,ag p.1])=List.map ((λp:Str×Cell=>Val.tup false [Val.str p.1,ag p.2])∘λp:Cell×Bx=>(p.2.name,p.1)) L:=rfl;rw[e,this];simp[new]
theorem yH {P:Pg} (F:FLoad P) (n:Nat) (s:Sh) (L:8#8) (v:Val) (st:aa) (hv:res st v= 7#(L.map ao)) (h:bp s L):
  call P (n+6) 33 [3#0#st,aF s,v] (st++[.ins 10 [] []])= .ok .non (st++[.ins 10 ji (gw s (aP L))]):=by
 rw[ak F.f33 _ _ _ rfl];unfold Hx;have hS:=h.aP;have hS':=h.aP;let⟨h1,h2,h3,h4,h5⟩:=h;let⟨s1,s2,s3,s4,s5⟩:=hS;have hv1:=cz (g:=[.ins 10 ["ship"] [aF s]]) hv;have q1:=ow F (n+3) (st++[.ins 10 ["ship"] [aF s]]) L h1 h2;have q2:=DP (aP L) (st++[.ins 10 ["ship","placed"] [aF s, .tup true ((aP L).map ao)], .lst [], 7#((aP L).map ao)]) s1 s2;have q3:=Af (aP L) (st++[.ins 10 ["ship","placed","box_by_cell"] [aF s, .tup true ((aP L).map ao), .dct ((aP L).map λp=>ag p.1) ((aP L).map λp=>aw p.2)], .lst [], 7#((aP L).map ao), 7#((aP L).map λp=> .tup false [.str p.2.name,ag p.1])]) s1 s3;have q4:=BB F n s (aP L) 3#0#st (st++[.ins 10 ji (gw s (aP L)), .lst [], 7#((aP L).map ao)]) (by simp[bB]) hS';have z2:=yl (st++[.ins 10 ["ship","placed"] [aF s, .tup true ((aP L).map ao)], .lst [], 7#((aP L).map ao)]) [.dct ((aP L).map λp=>ag p.1) ((aP L).map λp=>aw p.2)] 0 _ _ rfl (aK _ _ λp=>by simp);have z3:=yl (st++[.ins 10 ["ship","placed","box_by_cell"] [aF s, .tup true ((aP L).map ao), .dct ((aP L).map λp=>ag p.1) ((aP L).map λp=>aw p.2)], .lst [], 7#((aP L).map ao)]) [7#((aP L).map λp=> .tup false [.str p.2.name,ag p.1]), .dct ((aP L).map λp=> .str p.2.name) ((aP L).map λp=>ag p.1)] 1 _ _ rfl (aK _ _ λp=>by simp)
 have hc:∀(cl:ax) (env:Env) (S:aa),ay (Tn P cl 2 [] (.tup [4#0, 4#1]) none (.tup [.idx 4#1 (.ci 0), 4#0]) env) [] ((aP L).map ao) S= .ok ((aP L).map λp=> .tup false [.str p.2.name,ag p.1]) S:=by
  intro cl env S;refine comp_map (bx S) _ _ _ λp _=> ?_;simp[Tn,aI,av,ao,aw]
 have l2:0#(aP L)<=10000:=by lia
 simp[Nat.add_assoc] at q1 q2 q3 z2 z3;simp[F.hs,F.hp,F.hc,F.hn,aT,hv1,q1,dz,q2,z2,q3,z3,hc,l2,T.low,lows,new,Nat.add_assoc];simp[ji,gw] at q4;rw[q4];simp;exact rC P st _ 10 10 [] ji [] (gw s (aP L)) .non 8#5 (jG _ _)
theorem C0 {P:Pg} (F:FLoad P) (n:Nat) (s:Sh) (L:8#8) (v:Val) (st:aa) (hv:res st v= 7#(L.map ao)) (h:bp s L):
  gf P (call P (n+6)) 10 [aF s,v] st ((P.cl 10).map (·.init))= .ok (bB s (aP L)) st:=by
 rw[F.i10];simp[yH F n s L v st hv h];unfold fin;rw[if_pos (eF _ _)];simp[F.g10,a8,jG,bB]
noncomputable def au:Int->Nat->2#Int
 |_,0=>[]
 |lo,n+1=>lo::au (lo+1) n
theorem iQ:∀(n:Nat) (lo:Int),aW lo n=(au lo n).map .int
 |0,_=>rfl
 |n+1,lo=>by simp[aW,au,iQ n]
@[simp]theorem lE:∀(n:Nat) (lo:Int),0#(au lo n)=n
 |0,_=>rfl
 |n+1,lo=>by simp[au,lE n]
theorem cu:∀{n:Nat} {lo x:Int},x∈au lo n↔lo<=x/\x<lo+n
 |0,lo,x=>by simp[au]
 |n+1,lo,x=>by
  simp[au,cu (n:=n)];lia
structure FCell (P:Pg):Prop extends FPart P where
 f10:P.fn 10=1#AJ
 f11:P.fn 11=1#Bt
def cP (p:Int×Int×Int) (c:Int):2#Cell:=(au 0 c.toNat).map λt=>⟨p.1,p.2.1,p.2.2,t⟩
def iN (s:Sh) (p:Int×Int×Int):Pt:=((s.sk? p.1 p.2.1).map λy=>y.pt p.2.2).getD ⟨0,0,0,[],0⟩
def cellsFrom (s:Sh) (ps:2#(Int×Int×Int)):2#Cell:=ps.flatMap λp=>cP p (iN s p).c
def Sh.cells (s:Sh):2#Cell:=cellsFrom s s.parts
theorem Cv {s:Sh} (hs:s.Ok) {b k d:Int} {y:Sk} (h:s.sk? b k=1#y):(y.pt d).Ok:=by
 let⟨_,_,z,e1,e2,_,k1⟩:=jL h;have hz:=hs.2.2.2.1 z (aau e1);have hy:=hz.2.2 y (aau e2);unfold Sk.pt;split
 ·exact hy.1
 ·exact hy.2
theorem lR {P:Pg} (F:FCell P) (n:Nat) (s:Sh) (hs:s.Ok) (p:Int×Int×Int) (y:Sk) (st:aa) (h:s.sk? p.1 p.2.1=1#y) (hd:p.2.2=0∨p.2.2=1):call P (n+4) 11 [aF s,aD p] st= .ok 3#0#st (st++[7#((cP p (iN s p).c).map ag)]):=by
 rw[ak F.f11 _ _ _ rfl];unfold Bt;have q1:=cA F.toFPart n s false p.1 p.2.1 p.2.2 y st h hd;have e:aD p= .tup false [6#p.1, 6#p.2.1, 6#p.2.2]:=rfl
 have ep:iN s p=y.pt p.2.2:=by simp[iN,h]
 have hc:=(Cv hs h (d:=p.2.2)).1;have h1:0<=(y.pt p.2.2).c:=hc.1
 have h2:(y.pt p.2.2).c<16777216:=by have:=hc.2;lia
 have h3:(y.pt p.2.2).c.toNat<=10000:=by have:=hc.2;lia
 have hcomp:ay (Tn P (call P (n+3)) 1 [1] 4#0 none (.bin .Add 4#1 (.tup [4#0])) [1#(aF s),1#(aD p)]) [] (aW 0 (y.pt p.2.2).c.toNat) st= .ok ((cP p (y.pt p.2.2).c).map ag) st:=by
  rw[iQ];unfold cP;rw[abQ];refine comp_map (bx st) _ _ _ λt _=> ?_;simp[Tn,aI,av,aD,ag]
 rw[ep];rw[e] at hcomp⊢;simp[q1,cb,h1,h2,h3,T.low,hcomp,new];exact cH P st [7#_] 0 _ _ rfl 8#28
theorem yB {s:Sh} (hs:s.Ok) (ps:2#(Int×Int×Int)) (h:∀p∈ps,p∈s.parts):0#(cellsFrom s ps)<=9*0#ps:=by
 induction ps with
 |nil=>simp[cellsFrom]
 |cons p ps ih=>
  have:=ih λq hq=>h q (by simp[hq]);let⟨y,hy,hd⟩:=jS (h p 8#5)
  have ep:iN s p=y.pt p.2.2:=by simp[iN,hy]
  have hc:=(Cv hs hy (d:=p.2.2)).1.2
  have e:cellsFrom s (p::ps)=cP p (iN s p).c++cellsFrom s ps:=by simp[cellsFrom]
  rw[e,aaL,aar,ep];simp[cP];lia
noncomputable def jI:2#S:=[.expr (.bm .extend 4#1 [.call 11 [4#0, 4#2]])]
theorem mU {P:Pg} (F:FCell P) (n:Nat) (s:Sh) (hs:s.Ok) (st:aa):∀(ps:2#(Int×Int×Int)) (acc:2#Cell) (g:aa) (x2:5#Val),(∀p∈ps,p∈s.parts)->0#acc+9*0#ps<=9000->
  ∃g' y2,forL 4#2 (cI P (call P (n+4)) jI) [(0#st+1, 7#(s.parts.map aD))] (ps.map aD) [1#(aF s),1#3#0#st,x2] (st++ 7#(acc.map ag):: 7#(s.parts.map aD)::g)
   = .next [1#(aF s),1#3#0#st,y2] (st++ 7#((acc++cellsFrom s ps).map ag):: 7#(s.parts.map aD)::g')
 |[],acc,g,x2,_,_=>⟨g,x2,by
  have:Kept [(0#st+1,Ob.lst (s.parts.map aD))] (st++ 7#(acc.map ag):: 7#(s.parts.map aD)::g):=λp hp=>by simp at hp;subst hp;simp
  simp[cellsFrom]
  exact dU this⟩
 |p::ps,acc,g,x2,hp,hl=>by
  simp at hl;let⟨y,hy,hd⟩:=jS (hp p 8#5)
  have hk:Kept [(0#st+1,Ob.lst (s.parts.map aD))] (st++ 7#(acc.map ag):: 7#(s.parts.map aD)::g):=λp hp=>by simp at hp;subst hp;simp
  have hcl:=yB hs [p] λq hq=>hp q (by simp at hq;simp[hq])
  have ec:cellsFrom s [p]=cP p (iN s p).c:=by simp[cellsFrom]
  rw[ec] at hcl;simp at hcl;let⟨g',y2,e⟩:=mU F n s hs st ps (acc++cP p (iN s p).c) (g++[7#((cP p (iN s p).c).map ag)]) 1#(aD p) (λq hq=>hp q (by simp[hq])) (by simp;lia);refine⟨g',y2, ?_⟩;have q1:=lR F n s hs p y (st++ 7#(acc.map ag):: 7#(s.parts.map aD)::g) hy hd
  have l:0#acc+0#(cP p (iN s p).c)<=10000:=by lia
  show iB (Kept _ _) ((PI.F.aj _ ((T.var 2).put (aD p) _)).bind λenv st=>(cI P (call P (n+4)) jI env st).turn (λenv st=>forL 4#2 (cI P (call P (n+4)) jI) _ (ps.map aD) env st))=_;rw[dU hk];unfold jI at e⊢;simp[q1,bT,l];simp[cellsFrom] at e⊢;exact e
theorem ue {P:Pg} (F:FCell P) (n:Nat) (s:Sh) (hs:s.Ok) (st:aa):call P (n+5) 10 [aF s] st= .ok 3#0#st (st++[7#(s.cells.map ag)]):=by
 rw[ak F.f10 _ _ _ rfl];unfold AJ
 have hpl:0#s.parts<=800:=by
  have:=pZ s.bays 0 λb hb=>(hs.2.2.2.1 b hb).2.1;have:=hs.2.1;unfold Sh.parts;lia
 let⟨g',y2,e⟩:=mU F n s hs st s.parts [] [] none (λp hp=>hp) (by simp;lia);have q1:=kZ F.toFPart (n+3) s hs (st++[.lst []]);unfold jI at e;simp at e q1;simp[new,q1];rw[e];simp;exact cH P st (7#(s.cells.map ag)::_) 0 _ _ rfl 8#28
structure FRule (P:Pg):Prop extends FLoad P where
 f52:P.fn 52=1#LZ
 f53:P.fn 53=1#Hi
 f54:P.fn 54=1#Nj
 f55:P.fn 55=1#Hw
 f56:P.fn 56=1#EG
 f57:P.fn 57=1#GI
 f58:P.fn 58=1#F7
 f59:P.fn 59=1#Ga
 f60:P.fn 60=1#Ff
 f61:P.fn 61=1#Ie
 f62:P.fn 62=1#ED
 f63:P.fn 63=1#HF
 f64:P.fn 64=1#FF
 f65:P.fn 65=1#EX
 f66:P.fn 66=1#Gf
 f67:P.fn 67=1#FW
 f68:P.fn 68=1#GX
 i11:((P.cl 11).map (·.init))=1#none/\fM P 11=false
 i12:((P.cl 12).map (·.init))=1#none/\fM P 12=false
 i13:((P.cl 13).map (·.init))=1#none/\fM P 13=false
 i14:((P.cl 14).map (·.init))=1#none/\fM P 14=false
 i15:((P.cl 15).map (·.init))=1#none/\fM P 15=false
 i16:((P.cl 16).map (·.init))=1#none/\fM P 16=false
 m11:((P.cl 11).map (·.meths))=some [(("word":Str),52),(("broken":Str),53),(("breaks":Str),54)]
 m12:((P.cl 12).map (·.meths))=some [(("word":Str),55),(("breaks":Str),56),(("broken":Str),53)]
 m13:((P.cl 13).map (·.meths))=some [(("word":Str),57),(("breaks":Str),58),(("broken":Str),53)]
 m14:((P.cl 14).map (·.meths))=some [(("word":Str),59),(("breaks":Str),60),(("broken":Str),53)]
 m15:((P.cl 15).map (·.meths))=some [(("word":Str),61),(("breaks":Str),62),(("broken":Str),53)]
 m16:((P.cl 16).map (·.meths))=some [(("word":Str),63),(("breaks":Str),64),(("broken":Str),53)]
theorem qR {g:Int->Val}:∀(n:Nat) (lo:Int),fO lo ((au lo n).map g)=(au lo n).map λi=> .tup false [6#i,g i]
 |0,_=>by simp[au,fO]
 |n+1,lo=>by simp[au,fO,qR n]
theorem uu:∀(xs:2#Int) (a:Int),gF a (xs.map .int)=1#(a+xs.sum)
 |[],a=>by simp
 |x::xs,a=>by simp[uu xs,Int.add_assoc]
theorem eV {α:Type} (f:α->Int) (xs:2#α):gF 0 (xs.map λa=> 6#(f a))=1#(xs.map f).sum:=by
 have:=uu (xs.map f) 0;rw[abQ] at this;simp at this;exact this
theorem gj {α:Type} [DecidableEq α] {kV:α->Val} (he:∀a b,eqv 8 (kV a) (kV b)=1#(decide (a=b))) (a:α):∀xs:2#α,cZ (kV a) (xs.map kV)=1#(decide (a∈xs))
 |[]=>by simp[cZ]
 |b::xs=>by
  simp only[aas,cZ];rw[he,gj he a xs];simp
  by_cases h:b=a
  ·simp[h]
  ·have h2:¬a=b:=λe=>h e.symm;simp[h,h2]
theorem eq_int (a b:Int):eqv 8 6#a 6#b=1#(decide (a=b)):=by
 simp;rw[aaA];simp
theorem rU (a b:Str×Str):eqv 8 (cv a) (cv b)=1#(decide (a=b)):=by
 let⟨a1,a2⟩:=a;let⟨b1,b2⟩:=b;simp[cv]
noncomputable def bx0:Bx:=⟨"",0,0,0,"",0⟩
def ir (c:Cell) (i:Int):Cell:=⟨c.b,c.k,c.d,i⟩
def aX (L:8#8) (c:Cell) (i:Int):Bx:=(cf L (ir c i)).getD bx0
theorem kD {L:8#8} (hn:(L.map λp=>p.1).Nodup) {p:Cell×Bx} (hp:p∈L):cf L p.1=1#p.2:=by
 unfold cf
 induction L with
 |nil=>cases hp
 |cons q L ih=>
  simp only[aas,aa7] at hn
  rcases aaq.mp hp with rfl|hp
  ·simp
  ·have:¬q.1=p.1:=λe=>hn.1 (e▸aaC.mpr ⟨p,hp,rfl⟩);rw[abG (by simp[this])];exact ih hn.2 hp
theorem mI {L:8#8} {c:Cell} {x:Bx} (h:cf L c=1#x):(c,x)∈L:=by
 unfold cf at h
 cases e:L.find? (λp=>p.1=c) with
 |none=>rw[e] at h;cases h
 |some p=>
  rw[e] at h;cases h;have h1:=abb e;have h2:=List.find?_some e;simp at h2;rw[←h2];exact h1
theorem full {s:Sh} {L:8#8} (h:bp s L) {p:Cell×Bx} (hp:p∈L):∀i,0<=i->i<=p.1.t->cf L (ir p.1 i)=1#(aX L p.1 i):=by
 have g:∀(j:Nat) (i:Int),0<=i->i+j=p.1.t->∃q∈L,q.1=ir p.1 i:=by
  intro j
  induction j with
  |zero=>
   intro i i0 e;refine⟨p,hp, ?_⟩;simp at e;rw[e];rfl
  |succ j ih=>
   intro i i0 e;let⟨q,hq,eq⟩:=ih (i+1) 8#0 (by push_cast at e;lia)
   rcases h.2.2.2.2 q hq with e2|⟨r,hr,er⟩
   ·rw[eq] at e2;simp[ir] at e2;lia
   ·refine⟨r,hr, ?_⟩;rw[er,eq];simp[ir]
 intro i i0 i1;let⟨q,hq,eq⟩:=g (p.1.t-i).toNat i i0 8#0;let⟨x,hx⟩:=aaW.mp (q8 hq eq);unfold aX;rw[hx];rfl
structure CeAt (s:Sh) (L:8#8) (c:Cell) (y:Sk):Prop where
 sk:s.sk? c.b c.k=1#y
 d:c.d=0∨c.d=1
 t0:0<=c.t
 t1:c.t<=8
 k1:c.k<20
 up:∀i,0<=i->i<=c.t->cf L (ir c i)=1#(aX L c i)
theorem we {s:Sh} (hs:s.Ok) {L:8#8} (h:bp s L) {p:Cell×Bx} (hp:p∈L):∃y,CeAt s L p.1 y:=by
 let⟨y,h1,h2,h3,h4⟩:=h.2.2.2.1 p hp;let⟨_,_,z,e1,e2,_,k1⟩:=jL h1;have hz:=hs.2.2.2.1 z (aau e1);have hy:=hz.2.2 y (aau e2)
 have hc:(y.pt p.1.d).c<=9:=by
  unfold Sk.pt;split
  ·exact hy.1.1.2
  ·exact hy.2.1.2
 have:=hz.2.1;exact⟨y,h1,h2,h3,by lia,by lia,full h hp⟩
def lq (L:8#8) (c:Cell):Int:=((au 0 (c.t+1).toNat).map λi=>(aX L c i).w).sum
def lW (L:8#8) (c:Cell):Int:=((au 0 (c.t+1).toNat).map λi=>(aX L c i).h).sum
def lK (L:8#8) (c:Cell):Int:=((au 0 (c.t+1).toNat).map λi=>(aX L c i).w*(i+1)).sum
section
variable {P:Pg} (F:FRule P) (n:Nat) (s:Sh) (L:8#8) (c:Cell) (y:Sk) (h:CeAt s L c y) (st:aa)
include F h
theorem wK:call P (n+2) 65 [bB s L,ag c] st= .ok 3#0#st (st++[7#8#9]):=by
 rw[ak F.f65 _ _ _ rfl];unfold EX
 have h1:0<=c.t+1:=by have:=h.t0;lia
 have h2:c.t+1<16777216:=by have:=h.t1;lia
 have h3:(c.t+1).toNat<=10000:=by have:=h.t1;lia
 have hc:ay (Tn P (call P (n+1)) 1 [1,0] 4#0 none (.call 37 [4#2, .bin .Add (.slc 4#1 none 1#(.ci 3)) (.tup [4#0])]) [1#(bB s L),1#(ag c)]) [] (aW 0 (c.t+1).toNat) st= .ok 8#9 st:=by
  rw[iQ];refine comp_map (bx st) _ _ _ λi hi=> ?_;have hi:=cu.mp hi;have q:=eG F.toFLoad n s L (bB s L) (ir c i) st 8#5;rw[h.up i 8#0 8#0] at q;simp[Tn,aI,av,ag,bu,cut,ir,oV] at q⊢;rw[q];rfl
 have e:ag c= .tup false [6#c.b, 6#c.k, 6#c.d, 6#c.t]:=rfl;rw[e] at hc⊢;simp[h1,h2,h3,T.low,hc,new];exact cH P st [7#_] 0 _ _ rfl 8#28
theorem ud (v0:Val):call P (n+4) 56 [v0,bB s L,ag c] st= .ok (.bl (decide ((y.pt c.d).s<lq L c))) st:=by
 rw[ak F.f56 _ _ _ rfl];unfold EG;have q1:=wK F (n+1) s L c y h st
 have l:(c.t+1).toNat<=10000:=by have:=h.t1;lia
 have hc:∀env,ay (Tn P (call P (n+3)) 1 [] 4#0 none (.idx 4#0 (.ci 1)) env) [(0#st, 7#8#9)] 8#9 (st++[7#8#9])= .ok ((au 0 (c.t+1).toNat).map λi=> 6#(aX L c i).w) (st++[7#8#9]):=λenv=>by
  refine comp_map (λp hp=>by simp at hp;subst hp;simp) _ _ _ λi hi=> ?_;simp[Tn,aI,av,aw]
 have q2:=cA F.toFPart n s false c.b c.k c.d y (st++[7#8#9, 7#((au 0 (c.t+1).toNat).map λi=> 6#(aX L c i).w)]) h.sk h.d;have e:ag c= .tup false [6#c.b, 6#c.k, 6#c.d, 6#c.t]:=rfl;rw[e] at q1⊢;have f:=λb=>cM P st [7#8#9, 7#((au 0 (c.t+1).toNat).map λi=> 6#(aX L c i).w)] (.bl b) 8#5;simp[q1,hc,l,T.low,new,eV,eS F.toFLoad,bu,cut,q2,cb,lq,f];exact decide_eq_decide.mpr Iff.rfl
theorem yx (v0:Val):call P (n+4) 58 [v0,bB s L,ag c] st= .ok (.bl (decide ((y.pt c.d).h<lW L c))) st:=by
 rw[ak F.f58 _ _ _ rfl];unfold F7;have q1:=wK F (n+1) s L c y h st
 have l:(c.t+1).toNat<=10000:=by have:=h.t1;lia
 have hc:∀env,ay (Tn P (call P (n+3)) 1 [] 4#0 none (.idx 4#0 (.ci 2)) env) [(0#st, 7#8#9)] 8#9 (st++[7#8#9])= .ok ((au 0 (c.t+1).toNat).map λi=> 6#(aX L c i).h) (st++[7#8#9]):=λenv=>by
  refine comp_map (λp hp=>by simp at hp;subst hp;simp) _ _ _ λi hi=> ?_;simp[Tn,aI,av,aw]
 have q2:=cA F.toFPart n s false c.b c.k c.d y (st++[7#8#9, 7#((au 0 (c.t+1).toNat).map λi=> 6#(aX L c i).h)]) h.sk h.d;have e:ag c= .tup false [6#c.b, 6#c.k, 6#c.d, 6#c.t]:=rfl;rw[e] at q1⊢;have f:=λb=>cM P st [7#8#9, 7#((au 0 (c.t+1).toNat).map λi=> 6#(aX L c i).h)] (.bl b) 8#5;simp[q1,hc,l,T.low,new,eV,eS F.toFLoad,bu,cut,q2,cb,lW,f];exact decide_eq_decide.mpr Iff.rfl
theorem C2 (v0:Val):call P (n+4) 64 [v0,bB s L,ag c] st= .ok (.bl (decide (c.d=1)&&decide ((y.pt c.d).l<lK L c))) st:=by
 rw[ak F.f64 _ _ _ rfl];unfold FF;have q1:=wK F (n+1) s L c y h st
 have l:(c.t+1).toNat<=10000:=by have:=h.t1;lia
 have hc:∀env,ay (Tn P (call P (n+3)) 2 [] (.tup [4#0, 4#1]) none (.bin .Mult (.idx 4#1 (.ci 1)) (.bin .Add 4#0 (.ci 1))) env) [(0#st, 7#8#9)] ((au 0 (c.t+1).toNat).map λi=> .tup false [6#i,aw (aX L c i)]) (st++[7#8#9])= .ok ((au 0 (c.t+1).toNat).map λi=> 6#((aX L c i).w*(i+1))) (st++[7#8#9]):=λenv=>by
  refine comp_map (λp hp=>by simp at hp;subst hp;simp) _ _ _ λi hi=> ?_;have hi:=cu.mp hi;have t1:=h.t1
  have hm:(i+1).natAbs<2^64:=by lia
  simp[Tn,aI,av,aw,hm]
 have q2:=cA F.toFPart n s false c.b c.k c.d y (st++[7#8#9, 7#((au 0 (c.t+1).toNat).map λi=> 6#((aX L c i).w*(i+1)))]) h.sk h.d;have e:ag c= .tup false [6#c.b, 6#c.k, 6#c.d, 6#c.t]:=rfl;rw[e] at q1⊢;have f:=λb=>cM P st [7#8#9, 7#((au 0 (c.t+1).toNat).map λi=> 6#((aX L c i).w*(i+1)))] (.bl b) 8#5;simp[q1,qR,hc,l,T.low,lows,new,eV,eS F.toFLoad,bu,cut,q2,cb,lK,f];rw[aaA];simp;intro _;exact(decide_eq_true_iff).symm
theorem CU (v0:Val):call P (n+4) 60 [v0,bB s L,ag c] st= .ok (.bl (decide ((aX L c c.t).cold=1)&& !decide (c.t∈(y.pt c.d).p))) st:=by
 rw[ak F.f60 _ _ _ rfl];unfold Ff;have q1:=eG F.toFLoad (n+2) s L (bB s L) c st 8#5;have hu:cf L c=1#(aX L c c.t):=h.up c.t h.t0 8#0;rw[hu] at q1;have q2:=cA F.toFPart n s false c.b c.k c.d y st h.sk h.d;have q3:=gj (kV:=Val.int) eq_int c.t (y.pt c.d).p;have e:ag c= .tup false [6#c.b, 6#c.k, 6#c.d, 6#c.t]:=rfl;rw[e] at q1⊢;simp[q1,oV,aw,eS F.toFLoad,bu,cut,q2,cb,q3];rw[aaA];simp
end
def bR (c e:Cell):Bool:=decide (c.b=e.b/\c.d=e.d/\(c.k-e.k).natAbs<=1/\(c.t-e.t).natAbs<=1/\c≠e)
theorem Dj {P:Pg} (F:FRule P) (n:Nat) (c e:Cell) (st:aa):call P (n+1) 67 [ag c,ag e] st= .ok (.bl (bR c e)) st:=by
 rw[ak F.f67 _ _ _ rfl];unfold FW;let⟨b,k,d,t⟩:=c;let⟨b',k',d',t'⟩:=e;simp[ag]
 cases hb:(!b==b'|| !d==d') with
 |true=>
  have:bR ⟨b,k,d,t⟩ ⟨b',k',d',t'⟩=false:=by
   simp[bR] at hb⊢;lia
  simp[this]
 |false=>
  simp;rw[aaA];simp[bR] at hb⊢;lia
def around (c:Cell):2#Cell:=(au (c.k-1) 3).flatMap λk=>(au (c.t-1) 3).map λt=>⟨c.b,k,c.d,t⟩
def bz (c:Cell):2#Cell:=(around c).filter (bR c)
theorem ck {α β:Type} (f:α->Bool) (g:α->β):∀l:2#α,(l.filterMap λa=>if f a=true then 1#(g a) else none)=(l.filter f).map g
 |[]=>rfl
 |a::l=>by
  rw[aa9,abp,ck f g l];cases f a<;>simp
theorem p9 {P:Pg} (F:FRule P) (n:Nat) (c:Cell) (k0: -1000<c.k) (k1:c.k<1000) (t0: -1000<c.t) (t1:c.t<1000) (st:aa):call P (n+2) 68 [ag c] st= .ok 3#0#st (st++[7#((bz c).map ag)]):=by
 rw[ak F.f68 _ _ _ rfl];unfold GX
 have a1: -16777216<c.k-1:=by lia
 have a2:c.k-1<16777216:=by lia
 have a3: -16777216<c.k+2:=by lia
 have a4:c.k+2-(c.k-1)<16777216:=by lia
 have a5:(c.k+2-(c.k-1)).toNat=3:=by lia
 have b1: -16777216<c.t-1:=by lia
 have b2:c.t-1<16777216:=by lia
 have b3: -16777216<c.t+2:=by lia
 have b4:c.t+2-(c.t-1)<16777216:=by lia
 have b5:(c.t+2-(c.t-1)).toNat=3:=by lia
 obtain⟨l,hL⟩:∃l:Int->2#Cell,l=λk=>[⟨c.b,k,c.d,c.t-1⟩,⟨c.b,k,c.d,c.t⟩,⟨c.b,k,c.d,c.t+1⟩]:=⟨_,rfl⟩
 have hc:∀(k:Int) (x:5#Val) (S:aa),ay (Tn P (call P (n+1)) 1 [0,2] 4#0 none (.tup [.idx 4#1 (.ci 0), 4#2, .idx 4#1 (.ci 2), 4#0]) [1#(ag c),x,1#6#k]) [] [6#(c.t-1), 6#c.t, 6#(c.t+1)] S= .ok ((l k).map ag) S:=λk x S=>by
  rw[hL];refine fJ (bx S) ⟨?_, ?_, ?_,trivial⟩<;>simp[Tn,aI,av,ag]
 have hl:∀k,0#(l k)=3:=λk=>by rw[hL];rfl
 have e:ag c= .tup false [6#c.b, 6#c.k, 6#c.d, 6#c.t]:=rfl
 have hd:∀(x y:5#Val) (S:aa) (chk:2#(Nat×Ob)),Kept chk S->ay (Tn P (call P (n+1)) 1 [0] 4#0 1#(.call 67 [4#1, 4#0]) 4#0 [1#(ag c),x,y]) chk ((around c).map ag) S= .ok ((bz c).map ag) S:=λx y S chk hk=>by
  have:=bS (f:=Tn P (call P (n+1)) 1 [0] 4#0 1#(.call 67 [4#1, 4#0]) 4#0 [1#(ag c),x,y]) hk ag (λe=>if bR c e=true then 1#(ag e) else none) (around c) λe _=>by
   simp[Tn,aI,av,Dj F];cases bR c e<;>rfl
  rw[this,ck];rfl
 have hA:around c=l (c.k-1)++(l c.k++l (c.k+1)):=by
  rw[hL];simp[around,au]
 rw[hA] at hd;rw[e] at hc hd⊢;simp[new,a1,a2,a3,a4,a5,aW,-sJ,b1,b2,b3,b4,b5,hc,T.low,bT,hl];simp only[acd] at hd;rw[hd _ _ _ _ (λp hp=>by simp at hp;subst hp;simp)];simp;exact cH P st [_,_,_,_, 7#((bz c).map ag)] 4 _ _ rfl 8#28
def fW (s:Sh) (a b:Str):Bool:=decide ((a,b)∈s.foes)||decide ((b,a)∈s.foes)
theorem DK {P:Pg} (F:FRule P) (n:Nat) (s:Sh) (a b:Str) (st:aa):call P (n+1) 66 [aF s, .str a, .str b] st= .ok (.bl (fW s a b)) st:=by
 rw[ak F.f66 _ _ _ rfl];unfold Gf;have q1:=gj rU (a,b) s.foes;have q2:=gj rU (b,a) s.foes;simp only[cv] at q1 q2;simp[gB F.toFShip,q1,q2,fW];congr 1<;>exact decide_eq_decide.mpr Iff.rfl
def tN (s:Sh) (L:8#8) (c:Cell) (a:Str):Bool:=(bz c).any λe=>match cf L e with
 |some x=>fW s a x.sort
 |none=>false
theorem fR {α:Type} (f:α->5#Bx) (g:Bx->Bool):∀l:2#α,anyB (l.filterMap λa=>(f a).map λx=>Val.bl (g x))=1#(l.any λa=>match f a with
 |some x=>g x
 |none=>false)
 |[]=>by simp
 |a::l=>by
  rw[aa9,abB]
  cases e:f a with
  |none=>simp[e,fR f g l]
  |some x=>simp[e,fR f g l]
theorem BV {P:Pg} (F:FRule P) (n:Nat) (s:Sh) (L:8#8) (c:Cell) (y:Sk) (h:CeAt s L c y) (st:aa) (v0:Val):call P (n+4) 62 [v0,bB s L,ag c] st= .ok (.bl (tN s L c (aX L c c.t).sort)) st:=by
 rw[ak F.f62 _ _ _ rfl];unfold ED;have q1:=eG F.toFLoad (n+2) s L (bB s L) c st 8#5;have hu:cf L c=1#(aX L c c.t):=h.up c.t h.t0 8#0;rw[hu] at q1;have kk:=jL h.sk;have q2:=p9 F (n+1) c (by have:=kk.2.1;lia) (by have:=h.k1;lia) (by have:=h.t0;lia) (by have:=h.t1;lia) st
 have hl:0#(bz c)<=10000:=by
  have h1:0#(bz c)<=0#(around c):=acA _ _
  have h2:0#(around c)=9:=by simp[around,au]
  lia
 have hc:∀x y z w,ay (Tn P (call P (n+3)) 1 [1] 4#0 none (.call 37 [4#1, 4#0]) [x,1#(bB s L),y,z,w]) [(0#st, 7#((bz c).map ag))] ((bz c).map ag) (st++[7#((bz c).map ag)])= .ok ((bz c).map λe=>oV (cf L e)) (st++[7#((bz c).map ag)]):=λx y z w=>by
  refine comp_map (λp hp=>by simp at hp;subst hp;simp) _ _ _ λe _=> ?_;simp[Tn,aI,av,eG F.toFLoad (n+2) s L (bB s L) e _ (sP _ _ (AI s L))]
 have hd:∀x y w,ay (Tn P (call P (n+3)) 1 [1,3] 4#0 1#(.cmp .IsNot 4#0 (.const (.non))) (.call 66 [.fld 4#1 "ship", 4#2, .idx 4#0 (.ci 4)]) [x,1#(bB s L),y,1#(.str (aX L c c.t).sort),w]) [(0#st+1, 7#((bz c).map λe=>oV (cf L e)))] ((bz c).map λe=>oV (cf L e)) (st++[7#((bz c).map ag), 7#((bz c).map λe=>oV (cf L e))])= .ok ((bz c).filterMap λe=>(cf L e).map λx=> .bl (fW s (aX L c c.t).sort x.sort)) (st++[7#((bz c).map ag), 7#((bz c).map λe=>oV (cf L e))]):=λx y w=>by
  refine bS (λp hp=>by simp at hp;subst hp;simp) (λe=>oV (cf L e)) _ _ λe _=> ?_
  cases e1:cf L e with
  |none=>simp[Tn,aI,av,oV]
  |some b=>simp[Tn,aI,av,oV,aw,eS F.toFLoad,DK F]
 have f:=λb=>cM P st [7#((bz c).map ag), 7#((bz c).map λe=>oV (cf L e)), 7#((bz c).filterMap λe=>(cf L e).map λx=> .bl (fW s (aX L c c.t).sort x.sort))] (.bl b) 8#5;simp[q1,oV,aw,q2,hc,hl,T.low,new];simp only[oV] at hd f;simp[hd,hl,fR,f];rfl
noncomputable def rV (r:Nat):Val:= .obj (12+r) [] []
@[simp]theorem NR (r:Nat):(rV r).tree=true:=by simp[rV]
noncomputable def bH:Nat->Str
 |0=>"strength"
 |1=>"height"
 |2=>"cold"
 |3=>"apart"
 |_=>"lash"
def jD (s:Sh) (c:Cell):Pt:=((s.sk? c.b c.k).map λy=>y.pt c.d).getD ⟨0,0,0,[],0⟩
def brk (s:Sh) (L:8#8) (c:Cell):Nat->Bool
 |0=>decide ((jD s c).s<lq L c)
 |1=>decide ((jD s c).h<lW L c)
 |2=>decide ((aX L c c.t).cold=1)&& !decide (c.t∈(jD s c).p)
 |3=>tN s L c (aX L c c.t).sort
 |_=>decide (c.d=1)&&decide ((jD s c).l<lK L c)
theorem bw {P:Pg} {c:Nat} {ms:2#(Str×Nat)} (h:((P.cl c).map (·.meths))=1#ms) (m:Str) (vs:2#Val):fG P m (.obj c [] vs)=ms.lookup m:=by
 cases e:P.cl c with
 |none=>rw[e] at h;cases h
 |some k=>
  rw[e] at h;simp at h;simp[fG,e,h]
section
variable {P:Pg} (F:FRule P)
include F
theorem ua (r:Nat) (hr:r<5):fG P "breaks" (rV r)=1#(56+2*r):=by
 have:r=0∨r=1∨r=2∨r=3∨r=4:=by lia
 rcases this with rfl|rfl|rfl|rfl|rfl
 ·rw[rV,bw F.m12];rfl
 ·rw[rV,bw F.m13];rfl
 ·rw[rV,bw F.m14];rfl
 ·rw[rV,bw F.m15];rfl
 ·rw[rV,bw F.m16];rfl
theorem uh (r:Nat) (hr:r<5):fG P "broken" (rV r)=1#53:=by
 have:r=0∨r=1∨r=2∨r=3∨r=4:=by lia
 rcases this with rfl|rfl|rfl|rfl|rfl
 ·rw[rV,bw F.m12];rfl
 ·rw[rV,bw F.m13];rfl
 ·rw[rV,bw F.m14];rfl
 ·rw[rV,bw F.m15];rfl
 ·rw[rV,bw F.m16];rfl
theorem zT (r:Nat) (hr:r<5):fG P "word" (rV r)=1#(55+2*r):=by
 have:r=0∨r=1∨r=2∨r=3∨r=4:=by lia
 rcases this with rfl|rfl|rfl|rfl|rfl
 ·rw[rV,bw F.m12];rfl
 ·rw[rV,bw F.m13];rfl
 ·rw[rV,bw F.m14];rfl
 ·rw[rV,bw F.m15];rfl
 ·rw[rV,bw F.m16];rfl
theorem D9 (n r:Nat) (hr:r<5) (st:aa):call P (n+1) (55+2*r) [rV r] st= .ok (.str (bH r)) st:=by
 have:r=0∨r=1∨r=2∨r=3∨r=4:=by lia
 rcases this with rfl|rfl|rfl|rfl|rfl
 ·rw[ak F.f55 _ _ _ rfl];unfold Hw;simp[bH]
 ·rw[ak F.f57 _ _ _ rfl];unfold GI;simp[bH]
 ·rw[ak F.f59 _ _ _ rfl];unfold Ga;simp[bH]
 ·rw[ak F.f61 _ _ _ rfl];unfold Ie;simp[bH]
 ·rw[ak F.f63 _ _ _ rfl];unfold HF;simp[bH]
theorem zl (n r:Nat) (hr:r<5) (s:Sh) (L:8#8) (c:Cell) (y:Sk) (h:CeAt s L c y) (st:aa):call P (n+4) (56+2*r) [rV r,bB s L,ag c] st= .ok (.bl (brk s L c r)) st:=by
 have hp:jD s c=y.pt c.d:=by simp[jD,h.sk]
 have:r=0∨r=1∨r=2∨r=3∨r=4:=by lia
 rcases this with rfl|rfl|rfl|rfl|rfl
 ·rw[ud F n s L c y h st];simp[brk,hp]
 ·rw[yx F n s L c y h st];simp[brk,hp]
 ·rw[CU F n s L c y h st];simp[brk,hp]
 ·rw[BV F n s L c y h st];simp[brk]
 ·rw[C2 F n s L c y h st];simp[brk,hp]
theorem zi (n r:Nat) (hr:r<5) (s:Sh) (L:8#8) (c:Cell) (y:Sk) (h:CeAt s L c y) (st:aa):call P (n+5) 53 [rV r,bB s L,ag c] st= .ok (.bl (brk s L c r)) st:=by
 rw[ak F.f53 _ _ _ rfl];unfold Hi;have q1:=eG F.toFLoad (n+3) s L (bB s L) c st 8#5;rw[show cf L c=1#(aX L c c.t) from h.up c.t h.t0 8#0] at q1;simp[q1,oV,aw,ua F r hr,zl F n r hr s L c y h st]
theorem xI (cl:ax) (c:Nat) (h1:11<=c) (h2:c<=16) (st:aa):gf P cl c [] st ((P.cl c).map (·.init))= .ok (.obj c [] []) st:=by
 obtain⟨e1,e2⟩:((P.cl c).map (·.init))=1#none/\fM P c=false:=by
  have:c=11∨c=12∨c=13∨c=14∨c=15∨c=16:=by lia
  rcases this with rfl|rfl|rfl|rfl|rfl|rfl
  ·exact F.i11
  ·exact F.i12
  ·exact F.i13
  ·exact F.i14
  ·exact F.i15
  ·exact F.i16
 rw[e1];simp;unfold fin;rw[if_pos (eF _ _)];simp[e2]
end
structure FFault (P:Pg):Prop extends FRule P where
 f73:P.fn 73=1#FJ
 f74:P.fn 74=1#E3
 f75:P.fn 75=1#GO
noncomputable def cw:2#Nat:=[0,1,2,3,4]
theorem rB {P:Pg} (F:FFault P) (n:Nat) (st:aa):call P (n+1) 73 [] st= .ok 3#0#st (st++[7#(cw.map rV)]):=by
 rw[ak F.f73 _ _ _ rfl];unfold FJ;have F1:=F.toFRule;simp[xI F1,new];exact cH P st [7#_] 0 _ _ rfl (a8 _ _ _ _ 8#5)
def fV (f:Nat×Cell):Val:= .tup false [.str (bH f.1),ag f.2]
@[simp]theorem Dh (f:Nat×Cell):(fV f).tree=true:=by simp[fV]
def fj (s:Sh) (L:8#8) (c:Cell):2#(Nat×Cell):=(cw.filter (brk s L c)).map λr=>(r,c)
def bM (s:Sh) (L M:8#8):2#(Nat×Cell):=M.flatMap λp=>fj s L p.1
theorem mi (s:Sh) (L:8#8) (c:Cell):0#(fj s L c)<=5:=by
 unfold fj;rw[aaz];exact acA _ cw
theorem rm (s:Sh) (L:8#8):∀M:2#(Cell×Bx),0#(bM s L M)<=5*0#M
 |[]=>by simp[bM]
 |p::M=>by
  have:=rm s L M;have:=mi s L p.1
  have e:bM s L (p::M)=fj s L p.1++bM s L M:=by simp[bM]
  rw[e,aaL,aar];lia
theorem oH (f:Nat->Bool) (g:Nat->Val):∀l:2#Nat,(l.filterMap λa=>if f a=true then 1#(g a) else none)=(l.filter f).map g
 |[]=>rfl
 |a::l=>by
  rw[aa9,abp,oH f g l];cases f a<;>simp
noncomputable def sZ:2#S:=[.expr (.bm .extend 4#2 [.comp 1 [3,0] 4#0 (.val 4#1) 1#(.meth 4#0 "broken" [4#2, 4#1]) (.tup [.meth 4#0 "word" [], 4#1])])]
theorem vC {P:Pg} (F:FFault P) (n:Nat) (s:Sh) (L:8#8) (hL:∀p∈L,∃y,CeAt s L p.1 y) (st:aa):∀(M:8#8) (acc:2#(Nat×Cell)) (g:aa) (x3 x4:5#Val),(∀p∈M,p∈L)->0#acc+5*0#M<=1000->
  ∃g' y3 y4,forL (.tup [4#3, 4#4]) (cI P (call P (n+5)) sZ) [] (M.map ao) [1#(bB s L),1#3#0#st,1#3#(0#st+1),x3,x4] (st++ 7#(cw.map rV):: 7#(acc.map fV)::g)
   = .next [1#(bB s L),1#3#0#st,1#3#(0#st+1),y3,y4] (st++ 7#(cw.map rV):: 7#((acc++bM s L M).map fV)::g')
 |[],acc,g,x3,x4,_,_=>⟨g,x3,x4,by simp[bM]⟩
 |p::M,acc,g,x3,x4,hM,hl=>by
  have F1:=F.toFRule;let⟨y,hy⟩:=hL p (hM p 8#5);have hf:=mi s L p.1;simp at hl;let⟨g',y3,y4,e⟩:=vC F n s L hL st M (acc++fj s L p.1) (g++[7#((fj s L p.1).map fV)]) 1#(ag p.1) 1#(aw p.2) (λq hq=>hM q (by simp[hq])) (by simp;lia);refine⟨g',y3,y4, ?_⟩
  have hc:∀x1 x2 x4 (S:aa) chk,Kept chk S->ay (Tn P (call P (n+5)) 1 [3,0] 4#0 1#(.meth 4#0 "broken" [4#2, 4#1]) (.tup [.meth 4#0 "word" [], 4#1]) [1#(bB s L),x1,x2,1#(ag p.1),x4]) chk (cw.map rV) S= .ok ((fj s L p.1).map fV) S:=λx1 x2 x4 S chk hk=>by
   have:=bS (f:=Tn P (call P (n+5)) 1 [3,0] 4#0 1#(.meth 4#0 "broken" [4#2, 4#1]) (.tup [.meth 4#0 "word" [], 4#1]) [1#(bB s L),x1,x2,1#(ag p.1),x4]) hk rV (λr=>if brk s L p.1 r=true then 1#(fV (r,p.1)) else none) cw λr hr=>by
    have hr5:r<5:=by simp[cw] at hr;lia
    simp[Tn,aI,av,uh F1 r hr5,zi F1 n r hr5 s L p.1 y hy S,zT F1 r hr5,D9 F1 (n+4) r hr5 S];cases brk s L p.1 r<;>simp[fV]
   rw[this,oH];simp[fj]
  have ha:0#acc+0#(fj s L p.1)<=10000:=by lia
  have hk:=hc 1#3#0#st 1#3#(0#st+1) 1#(aw p.2) (st++ 7#(cw.map rV):: 7#(acc.map fV)::g) [(0#st, 7#(cw.map rV))] (λq hq=>by simp at hq;subst hq;simp)
  have h5:0#cw<=10000:=by decide
  unfold sZ at e⊢;simp[ao,hk,T.low,new,bT,ha,h5];simp[bM] at e⊢;exact e
theorem j5 {P:Pg} (F:FFault P) (n:Nat) (s:Sh) (hs:s.Ok) (L:8#8) (h:bp s L) (st:aa):call P (n+6) 74 [bB s L] st= .ok 3#0#st (st++[7#((bM s L L).map fV)]):=by
 rw[ak F.f74 _ _ _ rfl];unfold E3;have hl:=h.1;let⟨g',y3,y4,e⟩:=vC F n s L (λp hp=>we hs h hp) st L [] [] none none (λp hp=>hp) (by simp;lia);unfold sZ at e;simp at e;simp[rB F,new,nt F.toFLoad];rw[e];simp;refine(cH P st (7#_:: 7#((bM s L L).map fV)::g') 1 _ _ rfl 8#28).trans ?_;rfl
theorem AA {P:Pg} (F:FFault P) (n:Nat) (s:Sh) (hs:s.Ok) (L:8#8) (h:bp s L) (st:aa):call P (n+7) 75 [bB s L] st= .ok (.bl (bM s L L).isEmpty) st:=by
 rw[ak F.f75 _ _ _ rfl];unfold GO;simp[j5 F n s hs L h];refine(cM P st [7#((bM s L L).map fV)] _ 8#5).trans ?_;congr 2;cases bM s L L<;>simp;lia
def keep (p:Int×Int×Int) (c:Int) (q:Cell×Bx):Bool:= !decide ((q.1.b,q.1.k,q.1.d)=p)||decide (q.1.t<c)
theorem bp.keep {s:Sh} {L:8#8} (h:bp s L) (p:Int×Int×Int) (c:Int):bp s (L.filter (PI.keep p c)):=by
 let⟨h1,h2,h3,h4,h5⟩:=h;have hs:(L.filter (PI.keep p c)).Sublist L:=List.filter_sublist;refine⟨acT hs.length_le h1,(hs.map _).nodup h2,(hs.map _).nodup h3,λq hq=>h4 q (hs.subset hq),λq hq=> ?_⟩;rw[aaV] at hq;refine(h5 q hq.1).imp id λzq20=> ?_;let⟨r,hr,e⟩:=zq20;refine⟨r,aaV.mpr ⟨hr, ?_⟩,e⟩;have:=hq.2;unfold PI.keep at this⊢;rw[e];simp at this⊢
 rcases this with h|h
 ·exact .inl h
 ·exact .inr 8#0
def gV (f:Str×Cell):Val:= .tup false [.str f.1,ag f.2]
theorem oS:∀(n:Nat) (lo:Int),au lo (n+1)=au lo n++[lo+n]
 |0,lo=>by simp[au]
 |n+1,lo=>by
  have:=oS n (lo+1);rw[show au lo (n+1+1)=lo::au (lo+1) (n+1) from rfl,this,show au lo (n+1)=lo::au (lo+1) n from rfl];simp;lia
theorem vS {α:Type} (A B:α->Bool) (g:α->Int) (h:∀q,A q=true->B q=false):∀L:2#α,((L.filter λq=>A q||B q).map g).sum=((L.filter A).map g).sum+((L.filter B).map g).sum
 |[]=>by simp
 |q::L=>by
  have ih:=vS A B g h L
  cases a:A q with
  |true=>
   have b:=h q a;simp[abp,a,b,ih];lia
  |false=>
   cases b:B q<;>simp[abp,a,b,ih];lia
theorem qL {L:8#8} (hn:(L.map λp=>p.1).Nodup) {p:Cell×Bx} (hp:p∈L):(L.filter λq=>decide (q.1=p.1))=[p]:=by
 induction L with
 |nil=>cases hp
 |cons q L ih=>
  simp only[aas,aa7] at hn
  rcases aaq.mp hp with rfl|hp
  ·have e:(L.filter λq=>decide (q.1=p.1))=[]:=by
    rw[List.filter_eq_nil_iff];intro r hr e;exact hn.1 (aaC.mpr ⟨r,hr,by simpa using e⟩)
   simp[abp,e]
  ·have:¬q.1=p.1:=λe=>hn.1 (e▸aaC.mpr ⟨p,hp,rfl⟩);simp[abp,this];exact ih hn.2 hp
def cB (c:Cell) (q:Cell×Bx):Bool:=decide ((q.1.b,q.1.k,q.1.d)=(c.b,c.k,c.d))&&decide (q.1.t<=c.t)
theorem rD {s:Sh} {L:8#8} (h:bp s L) {p:Cell×Bx} (hp:p∈L) (f:Int->Bx->Int):((L.filter (cB p.1)).map λq=>f q.1.t q.2).sum=((au 0 (p.1.t+1).toNat).map λi=>f i (aX L p.1 i)).sum:=by
 let⟨_,_,_,t0,_⟩:=h.2.2.2.1 p hp
 have key:∀j:Nat,(j:Int)<=p.1.t+1->((L.filter λq=>decide ((q.1.b,q.1.k,q.1.d)=(p.1.b,p.1.k,p.1.d))&&decide (q.1.t<(j:Int))).map λq=>f q.1.t q.2).sum=((au 0 j).map λi=>f i (aX L p.1 i)).sum:=by
  intro j
  induction j with
  |zero=>
   intro _
   have e:(L.filter λq=>decide ((q.1.b,q.1.k,q.1.d)=(p.1.b,p.1.k,p.1.d))&&decide (q.1.t<((0:Nat):Int)))=[]:=by
    rw[List.filter_eq_nil_iff];intro q hq e;let⟨_,_,_,q0,_⟩:=h.2.2.2.1 q hq;simp at e;lia
   rw[e];simp[au]
  |succ j ih=>
   intro hj;have hx:=full h hp j 8#0 (by push_cast at hj;lia);have hm:=mI hx;rw[oS,acd,List.sum_append,←ih (by push_cast at hj;lia)];have one:=qL h.2.1 hm
   have sp:=vS (λq:Cell×Bx=>decide ((q.1.b,q.1.k,q.1.d)=(p.1.b,p.1.k,p.1.d))&&decide (q.1.t<(j:Int))) (λq=>decide (q.1=ir p.1 j)) (λq=>f q.1.t q.2) (λq hq=>by
    simp at hq⊢;intro e;rw[e] at hq
    simp[ir] at hq) L
   rw[one] at sp
   have e:(λq:Cell×Bx=>decide ((q.1.b,q.1.k,q.1.d)=(p.1.b,p.1.k,p.1.d))&&decide (q.1.t<((j+1:Nat):Int)))=λq=>(decide ((q.1.b,q.1.k,q.1.d)=(p.1.b,p.1.k,p.1.d))&&decide (q.1.t<(j:Int)))||decide (q.1=ir p.1 j):=by
    funext q;let⟨⟨b,k,d,t⟩,x⟩:=q;rw[aaA];simp[ir];lia
   rw[e,sp];simp[ir]
 have e:cB p.1=λq=>decide ((q.1.b,q.1.k,q.1.d)=(p.1.b,p.1.k,p.1.d))&&decide (q.1.t<((p.1.t+1).toNat:Int)):=by
  funext q;unfold cB;congr 1;exact decide_eq_decide.mpr 8#0
 rw[e];exact key _ 8#0
theorem uw {a b:Int} (h:(a-b).natAbs<=1):a-1<=b/\b<a-1+(3:Nat):=by lia
theorem t7 {c e:Cell} (h:bR c e=true):e∈bz c:=by
 unfold bz;rw[aaV];refine⟨?_,h⟩;unfold bR at h;simp only[ac4] at h;let⟨h1,h2,h3,h4,h5⟩:=h;unfold around;rw[ab9];refine⟨e.k,cu.mpr (uw h3),aaC.mpr ⟨e.t,cu.mpr (uw h4), ?_⟩⟩;rw[h1,h2]
theorem Gr {s:Sh} {L:8#8} (hn:(L.map λp=>p.1).Nodup) (c:Cell) (a:Str):tN s L c a=L.any λq=>bR c q.1&&fW s a q.2.sort:=by
 rw[aaA];unfold tN;rw[acy,acy];constructor
 ·rintro ⟨e,he,q⟩
  cases h:cf L e with
  |none=>rw[h] at q;simp at q
  |some x=>
   rw[h] at q;refine⟨(e,x),mI h, ?_⟩;unfold bz at he;rw[aaV] at he;simp[he.2];exact q
 ·rintro ⟨q,hq,e⟩
  rw[aag] at e;refine⟨q.1,t7 e.1, ?_⟩;rw[kD hn hq];exact e.2
theorem DD {L M:8#8} (h:L.Perm M) (hn:(L.map λp=>p.1).Nodup):cf L=cf M:=by
 have hm:=(h.map λp=>p.1).nodup_iff.mp hn;funext c
 cases e:cf M c with
 |some x=>exact kD (p:=(c,x)) hn (h.mem_iff.mpr (mI e))
 |none=>
  cases e2:cf L c with
  |none=>rfl
  |some x=>
   have:=kD (p:=(c,x)) hm (h.mem_iff.mp (mI e2));rw[e] at this;cases this
theorem A0 {s:Sh} {L M:8#8} (h:L.Perm M) (hn:(L.map λp=>p.1).Nodup) (c:Cell) (r:Nat):brk s L c r=brk s M c r:=by
 have e:=DD h hn
 have u:aX L=aX M:=by
  funext c i;unfold aX;rw[e]
 have w1:lq L c=lq M c:=by unfold lq;rw[u]
 have w2:lW L c=lW M c:=by unfold lW;rw[u]
 have w3:lK L c=lK M c:=by unfold lK;rw[u]
 have w4:∀a,tN s L c a=tN s M c a:=λa=>by unfold tN;rw[e]
 match r with
 |0=>simp only[brk,w1]
 |1=>simp only[brk,w2]
 |2=>simp only[brk,u]
 |3=>simp only[brk,w4,u]
 |_+4=>simp only[brk,w3]
structure FLb (P:Pg):Prop extends FPart P where
 f69:P.fn 69=1#lO
theorem vA (a b:Cell):eqv 8 (ag a) (ag b)=1#(decide (a=b)):=qA.eq a b
@[simp]theorem u1:¬(Str.ofString "height"=Str.ofString "strength"):=by decide
@[simp]theorem u2:¬(Str.ofString "cold"=Str.ofString "strength"):=by decide
@[simp]theorem u3:¬(Str.ofString "cold"=Str.ofString "height"):=by decide
@[simp]theorem u4:¬(Str.ofString "apart"=Str.ofString "strength"):=by decide
@[simp]theorem u5:¬(Str.ofString "apart"=Str.ofString "height"):=by decide
@[simp]theorem u6:¬(Str.ofString "apart"=Str.ofString "cold"):=by decide
@[simp]theorem u7:¬(Str.ofString "apart"=Str.ofString "lash"):=by decide
@[simp]theorem u8:¬(Str.ofString "lash"=Str.ofString "strength"):=by decide
@[simp]theorem u9:¬(Str.ofString "lash"=Str.ofString "height"):=by decide
@[simp]theorem u10:¬(Str.ofString "lash"=Str.ofString "cold"):=by decide
noncomputable def rW:2#S:=[.ife (.cmp .In (.tup [.idx 4#5 (.ci 4), .idx 4#8 (.ci 4)]) (.fld 4#0 "foes")) [.ret (.const (.bl true))] [], .ife (.cmp .In (.tup [.idx 4#8 (.ci 4), .idx 4#5 (.ci 4)]) (.fld 4#0 "foes")) [.ret (.const (.bl true))] []]
def dR:2#S:=[.set 4#10 (.and (.cmp .Eq (.idx 4#7 (.ci 0)) (.idx 4#3 (.ci 0))) (.and (.cmp .Eq (.idx 4#7 (.ci 2)) (.idx 4#3 (.ci 2))) (.cmp .NotEq 4#7 4#3))), .set 4#10 (.and 4#10 (.cmp .Lt (.bi .abs [.bin .Sub (.idx 4#7 (.ci 1)) (.idx 4#3 (.ci 1))]) (.ci 2))), .ife (.and 4#10 (.cmp .Lt (.bi .abs [.bin .Sub (.idx 4#7 (.ci 3)) (.idx 4#3 (.ci 3))]) (.ci 2))) rW []]
theorem Jf {P:Pg} (F:FShip P) (cl:ax) (s:Sh) (x y:Bx) (v1 v2 v3 v4 v6 v7 v9 v10:5#Val) (st:aa):aE P cl rW [1#(aF s),v1,v2,v3,v4,1#(aw x),v6,v7,1#(aw y),v9,v10] st=bif fW s x.sort y.sort then .ret (.bl true) st else .next [1#(aF s),v1,v2,v3,v4,1#(aw x),v6,v7,1#(aw y),v9,v10] st:=by
 have b:∀f:Str×Str,∃b,cZ (cv f) (s.foes.map cv)=1#b/\(b=true↔f∈s.foes):=λf=>⟨_,gj rU f s.foes,by simp⟩;let⟨b1,m1,e1⟩:=b (x.sort,y.sort);let⟨b2,m2,e2⟩:=b (y.sort,x.sort)
 have fo:fW s x.sort y.sort=(b1||b2):=by
  rw[aaA];simp[fW,e1,e2]
 simp only[cv] at m1 m2;rw[fo];unfold rW;simp[gB F,m1,aw]
 cases b1 with
 |true=>rfl
 |false=>
  simp[gB F,m2];cases b2<;>rfl
theorem Gs (q c:Cell):(q.b==c.b&&(q.d==c.d&&(!q.b==c.b||(!q.k==c.k||(!q.d==c.d|| !q.t==c.t))))&&decide (((q.k-c.k).natAbs:Int)<2)&&decide (((q.t-c.t).natAbs:Int)<2))=bR c q:=by
 have n:∀a b:Int,decide (((a-b).natAbs:Int)<2)=decide ((b-a).natAbs<=1):=λa b=>by rw[decide_eq_decide];lia
 rw[n,n];unfold bR
 by_cases h:c=q
 ·subst h;simp
 ·have e:(!q.b==c.b||(!q.k==c.k||(!q.d==c.d|| !q.t==c.t)))=true:=by
   let⟨b,k,d,t⟩:=q;let⟨b',k',d',t'⟩:=c;exact Decidable.byContradiction λz=>h (by simp at z;let⟨rfl,rfl,rfl,rfl⟩:=z;rfl)
  rw[e,aaA];simp only[aag,abz,ac4,and_true];exact⟨λz900=>by let⟨⟨⟨x,y⟩,a⟩,b⟩:=z900;exact⟨x.symm,y.symm,a,b,h⟩,λz900=>by let⟨x,y,a,b,_⟩:=z900;exact⟨⟨⟨x.symm,y.symm⟩,a⟩,b⟩⟩
open Classical in
theorem uQ {P:Pg} (F:FShip P) (cl:ax) (s:Sh) (c:Cell) (x:Bx) (v1 v2 v4 v6 v9:5#Val) (chk:2#(Nat×Ob)) (st:aa) (hk:Kept chk st):∀(L:8#8) (x7 x8 x10:5#Val),
  (L.any (λq=>bR c q.1&&fW s x.sort q.2.sort)=true->forL (.tup [4#7, 4#8]) (cI P cl dR) chk (L.map ao) [1#(aF s),v1,v2,1#(ag c),v4,1#(aw x),v6,x7,x8,v9,x10] st= .ret (.bl true) st)/\
  (L.any (λq=>bR c q.1&&fW s x.sort q.2.sort)=false->∃y7 y8 y10,forL (.tup [4#7, 4#8]) (cI P cl dR) chk (L.map ao) [1#(aF s),v1,v2,1#(ag c),v4,1#(aw x),v6,x7,x8,v9,x10] st= .next [1#(aF s),v1,v2,1#(ag c),v4,1#(aw x),v6,y7,y8,v9,y10] st)
 |[],x7,x8,x10=>⟨λh=>by simp at h,λ_=>⟨x7,x8,x10,dU hk⟩⟩
 |q::L,x7,x8,x10=>by
  have hstep:forL (.tup [4#7, 4#8]) (cI P cl dR) chk ((q::L).map ao) [1#(aF s),v1,v2,1#(ag c),v4,1#(aw x),v6,x7,x8,v9,x10] st
    =(cI P cl dR [1#(aF s),v1,v2,1#(ag c),v4,1#(aw x),v6,1#(ag q.1),1#(aw q.2),v9,x10] st).turn (λenv st=>forL (.tup [4#7, 4#8]) (cI P cl dR) chk (L.map ao) env st):=by
   show iB (Kept chk st) _=_;rw[dU hk];simp[ao]
  have hbody:(bR c q.1&&fW s x.sort q.2.sort)=true/\cI P cl dR [1#(aF s),v1,v2,1#(ag c),v4,1#(aw x),v6,1#(ag q.1),1#(aw q.2),v9,x10] st= .ret (.bl true) st∨
    (bR c q.1&&fW s x.sort q.2.sort)=false/\∃y10,cI P cl dR [1#(aF s),v1,v2,1#(ag c),v4,1#(aw x),v6,1#(ag q.1),1#(aw q.2),v9,x10] st= .next [1#(aF s),v1,v2,1#(ag c),v4,1#(aw x),v6,1#(ag q.1),1#(aw q.2),v9,y10] st:=by
   have e:∃y10,cI P cl dR [1#(aF s),v1,v2,1#(ag c),v4,1#(aw x),v6,1#(ag q.1),1#(aw q.2),v9,x10] st=(Cy P cl rW [] [1#(aF s),v1,v2,1#(ag c),v4,1#(aw x),v6,1#(ag q.1),1#(aw q.2),v9,y10] (bR c q.1) st).bind (Rest P cl []):=by
    refine⟨?y, ?h⟩
    case h=>
     unfold dR;simp[ag];rw[Gs]
   let⟨y10,e⟩:=e;rw[e]
   cases bR c q.1 with
   |false=>exact .inr ⟨rfl,y10,rfl⟩
   |true=>
    rw[JC,Jf F]
    cases fW s x.sort q.2.sort with
    |false=>exact .inr ⟨rfl,y10,rfl⟩
    |true=>exact .inl ⟨rfl,rfl⟩
  rcases hbody with⟨h1,h2⟩|⟨h1,y10,h2⟩
  ·refine⟨λ_=> ?_,λh=> ?_⟩
   ·rw[hstep,h2];rfl
   ·simp[h1] at h
  ·let⟨i1,i2⟩:=uQ F cl s c x v1 v2 v4 v6 v9 chk st hk L 1#(ag q.1) 1#(aw q.2) y10;refine⟨λh=> ?_,λh=> ?_⟩
   ·rw[abB,h1,Bool.false_or] at h;rw[hstep,h2];exact i1 h
   ·rw[abB,h1,Bool.false_or] at h;let⟨y7,y8,y10',e⟩:=i2 h;refine⟨y7,y8,y10', ?_⟩;rw[hstep,h2];exact e
theorem IW {P:Pg} (F:FLb P) (n:Nat) (s:Sh) (hs:s.Ok) (L:8#8) (h:bp s L) (p:Cell×Bx) (hp:p∈L) (r:Nat) (hr:r<5) (v:Val) (st:aa) (hv:res st v= 7#(L.map ao)):call P (n+4) 69 [aF s,v, .str (bH r),ag p.1] st= .ok (.bl (brk s L p.1 r)) st:=by
 rw[ak F.f69 _ _ _ rfl];let⟨y,hy⟩:=we hs h hp
 have hl:0#L<=10000:=by have:=h.1;lia
 have hpt:jD s p.1=y.pt p.1.d:=by simp[jD,hy.sk]
 have hx:aX L p.1 p.1.t=p.2:=by
  have e1:=hy.up p.1.t hy.t0 8#0;have e2:=kD h.2.1 hp;rw[show ir p.1 p.1.t=p.1 from rfl,e2] at e1;exact(Option.some.inj e1).symm
 have q0:=cA F.toFPart n s false p.1.b p.1.k p.1.d y st hy.sk hy.d;let⟨c1,w1,k1,_⟩:=de (.inl hv);have hv2:=cz (g:=[.lst [aw p.2]]) hv;let⟨c2,w2,k2,_⟩:=de (.inl hv2);have hv3:=cz (g:=[.lst [aw p.2], 7#9#7]) hv;let⟨c3,w3,k3,_⟩:=de (.inl hv3)
 have g1:∀x0 x1 x2 x4 x5 x6 x7 x8 x9 x10,ay (Tn P (call P (n+3)) 1 [3] 4#0 1#(.cmp .Eq (.idx 4#0 (.ci 0)) 4#1) (.idx 4#0 (.ci 1)) [x0,x1,x2,1#(ag p.1),x4,x5,x6,x7,x8,x9,x10]) c1 (L.map ao) st= .ok [aw p.2] st:=λx0 x1 x2 x4 x5 x6 x7 x8 x9 x10=>by
  have:=bS (f:=Tn P (call P (n+3)) 1 [3] 4#0 1#(.cmp .Eq (.idx 4#0 (.ci 0)) 4#1) (.idx 4#0 (.ci 1)) [x0,x1,x2,1#(ag p.1),x4,x5,x6,x7,x8,x9,x10]) k1 ao (λq=>if decide (q.1=p.1)=true then 1#(aw q.2) else none) L λq _=>by
   simp[Tn,aI,av,ao,vA]
   by_cases e:q.1=p.1<;>simp[e]
  rw[this,ck,qL h.2.1 hp];rfl
 have g2:∀x0 x1 x2 x4 x5 x6 x7 x8 x9 x10,ay (Tn P (call P (n+3)) 1 [3] 4#0 1#8#19 4#0 [x0,x1,x2,1#(ag p.1),x4,x5,x6,x7,x8,x9,x10]) c2 (L.map ao) (st++[.lst [aw p.2]])= .ok 9#7 (st++[.lst [aw p.2]]):=λx0 x1 x2 x4 x5 x6 x7 x8 x9 x10=>by
  have:=bS (f:=Tn P (call P (n+3)) 1 [3] 4#0 1#8#19 4#0 [x0,x1,x2,1#(ag p.1),x4,x5,x6,x7,x8,x9,x10]) k2 ao (λq=>if cB p.1 q=true then 1#(ao q) else none) L λq _=>by
   have e:(q.1.b==p.1.b&&(q.1.k==p.1.k&&q.1.d==p.1.d)&&decide (q.1.t<=p.1.t))=cB p.1 q:=by
    rw[aaA];simp[cB]
   simp[Tn,aI,av,ao,ag,bu,cut];rw[e];cases cB p.1 q<;>rfl
  rw[this,ck]
 have lU:0#(L.filter (cB p.1))<=10000:=aaT (acA _ _) hl
 have kU:Kept [(0#st+1,Ob.lst 9#7)] (st++[.lst [aw p.2], 7#9#7]):=λa ha=>by simp at ha;subst ha;simp
 have g3:∀env,ay (Tn P (call P (n+3)) 2 [] (.tup [4#0, 4#1]) none (.idx 4#1 (.ci 1)) env) [(0#st+1, 7#9#7)] 9#7 (st++[.lst [aw p.2], 7#9#7])= .ok ((L.filter (cB p.1)).map λq=> 6#q.2.w) (st++[.lst [aw p.2], 7#9#7]):=λenv=>comp_map kU _ _ _ λq _=>by simp[Tn,aI,av,ao,aw]
 have g4:∀env,ay (Tn P (call P (n+3)) 2 [] (.tup [4#0, 4#1]) none (.idx 4#1 (.ci 2)) env) [(0#st+1, 7#9#7)] 9#7 (st++[.lst [aw p.2], 7#9#7])= .ok ((L.filter (cB p.1)).map λq=> 6#q.2.h) (st++[.lst [aw p.2], 7#9#7]):=λenv=>comp_map kU _ _ _ λq _=>by simp[Tn,aI,av,ao,aw]
 have g5:∀env,ay (Tn P (call P (n+3)) 2 [] (.tup [4#0, 4#1]) none (.bin .Mult (.idx 4#1 (.ci 1)) (.bin .Add (.idx 4#0 (.ci 3)) (.ci 1))) env) [(0#st+1, 7#9#7)] 9#7 (st++[.lst [aw p.2], 7#9#7])= .ok ((L.filter (cB p.1)).map λq=> 6#(q.2.w*(q.1.t+1))) (st++[.lst [aw p.2], 7#9#7]):=λenv=>comp_map kU _ _ _ λq hq=>by
  have hq:=(aaV.mp hq).1;let⟨yq,hyq⟩:=we hs h hq;have t0:=hyq.t0;have t1:=hyq.t1
  have hm:(q.1.t+1).natAbs<2^64:=by lia
  simp[Tn,aI,av,ao,aw,ag,hm]
 have sW:=rD h hp λ_ x=>x.w;have sH:=rD h hp λ_ x=>x.h;have sL:=rD h hp λt x=>x.w*(t+1);have e:ag p.1= .tup false [6#p.1.b, 6#p.1.k, 6#p.1.d, 6#p.1.t]:=rfl;have eb:aw p.2= .tup false [.str p.2.name, 6#p.2.w, 6#p.2.h, 6#p.2.cold, .str p.2.sort, 6#p.2.port]:=rfl;have f:=λb g=>cM P st g (.bl b) 8#5;have mc:=gj (kV:=Val.int) eq_int p.1.t (y.pt p.1.d).p
 have pre:∀ss,aE P (call P (n+3)) (lO.body.take 3++ss) [1#(aF s),1#v,1#(.str (bH r)),1#(ag p.1),none,none,none,none,none,none,none] st
   =aE P (call P (n+3)) ss [1#(aF s),1#v,1#(.str (bH r)),1#(ag p.1),1#(cb (y.pt p.1.d)),1#(aw p.2),1#3#(0#st+1),none,none,none,none] (st++[.lst [aw p.2], 7#9#7]):=λss=>by
  rw[e] at g1 g2⊢;unfold lO;simp[bu,cut,q0,w1,g1,hl,T.low,new,w2,g2]
 show (aE P (call P (n+3)) (lO.body.take 3++lO.body.drop 3) [1#(aF s),1#v,1#(.str (bH r)),1#(ag p.1),none,none,none,none,none,none,none] st).fin P st=_;rw[pre];clear pre g1 g2;unfold lO
 have:r=0∨r=1∨r=2∨r=3∨r=4:=by lia
 rcases this with rfl|rfl|rfl|rfl|rfl
 ·simp[bH,g3,lU,T.low,lows,eV,cb,f,new];rw[sW];simp only[brk,hpt,lq]
 ·simp[bH,g4,lU,T.low,lows,eV,cb,f,new];rw[sH];simp only[brk,hpt,lW]
 ·simp[bH,e,cb,f];simp[aw,mc];refine(f _ [_,_]).trans ?_;simp only[brk,hpt,hx];congr 2
 ·have ha:=Gr (s:=s) h.2.1 p.1 p.2.sort
  have hb:brk s L p.1 3=L.any λq=>bR p.1 q.1&&fW s p.2.sort q.2.sort:=by
   rw[←ha,←hx];rfl
  have hap:=uQ F.toFShip (call P (n+3)) s p.1 p.2 1#v 1#(.str "apart") 1#(cb (y.pt p.1.d)) 1#3#(0#st+1) none c3 (st++[.lst [aw p.2], 7#9#7]) k3 L none none none;unfold dR rW at hap;simp[bH,w3];rw[hb]
  cases hz:L.any (λq=>bR p.1 q.1&&fW s p.2.sort q.2.sort) with
  |true=>
   rw[hap.1 hz];simp[f]
  |false=>
   let⟨y7,y8,y10,e4⟩:=hap.2 hz;rw[e4];simp[f]
 ·simp[bH,g5,lU,T.low,lows,eV,cb,f,new,e];rw[sL];simp only[brk,hpt,lK];rw[aaA];simp
end PI
namespace PI
namespace RB
open PySem
structure FG (P:Pg):Prop extends FLoad P where
 f15:P.fn 15=1#F9
 f17:P.fn 17=1#Fx
 f40:P.fn 40=1#FP
 f41:P.fn 41=1#FH
 f42:P.fn 42=1#GW
 f43:P.fn 43=1#Fd
 f44:P.fn 44=1#Fp
noncomputable def GG (ns:2#Int) (z:Int):Int:=if ns=[] then 0 else ns.getD (z % 0#ns).toNat 0
def bJ (ns:2#Int) (z:Int):Int:=let m:=(GG ns z % 2147483647+z*z*7919+11)*48271 % 2147483647;m*m % 1999999973
theorem dH (ns:2#Int) (z:Int):0<=bJ ns z/\bJ ns z<1999999973:=by
 unfold bJ;simp only;lia
noncomputable abbrev fU (ns:2#Int):Val:= 7#(ns.map .int)
theorem cy {P:Pg} (F:FG P) (n:Nat) (ns:2#Int) (z:Int) (s:aa) (z0:0<=z) (z1:z<2^60):
  call P (n+1) 15 [fU ns, 3#0] (.lst [6#z]::s)= .ok 6#(bJ ns (z+1)) (.lst [6#(z+1)]::s):=by
 rw[ak F.f15 _ _ _ rfl];unfold F9
 have zz:(z+1).natAbs<2^64:=by lia
 have hm:∀x:Int,(x % 2147483647).natAbs<2^64:=λx=>by lia
 have f:∀v,fin P (.lst [6#z]::s) 6#v (.lst [6#(z+1)]::s)= .ok 6#v (.lst [6#(z+1)]::s):=λv=>vy P z (z+1) s _ 8#5
 by_cases hn:ns=[]
 ·subst hn;simp[zz,hm,bJ,GG,f]
 ·have l0:0<0#ns:=acO.mpr hn
  have l1:(0:Int)<0#ns:=by lia
  have h0:0<=(z+1) % (0#ns:Int):=abM _ 8#0;have h1:(z+1) % (0#ns:Int)<0#ns:=abt _ 8#0;simp[zz,hm,bJ,GG,l0,l1,h0,h1,hn,f]
theorem E5 (i j:Int) (st:aa) (h0:0<=j) (h1:j<=1000) (h2:i.natAbs<2^64):xh i j st= .ok 6#(i^j.toNat) st:=bq ⟨h0,h1,h2⟩
theorem AG {P:Pg} (F:FG P) (h16:P.fn 16=1#rh) (n:Nat) (ns:2#Int) (z:Int) (s:aa) (r:Int) (r0:0<r) (r1:r<10^40) (z0:0<=z) (z1:z<2^60):
  ∃v:Int,0<=v/\v<10^40/\call P (n+2) 16 [fU ns, 3#0, 6#r] (.lst [6#z]::s)= .ok 6#v (.lst [6#(z+1)]::s):=by
 rw[ak h16 _ _ _ rfl];unfold rh;have q1:=cy F n ns z s z0 z1;have hr:=dH ns (z+1)
 have hm:(bJ ns (z+1)).natAbs<2^64:=by lia
 have f:∀v,fin P (.lst [6#z]::s) 6#v (.lst [6#(z+1)]::s)= .ok 6#v (.lst [6#(z+1)]::s):=λv=>vy P z (z+1) s _ 8#5
 have key:∀x:Int,∃v:Int,0<=v/\v<10^40/\PI.F.fin P (.lst [6#z]::s) (aE P (call P (n+1)) [.ife (.cmp .Lt (.bin .Mod 4#3 (.ci 3)) (.ci 2)) [.ret (.bin .Mod (.bin .FloorDiv 4#3 (.ci 3)) 4#2)] [],
 .ret (.bin .Mod (.bin .Add (.bin .Mod 4#4 (.bin .Pow (.ci 10) (.ci 40))) (.bin .Mult 4#3 (.bin .Pow (.ci 10) (.ci 29)))) (.bin .Pow (.ci 10) (.ci 40)))] [1#(fU ns),1#3#0,1#6#r,1#6#(bJ ns (z+1)),1#6#x] (.lst [6#(z+1)]::s))= .ok 6#v (.lst [6#(z+1)]::s):=by
  intro x;simp
  cases hb:decide (bJ ns (z+1) % 3<2) with
  |true=>
   simp[r0,f];exact⟨abM _ 8#0,Int.lt_trans (abt _ r0) r1⟩
  |false=>
   simp[E5,hm,f];constructor<;>lia
 by_cases hn:ns=[]
 ·subst hn;let⟨v,h1,h2,h3⟩:=key 0;refine⟨v,h1,h2, ?_⟩;simp[q1] at h3⊢;exact h3
 ·have l0:0<0#ns:=acO.mpr hn
  have l1:(0:Int)<0#ns:=by lia
  have h0:0<=(z+1) % (0#ns:Int):=abM _ 8#0;have h1:(z+1) % (0#ns:Int)<0#ns:=abt _ 8#0;let⟨v,h2,h3,h4⟩:=key (ns.getD ((z+1) % (0#ns:Int)).toNat 0);refine⟨v,h2,h3, ?_⟩;simp[q1,l0,l1,h0,h1] at h4⊢;exact h4
theorem Dr (z z':Int) (s g:aa) (j:Nat) (xs:2#Val) (hj:g[j]?=1#7#xs) (hx:trees xs=true):(Val.ref (0#s+1+j)).aG (.lst [6#z']::(s++g)) (0#s+1) (0#s+1+0#g)=1#7#xs:=by
 have hlt:j<0#g:=(aae.mp hj).1
 have e:(Ob.lst [6#z']::(s++g))[0#s+1+j]?=1#7#xs:=by
  rw[show 0#s+1+j=(0#s+j)+1 by lia,abD,n9,hj]
 simp only[Val.aG,Val.sub,iT,e];rw[if_neg 8#0,if_neg 8#0,cD _ _ hx];rfl
noncomputable def au:Int->Nat->2#Int
 |_,0=>[]
 |lo,n+1=>lo::au (lo+1) n
theorem iQ:∀(n:Nat) (lo:Int),aW lo n=(au lo n).map .int
 |0,_=>rfl
 |n+1,lo=>by simp[aW,au,iQ n]
theorem yz {e:Int}:∀{l:2#Int} {a a':Int},a'<=a->jm e a l->jm e a' l
 |[],_,_,_,_=>trivial
 |x::l,a,a',h,q=>⟨by have:=q.1;lia,q.2.1,q.2.2⟩
theorem pH (f:Int->Bool):∀(n:Nat) (lo:Int),jm (lo+n) lo ((au lo n).filter f)
 |0,_=>trivial
 |n+1,lo=>by
  have h:=pH f n (lo+1);rw[show lo+1+(n:Int)=lo+((n+1:Nat):Int) by push_cast;lia] at h;unfold au;rw[abp];split
  ·exact⟨by lia,by push_cast;lia,h⟩
  ·exact yz 8#0 h
def i8 (p:Pt):Val:= .tup false [6#p.c, 6#p.s, 6#p.h, 7#(p.p.map .int), 6#p.l]
@[simp]theorem Kj (p:Pt):(i8 p).tree=true:=by simp[i8]
theorem cu:∀{n:Nat} {lo x:Int},x∈au lo n->lo<=x/\x<lo+n
 |0,_,_,h=>by simp[au] at h
 |n+1,lo,x,h=>by
  simp[au] at h
  rcases h with rfl|h
  ·lia
  ·have:=cu h;lia
theorem jx {α β:Type} (f:α->Bool) (g:α->β):∀l:2#α,(l.filterMap λa=>if f a=true then 1#(g a) else none)=(l.filter f).map g
 |[]=>rfl
 |a::l=>by
  rw[aa9,abp,jx f g l];cases f a<;>simp
noncomputable def _root_.PI.Pt.Sm (p:Pt) (c:Int):Prop:=p.c<=c/\p.s<100/\p.l<100
theorem uN {P:Pg} (F:FG P) (n:Nat) (ns:2#Int) (z:Int) (s:aa) (c:Nat) (hc:c<=9) (z0:0<=z) (z1:z<2^60):
  ∃p:Pt,p.Ok/\p.Sm c/\call P (n+2) 17 [fU ns, 3#0, 6#c] (.lst [6#z]::s)= .ok (i8 p) (.lst [6#(z+1)]::s):=by
 rw[ak F.f17 _ _ _ rfl];unfold Fx;have q1:=cy F n ns z s z0 z1;have hr:=dH ns (z+1);generalize bJ ns (z+1)=m at q1 hr
 have k0:(0:Int)<(c:Int)+1:=by lia
 have k1:0<=m % ((c:Int)+1):=abM _ 8#0;have k2:m % ((c:Int)+1)<(c:Int)+1:=abt _ 8#0
 have k3:m % ((c:Int)+1)<16777216:=by lia
 have k4:(m % ((c:Int)+1)).toNat<=10000:=by lia
 have hcomp:∀(a b:5#Val) (x y:5#Val),ay (Tn P (call P (n+1)) 1 [3] 4#0 1#(.cmp .Gt (.bin .Mod (.bin .FloorDiv (.bin .FloorDiv 4#1 (.ci 10)) (.bin .Add (.bin .Mult 4#0 4#0) (.ci 1))) (.ci 3)) (.ci 0)) 4#0 [a,b,x,1#6#m,y,none]) [] (aW 0 (m % ((c:Int)+1)).toNat) (.lst [6#(z+1)]::s)= .ok (((au 0 (m % ((c:Int)+1)).toNat).filter λk=>decide (0<m/10/(k*k+1) % 3)).map .int) (.lst [6#(z+1)]::s):=by
  intro a b x y;rw[iQ];rw[bS (bx _) Val.int (λk=>if decide (0<m/10/(k*k+1) % 3)=true then 1#6#k else none) _ ?_,jx];intro k hk;have hk:=cu hk
  have hk1:k.natAbs<2^64:=by lia
  have hk2:0<=k*k:=ab6 8#0 8#0;have hk3:k*k<=10*10:=Int.mul_le_mul 8#0 8#0 8#0 8#0
  have hk4:0<k*k+1:=by lia
  have hk5:k*k+1<2^64:=by lia
  have hk6:=λst=>BD (m/10) (k*k+1) st hk4 hk5;simp[Tn,aI,av,hk1,hk6]
  by_cases hb:0<m/10/(k*k+1) % 3<;>simp[hb]
 refine⟨⟨m % ((c:Int)+1),5+m/7 % 40,5+m/300 % 30,(au 0 (m % ((c:Int)+1)).toNat).filter λk=>decide (0<m/10/(k*k+1) % 3),m/9000 % 60⟩,⟨⟨k1,by simp only;lia⟩,⟨by simp only;lia,by simp only;lia,by simp only;lia⟩, ?_⟩,⟨by simp only;lia,by simp only;lia,by simp only;lia⟩, ?_⟩
 ·have:=pH (λk=>decide (0<m/10/(k*k+1) % 3)) (m % ((c:Int)+1)).toNat 0;rw[show (0:Int)+((m % ((c:Int)+1)).toNat:Int)=m % ((c:Int)+1) by lia] at this;exact this
 ·simp[q1,k0,k1,k3,k4,T.low,hcomp,new];refine(DT P z (z+1) s [7#_] _ (i8 _) rfl ?_);have hz:=Dr z (z+1) s [7#(((au 0 (m % ((c:Int)+1)).toNat).filter λk=>decide (0<m/10/(k*k+1) % 3)).map .int)] 0 _ rfl 8#5;simp at hz;simp[i8];rw[hz];simp
end RB
namespace RB
open PySem
def dP (y:Sk):Val:= .tup false [6#y.side,i8 y.hold,i8 y.deck]
noncomputable def ku:2#S:=[.set 4#9 (.bin .Sub (.bin .Mod 8#20 (.ci 9)) (.ci 4)), .set 4#10 (.call 17 [4#0, 4#1, 4#4]), .expr (.bm .append 4#7 [.tup [4#9, 4#10, .call 17 [4#0, 4#1, 4#4]]])]
theorem sN {P:Pg} (F:FG P) (n:Nat) (ns:2#Int) (T:aa) (c:Nat) (hc:c<=9) (x2 x3 x5 x6:5#Val):∀(m:Nat) (lo z:Int) (sks:2#Sk) (x8 x9 x10:5#Val),0#sks+m<=20->0<=z->z+3*m<2^59->
  ∃z' ys y8 y9 y10,forL 4#8 (cI P (call P (n+2)) ku) [] (aW lo m) [1#(fU ns),1#3#0,x2,x3,1#6#c,x5,x6,1#3#(0#T+1),x8,x9,x10,none,none,none] (.lst [6#z]::(T++[7#(sks.map dP)]))
   = .next [1#(fU ns),1#3#0,x2,x3,1#6#c,x5,x6,1#3#(0#T+1),y8,y9,y10,none,none,none] (.lst [6#z']::(T++[7#((sks++ys).map dP)]))/\0#ys=m/\(∀y∈ys,y.Ok/\y.hold.Sm c/\y.deck.Sm c)/\z<=z'/\z'<=z+3*m
 |0,lo,z,sks,x8,x9,x10,_,_,_=>⟨z,[],x8,x9,x10,by simp[aW],rfl,by simp,by lia,by lia⟩
 |m+1,lo,z,sks,x8,x9,x10,hl,z0,z1=>by
  have q1:=cy F (n+1) ns z (T++[7#(sks.map dP)]) z0 8#0;let⟨p1,a1,a2,q2⟩:=uN F n ns (z+1) (T++[7#(sks.map dP)]) c hc 8#0 8#0;let⟨p2,b1,b2,q3⟩:=uN F n ns (z+1+1) (T++[7#(sks.map dP)]) c hc 8#0 8#0;let⟨z',ys,y8,y9,y10,e,h1,h2,h3,h4⟩:=sN F n ns T c hc x2 x3 x5 x6 m (lo+1) (z+1+1+1) (sks++[⟨bJ ns (z+1) % 9-4,p1,p2⟩]) 1#6#lo 1#6#(bJ ns (z+1) % 9-4) 1#(i8 p1) (by simp;lia) 8#0 8#0;refine⟨z',⟨bJ ns (z+1) % 9-4,p1,p2⟩::ys,y8,y9,y10, ?_,by simp[h1], ?_,by lia,by lia⟩
  ·unfold ku at e⊢
   have l:0#sks<10000:=by lia
   simp[aW,q1,q2,q3,bT,l];simp[dP] at e;exact e
  ·intro y hy
   rcases aaq.mp hy with rfl|hy
   ·exact⟨⟨a1,b1⟩,a2,b2⟩
   ·exact h2 y hy
def cJ (k:Nat) (bs:2#By):2#Val:=(bs.zipIdx k).map λp=> .tup false [6#p.1.arm, 3#p.2]
def gH (f:Sk->Val) (b:By):Ob:= 7#(b.sks.map f)
theorem yi (k:Nat) (bs:2#By) (b:By):cJ k (bs++[b])=cJ k bs++[.tup false [6#b.arm, 3#(k+0#bs)]]:=by
 simp[cJ,List.zipIdx_append]
@[simp]theorem Kd (k:Nat) (bs:2#By):0#(cJ k bs)=0#bs:=by simp[cJ]
@[simp]theorem Kw (k:Nat):cJ k []=[]:=rfl
def oz:2#S:=[.set 4#7 (.lst []), .for 4#8 (.rng1 (.bin .Add (.ci 1) (.bin .Mod 8#20 4#3))) ku, .expr (.bm .append 4#5 [.tup [.bin .Sub (.bin .Mod 8#20 (.ci 21)) (.ci 10), 4#7]])]
theorem tP {P:Pg} (F:FG P) (n:Nat) (ns:2#Int) (s:aa) (c:Nat) (hc:c<=9) (k:Nat) (hk:0<k) (hk3:k<=3) (x2:5#Val):∀(m:Nat) (lo z:Int) (bs:2#By) (x6 x7 x8 x9 x10:5#Val),0#bs+m<=20->0<=z->z+11*m<2^59->
  ∃z' cs y6 y7 y8 y9 y10,forL 4#6 (cI P (call P (n+2)) oz) [] (aW lo m) [1#(fU ns),1#3#0,x2,1#6#k,1#6#c,1#3#(0#s+1),x6,x7,x8,x9,x10,none,none,none] (.lst [6#z]::(s++ 7#(cJ (0#s+2) bs)::bs.map (gH dP)))
   = .next [1#(fU ns),1#3#0,x2,1#6#k,1#6#c,1#3#(0#s+1),y6,y7,y8,y9,y10,none,none,none] (.lst [6#z']::(s++ 7#(cJ (0#s+2) (bs++cs))::(bs++cs).map (gH dP)))/\0#cs=m/\(∀b∈cs,b.Ok/\0#b.sks<=k/\∀y∈b.sks,y.hold.Sm c/\y.deck.Sm c)/\z<=z'/\z'<=z+11*m
 |0,lo,z,bs,x6,x7,x8,x9,x10,_,_,_=>⟨z,[],x6,x7,x8,x9,x10,by simp[aW],rfl,by simp,by lia,by lia⟩
 |m+1,lo,z,bs,x6,x7,x8,x9,x10,hl,z0,z1=>by
  have q1:=cy F (n+1) ns z (s++ 7#(cJ (0#s+2) bs)::bs.map (gH dP)++[.lst []]) z0 8#0;have r1:=dH ns (z+1)
  have k0:(0:Int)<k:=by lia
  have k1:0<=bJ ns (z+1) % (k:Int):=abM _ 8#0;have k2:bJ ns (z+1) % (k:Int)<k:=abt _ 8#0
  have k3:0<=1+bJ ns (z+1) % (k:Int):=by lia
  have k4:1+bJ ns (z+1) % (k:Int)<16777216:=by lia
  let⟨z2,ys,y8,y9,y10,e2,h1,h2,h3,h4⟩:=sN F n ns (s++ 7#(cJ (0#s+2) bs)::bs.map (gH dP)) c hc x2 1#6#k 1#3#(0#s+1) 1#6#lo (1+bJ ns (z+1) % (k:Int)).toNat 0 (z+1) [] x8 x9 x10 (by simp;lia) 8#0 8#0;have q2:=cy F (n+1) ns z2 (s++ 7#(cJ (0#s+2) bs)::bs.map (gH dP)++[7#(ys.map dP)]) 8#0 8#0;let⟨z',cs,w6,w7,w8,w9,w10,e,g1,g2,g3,g4⟩:=tP F n ns s c hc k hk hk3 x2 m (lo+1) (z2+1) (bs++[⟨bJ ns (z2+1) % 21-10,ys⟩]) 1#6#lo 1#3#(0#s+(0#bs+1)+1) y8 y9 y10 (by simp;lia) 8#0 8#0;refine⟨z',⟨bJ ns (z2+1) % 21-10,ys⟩::cs,w6,w7,w8,w9,w10, ?_,by simp[g1], ?_,by lia,by lia⟩
  ·unfold oz at e⊢
   have l:0#bs<10000:=by lia
   simp at q1 q2 e2;simp[aW,q1,k0,hk,k3,k4,new,e2,q2,bT,l];rw[yi,show 0#s+2+0#bs=0#s+(0#bs+1)+1 by lia] at e;simp[gH] at e;simp[gH];exact e
  ·intro y hy
   rcases aaq.mp hy with rfl|hy
   ·refine⟨⟨?_,by simp only[h1];lia,λy hy=>(h2 y hy).1⟩,by simp only[h1];lia,λy hy=>(h2 y hy).2⟩;intro e;simp only at e;rw[e] at h1;simp at h1;lia
   ·exact g2 y hy
theorem uP (st:aa) (p:Pt):iU st (i8 p) p:=⟨false,_,rfl, .inl rfl⟩
theorem Ee (st:aa) (y:Sk):fF st (dP y) y:=⟨false,_,_,rfl,uP st _,uP st _⟩
theorem qV (st:aa) (f:Sk->Val) (hf:∀y,fF st (f y) y):∀(bs:2#By) (k:Nat),(∀(j:Nat) (b:By),bs[j]?=1#b->st[k+j]?=1#(gH f b))->bg (gd st) (cJ k bs) bs
 |[],_,_=>trivial
 |b::bs,k,h=>by
  refine⟨⟨false, 3#k,b.sks.map f,rfl, .inl ?_, ?_⟩, ?_⟩
  ·have:=h 0 b rfl;simp at this⊢;rw[this];simp[gH]
  ·have:=bg.map (R:=fF st) f id hf b.sks;simpa using this
  ·have:=qV st f hf bs (k+1) λj c hc=>by
    have:=h (j+1) c hc;rwa[show k+(j+1)=k+1+j by lia] at this
   exact this
noncomputable def wY {α:Type} (a b c:α) (i:Int):α:=if i=0 then a else if i=1 then b else c
theorem Ao (a b c:Str) (i:Int) (st:aa) (h0:0<=i) (h1:i<3):dY (.lst [.str a, .str b, .str c]) 6#i st= .ok (.str (wY a b c i)) st:=by
 have:i=0∨i=1∨i=2:=by lia
 rcases this with rfl|rfl|rfl<;>simp[wY]
theorem Bd {α:Type} (xs:2#α) (v:Int) (h:0<=v):cut xs none 1#v=xs.take v.toNat:=by
 have:¬v<0:=by lia
 simp[cut,bu,this]
def dZ (i:Int):Str:=wY (α:=Str) "dry" "wet" "hot" i
theorem ub {P:Pg} (F:FG P) (n:Nat) (ns:2#Int) (s:aa) (z:Int) (a k c:Nat) (ha:0<a) (ha3:a<=3) (hk:0<k) (hk3:k<=3) (hc:c<=9) (z0:0<=z) (z1:z<2^58):
  ∃(sh:Sh) (z':Int),sh.Ok/\0#sh.bays<=a/\(∀b∈sh.bays,0#b.sks<=k/\∀y∈b.sks,y.hold.Sm c/\y.deck.Sm c)/\(0#sh.foes<=2/\sh.trim<200/\sh.heel<100)/\z<=z'/\z'<=z+40/\call P (n+7) 41 [fU ns, 3#0, 6#a, 6#k, 6#c] (.lst [6#z]::s)= .ok (aF sh) (.lst [6#z']::s):=by
 rw[ak F.f41 _ _ _ rfl];unfold FH;have q1:=cy F (n+5) ns z (s++[.lst []]) z0 8#0
 have k0:(0:Int)<a:=by lia
 have k1:0<=bJ ns (z+1) % (a:Int):=abM _ 8#0;have k2:bJ ns (z+1) % (a:Int)<a:=abt _ 8#0
 have k3:0<=1+bJ ns (z+1) % (a:Int):=by lia
 have k4:1+bJ ns (z+1) % (a:Int)<16777216:=by lia
 let⟨z2,cs,w6,w7,w8,w9,w10,e,g1,g2,g3,g4⟩:=tP F (n+4) ns s c hc k hk hk3 1#6#a (1+bJ ns (z+1) % (a:Int)).toNat 0 (z+1) [] none none none none none (by simp;lia) 8#0 8#0;have q2:=cy F (n+5) ns z2 (s++ 7#(cJ (0#s+2) cs)::cs.map (gH dP)) 8#0 8#0;have r2:=dH ns (z2+1);generalize bJ ns (z2+1)=m at q2 r2
 have i1:0<=m % 3:=by lia
 have i2:m % 3<3:=by lia
 have i3:0<=m/3 % 3:=by lia
 have i4:m/3 % 3<3:=by lia
 have i5:0<=m/9 % 3:=by lia
 have i6:m/9 % 3<3:=by lia
 have i7:0<=m/27 % 3:=by lia
 have t1:∀st,dY (.lst [.str "dry", .str "wet", .str "hot"]) 6#(m % 3) st= .ok (.str (dZ (m % 3))) st:=λst=>Ao _ _ _ (m % 3) st i1 i2;have t2:∀st,dY (.lst [.str "dry", .str "wet", .str "hot"]) 6#(m/3 % 3) st= .ok (.str (dZ (m/3 % 3))) st:=λst=>Ao _ _ _ _ st i3 i4;have t3:∀st,dY (.lst [.str "dry", .str "wet", .str "hot"]) 6#(m/9 % 3) st= .ok (.str (dZ (m/9 % 3))) st:=λst=>Ao _ _ _ _ st i5 i6;obtain⟨sh,hsh⟩:∃sh:Sh,sh=⟨cs,[(dZ (m % 3),dZ (m/3 % 3)),(dZ (m/9 % 3),"oil")].take (m/27 % 3).toNat,m/81 % 200,m/16200 % 100⟩:=⟨_,rfl⟩
 have e1:sh.trim=m/81 % 200:=by rw[hsh]
 have e2:sh.heel=m/16200 % 100:=by rw[hsh]
 have e3:sh.bays=cs:=by rw[hsh]
 have e4:sh.foes=[(dZ (m % 3),dZ (m/3 % 3)),(dZ (m/9 % 3),"oil")].take (m/27 % 3).toNat:=by rw[hsh]
 have hlen:0#cs<=a:=by lia
 have hfl:0#sh.foes<=2:=by rw[e4];simp;lia
 have ah:sh.Ok:=by
  refine⟨?_,by rw[e3];lia,by lia,λb hb=>(g2 b (by rwa[e3] at hb)).1,by rw[e1];lia,by rw[e2];lia⟩;rw[e3];intro e;rw[e] at g1;simp at g1;lia
 refine⟨sh,z2+1,ah,by rw[e3];exact hlen,λb hb=>(g2 b (by rwa[e3] at hb)).2,⟨hfl,by rw[e1];lia,by rw[e2];lia⟩,by lia,by lia, ?_⟩
 have hf:([Val.tup false [.str (dZ (m % 3)), .str (dZ (m/3 % 3))], .tup false [.str (dZ (m/9 % 3)), .str "oil"]].take (m/27 % 3).toNat)=sh.foes.map cv:=by
  rw[e4,List.map_take];rfl
 obtain⟨S,hS⟩:∃S:aa,S= .lst [6#(z2+1)]::(s++ 7#(cJ (0#s+2) cs)::(cs.map (gH dP)++[.lst [.str "dry", .str "wet", .str "hot"], .lst [Val.tup false [.str (dZ (m % 3)), .str (dZ (m/3 % 3))], .tup false [.str (dZ (m/9 % 3)), .str "oil"]], 7#(sh.foes.map cv)])):=⟨_,rfl⟩
 have hraw:bg (gd S) (cJ (0#s+2) cs) sh.bays:=by
  rw[e3];refine qV _ dP (Ee _) cs _ λj b hj=> ?_;rw[hS,show 0#s+2+j=0#s+(j+1)+1 by lia];simp;rw[aao (by simpa using (aae.mp hj).1)];simp[hj]
 have hship:=vZ F.toFShip n sh S 3#(0#s+1) 3#(0#s+(0#cs+2+1)+1) (cJ (0#s+2) cs) (.inl (by simp[hS])) hraw (by simp[hS]) ah;rw[hS] at hship;simp at e;simp[q1,k0,ha,k3,k4,new];unfold oz ku at e;rw[e];simp[q2,new,-nU,t1,t2,t3,Bd,i7,hf];rw[e1,e2] at hship;rw[hship];simp;exact rQ P z (z2+1) s _ _ 8#5
end RB
namespace RB
open PySem
noncomputable abbrev yk:Str:=Str.ofString "abcdefghijklmnopqrstuvwxyz"
theorem DR:yk.cps.toList=(List.range 26).map (97+ ·):=by decide+kernel
theorem vj:0#yk=26:=by decide+kernel
noncomputable def gY (i:Int):Str:=⟨#[97+i.toNat]⟩
@[simp]theorem DA (i:Int):0#(gY i)=1:=rfl
theorem kK (i:Int) (st:aa) (h0:0<=i) (h1:i<26):dY (.str yk) 6#i st= .ok (.str (gY i)) st:=by
 rw[kh,bq (by rw[vj];lia),vj,DR]
 have l:i.toNat<26:=by lia
 have h1':i<((26:Nat):Int):=by lia
 simp[h0,h1,l,gY]
noncomputable def gu (i:Int):Int:=2*i+1
theorem AM (i:Int) (st:aa) (h0:0<=i) (h1:i<6):dY (.lst [6#1, 6#3, 6#5, 6#7, 6#9, 6#11]) 6#i st= .ok 6#(gu i) st:=by
 have:i=0∨i=1∨i=2∨i=3∨i=4∨i=5:=by lia
 rcases this with rfl|rfl|rfl|rfl|rfl|rfl<;>simp[gu]
def cW (m:Int):Str:=gY (m/6 % 26)++gY (m/156 % 26)
@[simp]theorem MN (m:Int):0#(cW m)=2:=rfl
def CI (m k:Int):Str:=(⟨(cut (cW m).cps.toList none 1#(m/4056 % 3)).toArray⟩++gY ((m/156+k*gu (m % 6)) % 26))++⟨(cut (cW m).cps.toList 1#(m/4056 % 3) none).toArray⟩
def nm (m many k:Int):Str:=if (m/12168 % 4==0&&decide (many<13))=true then iy (gY (m/6 % 26)) (k+1).toNat else CI m k
theorem kE {α:Type} (xs:2#α) (lo hi:5#Int):0#(cut xs lo hi)<=0#xs:=by
 unfold cut;rw[abc,acw];lia
theorem str_len (l:2#Nat):0#(⟨l.toArray⟩:Str)=0#l:=by simp[Str.length]
theorem ot (a b:Str):0#(a++b)=0#a+0#b:=by
 show (a.cps++b.cps).size=_;simp[Str.length]
noncomputable def mj:2#S:=[.set 4#10 (.idx 4#3 (.bin .Mod (.bin .Add (.bin .FloorDiv 4#4 (.ci 156)) (.bin .Mult 4#9 4#6)) (.ci 26))), .ife (.and (.cmp .Eq (.bin .Mod (.bin .FloorDiv 4#4 (.ci 12168)) (.ci 4)) (.ci 0)) (.cmp .Lt 4#2 (.ci 13))) [.expr (.bm .append 4#8 [.bin .Mult (.idx 4#3 (.bin .Mod (.bin .FloorDiv 4#4 (.ci 6)) (.ci 26))) (.bin .Add 4#9 (.ci 1))])] [.expr (.bm .append 4#8 [.bin .Add (.bin .Add (.slc 4#5 none 1#4#7) 4#10) (.slc 4#5 1#4#7 none)])]]
theorem oP {P:Pg} (cl:ax) (m many:Int) (T:aa) (o:Ob) (x0 x1:5#Val):∀(c:Nat) (lo:Nat) (acc:2#Val) (x9 x10:5#Val),0#acc+c<=100->lo+c<=100->
  ∃y9 y10,forL 4#9 (cI P cl mj) [] (aW lo c) [x0,x1,1#6#many,1#(.str yk),1#6#m,1#(.str (cW m)),1#6#(gu (m % 6)),1#6#(m/4056 % 3),1#3#(0#T+1),x9,x10] (o::(T++[7#acc]))
   = .next [x0,x1,1#6#many,1#(.str yk),1#6#m,1#(.str (cW m)),1#6#(gu (m % 6)),1#6#(m/4056 % 3),1#3#(0#T+1),y9,y10] (o::(T++[7#(acc++(au lo c).map λk=> .str (nm m many k))]))
 |0,lo,acc,x9,x10,_,_=>⟨x9,x10,by simp[aW,au]⟩
 |c+1,lo,acc,x9,x10,hl,hc=>by
  let⟨y9,y10,e⟩:=oP cl m many T o x0 x1 c (lo+1) (acc++[.str (nm m many lo)]) 1#6#lo 1#(.str (gY ((m/156+lo*gu (m % 6)) % 26))) (by simp;lia) 8#0;refine⟨y9,y10, ?_⟩;have t1:=λst=>kK ((m/156+lo*gu (m % 6)) % 26) st 8#0 8#0;have t2:=λst=>kK (m/6 % 26) st 8#0 8#0
  have l:0#acc<10000:=by lia
  have hi:(gu (m % 6)).natAbs<2^64:=by unfold gu;lia
  have h3:(0:Int)<=(lo:Int)+1:=by lia
  have h4:(lo:Int)+1<=1000:=by lia
  have c1:=kE (cW m).cps.toList none 1#(m/4056 % 3);have c2:=kE (cW m).cps.toList 1#(m/4056 % 3) none;have sl:0#(cW m).cps.toList=2:=rfl;rw[sl] at c1 c2
  have d1:0#(cut (cW m).cps.toList none 1#(m/4056 % 3))+1<=100000:=by lia
  have d2:0#(cut (cW m).cps.toList none 1#(m/4056 % 3))+1+0#(cut (cW m).cps.toList 1#(m/4056 % 3) none)<=100000:=by lia
  unfold mj at e⊢;simp[aW,au] at e⊢;simp[-kh,t1,hi]
  cases hb:(m/12168 % 4==0&&decide (many<13)) with
  |true=>
   simp[-kh,t2,h3,h4,bT,l];simp[nm,hb] at e⊢;exact e
  |false=>
   simp[bT,l,str_len,ot,d1,d2];simp[nm,hb,CI] at e⊢;exact e
theorem Az {b t k j:Int} (i:Int) (ht:t=gu i) (hi:0<=i/\i<6) (hk:0<=k/\k<26) (hj:0<=j/\j<26) (e:(b+k*t) % 26=(b+j*t) % 26):k=j:=by
 have:i=0∨i=1∨i=2∨i=3∨i=4∨i=5:=by lia
 rcases this with rfl|rfl|rfl|rfl|rfl|rfl<;>simp[gu] at ht<;>subst ht<;>lia
theorem uH (z:Str) (h:0#z=1) (n:Nat):0#(iy z n)=n:=by
 unfold iy;rw[str_len];simp;have:z.cps.size=1:=h;simp[this]
theorem Dx {i j:Int} (hi:0<=i) (hj:0<=j) (h:gY i=gY j):i=j:=by
 have:=congrArg (λx:Str=>x.cps.toList) h;simp[gY] at this;lia
theorem CV {a b x y:Str} (h:(a++x)++b=(a++y)++b):x=y:=by
 have:=congrArg (λx:Str=>x.cps.toList) h
 have h1:(a.cps.toList++x.cps.toList)++b.cps.toList=(a.cps.toList++y.cps.toList)++b.cps.toList:=by
  have e:∀u v:Str,(u++v).cps.toList=u.cps.toList++v.cps.toList:=λu v=>by
   show (u.cps++v.cps).toList=_;simp
  simp only[e] at this;exact this
 have h2:=List.append_cancel_left (List.append_cancel_right h1);cases x;cases y;simp at h2;rw[h2]
theorem HA {m many k j:Int} (hk:0<=k/\k<26) (hj:0<=j/\j<26) (h:nm m many k=nm m many j):k=j:=by
 unfold nm at h;split at h
 ·have:=congrArg Str.length h;rw[uH _ rfl,uH _ rfl] at this;lia
 ·unfold CI at h;have:=Dx 8#0 8#0 (CV h);exact Az (m % 6) rfl 8#0 hk hj this
theorem mY {α:Type} (f:Int->α):∀(n:Nat) (lo:Int),(∀i j,lo<=i->i<lo+n->lo<=j->j<lo+n->f i=f j->i=j)->((au lo n).map f).Nodup
 |0,_,_=>by simp[au]
 |n+1,lo,h=>by
  simp only[au,aas,aa7];refine⟨λhm=> ?_,mY f n (lo+1) λi j a b c d=>h i j 8#0 8#0 8#0 8#0⟩;let⟨x,hx,e⟩:=aaC.mp hm;have:=cu hx;have:=h x lo 8#0 8#0 8#0 8#0 e;lia
@[simp]theorem lE:∀(n:Nat) (lo:Int),0#(au lo n)=n
 |0,_=>rfl
 |n+1,lo=>by simp[au,lE n]
theorem vT (z:Nat):∀n:Nat,(iy ⟨#[z]⟩ n).cps.toList=List.replicate n z
 |0=>rfl
 |n+1=>by
  have:=vT z n;simp[iy] at this⊢
theorem wF {m c k:Int} (h:nm m c k=("strange":Str)):False:=by
 unfold nm at h;split at h
 ·have e:=congrArg (λx:Str=>x.cps.toList) h;simp only[gY,vT] at e;rw[show (("strange":Str).cps.toList)=[115,116,114,97,110,103,101] by decide+kernel] at e
  have e1:(115:Nat)∈List.replicate (k+1).toNat (97+(m/6 % 26).toNat):=by rw[e];simp
  have e2:(116:Nat)∈List.replicate (k+1).toNat (97+(m/6 % 26).toNat):=by rw[e];simp
  have:=(List.mem_replicate.mp e1).2;have:=(List.mem_replicate.mp e2).2;lia
 ·have e:=congrArg Str.length h;unfold CI at e;rw[ot,ot,DA,str_len,str_len,show (0#("strange":Str))=7 by decide+kernel] at e;have h1:=kE (cW m).cps.toList none 1#(m/4056 % 3);have h2:=kE (cW m).cps.toList 1#(m/4056 % 3) none;have h3:0#(cW m).cps.toList=2:=rfl;lia
theorem Bp {P:Pg} (F:FG P) (n:Nat) (ns:2#Int) (z:Int) (s:aa) (c:Nat) (hc:c<=26) (z0:0<=z) (z1:z<2^60):
  ∃N:2#Str,0#N=c/\(N.Nodup/\("strange":Str)∉N)/\call P (n+2) 40 [fU ns, 3#0, 6#c] (.lst [6#z]::s)= .ok 3#(0#s+1) (.lst [6#(z+1)]::(s++[7#(N.map .str)])):=by
 rw[ak F.f40 _ _ _ rfl];unfold FP;have q1:=cy F n ns z s z0 z1;have hr:=dH ns (z+1);generalize bJ ns (z+1)=m at q1 hr;refine⟨(au 0 c).map λk=>nm m c k,by simp,⟨mY _ _ _ λi j a b c d e=>HA 8#0 8#0 e,λh=>by let⟨k,_,e⟩:=aaC.mp h;exact wF e⟩, ?_⟩;let⟨y9,y10,e⟩:=oP (P:=P) (call P (n+1)) m c (s++[.lst [6#1, 6#3, 6#5, 6#7, 6#9, 6#11]]) (.lst [6#(z+1)]) 1#(fU ns) 1#3#0 c 0 [] none none (by simp;lia) 8#0;have t1:=λst=>kK (m/6 % 26) st 8#0 8#0;have t2:=λst=>kK (m/156 % 26) st 8#0 8#0;have t3:=λst=>AM (m % 6) st 8#0 8#0
 have h1:(c:Int)<16777216:=by lia
 unfold mj at e;simp at e;simp[-kh,-nU,q1,t1,t2,new,t3,h1];rw[show gY (m/6 % 26)++gY (m/156 % 26)=cW m from rfl,e];simp;refine(n8 P z (z+1) s _ 1 _ _ rfl 8#28).trans ?_;rfl
end RB
namespace RB
open PySem
open Classical in
theorem o8 {α β:Type} {f:Val->aa->R 5#Val} {chk:2#(Nat×Ob)} {T:aa} {gV:α->Val} {hV:β->Val} {R:α->β->Prop} {d B:Int} (hd:0<=d) (hk:∀z,Kept chk (.lst [6#z]::T)) (hf:∀a z,0<=z->z<B->∃b,R a b/\f (gV a) (.lst [6#z]::T)= .ok 1#(hV b) (.lst [6#(z+d)]::T)):
  ∀(as:2#α) (z:Int),0<=z->z+d*0#as<B->∃bs,bg R as bs/\ay f chk (as.map gV) (.lst [6#z]::T)= .ok (bs.map hV) (.lst [6#(z+d*0#as)]::T)
 |[],z,_,_=>⟨[],trivial,by simp;exact bq (hk z)⟩
 |a::as,z,z0,hz=>by
  have hn:0<=d*(0#as:Int):=ab6 hd 8#0
  have e:d*(0#(a::as):Int)=d+d*0#as:=by
   simp[Int.mul_add];lia
  rw[e] at hz⊢;let⟨b,r,q⟩:=hf a z z0 8#0;let⟨bs,r2,q2⟩:=o8 hd hk hf as (z+d) 8#0 8#0;refine⟨b::bs,⟨r,r2⟩, ?_⟩;show iff (Kept chk _) ((f (gV a) _).bind λo st=>(ay f chk (as.map gV) st).bind λr st=> .ok (fA o r) st)=_;rw[bq (hk z),q];show (ay f chk (as.map gV) (.lst [6#(z+d)]::T)).bind _=_;rw[q2];simp[Int.add_assoc]
noncomputable def _root_.PI.Bx.Ok (b:Bx):Prop:=(0<=b.w/\big b.w)/\0<=b.h/\(b.cold=0∨b.cold=1)/\0<=b.port
theorem zS {i:Int} (h:i.natAbs<10^60):big i:=by
 unfold big;exact aan (show i.natAbs<2^200 by lia) (Nat.pow_le_pow_right 8#0 8#0)
noncomputable def wX (i:Int):Str:=if i=0 then "dry" else if i=1 then "wet" else if i=2 then "hot" else "oil"
theorem Ma (i:Int) (st:aa) (h0:0<=i) (h1:i<4):dY (.lst [.str "dry", .str "wet", .str "hot", .str "oil"]) 6#i st= .ok (.str (wX i)) st:=by
 have:i=0∨i=1∨i=2∨i=3:=by lia
 rcases this with rfl|rfl|rfl|rfl<;>simp[wX]
theorem Ii {P:Pg} (F:FG P) (n:Nat) (ns:2#Int) (z:Int) (s:aa) (x:Str) (z0:0<=z) (z1:z<2^60):
  ∃b:Bx,(b.name=x/\b.Ok)/\call P (n+2) 42 [fU ns, 3#0, .str x] (.lst [6#z]::s)= .ok (aw b) (.lst [6#(z+1)]::s):=by
 rw[ak F.f42 _ _ _ rfl];unfold GW;have q1:=cy F n ns z s z0 z1;have hr:=dH ns (z+1);generalize bJ ns (z+1)=m at q1 hr;have t:=λst=>Ma (m % 4) st 8#0 8#0;refine⟨⟨x,m/4 % 12,m/48 % 9,if (m/432 % 4==0)=true then 1 else 0,wX (m % 4),m/1728 % 5⟩,⟨rfl,⟨by show 0<=m/4 % 12;lia,zS (by show (m/4 % 12).natAbs<_;lia)⟩,by show 0<=m/48 % 9;lia, ?_,by show 0<=m/1728 % 5;lia⟩, ?_⟩
 ·simp only;split<;>simp
 ·simp[-nU,q1,t,new];exact rQ P z (z+1) s [7#_] (aw ⟨x,m/4 % 12,m/48 % 9,_,wX (m % 4),m/1728 % 5⟩) 8#5
theorem wo {N:2#Str} {Bs:2#Bx} {f:Bx->Prop} (h:bg (λx b=>b.name=x/\f b) N Bs):Bs.map (·.name)=N/\∀b∈Bs,f b:=by
 induction Bs generalizing N with
 |nil=>cases N with
  |nil=>simp
  |cons _ _=>exact h.elim
 |cons b Bs ih=>cases N with
  |nil=>exact h.elim
  |cons x N=>
   let⟨h1,h2⟩:=ih h.2;refine⟨by simp[h.1.1];simpa using h1,λc hc=> ?_⟩
   rcases aaq.mp hc with rfl|hc
   ·exact h.1.2
   ·exact h2 c hc
theorem Bh {P:Pg} (F:FG P) (n:Nat) (ns:2#Int) (z:Int) (s:aa) (c:Nat) (hc:c<=26) (z0:0<=z) (z1:z<2^59):
  ∃(Bs:2#Bx) (z':Int),Bs.length=c/\((Bs.map (·.name)).Nodup/\("strange":Str)∉Bs.map (·.name))/\(∀b∈Bs,b.Ok)/\z<=z'/\z'<=z+40/\call P (n+3) 43 [fU ns, 3#0, 6#c] (.lst [6#z]::s)= .ok 3#(0#s+1) (.lst [6#z']::(s++[7#(Bs.map aw)])):=by
 rw[ak F.f43 _ _ _ rfl];unfold Fd;let⟨N,h1,h2,q1⟩:=Bp F n ns z s c hc z0 8#0
 let⟨Bs,r,q2⟩:=o8 (f:=Tn P (call P (n+2)) 1 [1,0] 4#0 none (.call 42 [4#2, 4#1, 4#0]) [1#(fU ns),1#3#0,1#6#c]) (chk:=[(0#s+1, 7#(N.map .str))]) (T:=s++[7#(N.map .str)]) (gV:=Val.str) (hV:=aw) (R:=λx b=>b.name=x/\b.Ok) (d:=1) (B:=2^60) 8#0 (λz p hp=>by
   simp at hp;subst hp
   simp) (λx z z0 z1=>by
   let⟨b,hb,q⟩:=Ii F n ns z (s++[7#(N.map .str)]) x z0 z1
   exact⟨b,hb,by simp[Tn,aI,av,q]⟩) N (z+1) 8#0 8#0
 let⟨a1,a2⟩:=wo r
 have hl:Bs.length=c:=by rw[←h1,←a1];simp
 have hN:0#N<=10000:=by lia
 refine⟨Bs,z+1+1*0#N,hl,by rw[a1];exact h2,a2,by lia,by lia, ?_⟩;simp[q1,q2,hN,T.low,new];refine(n8 P z _ s [7#(N.map .str), 7#(Bs.map aw)] 1 _ _ rfl 8#28).trans ?_;rfl
end RB
namespace RB
open PySem
abbrev Pn:=Int×Int×Int
theorem mN:KOk aD where
 key a:=by simp[aD,bX,xl]
 eq a b:=by
  let⟨a1,a2,a3⟩:=a;let⟨b1,b2,b3⟩:=b;simp[aD];rw[aaA];simp
 kt a b:=by simp[aD,kT]
noncomputable def bZ (D:2#(Pn×Int)) (a:Pn):Int:=((D.find? λp=>p.1=a).map (·.2)).getD 0
noncomputable def dput (D:2#(Pn×Int)) (a:Pn) (x:Int):2#(Pn×Int):=if a∈D.map (λp=>p.1) then D.map (λp=>if p.1=a then (p.1,x) else p) else D++[(a,x)]
theorem vQ (a:Pn) (x:Int):∀D:2#(Pn×Int),lD (aD a) 6#x (D.map λp=>aD p.1) (D.map λp=> 6#p.2)=(D.map (λp=>if p.1=a then (p.1,x) else p)).map λp=> 6#p.2
 |[]=>by simp[lD]
 |p::D=>by
  simp only[aas,lD];rw[vQ a x D,mN.eq]
  by_cases h:p.1=a<;>simp[h]
theorem C7 (a:Pn) (x:Int) (D:2#(Pn×Int)):putD (aD a) 6#x (D.map λp=>aD p.1) (D.map λp=> 6#p.2)=1#((dput D a x).map (λp=>aD p.1),(dput D a x).map λp=> 6#p.2):=by
 have e:(D.map λp=>aD p.1)=(D.map λp=>p.1).map aD:=by simp
 unfold putD;rw[vQ,e,nX mN,←e];unfold dput
 by_cases h:a∈D.map (λp=>p.1)
 ·simp only[h,decide_true,abX,acG];congr 2;simp;intro a1 a2 a3 v _;split<;>simp[*]
 ·simp only[h,decide_false,abR,acG];simp
set_option tactic.hygienic true in
theorem jr (D:2#(Pn×Int)) (a b:Pn) (x:Int):bZ (dput D a x) b=if b=a then x else bZ D b:=by
 unfold dput;split
 ·rename_i h
  induction D with
  |nil=>simp at h
  |cons p D ih=>
   unfold bZ at ih⊢
   by_cases hp:p.1=a
   ·by_cases hb:b=a
    ·simp[hp,hb]
    ·have hb':¬p.1=b:=λe=>hb (by rw[←e,hp]);have hb'':¬a=b:=λe=>hb e.symm;simp only[aas,hp,abX];rw[abG (by simp[hb'']),abG (by simp[hp,hb''])]
     by_cases hm:a∈D.map (λp=>p.1)
     ·exact ih hm
     ·have e:D.map (λp=>if p.1=a then (p.1,x) else p)=D:=by
       conv=>rhs;rw[←List.map_id D]
       refine List.map_congr_left λq hq=> ?_;rw[if_neg (λ(e:q.1=a)=>hm (aaC.mpr ⟨q,hq,e⟩))];rfl
      rw[e,if_neg hb]
   ·have hm:a∈D.map (λp=>p.1):=by
     rcases aaq.mp h with e|e
     ·exact absurd e.symm hp
     ·exact e
    simp only[aas,hp,abR]
    by_cases hb:p.1=b
    ·have:¬b=a:=λe=>hp (hb.trans e);rw[List.find?_cons_of_pos (by simp[hb]),List.find?_cons_of_pos (by simp[hb]),if_neg this]
    ·rw[abG (by simp[hb]),abG (by simp[hb])];exact ih hm
 ·rename_i h;unfold bZ;rw[List.find?_append]
  by_cases hb:b=a
  ·subst hb
   have:D.find? (λp=>p.1=b)=none:=by
    rw[List.find?_eq_none];intro p hp e;exact h (aaC.mpr ⟨p,hp,by simpa using e⟩)
   rw[this];simp
  ·have:¬a=b:=λe=>hb e.symm;simp[this,hb]
theorem A6 (D:2#(Pn×Int)) (a:Pn) (x:Int):0#(dput D a x)<=0#D+1:=by
 unfold dput;split<;>simp
structure Pl (sh:Sh) (done:2#Bx) (D:2#(Pn×Int)) (L:8#8):Prop where
 len:0#D<=0#done
 top:∀p,0<=bZ D p
 inn:∀q∈L,(∃y,sh.sk? q.1.b q.1.k=1#y/\(q.1.d=0∨q.1.d=1)/\0<=q.1.t/\q.1.t<(y.pt q.1.d).c)/\q.1.t<bZ D (q.1.b,q.1.k,q.1.d)
 all:∀p:Pn,∀t:Int,0<=t->t<bZ D p->∃q∈L,q.1=⟨p.1,p.2.1,p.2.2,t⟩
 nod:(L.map λq=>q.1).Nodup
 sub:(L.map λq=>q.2).Sublist done
theorem Pl.nil (sh:Sh):Pl sh [] [] []:=⟨by simp,by simp[bZ],by simp,λp t h0 h1=>by simp[bZ] at h1;lia,by simp,by simp⟩
theorem Pl.skip {sh:Sh} {done:2#Bx} {D:2#(Pn×Int)} {L:8#8} (h:Pl sh done D L) (b:Bx):Pl sh (done++[b]) D L:=⟨by have:=h.len;simp;lia,h.top,h.inn,h.all,h.nod,h.sub.trans (List.sublist_append_left _ _)⟩
set_option tactic.hygienic true in
theorem Pl.put {sh:Sh} {done:2#Bx} {D:2#(Pn×Int)} {L:8#8} (h:Pl sh done D L) (b:Bx) (p:Pn) (y:Sk) (hy:sh.sk? p.1 p.2.1=1#y) (hd:p.2.2=0∨p.2.2=1) (ht:bZ D p<(y.pt p.2.2).c):
  Pl sh (done++[b]) (dput D p (bZ D p+1)) (L++[(⟨p.1,p.2.1,p.2.2,bZ D p⟩,b)]):=by
 have h0:=h.top p;refine⟨?_,λq=> ?_,λq hq=> ?_,λq t t0 t1=> ?_, ?_, ?_⟩
 ·have:=h.len;have:=A6 D p (bZ D p+1);simp;lia
 ·rw[jr];split
  ·lia
  ·exact h.top q
 ·rcases aaM.mp hq with hq|hq
  ·let⟨h1,h2⟩:=h.inn q hq;refine⟨h1, ?_⟩;rw[jr];split
   ·rename_i e;rw[e] at h2;lia
   ·exact h2
  ·simp at hq;subst hq;refine⟨⟨y,hy,hd,h0,ht⟩, ?_⟩;rw[jr];simp;lia
 ·rw[jr] at t1;split at t1
  ·rename_i e;subst e
   by_cases e:t=bZ D q
   ·subst e;exact⟨_,aaM.mpr (.inr (by simp;rfl)),rfl⟩
   ·let⟨r,hr,e2⟩:=h.all q t t0 8#0;exact⟨r,aaM.mpr (.inl hr),e2⟩
  ·let⟨r,hr,e2⟩:=h.all q t t0 t1;exact⟨r,aaM.mpr (.inl hr),e2⟩
 ·rw[acd,acm];refine⟨h.nod,by simp,λc hc e he=> ?_⟩;simp at he;subst he;let⟨q,hq,e⟩:=aaC.mp hc;intro e2;rw[e2] at e;have:=(h.inn q hq).2;rw[e] at this;simp at this
 ·rw[acd];exact List.Sublist.append h.sub 8#5
theorem Pl.ld {sh:Sh} {done:2#Bx} {D:2#(Pn×Int)} {L:8#8} (h:Pl sh done D L) (hl:0#done<64) (hn:(done.map (·.name)).Nodup):bp sh L:=by
 refine⟨?_,h.nod, ?_,λq hq=>(h.inn q hq).1,λq hq=> ?_⟩
 ·have:=h.sub.length_le;simp at this;lia
 ·have:=(h.sub.map (·.name)).nodup hn;rw[abQ] at this;exact this
 ·let⟨⟨y,h1,h2,h3,h4⟩,h5⟩:=h.inn q hq
  by_cases e:q.1.t=0
  ·exact .inl e
  ·exact .inr (h.all (q.1.b,q.1.k,q.1.d) (q.1.t-1) 8#0 8#0)
noncomputable def Nk (t:T) (body:Env->aa->F) (chk:2#(Nat×Ob)) (vs:2#Val) (env:Env) (st:aa):F:=forL t body chk vs env st
open Classical in
theorem j0 {t:T} {body:Env->aa->F} {chk:2#(Nat×Ob)} {v:Val} {env:Env} {st:aa} (hk:Kept chk st):forL t body chk (v::vs) env st=(F.aj st (t.put v env)).bind λenv st=>(body env st).turn (Nk t body chk vs):=dU hk
open Classical in
theorem md {t:T} {body:Env->aa->F} {chk:2#(Nat×Ob)} {env:Env} {st:aa} (hk:Kept chk st):forL t body chk [] env st= .next env st:=dU hk
noncomputable def mH:2#S:=[.set 4#8 (.idx 4#6 (.bin .Mod 8#20 (.bi .len [4#6]))), .set 4#9 (.bm .get 4#4 [4#8, .ci 0]), .ife (.cmp .Lt 4#9 (.idx (.call 12 [4#2, 4#8]) (.ci 0))) [.fQ 4#4 4#8 (.bin .Add 4#9 (.ci 1)), .expr (.bm .append 4#5 [.tup [.bin .Add 4#8 (.tup [4#9]), 4#7]])] []]
abbrev oR (s:aa) (sh:Sh) (z:Int) (D:2#(Pn×Int)) (L:8#8):aa:= .lst [6#z]::(s++[.dct (D.map λp=>aD p.1) (D.map λp=> 6#p.2), 7#(L.map ao), 7#(sh.parts.map aD)])
abbrev zL (ns:2#Int) (s:aa) (sh:Sh) (k:Nat) (x7 x8 x9:5#Val):Env:=[1#(fU ns),1#3#0,1#(aF sh),1#3#(k+1),1#3#(0#s+1),1#3#(0#s+1+1),1#3#(0#s+2+1),x7,x8,x9]
theorem oj {P:Pg} (F:FG P) (n:Nat) (ns:2#Int) (s:aa) (sh:Sh) (hs:sh.Ok) (k:Nat) (Bs:2#Bx) (hk:s[k]?=1#7#(Bs.map aw)):
  ∀(rest done:2#Bx) (D:2#(Pn×Int)) (L:8#8) (z:Int) (x7 x8 x9:5#Val),Pl sh done D L->0#done+0#rest<=60->0<=z->z+0#rest<2^59->
  ∃D' L' z' y7 y8 y9,forL 4#7 (cI P (call P (n+4)) mH) [(k+1, 7#(Bs.map aw))] (rest.map aw) (zL ns s sh k x7 x8 x9) (oR s sh z D L)= .next (zL ns s sh k y7 y8 y9) (oR s sh z' D' L')/\Pl sh (done++rest) D' L'/\z<=z'/\z'<=z+0#rest
 |[],done,D,L,z,x7,x8,x9,h,_,_,_=>⟨D,L,z,x7,x8,x9,md (λp hp=>by
  have hk1:k<0#s:=(aae.mp hk).1;simp at hp;subst hp
  simp[aao hk1,hk]),by simpa using h,by lia,by simp⟩
 |b::rest,done,D,L,z,x7,x8,x9,h,hl,z0,z1=>by
  have hk1:k<0#s:=(aae.mp hk).1
  have hkept:Kept [(k+1, 7#(Bs.map aw))] (oR s sh z D L):=λp hp=>by
   simp at hp;subst hp;simp[aao hk1,hk]
  rw[aas,j0 hkept];have q1:=cy F (n+3) ns z (s++[.dct (D.map λp=>aD p.1) (D.map λp=> 6#p.2), 7#(L.map ao), 7#(sh.parts.map aD)]) z0 (by simp at z1;lia);have np:0<0#sh.parts:=acO.mpr (Aq hs);have r0:0<=bJ ns (z+1) % (0#sh.parts:Int):=abM _ 8#0;have r1:bJ ns (z+1) % (0#sh.parts:Int)<0#sh.parts:=abt _ 8#0;obtain⟨p,hp⟩:∃p,sh.parts[(bJ ns (z+1) % (0#sh.parts:Int)).toNat]?=1#p:=⟨_,aac 8#0⟩;let⟨_,hp'⟩:=aae.mp hp;let⟨y,hy,hd⟩:=jS (aau hp);have q2:=cA F.toFPart (n+1) sh false p.1 p.2.1 p.2.2 y (oR s sh (z+1) D L) hy hd
  have q3:∀st,sj (.dct (D.map λp=>aD p.1) (D.map λp=> 6#p.2)) [aD p, 6#0] st= .ok 6#(bZ D p) st:=λst=>by
   rw[tL,bq (mN.key p),oy mN Val.int p D];simp[bZ];cases List.find? (λq=>decide (q.1=p)) D<;>rfl
  have epv:aD p= .tup false [6#p.1, 6#p.2.1, 6#p.2.2]:=rfl;rw[←epv] at q2
  have hDl:0#D<10000:=by have:=h.len;simp at hl;lia
  have hLl:0#L<10000:=by have:=h.sub.length_le;simp at this hl;lia
  have ec:cb (y.pt p.2.2)= .tup false [6#(y.pt p.2.2).c, 6#(y.pt p.2.2).s, 6#(y.pt p.2.2).h, .tup true ((y.pt p.2.2).p.map .int), 6#(y.pt p.2.2).l]:=rfl;simp only[oR,ec] at q2;have q4:=C7 p (bZ D p+1) D;have q5:=mN.key p
  have q6:∀st,lQ (aD p) (.tup false [6#(bZ D p)]) st= .ok (ag ⟨p.1,p.2.1,p.2.2,bZ D p⟩) st:=λst=>by simp[aD,ag]
  have q7:∀st,res st (aD p)=aD p:=λst=>sP st _ 8#5;simp at hl z1
  by_cases ht:bZ D p<(y.pt p.2.2).c
  ·let⟨D',L',z',y7,y8,y9,e,h2,h3,h4⟩:=oj F n ns s sh hs k Bs hk rest (done++[b]) (dput D p (bZ D p+1)) (L++[(⟨p.1,p.2.1,p.2.2,bZ D p⟩,b)]) (z+1) 1#(aw b) 1#(aD p) 1#6#(bZ D p) (h.put b p y hy hd ht) (by simp;lia) 8#0 8#0;refine⟨D',L',z',y7,y8,y9, ?_,by simpa using h2,by lia,by simp;lia⟩;unfold mH at e⊢;simp only[oR,zL] at e⊢;simp[q1,r0,r1,np,hp,hp',bT,q3,-tL,q2,ht,hDl,hLl,q4,q5,q6,Nk];simp[ao] at e⊢;exact e
  ·let⟨D',L',z',y7,y8,y9,e,h2,h3,h4⟩:=oj F n ns s sh hs k Bs hk rest (done++[b]) D L (z+1) 1#(aw b) 1#(aD p) 1#6#(bZ D p) (h.skip b) (by simp;lia) 8#0 8#0;refine⟨D',L',z',y7,y8,y9, ?_,by simpa using h2,by lia,by simp;lia⟩;unfold mH at e⊢;simp only[oR,zL] at e⊢;simp[q1,r0,r1,np,hp,hp',bT,q3,-tL,q2,ht,Nk];exact e
theorem xC {P:Pg} (F:FG P) (n:Nat) (ns:2#Int) (s:aa) (sh:Sh) (hs:sh.Ok) (k:Nat) (Bs:2#Bx) (hk:s[k]?=1#7#(Bs.map aw)) (hl:Bs.length<=60) (hn:(Bs.map (·.name)).Nodup) (z:Int) (z0:0<=z) (z1:z<2^58):
  ∃(L:8#8) (z':Int),bp sh L/\(L.map λq=>q.2).Sublist Bs/\z<=z'/\z'<=z+60/\call P (n+5) 44 [fU ns, 3#0,aF sh, 3#(k+1)] (.lst [6#z]::s)= .ok 3#(0#s+1) (.lst [6#z']::(s++[7#(L.map ao)])):=by
 rw[ak F.f44 _ _ _ rfl];unfold Fp;have hk1:k<0#s:=(aae.mp hk).1;let⟨D',L,z',y7,y8,y9,e,h2,h3,h4⟩:=oj F n ns s sh hs k Bs hk Bs [] [] [] z none none none (Pl.nil sh) (by simp;lia) z0 8#0;refine⟨L,z',h2.ld (by simp;lia) (by simpa using hn),by simpa using h2.sub,h3,by lia, ?_⟩;have q1:=kZ F.toFPart (n+3) sh hs (.lst [6#z]::(s++[.dct [] [], .lst []]))
 have hg:∀g:aa,(s++g)[k]?=1#7#(Bs.map aw):=λg=>by rw[aao hk1,hk]
 unfold mH at e;simp only[oR,zL] at e;simp at e q1;simp[new,q1,hg];rw[e];simp;refine(n8 P z z' s [_, 7#(L.map ao),_] 1 _ _ rfl 8#28).trans ?_;rfl
end RB
end PI
namespace PI
open PySem
def vU (f:Int) (p:Pt):Pt:=⟨p.c,p.s*f,p.h,p.p,p.l*f⟩
def pk (f:Int) (y:Sk):Sk:=⟨y.side,vU f y.hold,vU f y.deck⟩
def nh (f:Int) (b:By):By:=⟨b.arm,b.sks.map (pk f)⟩
def gq (f:Int) (s:Sh):Sh:=⟨s.bays.map (nh f),s.foes,s.trim*f,s.heel*f⟩
def vD (f:Int) (p:Cell×Bx):Cell×Bx:=(p.1,⟨p.2.name,p.2.w*f,p.2.h,p.2.cold,p.2.sort,p.2.port⟩)
def gL (f:Int) (L:8#8):2#(Cell×Bx):=L.map (vD f)
theorem yu {f:Int} (hf:0<=f) {p:Pt} (h:p.Ok):(vU f p).Ok:=⟨h.1,⟨ab6 h.2.1.1 hf,h.2.1.2.1,ab6 h.2.1.2.2 hf⟩,h.2.2⟩
theorem Fq {f:Int} (hf:0<=f) {b:By} (h:b.Ok):(nh f b).Ok:=⟨by simpa[nh] using h.1,by simpa[nh] using h.2.1,λy hy=>by
 let⟨x,hx,rfl⟩:=aaC.mp hy
 exact⟨yu hf (h.2.2 x hx).1,yu hf (h.2.2 x hx).2⟩⟩
theorem zw {f:Int} (hf:0<=f) {s:Sh} (h:s.Ok):(gq f s).Ok:=⟨by simpa[gq] using h.1,by simpa[gq] using h.2.1,h.2.2.1,λy hy=>by
 let⟨x,hx,rfl⟩:=aaC.mp hy
 exact Fq hf (h.2.2.2.1 x hx),ab6 h.2.2.2.2.1 hf,ab6 h.2.2.2.2.2 hf⟩
set_option tactic.hygienic true in
theorem HJ {f:Int} {s:Sh} {b k:Int} {y:Sk} (h:s.sk? b k=1#y):(gq f s).sk? b k=1#(pk f y):=by
 unfold Sh.sk? at h⊢;split at h
 ·rename_i c;rw[if_pos c];let⟨x,e1,e2⟩:=aap.mp h;simp[gq,nh,e1,e2]
 ·cases h
theorem Jy (f:Int) (y:Sk) (d:Int):((pk f y).pt d).c=(y.pt d).c:=by
 unfold Sk.pt;split<;>rfl
theorem Jm {f:Int} {s:Sh} {L:8#8} (h:bp s L):bp (gq f s) (gL f L):=by
 let⟨h1,h2,h3,h4,h5⟩:=h;refine⟨by simpa[gL] using h1,by simpa[gL,vD,acn] using h2,by simpa[gL,vD,acn] using h3,λp hp=> ?_,λp hp=> ?_⟩
 ·let⟨q,hq,rfl⟩:=aaC.mp hp;let⟨y,e1,e2,e3,e4⟩:=h4 q hq;exact⟨pk f y,HJ e1,e2,e3,by rw[Jy];exact e4⟩
 ·let⟨q,hq,rfl⟩:=aaC.mp hp
  rcases h5 q hq with e|⟨r,hr,e⟩
  ·exact .inl e
  ·exact .inr ⟨vD f r,List.mem_map_of_mem hr,e⟩
theorem iR (i f:Int) (st:aa) (h0:0<=i) (h1:i<200):lJ i f st= .ok 6#(i*f) st:=FR i f st 8#0
noncomputable def mZ:2#S:=[.set 4#10 (.lst []), .for 4#11 (.val (.tup [4#8, 4#9])) [.expr (.bm .append 4#10 [.tup [.idx 4#11 (.ci 0), .bin .Mult (.idx 4#11 (.ci 1)) 4#2, .idx 4#11 (.ci 2), .idx 4#11 (.ci 3), .bin .Mult (.idx 4#11 (.ci 4)) 4#2]])], .expr (.bm .append 4#6 [.tup [4#7, .idx 4#10 (.ci 0), .idx 4#10 (.ci 1)]])]
def Sk.Sm (y:Sk):Prop:=(0<=y.hold.s/\y.hold.s<200/\0<=y.hold.l/\y.hold.l<200)/\0<=y.deck.s/\y.deck.s<200/\0<=y.deck.l/\y.deck.l<200
theorem rS {P:Pg} (cl:ax) (T:aa) (f:Int) (x0 x1 x3 x4 x5:5#Val):∀(sks done:2#Sk) (g:aa) (x7 x8 x9 x10 x11:5#Val),(∀y∈sks,y.Sm)->0#done+0#sks<=20->
  ∃g' y7 y8 y9 y10 y11,forL (.tup [4#7, 4#8, 4#9]) (cI P cl mZ) [] (sks.map dw) [x0,x1,1#6#f,x3,x4,x5,1#3#0#T,x7,x8,x9,x10,x11,none] (T++ 7#(done.map dw)::g)
   = .next [x0,x1,1#6#f,x3,x4,x5,1#3#0#T,y7,y8,y9,y10,y11,none] (T++ 7#((done++sks.map (pk f)).map dw)::g')
 |[],done,g,x7,x8,x9,x10,x11,_,_=>⟨g,x7,x8,x9,x10,x11,by simp⟩
 |y::sks,done,g,x7,x8,x9,x10,x11,h,hl=>by
  simp at hl;let⟨⟨a1,a2,a3,a4⟩,b1,b2,b3,b4⟩:=h y 8#5;let⟨g',y7,y8,y9,y10,y11,e⟩:=rS cl T f x0 x1 x3 x4 x5 sks (done++[pk f y]) (g++[.lst [cb (vU f y.hold),cb (vU f y.deck)]]) 1#6#y.side 1#(cb y.hold) 1#(cb y.deck) 1#3#(0#T+(0#g+1)) 1#(cb y.deck) (λz hz=>h z (by simp[hz])) (by simp;lia);refine⟨g',y7,y8,y9,y10,y11, ?_⟩
  have l1:0#done<10000:=by lia
  have m1:=λst=>iR y.hold.s f st a1 a2;have m2:=λst=>iR y.hold.l f st a3 a4;have m3:=λst=>iR y.deck.s f st b1 b2;have m4:=λst=>iR y.deck.l f st b3 b4;unfold mZ at e⊢;simp[dw,cb,new,bT,m1,m2,m3,m4,l1];simp[pk,vU,dw,cb] at e;exact e
def t5:2#S:=[.set 4#6 (.lst []), .for (.tup [4#7, 4#8, 4#9]) (.val 4#5) mZ, .expr (.bm .append 4#3 [.tup [4#4, 4#6]])]
def GB (n:Nat) (g:aa) (v:Val) (b:By):Prop:=∃k,v= .tup false [6#b.arm, 3#(n+(k+1))]/\g[k]?=1#7#(b.sks.map dw)
theorem GB.app {n:Nat} {g g2:aa} {v:Val} {b:By} (h:GB n g v b):GB n (g++g2) v b:=by
 let⟨k,e1,e2⟩:=h;exact⟨k,e1,by rw[aao (aae.mp e2).1];exact e2⟩
theorem pW {α β:Type} {R:α->β->Prop} {x:α} {y:β} (h:R x y):∀{xs:2#α} {ys:2#β},bg R xs ys->bg R (xs++[x]) (ys++[y])
 |[],[],_=>⟨h,trivial⟩
 |_::_,_::_,⟨a,b⟩=>⟨a,pW h b⟩
theorem qD {α β:Type} {R:α->β->Prop}:∀{xs:2#α} {ys:2#β},bg R xs ys->0#xs=0#ys
 |[],[],_=>rfl
 |_::_,_::_,⟨_,b⟩=>by simp[qD b]
theorem rL {P:Pg} (cl:ax) (st:aa) (f:Int) (x0 x1:5#Val):∀(bays done:2#By) (vs:2#Val) (g:aa) (x4 x5 x6 x7 x8 x9 x10 x11:5#Val),(∀b∈bays,0#b.sks<=20/\∀y∈b.sks,y.Sm)->0#done+0#bays<=20->bg (GB 0#st g) vs done->
  ∃g' vs' y4 y5 y6 y7 y8 y9 y10 y11,forL (.tup [4#4, 4#5]) (cI P cl t5) [] (bays.map dN) [x0,x1,1#6#f,1#3#0#st,x4,x5,x6,x7,x8,x9,x10,x11,none] (st++ 7#vs::g)
   = .next [x0,x1,1#6#f,1#3#0#st,y4,y5,y6,y7,y8,y9,y10,y11,none] (st++ 7#vs'::g')/\bg (GB 0#st g') vs' (done++bays.map (nh f))
 |[],done,vs,g,x4,x5,x6,x7,x8,x9,x10,x11,_,_,h=>⟨g,vs,x4,x5,x6,x7,x8,x9,x10,x11,by simp,by simpa using h⟩
 |b::bays,done,vs,g,x4,x5,x6,x7,x8,x9,x10,x11,hb,hl,h=>by
  simp at hl;have lv:=qD h;let⟨g2,y7,y8,y9,y10,y11,e1⟩:=rS (P:=P) cl (st++ 7#vs::g) f x0 x1 1#3#0#st 1#6#b.arm 1#(.tup true (b.sks.map dw)) b.sks [] [] x7 x8 x9 x10 x11 (hb b 8#5).2 (by have:=(hb b 8#5).1;simpa using this)
  let⟨g',vs',z4,z5,z6,z7,z8,z9,z10,z11,e2,h2⟩:=rL cl st f x0 x1 bays (done++[nh f b]) (vs++[.tup false [6#b.arm, 3#(0#st+(0#g+1))]]) (g++ 7#((b.sks.map (pk f)).map dw)::g2) 1#6#b.arm 1#(.tup true (b.sks.map dw)) 1#3#(0#st+(0#g+1)) y7 y8 y9 y10 y11
   (λc hc=>hb c (by simp[hc])) (by simp;lia) (pW ⟨0#g,rfl,by simp[nh]⟩ (h.imp λ_ _ q=>q.app))
  refine⟨g',vs',z4,z5,z6,z7,z8,z9,z10,z11, ?_,by simpa using h2⟩
  have l1:0#vs<10000:=by lia
  unfold t5 at e2⊢;simp at e1 e2;simp[dN,new];rw[e1];simp[bT,l1];exact e2
theorem ET (S:aa) (y:Sk):fF S (dw y) y:=⟨false,_,_,rfl,⟨false,_,rfl, .inr rfl⟩,⟨false,_,rfl, .inr rfl⟩⟩
theorem AY (s g:aa) (j:Nat) (xs:2#Val) (hj:g[j]?=1#7#xs) (hx:trees xs=true):(Val.ref (0#s+j)).aG (s++g) 0#s 0#(s++g)=1#7#xs:=by
 have hlt:j<0#g:=(aae.mp hj).1
 have e:(s++g)[0#s+j]?=1#7#xs:=by rw[n9,hj]
 simp only[Val.aG,Val.sub,iT,e];rw[if_neg 8#0,if_neg (by simp;lia),cD _ _ hx];rfl
theorem As {P:Pg} (F:FShip P) (h70:P.fn 70=1#qC) (n:Nat) (s:Sh) (hs:s.Ok) (hsm:∀b∈s.bays,∀y∈b.sks,y.Sm) (ht:s.trim<200) (hh:s.heel<200) (f:Int) (f0:0<=f) (L:8#8) (hl:0#L<=10000) (hw:∀p∈L,xj p.2.w f) (v:Val) (st:aa) (hv:res st v= 7#(L.map ao)):
  call P (n+7) 70 [aF s,v, 6#f] st= .ok (.tup false [aF (gq f s), 7#((gL f L).map ao)]) st:=by
 rw[ak h70 _ _ _ rfl];unfold qC;let⟨g,vs,y4,y5,y6,y7,y8,y9,y10,y11,e,hg⟩:=rL (P:=P) (call P (n+6)) st f 1#(aF s) 1#v s.bays [] [] [] none none none none none none none none (λb hb=>⟨(hs.2.2.2.1 b hb).2.1,hsm b hb⟩) (by simpa using hs.2.1) trivial;have hv2:=cz (g:= 7#vs::g) hv;let⟨c,w,k,_⟩:=de (.inl hv2)
 have g1:∀x0 x1 x3 x4 x5 x6 x7 x8 x9 x10 x11,ay (Tn P (call P (n+6)) 2 [2] (.tup [4#0, 4#1]) none (.tup [4#0, .bin .Add (.tup [.idx 4#1 (.ci 0), .bin .Mult (.idx 4#1 (.ci 1)) 4#2]) (.slc 4#1 1#(.ci 2) none)]) [x0,x1,1#6#f,x3,x4,x5,x6,x7,x8,x9,x10,x11,none]) c (L.map ao) (st++ 7#vs::g)= .ok ((gL f L).map ao) (st++ 7#vs::g):=λx0 x1 x3 x4 x5 x6 x7 x8 x9 x10 x11=>by
  rw[bS k ao (λq=>1#(ao (vD f q))) L ?_]
  ·simp[gL,acn]
  ·intro q hq;have m:∀st,lJ q.2.w f st= .ok 6#(q.2.w*f) st:=λst=>bq (hw q hq);simp[Tn,aI,av,ao,aw,m,bu,cut,vD]
 have t0:=hs.2.2.2.2.1;have t1:=hs.2.2.2.2.2;have m1:=λst=>iR s.trim f st t0 ht;have m2:=λst=>iR s.heel f st t1 hh;obtain⟨S,hS⟩:∃S,S=st++ 7#vs::(g++[7#((gL f L).map ao), 7#(s.foes.map cv)]):=⟨_,rfl⟩;have hg2:bg (GB 0#st g) vs (gq f s).bays:=hg
 have rb:bg (gd S) vs (gq f s).bays:=hg2.imp λv b q=>by
  let⟨k,e1,e2⟩:=q;refine⟨false,_,b.sks.map dw,e1, .inl ?_, ?_⟩
  ·have:(g++[7#((gL f L).map ao), 7#(s.foes.map cv)])[k]?=1#7#(b.sks.map dw):=by
    rw[aao (aae.mp e2).1];exact e2
   rw[hS];simp[this]
  ·have:=bg.map (R:=fF S) dw id (ET S) b.sks;simpa using this
 have hm:=vZ F n (gq f s) S 3#0#st 3#(0#st+(0#g+2)) vs (.inl (by simp[hS])) rb (by simp[hS,gq]) (zw f0 hs);unfold t5 mZ at e;simp[new,eU F,gB F,qZ F,tj F];rw[e]
 have hgl:0#(gL f L)<=10000:=by simpa[gL] using hl
 rw[hS] at hm;simp[gq] at hm;simp[w,g1,hl,T.low,lows,new,gB F,qZ F,tj F,m1,m2,hm];have z:=AY st (7#vs::(g++[7#((gL f L).map ao), 7#(s.foes.map cv)])) (0#g+1) ((gL f L).map ao) 8#5 (aK _ _ lL);have hgs:aF ⟨s.bays.map (nh f),s.foes,s.trim*f,s.heel*f⟩=aF (gq f s):=rfl;rw[hgs];refine(fh P st _ _ (.tup false [aF (gq f s), 7#((gL f L).map ao)]) (eF _ _) ?_ rfl).trans 8#5;rw[Dk,ph,ph,Bw,z,iX _ _ _ _ 8#5];rfl
theorem yD:∀{a b:2#Int},cg a b=false->a≠b->cg b a=true
 |[],[],_,h=>absurd rfl h
 |[],_::_,h,_=>by cases h
 |_::_,[],_,_=>rfl
 |x::r,y::t,h,n=>by
  unfold cg at h⊢
  by_cases e:x=y
  ·subst e;rw[if_pos rfl] at h⊢;exact yD h λz=>n (by rw[z])
  ·rw[if_neg e] at h;rw[if_neg (Ne.symm e)];have:=abK h;exact aaH 8#0
theorem lt_trans:∀{a b c:2#Int},cg a b=true->cg b c=true->cg a c=true
 |[],[],_,h,_=>by cases h
 |[],_::_,[],_,h=>by cases h
 |[],_::_,_::_,_,_=>rfl
 |_::_,[],_,h,_=>by cases h
 |_::_,_::_,[],_,h=>by cases h
 |x::r,y::t,z::u,h,k=>by
  unfold cg at h k⊢
  by_cases e:x=y
  ·subst e;rw[if_pos rfl] at h
   by_cases e2:x=z
   ·subst e2;rw[if_pos rfl] at k⊢;exact lt_trans h k
   ·rw[if_neg e2] at k⊢;exact k
  ·rw[if_neg e] at h;have:=aa4 h
   by_cases e2:y=z
   ·subst e2;rw[if_neg e];exact h
   ·rw[if_neg e2] at k;have:=aa4 k;rw[if_neg 8#0];exact aaH 8#0
theorem sR:∀a:2#Int,cg a a=false
 |[]=>rfl
 |x::r=>by
  unfold cg;rw[if_pos rfl];exact sR r
theorem vv {α:Type} (k:2#Int) (y:α):∀{r:2#(2#Int×α)},r.Pairwise (λa b=>cg a.1 b.1=true)->(∀z∈r,z.1≠k)->(cO k y r).Pairwise λa b=>cg a.1 b.1=true
 |[],_,_=>by simp[cO]
 |z::r,h,n=>by
  let⟨h1,h2⟩:=abZ.mp h;unfold cO
  by_cases c:cg k z.1=true
  ·rw[if_pos c];refine abZ.mpr ⟨λw hw=> ?_,h⟩
   rcases aaq.mp hw with rfl|hw
   ·exact c
   ·exact lt_trans c (h1 w hw)
  ·rw[if_neg c];have c':=yD (Bool.eq_false_iff.mpr c) (Ne.symm (n z 8#5));refine abZ.mpr ⟨λw hw=> ?_,vv k y h2 λw hw=>n w (by simp[hw])⟩
   rcases aaq.mp ((jc k y r).mem_iff.mp hw) with rfl|hw
   ·exact c'
   ·exact h1 w hw
theorem rl {α:Type}:∀{r:2#(2#Int×α)},(r.map λz=>z.1).Nodup->(bt r).Pairwise λa b=>cg a.1 b.1=true
 |[],_=>by simp[bt]
 |z::r,h=>by
  rw[aas,aa7] at h;exact vv _ _ (rl h.2) λw hw e=>h.1 (aaC.mpr ⟨w,(fE r).mem_iff.mp hw,e⟩)
def pb (p q:Cell×Bx):Prop:=cg p.1.key q.1.key=true
theorem Hg {L:8#8} (h:(L.map λp=>p.1).Nodup):(L.map λp=>p.1.key).Nodup:=by
 have:(L.map λp=>p.1.key)=(L.map λp=>p.1).map Cell.key:=by simp
 rw[this];exact List.Pairwise.map _ (λa b n e=>n (vz e)) h
theorem pz {α:Type} (f:α->2#Int):∀(L:2#α),∀z∈bt (L.map λp=>(f p,p)),z.1=f z.2:=λL z hz=>by
 let⟨p,_,rfl⟩:=aaC.mp ((fE _).mem_iff.mp hz);rfl
theorem yP {L:8#8} (h:(L.map λp=>p.1).Nodup):(aP L).Pairwise pb:=by
 unfold aP;rw[ab1];have h1:=rl (r:=L.map λp=>(p.1.key,p)) (by simpa[acn] using Hg h);refine h1.imp_of_mem λ{a b} ha hb q=> ?_;have ea:=pz (λp:Cell×Bx=>p.1.key) L a ha;have eb:=pz (λp:Cell×Bx=>p.1.key) L b hb;unfold pb;rw[←ea,←eb];exact q
theorem wt {L M:8#8} (h:(L.map λp=>p.1).Nodup) (hp:M.Perm L) (hs:M.Pairwise pb):M=aP L:=
 List.Perm.eq_of_pairwise (le:=pb) (λa b _ _ h1 h2=>by
  have:=lt_trans h1 h2;rw[sR] at this
  cases this) hs (yP h) (hp.trans (cU L).symm)
noncomputable def iz (p:Int×Int×Int):2#Int:=[p.1,p.2.2,p.2.1]
theorem mz (i:Int) (m:Nat) (d:Int):(bG i m d).Pairwise λp q=>cg (iz p) (iz q)=true:=by
 unfold bG;rw[ab1];refine List.pairwise_lt_range.imp λ{a b} h=> ?_;simp only[iz,cg,abX];rw[if_neg 8#0];exact aaH 8#0
theorem iu {i:Int} {m:Nat} {d:Int} {p:Int×Int×Int} (h:p∈bG i m d):p.1=i/\p.2.2=d:=by
 let⟨k,_,rfl⟩:=aaC.mp h;exact⟨rfl,rfl⟩
theorem kg:∀(r:2#By) (i:Nat),(partsFrom i r).Pairwise λp q=>cg (iz p) (iz q)=true
 |[],_=>by simp[partsFrom]
 |b::r,i=>by
  unfold partsFrom
  have far:∀p∈partsFrom (i+1) r,(i:Int)<p.1:=λp hp=>by
   let⟨j,_,_,e,_⟩:=fS _ _ _ hp;lia
  refine List.pairwise_append.mpr ⟨mz _ _ _,List.pairwise_append.mpr ⟨mz _ _ _,kg r (i+1),λp hp q hq=> ?_⟩,λp hp q hq=> ?_⟩
  ·have e:=iu hp;have f:=far q hq;simp only[iz,cg];rw[if_neg 8#0];exact aaH 8#0
  ·have e:=iu hp
   rcases aaM.mp hq with hq|hq
   ·have e':=iu hq;simp only[iz,cg];rw[if_pos 8#0,if_neg 8#0];exact aaH 8#0
   ·have f:=far q hq;simp only[iz,cg];rw[if_neg 8#0];exact aaH 8#0
set_option tactic.hygienic true in
theorem yr:∀{a b:2#Int} (x y:2#Int),cg a b=true->0#a=0#b->cg (a++x) (b++y)=true
 |[],[],_,_,h,_=>by cases h
 |[],_::_,_,_,_,l=>by cases l
 |_::_,[],_,_,_,l=>by cases l
 |u::a,v::b,x,y,h,l=>by
  unfold cg at h;show cg (u::(a++x)) (v::(b++y))=true;unfold cg;split at h
  ·rename_i e;rw[if_pos e];exact yr x y h (by simpa using l)
  ·rename_i e;rw[if_neg e];exact h
theorem vR:∀(n:Nat) (lo:Int),(au lo n).Pairwise λa b=>a<b
 |0,_=>by simp[au]
 |n+1,lo=>by
  unfold au;exact abZ.mpr ⟨λa ha=>by have:=cu.mp ha;lia,vR n (lo+1)⟩
theorem Am (s:Sh):s.cells.Pairwise λa b=>cg a.key b.key=true:=by
 unfold Sh.cells cellsFrom;refine List.pairwise_flatMap.mpr ⟨λp _=> ?_,(kg s.bays 0).imp λ{p q} h x hx y hy=> ?_⟩
 ·unfold cP;rw[ab1];refine(vR _ _).imp λ{a b} h=> ?_;simp only[Cell.key,cg,abX];rw[if_neg 8#0];exact aaH h
 ·let⟨t,_,rfl⟩:=aaC.mp hx;let⟨u,_,rfl⟩:=aaC.mp hy;exact yr (a:=iz p) (b:=iz q) [t] [u] h rfl
theorem j4:∀(r:2#By) (i j:Nat) (b:By) (k d:Int),r[j]?=1#b->0<=k->k<0#b.sks->(d=0∨d=1)->(((i+j:Nat):Int),k,d)∈partsFrom i r
 |[],_,_,_,_,_,h,_,_,_=>by simp at h
 |b::r,i,0,c,k,d,h,k0,k1,hd=>by
  simp at h;subst h;have m:∀d:Int,((i:Int),k,d)∈bG i 0#b.sks d:=λd=>aaC.mpr ⟨k.toNat,abf.mpr 8#0,by simp;lia⟩;unfold partsFrom
  rcases hd with rfl|rfl
  ·exact aaU _ (m 0)
  ·exact aaw _ (aaU _ (m 1))
 |b::r,i,j+1,c,k,d,h,k0,k1,hd=>by
  have:=j4 r (i+1) j c k d (by simpa using h) k0 k1 hd;unfold partsFrom;refine aaw _ (aaw _ ?_);rwa[show i+1+j=i+(j+1) by lia] at this
theorem cell_in {s:Sh} {c:Cell} {y:Sk} (h:s.sk? c.b c.k=1#y) (hd:c.d=0∨c.d=1) (t0:0<=c.t) (t1:c.t<(y.pt c.d).c):c∈s.cells:=by
 let⟨b0,k0,z,e1,e2,_,k1⟩:=jL h
 have hp:(c.b,c.k,c.d)∈s.parts:=by
  have:=j4 s.bays 0 c.b.toNat z c.k c.d e1 k0 k1 hd;rwa[show ((0+c.b.toNat:Nat):Int)=c.b by lia] at this
 refine ab9.mpr ⟨_,hp,aaC.mpr ⟨c.t,cu.mpr ⟨t0, ?_⟩,rfl⟩⟩
 have:iN s (c.b,c.k,c.d)=y.pt c.d:=by simp[iN,h]
 rw[this];lia
theorem Eu {s:Sh} {L:8#8} (h:bp s L):(s.cells.flatMap λc=>L.filter λp=>decide (p.1=c))=aP L:=by
 have pw:(s.cells.flatMap λc=>L.filter λp=>decide (p.1=c)).Pairwise pb:=by
  refine List.pairwise_flatMap.mpr ⟨λc _=> ?_,(Am s).imp λ{a b} q x hx y hy=> ?_⟩
  ·have hn:L.Pairwise λp q=>p.1≠q.1:=ab1.mp h.2.1;refine(hn.filter _).imp_of_mem λ{p q} hp hq n=>absurd ?_ n;have e1:=aa4 (aaV.mp hp).2;have e2:=aa4 (aaV.mp hq).2;rw[e1,e2]
  ·have e1:=aa4 (aaV.mp hx).2;have e2:=aa4 (aaV.mp hy).2;unfold pb;rw[e1,e2];exact q
 have nd:∀{M:8#8},M.Pairwise pb->M.Nodup:=λ{M} hM=>hM.imp λ{a b} q e=>by
  subst e;unfold pb at q;rw[sR] at q;cases q
 refine wt h.2.1 ((List.perm_ext_iff_of_nodup (nd pw) ?_).mpr λp=> ?_) pw
 ·exact((cU L).nodup_iff).mp (nd (yP h.2.1))
 ·constructor
  ·intro hp;let⟨c,_,hc⟩:=ab9.mp hp;exact(aaV.mp hc).1
  ·intro hp;let⟨y,e1,e2,e3,e4⟩:=h.2.2.2.1 p hp;exact ab9.mpr ⟨p.1,cell_in e1 e2 e3 e4,aaV.mpr ⟨hp,aaH rfl⟩⟩
structure FR8 (P:Pg):Prop extends FFault P where
 f10:P.fn 10=1#AJ
 f11:P.fn 11=1#Bt
 f18:P.fn 18=1#iw
 f45:P.fn 45=1#Ih
 f69:P.fn 69=1#lO
 f76:P.fn 76=1#FX
 f77:P.fn 77=1#Hr
def r8 (L:8#8) (c:Cell):2#(Cell×Bx):=L.filter λp=>decide (p.1=c)
noncomputable def nY:2#S:=[.expr (.bm .extend 4#2 [.comp 1 [3] 4#0 (.val 4#1) 1#(.cmp .Eq (.idx 4#0 (.ci 0)) 4#1) 4#0])]
theorem tM {P:Pg} (cl:ax) (s:Sh) (L:8#8) (hl:0#L<=10000) (v:Val) (st:aa) (hv:res st v= 7#(L.map ao)):∀(cs:2#Cell) (acc:8#8) (g:aa) (x3:5#Val),0#(acc++cs.flatMap (r8 L))<=10000->
  ∃g' y3,forL 4#3 (cI P cl nY) [(0#st+1, 7#(s.cells.map ag))] (cs.map ag) [1#(aF s),1#v,1#3#0#st,x3] (st++ 7#(acc.map ao):: 7#(s.cells.map ag)::g)
   = .next [1#(aF s),1#v,1#3#0#st,y3] (st++ 7#((acc++cs.flatMap (r8 L)).map ao):: 7#(s.cells.map ag)::g')
 |[],acc,g,x3,_=>⟨g,x3,by simpa using RB.md (λp hp=>by simp at hp;subst hp;simp)⟩
 |c::cs,acc,g,x3,h=>by
  rw[List.flatMap_cons] at h;let⟨g',y3,e⟩:=tM cl s L hl v st hv cs (acc++r8 L c) (g++[7#((r8 L c).map ao)]) 1#(ag c) (by rw[ac2];exact h);refine⟨g',y3, ?_⟩
  have l:0#acc+0#(r8 L c)<=10000:=by
   simp only[aaL] at h;lia
  let⟨ch,w1,k1,_⟩:=de (.inl (cz (g:= 7#(acc.map ao):: 7#(s.cells.map ag)::g) hv));have ec:ag c= .tup false [6#c.b, 6#c.k, 6#c.d, 6#c.t]:=rfl
  have g1:∀x0 x1 x2,ay (Tn P cl 1 [3] 4#0 1#(.cmp .Eq (.idx 4#0 (.ci 0)) 4#1) 4#0 [x0,x1,x2,1#(ag c)]) ch (L.map ao) (st++ 7#(acc.map ao):: 7#(s.cells.map ag)::g)= .ok ((r8 L c).map ao) (st++ 7#(acc.map ao):: 7#(s.cells.map ag)::g):=λx0 x1 x2=>by
   have:=bS (f:=Tn P cl 1 [3] 4#0 1#(.cmp .Eq (.idx 4#0 (.ci 0)) 4#1) 4#0 [x0,x1,x2,1#(ag c)]) k1 ao (λq=>if decide (q.1=c)=true then 1#(ao q) else none) L λq _=>by
    have e:=vA q.1 c;rw[ec] at e⊢;simp[Tn,aI,av,ao,ag] at e⊢;rw[e]
    by_cases h:q.1=c<;>simp[h]
   rw[this,ck];rfl
  rw[aas,RB.j0 (λp hp=>by simp at hp;subst hp;simp)];unfold nY at e⊢;simp[w1,g1,hl,T.low,new,bT,l,RB.Nk];simp at e;exact e
theorem wd {P:Pg} (F:FR8 P) (n:Nat) (s:Sh) (hs:s.Ok) (L:8#8) (h:bp s L) (v:Val) (st:aa) (hv:res st v= 7#(L.map ao)):call P (n+6) 45 [aF s,v] st= .ok 3#0#st (st++[7#((aP L).map ao)]):=by
 rw[ak F.f45 _ _ _ rfl];unfold Ih
 have hl:0#L<=10000:=by have:=h.1;lia
 have eo:s.cells.flatMap (r8 L)=aP L:=Eu h;let⟨g',y3,e⟩:=tM (P:=P) (call P (n+5)) s L hl v st hv s.cells [] [] none (by rw[eo];simpa[(cU L).length_eq] using hl);rw[eo] at e;have q:=ue ⟨F.toFPart,F.f10,F.f11⟩ n s hs (st++[.lst []]);simp at q e;unfold nY at e;simp[new,q];rw[e];simp;exact cH P st _ 0 _ _ rfl (a8 _ _ _ _ (aK _ _ lL))
noncomputable def iG:2#S:=[.ife (.call 69 [4#0, 4#1, 4#5, 4#3]) [.expr (.bm .append 4#2 [.tup [4#5, 4#3]])] []]
def kj:2#S:=[.for 4#5 (.val (.tup [.const (.str "strength"), .const (.str "height"), .const (.str "cold"), .const (.str "apart"), .const (.str "lash")])) iG]
theorem nR {P:Pg} (F:FR8 P) (n:Nat) (s:Sh) (hs:s.Ok) (L:8#8) (h:bp s L) (p:Cell×Bx) (hp:p∈L) (v:Val) (st:aa) (hv:res st v= 7#(L.map ao)) (g:aa) (x4:5#Val):∀(rs:2#Nat) (acc:2#(Nat×Cell)) (x5:5#Val),(∀r∈rs,r<5)->0#acc+0#rs<=10000->
  ∃y5,forL 4#5 (cI P (call P (n+6)) iG) [] (rs.map λr=> .str (bH r)) [1#(aF s),1#v,1#3#0#st,1#(ag p.1),x4,x5] (st++ 7#(acc.map fV)::g)
   = .next [1#(aF s),1#v,1#3#0#st,1#(ag p.1),x4,y5] (st++ 7#((acc++(rs.filter (brk s L p.1)).map λr=>(r,p.1)).map fV)::g)
 |[],acc,x5,_,_=>⟨x5,by simp⟩
 |r::rs,acc,x5,hr,hl=>by
  simp at hl;have q:=IW ⟨F.toFPart,F.f69⟩ (n+2) s hs L h p hp r (hr r 8#5) v (st++ 7#(acc.map fV)::g) (cz hv)
  have l:0#acc<10000:=by lia
  unfold iG;rw[aas,tU]
  cases hb:brk s L p.1 r with
  |true=>
   let⟨y5,e⟩:=nR F n s hs L h p hp v st hv g x4 rs (acc++[(r,p.1)]) 1#(.str (bH r)) (λa ha=>hr a (by simp[ha])) (by simp;lia);refine⟨y5, ?_⟩;rw[hb] at q;unfold iG at e;simp[q,bT,l,hb];simp[fV] at e⊢;exact e
  |false=>
   let⟨y5,e⟩:=nR F n s hs L h p hp v st hv g x4 rs acc 1#(.str (bH r)) (λa ha=>hr a (by simp[ha])) 8#0;refine⟨y5, ?_⟩;rw[hb] at q;unfold iG at e;simp[q,hb];simp at e;exact e
theorem sV {P:Pg} (F:FR8 P) (n:Nat) (s:Sh) (hs:s.Ok) (L:8#8) (h:bp s L) (v:Val) (st:aa) (hv:res st v= 7#(L.map ao)) (O:2#Val):∀(ps:8#8) (acc:2#(Nat×Cell)) (x3 x4 x5:5#Val),(∀p∈ps,p∈L)->0#acc+5*0#ps<=10000->
  ∃y3 y4 y5,forL (.tup [4#3, 4#4]) (cI P (call P (n+6)) kj) [(0#st+1, 7#O)] (ps.map ao) [1#(aF s),1#v,1#3#0#st,x3,x4,x5] (st++[7#(acc.map fV), 7#O])
   = .next [1#(aF s),1#v,1#3#0#st,y3,y4,y5] (st++[7#((acc++bM s L ps).map fV), 7#O])
 |[],acc,x3,x4,x5,_,_=>⟨x3,x4,x5,by simpa[bM] using RB.md (λp hp=>by simp at hp;subst hp;simp)⟩
 |p::ps,acc,x3,x4,x5,hp,hl=>by
  simp at hl;have fl:=mi s L p.1;let⟨y5,e1⟩:=nR F n s hs L h p (hp p 8#5) v st hv [7#O] 1#(aw p.2) cw acc x5 (λr hr=>by simp[cw] at hr;lia) (by simp[cw];lia);let⟨z3,z4,z5,e2⟩:=sV F n s hs L h v st hv O ps (acc++fj s L p.1) 1#(ag p.1) 1#(aw p.2) y5 (λq hq=>hp q (by simp[hq])) (by simp;lia);refine⟨z3,z4,z5, ?_⟩;rw[aas,RB.j0 (λp hp=>by simp at hp;subst hp;simp)];unfold kj;have ew:cw.map (λr=>Val.str (bH r))=[.str "strength", .str "height", .str "cold", .str "apart", .str "lash"]:=rfl;rw[ew] at e1;simp[ao,RB.Nk,-tU];rw[e1]
  have ef:bM s L (p::ps)=fj s L p.1++bM s L ps:=by simp[bM]
  unfold kj at e2;rw[ef];simp[fj] at e2⊢;exact e2
theorem js {P:Pg} (F:FR8 P) (n:Nat) (s:Sh) (hs:s.Ok) (L:8#8) (h:bp s L) (v:Val) (st:aa) (hv:res st v= 7#(L.map ao)):call P (n+7) 76 [aF s,v] st= .ok 3#0#st (st++[7#((bM s (aP L) (aP L)).map fV)]):=by
 rw[ak F.f76 _ _ _ rfl];unfold FX;have q:=wd F n s hs L h v (st++[.lst []]) (cz hv);have hl:=h.1;let⟨y3,y4,y5,e⟩:=sV F n s hs L h v st hv ((aP L).map ao) (aP L) [] none none none (λp hp=>(cU L).mem_iff.mp hp) (by simp[(cU L).length_eq];lia)
 have ef:bM s L (aP L)=bM s (aP L) (aP L):=by
  unfold bM fj;have:∀c,brk s L c=brk s (aP L) c:=λc=>funext λr=>(A0 (cU L) h.aP.2.1 c r).symm;simp only[this]
 rw[ef] at e;unfold kj iG at e;simp at q e;simp[new,q];rw[e];simp;exact cH P st _ 0 _ _ rfl (a8 _ _ _ _ (aK _ _ Dh))
noncomputable def tW:E:= .cmp .Gt (.bi .len [4#2]) (.ci 0)
noncomputable def bW:2#S:=[.set 4#3 (.idx (.idx 4#2 (.bin .Sub (.bi .len [4#2]) (.ci 1))) (.ci 1)), .set 4#1 (.comp 1 [3] 4#0 (.val 4#1) 1#9#5 4#0), .set 4#2 (.call 76 [4#0, 4#1])]
abbrev jw (s:Sh) (M:8#8):2#(Nat×Cell):=bM s (aP M) (aP M)
theorem CW (F0:2#(Nat×Cell)) (f:Nat×Cell):g9 ((F0++[f]).map fV) (0#F0:Int)=1#(fV f):=by
 unfold g9 gJ;rw[if_pos 8#0,if_pos (by simp;lia)];simp
theorem GR {P:Pg} (F:FR8 P) (n:Nat) (s:Sh) (hs:s.Ok) (M:8#8) (h:bp s M) (v:Val) (k:Nat) (S:aa) (hv:res S v= 7#(M.map ao)) (F0:2#(Nat×Cell)) (r:Nat) (c:Cell) (hk:S[k]?=1#7#((F0++[(r,c)]).map fV)) (x3:5#Val):
  aE P (call P (n+7)) bW [1#(aF s),1#v,1#3#k,x3] S= .next [1#(aF s),1#3#0#S,1#3#(0#S+1),1#(ag c)] (S++[7#((M.filter (keep (c.b,c.k,c.d) c.t)).map ao), 7#((jw s (M.filter (keep (c.b,c.k,c.d) c.t))).map fV)]):=by
 have hl:0#M<=10000:=by have:=h.1;lia
 let⟨ch,w1,k1,_⟩:=de (.inl hv)
 have g1:∀x0 x1 x2,ay (Tn P (call P (n+7)) 1 [3] 4#0 1#9#5 4#0 [x0,x1,x2,1#(ag c)]) ch (M.map ao) S= .ok ((M.filter (keep (c.b,c.k,c.d) c.t)).map ao) S:=λx0 x1 x2=>by
  have:=bS (f:=Tn P (call P (n+7)) 1 [3] 4#0 1#9#5 4#0 [x0,x1,x2,1#(ag c)]) k1 ao (λq=>if keep (c.b,c.k,c.d) c.t q=true then 1#(ao q) else none) M λq _=>by
   have e:(!q.1.b==c.b||(!q.1.k==c.k|| !q.1.d==c.d)||decide (q.1.t<c.t))=keep (c.b,c.k,c.d) c.t q:=by
    unfold keep;rw[aaA];simp
   simp[Tn,aI,av,ao,ag,bu,cut];rw[e];cases keep (c.b,c.k,c.d) c.t q<;>rfl
  rw[this,ck]
 have q:=js F n s hs _ (h.keep (c.b,c.k,c.d) c.t) 3#0#S (S++[7#((M.filter (keep (c.b,c.k,c.d) c.t)).map ao)]) 8#5;have a:=CW F0 (r,c);have ef:fV (r,c)= .tup false [.str (bH r),ag c]:=rfl;simp at a q;unfold bW;simp[hk];rw[a,ef];simp[w1,g1,hl,T.low,new,q]
theorem HY {s:Sh} {L M:8#8} {f:Nat×Cell} (h:f∈bM s L M):∃p∈M,p.1=f.2:=by
 let⟨p,hp,hf⟩:=ab9.mp h;let⟨r,_,rfl⟩:=aaC.mp hf;exact⟨p,hp,rfl⟩
theorem xw {P:Pg} (F:FR8 P) (n:Nat) (s:Sh) (hs:s.Ok):∀(m:Nat) (M:8#8) (v:Val) (k:Nat) (S:aa) (x3:5#Val),0#M<m->bp s M->res S v= 7#(M.map ao)->S[k]?=1#7#((jw s M).map fV)->
  ∃(M':8#8) (v':Val) (k':Nat) (g:aa) (y3:5#Val),lA (λenv st=>runC P (call P (n+7)) 1#tW env st) (λenv st=>aE P (call P (n+7)) bW env st) m [1#(aF s),1#v,1#3#k,x3] S= .next [1#(aF s),1#v',1#3#k',y3] (S++g)/\
   bp s M'/\((v'=v/\M'=M)∨∃j,v'= 3#(0#S+j)/\g[j]?=1#7#(M'.map ao))
 |0,_,_,_,_,_,h,_,_,_=>absurd h (Nat.not_lt_zero _)
 |m+1,M,v,k,S,x3,hm,h,hv,hk=>by
  have ht:runC P (call P (n+7)) 1#tW [1#(aF s),1#v,1#3#k,x3] S= .ok (decide (0<(0#(jw s M):Int))) S:=by
   unfold tW;simp[hk]
  unfold lA;simp only[ht]
  cases e:(jw s M).reverse with
  |nil=>
   have e0:jw s M=[]:=List.reverse_eq_nil_iff.mp e;refine⟨M,v,k,[],x3, ?_,h, .inl ⟨rfl,rfl⟩⟩;rw[e0];simp[vo]
  |cons f R=>
   have e0:jw s M=R.reverse++[f]:=by
    have:=congrArg List.reverse e;simpa using this
   have hm':0#(M.filter (keep (f.2.b,f.2.k,f.2.d) f.2.t))<m:=by
    let⟨p,hp,ep⟩:=HY (s:=s) (L:=aP M) (M:=aP M) (f:=f) (by rw[show bM s (aP M) (aP M)=R.reverse++[f] from e0];simp);have hp':=(cU M).mem_iff.mp hp
    have:0#(M.filter (keep (f.2.b,f.2.k,f.2.d) f.2.t))<0#M:=by
     rw[List.length_filter_lt_length_iff_exists];exact⟨p,hp',by rw[←ep];simp[keep]⟩
    lia
   have e1:=GR F n s hs M h v k S hv R.reverse f.1 f.2 (by rw[hk,e0]) x3;let⟨M',v',k',g,y3,e2,h2,h3⟩:=xw F n s hs m _ 3#0#S (0#S+1) (S++[7#((M.filter (keep (f.2.b,f.2.k,f.2.d) f.2.t)).map ao), 7#((jw s (M.filter (keep (f.2.b,f.2.k,f.2.d) f.2.t))).map fV)]) 1#(ag f.2) hm' (h.keep _ _) 8#5 8#5;refine⟨M',v',k',[7#((M.filter (keep (f.2.b,f.2.k,f.2.d) f.2.t)).map ao), 7#((jw s (M.filter (keep (f.2.b,f.2.k,f.2.d) f.2.t))).map fV)]++g,y3, ?_,h2, .inr ?_⟩
   ·have hd:decide (0<(0#(jw s M):Int))=true:=by rw[e0];simp
    rw[hd];show (aE P (call P (n+7)) bW [1#(aF s),1#v,1#3#k,x3] S).turn _=_;rw[e1];rw[←ac2];exact e2
   ·rcases h3 with⟨rfl,rfl⟩|⟨j,rfl,hj⟩
    ·exact⟨0,rfl,rfl⟩
    ·exact⟨2+j,by simp;lia,by rw[aal 8#5];simpa using hj⟩
set_option tactic.hygienic true in
theorem BU {st:aa} {v:Val} (h:res st v= 7#xs):v= 7#xs∨∃k,v= 3#k/\k<0#st:=by
 cases v<;>first|(left;exact h)|(right;rename_i k;refine⟨k,rfl, ?_⟩;exact Nat.lt_of_not_le λhk=>by rw[show res st 3#k=j3 k st[k]? from rfl,ab5 hk] at h;cases h)|cases h
theorem wA {P:Pg} (F:FR8 P) (hw:64<=P.w) (n:Nat) (s:Sh) (hs:s.Ok) (M:8#8) (h:bp s M) (v:Val) (st:aa) (hv:res st v= 7#(M.map ao)):
  ∃(M':8#8) (v':Val) (g:aa),call P (n+8) 77 [aF s,v] st= .ok v' (st++g)/\bp s M'/\res (st++g) v'= 7#(M'.map ao):=by
 rw[ak F.f77 _ _ _ rfl];unfold Hr;have q:=js F n s hs M h v st hv;let⟨M',v',k',g,y3,e,h2,h3⟩:=xw F n s hs P.w M v 0#st (st++[7#((jw s M).map fV)]) none (by have:=h.1;lia) h (cz hv) 8#5;refine⟨M', ?_⟩
 have hr:aE P (call P (n+7)) [.set 4#2 (.call 76 [4#0, 4#1]), .whl tW bW, .ret 4#1] [1#(aF s),1#v,none,none] st= .ret v' (st++[7#((jw s M).map fV)]++g):=by
  have hW:∀c b env st,S.run P (call P (n+7)) (.whl c b) env st=lA (λenv st=>runC P (call P (n+7)) 1#c env st) (λenv st=>aE P (call P (n+7)) b env st) P.w env st:=λ_ _ _ _=>rfl;simp[q,hW];simp at e;rw[e];simp
 unfold tW bW at hr
 rcases h3 with⟨rfl,rfl⟩|⟨j,rfl,hj⟩
 ·refine⟨v',[], ?_,h2,by simpa using hv⟩;simp at hr⊢;rw[hr]
  rcases BU hv with rfl|⟨k,rfl,hk⟩
  ·exact cM P st _ _ (by simp[aK])
  ·show fin P st 3#k (st++_)=_;unfold fin;rw[if_pos (eF _ _)];simp[hk]
 ·refine⟨3#0#st,[7#(M'.map ao)], ?_,h2,by simp⟩;simp at hr⊢;rw[hr];have:=cH P st (7#((jw s M).map fV)::g) (j+1) (M'.map ao) (M'.map ao) (by simpa using hj) (a8 _ _ _ _ (aK _ _ lL));show fin P st 3#_ _=_;rw[←this];congr 2;lia
theorem Hy {P:Pg} (h18:P.fn 18=1#iw) (n:Nat) (a:Str) (st:aa):call P (n+1) 18 [.str a, .str a] st= .ok (.bl true) st:=by
 rw[ak h18 _ _ _ rfl];unfold iw;simp
theorem Ib {P:Pg} (h18:P.fn 18=1#iw) (n:Nat) (a:Int) (st:aa):call P (n+1) 18 [6#a, 6#a] st= .ok (.bl true) st:=by
 rw[ak h18 _ _ _ rfl];unfold iw;simp
theorem tR {α:Type} (f:α->Val):∀xs:2#α,gP (xs.map f) (xs.map f)=xs.map λx=> .tup false [f x,f x]
 |[]=>rfl
 |x::xs=>by simp[gP,tR f xs]
theorem ox {α:Type}:∀xs:2#α,allB (xs.map λ_=>Val.bl true)=1#true
 |[]=>rfl
 |x::xs=>by simp[ox xs]
theorem uU {α:Type} {P:Pg} (n:Nat) (f:α->Val) (xs:2#α) (h:∀x∈xs,∀st,call P n 18 [f x,f x] st= .ok (.bl true) st) (chk:2#(Nat×Ob)) (st:aa) (hk:Kept chk st) (env:Env):
  ay (Tn P (call P n) 2 [] (.tup [4#0, 4#1]) none (.call 18 [4#0, 4#1]) env) chk (xs.map λx=> .tup false [f x,f x]) st= .ok (xs.map λ_=> .bl true) st:=by
 rw[bS hk (λx=> .tup false [f x,f x]) (λ_=>1#(.bl true)) xs λx hx=> ?_]
 ·simp
 ·simp[Tn,aI,av,h x hx]
theorem ya {α:Type} {P:Pg} (h18:P.fn 18=1#iw) (n:Nat) (f:α->Val) (xs:2#α) (hl:0#xs<=10000) (h:∀x∈xs,∀st,call P n 18 [f x,f x] st= .ok (.bl true) st) (st:aa):call P (n+1) 18 [.tup false (xs.map f), .tup false (xs.map f)] st= .ok (.bl true) st:=by
 rw[ak h18 _ _ _ rfl];unfold iw;have c:=λenv=>uU n f xs h [] st (bx st) env;simp[tR,T.low,lows,hl,c,new,ox];exact cM P st [_] _ 8#5
theorem FQ {P:Pg} (h18:P.fn 18=1#iw) (n:Nat) (f:Nat×Cell) (st:aa):call P (n+3) 18 [fV f,fV f] st= .ok (.bl true) st:=by
 have q1:∀x∈[f.2.b,f.2.k,f.2.d,f.2.t],∀st,call P (n+1) 18 [6#x, 6#x] st= .ok (.bl true) st:=λx _ st=>Ib h18 n x st;have q2:=ya h18 (n+1) Val.int _ 8#5 q1
 have:=ya h18 (n+2) id [.str (bH f.1),ag f.2] 8#5 (λx hx st=>by
  simp at hx
  rcases hx with rfl|rfl
  ·exact Hy h18 (n+1) _ st
  ·exact q2 st) st
 simpa[fV] using this
theorem zQ {P:Pg} (h18:P.fn 18=1#iw) (n:Nat) (i j:Nat) (F:2#(Nat×Cell)) (hl:0#F<=10000) (st:aa) (hi:st[i]?=1#7#(F.map fV)) (hj:st[j]?=1#7#(F.map fV)):call P (n+4) 18 [3#i, 3#j] st= .ok (.bl true) st:=by
 rw[ak h18 _ _ _ rfl];unfold iw;have c:=λenv=>uU (n+3) fV F (λf _ st=>FQ h18 n f st) [(i, 7#(F.map fV)),(j, 7#(F.map fV))] st (λp hp=>by simp at hp;rcases hp with rfl|rfl<;>assumption) env;simp[hi,hj,tR,T.low,lows,hl,c,new,ox];exact cM P st [_] _ 8#5
noncomputable def iY:2#S:=[.set 4#6 (.make 10 [4#3, 4#4]), .set 4#7 (.call 76 [4#3, 4#4]), .set 4#8 (.call 75 [4#6]), .ife (.or (.not (.bi (.bF "bool") [4#8])) (.cmp .NotEq 4#8 (.cmp .Eq (.bi .len [4#7]) (.ci 0)))) [.ret 8#33] [], .set 4#9 (.call 74 [4#6]), .ife (.not (.call 18 [4#9, 4#7])) [.ret 8#33] [], .expr (.bm .append 4#9 [.tup [.const (.str "none"), .tup [.ci 0, .ci 0, .ci 0, .ci 0]]]), .ife (.not (.call 18 [.call 74 [4#6], 4#7])) [.ret 8#33] []]
theorem AZ {P:Pg} (F:FR8 P) (n:Nat) (s:Sh) (hs:s.Ok) (L:8#8) (h:bp s L) (v:Val) (T:aa) (hv:res T v= 7#(L.map ao)) (x0 x1 x2 x5 x6 x7 x8 x9:5#Val):
  ∃g y6 y7 y8 y9,aE P (call P (n+8)) iY [x0,x1,x2,1#(aF s),1#v,x5,x6,x7,x8,x9] T= .next [x0,x1,x2,1#(aF s),1#v,x5,y6,y7,y8,y9] (T++g):=by
 have hl:=h.1;have sL:=h.aP;obtain⟨Fl,hF⟩:∃l,l=bM s (aP L) (aP L):=⟨_,rfl⟩
 have lF:Fl.length<10000:=by
  have:=rm s (aP L) (aP L);have:=(cU L).length_eq;rw[hF];lia
 have e0:=C0 F.toFLoad (n+2) s L v T hv h;have e1:=js F (n+1) s hs L h v T hv;have e2:=AA F.toFFault (n+1) s hs (aP L) sL (T++[7#(Fl.map fV)]);have e3:=j5 F.toFFault (n+2) s hs (aP L) sL (T++[7#(Fl.map fV)]);have e4:=zQ F.f18 (n+4) (0#T+1) 0#T Fl 8#0 (T++[7#(Fl.map fV), 7#(Fl.map fV)]) 8#5 8#5;have e5:=j5 F.toFFault (n+2) s hs (aP L) sL (T++[7#(Fl.map fV), 7#(Fl.map fV++[.tup false [.str "none", .tup false [6#0, 6#0, 6#0, 6#0]]])]);have e6:=zQ F.f18 (n+4) (0#T+2) 0#T Fl 8#0 (T++[7#(Fl.map fV), 7#(Fl.map fV++[.tup false [.str "none", .tup false [6#0, 6#0, 6#0, 6#0]]]), 7#(Fl.map fV)]) 8#5 8#5;rw[←hF] at e1 e2 e3 e5
 have hb:((Fl.length:Int)==0)=Fl.isEmpty:=by
  cases Fl with
  |nil=>rfl
  |cons a r=>simp;lia
 simp at e2 e3 e5;refine⟨[7#(Fl.map fV), 7#(Fl.map fV++[.tup false [.str "none", .tup false [6#0, 6#0, 6#0, 6#0]]]), 7#(Fl.map fV)],1#(bB s (aP L)),1#3#0#T,1#(.bl Fl.isEmpty),1#3#(0#T+1), ?_⟩;unfold iY;simp[e0,e1,e2,hb,e3,e4,bT,lF,e5,e6]
noncomputable abbrev uV (ns:2#Int):Val:= 7#(ns.map .int)
noncomputable def qp:S:= .ife (.cmp .Eq (.bin .Mod 4#5 (.ci 3)) (.ci 0)) [.set (.tup [4#3, 4#4]) (.call 70 [4#3, 4#4, .bin .Add (.ci 1) (.call 16 [4#0, 4#1, .ci 3])])] []
noncomputable def mJ:S:= .ife (.cmp .Eq (.bin .Mod (.bin .FloorDiv 4#5 (.ci 3)) (.ci 2)) (.ci 0)) [.set 4#4 (.call 77 [4#3, 4#4])] []
def mm (ss:2#S):2#S:= .set 4#3 (.call 41 [4#0, 4#1, .ci 2, .ci 3, .ci 4]):: .set 4#4 (.call 44 [4#0, 4#1, 4#3, .call 43 [4#0, 4#1, .bin .Mod 8#20 (.ci 11)]]):: .set 4#5 8#20::qp::ss
def wZ:2#S:=mm (mJ::iY)
def EY (ns:2#Int) (i:Nat) (env:Env) (st:aa):Prop:=(∃z rest,st= .lst [6#z]::rest/\0<=z/\z<=1000*i)/\∃x2 x3 x4 x5 x6 x7 x8 x9,env=[1#(uV ns),1#3#0,x2,x3,x4,x5,x6,x7,x8,x9]
theorem IU {P:Pg} (G:RB.FG P) (h16:P.fn 16=1#rh) (h70:P.fn 70=1#qC) (n:Nat) (ns:2#Int) (z:Int) (s:aa) (z0:0<=z) (z1:z<2^50) (x2 x3 x4 x5 x6 x7 x8 x9:5#Val) (ss:2#S):
  ∃(sh:Sh) (L:8#8) (v:Val) (z' m:Int) (S:aa),sh.Ok/\bp sh L/\res (.lst [6#z']::S) v= 7#(L.map ao)/\z<=z'/\z'<=z+1000/\
   aE P (call P (n+8)) (mm ss) [1#(uV ns),1#3#0,x2,x3,x4,x5,x6,x7,x8,x9] (.lst [6#z]::s)
    =aE P (call P (n+8)) ss [1#(uV ns),1#3#0,x2,1#(aF sh),1#v,1#6#m,x6,x7,x8,x9] (.lst [6#z']::S):=by
 let⟨sh,y1,o1,_,hsm,⟨_,ht,hh⟩,a1,a2,e1⟩:=RB.ub G (n+1) ns s z 2 3 4 8#0 8#0 8#0 8#0 8#0 z0 8#0;have e2:=RB.cy G (n+7) ns y1 s 8#0 8#0;have hr:=RB.dH ns (y1+1);obtain⟨c,hc⟩:∃c:Nat,(c:Int)=RB.bJ ns (y1+1) % 11:=⟨(RB.bJ ns (y1+1) % 11).toNat,by lia⟩;let⟨Bs,y3,l3,⟨d3,_⟩,k3,a5,a6,e3⟩:=RB.Bh G (n+5) ns (y1+1) s c 8#0 8#0 8#0;rw[hc] at e3;let⟨L,y5,l5,u5,a9,a10,e5⟩:=RB.xC G (n+3) ns (s++[7#(Bs.map aw)]) sh o1 0#s Bs 8#5 8#0 d3 y3 8#0 8#0;obtain⟨S,hS⟩:∃S,S=s++[7#(Bs.map aw)]++[7#(L.map ao)]:=⟨_,rfl⟩;rw[←hS] at e5;have e6:=RB.cy G (n+7) ns y5 S 8#0 8#0
 have hv:∀z',res (.lst [6#z']::S) 3#(0#s+1+1)= 7#(L.map ao):=λz'=>by simp[hS]
 simp at e1 e3 e5
 by_cases hg:RB.bJ ns (y5+1) % 3=0
 ·let⟨f,f0,f1,e7⟩:=RB.AG G h16 (n+6) ns (y5+1) S 3 8#0 8#0 8#0 8#0;have bf:big (1+f):=RB.zS 8#0
  have e8:=As G.toFShip h70 (n+1) sh o1 (λb hb y hy=>by
   let⟨⟨_,p1,p2⟩,_,p3,p4⟩:=(hsm b hb).2 y hy;let⟨⟨_,⟨q1,_,q2⟩,_⟩,_,⟨q3,_,q4⟩,_⟩:=(o1.2.2.2.1 b hb).2.2 y hy
   exact⟨⟨q1,by lia,q2,by lia⟩,q3,by lia,q4,by lia⟩) ht 8#0 (1+f) 8#0 L (by have:=l5.1;lia) (λp hp=> .inr (.inr ⟨(k3 _ (u5.subset (aaC.mpr ⟨p,hp,rfl⟩))).1.2,bf⟩)) 3#(0#s+1+1) (.lst [6#(y5+1+1)]::S) (hv _)
  refine⟨gq (1+f) sh,gL (1+f) L, 7#((gL (1+f) L).map ao),y5+1+1,RB.bJ ns (y5+1),S,zw 8#0 o1,Jm l5,by simp,by lia,by lia, ?_⟩;unfold mm qp;simp[e1,e2,e3,e5,e6,hg,e7,e8]
 ·refine⟨sh,L, 3#(0#s+1+1),y5+1,RB.bJ ns (y5+1),S,o1,l5,hv _,by lia,by lia, ?_⟩;have hb:(RB.bJ ns (y5+1) % 3==0)=false:=acK hg;unfold mm qp;simp[e1,e2,e3,e5,e6,hb]
theorem Ik {P:Pg} (G:RB.FG P) (F:FR8 P) (hw:64<=P.w) (h16:P.fn 16=1#rh) (h70:P.fn 70=1#qC) (n:Nat) (ns:2#Int) (i:Nat) (hi:i<100) (v:Val) (env:Env) (st:aa) (h:EY ns i env st):∃env' st',aE P (call P (n+8)) wZ (env.set 2 1#v) st= .next env' st'/\EY ns (i+1) env' st':=by
 let⟨⟨z,s,rfl,z0,z1⟩,x2,x3,x4,x5,x6,x7,x8,x9,rfl⟩:=h;let⟨sh,L,v4,z',m,S,o1,l1,hv,a1,a2,e1⟩:=IU G h16 h70 n ns z s z0 8#0 1#v x3 x4 x5 x6 x7 x8 x9 (mJ::iY)
 have hd:∃(M:8#8) (u:Val) (g:aa),bp sh M/\res (.lst [6#z']::S++g) u= 7#(M.map ao)/\aE P (call P (n+8)) (mJ::iY) [1#(uV ns),1#3#0,1#v,1#(aF sh),1#v4,1#6#m,x6,x7,x8,x9] (.lst [6#z']::S)=aE P (call P (n+8)) iY [1#(uV ns),1#3#0,1#v,1#(aF sh),1#u,1#6#m,x6,x7,x8,x9] (.lst [6#z']::S++g):=by
  unfold mJ
  by_cases hg:m/3 % 2=0
  ·let⟨M,u,g,e2,l2,r2⟩:=wA F hw n sh o1 L l1 v4 (.lst [6#z']::S) hv;refine⟨M,u,g,l2,r2, ?_⟩;simp[hg,e2]
  ·have hb:(m/3 % 2==0)=false:=acK hg;refine⟨L,v4,[],l1,by simpa using hv, ?_⟩;simp[hb]
 let⟨M,u,g,l2,r2,e2⟩:=hd;let⟨g2,y6,y7,y8,y9,e3⟩:=AZ F n sh o1 M l2 u (.lst [6#z']::S++g) r2 1#(uV ns) 1#3#0 1#v 1#6#m x6 x7 x8 x9;exact⟨_,_,e1.trans (e2.trans e3),⟨z',S++g++g2,by simp,by lia,by lia⟩,_,_,_,_,_,_,_,_,rfl⟩
theorem C8 {P:Pg} (G:RB.FG P) (F:FR8 P) (hw:64<=P.w) (h16:P.fn 16=1#rh) (h70:P.fn 70=1#qC) (h78:P.fn 78=1#Hn) (n:Nat) (ns:2#Int) (hn:0#ns<=63):call P (n+9) 78 [uV ns] []= .ok (.bl true) []:=by
 rw[ak h78 _ _ _ rfl];unfold Hn
 have hl:(0#(cut (ns.map Val.int) none 1#60):Int)/20<=3:=by
  simp[cut,bu];lia
 have hb:(1+(0#(cut (ns.map Val.int) none 1#60):Int)/20)<16777216:=by lia
 have hb2:0<=(1+(0#(cut (ns.map Val.int) none 1#60):Int)/20):=by lia
 simp[new,hb,hb2]
 let⟨env',st',e,hI⟩:=rP (t:= 4#2) (body:=cI P (call P (n+8)) wZ) (chk:=[]) (EY ns) (aW 0 (1+(0#(cut (ns.map Val.int) none 1#60):Int)/20).toNat) [1#(uV ns),1#3#0,none,none,none,none,none,none,none,none]
  [.lst [6#0], 7#(cut (ns.map .int) none 1#60)] ⟨⟨0,_,rfl,by lia,by lia⟩,_,_,_,_,_,_,_,_,rfl⟩ (λ_ _ st _=>bx st) λi v env st e hI=>by
   let⟨rfl,li⟩:=tF _ _ _ _ e;let⟨env2,st2,e2,h2⟩:=Ik G F hw h16 h70 n ns i 8#0 6#(0+i) env st hI;refine⟨env.set 2 1#6#(0+i), ?_,env2,st2, .inl e2,h2⟩;let⟨_,x2,x3,x4,x5,x6,x7,x8,x9,rfl⟩:=hI;simp
 unfold wZ mm qp mJ iY at e;rw[e];simp
end PI
namespace K08
open PySem PI L2
noncomputable def tp (i:Nat):Stmt:=PySem.Challenge.pw_stowhold_k08_faults.main.body.getD i (.Pass ⟨0,0,0,0⟩)
def mt (i j:Nat):Stmt:=match tp i with
 | .ClassDef _ _ _ b _ _ _ _ _ _ _=>b.getD j (.Pass ⟨0,0,0,0⟩)
 |s=>s
theorem lc {Q:2#Value->Prop} {n:Nat} (h:∀a us,0#us=n->Q (a::us)) (us:2#Value) (e:0#us=n+1):Q us:=by
 cases us with
 |nil=>cases e
 |cons a us=>exact h a us (Nat.succ.inj e)
theorem l0 {Q:2#Value->Prop} (h:Q []) (us:2#Value) (e:0#us=0):Q us:=by
 cases us with
 |nil=>exact h
 |cons a us=>cases e
noncomputable def dt:Dt:=⟨[(("StowError":Str),(Gv.err 0:Gv)),(("NoShip":Str),(Gv.err 1:Gv)),(("OutOfShip":Str),(Gv.err 2:Gv)),(("NoLoad":Str),(Gv.err 3:Gv)),(("MOST_CELLS":Str),(Gv.val 6#9:Gv)),(("Ship":Str),(Gv.cls 9 true:Gv)),(("kept_bay":Str),(Gv.fn 4:Gv)),(("kept_stack":Str),(Gv.fn 5:Gv)),(("kept_part":Str),(Gv.fn 6:Gv)),(("checked_part":Str),(Gv.fn 7:Gv)),(("rising_below":Str),(Gv.fn 8:Gv)),(("parts_of":Str),(Gv.fn 9:Gv)),(("cells_of":Str),(Gv.fn 10:Gv)),(("cells_of_part":Str),(Gv.fn 11:Gv)),(("part_at":Str),(Gv.fn 12:Gv)),(("stack_at":Str),(Gv.fn 13:Gv)),(("has_part":Str),(Gv.fn 14:Gv)),(("has_cell":Str),(Gv.fn 31:Gv)),(("cell_order":Str),(Gv.fn 32:Gv)),(("Load":Str),(Gv.cls 10 true:Gv)),(("pair_order":Str),(Gv.fn 34:Gv)),(("check_load":Str),(Gv.fn 35:Gv)),(("stands_on_something":Str),(Gv.fn 36:Gv)),(("box_at":Str),(Gv.fn 37:Gv)),(("Rule":Str),(Gv.cls 11 false:Gv)),(("Strength":Str),(Gv.cls 12 false:Gv)),(("Height":Str),(Gv.cls 13 false:Gv)),(("Cold":Str),(Gv.cls 14 false:Gv)),(("Apart":Str),(Gv.cls 15 false:Gv)),(("Lash":Str),(Gv.cls 16 false:Gv)),(("all_rules":Str),(Gv.fn 73:Gv)),(("boxes_up_to":Str),(Gv.fn 65:Gv)),(("are_foes":Str),(Gv.fn 66:Gv)),(("near":Str),(Gv.fn 67:Gv)),(("cells_near":Str),(Gv.fn 68:Gv)),(("faults_of":Str),(Gv.fn 74:Gv)),(("sound":Str),(Gv.fn 75:Gv)),(("_law_next":Str),(Gv.fn 15:Gv)),(("_law_great":Str),(Gv.fn 16:Gv)),(("_law_names":Str),(Gv.fn 40:Gv)),(("_law_part":Str),(Gv.fn 17:Gv)),(("_law_ship":Str),(Gv.fn 41:Gv)),(("_law_box":Str),(Gv.fn 42:Gv)),(("_law_boxes":Str),(Gv.fn 43:Gv)),(("_law_placed":Str),(Gv.fn 44:Gv)),(("_law_same":Str),(Gv.fn 18:Gv)),(("_law_ordered":Str),(Gv.fn 45:Gv)),(("_law_broken":Str),(Gv.fn 69:Gv)),(("_law_grown":Str),(Gv.fn 70:Gv)),(("_law_faults":Str),(Gv.fn 76:Gv)),(("_law_without":Str),(Gv.fn 77:Gv)),(("law":Str),(Gv.fn 78:Gv))],["len","abs","int","tuple","list","all","sum","any","isinstance","bool","str","dict","range","enumerate","zip","sorted","ValueError"],["bays","foes","trim","heel","ship","placed","box_by_cell","cell_by_name"],[],["box_by_cell","cell_by_name"]⟩
def d3:Df:=⟨3,some "Ship","__init__","Ship.__init__",mt 7 0,["self","bays","foes","trim","heel"]⟩
def d4:Df:=⟨4,none,"kept_bay","kept_bay",tp 8,["bay"]⟩
def d5:Df:=⟨5,none,"kept_stack","kept_stack",tp 9,["stack"]⟩
def d6:Df:=⟨6,none,"kept_part","kept_part",tp 10,["part"]⟩
def d7:Df:=⟨7,none,"checked_part","checked_part",tp 11,["cells","strength","height","plugs","lash"]⟩
def d8:Df:=⟨8,none,"rising_below","rising_below",tp 12,["numbers","end"]⟩
def d9:Df:=⟨9,none,"parts_of","parts_of",tp 13,["ship"]⟩
def d10:Df:=⟨10,none,"cells_of","cells_of",tp 14,["ship"]⟩
def d11:Df:=⟨11,none,"cells_of_part","cells_of_part",tp 15,["ship","part"]⟩
def d12:Df:=⟨12,none,"part_at","part_at",tp 16,["ship","part"]⟩
def d13:Df:=⟨13,none,"stack_at","stack_at",tp 17,["ship","part"]⟩
def d14:Df:=⟨14,none,"has_part","has_part",tp 18,["ship","part"]⟩
def d31:Df:=⟨31,none,"has_cell","has_cell",tp 19,["ship","cell"]⟩
def d32:Df:=⟨32,none,"cell_order","cell_order",tp 20,["cell"]⟩
def d33:Df:=⟨33,some "Load","__init__","Load.__init__",mt 22 0,["self","ship","placed"]⟩
def d34:Df:=⟨34,none,"pair_order","pair_order",tp 23,["pair"]⟩
def d35:Df:=⟨35,none,"check_load","check_load",tp 24,["load"]⟩
def d36:Df:=⟨36,none,"stands_on_something","stands_on_something",tp 25,["load","cell"]⟩
def d37:Df:=⟨37,none,"box_at","box_at",tp 26,["load","cell"]⟩
def d52:Df:=⟨52,some "Rule","word","Rule.word",mt 28 0,["self"]⟩
def d53:Df:=⟨53,some "Rule","broken","Rule.broken",mt 28 1,["self","load","cell"]⟩
def d54:Df:=⟨54,some "Rule","breaks","Rule.breaks",mt 28 2,["self","load","cell"]⟩
def d55:Df:=⟨55,some "Strength","word","Strength.word",mt 29 0,["self"]⟩
def d56:Df:=⟨56,some "Strength","breaks","Strength.breaks",mt 29 1,["self","load","cell"]⟩
def d57:Df:=⟨57,some "Height","word","Height.word",mt 30 0,["self"]⟩
def d58:Df:=⟨58,some "Height","breaks","Height.breaks",mt 30 1,["self","load","cell"]⟩
def d59:Df:=⟨59,some "Cold","word","Cold.word",mt 31 0,["self"]⟩
def d60:Df:=⟨60,some "Cold","breaks","Cold.breaks",mt 31 1,["self","load","cell"]⟩
def d61:Df:=⟨61,some "Apart","word","Apart.word",mt 32 0,["self"]⟩
def d62:Df:=⟨62,some "Apart","breaks","Apart.breaks",mt 32 1,["self","load","cell"]⟩
def d63:Df:=⟨63,some "Lash","word","Lash.word",mt 33 0,["self"]⟩
def d64:Df:=⟨64,some "Lash","breaks","Lash.breaks",mt 33 1,["self","load","cell"]⟩
def d73:Df:=⟨73,none,"all_rules","all_rules",tp 34,[]⟩
def d65:Df:=⟨65,none,"boxes_up_to","boxes_up_to",tp 35,["load","cell"]⟩
def d66:Df:=⟨66,none,"are_foes","are_foes",tp 36,["ship","one_sort","other_sort"]⟩
def d67:Df:=⟨67,none,"near","near",tp 37,["one","other"]⟩
def d68:Df:=⟨68,none,"cells_near","cells_near",tp 38,["cell"]⟩
def d74:Df:=⟨74,none,"faults_of","faults_of",tp 39,["load"]⟩
def d75:Df:=⟨75,none,"sound","sound",tp 40,["load"]⟩
def d15:Df:=⟨15,none,"_law_next","_law_next",tp 42,["_law_script","_law_at"]⟩
def d16:Df:=⟨16,none,"_law_great","_law_great",tp 43,["_law_script","_law_at","_law_room"]⟩
def d40:Df:=⟨40,none,"_law_names","_law_names",tp 44,["_law_script","_law_at","_law_many"]⟩
def d17:Df:=⟨17,none,"_law_part","_law_part",tp 45,["_law_script","_law_at","_law_most"]⟩
def d41:Df:=⟨41,none,"_law_ship","_law_ship",tp 46,["_law_script","_law_at","_law_bays","_law_stacks","_law_cells"]⟩
def d42:Df:=⟨42,none,"_law_box","_law_box",tp 47,["_law_script","_law_at","_law_name"]⟩
def d43:Df:=⟨43,none,"_law_boxes","_law_boxes",tp 48,["_law_script","_law_at","_law_many"]⟩
def d44:Df:=⟨44,none,"_law_placed","_law_placed",tp 49,["_law_script","_law_at","_law_ship_here","_law_boxes_here"]⟩
def d18:Df:=⟨18,none,"_law_same","_law_same",tp 50,["_law_found","_law_due"]⟩
def d45:Df:=⟨45,none,"_law_ordered","_law_ordered",tp 51,["_law_ship_here","_law_placed_here"]⟩
def d69:Df:=⟨69,none,"_law_broken","_law_broken",tp 52,["_law_ship_here","_law_placed_here","_law_word","_law_cell"]⟩
def d70:Df:=⟨70,none,"_law_grown","_law_grown",tp 53,["_law_ship_here","_law_placed_here","_law_factor"]⟩
def d76:Df:=⟨76,none,"_law_faults","_law_faults",tp 54,["_law_ship_here","_law_placed_here"]⟩
def d77:Df:=⟨77,none,"_law_without","_law_without",tp 55,["_law_ship_here","_law_placed_here"]⟩
def d78:Df:=⟨78,none,"law","law",tp 56,["_law_script"]⟩
def ds:2#Df:=[d3,d4,d5,d6,d7,d8,d9,d10,d11,d12,d13,d14,d31,d32,d33,d34,d35,d36,d37,d52,d53,d54,d55,d56,d57,d58,d59,d60,d61,d62,d63,d64,d73,d65,d66,d67,d68,d74,d75,d15,d16,d40,d17,d41,d42,d43,d44,d18,d45,d69,d70,d76,d77,d78]
set_option maxHeartbeats 0 in
theorem LP:∀d∈ds,DS dt d:=by
 repeat' first|exact kJ|refine lC ⟨λ_ _ _ _ _ _=> ?_,by decide+kernel,by decide+kernel⟩ ?_
 all_goals repeat' first|exact l0 rfl|refine lc λ_=> ?_
noncomputable def cls:2#(Nat×Cl):=[(0,⟨[],none,[],[0,1000],true,false⟩),(1,⟨[],none,[],[1,0,1000],true,false⟩),(2,⟨[],none,[],[2,0,1000],true,false⟩),(3,⟨[],none,[],[3,0,1000],true,false⟩),(9,⟨["bays","foes","trim","heel"],1#3,[],[9],false,false⟩),(10,⟨["ship","placed","box_by_cell","cell_by_name"],1#33,[],[10],false,false⟩),(11,⟨[],none,[("word",52),("broken",53),("breaks",54)],[11],false,false⟩),(12,⟨[],none,[("word",55),("breaks",56),("broken",53)],[12,11],false,false⟩),(13,⟨[],none,[("word",57),("breaks",58),("broken",53)],[13,11],false,false⟩),(14,⟨[],none,[("word",59),("breaks",60),("broken",53)],[14,11],false,false⟩),(15,⟨[],none,[("word",61),("breaks",62),("broken",53)],[15,11],false,false⟩),(16,⟨[],none,[("word",63),("breaks",64),("broken",53)],[16,11],false,false⟩)]
noncomputable def cn:2#(Nat×Str):=[(0,"StowError"),(1,"NoShip"),(2,"OutOfShip"),(3,"NoLoad"),(9,"Ship"),(10,"Load"),(11,"Rule"),(12,"Strength"),(13,"Height"),(14,"Cold"),(15,"Apart"),(16,"Lash")]
def xc (c:Nat):Bool:=((cls.lookup c).map (·.exc)).getD false
noncomputable abbrev pg:Pg:=fX dt ds cls 100
end K08
namespace K08
open PySem PI
set_option maxHeartbeats 0 in
theorem fg:PI.RB.FG pg:=by repeat' first|with_unfolding_all rfl|decide+kernel|constructor
set_option maxHeartbeats 0 in
theorem fw:PI.FR8 pg:=by repeat' first|with_unfolding_all rfl|decide+kernel|constructor
end K08
section
set_option maxHeartbeats 0
namespace Hd
open PySem PySem.W PySem.Calls PyProof.Rows
noncomputable def fN {α:Type} (n:Nat) (k:Nat->α):α:= @Nat.rec (λ_=>α) (k 0) (λm _=>k (Nat.succ m)) n
theorem Cr {α:Type} (n:Nat) (k:Nat->α):fN n k=k n:=by cases n<;>rfl
noncomputable def ev:2#Obj->2#Obj
 |a::_::r=>a::ev r
 |l=>l
noncomputable def od:2#Obj->2#Obj
 |_::b::r=>b::od r
 |_=>[]
noncomputable def Gi:Nat->2#Obj->BT
 |0,_=> .nil
 |_+1,[]=> .nil
 |n+1,x::r=> .node x (Gi n (ev r)) (Gi n (od r))
noncomputable def xa (tb:String->5#Builtin) (p:Program) (w:World) (n₀:Nat) (ann:5#Value) (os:OsState):Nat->SharedT->Thread->5#SharedT:=
 λN=> @Nat.rec (λ_=>SharedT->Thread->5#SharedT) (λ_ _=>none) (λ_ ih s t=>match through t with
  |true=>1#s
  |false=>match stepOk n₀ ann t with
   |false=>none
   |true=>match stepT (denote tb) p w s t with
    |none=>none
    |some (⟨T,n,life,gens,drawn,toks,_⟩,t')=>fN n λn=>fN toks λtoks=>match gens,drawn with
     |⟨l⟩,⟨a,b,c,d⟩=>ih ⟨T,n,life,⟨l⟩,⟨a,b,c,d⟩,toks,os⟩ t') N
theorem uO {tb:String->5#Builtin} {p:Program} {w:World} {n₀:Nat} {ann:5#Value} {os:OsState}:∀{N:Nat} {s r:SharedT} {t:Thread},s.os=os->xa tb p w n₀ ann os N s t=1#r->topRun tb p w n₀ ann N s.abs t=1#r.abs/\r.os=os
 |0,s,r,t,_,h=>by cases h
 |N+1,s,r,t,ho,h=>by
  unfold topRun;unfold xa at h;dsimp only at h
  cases ht:through t with
  |true=>
   rw[ht] at h;cases h;exact⟨rfl,ho⟩
  |false=>
   rw[ht] at h
   cases hk:stepOk n₀ ann t with
   |false=>rw[hk] at h;cases h
   |true=>
    rw[hk] at h;dsimp only at h⊢
    cases hs:stepT (denote tb) p w s t with
    |none=>rw[hs] at h;cases h
    |some x=>
     let⟨⟨T,n,life,gens,drawn,toks,os'⟩,t'⟩:=x;rw[hs] at h;have e:=stepT_spec hs;rw[e];dsimp only at h⊢
     have eo:os'=os:=by
      have z:=step_os_same e (by
       unfold stepOk at hk
       revert hk
       cases t.cur<;>simp)
      exact(show os'=s.os from z).trans ho
     subst eo;rw[Cr,Cr] at h;cases gens;cases drawn;exact uO rfl h
theorem DN {p q:Program} {loose:2#Str} {Xt:Shared->Bool} {α:Type} {Yf:Shared->α} {Ya:World->α} {N:Nat} {g0:Bool} {H₀:Params->Heap} {T0:Params->BT} {n0:Nat} {life0:Life} {k₀:Nat} {m₀:Nat} {ann:5#Value} {M:Nat}
  (open_:∀w:World,(fencedOpening treeTable p w N).map (λs=>(s.heap,s.gens,s.drawn,s.toks))=1#(H₀ w.params,Array.mk [],d₀,k₀))
  (abs0:∀P,absHeap (T0 P) n0 life0=H₀ P)
  (size:∀w:World,((H₀ w.params).isNs mainGlobals&&(Array.mk []:Array GenState).size==0,(H₀ w.params).objs.size,(H₀ w.params).nsMap mainGlobals "__annotations__")=(true,m₀,ann))
  (le:Nat.ble M N=true)
  (run:∀(w:World) (os:OsState),(xa treeTable p w m₀ ann os M ⟨T0 w.params,n0,life0,Array.mk [],d₀,k₀,os⟩ (topStub p)).map (λr=>((staticsOk (importedModules p.main.body) (H₀ w.params) r.abs.heap&&namesBound p r.abs.heap&&gensDone r.abs&&laidKept (H₀ w.params) r.abs.heap),
    openSeen q loose (importedModules p.main.body) Xt g0 r.abs,Yf r.abs))=1#(true,openGood q loose,Ya w)):LeftO p q loose Xt Yf Ya N g0:=λw=>by
 let⟨⟨h,gs,d,k,os⟩,e,e'⟩:=aab.mp (open_ w)
 obtain⟨rfl,rfl,rfl,rfl⟩:h=H₀ w.params/\gs=Array.mk []/\d=d₀/\k=k₀:=by simpa using e'
 obtain⟨z1,z2,z3⟩:_/\_/\_:=by simpa only[Prod.mk.injEq] using size w
 let⟨rT,hr,hl⟩:=aab.mp (run w os)
 obtain⟨l1,l2,l3⟩:_/\_/\_:=by simpa only[Prod.mk.injEq] using hl
 have hr':=(uO (os:=os) (s:=⟨T0 w.params,n0,life0,Array.mk [],d,k,os⟩) rfl hr).1
 have ea:SharedT.abs ⟨T0 w.params,n0,life0,Array.mk [],d,k,os⟩=⟨H₀ w.params,Array.mk [],d,k,os⟩:=by
  unfold SharedT.abs;rw[abs0]
 rw[ea] at hr';have r:=topRun_mono (N-M) _ _ _ _ hr';rw[show M+(N-M)=N by have:=Nat.le_of_ble_eq_true le;lia] at r
 have t:topFrom treeTable p w N ⟨H₀ w.params,Array.mk [],d,k,os⟩=1#rT.abs:=by
  unfold topFrom;dsimp only;rw[z1,z2,z3,r]
  show (match staticsOk (importedModules p.main.body) (H₀ w.params) rT.abs.heap&&namesBound p rT.abs.heap&&gensDone rT.abs&&laidKept (H₀ w.params) rT.abs.heap with|true=>_|false=>_)=_
  rw[l1]
 unfold openEnds;rw[e];show (topFrom treeTable p w N _).map _=_;rw[t];exact congrArg some (Prod.ext l2 l3)
theorem Nf {α β γ δ:Type} {x:5#α} {f:α->β} {g:α->γ} {k:α->δ} {a:β} {b:γ} {c:δ} (e1:x.map f=1#a) (e2:x.map g=1#b) (e3:x.map k=1#c):x.map (λr=>(f r,g r,k r))=1#(a,b,c):=by
 cases x with
 |none=>cases e1
 |some r=>cases e1;cases e2;cases e3;rfl
end Hd
namespace K08H
open PySem PySem.W PyProof.Rows
noncomputable abbrev pw:Program:=PySem.Challenge.pw_stowhold_k08_faults
noncomputable abbrev Pk {T:Type} (y:T):Type:=∀x:T,x=y->T
noncomputable def hp (i n:Nat):2#Stmt:=(pw.main.body.drop i).take n
noncomputable def c0:2#Stmt:=by refine(?f:Pk (hp 0 9)) [_,_,_,_,_,_,_,_,_] rfl;exact λx _=>x
noncomputable def c1:2#Stmt:=by refine(?f:Pk (hp 9 4)) [_,_,_,_] rfl;exact λx _=>x
noncomputable def c2:2#Stmt:=by refine(?f:Pk (hp 13 4)) [_,_,_,_] rfl;exact λx _=>x
noncomputable def c3:2#Stmt:=by refine(?f:Pk (hp 17 4)) [_,_,_,_] rfl;exact λx _=>x
noncomputable def c4:2#Stmt:=by refine(?f:Pk (hp 21 4)) [_,_,_,_] rfl;exact λx _=>x
noncomputable def c5:2#Stmt:=by refine(?f:Pk (hp 25 5)) [_,_,_,_,_] rfl;exact λx _=>x
noncomputable def c6:2#Stmt:=by refine(?f:Pk (hp 30 3)) [_,_,_] rfl;exact λx _=>x
noncomputable def c7:2#Stmt:=by refine(?f:Pk (hp 33 4)) [_,_,_,_] rfl;exact λx _=>x
noncomputable def c8:2#Stmt:=by refine(?f:Pk (hp 37 3)) [_,_,_] rfl;exact λx _=>x
noncomputable def c9:2#Stmt:=by refine(?f:Pk (hp 40 4)) [_,_,_,_] rfl;exact λx _=>x
noncomputable def c10:2#Stmt:=by refine(?f:Pk (hp 44 2)) [_,_] rfl;exact λx _=>x
noncomputable def c11:2#Stmt:=by refine(?f:Pk (hp 46 1)) [_] rfl;exact λx _=>x
noncomputable def c12:2#Stmt:=by refine(?f:Pk (hp 47 3)) [_,_,_] rfl;exact λx _=>x
noncomputable def c13:2#Stmt:=by refine(?f:Pk (hp 50 2)) [_,_] rfl;exact λx _=>x
noncomputable def c14:2#Stmt:=by refine(?f:Pk (hp 52 1)) [_] rfl;exact λx _=>x
noncomputable def c15:2#Stmt:=by refine(?f:Pk (hp 53 1)) [_] rfl;exact λx _=>x
noncomputable def c16:2#Stmt:=by refine(?f:Pk (hp 54 2)) [_,_] rfl;exact λx _=>x
noncomputable def c17:2#Stmt:=by refine(?f:Pk (hp 56 1)) [_] rfl;exact λx _=>x
noncomputable def pv:Program:=by refine(?f:Pk pw) ⟨⟨c0++(c1++(c2++(c3++(c4++(c5++(c6++(c7++(c8++(c9++(c10++(c11++(c12++(c13++(c14++(c15++(c16++(c17))))))))))))))))),_,_,_,_⟩,_,_,_,_,_⟩ rfl;exact λx _=>x
theorem K8:pv=pv:=rfl
name_quick K08Hpv for K08H.pv by K08H.K8
noncomputable def _root_.PySem.W.Fast.tw9581266294933188553:Program:=PySem.W.Fast.K08Hpv
theorem _root_.PySem.W.Fast.te9581266294933188553:PySem.Challenge.pw_stowhold_k08_faults=PySem.W.Fast.tw9581266294933188553:=(show PySem.Challenge.pw_stowhold_k08_faults=pv from rfl).trans PySem.W.Fast.K08Hpv_eq
noncomputable def tp (i:Nat):Stmt:=pw.main.body.getD i (.Pass ⟨0,0,0,0⟩)
noncomputable def vw:Program:={pw with main:={pw.main with body:=[tp 1,tp 2,tp 3,tp 4,tp 6,tp 7,tp 8,tp 9,tp 10,tp 11,tp 12,tp 13,tp 14,tp 15,tp 16,tp 17,tp 18,tp 19,tp 20,tp 22,tp 23,tp 24,tp 25,tp 26,tp 28,tp 29,tp 30,tp 31,tp 32,tp 33,tp 34,tp 35,tp 36,tp 37,tp 38,tp 39,tp 40,tp 42,tp 43,tp 44,tp 45,tp 46,tp 47,tp 48,tp 49,tp 50,tp 51,tp 52,tp 53,tp 54,tp 55,tp 56]}}
local macro_rules
 |`(tactic|o_head $H)=>do
  let hw:=Lean.mkIdent `hw
  let hc:=Lean.mkIdent `hc
  `(tactic|refine holds_open (q:=K08H.vw) (loose:=[]) (Xt:=λs=>xlAt K08H.vw [] s&&recOk (RowW.records _) s) (XP:=XL K08H.vw []) (Yf:=Hook.obs $H) (Ya:=Hook.val $H) (YP:=Hook.says $H) (N:=8398) (And.left ?$hc) (Hook.of $H) (Hook.keeps $H) (λs e=>xl_of s (Bool.and_eq_true_iff.mp e).1) XL.keeps (by rfl) (by rfl) (by rfl) (λs e=>recFacts_of (Bool.and_eq_true_iff.mp e).2) (by rfl) (by first|assumption|decide+kernel) (by decide+kernel) ⟨rfl,rfl,rfl,rfl,rfl,by decide+kernel⟩ ?$hw (And.right ?$hc))
open_top fB for PySem.Challenge.rw_stowhold_k08_faults
noncomputable abbrev HL:=2#(Addr×Obj)
noncomputable def fq (s:Stmt) (x q:Str) (g:Addr) (c:2#(Str×Addr)) (d k dc pm:Value) (an:5#Addr) (cd ct:Value) (b:Addr):Data:= .func ⟨x,q,L2.dJ s, .stmts (L2.bj s),L2.aA s,g,c,d,k,dc,pm,an,cd,ct,b⟩
noncomputable def hq (P:9#9) (i n:Nat):HL:=((K08H.fB.heap_39 P).drop i).take n
noncomputable def b0 (P:9#9):HL:=by refine(?f:Pk (hq P 0 2)) [_,_] rfl;exact λx _=>x
noncomputable def b1 (P:9#9):HL:=by refine(?f:Pk (hq P 2 2)) [_,_] rfl;exact λx _=>x
noncomputable def b2 (P:9#9):HL:=by refine(?f:Pk (hq P 4 2)) [_,_] rfl;exact λx _=>x
noncomputable def b3 (P:9#9):HL:=by refine(?f:Pk (hq P 6 2)) [_,_] rfl;exact λx _=>x
noncomputable def b4 (P:9#9):HL:=by refine(?f:Pk (hq P 8 8)) [_,_,_,_,_,_,_,_] rfl;exact λx _=>x
noncomputable def b5 (P:9#9):HL:=by refine(?f:Pk (hq P 16 5)) [_,_,_,_,_] rfl;exact λx _=>x
def b6 (P:9#9):HL:=by refine(?f:Pk (hq P 21 1)) [(_,⟨_,_,fq (L2.inClass (tp 7) 0) ..,_⟩)] rfl;exact λx _=>x
noncomputable def b7 (P:9#9):HL:=by refine(?f:Pk (hq P 22 7)) [_,_,_,_,_,_,_] rfl;exact λx _=>x
def b8 (P:9#9):HL:=by refine(?f:Pk (hq P 29 1)) [(_,⟨_,_,fq (tp 8) ..,_⟩)] rfl;exact λx _=>x
noncomputable def b9 (P:9#9):HL:=by refine(?f:Pk (hq P 30 4)) [_,_,_,_] rfl;exact λx _=>x
def b10 (P:9#9):HL:=by refine(?f:Pk (hq P 34 1)) [(_,⟨_,_,fq (tp 9) ..,_⟩)] rfl;exact λx _=>x
noncomputable def b11 (P:9#9):HL:=by refine(?f:Pk (hq P 35 4)) [_,_,_,_] rfl;exact λx _=>x
def b12 (P:9#9):HL:=by refine(?f:Pk (hq P 39 1)) [(_,⟨_,_,fq (tp 10) ..,_⟩)] rfl;exact λx _=>x
noncomputable def b13 (P:9#9):HL:=by refine(?f:Pk (hq P 40 4)) [_,_,_,_] rfl;exact λx _=>x
def b14 (P:9#9):HL:=by refine(?f:Pk (hq P 44 1)) [(_,⟨_,_,fq (tp 11) ..,_⟩)] rfl;exact λx _=>x
noncomputable def b15 (P:9#9):HL:=by refine(?f:Pk (hq P 45 4)) [_,_,_,_] rfl;exact λx _=>x
def b16 (P:9#9):HL:=by refine(?f:Pk (hq P 49 1)) [(_,⟨_,_,fq (tp 12) ..,_⟩)] rfl;exact λx _=>x
noncomputable def b17 (P:9#9):HL:=by refine(?f:Pk (hq P 50 2)) [_,_] rfl;exact λx _=>x
def b18 (P:9#9):HL:=by refine(?f:Pk (hq P 52 1)) [(_,⟨_,_,fq (tp 13) ..,_⟩)] rfl;exact λx _=>x
noncomputable def b19 (P:9#9):HL:=by refine(?f:Pk (hq P 53 4)) [_,_,_,_] rfl;exact λx _=>x
def b20 (P:9#9):HL:=by refine(?f:Pk (hq P 57 1)) [(_,⟨_,_,fq (tp 14) ..,_⟩)] rfl;exact λx _=>x
noncomputable def b21 (P:9#9):HL:=by refine(?f:Pk (hq P 58 2)) [_,_] rfl;exact λx _=>x
def b22 (P:9#9):HL:=by refine(?f:Pk (hq P 60 1)) [(_,⟨_,_,fq (tp 15) ..,_⟩)] rfl;exact λx _=>x
noncomputable def b23 (P:9#9):HL:=by refine(?f:Pk (hq P 61 4)) [_,_,_,_] rfl;exact λx _=>x
def b24 (P:9#9):HL:=by refine(?f:Pk (hq P 65 1)) [(_,⟨_,_,fq (tp 16) ..,_⟩)] rfl;exact λx _=>x
noncomputable def b25 (P:9#9):HL:=by refine(?f:Pk (hq P 66 4)) [_,_,_,_] rfl;exact λx _=>x
def b26 (P:9#9):HL:=by refine(?f:Pk (hq P 70 1)) [(_,⟨_,_,fq (tp 17) ..,_⟩)] rfl;exact λx _=>x
noncomputable def b27 (P:9#9):HL:=by refine(?f:Pk (hq P 71 4)) [_,_,_,_] rfl;exact λx _=>x
def b28 (P:9#9):HL:=by refine(?f:Pk (hq P 75 1)) [(_,⟨_,_,fq (tp 18) ..,_⟩)] rfl;exact λx _=>x
noncomputable def b29 (P:9#9):HL:=by refine(?f:Pk (hq P 76 4)) [_,_,_,_] rfl;exact λx _=>x
def b30 (P:9#9):HL:=by refine(?f:Pk (hq P 80 1)) [(_,⟨_,_,fq (tp 19) ..,_⟩)] rfl;exact λx _=>x
noncomputable def b31 (P:9#9):HL:=by refine(?f:Pk (hq P 81 4)) [_,_,_,_] rfl;exact λx _=>x
def b32 (P:9#9):HL:=by refine(?f:Pk (hq P 85 1)) [(_,⟨_,_,fq (tp 20) ..,_⟩)] rfl;exact λx _=>x
noncomputable def b33 (P:9#9):HL:=by refine(?f:Pk (hq P 86 2)) [_,_] rfl;exact λx _=>x
def b34 (P:9#9):HL:=by refine(?f:Pk (hq P 88 1)) [(_,⟨_,_,fq (L2.inClass (tp 22) 0) ..,_⟩)] rfl;exact λx _=>x
noncomputable def b35 (P:9#9):HL:=by refine(?f:Pk (hq P 89 8)) [_,_,_,_,_,_,_,_] rfl;exact λx _=>x
noncomputable def b36 (P:9#9):HL:=by refine(?f:Pk (hq P 97 1)) [_] rfl;exact λx _=>x
def b37 (P:9#9):HL:=by refine(?f:Pk (hq P 98 1)) [(_,⟨_,_,fq (tp 23) ..,_⟩)] rfl;exact λx _=>x
noncomputable def b38 (P:9#9):HL:=by refine(?f:Pk (hq P 99 4)) [_,_,_,_] rfl;exact λx _=>x
def b39 (P:9#9):HL:=by refine(?f:Pk (hq P 103 1)) [(_,⟨_,_,fq (tp 24) ..,_⟩)] rfl;exact λx _=>x
noncomputable def b40 (P:9#9):HL:=by refine(?f:Pk (hq P 104 4)) [_,_,_,_] rfl;exact λx _=>x
def b41 (P:9#9):HL:=by refine(?f:Pk (hq P 108 1)) [(_,⟨_,_,fq (tp 25) ..,_⟩)] rfl;exact λx _=>x
noncomputable def b42 (P:9#9):HL:=by refine(?f:Pk (hq P 109 4)) [_,_,_,_] rfl;exact λx _=>x
def b43 (P:9#9):HL:=by refine(?f:Pk (hq P 113 1)) [(_,⟨_,_,fq (tp 26) ..,_⟩)] rfl;exact λx _=>x
noncomputable def b44 (P:9#9):HL:=by refine(?f:Pk (hq P 114 4)) [_,_,_,_] rfl;exact λx _=>x
def b45 (P:9#9):HL:=by refine(?f:Pk (hq P 118 1)) [(_,⟨_,_,fq (L2.inClass (tp 28) 0) ..,_⟩)] rfl;exact λx _=>x
noncomputable def b46 (P:9#9):HL:=by refine(?f:Pk (hq P 119 4)) [_,_,_,_] rfl;exact λx _=>x
def b47 (P:9#9):HL:=by refine(?f:Pk (hq P 123 1)) [(_,⟨_,_,fq (L2.inClass (tp 28) 1) ..,_⟩)] rfl;exact λx _=>x
noncomputable def b48 (P:9#9):HL:=by refine(?f:Pk (hq P 124 4)) [_,_,_,_] rfl;exact λx _=>x
def b49 (P:9#9):HL:=by refine(?f:Pk (hq P 128 1)) [(_,⟨_,_,fq (L2.inClass (tp 28) 2) ..,_⟩)] rfl;exact λx _=>x
noncomputable def b50 (P:9#9):HL:=by refine(?f:Pk (hq P 129 8)) [_,_,_,_,_,_,_,_] rfl;exact λx _=>x
noncomputable def b51 (P:9#9):HL:=by refine(?f:Pk (hq P 137 2)) [_,_] rfl;exact λx _=>x
def b52 (P:9#9):HL:=by refine(?f:Pk (hq P 139 1)) [(_,⟨_,_,fq (L2.inClass (tp 29) 0) ..,_⟩)] rfl;exact λx _=>x
noncomputable def b53 (P:9#9):HL:=by refine(?f:Pk (hq P 140 2)) [_,_] rfl;exact λx _=>x
def b54 (P:9#9):HL:=by refine(?f:Pk (hq P 142 1)) [(_,⟨_,_,fq (L2.inClass (tp 29) 1) ..,_⟩)] rfl;exact λx _=>x
noncomputable def b55 (P:9#9):HL:=by refine(?f:Pk (hq P 143 8)) [_,_,_,_,_,_,_,_] rfl;exact λx _=>x
def b56 (P:9#9):HL:=by refine(?f:Pk (hq P 151 1)) [(_,⟨_,_,fq (L2.inClass (tp 30) 0) ..,_⟩)] rfl;exact λx _=>x
noncomputable def b57 (P:9#9):HL:=by refine(?f:Pk (hq P 152 2)) [_,_] rfl;exact λx _=>x
def b58 (P:9#9):HL:=by refine(?f:Pk (hq P 154 1)) [(_,⟨_,_,fq (L2.inClass (tp 30) 1) ..,_⟩)] rfl;exact λx _=>x
noncomputable def b59 (P:9#9):HL:=by refine(?f:Pk (hq P 155 8)) [_,_,_,_,_,_,_,_] rfl;exact λx _=>x
def b60 (P:9#9):HL:=by refine(?f:Pk (hq P 163 1)) [(_,⟨_,_,fq (L2.inClass (tp 31) 0) ..,_⟩)] rfl;exact λx _=>x
noncomputable def b61 (P:9#9):HL:=by refine(?f:Pk (hq P 164 4)) [_,_,_,_] rfl;exact λx _=>x
def b62 (P:9#9):HL:=by refine(?f:Pk (hq P 168 1)) [(_,⟨_,_,fq (L2.inClass (tp 31) 1) ..,_⟩)] rfl;exact λx _=>x
noncomputable def b63 (P:9#9):HL:=by refine(?f:Pk (hq P 169 8)) [_,_,_,_,_,_,_,_] rfl;exact λx _=>x
def b64 (P:9#9):HL:=by refine(?f:Pk (hq P 177 1)) [(_,⟨_,_,fq (L2.inClass (tp 32) 0) ..,_⟩)] rfl;exact λx _=>x
noncomputable def b65 (P:9#9):HL:=by refine(?f:Pk (hq P 178 2)) [_,_] rfl;exact λx _=>x
def b66 (P:9#9):HL:=by refine(?f:Pk (hq P 180 1)) [(_,⟨_,_,fq (L2.inClass (tp 32) 1) ..,_⟩)] rfl;exact λx _=>x
noncomputable def b67 (P:9#9):HL:=by refine(?f:Pk (hq P 181 8)) [_,_,_,_,_,_,_,_] rfl;exact λx _=>x
def b68 (P:9#9):HL:=by refine(?f:Pk (hq P 189 1)) [(_,⟨_,_,fq (L2.inClass (tp 33) 0) ..,_⟩)] rfl;exact λx _=>x
noncomputable def b69 (P:9#9):HL:=by refine(?f:Pk (hq P 190 2)) [_,_] rfl;exact λx _=>x
def b70 (P:9#9):HL:=by refine(?f:Pk (hq P 192 1)) [(_,⟨_,_,fq (L2.inClass (tp 33) 1) ..,_⟩)] rfl;exact λx _=>x
noncomputable def b71 (P:9#9):HL:=by refine(?f:Pk (hq P 193 7)) [_,_,_,_,_,_,_] rfl;exact λx _=>x
def b72 (P:9#9):HL:=by refine(?f:Pk (hq P 200 1)) [(_,⟨_,_,fq (tp 34) ..,_⟩)] rfl;exact λx _=>x
noncomputable def b73 (P:9#9):HL:=by refine(?f:Pk (hq P 201 2)) [_,_] rfl;exact λx _=>x
def b74 (P:9#9):HL:=by refine(?f:Pk (hq P 203 1)) [(_,⟨_,_,fq (tp 35) ..,_⟩)] rfl;exact λx _=>x
noncomputable def b75 (P:9#9):HL:=by refine(?f:Pk (hq P 204 4)) [_,_,_,_] rfl;exact λx _=>x
def b76 (P:9#9):HL:=by refine(?f:Pk (hq P 208 1)) [(_,⟨_,_,fq (tp 36) ..,_⟩)] rfl;exact λx _=>x
noncomputable def b77 (P:9#9):HL:=by refine(?f:Pk (hq P 209 4)) [_,_,_,_] rfl;exact λx _=>x
def b78 (P:9#9):HL:=by refine(?f:Pk (hq P 213 1)) [(_,⟨_,_,fq (tp 37) ..,_⟩)] rfl;exact λx _=>x
noncomputable def b79 (P:9#9):HL:=by refine(?f:Pk (hq P 214 2)) [_,_] rfl;exact λx _=>x
def b80 (P:9#9):HL:=by refine(?f:Pk (hq P 216 1)) [(_,⟨_,_,fq (tp 38) ..,_⟩)] rfl;exact λx _=>x
noncomputable def b81 (P:9#9):HL:=by refine(?f:Pk (hq P 217 2)) [_,_] rfl;exact λx _=>x
def b82 (P:9#9):HL:=by refine(?f:Pk (hq P 219 1)) [(_,⟨_,_,fq (tp 39) ..,_⟩)] rfl;exact λx _=>x
noncomputable def b83 (P:9#9):HL:=by refine(?f:Pk (hq P 220 4)) [_,_,_,_] rfl;exact λx _=>x
def b84 (P:9#9):HL:=by refine(?f:Pk (hq P 224 1)) [(_,⟨_,_,fq (tp 40) ..,_⟩)] rfl;exact λx _=>x
noncomputable def b85 (P:9#9):HL:=by refine(?f:Pk (hq P 225 4)) [_,_,_,_] rfl;exact λx _=>x
def b86 (P:9#9):HL:=by refine(?f:Pk (hq P 229 1)) [(_,⟨_,_,fq (tp 42) ..,_⟩)] rfl;exact λx _=>x
noncomputable def b87 (P:9#9):HL:=by refine(?f:Pk (hq P 230 4)) [_,_,_,_] rfl;exact λx _=>x
def b88 (P:9#9):HL:=by refine(?f:Pk (hq P 234 1)) [(_,⟨_,_,fq (tp 43) ..,_⟩)] rfl;exact λx _=>x
noncomputable def b89 (P:9#9):HL:=by refine(?f:Pk (hq P 235 4)) [_,_,_,_] rfl;exact λx _=>x
def b90 (P:9#9):HL:=by refine(?f:Pk (hq P 239 1)) [(_,⟨_,_,fq (tp 44) ..,_⟩)] rfl;exact λx _=>x
noncomputable def b91 (P:9#9):HL:=by refine(?f:Pk (hq P 240 2)) [_,_] rfl;exact λx _=>x
def b92 (P:9#9):HL:=by refine(?f:Pk (hq P 242 1)) [(_,⟨_,_,fq (tp 45) ..,_⟩)] rfl;exact λx _=>x
noncomputable def b93 (P:9#9):HL:=by refine(?f:Pk (hq P 243 4)) [_,_,_,_] rfl;exact λx _=>x
def b94 (P:9#9):HL:=by refine(?f:Pk (hq P 247 1)) [(_,⟨_,_,fq (tp 46) ..,_⟩)] rfl;exact λx _=>x
noncomputable def b95 (P:9#9):HL:=by refine(?f:Pk (hq P 248 4)) [_,_,_,_] rfl;exact λx _=>x
def b96 (P:9#9):HL:=by refine(?f:Pk (hq P 252 1)) [(_,⟨_,_,fq (tp 47) ..,_⟩)] rfl;exact λx _=>x
noncomputable def b97 (P:9#9):HL:=by refine(?f:Pk (hq P 253 2)) [_,_] rfl;exact λx _=>x
def b98 (P:9#9):HL:=by refine(?f:Pk (hq P 255 1)) [(_,⟨_,_,fq (tp 48) ..,_⟩)] rfl;exact λx _=>x
noncomputable def b99 (P:9#9):HL:=by refine(?f:Pk (hq P 256 4)) [_,_,_,_] rfl;exact λx _=>x
def K0 (P:9#9):HL:=by refine(?f:Pk (hq P 260 1)) [(_,⟨_,_,fq (tp 49) ..,_⟩)] rfl;exact λx _=>x
noncomputable def KR (P:9#9):HL:=by refine(?f:Pk (hq P 261 2)) [_,_] rfl;exact λx _=>x
def M3 (P:9#9):HL:=by refine(?f:Pk (hq P 263 1)) [(_,⟨_,_,fq (tp 50) ..,_⟩)] rfl;exact λx _=>x
noncomputable def LK (P:9#9):HL:=by refine(?f:Pk (hq P 264 2)) [_,_] rfl;exact λx _=>x
def K9 (P:9#9):HL:=by refine(?f:Pk (hq P 266 1)) [(_,⟨_,_,fq (tp 51) ..,_⟩)] rfl;exact λx _=>x
noncomputable def KS (P:9#9):HL:=by refine(?f:Pk (hq P 267 2)) [_,_] rfl;exact λx _=>x
def KU (P:9#9):HL:=by refine(?f:Pk (hq P 269 1)) [(_,⟨_,_,fq (tp 52) ..,_⟩)] rfl;exact λx _=>x
noncomputable def Mf (P:9#9):HL:=by refine(?f:Pk (hq P 270 2)) [_,_] rfl;exact λx _=>x
def MA (P:9#9):HL:=by refine(?f:Pk (hq P 272 1)) [(_,⟨_,_,fq (tp 53) ..,_⟩)] rfl;exact λx _=>x
noncomputable def MP (P:9#9):HL:=by refine(?f:Pk (hq P 273 4)) [_,_,_,_] rfl;exact λx _=>x
def Nd (P:9#9):HL:=by refine(?f:Pk (hq P 277 1)) [(_,⟨_,_,fq (tp 54) ..,_⟩)] rfl;exact λx _=>x
noncomputable def Lz (P:9#9):HL:=by refine(?f:Pk (hq P 278 2)) [_,_] rfl;exact λx _=>x
def Ml (P:9#9):HL:=by refine(?f:Pk (hq P 280 1)) [(_,⟨_,_,fq (tp 55) ..,_⟩)] rfl;exact λx _=>x
noncomputable def Lx (P:9#9):HL:=by refine(?f:Pk (hq P 281 4)) [_,_,_,_] rfl;exact λx _=>x
def LV (P:9#9):HL:=by refine(?f:Pk (hq P 285 1)) [(_,⟨_,_,fq (tp 56) ..,_⟩)] rfl;exact λx _=>x
noncomputable def e0 (P:9#9):HL:=(b0 P++(b1 P++(b2 P++(b3 P++(b4 P++(b5 P++(b6 P++(b7 P++(b8 P++(b9 P))))))))))
noncomputable def e1 (P:9#9):HL:=(b10 P++(b11 P++(b12 P++(b13 P++(b14 P++(b15 P++(b16 P++(b17 P++(b18 P++(b19 P))))))))))
noncomputable def e2 (P:9#9):HL:=(b20 P++(b21 P++(b22 P++(b23 P++(b24 P++(b25 P++(b26 P++(b27 P++(b28 P++(b29 P))))))))))
noncomputable def e3 (P:9#9):HL:=(b30 P++(b31 P++(b32 P++(b33 P++(b34 P++(b35 P++(b36 P++(b37 P++(b38 P++(b39 P))))))))))
noncomputable def e4 (P:9#9):HL:=(b40 P++(b41 P++(b42 P++(b43 P++(b44 P++(b45 P++(b46 P++(b47 P++(b48 P++(b49 P))))))))))
noncomputable def e5 (P:9#9):HL:=(b50 P++(b51 P++(b52 P++(b53 P++(b54 P++(b55 P++(b56 P++(b57 P++(b58 P++(b59 P))))))))))
noncomputable def e6 (P:9#9):HL:=(b60 P++(b61 P++(b62 P++(b63 P++(b64 P++(b65 P++(b66 P++(b67 P++(b68 P++(b69 P))))))))))
noncomputable def e7 (P:9#9):HL:=(b70 P++(b71 P++(b72 P++(b73 P++(b74 P++(b75 P++(b76 P++(b77 P++(b78 P++(b79 P))))))))))
noncomputable def e8 (P:9#9):HL:=(b80 P++(b81 P++(b82 P++(b83 P++(b84 P++(b85 P++(b86 P++(b87 P++(b88 P++(b89 P))))))))))
noncomputable def e9 (P:9#9):HL:=(b90 P++(b91 P++(b92 P++(b93 P++(b94 P++(b95 P++(b96 P++(b97 P++(b98 P++(b99 P))))))))))
noncomputable def GP (P:9#9):HL:=(K0 P++(KR P++(M3 P++(LK P++(K9 P++(KS P++(KU P++(Mf P++(MA P++(MP P))))))))))
noncomputable def e11 (P:9#9):HL:=(Nd P++(Lz P++(Ml P++(Lx P++(LV P)))))
noncomputable def eq (P:9#9):HL:=(e0 P++(e1 P++(e2 P++(e3 P++(e4 P++(e5 P++(e6 P++(e7 P++(e8 P++(e9 P++(GP P++(e11 P))))))))))))
theorem eq_eq (P:9#9):eq P=K08H.fB.heap_39 P:=by kernel_rfl
noncomputable def asK:2#Nat:=[2,3,15,22,23,24,25,28,35,36,37,40,47,48,49,52,59,60,61,71,74,75,76,77,78,79,80,83,86,87,88,90,91,93,94,95,97,98,100,101,102,104,105,107,108,109,111,112,114,115,116,119,120,121,123,124,126,127,128,131,132,133,135,136,138,139,140,142,143,145,146,147,149,150,152,153,154,156,157,159,160,161,163,164,166,167,175,178,179,180,181,182,183,184,187,189,190,192,193,194,196,197,199,200,201,203,204,206,207,208,210,211,213,214,222,224,225,227,228,229,231,232,234,235,236,238,239,241,242,243,244,245,246,247,250,257,259,260,262,263,264,267,268,269,270,271,274,281,283,284,286,287,288,291,292,293,294,295,298,305,307,308,310,311,312,314,315,317,318,319,320,321,324,331,333,334,336,337,338,341,342,343,344,345,348,355,357,358,360,361,362,365,366,367,368,369,372,374,375,377,378,379,382,383,384,386,387,389,390,391,393,394,396,397,398,401,402,403,406,407,408,410,411,413,414,415,417,418,420,421,422,424,425,427,428,429,431,432,434,435,436,439,440,441,443,444,446,447,448,450,451,453,454,455,458,459,460,462,463,465,466,467,470,471,472,475,476,477,480,481,482,485,486,487,489,490,492,493,494,497,498,499,501,502,504,505]
noncomputable def T0 (P:9#9):BT:=Hd.Gi 6 (boot_heap P).objs.toList
noncomputable def rn (w:World) (os:OsState):=Hd.xa treeTable pw w 11 1#3#6 os 4349 ⟨T0 w.params,11,{},Array.mk [],boot_drawn,boot_toks,os⟩ (topStub pw)
noncomputable def r1 (w:World) (os:OsState):=(rn w os).map λr=>(staticsOk (importedModules pw.main.body) (boot_heap w.params) r.abs.heap&&namesBound pw r.abs.heap&&gensDone r.abs&&laidKept (boot_heap w.params) r.abs.heap)
theorem LR:r1=r1:=rfl
name_quick K08Hr1 for K08H.r1 by K08H.LR
theorem o1 (w:World) (os:OsState):r1 w os=1#true:=(congrFun (congrFun PySem.W.Fast.K08Hr1_eq w) os).trans (by kernel_rfl:PySem.W.Fast.K08Hr1 w os=1#true)
noncomputable def r2 (w:World) (os:OsState):=(rn w os).map λr=>openSeen vw [] (importedModules pw.main.body) (λs=>xlAt vw [] s&&recOk PySem.Challenge.rw_stowhold_k08_faults.row.records s) true r.abs
theorem MB:r2=r2:=rfl
name_quick K08Hr2 for K08H.r2 by K08H.MB
noncomputable def g2 (w:World):=1#(openGood vw [])
theorem MV:g2=g2:=rfl
name_quick K08Hg2 for K08H.g2 by K08H.MV
theorem o2 (w:World) (os:OsState):r2 w os=g2 w:=((congrFun (congrFun PySem.W.Fast.K08Hr2_eq w) os).trans (by kernel_rfl:PySem.W.Fast.K08Hr2 w os=PySem.W.Fast.K08Hg2 w)).trans (congrFun PySem.W.Fast.K08Hg2_eq w).symm
noncomputable def r3 (w:World) (os:OsState):=(rn w os).map λr=>asK.map r.abs.heap.get?
theorem LG:r3=r3:=rfl
name_quick K08Hr3 for K08H.r3 by K08H.LG
noncomputable def g3 (w:World):=1#((eq w.params).map λp=>1#p.2)
theorem L8:g3=g3:=rfl
name_quick K08Hg3 for K08H.g3 by K08H.L8
theorem o3 (w:World) (os:OsState):r3 w os=g3 w:=((congrFun (congrFun PySem.W.Fast.K08Hr3_eq w) os).trans (by kernel_rfl:PySem.W.Fast.K08Hr3 w os=PySem.W.Fast.K08Hg3 w)).trans (congrFun PySem.W.Fast.K08Hg3_eq w).symm
theorem left:LeftO PySem.Challenge.rw_stowhold_k08_faults.row.prog vw [] (λs=>xlAt vw [] s&&recOk PySem.Challenge.rw_stowhold_k08_faults.row.records s) (λs=>asK.map s.heap.get?) (λw=>(K08H.fB.heap_39 w.params).map λp=>1#p.2) 8398:=
 Hd.DN (p:=pw) (H₀:=boot_heap) (T0:=T0) (n0:=11) (life0:={}) (d₀:=boot_drawn) (k₀:=boot_toks) (m₀:=11) (ann:=1#3#6) (M:=4349)
  (boot_open (by kernel_rfl) 8#16 (λs=>by kernel_rfl)) (λP=>by kernel_rfl) (λw=>by kernel_rfl) 8#16 (λw os=>by
   have h:=o3 w os;unfold g3 at h;rw[eq_eq] at h
   exact Hd.Nf (o1 w os) (o2 w os) h)
end K08H
end
open PySem PySem.W PyProof.Rows
open PI (lC kJ uR vK B0 yM xW vL B5 zJ uD vX) in
set_option maxRecDepth 100000 in
set_option maxHeartbeats 0 in
theorem PySem.Challenge.cw_stowhold_k08_faults_holds : PySem.Challenge.rw_stowhold_k08_faults.Holds := by
 refine K08H.fB ⟨K08H.left, ?_⟩
 k_fill
 refine PI.JJ (l:=PySem.Challenge.rw_stowhold_k08_faults) (D:=K08.dt) (ds:=K08.ds) (cls:=K08.cls) (cn:=K08.cn) (xc:=K08.xc) (wn:=100) (n:=9) (f:=78) (x:="_law_script") rfl rfl ⟨rfl,by decide,by decide⟩ (fun w h Y=>PySem.W.kIn_of Y) K08.LP rfl rfl rfl rfl (PI.Jr 8#16) ?F (fun ns hn=>PI.C8 K08.fg K08.fw 8#16 (by with_unfolding_all rfl) (by with_unfolding_all rfl) (by with_unfolding_all rfl) 0 ns hn)
 case F=>
  intro w;refine' ⟨?_, ?_,PI.AD ?_, ?_,PI.Gp ?_,kJ⟩
  all_goals repeat' first|exact kJ|refine' lC ?_ ?_|refine' vK ?_ ?_ ?_ ?_ ?_|refine' uR ?_ ?_ ?_ ?_|exact B0 rfl rfl rfl|refine' yM ?_ rfl rfl rfl rfl ?_|refine' zJ ?_|refine' xW ?_ rfl rfl rfl ?_ ?_ rfl rfl rfl rfl ?_ ?_|refine' vL ?_ rfl rfl rfl ?_ ?_ rfl ?_|refine' B5 rfl rfl ?_ ?_ ?_ rfl rfl rfl ?_ ?_|exact uD rfl rfl|refine' vX rfl rfl ?_ ?_ ?_ ?_ ?_ ?_
  any_goals first|k_is|k_exc
end
