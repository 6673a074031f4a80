import PyProof.Rows.All
import Wide.All
import OpenK.AllK
import Wide.FinOn
import Lean
import PyProof.EqAt
import PyProof.EqKinds
import PyProof.TupleCall
import KE.KSortTup
import PySem.Challenge.RW_stowhold_k13_with_and_without
open scoped BitVec
set_option hygiene false
set_option compiler.extract_closed false
local macro_rules|`(0#$x)=>`(($x).length)
local macro_rules|`(1#$x)=>`(some $x)
local macro_rules|`(2#$x)=>`(List $x)
local macro_rules|`(3#$x)=>`(.ref $x)
local macro_rules|`(4#$x)=>`(.var $x)
local macro_rules|`(5#$x)=>`(Option $x)
local macro_rules|`(6#$x)=>`(.int $x)
local macro_rules|`(7#$x)=>`(.lst $x)
local macro_rules|`(8#0)=>`(by lia)
local macro_rules|`(8#1)=>`(Inv X pins σ H s)
local macro_rules|`(8#2)=>`(Value->Shared->Prop)
local macro_rules|`(8#3)=>`(model X.prog X.w)
local macro_rules|`(8#4)=>`(PySem.W.Frag)
local macro_rules|`(8#5)=>`(2#(Addr×Obj))
local macro_rules|`(8#6)=>`(λv st=>aL (t.put v (ax 0#ws caps env)) (runC P cl c) (ie.run P cl) st)
local macro_rules|`(8#7)=>`(by simp)
local macro_rules|`(8#8)=>`(2#(Cell×Bx))
local macro_rules|`(8#9)=>`(L4.XE X E)
local macro_rules|`(9#0)=>`(λv _ as' G' H'=>∀u,Rel T as' G' v u->Q u H')
local macro_rules|`(9#1)=>`(model prog w)
local macro_rules|`(9#2)=>`(Shared)
local macro_rules|`(9#3)=>`(Sim T st as G H)
local macro_rules|`(9#4)=>`(.call 84 [4#0, 4#1])
local macro_rules|`(9#5)=>`(kas_count n (List.toArray (List.range n)))
local macro_rules|`(9#6)=>`(.ListComp elt [⟨tg,iter,ifs,0⟩] sc pos)
local macro_rules|`(9#7)=>`(by decide)
local macro_rules|`(9#8)=>`(s.heap.objs.size+1)
local macro_rules|`(9#9)=>`(∀b∈fp,∃o,(b,o)∈pn)
local macro_rules|`(8#10)=>`(Obj.mapSeq λ_=>(#[]:Array Value))
local macro_rules|`(8#11)=>`(starEach (e::es) X.env=(false,eval e X.env)::starEach es X.env)
local macro_rules|`(8#12)=>`(λi j=>HT.lexLt (keys.getD i []) (keys.getD j []))
local macro_rules|`(8#13)=>`(dg X (λ_=>E σ) own ws caps sc C fp pn s H)
local macro_rules|`(8#14)=>`(kas_asc p (nrem-1) 1)
local macro_rules|`(8#15)=>`(∀i,FnOk P' w T.K mg base (dI P' w) k (M.fa i) (M.fd i) (M.ps i) (fT T P m i))
local macro_rules|`(8#16)=>`(PE X a (tE T P cl E ia))
local macro_rules|`(8#17)=>`(FnOk X.prog X.w X.K X.mg X.base (dI X.prog X.w) k f fd ps sp)
local macro_rules|`(8#18)=>`(XOk T P' w mg base k g X)
local macro_rules|`(8#19)=>`(Str->5#Value)
local macro_rules|`(8#20)=>`(.const (.bl false))
local macro_rules|`(8#21)=>`(∀k∈caps,sc.names.lookup (X.N.getD k Str.empty)=1#.free)
local macro_rules|`(8#22)=>`((y="ValueError"/\c=1000)∨(c≠1000/\(D.gl.lookup y=1#(.err c)∨D.gl.lookup y=1#(.nam c))))
local macro_rules|`(8#23)=>`(α->aa->2#Addr->Hp->Hp->Prop)
local macro_rules|`(8#24)=>`(∀b∈ch,(b∈X.ex∨X.s₀.heap.objs.size<=b)/\b≠X.env.locals/\(∀x c,X.env.cells.lookup x=1#c->c≠b)/\∀p∈X.pn++pins,p.1≠b)
local macro_rules|`(8#25)=>`(X.af 8#9)
local macro_rules|`(8#26)=>`(Le.refl _)
local macro_rules|`(8#27)=>`(.builtin "object.__class__")
local macro_rules|`(8#28)=>`(λz=>nomatch z)
local macro_rules|`(8#29)=>`(show u=Value.ref b from ry)
local macro_rules|`(8#30)=>`(cA X own ws caps sc C fp [] s H)
local macro_rules|`(8#31)=>`(PE X e (tE T P cl E ie))
local macro_rules|`(8#32)=>`(.ci 0)
local macro_rules|`(8#33)=>`(L.map aA)
local macro_rules|`(8#34)=>`(Params)
local macro_rules|`(8#35)=>`(L4.dg X (λ_=>E σ) own ws caps sc C fp pn s H)
local macro_rules|`(8#36)=>`(2#Value)
local macro_rules|`(8#37)=>`(bN _ _ _ _ (aQ _ _ λa=>by simp))
set_option hygiene true
set_option tactic.hygienic false
set_option autoImplicit true
set_option relaxedAutoImplicit true
set_option genSizeOfSpec false
set_option Elab.async false
set_option linter.all false
set_option maxRecDepth 100000
namespace Ob
variable {g:Prop}
theorem E02 {p q:Prop} (h:p∧q) (f:p->q->g):g:=let ⟨h0,h1⟩:=h;f h0 h1
theorem E11 {p:a->Prop} (h:∃x,p x) (f:∀x,p x->g):g:=let ⟨x,h0⟩:=h;f x h0
theorem E03 {p q r:Prop} (h:p∧q∧r) (f:p->q->r->g):g:=let ⟨h0,h1,h2⟩:=h;f h0 h1 h2
theorem E12 {p q:a->Prop} (h:∃x,p x∧q x) (f:∀x,p x->q x->g):g:=let ⟨x,h0,h1⟩:=h;f x h0 h1
theorem E21 {p:a->b->Prop} (h:∃x y,p x y) (f:∀x y,p x y->g):g:=let ⟨x,y,h0⟩:=h;f x y h0
theorem E04 {p q r s:Prop} (h:p∧q∧r∧s) (f:p->q->r->s->g):g:=let ⟨h0,h1,h2,h3⟩:=h;f h0 h1 h2 h3
theorem E13 {p q r:a->Prop} (h:∃x,p x∧q x∧r x) (f:∀x,p x->q x->r x->g):g:=let ⟨x,h0,h1,h2⟩:=h;f x h0 h1 h2
theorem E22 {p q:a->b->Prop} (h:∃x y,p x y∧q x y) (f:∀x y,p x y->q x y->g):g:=let ⟨x,y,h0,h1⟩:=h;f x y h0 h1
theorem E05 {p q r s t:Prop} (h:p∧q∧r∧s∧t) (f:p->q->r->s->t->g):g:=let ⟨h0,h1,h2,h3,h4⟩:=h;f h0 h1 h2 h3 h4
theorem E14 {p q r s:a->Prop} (h:∃x,p x∧q x∧r x∧s x) (f:∀x,p x->q x->r x->s x->g):g:=let ⟨x,h0,h1,h2,h3⟩:=h;f x h0 h1 h2 h3
theorem E23 {p q r:a->b->Prop} (h:∃x y,p x y∧q x y∧r x y) (f:∀x y,p x y->q x y->r x y->g):g:=let ⟨x,y,h0,h1,h2⟩:=h;f x y h0 h1 h2
theorem E32 {p q:a->b->c->Prop} (h:∃x y z,p x y z∧q x y z) (f:∀x y z,p x y z->q x y z->g):g:=let ⟨x,y,z,h0,h1⟩:=h;f x y z h0 h1
theorem E06 {p q r s t k:Prop} (h:p∧q∧r∧s∧t∧k) (f:p->q->r->s->t->k->g):g:=let ⟨h0,h1,h2,h3,h4,h5⟩:=h;f h0 h1 h2 h3 h4 h5
theorem E24 {p q r s:a->b->Prop} (h:∃x y,p x y∧q x y∧r x y∧s x y) (f:∀x y,p x y->q x y->r x y->s x y->g):g:=let ⟨x,y,h0,h1,h2,h3⟩:=h;f x y h0 h1 h2 h3
theorem E33 {p q r:a->b->c->Prop} (h:∃x y z,p x y z∧q x y z∧r x y z) (f:∀x y z,p x y z->q x y z->r x y z->g):g:=let ⟨x,y,z,h0,h1,h2⟩:=h;f x y z h0 h1 h2
theorem E25 {p q r s t:a->b->Prop} (h:∃x y,p x y∧q x y∧r x y∧s x y∧t x y) (f:∀x y,p x y->q x y->r x y->s x y->t x y->g):g:=let ⟨x,y,h0,h1,h2,h3,h4⟩:=h;f x y h0 h1 h2 h3 h4
theorem E34 {p q r s:a->b->c->Prop} (h:∃x y z,p x y z∧q x y z∧r x y z∧s x y z) (f:∀x y z,p x y z->q x y z->r x y z->s x y z->g):g:=let ⟨x,y,z,h0,h1,h2,h3⟩:=h;f x y z h0 h1 h2 h3
theorem E43 {p q r:a->b->c->d->Prop} (h:∃x y z u,p x y z u∧q x y z u∧r x y z u) (f:∀x y z u,p x y z u->q x y z u->r x y z u->g):g:=let ⟨x,y,z,u,h0,h1,h2⟩:=h;f x y z u h0 h1 h2
theorem E35 {p q r s t:a->b->c->Prop} (h:∃x y z,p x y z∧q x y z∧r x y z∧s x y z∧t x y z) (f:∀x y z,p x y z->q x y z->r x y z->s x y z->t x y z->g):g:=let ⟨x,y,z,h0,h1,h2,h3,h4⟩:=h;f x y z h0 h1 h2 h3 h4
theorem E53 {p q r:a->b->c->d->e->Prop} (h:∃x y z u v,p x y z u v∧q x y z u v∧r x y z u v) (f:∀x y z u v,p x y z u v->q x y z u v->r x y z u v->g):g:=let ⟨x,y,z,u,v,h0,h1,h2⟩:=h;f x y z u v h0 h1 h2
end Ob
local macro_rules
|`(tactic|obtain⟨$ps,*⟩:=$h)=>do
 let ps:=ps.getElems
 let n:=ps.size
 if n<2||n>8 then Lean.Macro.throwUnsupported
 let qs<-ps.mapM fun p=>do
  let q<-`(rcasesPat|($p:rcasesPatLo))
  `(rintroPat|$q:rcasesPat)
 let mut t<-`(tactic|fail)
 for j in [0:min n 6] do
  let k:=min n 6-1-j
  let i:=Lean.mkIdent (.mkStr2 "Ob" s!"E{k}{n-k}")
  t<-`(tactic|first|refine $i $h ?_|$t:tactic)
 if h.raw.isIdent then
  let i:Lean.Ident:=⟨h⟩
  t<-`(tactic|($t:tactic;clear $i))
 `(tactic|($t:tactic;rintro $qs:rintroPat*))
def Ob.t:Nat->Lean.Term->Lean.MacroM (Lean.TSyntax `rcasesPat)
|0,_=>Lean.Macro.throwUnsupported
|n+1,s=>match s with
 |`(⟨$xs,*⟩)=>do
  let ps<-xs.getElems.mapM (Ob.t n)
  `(rcasesPat|⟨$[$ps:rcasesPat],*⟩)
 |`(_)=>`(rcasesPat|_)
 |`($x:ident)=>`(rcasesPat|$x:ident)
 |_=>Lean.Macro.throwUnsupported
local macro_rules
|`(tactic|let⟨$xs,*⟩:=$h)=>do
 let ps<-xs.getElems.mapM (Ob.t 9)
 `(tactic|obtain⟨$[$ps:rcasesPat],*⟩:=$h)
noncomputable section
abbrev aaa:=@PySem.wpAny_bind
abbrev aab:=@Option.map_eq_some_iff
abbrev aac:=@List.getElem?_eq_getElem
abbrev aad:=@List.getElem?_eq_some_iff
abbrev aae:=@PySem.Heap.get?_push_of_some
abbrev aaf:=@PySem.wpAny_pure
abbrev aag:=@Bool.and_eq_true
abbrev aah:=@List.prefix_refl
abbrev aai:=@Nat.le_refl
abbrev aaj:=@PySem.Heap.get?_push_size
abbrev aak:=@Option.bind_eq_some_iff
abbrev aal:=@List.size_toArray
abbrev aam:=@List.getElem?_append_right
abbrev aan:=@PySem.Heap.lt_size
abbrev aao:=@Nat.lt_of_lt_of_le
abbrev aap:=@List.mem_cons
abbrev aaq:=@List.getElem?_append_left
abbrev aar:=@List.mem_of_getElem?
abbrev aas:=@List.length_cons
abbrev aat:=@List.mem_cons_of_mem
abbrev aau:=@List.prefix_append
abbrev aav:=@List.map_cons
abbrev aaw:=@List.getD_eq_getElem?_getD
abbrev aax:=@Nat.ne_of_lt
abbrev aay:=@List.length_map
abbrev aaz:=@List.mem_cons_self
abbrev aaA:=@List.mem_append_right
abbrev aaB:=@decide_eq_false
abbrev aaC:=@List.mem_append
abbrev aaD:=@PySem.wpAny_field
abbrev aaE:=@List.eq_nil_of_length_eq_zero
abbrev aaF:=@Bool.false_ne_true
abbrev aaG:=@PySem.mem_of_lookup
abbrev aaH:=@PySem.W.kia_one
abbrev aaI:=@List.lookup_cons
abbrev aaJ:=@List.all_cons
abbrev aaK:=@PySem.wpAny_newObj_type
abbrev aaL:=@PySem.wpAny_mono
abbrev aaM:=@List.mem_singleton
abbrev aaN:=@List.mem_map
abbrev aaO:=@PySem.Heap.size_push
abbrev aaP:=@PySem.F.slot_dict_get
abbrev aaQ:=@Nat.le_trans
abbrev aaR:=@List.getElem?_map
abbrev aaS:=@List.mem_append_left
abbrev aaT:=@List.length_append
abbrev aaU:=@List.zip_cons_cons
abbrev aaV:=@Option.isSome_iff_exists
abbrev aaW:=@Nat.zero_le
abbrev aaX:=@PySem.wpAny_callSpecial?_slot
abbrev aaY:=@List.getElem?_set_ne
abbrev aaZ:=@Bool.eq_iff_iff
abbrev aa0:=@PySem.tupleKind_room_in1
abbrev aa1:=@PySem.F.entry_dict_get
abbrev aa2:=@Array.length_toList
abbrev aa3:=@List.getElem?_take_of_lt
abbrev aa4:=@List.all_eq_true
abbrev aa5:=@Nat.lt_irrefl
abbrev aa6:=@List.getElem?_set_self
abbrev aa7:=@PySem.Heap.get?_update_other
abbrev aa8:=@List.nodup_cons
abbrev aa9:=@List.length_take
abbrev aba:=@PySem.Obj.data_mapFields
abbrev abb:=@List.map_map
abbrev abc:=@PySem.wpAny_call_entry
abbrev abd:=@PySem.Heap.get?_none_of_le
abbrev abe:=@decide_eq_true
abbrev abf:=@PySem.wpAny_seqItems
abbrev abg:=@List.length_eq_zero_iff
abbrev abh:=@List.append_nil
abbrev abi:=@List.find?_cons
abbrev abj:=@List.length_zip
abbrev abk:=@PySem.Paired.length
abbrev abl:=@PySem.wpAny_holding
abbrev abm:=@beq_iff_eq
abbrev abn:=@List.mem_range
abbrev abo:=@PySem.Heap.get?_update_self
abbrev abp:=@List.mem_iff_getElem?
abbrev abq:=@Int.emod_lt_of_pos
abbrev abr:=@PySem.wpAny_Call_Name_kw
abbrev abt:=@PySem.wpAny_setField_rec
abbrev abu:=@List.mem_of_find?_eq_some
abbrev abw:=@Nat.le_of_lt
abbrev abx:=@Bool.or_eq_true
abbrev aby:=@PySem.wpAny_typeNameOfWhole_keyiter
abbrev abz:=@List.not_mem_nil
abbrev abA:=@PySem.F.slot_dict_keyiterator_next
abbrev abB:=@PySem.sizeLine_eq
abbrev abC:=@PySem.Obj.isFreed_of_fields
abbrev abD:=@Int.emod_nonneg
abbrev abE:=@PySem.F.slot_tuple_iterator_next
abbrev abF:=@List.nodup_append
abbrev abG:=@PySem.wpAny_truthy_bool
abbrev abH:=@PySem.W.looks_findIn
abbrev abI:=@PySem.wpAny_setField
abbrev abJ:=@Nat.ne_of_gt
abbrev abK:=@if_false
abbrev abL:=@beq_self_eq_true
abbrev abM:=@PySem.call_meetsIn
abbrev abN:=@List.filterMap_cons
abbrev abO:=@List.getElem?_replicate
abbrev abP:=@PySem.F.args_dict_get_2
abbrev abQ:=@PySem.F.args_dict_get_3
abbrev abR:=@List.getElem?_cons_succ
abbrev abS:=@Bool.false_eq_true
abbrev abT:=@of_decide_eq_false
abbrev abU:=@PySem.Calls.callWith_builtin
abbrev abV:=@List.find?_cons_of_neg
abbrev abW:=@PySem.wpAny_loadPart_at
abbrev abX:=@List.length_singleton
abbrev abY:=@Nat.min_self
abbrev abZ:=@PyProof.Rows.callWith_type1
abbrev ab0:=@Nat.lt_succ_self
abbrev ab1:=@PySem.Calls.evalArgs_plain
abbrev ab2:=@List.cons_append
abbrev ab3:=@List.any_cons
abbrev ab4:=@PySem.W.mg_of
abbrev ab5:=@if_true
abbrev ab6:=@PySem.Heap.SameBut.update
abbrev ab7:=@List.forIn_cons
abbrev ab8:=@List.map_append
abbrev ab9:=@Option.map_some
abbrev aca:=@PySem.wpAny_passesOwn
abbrev acb:=@PySem.Calls.spliced_cons
abbrev acd:=@List.map_nil
abbrev ace:=@Nat.zero_add
abbrev acf:=@PySem.wpAny_pyIter_tuple
abbrev acg:=@List.forIn_nil
abbrev ach:=@List.nodup_nil
abbrev aci:=@PySem.W.kitx_dict
abbrev acj:=@Int.toNat_natCast
abbrev ack:=@Nat.lt_succ_of_lt
abbrev acm:=@Option.isSome_map
abbrev acn:=@PySem.wpAny_pyIter_list
abbrev aco:=@of_decide_eq_true
abbrev acp:=@PySem.wpAny_dictEntries
abbrev acq:=@List.range_succ_eq_map
abbrev acr:=@List.take_of_length_le
abbrev acs:=@Bool.and_true
abbrev acu:=@PySem.wpAny_onRaise
abbrev acv:=@PySem.wpAny_attempt
abbrev acw:=@List.length_drop
abbrev acx:=@PySem.W.Looks.ld
abbrev acy:=@Nat.le_add_right
abbrev acz:=@Array.toList_inj
abbrev acA:=@List.filter_cons
abbrev acB:=@List.getElem?_eq_none
abbrev acC:=@PySem.F.typeOf_object_class
abbrev acD:=@PySem.wpAny_notOrdered_dict
abbrev acE:=@PyProof.Rows.slot_tuple_getitem
abbrev acF:=@List.of_mem_zip
abbrev acG:=@PySem.F.slot_zip_next
abbrev acH:=@PySem.F.args_dict_keyiterator_next_1
abbrev acI:=@PySem.wpAny_execs_nil
abbrev acJ:=@PySem.codeAny_mono
abbrev acK:=@PySem.codeAny_call_builtin
abbrev acL:=@PySem.wpAny_rule
abbrev acM:=@PySem.wpAny_updateSeq_pair
abbrev acO:=@List.length_pos_iff
abbrev acP:=@Bool.and_false
abbrev acR:=@or_false
abbrev acS:=@PySem.wpAny_letGo
abbrev acT:=@List.filterMap_map
abbrev acV:=@PySem.wpAny_standAt
abbrev acX:=@PySem.W.kitx_list
abbrev acY:=@PySem.Calls.spliced_nil
abbrev acZ:=@PySem.Obj.cls_mapFields
abbrev ac0:=@Bool.not_eq_true'
abbrev ac1:=@List.append_assoc
abbrev ac2:=@List.length_range
abbrev ac3:=@decide_eq_true_eq
abbrev ac4:=@PySem.W.makes_of
abbrev ac5:=@Nat.le_of_eq
abbrev ac6:=@List.zipIdx_cons
abbrev ac8:=@List.mem_filter
abbrev ac9:=@List.zipIdx_nil
abbrev ada:=@List.length_nil
namespace L2
open PySem PySem.Spec PyProof.Rows
abbrev Key:=Sum Int Str
noncomputable def iD:Key->Value->Bool
 | .inl k,v=>Value.isInt k v
 | .inr x,v=>Value.isStrOf x v
noncomputable def Ly (w:World):Key->Int
 | .inl k=>hashInt k
 | .inr x=>hashStr w x
theorem bL:∀{k:Key} {v:Value},iD k v=true->(∃i t,k=Sum.inl i/\v=Value.int i t)∨(∃x t,k=Sum.inr x/\v=Value.str x t)
 | .inl i,v,h=>by
  let⟨t,e⟩:=Value.isInt_shape (k:=i) (v:=v) h;exact .inl ⟨i,t,rfl,e⟩
 | .inr x,v,h=>by
  let⟨t,e⟩:=Value.isStrOf_shape (x:=x) (v:=v) h;exact .inr ⟨x,t,rfl,e⟩
theorem xp (i:Int) (t:Tok):iD (.inl i) (.int i t)=true:=by simp[iD,Value.isInt]
theorem wO (x:Str) (t:Tok):iD (.inr x) (.str x t)=true:=by simp[iD,Value.isStrOf]
theorem xh (a b:Int):decide ((Sum.inl a:Key)=Sum.inl b)=(a==b):=by
 by_cases e:a=b
 ·subst e;simp
 ·have h:¬(Sum.inl a:Key)=Sum.inl b:=λq=>e (Sum.inl.inj q);rw[aaB h];exact(beq_eq_false_iff_ne.mpr e).symm
theorem zd (a b:Str):decide ((Sum.inr a:Key)=Sum.inr b)=decide (a=b):=by
 by_cases e:a=b
 ·subst e;simp
 ·have h:¬(Sum.inr a:Key)=Sum.inr b:=λq=>e (Sum.inr.inj q);rw[aaB h,aaB e]
theorem EG (a:Int) (b:Str):decide ((Sum.inl a:Key)=Sum.inr b)=false:=aaB (λq=>nomatch q)
theorem FU (a:Str) (b:Int):decide ((Sum.inr a:Key)=Sum.inl b)=false:=aaB (λq=>nomatch q)
def aJ (prog:Program) (w:World):PySem.KeyKind prog w Key where
 is:=iD
 hash:=Ly w
 inj:=λv a b ha hb=>by
  rcases bL ha with⟨i,t,rfl,rfl⟩|⟨x,t,rfl,rfl⟩
  ·rcases bL hb with⟨j,u,rfl,e⟩|⟨y,u,rfl,e⟩
   ·injection e with e1 _;rw[e1]
   ·exact nomatch e
  ·rcases bL hb with⟨j,u,rfl,e⟩|⟨y,u,rfl,e⟩
   ·exact nomatch e
   ·injection e with e1 _;rw[e1]
 byValue:=λk v h=>by
  rcases bL h with⟨i,t,rfl,rfl⟩|⟨x,t,rfl,rfl⟩<;>rfl
 pyHash:=λhv h=>by
  rcases bL hv with⟨i,t,rfl,rfl⟩|⟨x,t,rfl,rfl⟩
  ·exact wpAny_pyHash_int h
  ·exact wpAny_pyHash_str h
 eqBool:=λhu hv h=>by
  rcases bL hu with⟨i,t,rfl,rfl⟩|⟨x,t,rfl,rfl⟩
  ·rcases bL hv with⟨j,u,rfl,rfl⟩|⟨y,u,rfl,rfl⟩
   ·rw[xh] at h;exact wpAny_eqBool_int h
   ·rw[EG] at h;exact SeqAt.EqAt.int_str i t y u _ _ _ _ h
  ·rcases bL hv with⟨j,u,rfl,rfl⟩|⟨y,u,rfl,rfl⟩
   ·rw[FU] at h;exact SeqAt.EqAt.str_int x t j u _ _ _ _ h
   ·rw[zd] at h;exact wpAny_eqBool_str h
 «strs»:=λk x t v h=>by
  rcases bL h with⟨i,u,rfl,e⟩|⟨y,u,rfl,e⟩
  ·exact nomatch e
  ·injection e with e1 _
   subst e1;cases v<;>rfl
theorem tD (prog:Program) (w:World) (i:Int) (t:Tok):(aJ prog w).is (.inl i) (.int i t)=true:=xp i t
theorem tw (prog:Program) (w:World) (x:Str) (t:Tok):(aJ prog w).is (.inr x) (.str x t)=true:=wO x t
inductive V where
 |non|bl (b:Bool)|int (i:Int)|str (x:Str)|byt (b:Array UInt8)|flt (b:UInt64)|ref (a:Addr)|ty (n:String)
 deriving DecidableEq
def RelV:V->Value->Prop
 | .non,u=>u=Value.none
 | .bl b,u=>u=Value.bool b
 | .int i,u=>∃t,u=Value.int i t
 | .str x,u=>∃t,u=Value.str x t
 | .byt b,u=>∃t,u=Value.bytes b t
 | .flt b,u=>∃t,u=Value.float b t
 | .ref a,u=>u=Value.ref a
 | .ty n,u=>u=Value.type n
abbrev Vals:2#V->2#Value->Prop:=Paired RelV
theorem Vals.length {xs:2#V} {us:8#36} (r:Vals xs us):0#xs=0#us:=abk r
theorem Vals.get:∀{xs:2#V} {us:8#36} {i:Nat} {x:V},Vals xs us->xs[i]?=1#x->∃u,us[i]?=1#u/\RelV x u
 |_,_,_,_, .nil,e=>by simp at e
 |_,_,0,_, .cons r _,e=>by simp at e;subst e;exact⟨_,rfl,r⟩
 |_,_,i+1,x, .cons _ t,e=>by
  let⟨u,h1,h2⟩:=Vals.get (i:=i) (x:=x) t (by simpa using e);exact⟨u,by simpa using h1,h2⟩
theorem Vals.set {x:V} {u:Value} (r:RelV x u):∀{xs:2#V} {us:8#36} (i:Nat),Vals xs us->Vals (xs.set i x) (us.set i u)
 |_,_,_, .nil=> .nil
 |_,_,0, .cons _ t=> .cons r t
 |_,_,i+1, .cons q t=> .cons q (Vals.set r i t)
theorem Vals.append:∀{xs ys:2#V} {us ws:8#36},Vals xs us->Vals ys ws->Vals (xs++ys) (us++ws)
 |_,_,_,_, .nil,s=>s
 |_,_,_,_, .cons r t,s=> .cons r (Vals.append t s)
theorem Vals.take:∀{xs:2#V} {us:8#36} (n:Nat),Vals xs us->Vals (xs.take n) (us.take n)
 |_,_,0,_=> .nil
 |_,_,_+1, .nil=> .nil
 |_,_,n+1, .cons r t=> .cons r (Vals.take n t)
theorem Vals.drop:∀{xs:2#V} {us:8#36} (n:Nat),Vals xs us->Vals (xs.drop n) (us.drop n)
 |_,_,0,r=>r
 |_,_,_+1, .nil=> .nil
 |_,_,n+1, .cons _ t=>Vals.drop n t
def dX:5#V->5#Value->Prop
 |some v,1#u=>RelV v u
 |none,none=>True
 |_,_=>False
def KV {κ:Type}:2#(κ×V)->2#(κ×Value)->Prop:=Paired λ(p:κ×V) (q:κ×Value)=>p.1=q.1/\RelV p.2 q.2
noncomputable def kV:Key->V
 | .inl i=> 6#i
 | .inr x=> .str x
inductive HO where
 |lst (xs:2#V)
 |tup (xs:2#V)
 |dK (kvs:2#(Key×V))|dT (kvs:2#(2#Key×V))
 |set (S:Int->Bool) (n:Nat)
 |ins (C dx:Addr) (fs:2#(Str×V))
 |own (x:Addr)
 |xd (fs:2#(Str×V))
 |met (f x:Addr)
 |rng (lo hi:Int)
 |aF (o:Obj) (u:HO)
 |tbl (ps:Array Value)
 |ext (φ:Heap->Prop)
abbrev Hp:=Addr->5#HO
noncomputable def upd (H:Hp) (a:Addr) (o:HO):Hp:=λb=>if b=a then 1#o else H b
theorem ak {H:Hp} {a:Addr} {o:HO}:upd H a o a=1#o:=by unfold upd;rw[if_pos rfl]
theorem ao {H:Hp} {a b:Addr} {o:HO} (h:b≠a):upd H a o b=H b:=by unfold upd;rw[if_neg h]
theorem iX {H:Hp} {a:Addr} {o u:HO}:upd (upd H a o) a u=upd H a u:=by
 funext b;unfold upd;split<;>rfl
theorem qt {H:Hp} {a b:Addr} {o u:HO} (h:H a=1#o) (h':H b=1#u) (d:o≠u):a≠b:=by
 intro e;subst e;rw[h] at h';exact d (Option.some.inj h')
theorem bx {H:Hp} {a b:Addr} {o:HO} (h:H a=1#o) (h':H b=none):a≠b:=by
 intro e;subst e;rw[h] at h';cases h'
section
variable (P:Program) (w:World)
def aK (H:Hp) (h:Heap) (a:Addr):HO->Prop
 | .lst xs=>0#xs<=sizeLine/\∃(its:8#36) (n:Nat),Vals xs its/\h.get? a=some {cls:= .type "list",data:= .seq its.toArray n}
 | .tup xs=>0#xs<=sizeLine/\∃its:2#Value,Vals xs its/\IsTup h a its.toArray
 | .dK kvs=>0#kvs<=sizeLine/\(a==sysModules)=false/\∃vs,KV kvs vs/\h.DictOf (aJ P w) a vs
 | .dT kvs=>0#kvs<=sizeLine/\(a==sysModules)=false/\∃xs:2#(2#Key×Addr×Value),
   Paired (λ(p:2#Key×V) (q:2#Key×Addr×Value)=>p.1=q.1/\H q.2.1=1#(.tup (p.1.map kV))/\RelV p.2 q.2.2) kvs xs/\
   ∃o es ep,h.get? a=1#o/\o.ExactDict/\o.data= .dict es ep/\es.toList=xs.map (entryOfKey (tupleKind (aJ P w)))/\(xs.map (·.1)).Nodup
 | .set S n=>h.SetOf (intKind P w) a S n
 | .ins C dx fs=>H dx=1#(.own a)/\0#fs<=1000/\dx≠a/\h.get? a=1#(PySem.W.instObj C dx)/\
   ∃mA,h.Ns1 dx mA/\(∀f,dX (fs.lookup f) (mA f))/\PySem.Within mA (fs.map (·.1))
 | .own _=>∃o,h.get? a=1#o
 | .xd fs=>∃mA,h.Ns1 a mA/\∀f,dX (fs.lookup f) (mA f)
 | .rng lo hi=>∃t u v,h.get? a=some {cls:= .type "range",data:= .fields #[.int lo t, .int hi u, .int 1 v]}
 | .aF o u=>h.get? a=1#o/\aK H h a u
 | .tbl ps=>h.get? a=some {cls:= .none,data:= .fields ps}
 | .met f x=>h.get? a=1#(PySem.W.methodObj 3#f 3#x)
 | .ext φ=>φ h/\(∃o,h.get? a=1#o)/\∀h1 h2:Heap,φ h1->(∀o,h1.get? a=1#o->h2.get? a=1#o)->φ h2
def bE (H:Hp) (h:Heap):Prop:=∀a o,H a=1#o->aK P w H h a o
end
section
variable {P:Program} {w:World} {H H':Hp} {h h':Heap} {a:Addr} {o:HO}
theorem aK.lt (x:aK P w H h a o):a<h.objs.size:=by
 cases o with
 |lst xs=>let⟨_,_,_,_,e⟩:=x;exact aan e
 |tup xs=>let⟨_,_,_,p⟩:=x;exact p.lt
 |dK kvs=>let⟨_,_,_,_,o,_,_,e,_⟩:=x;exact aan e
 |dT kvs=>let⟨_,_,_,_,o,_,_,e,_⟩:=x;exact aan e
 |set S n=>let⟨o,_,_,_,e,_⟩:=x;exact aan e
 |ins C dx fs=>let⟨_,_,_,e,_⟩:=x;exact aan e
 |own y=>let⟨_,e⟩:=x;exact aan e
 |xd fs=>let⟨_,⟨_,_,_,e,_⟩,_⟩:=x;exact aan e
 |rng lo hi=>let⟨_,_,_,e⟩:=x;exact aan e
 |aF ob u=>let⟨e,_⟩:=x;exact aan e
 |tbl ps=>exact aan (show h.get? a=1#_ from x)
 |met f y=>exact aan (show h.get? a=1#_ from x)
 |ext φ=>let⟨_,⟨_,e⟩,_⟩:=x;exact aan e
theorem Paired.wj {α β:Type} {F G:α->β->Prop}:∀{l₁:2#α} {l₂:2#β},Paired F l₁ l₂->(∀a b,F a b->G a b)->Paired G l₁ l₂
 |_,_, .nil,_=> .nil
 |_,_, .cons r t,f=> .cons (f _ _ r) (Paired.wj t f)
theorem aK.iE (x:aK P w H h a o) (k:∀b u,(b=a∨H b=1#(.own a))->h.get? b=1#u->h'.get? b=1#u)
  (ho:∀b,H b=1#(.own a)->H' b=1#(.own a)) (ht:∀b xs,H b=1#(.tup xs)->H' b=1#(.tup xs)):aK P w H' h' a o:=by
 induction o with
 |lst xs=>let⟨z,its,n,r,e⟩:=x;exact⟨z,its,n,r,k _ _ (.inl rfl) e⟩
 |tup xs=>let⟨z,its,r,ob,e,c⟩:=x;exact⟨z,its,r,ob,k _ _ (.inl rfl) e,c⟩
 |dK kvs=>let⟨z,y,vs,r,ob,es,ep,e,c⟩:=x;exact⟨z,y,vs,r,ob,es,ep,k _ _ (.inl rfl) e,c⟩
 |dT kvs=>
  let⟨z,y,xs,r,ob,es,ep,e,c⟩:=x;exact⟨z,y,xs,Paired.wj r λp q z=>⟨z.1,ht _ _ z.2.1,z.2.2⟩,ob,es,ep,k _ _ (.inl rfl) e,c⟩
 |set S n=>let⟨ob,es,ep,t,e,c⟩:=x;exact⟨ob,es,ep,t,k _ _ (.inl rfl) e,c⟩
 |ins C dx fs=>
  let⟨d,z,ne,e,mA,⟨od,es,ep,e2,c⟩,r⟩:=x;exact⟨ho _ d,z,ne,k _ _ (.inl rfl) e,mA,⟨od,es,ep,k _ _ (.inr d) e2,c⟩,r⟩
 |own y=>let⟨ob,e⟩:=x;exact⟨ob,k _ _ (.inl rfl) e⟩
 |xd fs=>let⟨mA,⟨od,es,ep,e,c⟩,r⟩:=x;exact⟨mA,⟨od,es,ep,k _ _ (.inl rfl) e,c⟩,r⟩
 |rng lo hi=>let⟨t,u,v,e⟩:=x;exact⟨t,u,v,k _ _ (.inl rfl) e⟩
 |aF ob u ih=>let⟨e,q⟩:=x;exact⟨k _ _ (.inl rfl) e,ih q⟩
 |tbl ps=>
  have e:h.get? a=some {cls:= .none,data:= .fields ps}:=x;show h'.get? a=some {cls:= .none,data:= .fields ps};exact k a _ (.inl rfl) e
 |met f y=>
  have e:h.get? a=1#(PySem.W.methodObj 3#f 3#y):=x;show h'.get? a=1#(PySem.W.methodObj 3#f 3#y);exact k a _ (.inl rfl) e
 |ext φ=>let⟨p,⟨o,e⟩,st⟩:=x;exact⟨st _ _ p λo q=>k _ _ (.inl rfl) q,⟨o,k _ _ (.inl rfl) e⟩,st⟩
theorem bE.lt (x:bE P w H h) (e:H a=1#o):a<h.objs.size:=(x a o e).lt
theorem bE.fresh (x:bE P w H h) (e:h.objs.size<=a):H a=none:=by
 cases q:H a with
 |none=>rfl
 |some u=>exact absurd (aao (x.lt q) e) (aa5 _)
theorem bE.kept (x:bE P w H h) (k:∀b u,h.get? b=1#u->h'.get? b=1#u):bE P w H h':=λa o e=>
 (x a o e).iE (λb u _ q=>k b u q) (λ_ q=>q) λ_ _ q=>q
theorem bE.laid (x:bE P w H h) (k:∀b u,h.get? b=1#u->h'.get? b=1#u) (hp:h.objs.size<=a) (new:aK P w (upd H a o) h' a o):bE P w (upd H a o) h':=λb u e=>by
 have hn:=x.fresh hp
 by_cases hb:b=a
 ·subst hb;rw[ak] at e;cases e;exact new
 ·rw[ao hb] at e
  exact(x b u e).iE (λc v _ q=>k c v q) (λc q=>by rw[ao (bx q hn)];exact q) λc xs q=>by rw[ao (bx q hn)];exact q
end
def Rd (H:Hp) (a:Addr) (u:HO):Prop:=H a=1#u∨∃o,H a=1#(.aF o u)
theorem Rd.ok {P:Program} {w:World} {H:Hp} {a:Addr} {u:HO} (r:Rd H a u) (x:bE P w H h):aK P w H h a u:=by
 rcases r with r|⟨o,r⟩
 ·exact x a u r
 ·let⟨_,q⟩:=x a _ r;exact q
def w4:5#HO->Prop
 |some 7#_=>True
 |some (.dK _)=>True
 |some (.dT _)=>True
 |some (.set _ _)=>True
 |some (.ins _ _ _)=>True
 |some (.ext _)=>True
 |_=>False
section
variable {P:Program} {w:World} {H:Hp} {h h':Heap} {x e:Addr} {o':HO}
theorem bE.write (ok:bE P w H h) (mu:w4 (H x)) (he:e=x∨H e=1#(.own x)) (k:∀b u,b≠e->h.get? b=1#u->h'.get? b=1#u) (heo:∃u,h'.get? e=1#u)
  (new:aK P w (upd H x o') h' x o'):bE P w (upd H x o') h':=λb u q=>by
 have nown:∀c y,H c=1#(.own y)->c≠x:=λc y r z=>by subst z;rw[r] at mu;exact mu
 have ntup:∀c xs,H c=1#(.tup xs)->c≠x:=λc xs r z=>by subst z;rw[r] at mu;exact mu
 by_cases hb:b=x
 ·subst hb;rw[ak] at q;cases q;exact new
 ·rw[ao hb] at q
  by_cases hbe:b=e
  ·have q':H b=1#(.own x):=by
    rcases he with z|z
    ·exact absurd (hbe.trans z) hb
    ·rw[hbe];exact z
   rw[q] at q';cases q';let⟨v,hv⟩:=heo;exact⟨v,by rw[hbe];exact hv⟩
  ·refine(ok b u q).iE (λc v hc r=>k c v ?_ r) (λc r=>by rw[ao (nown c b r)];exact r) λc xs r=>by rw[ao (ntup c xs r)];exact r
   rcases hc with rfl|hc
   ·exact hbe
   ·rintro rfl
    rcases he with z|z
    ·exact nown c b hc z
    ·rw[hc] at z;cases z;exact hb rfl
end
structure Un (fs ex:2#Addr) (H H':Hp) (h h':Heap):Prop where
 keep:∀b o,h.get? b=1#o->H b=none->b∉fs->b∉ex->h'.get? b=1#o
 slot:∀b o,h.get? b=1#o->H b=none->b∈fs->b∉ex->∃sl,h'.get? b=some {o with slots:=sl}
 free:∀b o,h.get? b=1#o->H b=none->b∉ex->H' b=none
 there:∀b o,h.get? b=1#o->b∉ex->∃o',h'.get? b=1#o'
 tups:∀b xs,H b=1#(.tup xs)->H' b=1#(.tup xs)
 aV:∀b o u,H b=1#(.aF o u)->H' b=1#(.aF o u)
 tbls:∀b ps,H b=1#(.tbl ps)->∃more,H' b=1#(.tbl (ps++more))
section
variable {fs fs' ex ex':2#Addr} {H H1 H2:Hp} {h h1 h2 h':Heap} {a x e:Addr} {o:HO}
theorem Un.any (u:Un fs ex H H1 h h1) {b:Addr} (q:h.get? b=1#ob) (n:H b=none) (hx:b∉ex):∃sl,h1.get? b=some {ob with slots:=sl}:=by
 by_cases hb:b∈fs
 ·exact u.slot b ob q n hb hx
 ·exact⟨ob.slots,u.keep b ob q n hb hx⟩
theorem Un.kept (k:∀b u,h.get? b=1#u->h'.get? b=1#u):Un fs ex H H h h':=
 ⟨λb ob q _ _ _=>k b ob q,λb ob q _ _ _=>⟨ob.slots,k b ob q⟩,λ_ _ _ n _=>n,λb ob q _=>⟨ob,k b ob q⟩,λ_ _ q=>q,λ_ _ _ q=>q,λ_ ps q=>⟨#[],by rw[q];simp⟩⟩
theorem Un.refl:Un fs ex H H h h:=Un.kept λ_ _ q=>q
theorem Un.laid (k:∀b u,h.get? b=1#u->h'.get? b=1#u) (hp:h.objs.size<=a) (hn:H a=none):Un fs ex H (upd H a o) h h' where
 keep:=λb u q _ _ _=>k b u q
 slot:=λb u q _ _ _=>⟨u.slots,k b u q⟩
 free:=λb u q n _=>by rw[ao (aax (aao (aan q) hp))];exact n
 there:=λb u q _=>⟨u,k b u q⟩
 tups:=λb xs q=>by rw[ao (bx q hn)];exact q
 aV:=λb u xs q=>by rw[ao (bx q hn)];exact q
 tbls:=λb ps q=>⟨#[],by rw[ao (bx q hn),q];simp⟩
theorem Un.write (mu:w4 (H x)) (he:e=x∨H e=1#(.own x)) (k:∀b u,b≠e->h.get? b=1#u->h'.get? b=1#u) (heo:∃u,h'.get? e=1#u):Un fs ex H (upd H x o) h h':=by
 have hx:∀b,H b=none->b≠x:=λb n z=>by subst z;rw[n] at mu;exact mu
 have hb:∀b,H b=none->b≠e:=λb n z=>by
  subst z
  rcases he with r|r
  ·exact hx b n r
  ·rw[n] at r;cases r
 have hm:∀b u,H b=1#u->¬w4 1#u->b≠x:=λb u q nm z=>by subst z;rw[q] at mu;exact nm mu
 refine⟨λb u q n _ _=>k b u (hb b n) q,λb u q n _ _=>⟨u.slots,k b u (hb b n) q⟩,λb u q n _=>by rw[ao (hx b n)];exact n,λb u q _=> ?_,
  λb xs q=>by rw[ao (hm b _ q λz=>z)];exact q,λb u xs q=>by rw[ao (hm b _ q λz=>z)];exact q,λb ps q=>⟨#[],by rw[ao (hm b _ q λz=>z),q];simp⟩⟩
 by_cases hbe:b=e
 ·subst hbe;exact heo
 ·exact⟨u,k b u hbe q⟩
theorem Un.mono (u:Un fs ex H H1 h h1) (hs:∀b∈fs,b∈fs') (hx:∀b∈ex,b∈ex'):Un fs' ex' H H1 h h1:=
 ⟨λb ob q n hb he=>u.keep b ob q n (λz=>hb (hs b z)) λz=>he (hx b z),λ_ _ q n _ he=>u.any q n λz=>he (hx _ z),λb ob q n he=>u.free b ob q n λz=>he (hx b z),λb ob q he=>u.there b ob q λz=>he (hx b z),u.tups,u.aV,u.tbls⟩
end
noncomputable def Cb (h:Heap) (H:Hp):2#Addr:=(List.range h.objs.size).filter λa=>(H a).isSome
def jC (h:Heap) (H:Hp):Heap:=PySem.W.hideAll h (Cb h H)
theorem yr (h:Heap) (H:Hp):(jC h H).objs.size=h.objs.size:=PySem.W.hideAll_size _ _
theorem AB {h:Heap} {H:Hp} {b:Addr} (e:h.get? b=1#o) (n:H b=none):(jC h H).get? b=1#o:=
 PySem.W.hideAll_get _ e λhm=>by
  have q:(H b).isSome=true:=(ac8.mp hm).2;rw[n] at q;simp at q
theorem Ek {h:Heap} {H:Hp} {b:Addr} (e:(jC h H).get? b=1#o):h.get? b=1#o/\H b=none:=by
 have e':h.get? b=1#o:=PySem.W.of_hideAll (Cb h H) e;refine⟨e', ?_⟩
 cases q:H b with
 |none=>rfl
 |some x=>
  have hm:b∈Cb h H:=ac8.mpr ⟨abn.mpr (aan e'),by simp[q]⟩;have z:(jC h H).get? b=none:=PySem.W.hideAll_none (Cb h H) hm;rw[z] at e;cases e
noncomputable def Ed (g h:Heap) (L:Addr):2#(Addr×Obj):=(List.range h.objs.size).filterMap λa=>if a=L∨(g.get? a).isSome=true then none else (h.get? a).map λo=>(a,o)
def rest (g h:Heap) (L d:Addr):2#(Addr×Obj):=(Ed g h L).filter λp=>decide (p.1≠d)
structure Mod (K:8#4) (mg:8#19) (base:Heap):Prop where
 kin:K.In base
 glob:base.Ns mainGlobals mg
 blt:∃mb,base.Ns builtinsNs mb/\∀x:Str,x≠"__name__"->mb x=bootBuiltins x
 nolimit:base.NoLimit
structure Cx where
 prog:Program
 w:World
 K:PySem.W.Frag
 mg:Str->5#Value
 base:Heap
 A:Around
 N:2#Str
 s₀:Shared
 H₀:Hp
 env:Env
 outer:2#Env
 stack:2#Env
 ex:2#Addr
 fn:Str->Bool
 calm:Bool
 pn:2#(Addr×Obj)
 xe:Value->Shared->Prop
noncomputable def cF (l:2#Env):2#Addr:=l.filterMap (·.frame)
abbrev Cx.fs (X:Cx):2#Addr:=cF X.outer
def uf (sc:Scope) (x:Str):Prop:=sc.names.lookup x=1#.local∨sc.names.lookup x=1#.cell∨sc.names.lookup x=1#.free
def Loc (sc:Scope) (x:Str):Prop:=sc.names.lookup x=1#.local∨sc.names.lookup x=1#.cell
def Look (env:Env) (h:Heap) (m:8#19) (x:Str) (u:Value):Prop:=
 (env.kindOf x=1#.local/\m x=1#u)∨((env.kindOf x=1#.cell∨env.kindOf x=1#.free)/\∃c,env.cells.lookup x=1#c/\h.IsCell c 1#u)
structure Cx.Ok (X:Cx):Prop where
 mod:Mod X.K X.mg X.base
 kind:X.env.scope.kind= .function
 glob:X.env.globals=mainGlobals
 blt:X.env.builtins=builtinsNs
 above:X.s₀.heap.objs.size<=X.env.locals
 inj:∀x y c,X.env.cells.lookup x=1#c->X.env.cells.lookup y=1#c->x=y
 has:∀x,(X.env.kindOf x=1#.cell∨X.env.kindOf x=1#.free)->∃c,X.env.cells.lookup x=1#c
 cab:∀x c,X.fn x=true->X.env.cells.lookup x=1#c->X.s₀.heap.objs.size<=c
 hd:X.calm=true->X.A.handled=none
 frames:X.A.frames=1#X.stack
 stk:X.stack=X.outer∨(X.stack=X.env::X.outer/\X.env.frame=1#X.env.locals)
 exf:∀b∈X.ex,b≠X.env.locals/\∀x c,X.env.cells.lookup x=1#c->c≠b
 bs:∀b o,X.base.get? b=1#o->X.s₀.heap.get? b=1#o/\X.H₀ b=none
 bsz:X.base.objs.size<=X.s₀.heap.objs.size
 noex:∀b o,X.base.get? b=1#o->b∉X.ex
 exfs:∀b∈X.ex,b∉X.fs
 dh:X.s₀.heap.FunFrames X.base X.outer
 frf:∀b∈X.fs,X.H₀ b=none
structure Inv (X:Cx) (pins:8#5) (σ:2#5#V) (H:Hp) (s:9#2):Prop where
 ok:X.Ok
 os:s.os=X.s₀.os
 bare:AllBare s.gens
 base:Un X.fs X.ex X.H₀ H X.s₀.heap s.heap
 loc:∃m,s.heap.Ns X.env.locals m/\∀(i:Nat) (x:Str) (v:V),X.N[i]?=1#x->σ[i]?=1#1#v->uf X.env.scope x->∃u,RelV v u/\Look X.env s.heap m x u
 cell:∀x c,X.env.cells.lookup x=1#c->∃v,s.heap.IsCell c v
 free:H X.env.locals=none
 freeC:∀x c,X.env.cells.lookup x=1#c->H c=none
 pin:∀p∈X.pn++pins,s.heap.get? p.1=1#p.2/\H p.1=none/\p.1≠X.env.locals/\p.1∉X.fs/\∀v,p.2.data≠ .cell v
 ah:bE X.prog X.w H s.heap
 len:0#σ=0#X.N
section
variable {X:Cx} {pins:8#5} {σ:2#5#V} {H H':Hp} {s:9#2} {h':Heap}
theorem Cx.Ok.K7 (ok:X.Ok) {b:Addr} (e:X.base.get? b=1#o):b∉X.fs:=λhb=>by
 have:=(ok.dh.mem hb).1;rw[e] at this;cases this
theorem Inv.bs (I:8#1):∀b o,X.base.get? b=1#o->s.heap.get? b=1#o/\H b=none:=λb o e=>
 ⟨I.base.keep b o (I.ok.bs b o e).1 (I.ok.bs b o e).2 (I.ok.K7 e) (I.ok.noex b o e),I.base.free b o (I.ok.bs b o e).1 (I.ok.bs b o e).2 (I.ok.noex b o e)⟩
theorem Inv.bk (I:8#1):∀b o,X.base.get? b=1#o->s.heap.get? b=1#o:=λb o e=>(I.bs b o e).1
theorem Inv.mod (I:8#1):Mod X.K X.mg X.base:=I.ok.mod
theorem Inv.bT (I:8#1):X.K.In s.heap:=I.ok.mod.kin.keeps I.bk
theorem Inv.lt (I:8#1):X.env.locals<s.heap.objs.size:=let ⟨_,hn,_⟩:=I.loc;hn.lt
theorem Inv.sz (I:8#1):X.s₀.heap.objs.size<=s.heap.objs.size:=aaQ I.ok.above (abw I.lt)
theorem Inv.Fv (I:8#1) {a:Addr} (h:s.heap.objs.size<=a):a∉X.fs:=λhb=>by
 let⟨_,o,ho,_⟩:=I.ok.dh.mem hb;exact absurd (aao (aan ho) (aaQ I.sz h)) (aa5 _)
theorem Inv.mJ (I:8#1):∀x c,X.env.cells.lookup x=1#c->c≠X.env.locals:=λx c e z=>by
 let⟨v,o,ho,hd⟩:=I.cell x c e;let⟨m,⟨o',es,ep,ho',hd',_⟩,_⟩:=I.loc;rw[z,ho'] at ho;cases ho;rw[hd'] at hd;cases hd
theorem Inv.dh (I:8#1):s.heap.FunFrames X.base X.outer:=by
 have all:∀(l:2#Env),(∀b∈cF l,b∈X.fs)->X.s₀.heap.FunFrames X.base l->s.heap.FunFrames X.base l:=by
  intro l
  induction l with
  |nil=>intro _ _;trivial
  |cons env r ih=>
   intro hs hl;let⟨hk,⟨L,o,hf,hn,ho,hd⟩,hr⟩:=hl;have hL:L∈X.fs:=hs L (by unfold cF;rw[abN,hf];exact aaz);let⟨sl,e⟩:=I.base.slot L o ho (I.ok.frf L hL) hL λz=>I.ok.exfs L z hL;exact⟨hk,⟨L,_,hf,hn,e,hd⟩,ih (λb hb=>hs b (by unfold cF;rw[abN,hf];exact aat _ hb)) hr⟩
 exact all X.outer (λ_ hb=>hb) I.ok.dh
theorem Inv.stack (I:8#1):s.heap.FunFrames X.base X.stack:=by
 rcases I.ok.stk with e|⟨e,hf⟩
 ·rw[e];exact I.dh
 ·rw[e];let⟨m,hn,_⟩:=I.loc;refine .cons (by rw[I.ok.kind];decide) hf hn ?_ I.dh;exact abd (aaQ I.ok.bsz I.ok.above)
theorem Inv.qB (I:8#1):∀b∈cF X.stack,b∈X.env.locals::X.fs:=λb hb=>by
 rcases I.ok.stk with e|⟨e,hf⟩
 ·rw[e] at hb;exact aat _ hb
 ·rw[e] at hb;unfold cF at hb;rw[abN,hf] at hb;exact hb
theorem Inv.kO (I:8#1):∀b∈cF X.stack,H b=none:=λb hb=>by
 rcases aap.mp (I.qB b hb) with e|hb
 ·rw[e];exact I.free
 ·let⟨_,o,ho,_⟩:=I.ok.dh.mem hb;exact I.base.free b o ho (I.ok.frf b hb) λz=>I.ok.exfs b z hb
theorem Inv.step {t':Nat} {ch:2#Addr} (I:8#1)
  (hch:8#24)
  (keep:∀b o,b≠X.env.locals->b∉X.fs->b∉ch->s.heap.get? b=1#o->H b=none->h'.get? b=1#o)
  (slot:∀b o,b≠X.env.locals->b∈X.fs->b∉ch->s.heap.get? b=1#o->H b=none->∃sl,h'.get? b=some {o with slots:=sl}) (free:∀b o,b∉ch->s.heap.get? b=1#o->H b=none->H' b=none)
  (there:∀b o,b∉ch->s.heap.get? b=1#o->∃o',h'.get? b=1#o')
  (tups:∀b xs,H b=1#(.tup xs)->H' b=1#(.tup xs)) (aV:∀b o u,H b=1#(.aF o u)->H' b=1#(.aF o u)) (tbls:∀b ps,H b=1#(.tbl ps)->∃more,H' b=1#(.tbl (ps++more)))
  (ns:∀m,s.heap.Ns X.env.locals m->h'.Ns X.env.locals m) (ah:bE X.prog X.w H' h') (hg:AllBare g'):
  Inv X pins σ H' {s with heap:=h',gens:=g',drawn:=d',toks:=t'}:=by
 have neL:∀b o,X.s₀.heap.get? b=1#o->b≠X.env.locals:=λb o e=>aax (aao (aan e) I.ok.above)
 have neC:∀b o,X.s₀.heap.get? b=1#o->b∉X.ex->b∉ch:=λb o e hx hb=>by
  rcases (hch b hb).1 with z|z
  ·exact hx z
  ·exact absurd (aao (aan e) z) (aa5 _)
 have cellK:∀x c,X.env.cells.lookup x=1#c->∀v,s.heap.IsCell c v->h'.IsCell c v:=λx c e v z904=>by
  let⟨o,ho,hd⟩:=z904;have nch:c∉ch:=λz=>(hch c z).2.2.1 x c e rfl
  by_cases hc:c∈X.fs
  ·let⟨sl,q⟩:=slot c o (I.mJ x c e) hc nch ho (I.freeC x c e);exact⟨_,q,hd⟩
  ·exact⟨o,keep c o (I.mJ x c e) hc nch ho (I.freeC x c e),hd⟩
 refine⟨I.ok,I.os,hg,⟨λb o e n hb hx=> ?_,λb o e n hb hx=> ?_,λb o e n hx=> ?_,λb o e hx=> ?_,λb xs e=>tups b xs (I.base.tups b xs e),λb o xs e=>aV b o xs (I.base.aV b o xs e),λb ps e=> ?_⟩, ?_,λx c e=> ?_, ?_,λx c e=> ?_,λp hp=> ?_,ah,I.len⟩
 ·exact keep b o (neL b o e) hb (neC b o e hx) (I.base.keep b o e n hb hx) (I.base.free b o e n hx)
 ·let⟨sl,e1⟩:=I.base.slot b o e n hb hx;let⟨sl',e2⟩:=slot b _ (neL b o e) hb (neC b o e hx) e1 (I.base.free b o e n hx);exact⟨sl',e2⟩
 ·let⟨o',e1⟩:=I.base.there b o e hx;exact free b o' (neC b o e hx) e1 (I.base.free b o e n hx)
 ·let⟨o',e1⟩:=I.base.there b o e hx;exact there b o' (neC b o e hx) e1
 ·let⟨m1,e1⟩:=I.base.tbls b ps e;let⟨m2,e2⟩:=tbls b _ e1;exact⟨m1++m2,by rw[e2,Array.append_assoc]⟩
 ·let⟨m,hn,hl⟩:=I.loc;refine⟨m,ns m hn,λi x v e1 e2 e3=> ?_⟩;let⟨u,r,l⟩:=hl i x v e1 e2 e3;refine⟨u,r, ?_⟩
  rcases l with l|⟨k,c,e,z⟩
  ·exact .inl l
  ·exact .inr ⟨k,c,e,cellK x c e _ z⟩
 ·let⟨v,z⟩:=I.cell x c e;exact⟨v,cellK x c e v z⟩
 ·let⟨m,⟨o,_,_,ho,_⟩,_⟩:=I.loc;exact free _ o (λz=>(hch _ z).2.1 rfl) ho I.free
 ·let⟨v,o,ho,hd⟩:=I.cell x c e;exact free c o (λz=>(hch c z).2.2.1 x c e rfl) ho (I.freeC x c e)
 ·let⟨e,n,ne,nf,d⟩:=I.pin p hp;have nch:p.1∉ch:=λz=>(hch p.1 z).2.2.2 p hp rfl;exact⟨keep p.1 p.2 ne nf nch e n,free p.1 p.2 nch e n,ne,nf,d⟩
theorem Inv.un {t':Nat} (I:8#1) (u:Un X.fs [] H H' s.heap h') (ah:bE X.prog X.w H' h'):Inv X pins σ H' {s with heap:=h',toks:=t'}:=by
 let⟨m,⟨o,es,ep,ho,r⟩,_⟩:=id I.loc;let⟨sl,hL⟩:=u.any ho I.free 8#7
 exact I.step (g':=s.gens) (d':=s.drawn) (ch:=[]) (λ_ z=>nomatch z) (λb o _ hb _ e n=>u.keep b o e n hb 8#7) (λb o _ hb _ e n=>u.slot b o e n hb 8#7) (λb o _ e n=>u.free b o e n 8#7) (λb o _ e=>u.there b o e 8#7) u.tups u.aV u.tbls (λm' hm=>by
  let⟨o',es',ep',ho',r'⟩:=hm;rw[ho] at ho';cases ho'
  exact⟨_,es',ep',hL,r'⟩) ah I.bare
theorem Inv.call {t':Nat} {ch:2#Addr} (I:8#1) (u:Un (cF X.stack) ch H H' s.heap h') (ah:bE X.prog X.w H' h') (hg:AllBare g')
  (hch:8#24):
  Inv X pins σ H' {s with heap:=h',gens:=g',drawn:=d',toks:=t'}:=by
 let⟨m,⟨o,es,ep,ho,r⟩,_⟩:=id I.loc;let⟨sl,hL⟩:=u.any ho I.free λz=>(hch _ z).2.1 rfl
 exact I.step (ch:=ch) hch (λb o hL hb hc e n=>u.keep b o e n (λz=>(aap.mp (I.qB b z)).elim hL hb) hc) (λb o _ _ hc e n=>u.any e n hc) (λb o hc e n=>u.free b o e n hc) (λb o hc e=>u.there b o e hc) u.tups u.aV u.tbls (λm' hm=>by
  let⟨o',es',ep',ho',r'⟩:=hm;rw[ho] at ho';cases ho'
  exact⟨_,es',ep',hL,r'⟩) ah hg
theorem Inv.turned {t':Nat} (I:8#1) (k:∀b o,b≠it->s.heap.get? b=1#o->h'.get? b=1#o) (hn:H it=none) (hL:it≠X.env.locals)
  (h1:it∈X.ex∨X.s₀.heap.objs.size<=it) (h2:∀x c,X.env.cells.lookup x=1#c->c≠it) (h3:∀p∈X.pn++pins,p.1≠it):Inv X pins σ H {s with heap:=h',toks:=t'}:=by
 have nit:∀b u,H b=1#u->b≠it:=λb u e z=>by rw[z,hn] at e;cases e
 refine I.step (g':=s.gens) (d':=s.drawn) (ch:=[it]) (λb hb=> ?_) (λb o _ _ hc e _=>k b o (λz=>hc (by simp[z])) e) (λb o _ _ hc e _=>⟨o.slots,k b o (λz=>hc (by simp[z])) e⟩) (λ_ _ _ _ n=>n)
  (λb o hc e=>⟨o,k b o (λz=>hc (by simp[z])) e⟩) (λ_ _ e=>e) (λ_ _ _ e=>e) (λb ps e=>⟨#[],by rw[e];simp⟩) (λm hm=> ?_) (λb u e=> ?_) I.bare
 ·have e:b=it:=by simpa using hb
  subst e;exact⟨h1,hL,h2,h3⟩
 ·let⟨o,es,ep,ho,r⟩:=hm;exact⟨o,es,ep,k _ o (Ne.symm hL) ho,r⟩
 ·refine(I.ah b u e).iE (λc v hc q=>k c v ?_ q) (λ_ q=>q) λ_ _ q=>q
  rcases hc with z|z
  ·rw[z];exact nit b u e
  ·exact nit c _ z
theorem Inv.tok (I:8#1) (t:Nat):Inv X pins σ H {s with toks:=t}:=I.un (h':=s.heap) (t':=t) Un.refl I.ah
theorem Inv.kept {t':Nat} (I:8#1) (k:∀b u,s.heap.get? b=1#u->h'.get? b=1#u):Inv X pins σ H {s with heap:=h',toks:=t'}:=I.un (Un.kept k) (I.ah.kept k)
theorem Inv.laid {a:Addr} {o:HO} {t':Nat} (I:8#1) (k:∀b u,s.heap.get? b=1#u->h'.get? b=1#u) (hp:s.heap.objs.size<=a) (new:aK X.prog X.w (upd H a o) h' a o):
  Inv X pins σ (upd H a o) {s with heap:=h',toks:=t'}:=I.un (Un.laid k hp (I.ah.fresh hp)) (I.ah.laid k hp new)
theorem Inv.write {x e:Addr} {o:HO} {t':Nat} (I:8#1) (mu:w4 (H x)) (he:e=x∨H e=1#(.own x)) (k:∀b u,b≠e->s.heap.get? b=1#u->h'.get? b=1#u) (heo:∃u,h'.get? e=1#u)
  (new:aK X.prog X.w (upd H x o) h' x o):Inv X pins σ (upd H x o) {s with heap:=h',toks:=t'}:=I.un (Un.write mu he k heo) (I.ah.write mu he k heo new)
theorem Inv.cz (I:8#1) (h:∀p∈pins',s.heap.get? p.1=1#p.2/\H p.1=none/\p.1≠X.env.locals/\p.1∉X.fs/\∀v,p.2.data≠ .cell v):Inv X pins' σ H s:=
 ⟨I.ok,I.os,I.bare,I.base,I.loc,I.cell,I.free,I.freeC,λp hp=>(aaC.mp hp).elim (λz=>I.pin p (aaS _ z)) (h p),I.ah,I.len⟩
theorem mz {N:2#Str} (hN:N.Nodup) {i j:Nat} {x:Str} (a:N[i]?=1#x) (b:N[j]?=1#x):i=j:=by
 let⟨h1,e1⟩:=aad.mp a;let⟨h2,e2⟩:=aad.mp b;exact(List.getElem_inj hN).mp (e1.trans e2.symm)
theorem oN {M:Model} {A:Around} {E:8#2} {i:Nat} {x:Str} {v:V} {u:Value} {Q:Unit->Shared->Prop} (I:8#1) (hN:X.N.Nodup) (hi:X.N[i]?=1#x) (hx:Loc X.env.scope x) (r:RelV v u)
  (h:∀s',Inv X pins (σ.set i 1#v) H s'->(∃a,Heap.SameBut a s.heap s'.heap/\(a=X.env.locals∨X.env.cells.lookup x=1#a))->Q () s') (hf:X.fn x=true∨X.env.scope.names.lookup x=1#.local:=by first|exact .inl rfl|exact .inr rfl|assumption):wpAny M A (storeName X.env x u) Q E s:=by
 let⟨m,hn,hl⟩:=id I.loc
 have hcls:(X.env.scope.kind== .class||(X.env.scope.kind== .module&&X.env.locals !=X.env.globals))=false:=by rw[I.ok.kind];rfl
 have hiσ:i<0#σ:=by rw[I.len];exact(aad.mp hi).1
 have mJ:=I.mJ
 have tracked:∀{a:Addr} {h':Heap},(∃o,s.heap.get? a=1#o/\H a=none)->Heap.SameBut a s.heap h'->bE X.prog X.w H h':=λ{a h'} ha hs b ob e=>by
  let⟨_,_,hfree⟩:=ha;refine(I.ah b ob e).iE (λc w' hc q=>(hs.2 c ?_).trans q) (λ_ q=>q) λ_ _ q=>q
  rintro rfl
  rcases hc with rfl|hc
  ·rw[hfree] at e;cases e
  ·rw[hfree] at hc;cases hc
 rcases hx with hk|hk
 ·refine wpAny_storeName_local hk hn (λh' hn' hs=> ?_) hcls;let⟨oL,_,_,hoL,_⟩:=id hn;refine h _ ⟨I.ok,I.os,I.bare,⟨λb o e n hb hx=> ?_,λb o e n hb hx=> ?_,I.base.free,λb o e hx=> ?_,I.base.tups,I.base.aV,I.base.tbls⟩,⟨_,hn',λj y v' e1 e2 e3=> ?_⟩,λy c e=> ?_,I.free,I.freeC,λp hp=> ?_,tracked ⟨oL,hoL,I.free⟩ hs,by simpa using I.len⟩ ⟨_,hs, .inl rfl⟩
  ·exact(hs.2 b (aax (aao (aan e) I.ok.above))).trans (I.base.keep b o e n hb hx)
  ·let⟨sl,e1⟩:=I.base.slot b o e n hb hx;exact⟨sl,(hs.2 b (aax (aao (aan e) I.ok.above))).trans e1⟩
  ·let⟨o',e1⟩:=I.base.there b o e hx;exact⟨o',(hs.2 b (aax (aao (aan e) I.ok.above))).trans e1⟩
  ·by_cases hj:j=i
   ·subst hj;rw[hi] at e1;cases e1;rw[aa6 hiσ] at e2;cases e2;exact⟨u,r, .inl ⟨hk,by simp⟩⟩
   ·rw[aaY (Ne.symm hj)] at e2;let⟨u',r',q⟩:=hl j y v' e1 e2 e3;refine⟨u',r', ?_⟩
    rcases q with⟨k,e⟩|⟨k,c,e,z⟩
    ·refine .inl ⟨k, ?_⟩;have:y≠x:=λe=>hj (mz hN e1 (e▸hi));simp[this,e]
    ·exact .inr ⟨k,c,e,z.sameBut hs (mJ y c e)⟩
  ·let⟨w',z⟩:=I.cell y c e;exact⟨w',z.sameBut hs (mJ y c e)⟩
  ·let⟨e,n,ne,nf,d⟩:=I.pin p hp;exact⟨(hs.2 p.1 ne).trans e,n,ne,nf,d⟩
 ·have hfn:X.fn x=true:=by
   rcases hf with z|z
   ·exact z
   ·rw[z] at hk;cases hk
  let⟨c,hc⟩:=I.ok.has x (.inl hk);let⟨w',z⟩:=I.cell x c hc;refine wpAny_storeName_cell I.ok.kind hk hc z (λh' hc' hs=> ?_);let⟨oc,hoc,hocd⟩:=id z;refine h {s with heap:=h'} ⟨I.ok,I.os,I.bare,⟨λb o e n hb hx=> ?_,λb o e n hb hx=> ?_,I.base.free,λb o e hx=> ?_,I.base.tups,I.base.aV,I.base.tbls⟩,⟨m,hn.sameBut hs (Ne.symm (mJ x c hc)),λj y v' e1 e2 e3=> ?_⟩,λy c' e=> ?_,I.free,I.freeC,λp hp=> ?_,tracked ⟨oc,hoc,I.freeC x c hc⟩ hs,by simpa using I.len⟩ ⟨c,hs, .inr hc⟩
  ·exact(hs.2 b (aax (aao (aan e) (I.ok.cab x c hfn hc)))).trans (I.base.keep b o e n hb hx)
  ·let⟨sl,e1⟩:=I.base.slot b o e n hb hx;exact⟨sl,(hs.2 b (aax (aao (aan e) (I.ok.cab x c hfn hc)))).trans e1⟩
  ·let⟨o',e1⟩:=I.base.there b o e hx;exact⟨o',(hs.2 b (aax (aao (aan e) (I.ok.cab x c hfn hc)))).trans e1⟩
  ·by_cases hj:j=i
   ·subst hj;rw[hi] at e1;cases e1;rw[aa6 hiσ] at e2;cases e2;exact⟨u,r, .inr ⟨.inl hk,c,hc,hc'⟩⟩
   ·rw[aaY (Ne.symm hj)] at e2;let⟨u',r',q⟩:=hl j y v' e1 e2 e3;refine⟨u',r', ?_⟩
    rcases q with q|⟨k,c',e,z'⟩
    ·exact .inl q
    ·refine .inr ⟨k,c',e,z'.sameBut hs ?_⟩
     rintro rfl
     exact hj (mz hN e1 (I.ok.inj _ _ _ e hc▸hi))
  ·by_cases hcc:c'=c
   ·subst hcc;exact⟨_,hc'⟩
   ·let⟨w2,z2⟩:=I.cell y c' e;exact⟨w2,z2.sameBut hs hcc⟩
  ·let⟨e,n,ne,nf,d⟩:=I.pin p hp;refine⟨(hs.2 p.1 ?_).trans e,n,ne,nf,d⟩;intro q;rw[q,hoc] at e;have q':oc=p.2:=Option.some.inj e;exact d w' (by rw[←q'];exact hocd)
theorem mi {M:Model} {A:Around} {E:8#2} {i:Nat} {x:Str} {v:V} {u:Value} {Q:Unit->Shared->Prop} (I:8#1) (hN:X.N.Nodup) (hi:X.N[i]?=1#x) (hx:Loc X.env.scope x) (r:RelV v u)
  (h:∀s',Inv X pins (σ.set i 1#v) H s'->Q () s') (hf:X.fn x=true∨X.env.scope.names.lookup x=1#.local:=by first|exact .inl rfl|exact .inr rfl|assumption):wpAny M A (storeName X.env x u) Q E s:=
 oN I hN hi hx r (λs' I' _=>h s' I') hf
theorem Inv.vH {s':9#2} {ch:2#Addr} (I:8#1) (ho:s'.os=s.os) (u:Un (cF X.stack) ch H H' s.heap s'.heap) (ah:bE X.prog X.w H' s'.heap) (hg:AllBare s'.gens)
  (hch:8#24):Inv X pins σ H' s':=by
 let⟨h',g',d',t',o'⟩:=s';have e:o'=s.os:=ho;subst e;exact I.call (g':=g') (t':=t') (d':=d') u ah hg hch
end
abbrev XK:=Value->5#Addr->Hp->Prop
abbrev St:=2#5#V
abbrev VK:=V->Hp->Prop
abbrev TE:=St->Hp->VK->Prop
abbrev TT:=St->Hp->(Bool->Hp->Prop)->Prop
abbrev TA:=St->Hp->(2#V->Hp->Prop)->Prop
structure Ends where
 nx:St->Hp->Prop
 rt:VK
 bk:St->Hp->Prop:=λ_ _=>False
 ct:St->Hp->Prop:=λ_ _=>False
abbrev TS:=Ends->St->Hp->Prop
def EP (X:Cx) (pins:8#5) (σ:St) (Q:VK) (u:Value) (s':9#2):Prop:=∃v H',Inv X pins σ H' s'/\RelV v u/\Q v H'
def TP (X:Cx) (pins:8#5) (σ:St) (Q:Bool->Hp->Prop) (b:Bool) (s':9#2):Prop:=∃H',Inv X pins σ H' s'/\Q b H'
def AP (X:Cx) (pins:8#5) (σ:St) (Q:2#V->Hp->Prop) (us:8#36) (s':9#2):Prop:=∃vs H',Inv X pins σ H' s'/\Vals vs us/\Q vs H'
def SP (X:Cx) (pins:8#5) (D:Ends) (f:Flow) (s':9#2):Prop:=
 match f with
 | .next=>∃σ' H',Inv X pins σ' H' s'/\D.nx σ' H'
 | .brk=>∃σ' H',Inv X pins σ' H' s'/\D.bk σ' H'
 | .cont=>∃σ' H',Inv X pins σ' H' s'/\D.ct σ' H'
 | .ret u=>∃v σ' H',Inv X pins σ' H' s'/\RelV v u/\D.rt v H'
def PE (X:Cx) (e:Expr) (t:TE):Prop:=
 ∀(pins:8#5) (s:9#2) (σ:St) (H:Hp) (Q:VK),Inv X pins σ H s->t σ H Q->wpAny 8#3 X.A (eval e X.env) (EP X pins σ Q) X.xe s
def PT (X:Cx) (e:Expr) (t:TT):Prop:=
 ∀(pins:8#5) (s:9#2) (σ:St) (H:Hp) (Q:Bool->Hp->Prop),Inv X pins σ H s->t σ H Q->wpAny 8#3 X.A (isTrue e X.env (eval e X.env)) (TP X pins σ Q) X.xe s
def PW (X:Cx) (e:Expr) (t:TT):Prop:=
 ∀(whole:Sem Value) (pins:8#5) (s:9#2) (σ:St) (H:Hp) (Q:Bool->Hp->Prop),Inv X pins σ H s->t σ H Q->wpAny 8#3 X.A (isTrue e X.env whole) (TP X pins σ Q) X.xe s
theorem PW.pt {X:Cx} {e:Expr} {t:TT} (h:PW X e t):PT X e t:=h _
def PA (X:Cx) (es:2#Expr) (t:TA):Prop:=
 ∀(pos:Pos) (pins:8#5) (s:9#2) (σ:St) (H:Hp) (Q:2#V->Hp->Prop),Inv X pins σ H s->t σ H Q->wpAny 8#3 X.A (spliced (backTo pos (starEach es X.env))) (AP X pins σ Q) X.xe s
def PS (X:Cx) (st:Stmt) (t:TS):Prop:=
 ∀(pins:8#5) (s:9#2) (σ:St) (H:Hp) (D:Ends),Inv X pins σ H s->t D σ H->wpAny 8#3 X.A (exec st X.env) (SP X pins D) X.xe s
def bS (X:Cx) (st:2#Stmt) (t:TS):Prop:=
 ∀(pins:8#5) (s:9#2) (σ:St) (H:Hp) (D:Ends),Inv X pins σ H s->t D σ H->wpAny 8#3 X.A (execs st X.env) (SP X pins D) X.xe s
theorem ay {α:Type} {t:Sem α} {Q Q':α->Shared->Prop} {M:Model} {A:Around} {E:8#2} {s:9#2} (h:wpAny M A t Q E s) (hQ:∀a s,Q a s->Q' a s):wpAny M A t Q' E s:=aaL h hQ λ_ _ x=>x
section
variable {X:Cx}
def LO (i:Nat):TE:=λσ H Q=>∃v,σ[i]?=1#1#v/\Q v H
def tC (v:V):TE:=λ_ H Q=>Q v H
theorem Hn {i:Nat} {x:Str} (hN:X.N[i]?=1#x) (hv:uf X.env.scope x) (hd:(x==("__debug__":Str))=false:=by decide) (hcd:(x==("__classdict__":Str))=false:=by decide):PE X (.Name x pos) (LO i):=by
 intro pins s σ H Q I h;let⟨v,e,h⟩:=h;let⟨m,hn,hl⟩:=I.loc;let⟨u,r,l⟩:=hl i x v hN e hv;have fin:EP X pins σ Q u s:=⟨v,H,I,r,h⟩
 rcases l with⟨hk,hm⟩|⟨hk,c,hc,hcell⟩
 ·exact wpAny_Name (wpAny_loadName_local I.ok.kind hk hn hm fin) hd
 ·rcases hk with hk|hk
  ·exact wpAny_Name (wpAny_loadName_cell I.ok.kind hk hc hcell fin) hd
  ·exact wpAny_Name (wpAny_loadName_free I.ok.kind hk hc hcell fin hcd) hd
theorem HD {i j pos}:PE X (.Constant 6#i j pos) (tC 6#i):=λ_ _ _ H _ I h=>wpAny_Constant_int ⟨6#i,H,I.tok _,⟨_,rfl⟩,h⟩
theorem Jt {b j pos}:PE X (.Constant (.bool b) j pos) (tC (.bl b)):=λ_ _ _ H _ I h=>Constant_bool ⟨.bl b,H,I,rfl,h⟩
theorem HG {j pos}:PE X (.Constant .none j pos) (tC .non):=λ_ _ _ H _ I h=>Constant_none ⟨.non,H,I,rfl,h⟩
theorem Fl {x j pos}:PE X (.Constant (.str x) j pos) (tC (.str x)):=λ_ _ _ H _ I h=>Calls.Constant_str ⟨.str x,H,I.tok _,⟨_,rfl⟩,h⟩
def Gl (X:Cx) (x:Str):Prop:=X.env.kindOf x=1#.globalImplicit
theorem eB {E:8#2} {s:9#2} {σ:St} {H:Hp} {x:Str} {u:Value} {Q:8#2} (I:8#1) (hg:Gl X x) (hm:X.mg x=1#u) (h:Q u s)
  (hd:(x==("__debug__":Str))=false:=by decide):wpAny 8#3 X.A (eval (.Name x pos) X.env) Q E s:=
 Calls.Name_function_global I.ok.kind hg (Calls.loadGlobal_global (by rw[I.ok.glob];exact I.mod.glob.keeps I.bk) hm h) hd
theorem iW {E:8#2} {s:9#2} {σ:St} {H:Hp} {x:Str} {u:Value} {Q:8#2} (I:8#1) (hg:Gl X x) (hm:X.mg x=none) (hv:bootBuiltins x=1#u) (h:Q u s)
  (hn:x≠"__name__":=by decide) (hd:(x==("__debug__":Str))=false:=by decide):wpAny 8#3 X.A (eval (.Name x pos) X.env) Q E s:=by
 let⟨mb,h1,h2⟩:=I.mod.blt;exact Calls.Name_function_global I.ok.kind hg (Calls.loadGlobal_builtin (by rw[I.ok.glob];exact I.mod.glob.keeps I.bk) hm (by rw[I.ok.blt];exact h1.keeps I.bk) ((h2 x hn).trans hv) h) hd
theorem kI {x:Str} {v:V} {u:Value} (hg:Gl X x) (hm:X.mg x=1#u) (r:RelV v u) (hd:(x==("__debug__":Str))=false:=by decide):PE X (.Name x pos) (tC v):=
 λ_ _ _ H _ I h=>eB I hg hm ⟨v,H,I,r,h⟩ hd
theorem vo {x:Str} {v:V} {u:Value} (hg:Gl X x) (hm:X.mg x=none) (hv:bootBuiltins x=1#u) (r:RelV v u) (hn:x≠"__name__":=by decide) (hd:(x==("__debug__":Str))=false:=by decide):PE X (.Name x pos) (tC v):=
 λ_ _ _ H _ I h=>iW I hg hm hv ⟨v,H,I,r,h⟩ hn hd
variable {a b:Expr} {ta tb:TE} {pos:Pos}
variable {tA tB':TT} {rest:2#Expr}
def LW (t u:TT):TT:=λσ H Q=>t σ H λc H1=>if c=true then u σ H1 Q else Q false H1
def tOr (t u:TT):TT:=λσ H Q=>t σ H λc H1=>if c=true then Q true H1 else u σ H1 Q
def LQ (t:TT):TT:=λσ H Q=>t σ H λc H1=>Q (!c) H1
theorem Du (ha:PT X a tA):PW X (.BoolOp .And [a] pos) tA:=by
 intro wh pins s σ H Q I h;refine isTrue_and (ay (ha pins s σ H Q I h) λc s1 e=> ?_)
 cases c with
 |true=>exact isTrue_and_nil e
 |false=>exact e
theorem Fm (ha:PT X a tA):PW X (.BoolOp .Or [a] pos) tA:=by
 intro wh pins s σ H Q I h;refine isTrue_or (ay (ha pins s σ H Q I h) λc s1 e=> ?_)
 cases c with
 |false=>exact isTrue_or_nil e
 |true=>exact e
theorem Gk (ha:PT X a tA) (hb:PW X (.BoolOp .And (b::rest) pos) tB'):PW X (.BoolOp .And (a::b::rest) pos) (LW tA tB'):=by
 intro wh pins s σ H Q I h;refine isTrue_and (ay (ha pins s σ H _ I h) λc s1 z902=> ?_);let⟨H1,I1,q1⟩:=z902
 cases c with
 |true=>exact hb wh pins s1 σ H1 Q I1 q1
 |false=>exact⟨H1,I1,q1⟩
theorem JX (ha:PT X a tA) (hb:PW X (.BoolOp .Or (b::rest) pos) tB'):PW X (.BoolOp .Or (a::b::rest) pos) (tOr tA tB'):=by
 intro wh pins s σ H Q I h;refine isTrue_or (ay (ha pins s σ H _ I h) λc s1 z902=> ?_);let⟨H1,I1,q1⟩:=z902
 cases c with
 |true=>exact⟨H1,I1,q1⟩
 |false=>exact hb wh pins s1 σ H1 Q I1 q1
theorem EK (ha:PT X a tA):PT X (.UnaryOp .Not a pos) (LQ tA):=by
 intro pins s σ H Q I h;exact isTrue_not (ha pins s σ H (λc H1=>Q (!c) H1) I h)
def IB (ta tb:TE):TE:=λσ H Q=>ta σ H λx H1=>∃c,x= .bl c/\if c=true then tb σ H1 Q else Q (.bl false) H1
def MM (ta tb:TE):TE:=λσ H Q=>ta σ H λx H1=>∃c,x= .bl c/\if c=true then Q (.bl true) H1 else tb σ H1 Q
def JM (ta:TE):TE:=λσ H Q=>ta σ H λx H1=>∃c,x= .bl c/\Q (.bl (!c)) H1
theorem GN {op} {t:TE} (h:PE X a t):PE X (.BoolOp op [a] pos) t:=λpins s σ H Q I hw=>BoolOp_one (h pins s σ H Q I hw)
theorem GG (ha:PE X a ta) (hb:PE X (.BoolOp .And (b::rest) pos) tb):PE X (.BoolOp .And (a::b::rest) pos) (IB ta tb):=by
 intro pins s σ H Q I h;refine BoolOp_and (ay (ha pins s σ H _ I h) λv s1 z902=> ?_);let⟨x,H1,I1,r1,q1⟩:=z902;let⟨c,rfl,q1⟩:=q1;cases r1;refine abG ?_
 cases c with
 |true=>exact hb pins s1 σ H1 Q I1 q1
 |false=>exact⟨.bl false,H1,I1,rfl,q1⟩
theorem Iw (ha:PE X a ta) (hb:PE X (.BoolOp .Or (b::rest) pos) tb):PE X (.BoolOp .Or (a::b::rest) pos) (MM ta tb):=by
 intro pins s σ H Q I h;refine BoolOp_or (ay (ha pins s σ H _ I h) λv s1 z902=> ?_);let⟨x,H1,I1,r1,q1⟩:=z902;let⟨c,rfl,q1⟩:=q1;cases r1;refine abG ?_
 cases c with
 |false=>exact hb pins s1 σ H1 Q I1 q1
 |true=>exact⟨.bl true,H1,I1,rfl,q1⟩
theorem Hl (ha:PE X a ta):PE X (.UnaryOp .Not a pos) (JM ta):=by
 intro pins s σ H Q I h;refine UnaryOp_ (ay (ha pins s σ H _ I h) λv s1 z902=> ?_);let⟨x,H1,I1,r1,q1⟩:=z902;let⟨c,rfl,q1⟩:=q1;cases r1;exact not_of (abG ⟨.bl (!c),H1,I1,rfl,q1⟩)
def tIf (t:TT) (ta tb:TE):TE:=λσ H Q=>t σ H λc H1=>if c=true then ta σ H1 Q else tb σ H1 Q
theorem BC {c:Expr} (hc:PT X c tA) (ha:PE X a ta) (hb:PE X b tb):PE X (.IfExp c a b pos) (tIf tA ta tb):=by
 intro pins s σ H Q I h;refine wpAny_IfExp (ay (hc pins s σ H _ I h) λd s1 z902=> ?_);let⟨H1,I1,q1⟩:=z902
 cases d with
 |true=>exact ha pins s1 σ H1 Q I1 q1
 |false=>exact hb pins s1 σ H1 Q I1 q1
end
def bU (K:8#4) (H:Hp) (a:Addr) (xs:2#V):Prop:=
 Rd H a 7#xs∨
  ∃(o:Obj) (its:Array Value) (n:Nat),K.lookup a=1#o/\o.cls= .type "list"/\o.dict=none/\o.data= .seq its n/\its.size<=sizeLine/\Vals xs its.toList
def cU (K:8#4) (H:Hp) (a:Addr) (xs:2#V):Prop:=
 Rd H a (.tup xs)∨
  ∃(o:Obj) (its:Array Value) (n:Nat),K.lookup a=1#o/\o.cls= .type "tuple"/\o.data= .seq its n/\its.size<=sizeLine/\Vals xs its.toList
noncomputable def LH:Value->5#V
 | .none=>1#.non
 | .bool b=>1#(.bl b)
 | .int i _=>1#6#i
 | .str x _=>1#(.str x)
 | .bytes b _=>1#(.byt b)
 | .float b _=>1#(.flt b)
 | .ref a=>1#3#a
 | .type n=>1#(.ty n)
 |_=>none
theorem RelV.abs {x:V} {u:Value} (r:RelV x u):LH u=1#x:=by
 cases x with
 |non=>cases r;rfl
 |bl _=>cases r;rfl
 |int _=>let⟨t,rfl⟩:=r;rfl
 |str _=>let⟨t,rfl⟩:=r;rfl
 |byt _=>let⟨t,rfl⟩:=r;rfl
 |flt _=>let⟨t,rfl⟩:=r;rfl
 |ref _=>cases r;rfl
 |ty _=>cases r;rfl
theorem RelV.inj {x y:V} {u:Value} (r:RelV x u) (q:RelV y u):x=y:=Option.some.inj (r.abs.symm.trans q.abs)
theorem Vals.inj:∀{xs ys:2#V} {us:8#36},Vals xs us->Vals ys us->xs=ys
 |_,_,_, .nil, .nil=>rfl
 |_,_,_, .cons r t, .cons r' t'=>by rw[r.inj r',Vals.inj t t']
section
variable {X:Cx} {pins:8#5} {σ:St} {H:Hp} {s:9#2} {a:Addr} {xs ys:2#V}
theorem Inv.list (I:8#1) (h:bU X.K H a xs):∃its:2#Value,Vals xs its/\PlainL s.heap a its.toArray/\0#xs<=sizeLine:=by
 rcases h with h|⟨o,its,n,hk,hc,hd,hs,hz,r⟩
 ·let⟨z,its,n,r,e⟩:=h.ok I.ah;exact⟨its,r,⟨_,n,e,rfl,rfl,rfl⟩,z⟩
 ·refine⟨its.toList,r,⟨o,n,I.bT a o hk,hc,hd,by simpa using hs⟩, ?_⟩;have e:=0#r;simp only[aa2] at e;lia
theorem Inv.tuple (I:8#1) (h:cU X.K H a xs):∃its:2#Value,Vals xs its/\IsTup s.heap a its.toArray/\0#xs<=sizeLine:=by
 rcases h with h|⟨o,its,n,hk,hc,hs,hz,r⟩
 ·let⟨z,its,r,p⟩:=h.ok I.ah;exact⟨its,r,p,z⟩
 ·refine⟨its.toList,r,⟨o,I.bT a o hk,hc,n,by simpa using hs⟩, ?_⟩;have e:=0#r;simp only[aa2] at e;lia
theorem Inv.jt (I:8#1) (h:bU X.K H a xs) (h':bU X.K H a ys):xs=ys:=by
 let⟨its,r,⟨o,n,e,_,_,d⟩,_⟩:=I.list h;let⟨its',r',⟨o',n',e',_,_,d'⟩,_⟩:=I.list h';rw[e] at e';cases e';rw[d] at d'
 injection d' with d1 _
 have:its=its':=by simpa using congrArg Array.toList d1
 subst this;exact r.inj r'
theorem Inv.iB (I:8#1) (h:cU X.K H a xs) (h':cU X.K H a ys):xs=ys:=by
 let⟨its,r,⟨o,e,_,n,d⟩,_⟩:=I.tuple h;let⟨its',r',⟨o',e',_,n',d'⟩,_⟩:=I.tuple h';rw[e] at e';cases e';rw[d] at d'
 injection d' with d1 _
 have:its=its':=by simpa using congrArg Array.toList d1
 subst this;exact r.inj r'
end
abbrev Cx.af (X:Cx) (E:8#2):Cx:={X with xe:=E}
abbrev Cx.eU (X:Cx):Cx:=X.af λ_ _=>False
theorem Cx.Ok.af {X:Cx} (ok:X.Ok) (E:8#2):(X.af E).Ok:=
 ⟨ok.mod,ok.kind,ok.glob,ok.blt,ok.above,ok.inj,ok.has,ok.cab,ok.hd,ok.frames,ok.stk,ok.exf,ok.bs,ok.bsz,ok.noex,ok.exfs,ok.dh,ok.frf⟩
theorem Cx.Ok.aS {X:Cx} {E:8#2} (ok:(X.af E).Ok):X.Ok:=
 ⟨ok.mod,ok.kind,ok.glob,ok.blt,ok.above,ok.inj,ok.has,ok.cab,ok.hd,ok.frames,ok.stk,ok.exf,ok.bs,ok.bsz,ok.noex,ok.exfs,ok.dh,ok.frf⟩
section
variable {X:Cx} {pins:8#5} {σ:St} {H:Hp} {s:9#2} {E:8#2}
theorem Inv.af (I:8#1) (E:8#2):Inv (X.af E) pins σ H s:=⟨I.ok.af E,I.os,I.bare,I.base,I.loc,I.cell,I.free,I.freeC,I.pin,I.ah,I.len⟩
theorem Inv.aS (I:Inv (X.af E) pins σ H s):Inv X pins σ H s:=⟨I.ok.aS,I.os,I.bare,I.base,I.loc,I.cell,I.free,I.freeC,I.pin,I.ah,I.len⟩
theorem SP.aS {D:Ends} {f:Flow} (h:SP (X.af E) pins D f s'):SP X pins D f s':=by
 cases f with
 |next=>let⟨σ',H',I,q⟩:=h;exact⟨σ',H',I.aS,q⟩
 |brk=>let⟨σ',H',I,q⟩:=h;exact⟨σ',H',I.aS,q⟩
 |cont=>let⟨σ',H',I,q⟩:=h;exact⟨σ',H',I.aS,q⟩
 |ret u=>let⟨v,σ',H',I,r,q⟩:=h;exact⟨v,σ',H',I.aS,r,q⟩
end
section
variable {X:Cx} {st:Stmt} {rest:2#Stmt} {t u:TS} {e:Expr} {te:TE} {pos:Pos}
def IK:TS:=λD σ H=>D.nx σ H
def KO (t u:TS):TS:=λD σ H=>t {D with nx:=u D} σ H
theorem C4:bS X [] IK:=λ_ _ σ H _ I h=>acI ⟨σ,H,I,h⟩
theorem zO (h1:PS X st t) (h2:bS X rest u):bS X (st::rest) (KO t u):=by
 intro pins s σ H D I h;refine wpAny_execs_cons (ay (h1 pins s σ H {D with nx:=u D} I h) λf s1 q=> ?_)
 cases f with
 |next=>
  let⟨σ',H',I',q⟩:=q;exact h2 pins s1 σ' H' D I' q
 |ret v=>exact q
 |brk=>exact q
 |cont=>exact q
theorem Inv.quiet {σ:St} {H:Hp} {s:9#2} (I:8#1):interactive X.env=false:=by simp[interactive,I.ok.kind]
def Jy (te:TE):TS:=λD σ H=>te σ H λ_ H1=>D.nx σ H1
theorem DA (he:PE X e te) (hs:swapsWith e none pos.line X.env=pure false:=by rfl):PS X (.Expr e pos) (Jy te):=by
 intro pins s σ H D I h;exact wpAny_Expr_any (ay (he pins s σ H _ I h) λv s1 z902=>by let⟨x,H1,I1,r1,q1⟩:=z902;exact⟨σ,H1,I1,q1⟩) I.quiet hs
def MT (te:TE):TS:=λD σ H=>te σ H D.rt
theorem FD (he:PE X e te):PS X (.Return 1#e pos) (MT te):=by
 intro pins s σ H D I h;exact wpAny_Return_some (ay (he pins s σ H _ I h) λv s1 z902=>by let⟨x,H1,I1,r1,q1⟩:=z902;exact⟨x,σ,H1,I1,r1,q1⟩)
def JZ:TS:=λD _ H=>D.rt .non H
theorem D4:PS X (.Return none pos) JZ:=λ_ _ σ H _ I h=>wpAny_Return_none ⟨.non,σ,H,I,rfl,h⟩
def MP (c:TT) (t u:TS):TS:=λD σ H=>c σ H λb H1=>if b=true then t D σ H1 else u D σ H1
theorem Jj {c:Expr} {a b:2#Stmt} {tc:TT} (hc:PT X c tc) (ha:bS X a t) (hb:bS X b u):PS X (.If c a b pos) (MP tc t u):=by
 intro pins s σ H D I h;refine wpAny_If (ay (hc pins s σ H _ I h) λd s1 z902=> ?_);let⟨H1,I1,q1⟩:=z902
 cases d with
 |true=>exact ha pins s1 σ H1 D I1 q1
 |false=>exact hb pins s1 σ H1 D I1 q1
end
abbrev TG:=V->St->Hp->(St->Hp->Prop)->Prop
abbrev nr:=2#V->St->Hp->(St->Hp->Prop)->Prop
def PG (X:Cx) (target:Expr) (t:TG):Prop:=
 ∀(pins:8#5) (s:9#2) (σ:St) (H:Hp) (v:V) (u:Value) (Q:St->Hp->Prop),Inv X pins σ H s->RelV v u->t v σ H Q->
  wpAny 8#3 X.A (assign target X.env u) (λ_ s'=>∃σ' H',Inv X pins σ' H' s'/\Q σ' H') X.xe s
def iz (X:Cx) (ts:2#Expr) (t:nr):Prop:=
 ∀(pins:8#5) (s:9#2) (σ:St) (H:Hp) (vs:2#V) (us:8#36) (Q:St->Hp->Prop),Inv X pins σ H s->Vals vs us->t vs σ H Q->
  wpAny 8#3 X.A (assignInOrder ((assignEach ts X.env).map (·.2)) us) (λ_ s'=>∃σ' H',Inv X pins σ' H' s'/\Q σ' H') X.xe s
abbrev wG:=V->V->V->Hp->(Hp->Prop)->Prop
def j0 (X:Cx) (t:wG):Prop:=
 ∀(pins:8#5) (s:9#2) (σ:St) (H:Hp) (o i v:V) (ov iv u:Value) (Q:Hp->Prop),Inv X pins σ H s->RelV o ov->RelV i iv->RelV v u->t o i v H Q->
  wpAny 8#3 X.A (setItem ov iv u) (λ_ s'=>∃H',Inv X pins σ H' s'/\Q H') X.xe s
section
variable {X:Cx} {pos:Pos}
def BI (i:Nat):TG:=λv σ H Q=>Q (σ.set i 1#v) H
theorem Es {i:Nat} {x:Str} (hN:X.N.Nodup) (hi:X.N[i]?=1#x) (hx:Loc X.env.scope x) (hf:X.fn x=true∨X.env.scope.names.lookup x=1#.local:=by first|exact .inl rfl|exact .inr rfl|assumption):PG X (.Name x pos) (BI i):=by
 intro pins s σ H v u Q I r h;exact wpAny_assign_Name (mi I hN hi hx r (λs' I'=>⟨_,H,I',h⟩) hf)
def LP:nr:=λvs σ H Q=>vs=[]/\Q σ H
def IM (t:TG) (u:nr):nr:=λvs σ H Q=>∃v r,vs=v::r/\t v σ H λσ' H'=>u r σ' H' Q
theorem Dn:iz X [] LP:=by
 intro pins s σ H vs us Q I r h;let⟨e,h⟩:=h;subst e;cases r;exact assignInOrder_nil ⟨σ,H,I,h⟩
theorem z6 {e:Expr} {t:TG} {u:nr} (h1:PG X e t) (h2:iz X es u)
  (hs:(assignEach (e::es) X.env).map (·.2)=assign e X.env::(assignEach es X.env).map (·.2):=by rfl):iz X (e::es) (IM t u):=by
 intro pins s σ H vs us Q I r h;let⟨v,vr,e1,h⟩:=h;subst e1
 cases r with
 |cons r rr=>
  rw[hs];refine assignInOrder_cons (ay (h1 pins s σ H _ _ _ I r h) λ_ s1 z902=> ?_);let⟨σ1,H1,I1,q1⟩:=z902;exact h2 pins s1 σ1 H1 _ _ Q I1 rr q1
def My (K:8#4) (n:Nat) (t:nr):TG:=λv σ H Q=>∃a xs,v= 3#a/\cU K H a xs/\0#xs=n/\t xs σ H Q
theorem HF {k:Nat} {t:nr} {n:Nat} (hc:X.calm=true) (h:iz X es t)
  (hn:0#(assignEach es X.env)=n:=by rfl) (hst:(assignEach es X.env).findIdx? (·.1)=none:=by rfl):PG X (.Tuple es k pos) (My X.K n t):=by
 intro pins s σ H v u Q I r hw;let⟨a,xs,e1,hq,hl,hw⟩:=hw;subst e1;cases r;let⟨its,rv,ht,hz⟩:=I.tuple hq;refine assign_Tuple_tuple (I.ok.hd hc) ht (by simp[hn,←hl,0#rv]) hst λh' hx=> ?_;have I1:Inv X pins σ H {s with heap:=h'}:=I.kept (t':=s.toks) λb o e=>hx b o (aax (aan e)) e;exact h pins _ σ H xs _ Q I1 (by simpa using rv) hw
def L9 (to ti:TE) (t:wG):TG:=λv σ H Q=>to σ H λo H1=>ti σ H1 λi H2=>t o i v H2 λH3=>Q σ H3
theorem HM {i:Expr} {to ti:TE} {t:wG} (ho:PE X o to) (hi:PE X i ti) (hs:j0 X t)
  (ha:∀v,assign (.Subscript o i pos) X.env v=(do
   let ov←holding [v] (eval o X.env)
   let iv←holding [v,ov] (eval i X.env)
   standAt pos
   holding [v,ov,iv] (setItem ov iv v)
   release [v,ov,iv] []):=by intro _;rfl):PG X (.Subscript o i pos) (L9 to ti t):=by
 intro pins s σ H v u Q I r h;rw[ha];refine aaa (abl (ay (ho pins s σ H _ I h) λov s1 z902=> ?_));let⟨x,H1,I1,r1,q1⟩:=z902;refine aaa (abl (ay (hi pins s1 σ H1 _ I1 q1) λiv s2 z902=> ?_));let⟨y,H2,I2,r2,q2⟩:=z902;refine aaa (acV (aaa (abl (ay (hs pins s2 σ H2 x y v ov iv u _ I2 r1 r2 r q2) λ_ s3 z902=> ?_))));let⟨H3,I3,q3⟩:=z902;exact wpAny_release ⟨σ,H3,I3,q3⟩
def Gg (te:TE) (g:TG):TS:=λD σ H=>te σ H λx H1=>g x σ H1 D.nx
theorem yX {e:Expr} {te:TE} {g:TG} (he:PE X e te) (hg:PG X tg g) (hs:swapsWithSole [tg] e pos.line X.env=pure false:=by rfl) (hw:swappedStores [tg] e X.env=pure none:=by rfl)
  (h1:(assignEach [tg] X.env).map (·.2)=[assign tg X.env]:=by rfl):PS X (.Assign [tg] e pos) (Gg te g):=by
 intro pins s σ H D I h;refine wpAny_Assign_stores (ay (he pins s σ H _ I h) λv s1 z902=> ?_) hs hw;let⟨x,H1,I1,r1,q1⟩:=z902;rw[h1];exact ay (hg pins s1 σ H1 x v _ I1 r1 q1) λ_ s2 q=>q
theorem EN {i:Nat} {x:Str} {e:Expr} {te:TE} (hN:X.N.Nodup) (hi:X.N[i]?=1#x) (hx:Loc X.env.scope x) (he:PE X e te) (hs:swapsWith e 1#(.Name x pos') pos.line X.env=pure false:=by rfl) (hf:X.fn x=true∨X.env.scope.names.lookup x=1#.local:=by first|exact .inl rfl|exact .inr rfl|assumption):
  PS X (.Assign [.Name x pos'] e pos) (Gg te (BI i)):=by
 intro pins s σ H D I h;refine wpAny_Assign_Name (ay (he pins s σ H _ I h) λv s1 z902=> ?_) hs;let⟨y,H1,I1,r1,q1⟩:=z902;exact mi I1 hN hi hx r1 (λs2 I2=>⟨_,H1,I2,q1⟩) hf
end
structure It where
 go:Nat->Hp->Prop
 yld:Nat->Hp->V->Hp->Prop
 stop:Nat->Hp->Prop
def cB (X:Cx) (pins:8#5) (H:Hp) (b:Addr):Prop:=
 H b=none/\b≠X.env.locals/\b∉X.fs/\(b∈X.ex∨X.s₀.heap.objs.size<=b)/\(∀x c,X.env.cells.lookup x=1#c->c≠b)/\∀p∈X.pn++pins,p.1≠b
theorem Inv.mf {X:Cx} {σ:St} {H H':Hp} {s:9#2} {b:Addr} (I:8#1) (hb:s.heap.objs.size<=b) (hn:H' b=none):cB X pins H' b:=by
 refine⟨hn,abJ (aao I.lt hb),I.Fv hb, .inr (aaQ I.sz hb),λx c e z=> ?_,λp hp z=> ?_⟩
 ·let⟨v,q⟩:=I.cell x c e;exact absurd (aao q.lt (by rw[z];exact hb)) (aa5 _)
 ·exact absurd (aao (aan (I.pin p hp).1) (by rw[z];exact hb)) (aa5 _)
structure Turn (P:Program) (w:World) (K:8#4) (tg:Expr) (J:It) (fp:2#Addr) (it:Addr) (tn:Nat->Heap->Prop):Prop where
 mem:it∈fp
 obj:∀i h,tn i h->∀b∈fp,∃o,h.get? b=1#o/\∀v,o.data≠ .cell v
 keep:∀i h h',tn i h->(∀b∈fp,∀o,h.get? b=1#o->h'.get? b=1#o)->tn i h'
 item:∀(X:Cx),X.prog=P->X.w=w->X.K=K->X.calm=true->∀(i:Nat) (pins:8#5) (s:9#2) (σ:St) (H:Hp) (E:8#2),Inv X pins σ H s->(∀b∈fp,cB X pins H b)->tn i s.heap->J.go i H->
  wpAny (model P w) X.A (pyNext 3#it) (λr s1=>∃u,r=1#u/\
   wpAny (model P w) X.A (letOwnedTupleGo tg 3#it u) (λ_ s2=>∃x H',Inv X pins σ H' s2/\RelV x u/\J.yld i H x H'/\tn (i+1) s2.heap/\∀b∈fp,H' b=none) E s1) E s
 done:∀(X:Cx),X.prog=P->X.w=w->X.K=K->X.calm=true->∀(i:Nat) (pins:8#5) (s:9#2) (σ:St) (H:Hp) (E:8#2),Inv X pins σ H s->(∀b∈fp,cB X pins H b)->tn i s.heap->J.stop i H->
  wpAny (model P w) X.A (pyNext 3#it) (λr s1=>r=none/\Inv X pins σ H s1) E s
 self:∀(A:Around) (i:Nat) (s:9#2) (Q:8#2) (E:8#2),tn i s.heap->Q 3#it s->wpAny (model P w) A (pyIter 3#it) Q E s
abbrev TI:=St->Hp->(It->Hp->Prop)->Prop
def PIE (X:Cx) (pins:8#5) (σ:St) (tg:Expr) (R:It->Hp->Prop) (itv:Value) (s2:9#2):Prop:=
 ∃(it:Addr) (fp:2#Addr) (tn:Nat->Heap->Prop) (J:It) (H':Hp),itv= 3#it/\Inv X pins σ H' s2/\Turn X.prog X.w X.K tg J fp it tn/\tn 0 s2.heap/\(∀b∈fp,cB X pins H' b)/\R J H'
def PI (X:Cx) (tg iter:Expr) (wi:TI):Prop:=
 ∀(pins:8#5) (s:9#2) (σ:St) (H:Hp) (R:It->Hp->Prop),Inv X pins σ H s->wi σ H R->
  wpAny 8#3 X.A (eval iter X.env) (λv s1=>wpAny 8#3 X.A (pyIter v) (PIE X pins σ tg R) X.xe s1) X.xe s
theorem nV {M:Model} {A:Around} {E:8#2} {s:9#2} {u:Value} {o:Obj} {n:String} {vs:Array Value} {Q:Unit->Shared->Prop} (ho:s.heap.get? it=1#o) (hc:o.cls= .type n) (hd:o.data= .fields vs)
  (hn:["enumerate","zip","dict_itemiterator","dict_reverseitemiterator","odict_iterator","itertools.zip_longest","itertools.pairwise"].contains n=false) (hQ:Q () s):wpAny M A (letOwnedTupleGo tg 3#it u) Q E s:=by
 unfold letOwnedTupleGo
 cases tg<;>first
  |exact aaf hQ
  |(cases u<;>first
   |exact aaf hQ
   |(refine aaa (wpAny_load ho ?_)
     rw[hc,hd];show wpAny M A (if (["enumerate","zip","dict_itemiterator","dict_reverseitemiterator","odict_iterator","itertools.zip_longest","itertools.pairwise"].contains n&&vs[0]?==1#(rawInt _))=true then _ else _) Q E s;rw[if_neg (by intro h;rw[hn,Bool.false_and] at h;cases h)]
     exact aaf hQ))
noncomputable def GR (K:8#4) (a:Addr):It:=
 ⟨λi H=>∃xs x,bU K H a xs/\xs[i]?=1#x,λi H x H'=>H'=H/\∀xs,bU K H a xs->xs[i]?=1#x,λi H=>∃xs,bU K H a xs/\0#xs<=i⟩
noncomputable def E4 (K:8#4) (a:Addr):It:=
 ⟨λi H=>∃xs x,cU K H a xs/\xs[i]?=1#x,λi H x H'=>H'=H/\∀xs,cU K H a xs->xs[i]?=1#x,λi H=>∃xs,cU K H a xs/\0#xs<=i⟩
noncomputable def B7 (lo:Int) (n:Nat):It:=⟨λi _=>i<n,λi H x H'=>H'=H/\x= 6#(lo+i),λi _=>n<=i⟩
theorem yx {P:Program} {w:World} {K:8#4} (a it:Addr):Turn P w K tg (GR K a) [it] it (λi h=>h.IsListIter it a i) where
 mem:=by simp
 obj:=λi h st b hb=>by
  have e:b=it:=by simpa using hb
  subst e;let⟨o,e,c,d⟩:=st;exact⟨o,e,λv z=>by rw[d] at z;cases z⟩
 keep:=λi h h' st k=>st.at λo e=>k it 8#7 o e
 item:=by
  intro X hP hw hK hc i pins s σ H E I hf st hg;subst hP hw hK;let⟨xs,x,hq,hx⟩:=hg;let⟨its,rv,p,hz⟩:=I.list hq;let⟨u,hu,ru⟩:=rv.get hx;let⟨f0,f1,f2,f3,f4,f5⟩:=hf it 8#7;refine wpAny_pyNext_list_item st p.isList (x:=u) (by simpa using hu) λh' st' sb=> ?_;have I1:Inv X pins σ H {s with heap:=h'}:=I.turned (t':=s.toks) (λb o hb e=>(sb.2 b hb).trans e) f0 f1 f3 f4 f5;let⟨o,e,c,d⟩:=id st';exact⟨u,rfl,nV (s:={s with heap:=h'}) e c d 9#7 ⟨x,H,I1,ru,⟨rfl,λys hy=>by rw[I.jt hy hq];exact hx⟩,st',λb hb=>(hf b hb).1⟩⟩
 done:=by
  intro X hP hw hK hc i pins s σ H E I hf st hg;subst hP hw hK;let⟨xs,hq,hx⟩:=hg;let⟨its,rv,p,hz⟩:=I.list hq;let⟨f0,f1,f2,f3,f4,f5⟩:=hf it 8#7;have hl:=0#rv;exact wpAny_pyNext_list_end (I.ok.hd hc) st p.isList (by simp;lia) λh' eb=>⟨rfl,I.turned (t':=s.toks) (λb o hb e=>eb b o hb e) f0 f1 f3 f4 f5⟩
 self:=λ_ _ _ _ _ st h=>wpAny_pyIter_listiter st h
theorem vP {P:Program} {w:World} {K:8#4} (a it:Addr):Turn P w K tg (E4 K a) [it] it (λi h=>h.IsTupleIter it a i) where
 mem:=by simp
 obj:=λi h st b hb=>by
  have e:b=it:=by simpa using hb
  subst e;let⟨o,e,c,d⟩:=st;exact⟨o,e,λv z=>by rw[d] at z;cases z⟩
 keep:=λi h h' st k=>st.at λo e=>k it 8#7 o e
 item:=by
  intro X hP hw hK hc i pins s σ H E I hf st hg;subst hP hw hK;let⟨xs,x,hq,hx⟩:=hg;let⟨its,rv,p,hz⟩:=I.tuple hq;let⟨u,hu,ru⟩:=rv.get hx;let⟨f0,f1,f2,f3,f4,f5⟩:=hf it 8#7;refine wpAny_pyNext_tuple_item st (show s.heap.IsTuple a its.toArray from p) (x:=u) (by simpa using hu) λh' st' sb=> ?_;have I1:Inv X pins σ H {s with heap:=h'}:=I.turned (t':=s.toks) (λb o hb e=>(sb.2 b hb).trans e) f0 f1 f3 f4 f5;let⟨o,e,c,d⟩:=id st';exact⟨u,rfl,nV (s:={s with heap:=h'}) e c d 9#7 ⟨x,H,I1,ru,⟨rfl,λys hy=>by rw[I.iB hy hq];exact hx⟩,st',λb hb=>(hf b hb).1⟩⟩
 done:=by
  intro X hP hw hK hc i pins s σ H E I hf st hg;subst hP hw hK;let⟨xs,hq,hx⟩:=hg;let⟨its,rv,p,hz⟩:=I.tuple hq;let⟨f0,f1,f2,f3,f4,f5⟩:=hf it 8#7;have hl:=0#rv;exact wpAny_pyNext_tuple_end (I.ok.hd hc) st (show s.heap.IsTuple a its.toArray from p) (by simp;lia) λh' eb=>⟨rfl,I.turned (t':=s.toks) (λb o hb e=>eb b o hb e) f0 f1 f3 f4 f5⟩
 self:=λ_ _ _ _ _ st h=>wpAny_pyIter_tupleiter st h
theorem vL {P:Program} {w:World} {K:8#4} (it:Addr) (lo:Int) (n:Nat):Turn P w K tg (B7 lo n) [it] it (λi h=>IsRangeIter h it (lo+(i:Nat)*1) ((n:Int)-(i:Nat)) 1) where
 mem:=by simp
 obj:=λi h st b hb=>by
  have e:b=it:=by simpa using hb
  subst e
  exact⟨_,st,λv z=>by
   have z':Data.fields _=Data.cell v:=z
   cases z'⟩
 keep:=λi h h' st k=>k it 8#7 _ st
 item:=by
  intro X hP hw hK hc i pins s σ H E I hf st hg;subst hP hw hK;let⟨f0,f1,f2,f3,f4,f5⟩:=hf it 8#7;have W:=Walks.range (prog:=X.prog) (w:=X.w) (I.ok.hd hc) it lo 1 n;refine W.item i s _ _ hg st λv h' tk hv st' kk=> ?_;let⟨t,rfl⟩:=hv;have I1:Inv X pins σ H {s with heap:=h',toks:=tk}:=I.turned (λb o hb e=>kk b o (by simpa using hb) e) f0 f1 f3 f4 f5;refine⟨_,rfl,nV (s:={s with heap:=h',toks:=tk}) (n:="range_iterator") st' rfl rfl 9#7 ⟨6#(lo+i),H,I1,⟨t, ?_⟩,⟨rfl,rfl⟩,st',λb hb=>(hf b hb).1⟩⟩;rw[Int.mul_one]
 done:=by
  intro X hP hw hK hc i pins s σ H E I hf st hg;subst hP hw hK;let⟨f0,f1,f2,f3,f4,f5⟩:=hf it 8#7;exact wpAny_pyNext_range_end (I.ok.hd hc) st (by have:n<=i:=hg;lia) λh' eb=>⟨rfl,I.turned (t':=s.toks) (λb o hb e=>eb b o hb e) f0 f1 f3 f4 f5⟩
 self:=λ_ _ _ _ _ st h=>wpAny_pyIter_rangeiter st h
section
variable {X:Cx} {tg:Expr}
theorem An {σ:St} {H:Hp} {s:9#2} {R:It->Hp->Prop} {E:8#2} {lo hi:Int} {t u v:Tok} {tk:Nat} (I:8#1) (h1: -(2^62)<=lo) (h2:lo<2^62) (h3: -(2^62)<=hi) (h4:hi<2^62)
  (q:R (B7 lo (hi-lo).toNat) H):wpAny 8#3 X.A (pyIter 3#s.heap.objs.size) (PIE X pins σ tg R) E {s with heap:=s.heap.push {cls:= .type "range",data:= .fields #[.int lo t, .int hi u, .int 1 v]},toks:=tk}:=by
 refine wpAny_pyIter_range (IsRange.new ..) (small_one h1 h2 h3 h4) ?_;have I1:Inv X pins σ H {s with heap:=s.heap.push {cls:= .type "range",data:= .fields #[.int lo t, .int hi u, .int 1 v]},toks:=tk}:=I.kept λb o e=>aae _ e
 refine⟨(s.heap.push {cls:= .type "range",data:= .fields #[.int lo t, .int hi u, .int 1 v]}).objs.size,[(s.heap.push {cls:= .type "range",data:= .fields #[.int lo t, .int hi u, .int 1 v]}).objs.size],_,_,H,rfl,
  I1.kept (t':=tk) λb o e=>aae _ e,vL _ lo (hi-lo).toNat, ?_,λb hb=> ?_,q⟩
 ·have e1:lo+((0:Nat):Int)*1=lo:=by simp
  have e2:(((hi-lo).toNat:Nat):Int)-((0:Nat):Int)=Builtin.Range.rangeSize lo hi 1:=by rw[rangeSize_one];split<;>lia
  show IsRangeIter _ _ (lo+((0:Nat):Int)*1) ((((hi-lo).toNat:Nat):Int)-((0:Nat):Int)) 1;rw[e1,e2];exact aaj _ rfl
 ·have e:b=(s.heap.push {cls:= .type "range",data:= .fields #[.int lo t, .int hi u, .int 1 v]}).objs.size:=by simpa using hb
  subst e;exact I1.mf (aai _) (I1.ah.fresh (aai _))
def Ik (ta:TA):TI:=λσ H R=>ta σ H λvs H1=>∃j:Int,vs=[6#j]/\ -(2^62)<=j/\j<2^62/\R (B7 0 j.toNat) H1
theorem yL {a:Expr} {ta:TA} {p:Pos} (hg:Gl X "range") (hm:X.mg "range"=none) (ha:PA X [a] ta) (hs:starEach [a] X.env=[(false,eval a X.env)]:=by rfl):PI X tg (.Call (.Name "range" p) [a] [] pos) (Ik ta):=by
 intro pins s σ H R I h;refine Call_ (iW I hg hm boot_range (abZ (ay (ha pos pins s σ H _ I h) λus s1 z902=> ?_) hs rfl));let⟨vs,H1,I1,r1,q1⟩:=z902;let⟨j,e,q1,q2,q⟩:=q1;subst e
 cases r1 with
 |cons r rr=>
  cases rr;let⟨t,rfl⟩:=r;exact call_range_1 (An I1 8#0 8#0 q1 q2 (by simpa using q))
def LK (wi:TI) (g:TG) (tb:TS):TS:=λD σ H=>wi σ H λJ H1=>∃W:Nat->Nat->St->Hp->Prop,(∃m,W 0 m σ H1)/\∀i m σ H,W i m σ H->
 (J.stop i H/\D.nx σ H)∨(J.go i H/\∃N:St->Hp->Prop,(∀σ' H',N σ' H'->∃m',m'<m/\W (i+1) m' σ' H')/\∀x H',J.yld i H x H'->g x σ H' λσ2 H2=>tb {D with nx:=N,ct:=N,bk:=D.nx} σ2 H2)
noncomputable def bK (fp:2#Addr) (h:Heap):2#(Addr×Obj):=fp.filterMap λb=>(h.get? b).map λo=>(b,o)
theorem dG {h:Heap} {b:Addr} (hb:b∈fp) (e:h.get? b=1#o):(b,o)∈bK fp h:=List.mem_filterMap.mpr ⟨b,hb,by rw[e];rfl⟩
theorem pK {h:Heap} {p:Addr×Obj} (hp:p∈bK fp h):p.1∈fp/\h.get? p.1=1#p.2:=by
 let⟨b,hb,e⟩:=List.mem_filterMap.mp hp
 cases q:h.get? b with
 |none=>rw[q] at e;cases e
 |some o=>
  rw[q] at e;have e':(b,o)=p:=Option.some.inj e;subst e';exact⟨hb,q⟩
theorem Inv.pinned {σ:St} {H:Hp} {s:9#2} {fp:2#Addr} (I:8#1) (hf:∀b∈fp,cB X pins H b) (ho:∀b∈fp,∃o,s.heap.get? b=1#o/\∀v,o.data≠ .cell v):Inv X (pins++bK fp s.heap) σ H s:=
 I.cz λp hp=>(aaC.mp hp).elim (λz=>I.pin p (aaA _ z)) λz=>by
  let⟨hb,e⟩:=pK z;let⟨f0,f1,f2,_⟩:=hf p.1 hb;let⟨o,e',d⟩:=ho p.1 hb;rw[e] at e';cases e';exact⟨e,f0,f1,f2,d⟩
theorem Inv.i9 {σ:St} {H:Hp} {s:9#2} (I:Inv X (pins++pl) σ H s):Inv X pins σ H s:=I.cz λp hp=>I.pin p (aaA _ (aaS _ hp))
theorem Hf {wi:TI} {g:TG} {tb:TS} (hp:PassesOwn (model X.prog X.w) X.A X.env X.xe) (hc:X.calm=true) (hi:PI X tg iter wi) (hg:PG X tg g) (hb:bS X body tb)
  (hs:∀x,foldedSetIterable iter X.env x=pure x:=by intro _;rfl):PS X (.For tg iter body [] pos) (LK wi g tb):=by
 intro pins s σ H D I h;refine wpAny_For (ay (hi pins s σ H _ I h) λv s1 h1=>ay h1 λitv s2 h2=> ?_) hs;let⟨it,fp,tn,J,H2,e,I2,T,st2,f2,W,⟨m0,w0⟩,turn⟩:=h2;subst e;have stat:∀{H':Hp},(∀b∈fp,H' b=none)->∀b∈fp,cB X pins H' b:=λhn b hb=>⟨hn b hb,(f2 b hb).2⟩;refine codeAny_forLoop_any (λn s'=>∃i σ' H',Inv X pins σ' H' s'/\tn i s'.heap/\(∀b∈fp,H' b=none)/\W i n σ' H') ?_ m0 ⟨0,σ,H2,I2,st2,λb hb=>(f2 b hb).1,w0⟩
 rintro n s3 ⟨i,σ3,H3,I3,st3,fr3,w3⟩
 rcases turn i n σ3 H3 w3 with⟨stop,qn⟩|⟨go,N,hN,step⟩
 ·refine aca hp (ay (T.done X rfl rfl rfl hc i pins s3 σ3 H3 X.xe I3 (stat fr3) st3 stop) λr s4 z902=> ?_);let⟨hr,I4⟩:=z902;subst hr;exact acI ⟨σ3,H3,I4,qn⟩
 ·refine aca hp (ay (T.item X rfl rfl rfl hc i pins s3 σ3 H3 X.xe I3 (stat fr3) st3 go) λr s4 z902=> ?_);let⟨u,hr,h4⟩:=z902;subst hr;refine aca hp (ay h4 λ_ s5 z902=> ?_);let⟨x,H5,I5,r5,y5,st5,fr5⟩:=z902;have I5':=I5.pinned (stat fr5) (T.obj _ _ st5);refine aca hp (ay (hg _ s5 σ3 H5 x u _ I5' r5 (step x H5 y5)) λ_ s6 z902=> ?_);let⟨σ6,H6,I6,q6⟩:=z902;refine aca hp (ay (hb _ s6 σ6 H6 _ I6 q6) λf s7 q7=> ?_)
  have again:∀{σ7:St} {H7:Hp},Inv X (pins++bK fp s5.heap) σ7 H7 s7->N σ7 H7->∃m,m<n/\∃i σ' H',Inv X pins σ' H' s7/\tn i s7.heap/\(∀b∈fp,H' b=none)/\W i m σ' H':=λ{σ7 H7} I7 n7=>by
   let⟨m',hm,w7⟩:=hN σ7 H7 n7;refine⟨m',hm,i+1,σ7,H7,I7.i9,T.keep _ _ _ st5 λb hb o e=>(I7.pin (b,o) (aaA _ (aaA _ (dG hb e)))).1,λb hb=> ?_,w7⟩;let⟨o,e,d⟩:=T.obj _ _ st5 b hb;exact(I7.pin (b,o) (aaA _ (aaA _ (dG hb e)))).2.1
  cases f with
  |next=>let⟨σ7,H7,I7,n7⟩:=q7;exact again I7 n7
  |cont=>let⟨σ7,H7,I7,n7⟩:=q7;exact again I7 n7
  |brk=>let⟨σ7,H7,I7,q7⟩:=q7;exact⟨σ7,H7,I7.i9,q7⟩
  |ret v=>let⟨x7,σ7,H7,I7,r7,q7⟩:=q7;exact⟨x7,σ7,H7,I7.i9,r7,q7⟩
end
abbrev R2:=V->V->Hp->VK->Prop
def aH (X:Cx) (f:Value->Value->Sem Value) (r:R2):Prop:=
 ∀(pins:8#5) (s:9#2) (σ:St) (H:Hp) (x y:V) (v u:Value) (Q:VK),Inv X pins σ H s->RelV x v->RelV y u->r x y H Q->
  wpAny 8#3 X.A (f v u) (EP X pins σ Q) X.xe s
def E2 (X:Cx) (f:Value->Sem Value) (r:V->Hp->VK->Prop):Prop:=
 ∀(pins:8#5) (s:9#2) (σ:St) (H:Hp) (x:V) (v:Value) (Q:VK),Inv X pins σ H s->RelV x v->r x H Q->
  wpAny 8#3 X.A (f v) (EP X pins σ Q) X.xe s
def au (X:Cx) (f:Value) (r:2#V->Hp->VK->Prop):Prop:=
 ∀(pins:8#5) (s:9#2) (σ:St) (H:Hp) (xs:2#V) (us:8#36) (Q:VK),Inv X pins σ H s->Vals xs us->r xs H Q->
  wpAny 8#3 X.A (call f us) (EP X pins σ Q) X.xe s
def MB (X:Cx) (r:V->Hp->(Bool->Hp->Prop)->Prop):Prop:=
 ∀(pins:8#5) (s:9#2) (σ:St) (H:Hp) (x:V) (v:Value) (Q:Bool->Hp->Prop),Inv X pins σ H s->RelV x v->r x H Q->
  wpAny 8#3 X.A (truthy v) (TP X pins σ Q) X.xe s
def CB (r:R2) (ta tb:TE):TE:=λσ H Q=>ta σ H λx H1=>tb σ H1 λy H2=>r x y H2 Q
def tUn (r:V->Hp->VK->Prop) (ta:TE):TE:=λσ H Q=>ta σ H λx H1=>r x H1 Q
def rI (C:Int->Int->Prop) (g:Int->Int->V):R2:=λx y H Q=>∃i j,x= 6#i/\y= 6#j/\C i j/\Q (g i j) H
def lp (g:Int->Int->V):R2:=λx y H Q=>∃i j,x= 6#i/\y= 6#j/\Q (g i j) H
def rU (g:Int->V):V->Hp->VK->Prop:=λx H Q=>∃i,x= 6#i/\Q (g i) H
section
variable {X:Cx} {a b c:Expr} {ta tb tc:TE} {pos:Pos}
theorem A9 (ha:PE X a ta) (hb:PE X b tb) {s:9#2} {σ:St} {H:Hp} {R:V->V->Hp->Prop} (I:8#1)
  (h:ta σ H λx H1=>tb σ H1 λy H2=>R x y H2) {Q:8#2} {f:Value->Value->Sem Value}
  (hf:∀v u s2 x y H2,Inv X pins σ H2 s2->RelV x v->RelV y u->R x y H2->wpAny 8#3 X.A (f v u) Q X.xe s2):
  wpAny 8#3 X.A (eval a X.env) (λv s₁=>wpAny 8#3 X.A (eval b X.env) (λu s₂=>wpAny 8#3 X.A (f v u) Q X.xe s₂) X.xe s₁) X.xe s:=by
 refine ay (ha pins s σ H _ I h) λv s1 z902=> ?_;let⟨x,H1,I1,r1,q1⟩:=z902;refine ay (hb pins s1 σ H1 _ I1 q1) λu s2 z902=> ?_;let⟨y,H2,I2,r2,q2⟩:=z902;exact hf v u s2 x y H2 I2 r1 r2 q2
theorem Jx {op:Operator} {r:R2} (ho:aH X (binaryOp op) r) (ha:PE X a ta) (hb:PE X b tb):PE X (.BinOp a op b pos) (CB r ta tb):=by
 intro pins s σ H Q I h;exact wpAny_BinOp (A9 ha hb I h λv u s2 x y H2 I2 rx ry q=>ho pins s2 σ H2 x y v u Q I2 rx ry q)
theorem JQ {op:UnaryOp} {r:V->Hp->VK->Prop} (ho:E2 X (unaryOp op) r) (ha:PE X a ta):PE X (.UnaryOp op a pos) (tUn r ta):=by
 intro pins s σ H Q I h;exact UnaryOp_ (ay (ha pins s σ H _ I h) λv s1 z902=>by let⟨x,H1,I1,r1,q1⟩:=z902;exact ho pins s1 σ H1 x v Q I1 r1 q1)
theorem Co {f:Value->Value->Sem Value} {C:Int->Int->Prop} {g:Int->Int->Int}
  (rule:∀(i j:Int) (t u:Tok) (s:9#2) (Q:8#2) (E:8#2),C i j->Q (.int (g i j) s.toks) {s with toks:=s.toks+1}->wpAny 8#3 X.A (f (.int i t) (.int j u)) Q E s):
  aH X f (rI C λi j=> 6#(g i j)):=by
 intro pins s σ H x y v u Q I rx ry h;let⟨i,j,rfl,rfl,hc,q⟩:=h;let⟨t,rfl⟩:=rx;let⟨t',rfl⟩:=ry;exact rule i j t t' s _ _ hc ⟨6#(g i j),H,I.tok _,⟨_,rfl⟩,q⟩
theorem GS {f:Value->Value->Sem Value} {g:Int->Int->Int}
  (rule:∀(i j:Int) (t u:Tok) (s:9#2) (Q:8#2) (E:8#2),Q (.int (g i j) s.toks) {s with toks:=s.toks+1}->wpAny 8#3 X.A (f (.int i t) (.int j u)) Q E s):
  aH X f (lp λi j=> 6#(g i j)):=by
 intro pins s σ H x y v u Q I rx ry h;let⟨i,j,rfl,rfl,q⟩:=h;let⟨t,rfl⟩:=rx;let⟨t',rfl⟩:=ry;exact rule i j t t' s _ _ ⟨6#(g i j),H,I.tok _,⟨_,rfl⟩,q⟩
theorem wg {f:Value->Value->Sem Value} {g:Int->Int->Bool}
  (rule:∀(i j:Int) (t u:Tok) (s:9#2) (Q:8#2) (E:8#2),Q (.bool (g i j)) s->wpAny 8#3 X.A (f (.int i t) (.int j u)) Q E s):
  aH X f (lp λi j=> .bl (g i j)):=by
 intro pins s σ H x y v u Q I rx ry h;let⟨i,j,rfl,rfl,q⟩:=h;let⟨t,rfl⟩:=rx;let⟨t',rfl⟩:=ry;exact rule i j t t' s _ _ ⟨.bl (g i j),H,I,rfl,q⟩
def LY (i j:Int):Prop:=0<=j/\j<=1000000/\i.natAbs<2^64
theorem FR:aH X (binaryOp .Add) (lp λi j=> 6#(i+j)):=GS λ_ _ _ _ _ _ _ q=>add_int q
theorem Fw:aH X (binaryOp .Sub) (lp λi j=> 6#(i-j)):=GS λ_ _ _ _ _ _ _ q=>sub_int q
theorem CS:aH X (binaryOp .Mod) (rI (λ_ j=>j≠0) λi j=> 6#(i.fmod j)):=Co λ_ _ _ _ _ _ _ hc q=>mod_int' hc q
theorem Gp:aH X (binaryOp .Pow) (rI LY λi j=> 6#(i^j.toNat)):=Co λ_ _ _ _ _ _ _ hc q=>pow_int_small hc.1 hc.2.1 hc.2.2 q
theorem unI {f:Value->Sem Value} {g:Int->Int}
  (rule:∀(i:Int) (t:Tok) (s:9#2) (Q:8#2) (E:8#2),Q (.int (g i) s.toks) {s with toks:=s.toks+1}->wpAny 8#3 X.A (f (.int i t)) Q E s):
  E2 X f (rU λi=> 6#(g i)):=by
 intro pins s σ H x v Q I rx h;let⟨i,rfl,q⟩:=h;let⟨t,rfl⟩:=rx;exact rule i t s _ _ ⟨6#(g i),H,I.tok _,⟨_,rfl⟩,q⟩
theorem GO:E2 X (unaryOp .USub) (rU λi=> 6#(-i)):=unI λ_ _ _ _ _ q=>neg_int q
theorem nE {σ:St} {H:Hp} {s:9#2} {Q:VK} {k k':Bool} (I:8#1) (q:Q (.bl k) H) (e:k=k'):EP X pins σ Q (.bool k') s:=by
 subst e;exact⟨.bl k,H,I,rfl,q⟩
theorem IC:aH X (compareOp .Lt) (lp λi j=> .bl (decide (i<j))):=wg λ_ _ _ _ _ _ _ q=>lt_int q
theorem Jb:aH X (compareOp .LtE) (lp λi j=> .bl (decide (i<=j))):=wg λ_ _ _ _ _ _ _ q=>le_int q
theorem Jh:aH X (compareOp .Gt) (lp λi j=> .bl (decide (j<i))):=wg λ_ _ _ _ _ _ _ q=>gt_int q
theorem Ir:aH X (compareOp .GtE) (lp λi j=> .bl (decide (j<=i))):=wg λ_ _ _ _ _ _ _ q=>ge_int q
theorem F4:aH X (compareOp .Is) (λx y H Q=>y= .non/\Q (.bl (decide (x= .non))) H):=by
 intro pins s σ H x y v u Q I rx ry h;let⟨rfl,q⟩:=h;cases ry;refine is_none_gen (nE I q ?_)
 cases x<;>first
  |(cases rx;rfl)
  |(let⟨t,rfl⟩:=rx;rfl)
theorem Dh:aH X (compareOp .IsNot) (λx y H Q=>y= .non/\Q (.bl (!decide (x= .non))) H):=by
 intro pins s σ H x y v u Q I rx ry h;let⟨rfl,q⟩:=h;cases ry;refine isnot_none_gen (nE I q ?_)
 cases x<;>first
  |(cases rx;rfl)
  |(let⟨t,rfl⟩:=rx;rfl)
theorem aH.or {f:Value->Value->Sem Value} {r r':R2} (h:aH X f r) (h':aH X f r'):aH X f (λx y H Q=>r x y H Q∨r' x y H Q):=by
 intro pins s σ H x y v u Q I rx ry q
 rcases q with q|q
 ·exact h pins s σ H x y v u Q I rx ry q
 ·exact h' pins s σ H x y v u Q I rx ry q
theorem C0 {op:CmpOp} {r:R2} (ho:aH X (compareOp op) r) (ha:PE X a ta) (hb:PE X b tb) (hm:behindInMarks op b=false):PE X (.Compare a [op] [b] pos) (CB r ta tb):=by
 intro pins s σ H Q I h;exact wpAny_Compare1 (A9 ha hb I h λv u s2 x y H2 I2 rx ry q=>ho pins s2 σ H2 x y v u Q I2 rx ry q) hm
def IU (t:TE):TT:=λσ H Q=>t σ H λx H'=>∃k,x= .bl k/\Q k H'
theorem En {op:CmpOp} {r:R2} (ho:aH X (compareOp op) r) (ha:PE X a ta) (hb:PE X b tb) (hm:behindInMarks op b=false):PT X (.Compare a [op] [b] pos) (IU (CB r ta tb)):=by
 intro pins s σ H Q I h;refine wpAny_isTrue_Compare1 (ay (ha pins s σ H _ I h) λv s1 zq0=> ?_) hm;let⟨x,H1,I1,r1,q1⟩:=zq0;refine ay (hb pins s1 σ H1 _ I1 q1) λu s2 zq1=> ?_;let⟨y,H2,I2,r2,q2⟩:=zq1;refine ay (ho pins s2 σ H2 x y v u _ I2 r1 r2 q2) λc s3 zq2=> ?_;let⟨z,H3,I3,r3,k,e,q3⟩:=zq2;subst e;cases r3;exact abG ⟨H3,I3,q3⟩
def Ab (K:8#4) (x:V) (H:Hp) (k:Bool):Prop:=
 match x with
 | .non=>k=false
 | .bl b=>k=b
 | .int i=>k=(i !=0)
 | .str y=>0#y<=sizeLine/\k=((0#y:Int) !=0)
 | .byt y=>y.size<=sizeLine/\k=((y.size:Int) !=0)
 | .ref p=>(∃xs,bU K H p xs/\k= !xs.isEmpty)∨(∃xs,cU K H p xs/\k= !xs.isEmpty)∨∃kvs,H p=1#(.dK kvs)/\k= !kvs.isEmpty
 |_=>False
theorem vN {κ:Type} {kvs:2#(κ×V)} {vs:2#(κ×Value)} (r:KV kvs vs):(!vs.isEmpty)= !kvs.isEmpty:=by
 cases r<;>rfl
theorem nk {xs:2#V} {its:8#36} (r:Vals xs its):(!its.toArray.isEmpty)= !xs.isEmpty:=by
 cases r<;>simp
theorem gG:(sizeLine:Nat)<2^63:=by rw[abB];decide
theorem EO:MB X (λx H Q=>∃k,Ab X.K x H k/\Q k H):=by
 intro pins s σ H x v Q I rx h;let⟨k,e,q⟩:=h;have hl:=gG;have hs:sizeLine=16777216:=abB
 cases x with
 |non=>
  cases rx;have e':k=false:=e;subst e';exact truthy_none ⟨H,I,q⟩
 |bl b=>
  cases rx;have e':k=b:=e;subst e';exact abG ⟨H,I,q⟩
 |int i=>
  let⟨t,rfl⟩:=rx;have e':k=(i !=0):=e;subst e';exact PySem.P.truthy_int ⟨H,I,q⟩
 |str y=>
  let⟨t,rfl⟩:=rx;obtain⟨hy,e'⟩:0#y<=sizeLine/\k=((0#y:Int) !=0):=e;subst e';exact PySem.P.truthy_str 8#0 ⟨H,I.tok _,q⟩
 |byt y=>
  let⟨t,rfl⟩:=rx;obtain⟨hy,e'⟩:y.size<=sizeLine/\k=((y.size:Int) !=0):=e;subst e';exact PySem.W.truthy_bytes 8#0 ⟨H,I.tok _,q⟩
 |ref p=>
  cases rx;have e':(∃xs,bU X.K H p xs/\k= !xs.isEmpty)∨(∃xs,cU X.K H p xs/\k= !xs.isEmpty)∨∃kvs,H p=1#(.dK kvs)/\k= !kvs.isEmpty:=e
  rcases e' with⟨xs,hx,e'⟩|⟨xs,hx,e'⟩|⟨kvs,hx,e'⟩
  ·subst e';let⟨its,r,pl,hz⟩:=I.list hx;have hlen:=0#r;exact wpAny_truthy_list pl.isList (by simp only[aal];lia) ⟨H,I.tok _,by rw[nk r];exact q⟩
  ·subst e';let⟨its,r,pl,hz⟩:=I.tuple hx;have hlen:=0#r;exact truthy_tuple pl (by simp only[aal];lia) ⟨H,I.tok _,by rw[nk r];exact q⟩
  ·subst e';obtain⟨hz,hS,vs,r,m⟩:0#kvs<=sizeLine/\(p==sysModules)=false/\∃vs,KV kvs vs/\s.heap.DictOf (aJ X.prog X.w) p vs:=I.ah p _ hx;have hlen:0#kvs=0#vs:=abk r;exact wpAny_truthy_dict hS m 8#0 ⟨H,I.tok _,by rw[vN r];exact q⟩
 |_=>exact(show False from e).elim
theorem Bb (ha:PE X a ta) (he:∀whole,isTrue a X.env whole=(do let v←whole;standAt a.pos;holding [v] (truthy v))):
  PT X a (λσ H Q=>ta σ H λx H'=>∃k,Ab X.K x H' k/\Q k H'):=by
 intro pins s σ H Q I h;exact isTrue_plain (ay (ha pins s σ H _ I h) λv s1 z902=>by let⟨x,H1,I1,r1,q1⟩:=z902;exact EO pins s1 σ H1 x v Q I1 r1 q1) (he _)
theorem vF:aH X (binaryOp .Add) (λx y H Q=>∃i j,x= .str i/\y= .str j/\0#i+0#j<=sizeLine/\Q (.str (i++j)) H):=by
 intro pins s σ H x y v u Q I rx ry h;let⟨i,j,rfl,rfl,hz,q⟩:=h;let⟨t,rfl⟩:=rx;let⟨t',rfl⟩:=ry;exact add_str (λt' tk=>⟨.str (i++j),H,I.tok _,⟨_,rfl⟩,q⟩) hz
theorem vals1 {x:V} {us:8#36} (r:Vals [x] us):∃u,us=[u]/\RelV x u:=by
 cases r with
 |cons r1 r2=>cases r2;exact⟨_,rfl,r1⟩
theorem vals2 {x y:V} {us:8#36} (r:Vals [x,y] us):∃u w',us=[u,w']/\RelV x u/\RelV y w':=by
 cases r with
 |cons r1 r2=>
  cases r2 with
  |cons r3 r4=>cases r4;exact⟨_,_,rfl,r1,r3⟩
theorem A1:au X (.builtin "abs") (λxs H Q=>∃i,xs=[6#i]/\Q 6#(if i<0 then-i else i) H):=by
 intro pins s σ H xs us Q I r h;let⟨i,rfl,q⟩:=h;let⟨u,rfl,t,rfl⟩:=vals1 r;exact call_abs_int λu tk=>⟨6#(if i<0 then-i else i),H,I.tok _,⟨_,rfl⟩,q⟩
theorem yQ (hc:X.calm=true):au X (.builtin "max") (λxs H Q=>∃i j,xs=[6#i, 6#j]/\Q 6#(if j>i then j else i) H):=by
 intro pins s σ H xs us Q I r h;let⟨i,j,rfl,q⟩:=h;let⟨u,w',rfl,⟨t,rfl⟩,⟨t',rfl⟩⟩:=vals2 r;refine max_two_ints (I.ok.hd hc) λh' tk k=>⟨_,H,I.kept k, ?_,q⟩
 by_cases hj:j>i
 ·rw[if_pos hj,if_pos hj];exact⟨_,rfl⟩
 ·rw[if_neg hj,if_neg hj];exact⟨_,rfl⟩
theorem yK:au X (.type "int") (λxs H Q=>(∃i,xs=[6#i]/\Q 6#i H)∨∃k,xs=[.bl k]/\Q 6#(if k then 1 else 0) H):=by
 intro pins s σ H xs us Q I r h
 rcases h with⟨i,rfl,q⟩|⟨k,rfl,q⟩
 ·let⟨u,rfl,t,rfl⟩:=vals1 r;exact call_int_int ⟨6#i,H,I,⟨_,rfl⟩,q⟩
 ·let⟨u,rfl,r1⟩:=vals1 r;cases r1;exact call_int_bool ⟨6#(if k then 1 else 0),H,I.tok _,⟨_,rfl⟩,q⟩
end
structure ObjM (h:Heap) (x dx C:Addr) (mA:8#19):Prop where
 obj:h.get? x=1#(PySem.W.instObj C dx)
 ns:h.Ns1 dx mA
 ne:dx≠x
set_option tactic.hygienic true in
theorem yP {h:Heap} {mA:8#19} (n:h.Ns1 dx mA):∃od,h.get? dx=1#od/\∀name,PySem.W.lookIn name od=1#(mA name):=by
 let⟨o,es,ep,ho,hd,hk,_,hm⟩:=n;refine⟨o,ho,λname=> ?_⟩;have e:=hm name;unfold nsFind findBy at e;rw[←Array.find?_toList] at e;unfold PySem.W.lookIn;rw[hd];dsimp only;split
 ·rename_i y q;rw[q] at e;exact congrArg some e
 ·rename_i q;rw[q] at e
  have a:es.toList.any (·.refKey)=false:=by
   rw[List.any_eq_false];intro y hy;let⟨z,t,hkey⟩:=hk y (Array.mem_toList_iff.mp hy);simp[DictEntry.refKey,hkey]
  have a':¬es.toList.any (·.refKey)=true:=by rw[a];exact aaF
  rw[if_neg a'];exact congrArg some e
theorem ObjM.look {x C:Addr} {mA:8#19} (I:ObjM h x dx C mA):∃od,PySem.W.InstAt h x (PySem.W.instObj C dx) C 1#od/\∀name,PySem.W.lookIn name od=1#(mA name):=
 let ⟨od,ho,hl⟩:=yP I.ns
 ⟨od,⟨I.obj,rfl,rfl,ho⟩,hl⟩
section
variable {prog:Program} {w:World} {A:Around} {E:8#2} {s:9#2} {K:8#4} {x dx C f:Addr} {mA:8#19} {name:Str} {v:Value}
theorem get_map {expr:Bool} {Q:8#2} (X:K.In s.heap) (I:ObjM s.heap x dx C mA) (hg:PySem.W.plainGet K C name=true) (hh:PySem.W.hasDictIn K C=true)
  (ha:PySem.W.findIn K 3#C name=1#none) (hv:mA name=1#v) (hv':PySem.W.handedIn v=true) (h:Q v {s with toks:=s.toks+1}):
  wpAny 9#1 A (getAttr 3#x name expr) Q E s:=by
 let⟨od,J,hl⟩:=I.look;exact PySem.W.get_value X J (PySem.W.plainGet_of hg).1 (PySem.W.findObj_own hh ha rfl (by rw[hl,hv])) hv' h
theorem C7 {ns:2#Str} {Q:Unit->Shared->Prop} (X:K.In s.heap) (I:ObjM s.heap x dx C mA)
  (hs:PySem.W.findIn K 3#C "__setattr__"=1#1#(.builtin "object.__setattr__")) (hp:PySem.W.plainOver K C=true) (ht:PySem.W.takerIn K C name=1#none) (hh:PySem.W.hasDictIn K C=true)
  (hw:PySem.Within mA ns) (hsz:0#ns<=sizeLine)
  (h:∀h',ObjM h' x dx C (λy=>if y=name then 1#v else mA y)->Heap.SameBut dx s.heap h'->Q () {s with heap:=h',toks:=s.toks+2}):
  wpAny 9#1 A (setAttr 3#x name v) Q E s:=by
 let⟨od,J,hl⟩:=I.look;refine PySem.W.set_plain X J hs (PySem.W.osa_open (s:={s with toks:=s.toks+1}) (r:=none) X J hp ht λb=> ?_);let⟨cd,hc,hd'⟩:=PySem.W.any_some hh;have hx:s.heap.get? x=1#⟨3#C,1#dx, .plain,#[]⟩:=I.obj;refine aaa (aaf (aaa (aaa (wpAny_loadPart hx (aaa (PySem.W.Looks.here (s:={s with toks:=s.toks+1}) (PySem.W.looks_clsIn X hc) ?_))))));rw[hd'];refine aaf (a:=1#dx) (aaa (aaf (aaa ?_)));refine wpAny_nsSet1 (s:={s with toks:=s.toks+1}) I.ns λh' hn2 hs2=> ?_;let⟨oD,esD,epD,hoD,u7,hcD⟩:=hn2.count (PySem.Within.cons name v hw);refine aaa (wpAny_lookBehind hoD (by rw[u7];exact pastItsLine_dict (aaQ hcD (by rw[aas];lia))) ?_);exact aaf (h _ ⟨(hs2.2 _ (Ne.symm I.ne)).trans I.obj,hn2,I.ne⟩ hs2)
theorem AD {R:Result->Shared->Prop} {vs:8#36} {kw:2#(Str×Value)} (X:K.In s.heap) (hm:PySem.W.makesIn K C=true)
  (hi:PySem.W.findIn K 3#C "__init__"=1#1#3#f) (hf:PySem.W.typeIn K 3#f=1#(.type "function"))
  (h:codeAny 9#1 (A.under (.builtin "type.__call__" ⟨3#C::vs,kw⟩)) (.call 3#f ⟨3#9#8::vs,kw⟩) (PySem.W.InitBack 9#8 R)
   {s with heap:=(s.heap.push PySem.W.emptyDict).push (PySem.W.instObj C s.heap.objs.size)}):
  codeAny 9#1 A (.call 3#C ⟨vs,kw⟩) R s:=by
 let⟨hh,g,d,t,os⟩:=s;exact PySem.W.make_core (ac4 X hm) (abH X hi) (λself=>PySem.W.bind_fn X self hf) (.inl rfl) h
theorem yV {R:Result->Shared->Prop} (X:K.In s.heap) (hm:PySem.W.makesIn K C=true)
  (hi:PySem.W.findIn K 3#C "__init__"=1#1#(.builtin "object.__init__"))
  (hb:∀self,PySem.W.Looks 9#1 s.heap (bindSpecial (.builtin "object.__init__") self) (.builtin "object.__init__",[self]))
  (h:codeAny 9#1 (A.under (.builtin "type.__call__" ⟨[3#C],[]⟩)) (.call (.builtin "object.__init__") ⟨[3#9#8],[]⟩) (PySem.W.InitBack 9#8 R)
   {s with heap:=(s.heap.push PySem.W.emptyDict).push (PySem.W.instObj C s.heap.objs.size)}):
  codeAny 9#1 A (.call 3#C ⟨[],[]⟩) R s:=by
 let⟨hh,g,d,t,os⟩:=s;exact PySem.W.make_core (ac4 X hm) (abH X hi) hb (.inr ⟨rfl,rfl⟩) h
end
noncomputable def aW (f:Str) (v:V):2#(Str×V)->2#(Str×V)
 |[]=>[(f,v)]
 |(g,x)::r=>if g=f then (g,v)::r else (g,x)::aW f v r
theorem lI (f g:Str) (v:V):∀fs:2#(Str×V),(aW f v fs).lookup g=if g=f then 1#v else fs.lookup g
 |[]=>by
  show List.lookup g [(f,v)]=_
  by_cases h:g=f
  ·have hb:(g==f)=true:=beq_iff_eq.mpr h;simp only[List.lookup,hb,if_pos h]
  ·have hb:(g==f)=false:=beq_eq_false_iff_ne.mpr h;simp only[List.lookup,hb,if_neg h]
 |(k,x)::r=>by
  have ih:=lI f g v r;rw[show aW f v ((k,x)::r)=(if k=f then (k,v)::r else (k,x)::aW f v r) from rfl]
  by_cases hk:k=f
  ·rw[if_pos hk]
   by_cases h:g=k
   ·have hb:(g==k)=true:=beq_iff_eq.mpr h;simp only[List.lookup,hb,if_pos (h.trans hk)]
   ·have hb:(g==k)=false:=beq_eq_false_iff_ne.mpr h;simp only[List.lookup,hb,if_neg (λe:g=f=>h (e.trans hk.symm))]
  ·rw[if_neg hk]
   by_cases h:g=k
   ·have hb:(g==k)=true:=beq_iff_eq.mpr h;simp only[List.lookup,hb,if_neg (λe:g=f=>hk (h.symm.trans e))]
   ·have hb:(g==k)=false:=beq_eq_false_iff_ne.mpr h;simp only[List.lookup,hb];exact ih
theorem jM (f:Str) (v:V):∀fs:2#(Str×V),f∈(aW f v fs).map (·.1)/\∀g,g∈fs.map (·.1)->g∈(aW f v fs).map (·.1)
 |[]=>⟨by simp[aW],λg h=>by simp at h⟩
 |(k,x)::r=>by
  let⟨i1,i2⟩:=jM f v r;rw[show aW f v ((k,x)::r)=(if k=f then (k,v)::r else (k,x)::aW f v r) from rfl]
  by_cases hk:k=f
  ·rw[if_pos hk];subst hk;exact⟨by simp,λg h=>by simpa using h⟩
  ·rw[if_neg hk];refine⟨?_,λg h=> ?_⟩
   ·rw[aav];exact aat _ i1
   ·rw[aav] at h⊢
    rcases aap.mp h with e|e
    ·exact aap.mpr (.inl e)
    ·exact aat _ (i2 g e)
theorem lg (f:Str) (v:V):∀fs:2#(Str×V),0#(aW f v fs)<=0#fs+1
 |[]=>by simp[aW]
 |(k,x)::r=>by
  have ih:=lg f v r;rw[show aW f v ((k,x)::r)=(if k=f then (k,v)::r else (k,x)::aW f v r) from rfl]
  by_cases hk:k=f
  ·rw[if_pos hk,aas,aas];lia
  ·rw[if_neg hk,aas,aas];lia
theorem dX.some_of {v:V} {o:5#Value} (r:dX 1#v o):∃u,o=1#u/\RelV v u:=by
 cases o with
 |none=>exact(show False from r).elim
 |some u=>exact⟨u,rfl,r⟩
theorem yf {v:V} {u:Value} (r:RelV v u):PySem.W.handedIn u=true:=by
 cases v with
 |non=>cases (show u=Value.none from r);rfl
 |bl b=>cases (show u=Value.bool b from r);rfl
 |int i=>let⟨t,e⟩:=(show∃t,u=Value.int i t from r);cases e;rfl
 |str x=>let⟨t,e⟩:=(show∃t,u=Value.str x t from r);cases e;rfl
 |byt b=>let⟨t,e⟩:=(show∃t,u=Value.bytes b t from r);cases e;rfl
 |flt b=>let⟨t,e⟩:=(show∃t,u=Value.float b t from r);cases e;rfl
 |ref a=>cases (show u=Value.ref a from r);rfl
 |ty n=>cases (show u=Value.type n from r);rfl
section
variable {P:Program} {w:World} {H H':Hp} {h h':Heap} {a C dx:Addr} {fs fs':2#(Str×V)}
theorem oA (ah:bE P w H h) (e:H a=1#(.ins C dx fs)):∃mA,ObjM h a dx C mA/\(∀f,dX (fs.lookup f) (mA f))/\PySem.Within mA (fs.map (·.1))/\0#fs<=1000/\H dx=1#(.own a):=by
 let⟨d,z,ne,ob,mA,n,r,q⟩:=(show aK P w H h a (.ins C dx fs) from ah a _ e);exact⟨mA,⟨ob,n,ne⟩,r,q,z,d⟩
end
structure Cls (K:8#4) (C:Addr):Prop where
 pg:PySem.W.plainGet K C Str.empty=true
 hd:PySem.W.hasDictIn K C=true
 po:PySem.W.plainOver K C=true
 sa:PySem.W.findIn K 3#C "__setattr__"=1#1#(.builtin "object.__setattr__")
theorem Cls.get {K:8#4} {C:Addr} (c:Cls K C) (f:Str):PySem.W.plainGet K C f=true:=c.pg
def eK (K:8#4) (C:Addr) (f:Str):Prop:=PySem.W.findIn K 3#C f=1#none
theorem eK.JC {K:8#4} {C:Addr} {f:Str} (n:eK K C f):PySem.W.takerIn K C f=1#none:=by
 unfold PySem.W.takerIn;rw[show PySem.W.findIn K 3#C f=1#none from n];rfl
structure Con (K:8#4) (C:Addr) (f:Str) (v:V) (u:Value):Prop where
 at_:PySem.W.findIn K 3#C f=1#1#u
 rel:RelV v u
 get:PySem.W.specialIn K u "__get__"=1#none
 cp:PySem.W.copiedNames.contains f=false
structure Meth (K:8#4) (C:Addr) (m:Str) (f:Addr):Prop where
 at_:PySem.W.findIn K 3#C m=1#1#3#f
 fn:PySem.W.isFn K 3#f=true
 kp:PySem.W.keepIn K 3#f=true
section
variable {X:Cx} {pins:8#5} {σ:St} {H:Hp} {s:9#2} {a C dx:Addr} {fs:2#(Str×V)} {f:Str} {v:V} {A:Around} {E:8#2}
theorem wH {b:Bool} {Q:8#2} (I:8#1) (e:H a=1#(.ins C dx fs)) (c:Cls X.K C) (n:eK X.K C f) (l:fs.lookup f=1#v)
  (h:∀u s',Inv X pins σ H s'->RelV v u->Q u s'):wpAny 8#3 A (getAttr 3#a f b) Q E s:=by
 let⟨mA,O,r,_,_,_⟩:=oA I.ah e;let⟨u,hu,ru⟩:=dX.some_of (v:=v) (o:=mA f) (by rw[←l];exact r f);exact get_map I.bT O (c.get f) c.hd n hu (yf ru) (h u _ (I.tok _) ru)
theorem wF {y:V} {u:Value} {Q:Unit->Shared->Prop} (I:8#1) (e:H a=1#(.ins C dx fs)) (c:Cls X.K C) (n:eK X.K C f) (hl:0#fs<1000) (ry:RelV y u)
  (h:∀s',Inv X pins σ (upd H a (.ins C dx (aW f y fs))) s'->Q () s'):wpAny 8#3 A (setAttr 3#a f u) Q E s:=by
 let⟨mA,O,r,wi,_,ho⟩:=oA I.ah e
 have hz:0#(fs.map (·.1))<=sizeLine:=by rw[aay,abB];lia
 refine C7 I.bT O c.sa c.po n.JC c.hd wi hz λh' O' sb=>h _ ?_
 have hd:∃o,h'.get? dx=1#o:=let ⟨o,_,_,e',_⟩:=O'.ns;⟨o,e'⟩
 refine I.write (x:=a) (e:=dx) (by rw[e];exact True.intro) (.inr ho) (λb q hb z=>(sb.2 b hb).trans z) hd ?_;refine⟨by rw[ao O.ne];exact ho, ?_,O.ne,O'.obj,_,O'.ns,λg=> ?_,λg hg=> ?_⟩
 ·have:=lg f y fs;lia
 ·show dX ((aW f y fs).lookup g) (if g=f then 1#u else mA g);rw[lI]
  by_cases q:g=f
  ·rw[if_pos q,if_pos q];exact ry
  ·rw[if_neg q,if_neg q];exact r g
 ·by_cases q:g=f
  ·rw[q];exact(jM f y fs).1
  ·refine(jM f y fs).2 g (wi g λz=>hg ?_);show (if g=f then 1#u else mA g)=none;rw[if_neg q];exact z
theorem Inv.made (I:8#1):Inv X pins σ (upd (upd H s.heap.objs.size (.own 9#8)) 9#8 (.ins C s.heap.objs.size []))
  {s with heap:=(s.heap.push PySem.W.emptyDict).push (PySem.W.instObj C s.heap.objs.size)}:=by
 have e1:(s.heap.push PySem.W.emptyDict).get? s.heap.objs.size=1#PySem.W.emptyDict:=aaj s.heap rfl
 have e2:((s.heap.push PySem.W.emptyDict).push (PySem.W.instObj C s.heap.objs.size)).get? 9#8=1#(PySem.W.instObj C s.heap.objs.size):=by
  have:=aaj (s.heap.push PySem.W.emptyDict) (o:=PySem.W.instObj C s.heap.objs.size) rfl;rwa[aaO] at this
 have e3:(s.heap.push PySem.W.emptyDict).Ns s.heap.objs.size (λ_=>none):=⟨PySem.W.emptyDict,#[],_,e1,rfl,(λe he=>absurd he 8#7),λ_=>rfl⟩;have I1:=I.laid (a:=s.heap.objs.size) (o:= .own 9#8) (h':=s.heap.push PySem.W.emptyDict) (t':=s.toks) (λb u q=>aae _ q) (aai _) ⟨_,e1⟩;refine I1.laid (a:=s.heap.objs.size+1) (o:= .ins C s.heap.objs.size []) (t':=s.toks) (λb u q=>aae _ q) (ac5 (aaO _ _)) ?_;have ne:s.heap.objs.size≠s.heap.objs.size+1:=aax (ab0 _);refine⟨by rw[ao ne,ak],aaW _,ne,e2,λ_=>none,(Heap.Ns1.of_empty e3).at λo q=>aae _ q,λ_=>True.intro,λy hy=>absurd rfl hy⟩
theorem Dd {w:World} {env:Env} {e:Expr} {f:Str} {s:9#2} {Q:8#2} (hb:attributeBase e f env (eval e env)=eval e env)
  (h:wpAny 9#1 A (eval e env) (λo s₁=>wpAny 9#1 A (getAttr o f true) Q E s₁) E s):wpAny 9#1 A (eval (.Attribute e f pos) env) Q E s:=
 Attribute_any_ h (by rw[arm_eval_Attribute,hb])
end
def Lj (K:8#4) (ta:TE) (f:Str):TE:=λσ H Q=>ta σ H λx H1=>∃a C dx fs v,x= 3#a/\H1 a=1#(.ins C dx fs)/\Cls K C/\eK K C f/\fs.lookup f=1#v/\Q v H1
def Ml (K:8#4) (ta tv:TE) (f:Str):TS:=λD σ H=>tv σ H λy H1=>ta σ H1 λx H2=>∃a C dx fs,x= 3#a/\H2 a=1#(.ins C dx fs)/\Cls K C/\eK K C f/\0#fs<1000/\
 D.nx σ (upd H2 a (.ins C dx (aW f y fs)))
section
variable {X:Cx} {o e value:Expr} {f:Str} {pos pos' tpos:Pos} {ta tv:TE}
theorem FV (he:PE X e ta) (hb:attributeBase e f X.env (eval e X.env)=eval e X.env):PE X (.Attribute e f pos) (Lj X.K ta f):=by
 intro pins s σ H Q I h;refine Dd hb (ay (he pins s σ H _ I h) λu s1 z902=> ?_);let⟨x,H1,I1,rx,a,C,dx,fs,v,ex,ea,c,n,l,q⟩:=z902;subst ex;obtain rfl:u=Value.ref a:=rx;exact wH I1 ea c n l λu' s2 I2 ru=>⟨v,H1,I2,ru,q⟩
theorem HA (ha:PE X o ta) (hv:PE X value tv) (hs:swapsWith value 1#(.Attribute o f pos') pos.line X.env=pure false):PS X (.Assign [.Attribute o f pos'] value pos) (Ml X.K ta tv f):=by
 intro pins s σ H D I h;refine plainObj_wpAny_Assign_Attribute (ay (hv pins s σ H _ I h) λu s1 zq3=> ?_) hs;let⟨y,H1,I1,ry,q⟩:=zq3;refine ay (ha pins s1 σ H1 _ I1 q) λov s2 zq4=> ?_;let⟨x,H2,I2,rx,a,C,dx,fs,ex,ea,c,n,l,q2⟩:=zq4;subst ex;obtain rfl:ov=Value.ref a:=rx;exact wF I2 ea c n l ry λs3 I3=>⟨σ,_,I3,q2⟩
end
section
variable {X:Cx} {pins:8#5} {σ:St} {H:Hp} {s:9#2} {A:Around} {E:8#2} {Q:8#2} {c:Value} {b:Bool}
inductive eW (K:8#4) (H:Hp):V->Value->Prop where
 |non:eW K H .non (.type "NoneType")
 |bl (x:Bool):eW K H (.bl x) (.type "bool")
 |int (i:Int):eW K H 6#i (.type "int")
 |str (x:Str):eW K H (.str x) (.type "str")
 |flt (x:UInt64):eW K H (.flt x) (.type "float")
 |lst {a:Addr} {xs:2#V} (e:H a=1#7#xs):eW K H 3#a (.type "list")
 |aF {a:Addr} {o:Obj} {xs:2#V} (e:H a=1#(.aF o 7#xs)):eW K H 3#a (.type "list")
 |tup {a:Addr} {xs:2#V} (e:H a=1#(.tup xs)):eW K H 3#a (.type "tuple")
 |dK {a:Addr} {kvs:2#(Key×V)} (e:H a=1#(.dK kvs)):eW K H 3#a (.type "dict")
 |dT {a:Addr} {kvs:2#(2#Key×V)} (e:H a=1#(.dT kvs)):eW K H 3#a (.type "dict")
 |ins {a C dx:Addr} {fs:2#(Str×V)} (e:H a=1#(.ins C dx fs)) (cl:Cls K C) (ha:PySem.W.findIn K 3#C "__class__"=1#1#8#27)
  (hn:PySem.W.specialIn K 8#27 "__get__"=1#1#(.builtin "getset_descriptor.__get__")) (htk:PySem.W.takesIn K 8#27=1#true)
  (hm:PySem.W.mroIn K C (.type "object")=1#true):eW K H 3#a 3#C
theorem pb {x:V} {u t:Value} (I:8#1) (rx:RelV x u) (ty:eW X.K H x t) (e:PySem.W.kitOne X.K t c=1#b) (h:∀tk,Q (.bool b) {s with toks:=tk}):
  wpAny 8#3 A (call (.builtin "isinstance") [u,c]) Q E s:=by
 cases ty with
 |non=>cases (show u=Value.none from rx);exact aaH PySem.W.kitx_none I.bT True.intro e 8#28 h
 |bl y=>cases (show u=Value.bool y from rx);exact aaH PySem.W.kitx_bool I.bT True.intro e 8#28 h
 |int i=>let⟨t,q⟩:=(show∃t,u=Value.int i t from rx);cases q;exact aaH PySem.W.kitx_int I.bT True.intro e 8#28 h
 |str y=>let⟨t,q⟩:=(show∃t,u=Value.str y t from rx);cases q;exact aaH PySem.W.kitx_str I.bT True.intro e 8#28 h
 |flt y=>let⟨t,q⟩:=(show∃t,u=Value.float y t from rx);cases q;exact aaH PySem.W.kitx_float I.bT True.intro e 8#28 h
 | @lst a xs ea=>
  cases (show u=Value.ref a from rx);let⟨_,_,n,_,h1⟩:=(show aK X.prog X.w H s.heap a 7#xs from I.ah a _ ea);exact aaH acX I.bT ⟨_,h1,rfl⟩ e 8#28 h
 | @aF a ob xs ea=>
  cases (show u=Value.ref a from rx);let⟨_,_,_,n,_,h1⟩:=(show aK X.prog X.w H s.heap a (.aF ob 7#xs) from I.ah a _ ea);exact aaH acX I.bT ⟨_,h1,rfl⟩ e 8#28 h
 | @tup a xs ea=>
  cases (show u=Value.ref a from rx);let⟨_,_,_,p⟩:=(show aK X.prog X.w H s.heap a (.tup xs) from I.ah a _ ea);let⟨o,h1,h2,_⟩:=p;exact aaH PySem.W.kitx_tuple I.bT ⟨o,h1,h2⟩ e 8#28 h
 | @dK a kvs ea=>
  cases (show u=Value.ref a from rx);let⟨_,_,vs,_,p⟩:=(show aK X.prog X.w H s.heap a (.dK kvs) from I.ah a _ ea);let⟨o,es,ep,h1,h2,_⟩:=p;exact aaH aci I.bT ⟨o,h1,h2.1⟩ e 8#28 h
 | @dT a kvs ea=>
  cases (show u=Value.ref a from rx);let⟨_,_,xs,_,o,es,ep,h1,h2,_⟩:=(show aK X.prog X.w H s.heap a (.dT kvs) from I.ah a _ ea);exact aaH aci I.bT ⟨o,h1,h2.1⟩ e 8#28 h
 | @ins a C dx fs ea cl ha hn htk hm=>
  cases (show u=Value.ref a from rx);let⟨mA,O,_⟩:=oA I.ah ea;let⟨od,J,_⟩:=O.look;exact aaH (PySem.W.kitx_own (cl.get _) cl.hd ha hn htk hm) I.bT J e 8#28 h
end
structure Room (k:Nat) (A:Around):Prop where
 hd:A.handled=none
 dp:A.depth+3*k+5<recursionLimit
 un:A.units+16*k+200<cLine
theorem Room.mono {j k:Nat} {A:Around} (r:Room k A) (h:j<=k):Room j A:=⟨r.hd,by have:=r.dp;lia,by have:=r.un;lia⟩
theorem Room.deeper {k:Nat} {A:Around} (r:Room (k+1) A) (env:Env):Room k (A.deeper env):=
 ⟨r.hd,by have:=r.dp;show A.depth+1+3*k+5<_;lia,by have:=r.un;show A.units+3+16*k+200<_;lia⟩
theorem Room.in1 {k:Nat} {A:Around} (r:Room (k+1) A):Room k A.in1:=
 ⟨r.hd,by have:=r.dp;show A.depth+3*k+5<_;lia,by have:=r.un;show A.units+1+16*k+200<_;lia⟩
theorem wu {A:Around} {C:Addr} {us:8#36} {kw:2#(Str×Value)}:(A.under (.builtin "type.__call__" ⟨3#C::us,kw⟩)).depth=A.depth+1:=by
 first|rfl|simp[Around.under,Code.weight,Code.isCreation,Code.isGuard,Code.isCaller,Code.frames,Code.isFrame,guardIds]
theorem vx {A:Around} {C:Addr} {us:8#36} {kw:2#(Str×Value)}:(A.under (.builtin "type.__call__" ⟨3#C::us,kw⟩)).units=A.units+1:=by
 first|rfl|simp[Around.under,Code.cUnits,Code.frames,Code.isFrame]
theorem Room.make {k:Nat} {A:Around} (r:Room (k+1) A) (C:Addr) (us:8#36) (kw:2#(Str×Value)):Room k (A.under (.builtin "type.__call__" ⟨3#C::us,kw⟩)):=
 ⟨r.hd,by have:=r.dp;rw[wu];lia,by have:=r.un;rw[vx];lia⟩
theorem Room.depth {k:Nat} {A:Around} (r:Room k A):A.depth<recursionLimit:=by have:=r.dp;lia
def Am:TA:=λ_ H Q=>Q [] H
def v9 (ta:TE) (tr:TA):TA:=λσ H Q=>ta σ H λx H1=>tr σ H1 λxs H2=>Q (x::xs) H2
section
variable {X:Cx} {e:Expr} {es:2#Expr} {te:TE} {t:TA} {pos:Pos}
theorem gC:PA X [] Am:=λ_ _ _ _ H Q I h=>acY ⟨[],H,I, .nil,h⟩
theorem cZ (ha:PE X e te) (hr:PA X es t) (hs:starEach (e::es) X.env=(false,eval e X.env)::starEach es X.env:=by rfl):PA X (e::es) (v9 te t):=by
 intro pos pins s σ H Q I h;rw[hs];show wpAny _ _ (spliced ((false,eval e X.env)::backTo pos (starEach es X.env))) _ _ s;refine acb (ay (ha pins s σ H _ I h) λu s1 z902=> ?_);let⟨x,H1,I1,r1,q1⟩:=z902
 exact ay (hr pos pins s1 σ H1 _ I1 q1) λus s2 z902=>by let⟨xs,H2,I2,r2,q2⟩:=z902;exact⟨x::xs,H2,I2, .cons r1 r2,q2⟩
def LB (t:TA):TE:=λσ H Q=>t σ H λxs H1=>0#xs<=sizeLine/\∀p,H1 p=none->Q 3#p (upd H1 p (.tup xs))
def Mb (t:TA):TE:=λσ H Q=>t σ H λxs H1=>0#xs<=sizeLine/\∀p,H1 p=none->Q 3#p (upd H1 p 7#xs)
theorem xI {x1} (h:PA X es t):PE X (.Tuple es x1 pos) (LB t):=by
 intro pins s σ H Q I hq;refine wpAny_Tuple_spliced (ay (h pos pins s σ H _ I hq) λus s1 zq5=> ?_);let⟨xs,H1,I1,r,z,q⟩:=zq5;refine⟨by rw[←0#r];exact z, ?_⟩;have hf:H1 s1.heap.objs.size=none:=I1.ah.fresh (aai _);refine⟨3#s1.heap.objs.size,upd H1 s1.heap.objs.size (.tup xs),I1.laid (t':=s1.toks) (λb u e=>aae _ e) (aai _) ?_,rfl,q _ hf⟩;exact⟨z,us,r,⟨_,aaj _ rfl,rfl,_,rfl⟩⟩
theorem EX (h:PA X es t):PE X (.List es pos) (Mb t):=by
 intro pins s σ H Q I hq;refine wpAny_List_spliced (ay (h pos pins s σ H _ I hq) λus s1 zq6=> ?_);let⟨xs,H1,I1,r,z,q⟩:=zq6;refine⟨by rw[←0#r];exact z, ?_⟩;have hf:H1 s1.heap.objs.size=none:=I1.ah.fresh (aai _);refine⟨3#s1.heap.objs.size,upd H1 s1.heap.objs.size 7#xs,I1.laid (t':=s1.toks) (λb u e=>aae _ e) (aai _) ?_,rfl,q _ hf⟩;exact⟨z,us,0,r,aaj _ rfl⟩
end
abbrev Sp:=2#V->Hp->VK->XK->Prop
abbrev kX:=2#Env->Hp->Shared->XK->Value->Shared->Prop
structure Env0 (P:Program) (w:World) (K:8#4) (mg:8#19) (base:Heap) (A:Around) (outer:2#Env) (s:9#2) (H:Hp):Prop where
 frames:A.frames=1#outer
 mod:Mod K mg base
 bs:∀b o,base.get? b=1#o->s.heap.get? b=1#o/\H b=none
 bsz:base.objs.size<=s.heap.objs.size
 dh:s.heap.FunFrames base outer
 frf:∀b∈cF outer,H b=none
 ah:bE P w H s.heap
 bare:AllBare s.gens
def CE (outer:2#Env) (P:Program) (w:World) (H:Hp) (s:9#2) (Q:VK) (u:Value) (s':9#2):Prop:=
 ∃v H',s'.os=s.os/\AllBare s'.gens/\Un (cF outer) [] H H' s.heap s'.heap/\bE P w H' s'.heap/\RelV v u/\Q v H'
def CR (CX:kX) (outer:2#Env) (P:Program) (w:World) (H:Hp) (s:9#2) (Q:VK) (E:XK) (r:Result) (s':9#2):Prop:=
 match r with
 | .ok (.ret u)=>CE outer P w H s Q u s'
 | .ok _=>False
 | .error e=>CX outer H s E e s'
structure FnOk (P:Program) (w:World) (K:8#4) (mg:8#19) (base:Heap) (CX:kX) (k:Nat) (f:Addr) (fd:FuncData) (ps:2#Str) (sp:Sp):Prop where
 len:∀vs H Q E,sp vs H Q E->0#vs=0#ps
 run:∀(A:Around) (outer:2#Env) (s:9#2) (H:Hp) (args:Args) (us:8#36) (vs:2#V) (Q:VK) (E:XK),Room k A->Env0 P w K mg base A outer s H->BindsTo s fd args (ps.zip us)->Vals vs us->sp vs H Q E->
  codeAny (model P w) A (.call 3#f args) (CR CX outer P w H s Q E) s
theorem Env0.make {P:Program} {w:World} {K:8#4} {mg:8#19} {A:Around} {outer:2#Env} {s:9#2} {H:Hp} (e:Env0 P w K mg base A outer s H) (C:Addr) (us:8#36) (kw:2#(Str×Value)):
  Env0 P w K mg base (A.under (.builtin "type.__call__" ⟨3#C::us,kw⟩)) outer s H:=⟨by first|exact e.frames|(simpa[Around.under,Code.envs,Code.isFrame,pushEnvs] using e.frames),e.mod,e.bs,e.bsz,e.dh,e.frf,e.ah,e.bare⟩
theorem Env0.in1 {P:Program} {w:World} {K:8#4} {mg:8#19} {A:Around} {outer:2#Env} {s:9#2} {H:Hp} (e:Env0 P w K mg base A outer s H):
  Env0 P w K mg base A.in1 outer s H:=⟨e.frames,e.mod,e.bs,e.bsz,e.dh,e.frf,e.ah,e.bare⟩
section
variable {X:Cx} {pins:8#5} {σ:St} {H:Hp} {s s':9#2}
theorem Inv.Bo (I:8#1):Env0 X.prog X.w X.K X.mg X.base X.A X.stack s H:=
 ⟨I.ok.frames,I.ok.mod,I.bs,aaQ I.ok.bsz I.sz,I.stack,I.kO,I.ah,I.bare⟩
theorem Inv.after {Q:VK} {u:Value} (I:8#1) (h:CE X.stack X.prog X.w H s Q u s'):EP X pins σ Q u s':=by
 let⟨v,H',os,bare,un,ah,r,q⟩:=h;let⟨hh,g,d,t,os'⟩:=s';obtain rfl:os'=s.os:=os;exact⟨v,H',I.call (h':=hh) (g':=g) (d':=d) (t':=t) (ch:=[]) un ah bare (λb z=>absurd z 8#7),r,q⟩
end
def Binds (K:8#4) (fd:FuncData) (ps:2#Str) (ds:8#36):Prop:=
 ∀(s:9#2) (us:8#36),K.In s.heap->0#(us++ds)=0#ps->BindsTo s fd ⟨us,[]⟩ (ps.zip (us++ds))
theorem Binds.all {K:8#4} {ps:2#Str} (h:∀us:2#Value,0#us=0#ps->bindArgs fd ⟨us,[]⟩=pure (ps.zip us)):Binds K fd ps []:=λs us _ hl=>by
 rw[abh] at hl⊢;exact .of_eq (h us hl)
section
variable {X:Cx} {CX:kX} {k:Nat} {f C:Addr} {fd:FuncData} {ps:2#Str} {sp:Sp} {dvs:2#V} {ds:8#36} {E:XK} {x m:Str} {p pos apos:Pos} {e o:Expr} {es:2#Expr} {ta:TE} {t:TA}
structure Mk (K:8#4) (C f:Addr):Prop where
 makes:PySem.W.makesIn K C=true
 init:PySem.W.findIn K 3#C "__init__"=1#1#3#f
 fn:PySem.W.isFn K 3#f=true
 kp:PySem.W.keepIn K 3#C=true
end
def PK (X:Cx) (kws:2#Keyword) (t:TA):Prop:=
 ∀(pos:Pos) (pins:8#5) (s:9#2) (σ:St) (H:Hp) (Q:2#V->Hp->Prop),Inv X pins σ H s->t σ H Q->wpAny 8#3 X.A (evalAll ((backToKw pos (keywordEach kws X.env)).map (·.2))) (AP X pins σ Q) X.xe s
section
variable {X:Cx} {CX:kX} {k:Nat} {f C:Addr} {fd:FuncData} {ps ks:2#Str} {sp:Sp} {E:XK} {x m:Str} {p pos apos kpos:Pos} {e o:Expr} {es:2#Expr} {kws:2#Keyword} {te ta:TE} {t tk:TA} {nm:5#Str}
theorem Ff:PK X [] Am:=λ_ _ _ _ H Q I h=>wpAny_evalAll_nil ⟨[],H,I, .nil,h⟩
theorem C9 (ha:PE X e te) (hr:PK X kws t):PK X (⟨nm,e,kpos⟩::kws) (v9 te t):=by
 intro pos pins s σ H Q I h
 show wpAny _ _ (evalAll ((do let v←eval e X.env;standAt pos;pure v)::(backToKw pos (keywordEach kws X.env)).map (·.2))) _ _ s
 refine wpAny_evalAll_cons (aaa (ay (ha pins s σ H _ I h) λu s1 zq7=> ?_));let⟨x,H1,I1,r1,q1⟩:=zq7;refine aaa (acV (aaf ?_))
 exact ay (hr pos pins s1 σ H1 _ I1 q1) λus s2 z902=>by let⟨xs,H2,I2,r2,q2⟩:=z902;exact⟨x::xs,H2,I2, .cons r1 r2,q2⟩
structure KBinds (K:8#4) (fd:FuncData) (ps ks:2#Str) (g:2#Value->2#Value->2#Value) (gV:2#V->2#V->2#V):Prop where
 to:∀(s:9#2) (us ws:8#36),K.In s.heap->0#(g us ws)=0#ps->BindsTo s fd ⟨us,ks.zip ws⟩ (ps.zip (g us ws))
 rel:∀{vs:2#V} {us:8#36} {zs:2#V} {ws:8#36},Vals vs us->Vals zs ws->Vals (gV vs zs) (g us ws)
variable {g:2#Value->2#Value->2#Value} {gV:2#V->2#V->2#V}
end
structure FnScope (N P:2#Str) (sc:Scope):Prop where
 kind:sc.kind= .function
 co:sc.isCoroutine=false
 gen:sc.isGenerator=false
 nd:N.Nodup
 pre:N.take 0#P=P
 par:∀x∈P,sc.names.lookup x=1#.local∨sc.names.lookup x=1#.cell
 nofree:∀y∈sc.names,y.2≠ .free
theorem pV {kindOf:Str->5#NameKind} {x:Str}:∀{binds:2#(Str×Value)} {m:8#19},(∀v,(x,v)∉binds)->bindL kindOf binds m x=m x
 |[],_,_=>rfl
 |(n,v)::r,m,h=>by
  unfold bindL;rw[pV λw hw=>h w (aat _ hw)];split
  ·have:x≠n:=by rintro rfl;exact h v aaz
   simp[this]
  ·rfl
theorem oU {kindOf:Str->5#NameKind} {x:Str}:∀{binds:2#(Str×Value)} {m:8#19},(∀v,(x,v)∉binds)->bindC kindOf binds m x=m x
 |[],_,_=>rfl
 |(n,v)::r,m,h=>by
  unfold bindC;rw[oU λw hw=>h w (aat _ hw)];split
  ·rfl
  ·have:x≠n:=by rintro rfl;exact h v aaz
   simp[this]
theorem o6 {kindOf:Str->5#NameKind} {x:Str} {v:Value}:∀{P:2#Str} {vs:8#36} {i:Nat} {m:8#19},P.Nodup->P[i]?=1#x->vs[i]?=1#v->kindOf x=1#.local->
  bindL kindOf (P.zip vs) m x=1#v
 |[],_,_,_,_,h,_,_=>by simp at h
 |_::_,[],_,_,_,_,h,_=>by simp at h
 |p::P,w::vs,0,m,nd,h1,h2,hk=>by
  simp at h1 h2;subst h1;subst h2;show bindL kindOf ((p,w)::P.zip vs) m p=_;unfold bindL;rw[pV λv hv=>(aa8.mp nd).1 (acF hv).1,if_pos hk];simp
 |p::P,w::vs,i+1,m,nd,h1,h2,hk=>by
  show bindL kindOf ((p,w)::P.zip vs) m x=_;unfold bindL;exact o6 (i:=i) (aa8.mp nd).2 (by simpa using h1) (by simpa using h2) hk
theorem oR {kindOf:Str->5#NameKind} {x:Str} {v:Value}:∀{P:2#Str} {vs:8#36} {i:Nat} {m:8#19},P.Nodup->P[i]?=1#x->vs[i]?=1#v->kindOf x≠1#.local->
  bindC kindOf (P.zip vs) m x=1#v
 |[],_,_,_,_,h,_,_=>by simp at h
 |_::_,[],_,_,_,_,h,_=>by simp at h
 |p::P,w::vs,0,m,nd,h1,h2,hk=>by
  simp at h1 h2;subst h1;subst h2;show bindC kindOf ((p,w)::P.zip vs) m p=_;unfold bindC;rw[oU λv hv=>(aa8.mp nd).1 (acF hv).1,if_neg hk];simp
 |p::P,w::vs,i+1,m,nd,h1,h2,hk=>by
  show bindC kindOf ((p,w)::P.zip vs) m x=_;unfold bindC;exact oR (i:=i) (aa8.mp nd).2 (by simpa using h1) (by simpa using h2) hk
noncomputable def start (N:2#Str) (vs:2#V):St:=vs.map some++List.replicate (0#N-0#vs) none
noncomputable def ou (CX:kX) (P:Program) (w:World) (K:8#4) (mg:8#19) (base:Heap) (N:2#Str) (qual:Str) (scope:Scope) (f:Addr) (cd:Value) (A:Around) (outer:2#Env) (s:9#2) (H:Hp) (E:XK):Cx where
 prog:=P
 w:=w
 K:=K
 mg:=mg
 base:=base
 A:=A.deeper (envOfC qual scope s.heap.objs.size f cd)
 N:=N
 s₀:=s
 H₀:=H
 env:=envOfC qual scope s.heap.objs.size f cd
 outer:=outer
 stack:=envOfC qual scope s.heap.objs.size f cd::outer
 ex:=[]
 calm:=true
 fn:=λ_=>true
 pn:=[]
 xe:=λe s'=>wpAny (model P w) (A.deeper (envOfC qual scope s.heap.objs.size f cd)) (leaving (envOfC qual scope s.heap.objs.size f cd) e) (λ_ s''=>CX outer H s E e s'') (λe' s''=>CX outer H s E e' s'') s'
theorem qF {sc:Scope} {n:Nat} {x:Str} (h:sc.names.lookup x=1#.cell):∃c,(cellsFrom n sc.names []).lookup x=1#c:=by
 have q:=PySem.W.cellsFrom_some sc.names n [] (.inl h);exact aaV.mp q
theorem xt {CX:kX} {P:Program} {w:World} {K:8#4} {mg:8#19} {N ps:2#Str} {qual:Str} {scope:Scope} {f:Addr} {cd:Value} {A:Around} {outer:2#Env} {s:9#2} {H:Hp} {E:XK} {us:8#36} {vs:2#V}
  (S:FnScope N ps scope) (hd:A.handled=none) (e0:Env0 P w K mg base A outer s H) (hl:0#vs=0#ps) (r:Vals vs us)
  (x:InCallC s s.heap.objs.size (bindL (envOfC qual scope s.heap.objs.size f cd).kindOf (ps.zip us) λ_=>none) (cellsFrom 9#8 scope.names []) (bindC (envOfC qual scope s.heap.objs.size f cd).kindOf (ps.zip us) λ_=>none) s1):
  Inv (ou CX P w K mg base N qual scope f cd A outer s H E) [] (start N vs) H s1:=by
 have hpl:0#ps<=0#N:=by have:=congrArg List.length S.pre;rw[aa9] at this;lia
 let⟨h1,tk,rfl,hk⟩:=x.done;have noA:∀b:Addr,b∉(ou CX P w K mg base N qual scope f cd A outer s H E).ex:=λb z=>absurd (show b∈([]:2#Addr) from z) 8#7
 refine⟨⟨e0.mod,S.kind,rfl,rfl,aai _,λy z c h1 h2=> ?_,λy hy=> ?_,λy c _ h=> ?_,λ_=>hd,Around.frames_deeper e0.frames, .inr ⟨rfl,rfl⟩,λb z=>absurd z (noA b),e0.bs,e0.bsz,λb _ _=>noA b,λb z=>absurd z (noA b),e0.dh,e0.frf⟩,
  rfl,e0.bare,Un.kept hk,⟨_,x.toInCall.ns,λi y v h1 h2 h3=> ?_⟩,λy c h=>⟨_,x.cell y c h⟩,e0.ah.fresh (aai _),λy c h=> ?_,λp hp=>absurd (show p∈([]:2#(Addr×Obj)) from hp) 8#7,e0.ah.kept hk, ?_⟩
 ·exact name_of_addr x.apart (aaG h1) (aaG h2)
 ·have hy:scope.names.lookup y=1#.cell∨scope.names.lookup y=1#.free:=hy
  rcases hy with hy|hy
  ·exact qF hy
  ·exact absurd rfl (S.nofree _ (aaG hy))
 ·exact abw (x.above y c (aaG h))
 ·have hi:i<0#vs:=by
   unfold start at h2
   by_cases hi:i<0#vs
   ·exact hi
   ·rw[aam (by simpa using hi)] at h2;rw[abO] at h2;split at h2<;>cases h2
  have ha:vs[i]?=1#v:=by
   unfold start at h2;rw[aaq (by simpa using hi),aaR] at h2
   cases e:vs[i]? with
   |none=>rw[e] at h2;cases h2
   |some a=>rw[e] at h2;cases h2;rfl
  let⟨u,hu,rv⟩:=r.get ha
  have hp:ps[i]?=1#y:=by
   rw[←S.pre,aa3 8#0];exact h1
  have ndP:ps.Nodup:=by rw[←S.pre];exact S.nd.sublist (List.take_sublist _ _)
  refine⟨u,rv, ?_⟩
  rcases S.par y (aar hp) with k|k
  ·exact .inl ⟨k,o6 ndP hp hu k⟩
  ·let⟨c,e⟩:=qF (n:=s.heap.objs.size+1) k;refine .inr ⟨.inl k,c,e, ?_⟩;have q:=x.cell y c e;rw[oR ndP hp hu (by show scope.names.lookup y≠_;rw[k];decide)] at q;exact q
 ·exact e0.ah.fresh (abw (x.above y c (aaG h)))
 ·unfold start;show _=0#N;rw[aaT,aay,List.length_replicate];lia
theorem Il {CX:kX} {P:Program} {w:World} {K:8#4} {mg:8#19} {k:Nat} {f:Addr} {name qual:Str} {params:Arguments} {dV kV doc pm cdv ct oc:Value} {an od:5#Addr}
  {osl:Array 5#Value} {N ps:2#Str} {sp:Sp} (lk:K.lookup f=1#⟨oc,od, .func (PySem.W.fnOf name qual params body scope dV kV doc pm an cdv ct),osl⟩) (hcd:PySem.W.codeIn K cdv qual=true) (S:FnScope N ps scope)
  (len:∀vs H Q E,sp vs H Q E->0#vs=0#ps)
  (hbody:∀(A:Around) (outer:2#Env) (s:9#2) (H:Hp) (vs:2#V) (Q:VK) (E:XK),Room k (A.deeper (envOfC qual scope s.heap.objs.size f cdv))->sp vs H Q E->
   ∃t,bS (ou CX P w K mg base N qual scope f cdv A outer s H E) body t/\t {nx:=λ_ H'=>Q .non H',rt:=Q} (start N vs) H):
  FnOk P w K mg base CX (k+1) f (PySem.W.fnOf name qual params body scope dV kV doc pm an cdv ct) ps sp:=by
 refine⟨len,λA outer s H args us vs Q E hr e0 hb r hsp=> ?_⟩;have hl:=len _ _ _ _ hsp;have KX:K.In s.heap:=e0.mod.kin.keeps λb o e=>(e0.bs b o e).1;have lim:s.heap.NoLimit:=e0.mod.nolimit.keeps λb o e=>(e0.bs b o e).1
 have hkind:∀y∈ps.zip us,scope.names.lookup y.1=1#.local∨(scope.names.lookup y.1=1#.cell/\((cellsFrom 9#8 scope.names []).lookup y.1).isSome=true):=λz900 hy=>by
  let⟨n,v⟩:=z900
  rcases S.par n (acF hy).1 with q|q
  ·exact .inl q
  ·exact .inr ⟨q,PySem.W.cellsFrom_some _ _ _ (.inl q)⟩
 refine codeAny_call_function hr.depth (KX _ _ lk) rfl S.co S.gen rfl (PySem.W.codeRec_of KX hcd) (hb _ _ _ _ ?_);refine wpAny_newFunctionEnv_cells S.kind hkind λenv he s1 x=> ?_;subst he;refine⟨lim.keeps x.toInCall.keep,codeAny_func ?_⟩;let⟨t,ht,hq⟩:=hbody A outer s H vs Q E (hr.deeper _) hsp;have I:Inv (ou CX P w K mg base N qual scope f cdv A outer s H E) [] (start N vs) H s1:=xt S hr.hd e0 hl r x;refine aaL (ht [] s1 (start N vs) H _ I hq) (λfl s' hs=> ?_) λe s' hs=>hs
 have fin:∀{σ':St} {H':Hp} {v:V} {u:Value},Inv (ou CX P w K mg base N qual scope f cdv A outer s H E) [] σ' H' s'->RelV v u->Q v H'->CE outer P w H s Q u s':=
  λ{σ' H' v u} J rv q=>⟨v,H',J.os,J.bare,J.base,J.ah,rv,q⟩
 cases fl with
 |ret u=>
  let⟨v,σ',H',J,rv,q⟩:=hs;exact fin J rv q
 |next=>
  let⟨σ',H',J,q⟩:=hs;exact fin (v:=V.non) (u:=Value.none) J rfl q
 |brk=>
  let⟨_,_,_,q⟩:=hs;exact False.elim q
 |cont=>
  let⟨_,_,_,q⟩:=hs;exact False.elim q
section
variable {X:Cx} {x:Str} {p pos:Pos} {e:Expr} {es:2#Expr} {t:TA} {id T:String} {r:2#V->Hp->VK->Prop}
def tCB (r:2#V->Hp->VK->Prop) (t:TA):TE:=λσ H Q=>t σ H λvs H1=>r vs H1 Q
theorem jl (hc:au X (.builtin id) r) (hg:Gl X x) (hm:X.mg x=none) (hv:bootBuiltins x=1#(.builtin id)) (ha:PA X (e::es) t) (hn:x≠"__name__":=by decide) (hdb:(x==("__debug__":Str))=false:=by decide)
  (he:starEach (e::es) X.env=(false,eval e X.env)::starEach es X.env:=by rfl) (hpl:(backTo pos (starEach es X.env)).any (·.1)=false:=by rfl):PE X (.Call (.Name x p) (e::es) [] pos) (tCB r t):=by
 intro pins s σ H Q I h;refine abr (iW I hg hm hv ?_ hn hdb);exact PyProof.Rows.callWith_builtin1 (ay (ha pos pins s σ H _ I h) λus s1 z902=>by let⟨vs,H1,I1,r1,q1⟩:=z902;exact hc pins s1 σ H1 vs us Q I1 r1 q1) he hpl
theorem pP (hc:au X (.type T) r) (hg:Gl X x) (hm:X.mg x=none) (hv:bootBuiltins x=1#(.type T)) (ha:PA X (e::es) t) (hn:x≠"__name__":=by decide) (hdb:(x==("__debug__":Str))=false:=by decide)
  (he:starEach (e::es) X.env=(false,eval e X.env)::starEach es X.env:=by rfl) (hpl:(backTo pos (starEach es X.env)).any (·.1)=false:=by rfl):PE X (.Call (.Name x p) (e::es) [] pos) (tCB r t):=by
 intro pins s σ H Q I h;refine abr (iW I hg hm hv ?_ hn hdb);exact abZ (ay (ha pos pins s σ H _ I h) λus s1 z902=>by let⟨vs,H1,I1,r1,q1⟩:=z902;exact hc pins s1 σ H1 vs us Q I1 r1 q1) he hpl
end
end L2
namespace HT
open PySem PyProof.Rows
noncomputable def lexLt:2#Int->2#Int->Bool
 |[],[]=>false
 |[],_::_=>true
 |_::_,[]=>false
 |x::xs,y::ys=>if x=y then lexLt xs ys else decide (x<y)
theorem eN (x y:Int) (xs ys:2#Int):lexLt (x::xs) (y::ys)=if x=y then lexLt xs ys else decide (x<y):=rfl
section
open PySem.SeqAt
open PySem.AutoSeq1 (wpAny_loadPart')
open PySem.MeetsSeq PySem.MeetsSeq2 PySem.MeetsSeq3
end
section
variable {prog:Program} {w:World} {A:Around} {E:8#2} {s:9#2}
theorem DR {t b:Addr} {vs ws:8#36} {Q:8#2} (ht:IsTup s.heap t vs.toArray) (hb:IsTup s.heap b ws.toArray) (hv:vs≠[])
  (h1:ws=[]->Q 3#t s) (h2:ws≠[]->Q 3#s.heap.objs.size {s with heap:=s.heap.push {cls:= .type "tuple",data:= .seq (vs++ws).toArray}})
  (hsz:0#vs+0#ws<=sizeLine):wpAny 9#1 A (binaryOp .Add 3#t 3#b) Q E s:=by
 let⟨⟨cls,dd,data,sl⟩,ho,hc,n,hd⟩:=id ht;let⟨⟨cls2,dd2,data2,sl2⟩,ho2,hc2,n2,hd2⟩:=id hb;simp only at hc hd hc2 hd2;subst hc hd hc2 hd2
 have e:vs.toArray++ws.toArray=(vs++ws).toArray:=by simp
 by_cases hw:ws=[]
 ·exact concat_meets ⟨_,ho,rfl⟩ ⟨_,ho2,rfl⟩ noFill_tuple_add seq_tuple_add PySem.F.slot_tuple_add PySem.F.entry_tuple_add (PySem.F.args_tuple_add_2 _ _)
   (tuple_addW1 t b vs.toArray ws.toArray n n2 dd dd2 sl sl2 (by simpa using hv) (by simp[hw])) ⟨ho,ho2,h1 hw⟩
 ·refine concat_meets ⟨_,ho,rfl⟩ ⟨_,ho2,rfl⟩ noFill_tuple_add seq_tuple_add PySem.F.slot_tuple_add PySem.F.entry_tuple_add (PySem.F.args_tuple_add_2 _ _)
   (tuple_addW2 t b vs.toArray ws.toArray n n2 dd dd2 sl sl2 (by simpa using hv) (by simpa using hw) (by rw[aal,aal];exact hsz)) ⟨ho,ho2, ?_⟩
  rw[e];exact h2 hw
noncomputable def aX (n d:Nat):5#Int->Nat
 |none=>d
 |some v=>if v<0 then (v+(n:Int)).toNat else min v.toNat n
theorem F8 (n d:Nat) (hd:d<=n) (o:5#Int):aX n d o<=n:=by
 cases o with
 |none=>exact hd
 |some v=>
  show (if v<0 then (v+(n:Int)).toNat else min v.toNat n)<=n
  by_cases hv:v<0
  ·rw[if_pos hv];lia
  ·rw[if_neg hv];exact Nat.min_le_right _ _
theorem ug (v:Int) (n d:Nat):(if v<0 then max (v+(n:Int)) 0 else min v (n:Int))=((aX n d 1#v:Nat):Int):=by
 show (if v<0 then max (v+(n:Int)) 0 else min v (n:Int))=(((if v<0 then (v+(n:Int)).toNat else min v.toNat n):Nat):Int)
 by_cases hv:v<0
 ·simp only[if_pos hv];lia
 ·simp only[if_neg hv];lia
theorem vq (lo hi:5#Int) (n:Nat):Builtin.Slice.sliceAdjust lo hi 1 (n:Int)=(((aX n 0 lo:Nat):Int),((aX n n hi:Nat):Int)):=by
 have h1:¬((1:Int)<0):=by lia
 unfold Builtin.Slice.sliceAdjust;simp only[h1,abK];refine Prod.ext ?_ ?_
 ·cases lo with
  |none=>rfl
  |some v=>exact ug v n 0
 ·cases hi with
  |none=>rfl
  |some v=>exact ug v n n
theorem vR (i j:Nat):Builtin.Slice.slicePlaces (i:Int) (j:Int) 1=j-i:=by
 unfold Builtin.Slice.slicePlaces
 have h1:(1:Int)>0:=by lia
 simp only[h1,ab5,Int.ediv_one];split<;>lia
theorem nP {v:Value} {o:5#Int} {Q:5#Int->Shared->Prop} (p:IsPart v o) (h:Q o s):wpAny 9#1 A (Builtin.Slice.slicePartIndex v) Q E s:=by
 cases p with
 |none=>exact slicePart_none h
 |int i t=>exact slicePart_int h
theorem l6 {vl vu:Value} {lo hi:5#Int} {n:Nat} {Q:Int×Int×Nat->Shared->Prop} (hs:s.heap.IsSliceOf sl vl vu .none) (pl:IsPart vl lo) (pu:IsPart vu hi)
  (h:Q (((aX n 0 lo:Nat):Int),1,aX n n hi-aX n 0 lo) s):wpAny 9#1 A (Builtin.Slice.sliceApplied 3#sl (pure (n:Int))) Q E s:=by
 let⟨os,hos,hcs,hds⟩:=id hs;unfold Builtin.Slice.sliceApplied Builtin.Slice.sliceFields;refine aaa (aaa (aaD hos hds (x:=vl) rfl (aaa (aaD hos hds (x:=vu) rfl (aaa (aaD hos hds (x:= .none) rfl (aaf ?_)))))));refine aaa (slicePart_none ?_);show wpAny _ _ (if ((1:Int)==0)=true then _ else _) _ _ s;rw[if_neg 9#7];refine aaa (nP pl (aaa (nP pu (aaa (aaf ?_)))))
 show wpAny _ _ (match Builtin.Slice.sliceAdjust lo hi 1 (n:Int) with|(lo,hi)=>pure (lo,(1:Int),Builtin.Slice.slicePlaces lo hi 1)) _ _ s
 rw[vq lo hi n];show wpAny _ _ (pure (((aX n 0 lo:Nat):Int),(1:Int),Builtin.Slice.slicePlaces ((aX n 0 lo:Nat):Int) ((aX n n hi:Nat):Int) 1)) _ _ s;rw[vR];exact aaf h
theorem Av (xs:Array Value) (i k:Nat):((List.range k).filterMap λ(m:Nat)=>xs[((i:Int)+(m:Int)*1).toNat]?).toArray=((xs.toList.drop i).take k).toArray:=by
 have e:(λ(m:Nat)=>xs[((i:Int)+(m:Int)*1).toNat]?)=λm=>xs[i+m]?:=by
  funext m
  have:((i:Int)+(m:Int)*1).toNat=i+m:=by lia
  rw[this]
 rw[e];have:=pick_run xs i k;rw[acT] at this;have e2:((λx=>xs[x]?)∘λx=>i+x)=λm=>xs[i+m]?:=rfl;rw[e2] at this;rw[this]
theorem kW {t:Addr} {items:Array Value} {vl vu:Value} {lo hi:5#Int} {Q:8#2} (ht:IsTup s.heap t items) (hs:s.heap.IsSliceOf sl vl vu .none) (pl:IsPart vl lo) (pu:IsPart vu hi)
  (hw:¬(aX items.size 0 lo=0/\aX items.size items.size hi=items.size))
  (h:Q 3#s.heap.objs.size {s with heap:=s.heap.push {cls:= .type "tuple",data:= .seq ((items.toList.drop (aX items.size 0 lo)).take (aX items.size items.size hi-aX items.size 0 lo)).toArray}})
  (hsz:items.size<=sizeLine):wpAny 9#1 A (getItem 3#t 3#sl) Q E s:=by
 have htake:sizeOk (.seq ((items.toList.drop (aX items.size 0 lo)).take (aX items.size items.size hi-aX items.size 0 lo)).toArray):=by
  show ((items.toList.drop (aX items.size 0 lo)).take (aX items.size items.size hi-aX items.size 0 lo)).toArray.size<=sizeLine;rw[aal,aa9,acw,aa2];lia
 have hj:aX items.size items.size hi<=items.size:=F8 _ _ (aai _) hi;let⟨os,hos,hcs,hds⟩:=id hs;have hTs:s.TypeIs 3#sl "slice":=⟨os,hos,hcs⟩;unfold getItem
 try with_reducible refine abl ?_
 first|refine aaa (aaf ?_)|skip
 refine aaa (wpAny_sequenceKey ht.typeIs 9#7 ?_)
 refine aaa (aaX (name:=Str.ofString "__getitem__") ht.typeIs acE
  (abc acE ht.typeIs entry_tuple_getitem ?_ (args_tuple_getitem _ _)))
 show wpAny _ _ (Builtin.Tuple.tupleItemsOf 3#t>>=_) _ _ s;refine aaa (tupleItemsOf_ ht ?_);refine aaa (wpAny_typeOf hTs ?_);rw[if_pos 9#7];refine aaa (l6 hs pl pu ?_)
 have hno:¬((((aX items.size 0 lo:Nat):Int)==0&&(1:Int)==1&&(aX items.size items.size hi-aX items.size 0 lo)==items.size)=true):=by
  intro q;rw[aag,aag] at q;have q1:((aX items.size 0 lo:Nat):Int)=0:=eq_of_beq q.1.1;have q2:aX items.size items.size hi-aX items.size 0 lo=items.size:=eq_of_beq q.2;exact hw ⟨by lia,by lia⟩
 show wpAny _ _ (if (((aX items.size 0 lo:Nat):Int)==0&&(1:Int)==1&&(aX items.size items.size hi-aX items.size 0 lo)==items.size)=true then _ else _) _ _ s;rw[if_neg hno,Av]
 first
  |exact aaa (m:=Builtin.Tuple.tupleExact _) (aaK (aaf ⟨_,rfl,aaf h⟩) htake)
  |exact aaa (m:=Builtin.Tuple.tupleExact _) (aaK (aaa (aaf (aaf ⟨_,rfl,aaf h⟩))) htake)
  |exact aaa (aaa (m:=Builtin.Tuple.tupleExact _) (aaK (aaf (aaf ⟨_,rfl,aaf h⟩)) htake))
  |exact aaa (aaa (m:=Builtin.Tuple.tupleExact _) (aaK (aaf ⟨_,rfl,aaf h⟩) htake))
end
end HT
namespace L2
open PySem PySem.Spec PyProof.Rows
abbrev TO:=St->Hp->(5#Int->Hp->Prop)->Prop
def PO (X:Cx) (e:5#Expr) (t:TO):Prop:=
 ∀(pins:8#5) (s:9#2) (σ:St) (H:Hp) (Q:5#Int->Hp->Prop),Inv X pins σ H s->t σ H Q->
  wpAny 8#3 X.A (evalPart e X.env) (λu s'=>∃o H',Inv X pins σ H' s'/\IsPart u o/\Q o H') X.xe s
def Dy:TO:=λ_ H Q=>Q none H
def Jw (t:TE):TO:=λσ H Q=>t σ H λx H1=>∃i,x= 6#i/\Q 1#i H1
theorem intsAre_of {ns:2#Int}:∀{us:8#36},Vals (ns.map V.int) us->IntsAre us ns:=by
 induction ns with
 |nil=>intro us r;rw[acd] at r;cases r;exact .nil
 |cons n ns ih=>
  intro us r;rw[aav] at r
  cases r with
  |cons r1 r2=>
   let⟨t,e⟩:=r1;subst e;exact .cons n t (ih r2)
section
variable {X:Cx} {e:Expr} {te:TE} {lo hi:5#Expr} {tl th:TO} {pos p2:Pos}
theorem Dp:PO X none Dy:=by
 intro pins s σ H Q I h;rw[evalPart_none];exact aaf ⟨none,H,I, .none,h⟩
theorem CF (h:PE X e te):PO X 1#e (Jw te):=by
 intro pins s σ H Q I hw;rw[evalPart_some];refine ay (h pins s σ H _ I hw) λu s1 z902=> ?_;let⟨x,H1,I1,r1,q1⟩:=z902;let⟨i,rfl,q⟩:=q1;let⟨t,rfl⟩:=r1;exact⟨1#i,H1,I1, .int i t,q⟩
def pM (X:Cx) (r:V->5#Int->5#Int->Hp->VK->Prop):Prop:=
 ∀(pins:8#5) (s:9#2) (σ:St) (H:Hp) (x:V) (v vl vu:Value) (lo hi:5#Int) (sl:Addr) (Q:VK),Inv X pins σ H s->RelV x v->s.heap.IsSliceOf sl vl vu .none->IsPart vl lo->IsPart vu hi->r x lo hi H Q->
  ∃T id,typeLookup (.type T) "__getitem__"=pure 1#(.builtin id)/\s.TypeIs v T/\wpAny 8#3 X.A (getItem v 3#sl) (EP X pins σ Q) X.xe s
theorem pM.or {r r':V->5#Int->5#Int->Hp->VK->Prop} (h:pM X r) (h':pM X r'):pM X (λx lo hi H Q=>r x lo hi H Q∨r' x lo hi H Q):=by
 intro pins s σ H x v vl vu lo hi sl Q I rx hs pl pu q
 rcases q with q|q
 ·exact h pins s σ H x v vl vu lo hi sl Q I rx hs pl pu q
 ·exact h' pins s σ H x v vl vu lo hi sl Q I rx hs pl pu q
def tSl (r:V->5#Int->5#Int->Hp->VK->Prop) (te:TE) (tl th:TO):TE:=λσ H Q=>te σ H λx H1=>tl σ H1 λl H2=>th σ H2 λu H3=>r x l u H3 Q
theorem AK {r:V->5#Int->5#Int->Hp->VK->Prop} (hr:pM X r) (he:PE X e te) (hl:PO X lo tl) (hu:PO X hi th):PE X (.Subscript e (.Slice lo hi none p2) pos) (tSl r te tl th):=by
 intro pins s σ H Q I h;refine Subscript_ (ay (he pins s σ H _ I h) λv s1 z902=> ?_);let⟨x,H1,I1,r1,q1⟩:=z902;refine wpAny_Slice (ay (hl pins s1 σ H1 _ I1 q1) λvl s2 zq8=> ?_);let⟨l,H2,I2,pl,q2⟩:=zq8;refine ay (hu pins s2 σ H2 _ I2 q2) λvu s3 zq9=> ?_;let⟨u,H3,I3,pu,q3⟩:=zq9;rw[evalPart_none];refine aaf ?_;have I4:Inv X pins σ H3 {s3 with heap:=s3.heap.push {cls:= .type "slice",data:= .fields #[vl,vu, .none]}}:=I3.kept (t':=s3.toks) λb ob q=>aae _ q;let⟨T,id,hT,ht,hg⟩:=hr pins {s3 with heap:=s3.heap.push {cls:= .type "slice",data:= .fields #[vl,vu, .none]}} σ H3 x v vl vu l u s3.heap.objs.size Q I4 r1 (Heap.IsSliceOf.new ..) pl pu q3;show wpAny 8#3 X.A (subscriptTail e (.Slice lo hi none p2) v 3#s3.heap.objs.size) (EP X pins σ Q) X.xe {s3 with heap:=s3.heap.push {cls:= .type "slice",data:= .fields #[vl,vu, .none]}};exact tail_any (ops:=[3#s3.heap.objs.size,v]) ht hT hg (by with_unfolding_all rfl)
def kj (xs:2#V) (lo hi:5#Int):2#V:=(xs.drop (HT.aX 0#xs 0 lo)).take (HT.aX 0#xs 0#xs hi-HT.aX 0#xs 0 lo)
theorem lF (xs:2#V) (lo hi:5#Int):0#(kj xs lo hi)<=0#xs:=by
 unfold kj;rw[aa9,acw];lia
def MD (K:8#4):V->5#Int->5#Int->Hp->VK->Prop:=λx lo hi H Q=>∃a xs,x= 3#a/\cU K H a xs/\
 ¬(HT.aX 0#xs 0 lo=0/\HT.aX 0#xs 0#xs hi=0#xs)/\∀p,H p=none->Q 3#p (upd H p (.tup (kj xs lo hi)))
theorem Fu:pM X (MD X.K):=by
 intro pins s σ H x v vl vu lo hi sl Q I rx hs pl pu h;let⟨a,xs,rfl,hx,hw,q⟩:=h;cases rx;let⟨its,r,ht,hz⟩:=I.tuple hx
 have hlen:its.toArray.size=0#xs:=by rw[aal];exact r.length.symm
 refine⟨"tuple",_,acE.lookup,ht.typeIs, ?_⟩;refine HT.kW ht hs pl pu (by rw[hlen];exact hw) ?_ (by rw[hlen];exact hz);rw[hlen];refine⟨3#s.heap.objs.size,_,I.laid (t':=s.toks) (o:= .tup (kj xs lo hi)) (λb ob q=>aae _ q) (aai _) ?_,rfl,q _ (I.ah.fresh (aai _))⟩;exact⟨aaQ (lF xs lo hi) hz,_,(r.drop (HT.aX 0#xs 0 lo)).take (HT.aX 0#xs 0#xs hi-HT.aX 0#xs 0 lo),IsTup.new _ _⟩
def IX (K:8#4):R2:=λx y H Q=>∃a b xs ys,x= 3#a/\y= 3#b/\cU K H a xs/\cU K H b ys/\xs≠[]/\0#xs+0#ys<=sizeLine/\
 (ys=[]->Q 3#a H)/\(ys≠[]->∀p,H p=none->Q 3#p (upd H p (.tup (xs++ys))))
theorem Vals.oo {xs:2#V} {us:8#36} (r:Vals xs us):us=[]↔xs=[]:=by
 cases r with
 |nil=>simp
 |cons _ _=>simp
theorem DT:aH X (binaryOp .Add) (IX X.K):=by
 intro pins s σ H x y v u Q I rx ry h;let⟨a,b,xs,ys,rfl,rfl,ha,hb,hx,hz,q1,q2⟩:=h;cases rx;cases ry;let⟨its,r1,p1,_⟩:=I.tuple ha;let⟨its2,r2,p2,_⟩:=I.tuple hb;refine HT.DR p1 p2 (λz=>hx (r1.oo.mp z)) (λz=>⟨3#a,H,I,rfl,q1 (r2.oo.mp z)⟩) (λz=> ?_) (by rw[←0#r1,←0#r2];exact hz);refine⟨3#s.heap.objs.size,_,I.laid (t':=s.toks) (o:= .tup (xs++ys)) (λb ob q=>aae _ q) (aai _) ?_,rfl,q2 (λw=>z (r2.oo.mpr w)) _ (I.ah.fresh (aai _))⟩;exact⟨by rw[aaT];exact hz,_,r1.append r2,IsTup.new _ _⟩
end
noncomputable def tL (n:Nat) (i:Int):5#Nat:=if 0<=i then (if i<n then 1#i.toNat else none) else if-(n:Int)<=i then 1#(i+n).toNat else none
def pC {α:Type} (xs:2#α) (i:Int):5#α:=(tL 0#xs i).bind λj=>xs[j]?
theorem uR {n:Nat} {i:Int} {j:Nat} (h:tL n i=1#j):seqIndex? i n=1#j/\j<n/\ -(n:Int)<=i/\i<n:=by
 unfold tL at h
 by_cases h0:0<=i
 ·rw[if_pos h0] at h
  by_cases h1:i<n
  ·rw[if_pos h1] at h;have e:i.toNat=j:=Option.some.inj h;exact⟨by rw[seqIndex_of h0 h1,e],by lia,by lia,h1⟩
  ·rw[if_neg h1] at h;cases h
 ·rw[if_neg h0] at h
  by_cases h1: -(n:Int)<=i
  ·rw[if_pos h1] at h;have e:(i+n).toNat=j:=Option.some.inj h;exact⟨by rw[seqIndex_neg 8#0 h1,e],by lia,h1,by lia⟩
  ·rw[if_neg h1] at h;cases h
theorem nX {α:Type} {xs:2#α} {i:Int} {v:α} (h:pC xs i=1#v):∃j,seqIndex? i 0#xs=1#j/\xs[j]?=1#v/\j<0#xs/\ -(0#xs:Int)<=i/\i<0#xs:=by
 unfold pC at h
 cases e:tL 0#xs i with
 |none=>rw[e] at h;cases h
 |some j=>
  rw[e] at h;let⟨h1,h2,h3,h4⟩:=uR e;exact⟨j,h1,h,h2,h3,h4⟩
def oB (b:Expr):Prop:=∀o i,subscripted b false o i=operate [o,i] (getItem o i)
def lh (X:Cx) (r:R2):Prop:=
 ∀(value slice:Expr) (pins:8#5) (s:9#2) (σ:St) (H:Hp) (x y:V) (v u:Value) (Q:VK),Inv X pins σ H s->RelV x v->RelV y u->r x y H Q->
  subscripted slice false v u=operate [v,u] (getItem v u)->wpAny 8#3 X.A (subscriptTail value slice v u) (EP X pins σ Q) X.xe s
def qK (X:Cx) (id:String) (r:V->2#V->Hp->VK->Prop):Prop:=
 ∀(pins:8#5) (s:9#2) (σ:St) (H:Hp) (x:V) (xs:2#V) (v:Value) (us:8#36) (Q:VK),Inv X pins σ H s->RelV x v->Vals xs us->r x xs H Q->
  wpAny 8#3 X.A (call (.builtin id) (v::us)) (EP X pins σ Q) X.xe s
section
variable {X:Cx} {a b:Expr} {ta tb:TE} {pos:Pos}
theorem lh.or {r r':R2} (h:lh X r) (h':lh X r'):lh X (λx y H Q=>r x y H Q∨r' x y H Q):=by
 intro value slice pins s σ H x y v u Q I rx ry q hs
 rcases q with q|q
 ·exact h value slice pins s σ H x y v u Q I rx ry q hs
 ·exact h' value slice pins s σ H x y v u Q I rx ry q hs
theorem JE {r:R2} (hr:lh X r) (ha:PE X a ta) (hb:PE X b tb) (hs:oB b):PE X (.Subscript a b pos) (CB r ta tb):=by
 intro pins s σ H Q I h;exact Subscript_ (A9 ha hb I h λv u s2 x y H2 I2 rx ry q=>hr a b pins s2 σ H2 x y v u Q I2 rx ry q (hs _ _))
def EE (K:8#4):R2:=λx y H Q=>∃p xs i v,x= 3#p/\y= 6#i/\bU K H p xs/\pC xs i=1#v/\Q v H
def GI (K:8#4):R2:=λx y H Q=>∃p xs i v,x= 3#p/\y= 6#i/\cU K H p xs/\pC xs i=1#v/\Q v H
def Fd:R2:=λx y H Q=>∃z i c,x= .str z/\y= 6#i/\0#z<=sizeLine/\pC z.cps.toList i=1#c/\Q (.str ⟨#[c]⟩) H
theorem De:lh X (EE X.K):=by
 intro value slice pins s σ H x y v u Q I rx ry h hs;let⟨p,xs,i,z,rfl,rfl,hq,he,q⟩:=h;cases rx;let⟨t,rfl⟩:=ry;let⟨its,r,pl,hz⟩:=I.list hq;let⟨j,h1,h2,h3,h4,h5⟩:=nX he;let⟨w,ew,rw'⟩:=r.get h2;have hl:=0#r;have hn:=gG;have fin:EP X pins σ Q w s:=⟨z,H,I,rw',q⟩
 by_cases h0:0<=i
 ·have hj:i.toNat=j:=by
   rw[seqIndex_of h0 h5] at h1;exact Option.some.inj h1
  exact item_listR pl.isList h0 8#0 (by rw[hj];simpa using ew) fin hs
 ·have hj:(i+(its.toArray.size:Int)).toNat=j:=by
   rw[seqIndex_neg 8#0 h4] at h1;rw[aal,←hl];exact Option.some.inj h1
  exact subscriptTail_builtinR (x:=w) pl.isList.typeIs slot_list_getitem.lookup
   (wpAny_getItem_list_neg (Q:=λr s'=>r=w/\EP X pins σ Q r s') pl.isList 8#0 (by rw[aal]<;>lia) 8#0 (by rw[hj];simpa using ew) ⟨rfl,fin⟩) hs
theorem EB:lh X (GI X.K):=by
 intro value slice pins s σ H x y v u Q I rx ry h hs;let⟨p,xs,i,z,rfl,rfl,hq,he,q⟩:=h;cases rx;let⟨t,rfl⟩:=ry;let⟨its,r,pl,hz⟩:=I.tuple hq;let⟨j,h1,h2,h3,h4,h5⟩:=nX he;let⟨w,ew,rw'⟩:=r.get h2;have hl:=0#r;have hn:=gG;have fin:EP X pins σ Q w s:=⟨z,H,I,rw',q⟩
 exact subscriptTail_builtinR (x:=w) pl.typeIs slot_tuple_getitem.lookup
  (getItem_tuple (j:=j) (Q:=λr s'=>r=w/\EP X pins σ Q r s') pl 8#0 8#0 (by rw[aal,←hl];exact h1) (by simpa using ew) ⟨rfl,fin⟩) hs
theorem F0:lh X Fd:=by
 intro value slice pins s σ H x y v u Q I rx ry h hs;let⟨z,i,c,rfl,rfl,hz,he,q⟩:=h;let⟨t,rfl⟩:=rx;let⟨t',rfl⟩:=ry;let⟨j,h1,h2,h3,h4,h5⟩:=nX he
 have hl:0#z.cps.toList=0#z:=by simp[Str.length]
 rw[hl] at h1 h4 h5;have hn:=gG
 exact tail_any (typeIs_str s z t) slot_str_getitem.lookup (getItem_str (c:=c) (by
  have e1:decide (i< -(2^63:Int))=false:=aaB 8#0;have e2:decide (i≥2^63)=false:=aaB 8#0
  rw[e1,e2,Bool.or_false]) (by rw[h1];simpa using h2) ⟨.str ⟨#[c]⟩,H,I.tok _,⟨_,rfl⟩,q⟩) hs
def rIx (K:8#4):R2:=λx y H Q=>EE K x y H Q∨GI K x y H Q∨Fd x y H Q
theorem GQ:lh X (rIx X.K):=De.or (EB.or F0)
theorem vK (its:8#36) (n j:Nat) (u:Value):Obj.mapSeq (·.setIfInBounds j u) {cls:= .type "list",data:= .seq its.toArray n}={cls:= .type "list",data:= .seq (its.set j u).toArray n}:=by
 simp[Obj.mapSeq]
theorem Inv.lst {pins:8#5} {σ:St} {H:Hp} {s:9#2} {p:Addr} {xs:2#V} (I:8#1) (h:H p=1#7#xs):
  ∃(its:8#36) (n:Nat),Vals xs its/\s.heap.get? p=some {cls:= .type "list",data:= .seq its.toArray n}/\0#xs<=sizeLine:=by
 let⟨z,its,n,r,e⟩:=I.ah p _ h;exact⟨its,n,r,e,z⟩
theorem Inv.GC {σ:St} {H:Hp} {s:9#2} {p:Addr} {xs ys:2#V} {its its':8#36} {n n':Nat} {f:Obj->Obj} (I:8#1) (h:H p=1#7#xs)
  (ho:s.heap.get? p=some {cls:= .type "list",data:= .seq its.toArray n}) (hf:f {cls:= .type "list",data:= .seq its.toArray n}={cls:= .type "list",data:= .seq its'.toArray n'}) (r:Vals ys its') (hz:0#ys<=sizeLine) (t:Nat):
  Inv X pins σ (upd H p 7#ys) {s with heap:=s.heap.update p f,toks:=t}:=by
 have e:(s.heap.update p f).get? p=some {cls:= .type "list",data:= .seq its'.toArray n'}:=by
  rw[abo f ho (by rw[hf]<;>rfl),hf]
 refine I.write (x:=p) (e:=p) (by rw[h];trivial) (.inl rfl) (λb u hb q=>(aa7 _ _ (Ne.symm hb)).trans q) ⟨_,e⟩ ?_;exact⟨hz,its',n',r,e⟩
def Iv:V->V->V->Hp->(Hp->Prop)->Prop:=λo i v H Q=>∃p xs k j,o= 3#p/\i= 6#k/\H p=1#7#xs/\tL 0#xs k=1#j/\Q (upd H p 7#(xs.set j v))
theorem set_list:j0 X Iv:=by
 intro pins s σ H o i v ov iv u Q I ro ri rv h;let⟨p,xs,k,j,rfl,rfl,hp,hj,q⟩:=h;cases ro;let⟨t,rfl⟩:=ri;let⟨its,n,r,ho,hz⟩:=I.lst hp;let⟨h1,h2,h3,h4⟩:=uR hj;have hl:=0#r;have hn:=gG
 have I':Inv X pins σ (upd H p 7#(xs.set j v)) {s with heap:=s.heap.update p (Obj.mapSeq (·.setIfInBounds j u))}:=
  I.GC hp ho (vK its n j u) (r.set rv j) (by rw[List.length_set];exact hz) s.toks
 by_cases h0:0<=k
 ·have hk:k.toNat=j:=by
   rw[seqIndex_of h0 h4] at h1;exact Option.some.inj h1
  exact PySem.W.ki_setAt ho h0 8#0 (by rw[aal,←hl];exact h4) (by rw[hk];exact⟨_,I',q⟩)
 ·have hk:(k+(its.toArray.size:Int)).toNat=j:=by
   rw[seqIndex_neg 8#0 h3] at h1;rw[aal,←hl];exact Option.some.inj h1
  exact PySem.W.ki_setBack ho 8#0 (by rw[aal,←hl];exact h3) 8#0 (by rw[hk];exact⟨_,I',q⟩)
theorem qC (lo hi:5#Int) (n:Nat):(sliceBounds lo hi none n).1=((HT.aX n 0 lo:Nat):Int)/\(sliceBounds lo hi none n).2.1=((HT.aX n n hi:Nat):Int)/\(sliceBounds lo hi none n).2.2=1:=by
 refine⟨?_, ?_,rfl⟩
 ·cases lo with
  |none=>simp[sliceBounds,HT.aX]
  |some i=>
   simp only[sliceBounds,HT.aX,Option.getD_none,show (1:Int)>0 by decide,ab5]
   by_cases h:i<0
   ·simp only[h,ab5]<;>lia
   ·simp only[h,abK]<;>lia
 ·cases hi with
  |none=>simp[sliceBounds,HT.aX]
  |some i=>
   simp only[sliceBounds,HT.aX,Option.getD_none,show (1:Int)>0 by decide,ab5]
   by_cases h:i<0
   ·simp only[h,ab5]<;>lia
   ·simp only[h,abK]<;>lia
theorem qb (its:8#36) (lo hi:5#Int):slicePick its.toArray lo hi none=((its.drop (HT.aX 0#its 0 lo)).take (HT.aX 0#its 0#its hi-HT.aX 0#its 0 lo)).toArray:=by
 let⟨h1,h2,h3⟩:=qC lo hi its.toArray.size;unfold slicePick;rw[h1,h2,h3];simp only[sliceRange_one,pick_run,aal]<;>rfl
def KR (K:8#4):V->5#Int->5#Int->Hp->VK->Prop:=λx lo hi H Q=>∃a xs,x= 3#a/\bU K H a xs/\∀p,H p=none->Q 3#p (upd H p 7#(kj xs lo hi))
theorem CI:pM X (KR X.K):=by
 intro pins s σ H x v vl vu lo hi sl Q I rx hs pl pu h;let⟨a,xs,rfl,hx,q⟩:=h;cases rx;let⟨its,r,ht,hz⟩:=I.list hx;have hlen:=0#r;refine⟨"list",_,slot_list_getitem.lookup,ht.isList.typeIs, ?_⟩;refine wpAny_getItem_list_slice ht.isList hs pl pu .none 8#7 ?_ (by rw[aal]<;>lia);rw[qb,←hlen];refine⟨3#s.heap.objs.size,_,I.laid (t':=s.toks) (o:= 7#(kj xs lo hi)) (λb ob q=>aae _ q) (aai _) ?_,rfl,q _ (I.ah.fresh (aai _))⟩;exact⟨aaQ (lF xs lo hi) hz,_,0,(r.drop (HT.aX 0#xs 0 lo)).take (HT.aX 0#xs 0#xs hi-HT.aX 0#xs 0 lo),aaj _ rfl⟩
noncomputable def Cd:V->Bool
 | .non=>true
 | .bl _=>true
 | .int _=>true
 | .str _=>true
 |_=>false
noncomputable def FF:V->V->Bool
 | .non, .non=>true
 | .bl a, .bl b=>a==b
 | .bl a, 6#b=>(if a then 1 else 0)==b
 | .int a, .bl b=>a==(if b then 1 else 0)
 | .int a, 6#b=>a==b
 | .str a, .str b=>a==b
 |_,_=>false
theorem jN {A:Around} {s:9#2} {y x:V} {u v:Value} (ry:RelV y u) (rx:RelV x v) (fy:Cd y=true) (fx:Cd x=true):SeqAt.EqAt A s u v (FF y x):=by
 cases y with
 |non=>
  cases ry
  cases x with
  |non=>cases rx;exact SeqAt.EqAt.same _
  |bl b=>cases rx;exact SeqAt.EqAt.none_bool b
  |int b=>let⟨t,rfl⟩:=rx;exact SeqAt.EqAt.none_int b t
  |str b=>let⟨t,rfl⟩:=rx;exact SeqAt.EqAt.none_str b t
  |_=>exact absurd (show false=true from fx) aaF
 |bl a=>
  cases ry
  cases x with
  |non=>cases rx;exact SeqAt.EqAt.bool_none a
  |bl b=>cases rx;exact SeqAt.EqAt.bool_bool a b
  |int b=>let⟨t,rfl⟩:=rx;exact SeqAt.EqAt.bool_int a b t
  |str b=>let⟨t,rfl⟩:=rx;exact SeqAt.EqAt.bool_str a b t
  |_=>exact absurd (show false=true from fx) aaF
 |int a=>
  let⟨t',rfl⟩:=ry
  cases x with
  |non=>cases rx;exact SeqAt.EqAt.int_none a t'
  |bl b=>cases rx;exact SeqAt.EqAt.int_bool a t' b
  |int b=>let⟨t,rfl⟩:=rx;exact SeqAt.EqAt.int_int a t' b t
  |str b=>let⟨t,rfl⟩:=rx;exact SeqAt.EqAt.int_str a t' b t
  |_=>exact absurd (show false=true from fx) aaF
 |str a=>
  let⟨t',rfl⟩:=ry
  cases x with
  |non=>cases rx;exact SeqAt.EqAt.str_none a t'
  |bl b=>cases rx;exact SeqAt.EqAt.str_bool a t' b
  |int b=>let⟨t,rfl⟩:=rx;exact SeqAt.EqAt.str_int a t' b t
  |str b=>let⟨t,rfl⟩:=rx;exact SeqAt.EqAt.str_str a t' b t
  |_=>exact absurd (show false=true from fx) aaF
 |_=>exact absurd (show false=true from fy) aaF
def xa (x:V) (xs:2#V):Bool:=xs.any λy=>FF y x
theorem sZ:au X (.builtin "len") (λxs H Q=>∃p ys,xs=[3#p]/\(bU X.K H p ys∨cU X.K H p ys)/\Q 6#0#ys H):=by
 intro pins s σ H xs us Q I r h;let⟨p,ys,rfl,hq,q⟩:=h;let⟨u,rfl,rx⟩:=vals1 r;cases rx;have hn:=gG
 rcases hq with hq|hq
 ·let⟨its,r',pl,hz⟩:=I.list hq;have hlen:=0#r';exact Calls.call_len_list pl.isList (by simp only[aal]<;>lia) ⟨6#0#ys,H,I.tok _,⟨s.toks+1,by rw[aal,hlen]⟩,q⟩
 ·let⟨its,r',pl,hz⟩:=I.tuple hq;have hlen:=0#r';exact len_tuple pl (by simp only[aal]<;>lia) ⟨6#0#ys,H,I.tok _,⟨s.toks+1,by rw[aal,hlen]⟩,q⟩
theorem sY:au X (.builtin "len") (λxs H Q=>∃z,xs=[.str z]/\0#z<=sizeLine/\Q 6#0#z H):=by
 intro pins s σ H xs us Q I r h;let⟨z,rfl,hz,q⟩:=h;let⟨u,rfl,t,rfl⟩:=vals1 r;have hn:=gG;exact len_str 8#0 ⟨6#0#z,H,I.tok _,⟨_,rfl⟩,q⟩
theorem au.or {f:Value} {r r':2#V->Hp->VK->Prop} (h:au X f r) (h':au X f r'):au X f (λxs H Q=>r xs H Q∨r' xs H Q):=by
 intro pins s σ H xs us Q I rs q
 rcases q with q|q
 ·exact h pins s σ H xs us Q I rs q
 ·exact h' pins s σ H xs us Q I rs q
theorem qI:au X (.type "list") (λxs H Q=>∃p ys,xs=[3#p]/\(bU X.K H p ys∨cU X.K H p ys)/\∀l,H l=none->Q 3#l (upd H l 7#ys)):=by
 intro pins s σ H xs us Q I r h;let⟨p,ys,rfl,hq,q⟩:=h;let⟨u,rfl,rx⟩:=vals1 r;cases rx
 have fin:∀(its:8#36),Vals ys its->0#ys<=sizeLine->∀(h':Heap) (c':Nat),(∀b o',s.heap.get? b=1#o'->h'.get? b=1#o')->
   h'.get? s.heap.objs.size=some {cls:= .type "list",dict:=none,data:= .seq its.toArray c',slots:=#[]}->EP X pins σ Q 3#s.heap.objs.size {s with heap:=h'}:=λits r' hz h' c' kp e=>
  ⟨3#s.heap.objs.size,_,I.laid (t':=s.toks) kp (aai _) (show aK X.prog X.w _ h' _ 7#ys from ⟨hz,its,c',r',e⟩),rfl,q _ (I.ah.fresh (aai _))⟩
 rcases hq with hq|hq
 ·let⟨its,r',pl,hz⟩:=I.list hq;have hlen:=0#r';let⟨o,ho,hc,n,hd⟩:=pl.isList;exact call_list_seq p (.inl rfl) ho hc hd (λh' c' kp e=>fin its r' hz h' c' kp e) (by simp only[aal]<;>lia)
 ·let⟨its,r',pl,hz⟩:=I.tuple hq;have hlen:=0#r';let⟨o,ho,hc,n,hd⟩:=pl;exact call_list_seq p (.inr rfl) ho hc hd (λh' c' kp e=>fin its r' hz h' c' kp e) (by simp only[aal]<;>lia)
theorem p8:au X (.type "tuple") (λxs H Q=>∃p ys,xs=[3#p]/\((bU X.K H p ys/\∀l,H l=none->Q 3#l (upd H l (.tup ys)))∨(cU X.K H p ys/\Q 3#p H))):=by
 intro pins s σ H xs us Q I r h;let⟨p,ys,rfl,h⟩:=h;let⟨u,rfl,rx⟩:=vals1 r;cases rx
 rcases h with⟨hq,q⟩|⟨hq,q⟩
 ·let⟨its,r',pl,hz⟩:=I.list hq;have hlen:=0#r';refine call_tuple_list pl.isList (λh' kp=> ?_) (by simp only[aal]<;>lia);have I1:Inv X pins σ H {s with heap:=h'}:=I.kept (t':=s.toks) kp
  have I2:Inv X pins σ (upd H h'.objs.size (.tup ys)) {s with heap:=h'.push {cls:= .type "tuple",data:= .seq its.toArray}}:=
   I1.laid (t':=s.toks) (λb o e=>aae _ e) (aai _) (show aK X.prog X.w _ _ _ (.tup ys) from ⟨hz,its,r',IsTup.new _ _⟩)
  exact⟨3#h'.objs.size,_,I2,rfl,q _ (I1.ah.fresh (aai _))⟩
 ·let⟨its,r',pl,hz⟩:=I.tuple hq;exact call_tuple_same pl ⟨3#p,H,I,rfl,q⟩
def Hi (K:8#4) (T:String) (x:V) (H:Hp):Prop:=match x with
 | .str _=>T="str"
 | .int _=>T="int"
 | .ref p=>(T="list"/\∃xs,bU K H p xs)∨(T="tuple"/\∃o,K.lookup p=1#o/\o.cls= .type "tuple"/\o.dict=none)∨
   (T="dict"/\((∃kvs,H p=1#(.dK kvs))∨∃kvs,H p=1#(.dT kvs)))∨(T="set"/\∃S n,H p=1#(.set S n))
 |_=>False
theorem yU {σ:St} {H:Hp} {s:9#2} {T:String} {x:V} {v:Value} (I:8#1) (r:RelV x v) (ty:Hi X.K T x H):
  s.TypeIs v T/\∀a,v= 3#a->∃ob,s.heap.get? a=1#ob/\ob.dict=none:=by
 cases x with
 |str z=>
  let⟨t,rfl⟩:=r;cases (show T="str" from ty);exact⟨typeIs_str s z t,λ_ e=>nomatch e⟩
 |int i=>
  let⟨t,rfl⟩:=r;cases (show T="int" from ty);exact⟨typeIs_int s i t,λ_ e=>nomatch e⟩
 |ref p=>
  cases r
  rcases ty with⟨rfl,xs,hq⟩|⟨rfl,o,hk,hc,hd⟩|⟨rfl,hk⟩|⟨rfl,S,n,hk⟩
  ·let⟨its,_,pl,_⟩:=I.list hq;refine⟨pl.isList.typeIs,λa e=> ?_⟩;cases e;let⟨o,n,e,c,hd,_⟩:=pl;exact⟨o,e,hd⟩
  ·refine⟨⟨o,I.bT p o hk,hc⟩,λa e=> ?_⟩;cases e;exact⟨o,I.bT _ o hk,hd⟩
  ·have z:∃o,s.heap.get? p=1#o/\o.ExactDict:=by
    rcases hk with⟨kvs,hk⟩|⟨kvs,hk⟩
    ·let⟨_,_,_,_,o,_,_,e,ex,_⟩:=I.ah p _ hk;exact⟨o,e,ex⟩
    ·let⟨_,_,_,_,o,_,_,e,ex,_⟩:=I.ah p _ hk;exact⟨o,e,ex⟩
   let⟨o,e,ex⟩:=z;refine⟨⟨o,e,ex.1⟩,λa e2=> ?_⟩;cases e2;exact⟨o,e,ex.2.1⟩
  ·let⟨o,_,_,_,e,ex,_⟩:=I.ah p _ hk;refine⟨⟨o,e,ex.1⟩,λa e2=> ?_⟩;cases e2;exact⟨o,e,ex.2.1⟩
 |_=>exact False.elim ty
def Mz (K:8#4) (T:String) (r:V->2#V->Hp->VK->Prop) (to:TE):TE:=λσ H Q=>to σ H λx H1=>Hi K T x H1/\r x [] H1 Q
def tBM (K:8#4) (T:String) (r:V->2#V->Hp->VK->Prop) (to:TE) (t:TA):TE:=λσ H Q=>to σ H λx H1=>Hi K T x H1/\t σ H1 λxs H2=>r x xs H2 Q
variable {o e:Expr} {es:2#Expr} {to:TE} {t:TA} {name:Str} {apos cpos:Pos} {T id:String} {r:V->2#V->Hp->VK->Prop}
theorem FH (pa:PlainAttrs T) (slot:Slot T name id) (hty:typeOf (.builtin id)=pure (.type "method_descriptor")) (hm:qK X id r) (ho:PE X o to)
  (hbase:attributeBase o name X.env (eval o X.env)=eval o X.env:=by rfl) (hline:(apos.endLine==cpos.line)=true:=by rfl):PE X (.Call (.Attribute o name apos) [] [] cpos) (Mz X.K T r to):=by
 intro pins s σ H Q I h;refine wpAny_Call_method0_late hbase hline (ay (ho pins s σ H _ I h) λv s1 z902=> ?_);let⟨x,H1,I1,r1,ty,q1⟩:=z902;let⟨h1,h2⟩:=yU I1 r1 ty;exact⟨T,id,pa,slot,hty,h1,h2,abU rfl (PySem.evalArgs_none (hm pins s1 σ H1 x [] v [] Q I1 r1 .nil q1))⟩
theorem Ig (pa:PlainAttrs T) (slot:Slot T name id) (hty:typeOf (.builtin id)=pure (.type "method_descriptor")) (hm:qK X id r) (ho:PE X o to) (ha:PA X (e::es) t)
  (hbase:attributeBase o name X.env (eval o X.env)=eval o X.env:=by rfl)
  (hfew:((backTo cpos (starEach (e::es) X.env)).all (λx=> !x.1)&&(backToKw cpos (keywordEach [] X.env)).all (λx=>x.1.isSome)
   &&decide (0#(e::es)+0#([]:2#Keyword)+(if ([]:2#Keyword).isEmpty then 0 else 1)<30))=true:=by rfl)
  (hline:(apos.endLine==cpos.line)=true:=by rfl) (hs:starEach (e::es) X.env=(false,eval e X.env)::starEach es X.env:=by rfl) (hplain:(backTo cpos (starEach es X.env)).any (·.1)=false:=by rfl):
  PE X (.Call (.Attribute o name apos) (e::es) [] cpos) (tBM X.K T r to t):=by
 intro pins s σ H Q I h;refine wpAny_Call_method_late hbase hfew hline rfl (ay (ho pins s σ H _ I h) λv s1 z902=> ?_);let⟨x,H1,I1,r1,ty,q1⟩:=z902;let⟨h1,h2⟩:=yU I1 r1 ty;refine⟨T,id,pa,slot,hty,h1,h2, ?_⟩;have hA:=ha cpos pins s1 σ H1 _ I1 q1;rw[hs] at hA⊢;refine abU (by show (false||(backTo cpos (starEach es X.env)).any (·.1))=false;rw[hplain]<;>rfl) (ab1 ?_)
 exact ay hA λus s2 z902=>by let⟨vs,H2,I2,r2,q2⟩:=z902;exact hm pins s2 σ H2 x vs v us Q I2 r1 r2 q2
end
def MtM (X:Cx) (id:String) (r:V->2#V->Hp->VK->Prop):Prop:=
 ∀(pins:8#5) (s:9#2) (σ:St) (H:Hp) (x:V) (xs:2#V) (v:Value) (us:8#36) (Q:VK),Inv X pins σ H s->RelV x v->Vals xs us->r x xs H Q->
  wpAny 8#3 X.A (call (.builtin id) (v::us)) (EP X pins σ Q) X.xe s
theorem Vals.one:∀{x:V} {us:8#36},Vals [x] us->∃u,us=[u]/\RelV x u:=λh=>by
 cases h with|cons r t=>cases t;exact⟨_,rfl,r⟩
theorem Vals.two:∀{x y:V} {us:8#36},Vals [x,y] us->∃u v,us=[u,v]/\RelV x u/\RelV y v:=λh=>by
 cases h with|cons r t=>cases t with|cons q t=>cases t;exact⟨_,_,rfl,r,q⟩
section
variable {X:Cx} {pins:8#5} {σ:St} {H:Hp} {s:9#2} {l b:Addr} {xs ys zs:2#V}
theorem Inv.wC {its its':8#36} {n:Nat} {f:Array Value->Array Value} {t':Nat} (I:8#1) (hH:H l=1#7#xs)
  (e:s.heap.get? l=some {cls:= .type "list",data:= .seq its.toArray n}) (hf:f its.toArray=its'.toArray) (hv:Vals ys its') (hz:0#ys<=sizeLine):
  Inv X pins σ (upd H l 7#ys) {s with heap:=s.heap.update l (Obj.mapSeq f),toks:=t'}:=by
 have q:=PySem.IsL.update e f;rw[hf] at q;refine I.write (x:=l) (e:=l) (by rw[hH];exact trivial) (.inl rfl) (λb' u hb hu=>(aa7 s.heap (Obj.mapSeq f) (Ne.symm hb)).trans hu) ⟨_,q⟩ ?_;exact⟨hz,its',_,hv,q⟩
theorem Inv.Lz {its:8#36} {t':Nat} (I:8#1) (hv:Vals ys its) (hz:0#ys<=sizeLine):
  Inv X pins σ (upd H s.heap.objs.size 7#ys) {s with heap:=s.heap.push {cls:= .type "list",data:= .seq its.toArray},toks:=t'}:=
 I.laid (λ_ _ q=>aae _ q) (aai _) ⟨hz,its,0,hv,aaj _ rfl⟩
theorem Inv.fresh (I:8#1):H s.heap.objs.size=none:=I.ah.fresh (aai _)
theorem Inv.lS (I:8#1) (hH:H l=1#7#xs):0#xs<=sizeLine/\∃(its:8#36) (n:Nat),Vals xs its/\0#xs=0#its/\s.heap.get? l=some {cls:= .type "list",data:= .seq its.toArray n}:=by
 let⟨z,its,n,r,e⟩:=I.ah l _ hH;exact⟨z,its,n,r,0#r,e⟩
theorem zJ {n:Nat} (h:n<=sizeLine):Builtin.List.listTooLong n=false:=by
 unfold Builtin.List.listTooLong;exact aaB 8#0
end
section
variable {X:Cx}
def DZ:V->2#V->Hp->VK->Prop:=λx vs H Q=>∃l xs y,x= 3#l/\vs=[y]/\H l=1#7#xs/\0#xs<sizeLine/\Q .non (upd H l 7#(xs++[y]))
theorem oX:MtM X "list.append" DZ:=by
 intro pins s σ H x vs v us Q I rx rv h;let⟨l,xs,y,rfl,rfl,hH,hz,q⟩:=h;cases rx;let⟨u,rfl,ru⟩:=rv.one;let⟨z,its,n,r,hl,e⟩:=I.lS hH;refine call_meets F.slot_list_append ⟨_,e,rfl⟩ F.entry_list_append (F.args_list_append_2 _ _) (PySem.list_append l its.toArray n u (by rw[aal];lia)) ⟨e, ?_⟩;refine⟨.non,_,I.wC (its':=its++[u]) hH e 8#7 (r.append (.cons ru .nil)) ?_,rfl,q⟩;rw[aaT,abX];lia
def C3:V->2#V->Hp->VK->Prop:=λx vs H Q=>∃l b xs zs,x= 3#l/\vs=[3#b]/\H l=1#7#xs/\H b=1#7#zs/\0#xs+0#zs<=sizeLine/\Q .non (upd H l 7#(xs++zs))
theorem yg:MtM X "list.extend" C3:=by
 intro pins s σ H x vs v us Q I rx rv h;let⟨l,b,xs,zs,rfl,rfl,hH,hB,hz,q⟩:=h;cases rx;let⟨u,rfl,ru⟩:=rv.one;cases ru;let⟨z,its,n,r,hl,e⟩:=I.lS hH;let⟨z2,its2,n2,r2,hl2,e2⟩:=I.lS hB
 have hsz:its.toArray.size+its2.toArray.size<=sizeLine:=by rw[aal,aal];lia
 have hlong:¬(!its.toArray.isEmpty&&Builtin.List.listTooLong (its.toArray.size+its2.toArray.size))=true:=by
  rw[zJ hsz,acP];exact aaF
 refine call_meets F.slot_list_extend ⟨_,e,rfl⟩ F.entry_list_extend (F.args_list_extend_2 _ _)
  (AutoSeq1.list_extend_list_list_0 l its.toArray n b its2.toArray n2 hlong (by rw[aal];lia) 8#0) ⟨e,e2, ?_⟩
 refine⟨.non,_,I.wC (its':=its++its2) hH e 8#7 (r.append r2) ?_,rfl,q⟩;rw[aaT];lia
end
section
variable {prog:Program} {w:World} {A:Around} {E:8#2} {s:9#2}
end
section
variable {X:Cx}
end
end L2
namespace Att
open PySem PySem.W PySem.Calls PyProof.Rows
theorem nW {P:8#34}:∀(ns:2#Int) (vs:8#36),WellAll P h vs (ns.map WData.int)->IntsAre vs ns:=by
 intro ns
 induction ns with
 |nil=>
  intro vs w;rw[acd] at w;cases w;exact .nil
 |cons n ns ih=>
  intro vs w;rw[aav] at w
  cases w with
  |cons a b=>
   cases a;exact .cons _ _ (ih _ b)
theorem xS {l:OpenLaw} {n:Nat} (hn:l.most=1#n) {P:8#34} {h:Heap} {args:2#WData} {vals:8#36}
  (hpre:l.row.toRowW.claim.pre args=true) (hwl:WellAll P h vals args):
  ∃a vs ns,vals=[Value.ref a]/\args=[WData.list (ns.map WData.int)]/\h.get? a=some {cls:= .type "list",data:= .seq vs.toArray}/\IntsAre vs ns/\0#ns<=n:=by
 have hsh:WShape.hasAll [] args [.list .int]=true:=(pre_splitW hpre).1;have hc:l.pre.holds [] {args:=args}=true:=(pre_splitW hpre).2;let⟨d,r,rfl,h1,h2⟩:=hasAllW_cons hsh;obtain rfl:=hasAllW_nil h2;let⟨xs,rfl,h3⟩:=hasW_list h1;let⟨ns,rfl⟩:=items_int h3
 have hlen:0#ns<=n:=by
  unfold OpenLaw.pre at hc
  have h4:(WTm.not (.lt (.lit 6#(n:Int)) (.len (.arg 0)))).holds [] {args:=[.list (ns.map .int)]}=true:=by
   have h4:=(holds_andW hc).1;rw[hn] at h4;exact h4
  have h5:=condW_of h4 (w_not (w_lt w_lit (w_len_list (w_arg rfl))));rw[aay] at h5;refine Nat.le_of_not_lt λq=> ?_
  have q':(n:Int)<((0#ns:Nat):Int):=by lia
  first
   |(rw[abe q'] at h5;exact absurd h5 9#7)
   |(simp at h5;lia)
 cases hwl with
 |cons w1 w2=>
  cases w2
  cases w1 with
  |list ho hall=>exact⟨_,_,ns,rfl,rfl,ho,nW ns _ hall,hlen⟩
theorem xM (l:OpenLaw) (args:2#WData):l.row.toRowW.claim.post args (.bool true) args=true:=
 postW_of (r:=l.row.toRowW) (X:=(true==true))
  (show WShape.has [] (.bool true) .bool=true by first|rfl|decide|simp[WShape.has,WShape.arms,WShape.armsAll])
  (show (WTm.eq .res (.lit (.bool true))).value [] {args:=args,res:=1#(.bool true),after:=args}=1#(.bool (true==true)) from w_eq_bool (w_res rfl) w_lit) rfl
theorem tj {l:OpenLaw} {n:Nat} {loose:2#Str} {XP:(Str->5#Value)->Heap->Prop} {YP:World->Heap->Prop} {d:DefRec}
  (hn:l.most=1#n) (hdf:d.params.defaults=[])
  (call:∀(w:World) (s₀ s₁:9#2) (mg mb:8#19) (fa:Addr) (o:Obj) (pm cd doc:Value) (a:Addr) (vs:8#36) (ns:2#Int),
   Ground q loose [] XP w s₀ mg mb s₁.heap->YP w s₁.heap->
   s₁.heap.get? fa=1#o->o.data= .func (docDef d.name d.params d.body d.scope pm cd doc)->s₁.heap.CodeRec cd d.name->mg d.name=1#3#fa->
   s₁.heap.get? a=some {cls:= .type "list",data:= .seq vs.toArray}->IntsAre vs ns->0#ns<=n->s₁.gens=#[]->
   codeAny (model l.prog w) callerA (.call 3#fa ⟨[3#a],[]⟩) (λr s'=>r= .ok (.ret (.bool true))/\OldK s₁.heap s'.heap/\s'.os=s₁.os/\AllBare s'.gens) s₁):
  WalkO q loose XP YP l.row.toRowW d [] (λf vs=>PySem.call f vs):=by
 intro w s₀ s₁ mg mb G Y fa o pm cd doc dV kV ho hd hcd hD hmg hg args vals as hpre hlay hrd hwl hlo;obtain rfl:dV= .none:=Dflts.none hD hdf;obtain rfl:kV= .none:=Dflts.noKw hD;let⟨a,vs,ns,rfl,rfl,hobj,hints,hlen⟩:=xS hn hpre hwl;refine enter_call (acJ (call w s₀ s₁ mg mb fa o pm cd doc a vs ns G Y ho (fd_plain hd) hcd hmg hobj hints hlen hg) λr s' hq=> ?_);let⟨rfl,h2,h3,h4⟩:=hq;exact⟨.inl ⟨.bool true, .bool true,[],rfl,λ_=>rfl, .bool true,xM l _,λ_=>⟨List.Pairwise.nil,λ_ hm=>(nomatch hm)⟩⟩,h2,h3,h4⟩
section
variable {prog:Program} {w:World} {A:Around} {E:8#2} {s:9#2} {K:Frag}
end
end Att
namespace L2
open PySem PySem.Spec PyProof.Rows
theorem oQ:∀{vs:8#36} {ns:2#Int},IntsAre vs ns->Vals (ns.map V.int) vs
 |_,_, .nil=> .nil
 |_,_, .cons n t h=> .cons ⟨t,rfl⟩ (oQ h)
def Bu (H:Hp):Prop:=∀b,H b=none∨∃o xs,H b=1#(.aF o 7#xs)
theorem zP {P:Program} {w:World} {K:8#4} {mg mb:8#19} {CX:kX} {k:Nat} {a:Addr} {x:Str} {sp:Sp} {s₁:9#2} {vs:8#36} {ns:2#Int}
  (KX:K.In s₁.heap) (hns:s₁.heap.Ns mainGlobals mg) (hb:s₁.heap.Ns builtinsNs mb) (hbb:∀x:Str,x≠"__name__"->mb x=bootBuiltins x) (hlim:s₁.heap.NoLimit) (hg:s₁.gens=#[])
  (ha:s₁.heap.get? a=some {cls:= .type "list",data:= .seq vs.toArray}) (hi:IntsAre vs ns) (hl:0#ns<=sizeLine) (hr:Room k callerA)
  (F:∀base:Heap,K.In base->base.Ns mainGlobals mg->FnOk P w K mg base CX k fa fd [x] sp) (hbind:∀(s:9#2) (u:Value),BindsTo s fd ⟨[u],[]⟩ [(x,u)])
  (hsp:∀H:Hp,Bu H->bU K H a (ns.map V.int)->sp [3#a] H (λv _=>v= .bl true) λ_ _ _=>False)
  (hCX:∀H e s',CX [] H s₁ (λ_ _ _=>False) e s'->False):
  codeAny (model P w) callerA (.call 3#fa ⟨[3#a],[]⟩) (λr s'=>r= .ok (.ret (.bool true))/\OldK s₁.heap s'.heap/\s'.os=s₁.os/\AllBare s'.gens) s₁:=by
 have rv:=oQ hi;have iH:=0#hi
 have core:∀H:Hp,Bu H->bU K H a (ns.map V.int)->bE P w H s₁.heap->(∀b,H b≠none->b=a)->(H a≠none->K.lookup a=none)->
   codeAny (model P w) callerA (.call 3#fa ⟨[3#a],[]⟩) (λr s'=>r= .ok (.ret (.bool true))/\OldK s₁.heap s'.heap/\s'.os=s₁.os/\AllBare s'.gens) s₁:=by
  intro H hO hS ah hA hK;have base_of:∀{b:Addr} {o:Obj},s₁.heap.get? b=1#o->H b=none->(jC s₁.heap H).get? b=1#o:=λe n=>AB e n
  have noA:∀{b:Addr} {o:Obj} {es:Array DictEntry} {ep:Nat},s₁.heap.get? b=1#o->o.data= .dict es ep->H b=none:=λ{b o es ep} e d=>by
   cases q:H b with
   |none=>rfl
   |some u=>
    have e':b=a:=hA b (by rw[q];simp);subst e';rw[ha] at e;cases e;have d':Data.seq vs.toArray _=Data.dict es ep:=d;cases d'
  have nsK:∀{b:Addr} {m:8#19},s₁.heap.Ns b m->(jC s₁.heap H).Ns b m:=λ{b m} z901=>by let⟨o,es,ep,e,d,r⟩:=z901;exact⟨o,es,ep,base_of e (noA e d),d,r⟩
  have hKb:K.In (jC s₁.heap H):=λb o e=>base_of (KX b o e) (by
   cases q:H b with
   |none=>rfl
   |some u=>
    have e':b=a:=hA b (by rw[q];simp);subst e'
    rw[hK (by rw[q];simp)] at e;cases e)
  have hM:Mod K mg (jC s₁.heap H):=⟨hKb,nsK hns,⟨mb,nsK hb,hbb⟩,let ⟨mc,h1,h2⟩:=hlim;⟨mc,nsK h1,h2⟩⟩
  have e0:Env0 P w K mg (jC s₁.heap H) callerA [] s₁ H:=⟨rfl,hM,λb o e=>Ek e,ac5 (yr _ _),trivial,λb hb=>absurd (show b∈([]:2#Addr) from hb) 8#7,ah, .of_eq hg⟩;refine acJ ((F _ hKb (nsK hns)).run callerA [] s₁ H ⟨[3#a],[]⟩ [3#a] [3#a] _ _ hr e0 (hbind s₁ 3#a) (.cons rfl .nil) (hsp H hO hS)) λr s' h=> ?_
  cases r with
  |error e=>exact(hCX H e s' h).elim
  |ok fl=>
   cases fl with
   |next=>exact False.elim h
   |brk=>exact False.elim h
   |cont=>exact False.elim h
   |ret u=>
    let⟨v,H',os,bare,un,hok',r',q⟩:=h;have q':v= .bl true:=q;subst q';obtain rfl:u=Value.bool true:=r';refine⟨rfl,OldK.of_keep λb o e=> ?_,os,bare⟩
    cases q:H b with
    |none=>exact un.keep b o e q (by intro z;exact absurd (show b∈([]:2#Addr) from z) 8#7) 8#7
    |some u=>
     rcases hO b with z|⟨ob,xs,z⟩
     ·rw[q] at z;cases z
     ·have z2:=un.aV b ob _ z;let⟨e1,_⟩:=ah b _ z;let⟨e2,_⟩:=hok' b _ z2;rw[e] at e1;cases e1;exact e2
 cases hk:K.lookup a with
 |some o=>
  have e:=KX a o hk;rw[ha] at e;cases e;refine core (λ_=>none) (λ_=> .inl rfl) (.inr ⟨_,vs.toArray,_,hk,rfl,rfl,rfl,by rw[aal,iH];exact hl,by simpa using rv⟩) (λb u z=>by have z':(none:5#HO)=1#u:=z;cases z') (λb z=>absurd rfl z) λz=>absurd rfl z
 |none=>
  refine core (λb=>if b=a then 1#(.aF {cls:= .type "list",data:= .seq vs.toArray} 7#(ns.map V.int)) else none) (λb=> ?_) (.inl (.inr ⟨{cls:= .type "list",data:= .seq vs.toArray},if_pos rfl⟩)) (λb u z=> ?_) (λb z=> ?_) λ_=>hk
  ·by_cases hb:b=a
   ·exact .inr ⟨_,_,if_pos hb⟩
   ·exact .inl (if_neg hb)
  ·by_cases hb:b=a
   ·have z':=(if_pos hb).symm.trans z;cases z';subst hb;exact⟨ha,by rw[aay];exact hl,vs,_,rv,ha⟩
   ·have z':=(if_neg hb).symm.trans z;cases z'
  ·by_cases hb:b=a
   ·exact hb
   ·exact absurd (if_neg hb) z
theorem Ea {l:PySem.W.OpenLaw} {n k:Nat} {loose:2#Str} {XP:(Str->5#Value)->Heap->Prop} {YP:World->Heap->Prop} {d:DefRec} {K:Params->PySem.W.Frag} {CX:World->kX} {sp:World->Sp} {x:Str}
  (hn:l.most=1#n) (hn2:n<=sizeLine) (hdf:d.params.defaults=[]) (hr:Room k callerA)
  (hY:∀(w:World) (h:Heap),YP w h->(K w.params).In h)
  (F:∀(w:World) (mg:8#19) (fa:Addr) (h:Heap),(K w.params).In h->h.Ns mainGlobals mg->mg d.name=1#3#fa->
   ∃fd:FuncData,(∀(s:9#2) (u:Value),BindsTo s fd ⟨[u],[]⟩ [(x,u)])/\
    ∀base:Heap,(K w.params).In base->base.Ns mainGlobals mg->FnOk l.prog w (K w.params) mg base (CX w) k fa fd [x] (sp w))
  (hsp:∀(w:World) (H:Hp) (a:Addr) (ns:2#Int),0#ns<=n->Bu H->bU (K w.params) H a (ns.map V.int)->sp w [3#a] H (λv _=>v= .bl true) λ_ _ _=>False)
  (hCX:∀(w:World) (H:Hp) (s:9#2) (e:Value) (s':9#2),CX w [] H s (λ_ _ _=>False) e s'->False):
  PySem.W.WalkO q loose XP YP l.row.toRowW d [] (λf vs=>PySem.call f vs):=by
 refine Att.tj hn hdf λw s₀ s₁ mg mb fa o pm cd doc a vs ns G Y ho hd hcd hmg hobj hints hlen hg=> ?_;have KX:=hY w _ Y;let⟨fd,hb,hF⟩:=F w mg fa _ KX G.T.g hmg;exact zP KX G.T.g G.T.b G.T.builtins G.T.nolimit hg hobj hints (aaQ hlen hn2) hr hF hb (λH hO hS=>hsp w H a ns hlen hO hS) λH e s'=>hCX w H s₁ e s'
noncomputable def inClass (s:Stmt) (j:Nat):Stmt:=match s with
 | .ClassDef _ _ _ body _ _ _ _ _ _ _=>body.getD j (.Pass ⟨0,0,0,0⟩)
 |_=> .Pass ⟨0,0,0,0⟩
noncomputable def dH (s:Stmt):Arguments:=match s with
 | .FunctionDef _ a _ _ _ _ _ _ _ _=>a
 |_=>{posonlyargs:=[],args:=[],vararg:=none,kwonlyargs:=[],kw_defaults:=[],kwarg:=none,defaults:=[]}
noncomputable def br (s:Stmt):2#Stmt:=match s with
 | .FunctionDef _ _ b _ _ _ _ _ _ _=>b
 |_=>[]
noncomputable def az (s:Stmt):Scope:=match s with
 | .FunctionDef _ _ _ _ _ _ sc _ _ _=>sc
 |_=>{kind:= .function,names:=[],isGenerator:=false,isCoroutine:=false}
structure Fun (K:8#4) (x qual:Str) (st:Stmt) (f:Addr) (fd:FuncData):Prop where
 ex:∃(oc:Value) (od:5#Addr) (kV doc pm:Value) (an:5#Addr) (cdv ct:Value) (osl:Array 5#Value),
  fd=PySem.W.fnOf x qual (dH st) (br st) (az st) .none kV doc pm an cdv ct/\K.lookup f=1#⟨oc,od, .func fd,osl⟩/\PySem.W.codeIn K cdv qual=true
 kp:PySem.W.keepIn K 3#f=true
section
variable {P:Program} {w:World} {K:8#4} {mg:8#19} {base:Heap}
theorem Fun.binds {x qual:Str} {st:Stmt} {f:Addr} {ps:2#Str} (F:Fun K x qual st f fd)
  (h:∀(kV doc pm:Value) (an:5#Addr) (cdv ct:Value) (us:8#36),0#us=0#ps->bindArgs (PySem.W.fnOf x qual (dH st) (br st) (az st) .none kV doc pm an cdv ct) ⟨us,[]⟩=pure (ps.zip us)):Binds K fd ps []:=by
 let⟨oc,od,kV,doc,pm,an,cdv,ct,osl,rfl,lk,hcd⟩:=F.ex;exact .all (h kV doc pm an cdv ct)
theorem Gf {x qual:Str} {st:Stmt} {f:Addr} {oc:Value} {od an:5#Addr} {osl:Array 5#Value} {kV doc pm cdv ct:Value} (l:K.lookup f=1#⟨oc,od, .func (PySem.W.fnOf x qual (dH st) (br st) (az st) .none kV doc pm an cdv ct),osl⟩)
  (c:PySem.W.codeIn K cdv qual=true) (k:PySem.W.keepIn K 3#f=true):Fun K x qual st f (PySem.W.fnOf x qual (dH st) (br st) (az st) .none kV doc pm an cdv ct):=⟨⟨oc,od,kV,doc,pm,an,cdv,ct,osl,rfl,l,c⟩,k⟩
end
theorem iu {n:Nat} (h:n<=1000):n<sizeLine:=Nat.lt_of_le_of_lt h 9#7
section
variable {X:Cx}
end
theorem lR {A B:Prop} (h:B):if false=true then A else B:=by
 rw[if_neg aaF];exact h
theorem lM {A B:Prop} (h:A):if true=true then A else B:=by
 rw[if_pos rfl];exact h
end L2
namespace L2.L3
open PySem PySem.Spec PyProof.Rows
section
variable {P:Program} {w:World} {H:Hp} {h:Heap} {a:Addr} {o:HO}
theorem xE (x:aK P w H h a o):∃ob,h.get? a=1#ob:=by
 cases o with
 |lst xs=>exact let ⟨_,_,_,_,e⟩:=x;⟨_,e⟩
 |tup xs=>exact let ⟨_,_,_,ob,e,_⟩:=x;⟨ob,e⟩
 |dK kvs=>exact let ⟨_,_,_,_,ob,_,_,e,_⟩:=x;⟨ob,e⟩
 |dT kvs=>exact let ⟨_,_,_,_,ob,_,_,e,_⟩:=x;⟨ob,e⟩
 |set S n=>exact let ⟨ob,_,_,_,e,_⟩:=x;⟨ob,e⟩
 |ins C dx fs=>exact let ⟨_,_,_,e,_⟩:=x;⟨_,e⟩
 |own y=>exact x
 |xd fs=>exact let ⟨_,⟨ob,_,_,e,_⟩,_⟩:=x;⟨ob,e⟩
 |rng lo hi=>exact let ⟨_,_,_,e⟩:=x;⟨_,e⟩
 |aF ob u=>exact⟨ob,x.1⟩
 |tbl ps=>exact⟨_,(show h.get? a=1#_ from x)⟩
 |met f y=>exact⟨_,(show h.get? a=1#_ from x)⟩
 |ext φ=>exact x.2.1
theorem As (x:bE P w H h) (e:h.get? a=none):H a=none:=by
 cases q:H a with
 |none=>rfl
 |some u=>
  let⟨ob,z⟩:=xE (x a u q);rw[e] at z;cases z
end
def wide (X:Cx) (ch:2#Addr):Cx:={X with ex:=ch++X.ex}
section
variable {X:Cx} {pins:8#5} {σ:St} {H H':Hp} {s s':9#2} {ch:2#Addr}
theorem widen (I:8#1) (hc:∀b∈ch,X.s₀.heap.get? b=none/\b≠X.env.locals/\(∀x c,X.env.cells.lookup x=1#c->c≠b)/\b∉X.fs):Inv (wide X ch) pins σ H s:=by
 have ok:(wide X ch).Ok:=by
  refine⟨I.ok.mod,I.ok.kind,I.ok.glob,I.ok.blt,I.ok.above,I.ok.inj,I.ok.has,I.ok.cab,I.ok.hd,I.ok.frames,I.ok.stk, ?_,I.ok.bs,I.ok.bsz, ?_, ?_,I.ok.dh,I.ok.frf⟩
  ·intro b hb
   rcases aaC.mp hb with z|z
   ·exact⟨(hc b z).2.1,(hc b z).2.2.1⟩
   ·exact I.ok.exf b z
  ·intro b o e hb
   rcases aaC.mp hb with z|z
   ·have q:=(I.ok.bs b o e).1;rw[(hc b z).1] at q;cases q
   ·exact I.ok.noex b o e z
  ·intro b hb
   rcases aaC.mp hb with z|z
   ·exact(hc b z).2.2.2
   ·exact I.ok.exfs b z
 have un:Un X.fs (ch++X.ex) X.H₀ H X.s₀.heap s.heap:=I.base.mono (λ_ z=>z) λ_ z=>aaA _ z;exact⟨ok,I.os,I.bare,un,I.loc,I.cell,I.free,I.freeC,I.pin,I.ah,I.len⟩
theorem narrow (I:Inv (wide X ch) pins σ H s) (ok:X.Ok) (hc:∀b∈ch,X.s₀.heap.get? b=none):Inv X pins σ H s:=by
 have nc:∀b o,X.s₀.heap.get? b=1#o->b∉X.ex->b∉ch++X.ex:=λb o e nx z=>by
  rcases aaC.mp z with z|z
  ·rw[hc b z] at e;cases e
  ·exact nx z
 have B:Un X.fs (ch++X.ex) X.H₀ H X.s₀.heap s.heap:=I.base
 have un:Un X.fs X.ex X.H₀ H X.s₀.heap s.heap:=
  ⟨λb o e n f x=>B.keep b o e n f (nc b o e x),λb o e n f x=>B.slot b o e n f (nc b o e x),λb o e n x=>B.free b o e n (nc b o e x),λb o e x=>B.there b o e (nc b o e x),B.tups,B.aV,B.tbls⟩
 exact⟨ok,I.os,I.bare,un,I.loc,I.cell,I.free,I.freeC,I.pin,I.ah,I.len⟩
theorem B9 (I:8#1) (ho:s'.os=s.os) (u:Un (cF X.stack) ch H H' s.heap s'.heap) (ah:bE X.prog X.w H' s'.heap) (hg:AllBare s'.gens)
  (hc:∀b∈ch,X.s₀.heap.get? b=none/\b≠X.env.locals/\(∀x c,X.env.cells.lookup x=1#c->c≠b)/\b∉X.fs/\∀p∈X.pn++pins,p.1≠b):Inv X pins σ H' s':=by
 have J:Inv (wide X ch) pins σ H s:=widen I λb hb=>⟨(hc b hb).1,(hc b hb).2.1,(hc b hb).2.2.1,(hc b hb).2.2.2.1⟩;have J':Inv (wide X ch) pins σ H' s':=J.vH (ch:=ch) ho u ah hg λb hb=>⟨.inl (aaS _ hb),(hc b hb).2.1,(hc b hb).2.2.1,(hc b hb).2.2.2.2⟩;exact narrow J' I.ok λb hb=>(hc b hb).1
theorem kU {a:Addr} {o:HO} (I:8#1) (hn:H a=none) (hy:X.s₀.heap.get? a=none) (h1:a≠X.env.locals) (h2:∀x c,X.env.cells.lookup x=1#c->c≠a) (h3:∀p∈X.pn++pins,p.1≠a)
  (new:aK X.prog X.w (upd H a o) s.heap a o):Inv X pins σ (upd H a o) s:=by
 have ne:∀b u,X.s₀.heap.get? b=1#u->b≠a:=λb u e z=>by
  rw[z,hy] at e;cases e
 have up:∀b u,H b=1#u->upd H a o b=1#u:=λb u q=>by
  rw[ao (bx q hn)];exact q
 have un:Un X.fs X.ex X.H₀ (upd H a o) X.s₀.heap s.heap:=by
  refine⟨I.base.keep,I.base.slot,λb u e n x=> ?_,I.base.there,λb xs q=>up _ _ (I.base.tups b xs q),λb u v q=>up _ _ (I.base.aV b u v q),λb ps q=> ?_⟩
  ·rw[ao (ne b u e)];exact I.base.free b u e n x
  ·let⟨more,z⟩:=I.base.tbls b ps q;exact⟨more,up _ _ z⟩
 refine⟨I.ok,I.os,I.bare,un,I.loc,I.cell, ?_,λx c e=> ?_,λp hp=> ?_,λb u e=> ?_,I.len⟩
 ·rw[ao h1.symm];exact I.free
 ·rw[ao (h2 x c e)];exact I.freeC x c e
 ·let⟨p1,p2,p3⟩:=I.pin p hp;exact⟨p1,by rw[ao (h3 p hp)];exact p2,p3⟩
 ·by_cases hb:b=a
  ·subst hb;rw[ak] at e;cases e;exact new
  ·rw[ao hb] at e;exact(I.ah b u e).iE (λ_ _ _ q=>q) (λc q=>up _ _ q) λc xs q=>up _ _ q
theorem nR {b:Addr} {o:Obj} {vs:Array Value} (I:8#1) (e:s.heap.get? b=1#o) (d:o.data= .fields vs):
  b≠X.env.locals/\(∀x c,X.env.cells.lookup x=1#c->c≠b)/\b∉X.fs/\b∉cF X.stack:=by
 refine⟨λz=> ?_,λx c q z=> ?_,λz=> ?_,λz=> ?_⟩
 ·let⟨m,⟨o',es,ep,ho,hd,_⟩,_⟩:=I.loc;rw[z,ho] at e;cases e;rw[hd] at d;cases d
 ·let⟨v,o',ho,hd⟩:=I.cell x c q;rw[z,e] at ho;cases ho;rw[d] at hd;cases hd
 ·let⟨_,o',ho,hd⟩:=I.dh.mem z;rw[e] at ho;cases ho;exact hd vs d
 ·let⟨_,o',ho,hd⟩:=I.stack.mem z;rw[e] at ho;cases ho;exact hd vs d
end
def ExcAt (h:Heap) (e:Addr) (cls:Value) (dx:5#Addr) (tb:5#(Addr×Value)):Prop:=
 ∃oe vs,h.get? e=1#oe/\oe.cls=cls/\oe.dict=dx/\oe.data= .fields vs/\1<vs.size/\
  match tb with
  |none=>vs[1]?=1#.none
  |some p=>vs[1]?=1#3#p.1/\p.1≠e/\∃oT ts,h.get? p.1=1#oT/\oT.data= .fields ts/\ts[3]?=1#p.2
theorem oz (o:Obj) (f:Array Value->Array Value):(o.mapFields f).dict=o.dict:=by
 let⟨c,d,dt,sl⟩:=o;cases dt<;>rfl
theorem qe {e:Value} {a b:Env} (q:a.frame=b.frame):noteFrame e a=noteFrame e b:=by
 unfold noteFrame PySem.frameOf;rw[q]
structure Moved (fs ch:2#Addr) (h h':Heap):Prop where
 keep:∀b o,b∉fs->b∉ch->h.get? b=1#o->h'.get? b=1#o
 slot:∀b o,b∉ch->h.get? b=1#o->∃sl,h'.get? b=some {o with slots:=sl}
theorem Moved.refl {fs:2#Addr} (h:Heap):Moved fs ch h h:=⟨λ_ _ _ _ e=>e,λ_ o _ e=>⟨o.slots,e⟩⟩
theorem Moved.trans {fs:2#Addr} (x:Moved fs ch h h1) (y:Moved fs ch h1 h2):Moved fs ch h h2:=
 ⟨λb o f c e=>y.keep b o f c (x.keep b o f c e),λb o c e=>let ⟨_,e1⟩:=x.slot b o c e;let ⟨sl,e2⟩:=y.slot b _ c e1;⟨sl,e2⟩⟩
theorem Moved.mono {fs ch:2#Addr} (x:Moved fs ch h h') (k:∀b∈ch,b∈ch'):Moved fs ch' h h':=
 ⟨λb o f c e=>x.keep b o f (λz=>c (k b z)) e,λb o c e=>x.slot b o (λz=>c (k b z)) e⟩
theorem Moved.un {fs:2#Addr} {H:Hp} (x:Moved fs ch h h'):Un fs ch H H h h':=
 ⟨λb o e _ f c=>x.keep b o f c e,λb o e _ _ c=>x.slot b o c e,λ_ _ _ n _=>n,λb o e c=>let ⟨sl,z⟩:=x.slot b o c e;⟨_,z⟩,λ_ _ q=>q,λ_ _ _ q=>q,λ_ ps q=>⟨#[],by rw[q];simp⟩⟩
theorem Moved.ah {fs ch:2#Addr} {P:Program} {w:World} {H:Hp} (x:Moved fs ch h h') (k:bE P w H h) (hf:∀b∈fs,H b=none) (hc:∀b∈ch,H b=none):bE P w H h':=λa o e=>by
 have nn:∀b u,H b=1#u->b∉fs/\b∉ch:=λb u q=>⟨λz=>(by rw[hf b z] at q;cases q),λz=>(by rw[hc b z] at q;cases q)⟩;refine(k a o e).iE (λb u hb q=> ?_) (λ_ q=>q) λ_ _ q=>q
 rcases hb with rfl|hb
 ·exact x.keep b u (nn b _ e).1 (nn b _ e).2 q
 ·exact x.keep b u (nn b _ hb).1 (nn b _ hb).2 q
section
variable {M:Model} {A:Around} {E:8#2} {s:9#2} {F env:Env} {rest:2#Env} {L e:Addr} {bs:Heap} {oe:Obj} {vs:Array Value} {head:Value} {Q:Unit->Shared->Prop}
theorem Ae {had:Bool} (hA:A.frames=1#(F::rest)) (hF:F.frame=1#L) (hl:s.heap.FunFrames bs (F::rest)) (he:s.heap.get? e=1#oe) (hd:oe.data= .fields vs) (hz:1<vs.size)
  (h:∀h' T,Moved (cF (F::rest)) [e] s.heap h'->s.heap.get? T=none->h'.get? e=1#(oe.mapFields (·.setIfInBounds 1 3#T))->
   (∃oT ts,h'.get? T=1#oT/\oT.data= .fields ts/\ts[3]?=1#(rawInt L))->Q () {s with heap:=h'}):
  wpAny M A (do let a←PySem.frameOf F;let pl←entryPlaceOf L had;let b←EntryCells.newEntry head a .none (rawInt L) .none pl;setField 3#e 1 b) Q E s:=by
 have ne:e∉cF (F::rest):=λz=>by
  let⟨_,o',q,nf⟩:=hl.mem z;rw[he] at q;cases q;exact nf vs hd
 refine aaa (wpAny_frameOf_fun hA hl hF λg1 so=> ?_);have e1:g1.get? e=1#oe:=(so.2.1 e ne).trans he;refine aaa (wpAny_entryPlaceOf λpl ip=> ?_);unfold EntryCells.newEntry newFields;refine aaa (aaK ?_ (ip.sizeOk5 _ _ _ _ _));generalize hob:({cls:= .type "traceback",dict:=none,data:= .fields ([head, 3#L, .none,rawInt L, .none]++(if pl.isEmpty then List.replicate 6 Value.none else pl)).toArray}:Obj)=ob
 have obd:∃ts,ob.data= .fields ts/\ts[3]?=1#(rawInt L):=by
  rw[←hob];exact⟨_,rfl,by simp⟩
 let⟨ts,od,o3⟩:=obd;have e2:=aae (h:=g1) ob e1;refine abI e2 hd hz ?_;have nT:g1.objs.size≠e:=abJ (aan e1);have dd:=aba hd (·.setIfInBounds 1 (Value.ref g1.objs.size))
 have oth:∀b o,b≠e->g1.get? b=1#o->((g1.push ob).update e (Obj.mapFields (·.setIfInBounds 1 (Value.ref g1.objs.size)))).get? b=1#o:=λb o nb q=>by
  rw[aa7 _ _ (Ne.symm nb)];exact aae _ q
 refine h _ g1.objs.size ⟨λb o f c q=> ?_,λb o c q=> ?_⟩ (abd (by rw[so.1];exact aai _)) (abo _ e2 (abC dd)) ⟨ob,ts, ?_,od,o3⟩
 ·exact oth b o (by simpa using c) ((so.2.1 b f).trans q)
 ·let⟨sl,z⟩:=so.2.2 b o q;exact⟨sl,oth b _ (by simpa using c) z⟩
 ·rw[aa7 _ _ (Ne.symm nT)];refine aaj g1 ?_;rw[←hob];rfl
theorem CG {cls:Value} {dx:5#Addr} {tb:5#(Addr×Value)} (hA:A.frames=1#(F::rest)) (hF:F.frame=1#L) (hv:env.frame=1#L) (hl:s.heap.FunFrames bs (F::rest)) (x:ExcAt s.heap e cls dx tb)
  (h:∀h' T,Moved (cF (F::rest)) (e::(tb.map (·.1)).toList) s.heap h'->(s.heap.get? T=none∨tb.map (·.1)=1#T)->ExcAt h' e cls dx 1#(T,rawInt L)->Q () {s with heap:=h'}):
  wpAny M A (noteFrame 3#e env) Q E s:=by
 rw[qe (hv.trans hF.symm)];let⟨oe,vs,he,hc,hx,hd,hz,x⟩:=x
 have tail:∀(s1:9#2) (head:Value) (had:Bool),s1={s with heap:=s1.heap}->Moved (cF (F::rest)) (e::(tb.map (·.1)).toList) s.heap s1.heap->(∀b,s1.heap.get? b=none->s.heap.get? b=none)->s1.heap.FunFrames bs (F::rest)->s1.heap.get? e=1#oe->
   wpAny M A (do let a←PySem.frameOf F;let pl←entryPlaceOf L had;let b←EntryCells.newEntry head a .none (rawInt L) .none pl;setField 3#e 1 b) Q E s1:=by
  intro s1 head had es mv new hl1 he1;refine Ae hA hF hl1 he1 hd hz λh' T m1 nT e1 z905=> ?_;let⟨oT,ts,q1,q2,q3⟩:=z905;have dd:=aba hd (·.setIfInBounds 1 (Value.ref T))
  have r:Q () {s with heap:=h'}:=by
   refine h h' T (mv.trans (m1.mono λb hb=>by simp only[aaM] at hb;simp[hb])) (.inl (new T nT)) ⟨_,_,e1,(acZ _ _).trans hc,(oz _ _).trans hx,dd,by simpa using hz,by simp[hz], ?_,oT,ts,q1,q2,q3⟩
   rintro rfl
   rw[he1] at nT;cases nT
  rw[es];exact r
 unfold noteFrame;simp only[hF]
 cases tb with
 |none=>
  refine aaa (aaD he hd x ?_);rw[if_neg 9#7];exact tail s .none _ rfl (Moved.refl _) (λ_ q=>q) hl he
 |some p=>
  let⟨T,fl⟩:=p;let⟨x1,x2,oT,ts,x3,x4,x5⟩:=x;refine aaa (aaD he hd x1 ?_);rw[if_pos (show (Value.ref T !=Value.none)=true from by simp)];refine aaa (aaD x3 x4 x5 ?_)
  by_cases z:(fl==rawInt L)=true
  rotate_left
  ·rw[if_neg z];refine aaa (abI x3 x4 (Array.getElem?_eq_some_iff.mp x5).1 ?_);have oth:∀b,b≠T->(s.heap.update T (Obj.mapFields (·.setIfInBounds 3 Value.none))).get? b=s.heap.get? b:=λb hb=>aa7 _ _ (Ne.symm hb);have tT:=abo (Obj.mapFields (·.setIfInBounds 3 Value.none)) x3 (abC (aba x4 _));refine tail {s with heap:=s.heap.update T (Obj.mapFields (·.setIfInBounds 3 Value.none))} 3#T _ rfl ⟨λb o f c q=> ?_,λb o c q=> ?_⟩ (λb q=> ?_) ?_ ((oth e (Ne.symm x2)).trans he)
   ·exact(oth b (λz=>c (by simp[z]))).trans q
   ·exact⟨o.slots,(oth b (λz=>c (by simp[z]))).trans q⟩
   ·by_cases hb:b=T
    ·subst hb;have q':(s.heap.update b (Obj.mapFields (·.setIfInBounds 3 Value.none))).get? b=none:=q;rw[tT] at q';cases q'
    ·exact(oth b hb).symm.trans q
   ·refine hl.of_keeps λb o q nf=>⟨o,(oth b λz=> ?_).trans q,rfl⟩;rw[z,x3] at q;cases q;exact nf ts x4
  ·obtain rfl:fl=rawInt L:=beq_iff_eq.mp z;rw[if_pos (show (rawInt L==rawInt L)=true from abL _)];exact aaf (h s.heap T (Moved.refl _) (.inr rfl) ⟨oe,vs,he,hc,hx,hd,hz,x1,x2,oT,ts,x3,x4,x5⟩)
theorem kg {cls:Value} {dx:5#Addr} {T:Addr} {fl:Value} {fr:5#Addr} (x:ExcAt s.heap e cls dx 1#(T,fl))
  (h:∀h',Moved [] [T] s.heap h'->ExcAt h' e cls dx 1#(T,fr.elim .none λf=>rawInt f)->Q () {s with heap:=h'}):wpAny M A (setFlight 3#e fr) Q E s:=by
 let⟨oe,vs,he,hc,hx,hd,hz,x1,x2,oT,ts,x3,x4,x5⟩:=x;have z3:=(Array.getElem?_eq_some_iff.mp x5).1;unfold setFlight;refine aaa (aaD he hd x1 ?_);rw[if_pos (show (Value.ref T !=Value.none)=true from by simp)];refine abI x3 x4 z3 ?_;have oth:∀b,b≠T->(s.heap.update T (Obj.mapFields (·.setIfInBounds 3 (fr.elim Value.none λf=>rawInt f)))).get? b=s.heap.get? b:=λb hb=>aa7 _ _ (Ne.symm hb);have dd:=aba x4 (·.setIfInBounds 3 (fr.elim Value.none λf=>rawInt f));refine h _ ⟨λb o _ c q=>(oth b (by simpa using c)).trans q,λb o c q=>⟨o.slots,(oth b (by simpa using c)).trans q⟩⟩ ⟨oe,vs,(oth e (Ne.symm x2)).trans he,hc,hx,hd,hz,x1,x2,_,_,abo _ x3 (abC dd),dd,by simp[z3]⟩
end
structure Young (X:Cx) (H:Hp) (b:Addr):Prop where
 new:X.s₀.heap.get? b=none
 npn:∀p∈X.pn,p.1≠b
 free:H b=none
def cc (X:Cx):Prop:=∀b∈X.ex,∃o,(b,o)∈X.pn
def Framed (X:Cx):Prop:=∃(F:Env) (rest:2#Env) (L:Addr),X.stack=F::rest/\F.frame=1#L/\X.env.frame=1#L
def mT (X:Cx) (E:XK) (mk:5#(Addr×Value)->Prop):Value->Shared->Prop:=λe s=>
 ∃(σ:St) (H:Hp) (ea:Addr) (cls:Value) (dx:5#Addr) (tb:5#(Addr×Value)),e= 3#ea/\Inv X.eU [] σ H s/\ExcAt s.heap ea cls dx tb/\Young X H ea/\
  (∀p,tb=1#p->Young X H p.1)/\mk tb/\E cls dx H
abbrev XE (X:Cx) (E:XK):Value->Shared->Prop:=mT X E λ_=>True
abbrev XT (X:Cx) (E:XK):Value->Shared->Prop:=mT X E λtb=>∃p,tb=1#p
abbrev XL (X:Cx) (E:XK):Value->Shared->Prop:=mT X E λtb=>∃T,tb=1#(T, .none)
section
variable {X:Cx} {pins:8#5} {σ:St} {H:Hp} {s s':9#2} {E:XK} {e:Value}
theorem jZ {ch:2#Addr} (I:8#1) (m:Moved (cF X.stack) ch s.heap h')
  (hc:∀b∈ch,X.s₀.heap.get? b=none/\(∀p∈X.pn++pins,p.1≠b)/\H b=none/\∃o vs,s.heap.get? b=1#o/\o.data= .fields vs):Inv X pins σ H {s with heap:=h'}:=by
 refine B9 (s':={s with heap:=h'}) I rfl m.un (m.ah I.ah I.kO λb hb=>(hc b hb).2.2.1) I.bare λb hb=> ?_;let⟨h1,h2,h3,o,vs,h4,h5⟩:=hc b hb;let⟨r1,r2,r3,_⟩:=nR I h4 h5;exact⟨h1,r1,r2,r3,h2⟩
theorem j9 (hx:cc X) (I:8#1) {T:Addr} (n:s.heap.get? T=none):X.s₀.heap.get? T=none/\(∀p∈X.pn,p.1≠T)/\H T=none:=by
 have pn:∀p∈X.pn,p.1≠T:=λp hp z=>by
  have q:=(I.pin p (aaS _ hp)).1;rw[z,n] at q;cases q
 refine⟨?_,pn,As I.ah n⟩
 cases q:X.s₀.heap.get? T with
 |none=>rfl
 |some o=>
  exfalso
  by_cases hb:T∈X.ex
  ·let⟨o',m⟩:=hx T hb;exact pn _ m rfl
  ·let⟨o',z⟩:=I.base.there T o q hb;rw[n] at z;cases z
theorem gk {h:Heap} {cls:Value} {dx:5#Addr} {tb:5#(Addr×Value)} (x:ExcAt h ea cls dx tb):(∃o vs,h.get? ea=1#o/\o.data= .fields vs)/\∀p,tb=1#p->∃o vs,h.get? p.1=1#o/\o.data= .fields vs:=by
 let⟨oe,vs,he,_,_,hd,_,x⟩:=x;refine⟨⟨oe,vs,he,hd⟩,λp hp=> ?_⟩;subst hp;let⟨_,_,oT,ts,q1,q2,_⟩:=x;exact⟨oT,ts,q1,q2⟩
end
def dI (P:Program) (w:World):kX:=λouter H s E e s'=>
 ∃(ea:Addr) (cls:Value) (dx:5#Addr) (T:Addr) (H':Hp),e= 3#ea/\s'.os=s.os/\AllBare s'.gens/\Un (cF outer) [] H H' s.heap s'.heap/\bE P w H' s'.heap/\ExcAt s'.heap ea cls dx 1#(T, .none)/\
  s.heap.get? ea=none/\s.heap.get? T=none/\H' ea=none/\H' T=none/\E cls dx H'
noncomputable def aZ (env:Env):2#(Str×NameKind)->2#(Str×Addr)->2#(Str×Addr)
 |[],cs=>cs
 |(n,k)::r,cs=>aZ env r (if k== .free then (n,(env.cells.lookup n).getD 0)::cs else cs)
theorem jD {scope:Scope} {env:Env} (h:∀x∈scope.names,x.2= .free->∃c,env.cells.lookup x.1=1#c):closureFor scope env=pure (aZ env scope.names []):=by
 simp only[closureFor];generalize scope.names=l at h⊢;generalize ([]:2#(Str×Addr))=cs
 induction l generalizing cs with
 |nil=>rfl
 |cons x r ih=>
  let⟨n,k⟩:=x;rw[ab7];have hr:=λy hy=>h y (aat _ hy)
  by_cases hk:k= .free
  ·subst hk;let⟨c,hc⟩:=h (n, .free) aaz rfl;have hc':List.lookup n env.cells=1#c:=hc
   have e:cellOf env n=pure c:=by
    unfold cellOf;rw[hc']
   have q:=ih hr ((n,c)::cs);show (((cellOf env n>>=λd=>pure (ForInStep.yield ((n,d)::cs)))>>=_)>>=_)=pure (aZ env r ((n,(List.lookup n env.cells).getD 0)::cs));rw[e,hc'];exact q
  ·have hb:(k==NameKind.free)=false:=by simpa using hk
   have q:=ih hr cs;show ((((if (k==NameKind.free)=true then _ else _):Sem _)>>=_)>>=_)=pure (aZ env r (if (k==NameKind.free)=true then _ else cs));rw[hb];exact q
set_option tactic.hygienic true in
theorem nj {env:Env} {x:Str} {c:Addr}:∀(l:2#(Str×NameKind)) (cs:2#(Str×Addr)),(∀y∈l,y.2= .free->∃d,env.cells.lookup y.1=1#d)->(∀y d,cs.lookup y=1#d->env.cells.lookup y=1#d)->(aZ env l cs).lookup x=1#c->env.cells.lookup x=1#c
 |[],cs,_,k,e=>k x c e
 |(n,q)::r,cs,h,k,e=>by
  refine nj r _ (λy hy=>h y (aat _ hy)) (λy d hd=> ?_) e;split at hd
  ·rename_i hq;rw[aaI] at hd;split at hd
   ·rename_i hy;let⟨d',hd'⟩:=h (n,q) aaz (by simpa using hq);have hd'':List.lookup n env.cells=1#d':=hd';rw[hd''] at hd;cases hd;rw[beq_iff_eq.mp hy];exact hd''
   ·exact k y d hd
  ·exact k y d hd
theorem jQ {env:Env} {x:Str}:∀(l:2#(Str×NameKind)) (cs:2#(Str×Addr)),((x,NameKind.free)∈l∨(cs.lookup x).isSome=true)->((aZ env l cs).lookup x).isSome=true
 |[],cs,h=>h.elim (λz=>by cases z) λz=>z
 |(n,q)::r,cs,h=>by
  refine jQ r _ ?_
  rcases h with h|h
  ·rcases aap.mp h with e|h
   ·cases e;right;simp
   ·exact .inl h
  ·right;split
   ·rw[aaI];split
    ·rfl
    ·exact h
   ·exact h
theorem gM {env:Env} {x:Str}:∀(l:2#(Str×NameKind)),(l.map λ(n,k)=>if (k==NameKind.free&&env.scope.kind== .function&&env.kindOf n==1#.cell) then (n,NameKind.cell) else (n,k)).lookup x=
  (l.lookup x).map λk=>if (k==NameKind.free&&env.scope.kind== .function&&env.kindOf x==1#.cell) then NameKind.cell else k
 |[]=>rfl
 |(n,k)::r=>by
  have ih:=gM (env:=env) (x:=x) r;show List.lookup x ((if (k==NameKind.free&&env.scope.kind== .function&&env.kindOf n==1#.cell)=true then (n,NameKind.cell) else (n,k))::_)=_
  cases hx:x==n with
  |true=>
   have e:x=n:=beq_iff_eq.mp hx;subst e
   by_cases hc:(k==NameKind.free&&env.scope.kind== .function&&env.kindOf x==1#.cell)=true
   ·rw[if_pos hc,aaI,aaI];simp only[hx];show 1#NameKind.cell=1#(if (k==NameKind.free&&env.scope.kind== .function&&env.kindOf x==1#.cell)=true then NameKind.cell else k);rw[if_pos hc]
   ·rw[if_neg hc,aaI,aaI];simp only[hx];show 1#k=1#(if (k==NameKind.free&&env.scope.kind== .function&&env.kindOf x==1#.cell)=true then NameKind.cell else k);rw[if_neg hc]
  |false=>
   by_cases hc:(k==NameKind.free&&env.scope.kind== .function&&env.kindOf n==1#.cell)=true
   ·rw[if_pos hc];simp only[aaI,hx];exact ih
   ·rw[if_neg hc];simp only[aaI,hx];exact ih
structure BlockOk (S sc:Scope):Prop where
 kind:sc.kind= .function
 cell:∀y∈sc.names,y.2≠ .cell
 names:∀y∈sc.names,y.2= .local->sc.names.lookup y.1=1#.local
 free:∀y∈sc.names,y.2= .free->S.names.lookup y.1=1#.cell∨S.names.lookup y.1=1#.free
def B5 (X:Cx) (ws:2#Str) (caps:2#Nat) (sc:Scope) (C:Addr) (fp:2#Addr) (pn:8#5) (s:9#2) (H:Hp):Cx:=
 {X with
  N:=ws++caps.map λi=>X.N.getD i Str.empty
  s₀:=s
  H₀:=H
  env:=compEnvC sc (aZ X.env sc.names []) C X.env
  outer:=X.stack
  ex:=fp
  fn:=λ_=>false
  pn:=pn
  xe:=λ_ _=>False}
noncomputable def stC (ws:2#Str) (caps:2#Nat) (σ:St):St:=ws.map (λ_=>none)++caps.map λi=>(σ[i]?).getD none
section
variable {X:Cx} {pins:8#5} {σ:St} {H:Hp} {s:9#2} {ws:2#Str} {caps:2#Nat} {sc:Scope} {C:Addr} {fp:2#Addr} {pn:8#5}
theorem rS (I:8#1) {b:Addr} (f:cB X pins H b):b∉cF X.stack:=λz=>by
 let⟨_,f1,f2,_⟩:=f
 rcases aap.mp (I.qB b z) with q|q
 ·exact f1 q
 ·exact f2 q
end
def k8 (X:Cx) (ifs:2#Expr) (t:TT):Prop:=
 ∀(pins:8#5) (s:9#2) (σ:St) (H:Hp) (Q:Bool->Hp->Prop),Inv X pins σ H s->t σ H Q->
  wpAny 8#3 X.A (forIn ifs true λc r=>if r=true then do let ok←isTrue c X.env (eval c X.env);pure (ForInStep.yield ok) else pure (ForInStep.yield r)) (TP X pins σ Q) X.xe s
def Lx:TT:=λ_ H Q=>Q true H
theorem CU {X:Cx}:k8 X [] Lx:=λpins s σ H Q I h=>aaf (show TP X pins σ Q true s from ⟨H,I,h⟩)
theorem C5 {X:Cx} {c:Expr} {t:TT} (hc:PT X c t):k8 X [c] t:=λpins s σ H Q I h=>wpAny_tests_one (hc pins s σ H Q I h)
section
variable {prog:Program} {w:World} {A:Around} {R:Result->Shared->Prop} {s:9#2}
theorem xm {it acc:Value} {env:Env} (J:Nat->Shared->Prop)
  (turn:∀n s,J n s->wpAny 9#1 A (pyNext it) (λr s1=>match r with
   |none=>R (.ok .next) s1
   |some v=>wpAny 9#1 A (letOwnedTupleGo tg it v) (λ_ s2=>wpAny 9#1 A (assign tg env v) (λ_ s3=>
    wpAny 9#1 A (forIn ifs true λc r=>if r=true then do let ok←isTrue c env (eval c env);pure (ForInStep.yield ok) else pure (ForInStep.yield r)) (λok s4=>
     if ok=true then wpAny 9#1 A (eval elt env) (λx s5=>
      wpAny 9#1 A (call (.builtin "list.append") [acc,x]) (λ_ s6=>∃m,m<n/\J m s6) (notedBy 9#1 A env λe s'=>R (.error e) s') s5) (notedBy 9#1 A env λe s'=>R (.error e) s') s4
     else∃m,m<n/\J m s4) (notedBy 9#1 A env λe s'=>R (.error e) s') s3) (notedBy 9#1 A env λe s'=>R (.error e) s') s2) (notedBy 9#1 A env λe s'=>R (.error e) s') s1)
   (notedBy 9#1 A env λe s'=>R (.error e) s') s)
  (n:Nat) (h:J n s):codeAny 9#1 A (.compLoop 9#6 0 it acc env) R s:=by
 refine codeAny_loop rfl J (λn s hJ=> ?_) n h
 show wpAny _ A ((compTurn 9#6 0 it acc env).onRaise (λx=>do noteFrame x env;theTreesLotGoes x)) _ _ s
 refine wpAny_noted ?_;rw[compTurn_list];refine aaa (acV (aaa (ay (turn n s hJ) λr s1 q1=> ?_)))
 cases r with
 |none=>exact aaf q1
 |some v=>
  refine aaa (ay q1 λ_ s2 q2=>aaa (ay q2 λ_ s3 q3=>aaa (ay q3 λok s4 q4=> ?_)))
  cases ok with
  |false=>exact aaf ⟨rfl,q4⟩
  |true=>exact aaa (aaa (ay q4 λx s5 q5=>aaa (ay q5 λ_ s6 q6=>aaf (aaf ⟨rfl,q6⟩))))
end
def aT (X:Cx) (pn:8#5):Cx:={X with pn:=pn}
section
variable {X:Cx} {pins:8#5} {σ:St} {H:Hp} {s:9#2}
theorem CK (ok:X.Ok) (pn:8#5):(aT X pn).Ok:=
 ⟨ok.mod,ok.kind,ok.glob,ok.blt,ok.above,ok.inj,ok.has,ok.cab,ok.hd,ok.frames,ok.stk,ok.exf,ok.bs,ok.bsz,ok.noex,ok.exfs,ok.dh,ok.frf⟩
theorem dA {qn q:8#5} (I:8#1) (k:∀p∈qn++q,p∈X.pn++pins):Inv (aT X qn) q σ H s:=
 ⟨CK I.ok qn,I.os,I.bare,I.base,I.loc,I.cell,I.free,I.freeC,λp hp=>I.pin p (k p hp),I.ah,I.len⟩
theorem DB {a:Addr} {xs:2#V} (I:Inv X pins σ (upd H a 7#xs) s) (hn:H a=none):Inv X pins σ H s:=by
 have dn:∀b u,upd H a 7#xs b=1#u->(∀ys,u≠ 7#ys)->H b=1#u:=λb u q nl=>by
  by_cases hb:b=a
  ·subst hb;rw[ak] at q;cases q;exact absurd rfl (nl xs)
  ·rw[ao hb] at q;exact q
 have fn:∀b,upd H a 7#xs b=none->H b=none:=λb q=>by
  by_cases hb:b=a
  ·rw[hb];exact hn
  ·rw[ao hb] at q;exact q
 refine⟨I.ok,I.os,I.bare,⟨I.base.keep,I.base.slot,λb o e n x=>fn b (I.base.free b o e n x),I.base.there,λb ys q=>dn b _ (I.base.tups b ys q) λ_ z=>(by cases z),λb o u q=>dn b _ (I.base.aV b o u q) λ_ z=>(by cases z),λb ps q=> ?_⟩,
  I.loc,I.cell,fn _ I.free,λx c e=>fn c (I.freeC x c e),λp hp=> ?_,λb u e=> ?_,I.len⟩
 ·let⟨more,z⟩:=I.base.tbls b ps q;exact⟨more,dn b _ z λ_ z=>by cases z⟩
 ·let⟨p1,p2,p3⟩:=I.pin p hp;exact⟨p1,fn _ p2,p3⟩
 ·have hb:b≠a:=λz=>by
   rw[z,hn] at e;cases e
  have e':upd H a 7#xs b=1#u:=by
   rw[ao hb];exact e
  exact(I.ah b u e').iE (λ_ _ _ q=>q) (λc q=>dn c _ q λ_ z=>(by cases z)) λc ys q=>dn c _ q λ_ z=>(by cases z)
end
def runC (g:TG) (tt:TT) (te:TE) (J:It) (σ:St) (H:Hp) (Z:2#V->Hp->Prop):Prop:=
 ∃W:Nat->Nat->2#V->St->Hp->Prop,(∃m,W 0 m [] σ H)/\∀i m ys σ H,W i m ys σ H->
  (J.stop i H/\Z ys H)∨(J.go i H/\∃N:2#V->St->Hp->Prop,(∀ys' σ' H',N ys' σ' H'->∃m',m'<m/\W (i+1) m' ys' σ' H')/\∀x H2,J.yld i H x H2->g x σ H2 λσ3 H3=>tt σ3 H3 λok H4=>
   if ok=true then te σ3 H4 λv H5=>0#ys<sizeLine/\N (ys++[v]) σ3 H5 else N ys σ3 H4)
noncomputable def lobj (its:8#36) (n:Nat):Obj:={cls:= .type "list",data:= .seq its.toArray n}
section
variable {X:Cx} {E:XK} {pins:8#5} {σ:St} {H:Hp} {s:9#2} {ws:2#Str} {caps:2#Nat} {sc:Scope} {tg iter elt:Expr} {ifs:2#Expr} {pos:Pos} {g:TG} {tt:TT} {te:TE} {it:Addr} {fp:2#Addr} {tn:Nat->Heap->Prop} {J:It} {Z:2#V->Hp->Prop}
 {RR:Value->Addr->Result->Shared->Prop} {E':8#2}
end
section
variable {K:8#4} {a:Addr} {xs:2#V} {g:TG} {tt:TT} {te:TE} {σ:St} {H:Hp} {Z:2#V->Hp->Prop}
end
def Cr (ws:2#Str) (caps:2#Nat) (wi:TI) (g:TG) (tt:TT) (te:TE):TE:=λσ H Q=>wi σ H λJ H1=>runC g tt te J (stC ws caps σ) H1 λys H'=>∀D,H' D=none->Q 3#D (upd H' D 7#ys)
def BU (i:Nat) (ws:2#Str) (caps:2#Nat) (wi:TI) (g:TG) (tt:TT) (te:TE):TS:=λD σ H=>wi σ H λJ H1=>runC g tt te J (stC ws caps σ) H1 λys H'=>∀a,H' a=none->D.nx (σ.set i 1#3#a) (upd H' a 7#ys)
section
variable {X:Cx} {E:XK} {ws:2#Str} {caps:2#Nat} {sc:Scope} {tg iter elt:Expr} {ifs:2#Expr} {pos py spos:Pos} {wi:TI} {g:TG} {tt:TT} {te:TE}
end
abbrev uL (P:Program) (w:World) (K:8#4) (mg:8#19) (base:Heap) (N:2#Str) (qual:Str) (sc:Scope) (f:Addr) (cd:Value) (A:Around) (outer:2#Env) (s:9#2) (H:Hp) (E:XK):Cx:=ou (dI P w) P w K mg base N qual sc f cd A outer s H E
section
variable {P:Program} {w:World} {K:8#4} {mg:8#19} {base:Heap} {N:2#Str} {qual:Str} {sc:Scope} {f:Addr} {cd:Value} {A:Around} {outer:2#Env} {s:9#2} {H:Hp} {E:XK}
theorem fmD:Framed (uL P w K mg base N qual sc f cd A outer s H E):=⟨_,_,_,rfl,rfl,rfl⟩
theorem hxD:cc (uL P w K mg base N qual sc f cd A outer s H E):=λb hb=>by cases hb
end
set_option tactic.hygienic true in
theorem DL {K:8#4} {h:Heap} {C:Addr} {bmB:8#36} {newId:String} (x:K.In h) (q:PySem.W.excIn K C bmB newId=true):
  ∃bm N nm qn bs hdct sn sub ab col dd k0 k1 k2 k3 k5 mN,h.get? C=1#(excClassObj nm qn C N bs bm hdct sn sub ab col dd k0 k1 k2 k3 k5 newId)/\h.Ns N mN/\mN "__init__"=none/\OwnTail h bmB bm:=by
 unfold PySem.W.excIn at q;split at q
 case h_2=>cases q
 case h_1 d0 cd0 sl0 ho=>
  split at q
  case h_2=>cases q
  case h_1 C1 bm1 a0 a1 a2 a3 n1 a5 hm hs=>
   simp only[aag,abm,ac0] at q;let⟨⟨⟨⟨⟨e1,e2⟩,e3⟩,e4⟩,e5⟩,e6⟩:=q;let⟨nm,bs,mro,ns,qn,hd,sn,sub,ab,col,del⟩:=cd0;dsimp only at hm e3 e5 e6;subst hm e3 e1 e2;let⟨l⟩:=sl0;simp only at hs;subst hs;exact⟨bm1,ns,nm,qn,bs,hd,sn,sub,ab,col,d0,a0,a1,a2,a3,a5,_,x _ _ ho, .of_isNs (PySem.W.isNs_of_in x e5),PySem.W.nsMap_none_of_in x e5 e6,PySem.W.tail_of_in x e4⟩
abbrev u9:2#Value:=[.type "ValueError", .type "Exception", .type "BaseException", .type "object"]
section
variable {X:Cx} {E:XK} {C:Addr} {x:Str} {np cpos pos:Pos} {e:Expr} {es:2#Expr} {t:TA}
end
def dj (ea C:Addr) (dx:5#Addr):Heap->Prop:=λh=>∃o vs,h.get? ea=1#o/\o.cls= 3#C/\o.dict=dx/\o.data= .fields vs
theorem HE {P:Program} {w:World} {H:Hp} {C:Addr} {dx:5#Addr} (x:dj ea C dx h):aK P w H h ea (.ext (dj ea C dx)):=by
 refine⟨x, ?_,λh1 h2 z902 k=>by let⟨o,vs,e1,e2⟩:=z902;exact⟨o,vs,k o e1,e2⟩⟩;let⟨o,vs,e,_⟩:=x;exact⟨o,e⟩
def eT (X:Cx) (ea:Addr) (pn:8#5):Cx:={X with A:=X.A.mark 1#3#ea,calm:=false,xe:=λ_ _=>False,pn:=pn}
section
variable {X:Cx} {pins:8#5} {σ:St} {H:Hp} {s:9#2} {ea:Addr}
theorem kM (ok:X.Ok) (pn:8#5):(eT X ea pn).Ok:=
 ⟨ok.mod,ok.kind,ok.glob,ok.blt,ok.above,ok.inj,ok.has,ok.cab,λz=>(by cases z),ok.frames,ok.stk,ok.exf,ok.bs,ok.bsz,ok.noex,ok.exfs,ok.dh,ok.frf⟩
theorem mj {pn q:8#5} (I:8#1) (k:∀p∈pn++q,p∈X.pn++pins):Inv (eT X ea pn) q σ H s:=
 ⟨kM I.ok pn,I.os,I.bare,I.base,I.loc,I.cell,I.free,I.freeC,λp hp=>I.pin p (k p hp),I.ah,I.len⟩
theorem nA (ok:X.Ok) (I:Inv (eT X ea pn) q σ H s) (k:∀p∈X.pn++pins,p∈pn++q):Inv X pins σ H s:=
 ⟨ok,I.os,I.bare,I.base,I.loc,I.cell,I.free,I.freeC,λp hp=>I.pin p (k p hp),I.ah,I.len⟩
theorem xK {i:Nat} {x:Str} {m:8#19} {v:5#Value} {h':Heap} {t:Nat} (I:8#1) (hN:X.N.Nodup) (hi:X.N[i]?=1#x)
  (hl:∀(i:Nat) (x:Str) (v:V),X.N[i]?=1#x->σ[i]?=1#1#v->uf X.env.scope x->∃u,RelV v u/\Look X.env s.heap m x u)
  (hn':h'.Ns X.env.locals (λy=>if y=x then v else m y)) (sb:Heap.SameBut X.env.locals s.heap h'):Inv X pins (σ.set i none) H {s with heap:=h',toks:=t}:=by
 have nL:∀b o,X.s₀.heap.get? b=1#o->b≠X.env.locals:=λb o e=>aax (aao (aan e) I.ok.above);refine⟨I.ok,I.os,I.bare,⟨λb o e n f c=>(sb.2 b (nL b o e)).trans (I.base.keep b o e n f c),λb o e n f c=> ?_,I.base.free,λb o e c=> ?_,I.base.tups,I.base.aV,I.base.tbls⟩,⟨_,hn',λj y w e1 e2 e3=> ?_⟩,λy c e=> ?_,I.free,I.freeC,λp hp=> ?_,λb u e=> ?_,by simpa using I.len⟩
 ·let⟨sl,z⟩:=I.base.slot b o e n f c;exact⟨sl,(sb.2 b (nL b o e)).trans z⟩
 ·let⟨o',z⟩:=I.base.there b o e c;exact⟨o',(sb.2 b (nL b o e)).trans z⟩
 ·have hj:j≠i:=by
   rintro rfl
   by_cases hlt:j<0#σ
   ·rw[aa6 hlt] at e2;cases e2
   ·rw[acB (by simpa using hlt)] at e2;cases e2
  rw[aaY (Ne.symm hj)] at e2;let⟨u,r,q⟩:=hl j y w e1 e2 e3;refine⟨u,r, ?_⟩
  rcases q with⟨k,e⟩|⟨k,c,e,z⟩
  ·have ny:y≠x:=λz=>hj (mz hN e1 (z▸hi));exact .inl ⟨k,(if_neg ny).trans e⟩
  ·exact .inr ⟨k,c,e,z.sameBut sb (I.mJ y c e)⟩
 ·let⟨w,z⟩:=I.cell y c e;exact⟨w,z.sameBut sb (I.mJ y c e)⟩
 ·let⟨p1,p2,p3,p4⟩:=I.pin p hp;exact⟨(sb.2 p.1 p3).trans p1,p2,p3,p4⟩
 ·have nb:∀c v,H c=1#v->c≠X.env.locals:=λc v q z=>by
   rw[z,I.free] at q;cases q
  refine(I.ah b u e).iE (λc w hc q=>(sb.2 c ?_).trans q) (λ_ q=>q) λ_ _ q=>q
  rcases hc with rfl|hc
  ·exact nb _ _ e
  ·exact nb _ _ hc
end
section
variable {X:Cx} {E:XK} {B:Addr} {cn x:Str} {i:Nat} {np pos hpos:Pos} {body:2#Stmt} {st:Stmt} {suite:2#Stmt} {tb:XK->TS} {th:TS}
end
structure ExcCls (K:8#4) (C:Addr):Prop where
 ga:PySem.W.findIn K 3#C "__getattribute__"=1#1#(.builtin "BaseException.__getattribute__")
 no:PySem.W.findIn K 3#C "__getattr__"=1#none
 cl:PySem.W.findIn K 3#C "__class__"=1#1#8#27
 sb:PySem.W.subIn K 3#C (.type "BaseException")=1#true
 so:PySem.W.subIn K 3#C (.type "object")=1#true
 it:PySem.W.kitCls K 3#C 3#C=1#true
section
variable {prog:Program} {w:World} {A:Around} {E:8#2} {K:8#4} {h:Heap} {g:Array GenState} {d:Drawn} {t:Nat} {os:OsState} {a C:Addr} {o:Obj}
theorem Ft {R:Result->Shared->Prop} (X:K.In h) (k:ExcCls K C) (hx:h.get? a=1#o) (hc:o.cls= 3#C) (hq:R (.ok (.ret 3#C)) ⟨h,g,d,t,os⟩):
  codeAny 9#1 A (.call (.builtin "getset_descriptor.__get__") ⟨[.builtin "object.__class__", 3#a, 3#C],[]⟩) R ⟨h,g,d,t,os⟩:=by
 have hT5:(⟨h,g,d,t,os⟩:Shared).TypeIs 8#27 "getset_descriptor":=acC
 have so:PySem.W.Looks 9#1 h (isSubtype 3#C (.type (".".intercalate ("object.__class__".cutAt '.').dropLast))) true:=by
  rw[F.owner_object_class];exact PySem.W.looks_subIn X k.so
 refine acK F.slot_gs_get.plain F.entry_gs_get (F.slot_gs_get.check _ _ _ _ _ _ _ _ hT5 (F.args_gs_get _ _ _) ?_)
 repeat (any_goals (first|assumption|(with_reducible refine abW hx ?_;rw[hc])|with_reducible refine so.here ?_|wp_step))
 refine⟨Code.quiet_builtin _ (by decide+kernel),codeAny_builtin F.entry_object_class ?_⟩
 repeat (any_goals (first|assumption|(with_reducible refine abW hx ?_;rw[hc])|wp_step))
theorem zV {tk:Tok} {Q:Fin->Shared->Prop} (X:K.In h) (k:ExcCls K C) (hx:h.get? a=1#o) (hc:o.cls= 3#C) (hq:Q (.done (.ret 3#C)) ⟨h,g,d,t,os⟩):
  wpAny 9#1 A (Builtin.«object.__getattribute__» ⟨[3#a, .str "__class__" tk],[]⟩) Q E ⟨h,g,d,t,os⟩:=by
 have hT5:(⟨h,g,d,t,os⟩:Shared).TypeIs 8#27 "getset_descriptor":=acC;have f5:=acC;have f6:=F.slot_gs_get.lookup;have f7:=F.slot_gs_set.lookup;have L1:PySem.W.Looks 9#1 h (typeLookup 3#C "__class__") 1#8#27:=abH X k.cl
 repeat (any_goals (first|assumption|(with_reducible refine abW hx ?_;rw[hc])|with_reducible refine L1.here ?_|wp_step))
 refine Ft X k hx hc ?_
 repeat (any_goals (first|assumption|wp_step))
theorem Aq {M:Model} {nameV:Value} {Q:Unit->Shared->Prop} (X:K.In h) (k:ExcCls K C) (hx:h.get? a=1#o) (hc:o.cls= 3#C) (hq:Q () ⟨h,g,d,t,os⟩):
  wpAny M A (checkBuiltinCall "BaseException.__getattribute__" ⟨[3#a,nameV],[]⟩) Q E ⟨h,g,d,t,os⟩:=by
 have hk:builtinKind "BaseException.__getattribute__"=1#.slot:=by decide+kernel
 have hs:splitId "BaseException.__getattribute__"=1#("BaseException","__getattribute__"):=by decide+kernel
 have sb:PySem.W.Looks M h (isSubtype 3#C (.type "BaseException")) true:=PySem.W.looks_subIn X k.sb;have ha:=F.args_bexc_ga 3#a nameV;simp only[checkBuiltinCall,hk,hs];refine aaa ?_;unfold isInstance
 repeat (first|(with_reducible refine abW hx ?_;rw[hc])|with_reducible refine sb.here ?_|wp_step)
 exact hq
theorem Jq {tk:Tok} {Q:8#2} (X:K.In h) (k:ExcCls K C) (hx:h.get? a=1#o) (hc:o.cls= 3#C) (hq:Q 3#C ⟨h,g,d,t,os⟩):
  wpAny 9#1 A (getAttrBy 3#a (.str "__class__" tk) false) Q E ⟨h,g,d,t,os⟩:=by
 have f3:=PySem.F.attr_ValueError.ga.bind 3#a
 have n1:(Value.builtin "BaseException.__getattribute__"==Value.builtin "object.__getattribute__")=false:=by decide+kernel
 have n2:(onTheHeap (Value.ref C)&&Value.builtin "BaseException.__getattribute__"==Value.builtin "object.__getattribute__")=false:=by
  rw[n1];rfl
 have L1:PySem.W.Looks 9#1 h (typeLookup 3#C "__getattribute__") 1#(.builtin "BaseException.__getattribute__"):=abH X k.ga;have L2:PySem.W.Looks 9#1 h (typeLookup 3#C "__getattr__") none:=abH X k.no
 repeat (any_goals (first|assumption|(with_reducible refine abW hx ?_;rw[hc])|with_reducible refine L1.here ?_|with_reducible refine L2.here ?_|wp_step))
 refine acK PySem.F.attr_ValueError.ga.plain F.entry_bexc_ga (Aq X k hx hc (zV X k hx hc ?_))
 repeat (any_goals (first|assumption|wp_step))
theorem DY {Q:5#Value->Shared->Prop} (X:K.In h) (k:ExcCls K C) (hx:h.get? a=1#o) (hc:o.cls= 3#C) (hq:Q 1#3#C ⟨h,g,d,t+1,os⟩):
  wpAny 9#1 A (getAttr? 3#a "__class__") Q E ⟨h,g,d,t,os⟩:=by
 unfold getAttr? getAttrBy?
 repeat (any_goals (first|assumption|with_reducible apply Jq X k hx hc|wp_step))
end
set_option tactic.hygienic true in
theorem rl {K:8#4} {a C:Addr} (k:ExcCls K C):PySem.W.KitX K 3#a 3#C (λh=>∃o,h.get? a=1#o/\o.cls= 3#C) where
 ty:=λ_ _ _ ⟨o,h1,h2⟩=>h2▸(acx h1).andThen .now
 it:=λ_ _ X _=>(PySem.W.kit_cls X k.it).2.1
 ne:=λh tp dd its n sl X htp=>by
  refine Bool.eq_false_iff.mpr λq=> ?_;have e:C=tp:=Value.ref.inj (beq_iff_eq.mp q);subst e;have z:=k.it;have z':(if ((PySem.W.clsIn K C).isSome&&PySem.W.typeIn K 3#C==1#(.type "type"))=true then PySem.W.subIn K 3#C 3#C else none)=1#true:=z
  by_cases hb:((PySem.W.clsIn K C).isSome&&PySem.W.typeIn K 3#C==1#(.type "type"))=true
  ·have h1:(PySem.W.clsIn K C).isSome=true:=by
    simp only[aag] at hb;exact hb.1
   let⟨cd,hcd⟩:=aaV.mp h1;unfold PySem.W.clsIn at hcd;split at hcd
   ·rename_i ho;have:=X _ _ ho;rw[htp] at this;cases this
   ·cases hcd
  ·rw[if_neg hb] at z';cases z'
 ca:=λ{_ _ _ _ _ s} X z902 q=>by
  let⟨o,h1,h2⟩:=z902;let⟨h,g,d,t,os⟩:=s;exact DY X k h1 h2 q
def E9 (K:8#4):2#V->Hp->VK->Prop:=λxs H Q=>∃ea C dx c cv b,xs=[3#ea,c]/\H ea=1#(.ext (dj ea C dx))/\ExcCls K C/\((∃B,c= 3#B/\cv= 3#B)∨∃n,c= .ty n/\cv= .type n)/\PySem.W.kitOne K 3#C cv=1#b/\Q (.bl b) H
theorem wa {X:Cx}:au X (.builtin "isinstance") (E9 X.K):=by
 intro pins s σ H xs us Q I r h;let⟨ea,C,dx,c,cv,b,rfl,he,k,rc,kb,q⟩:=h
 obtain⟨u1,u2,rfl,r1,r2⟩:∃u1 u2,us=[u1,u2]/\RelV 3#ea u1/\RelV c u2:=by
  cases r with
  |cons p1 p2=>
   cases p2 with
   |cons p3 p4=>
    cases p4;exact⟨_,_,rfl,p1,p3⟩
 cases r1
 have e2:u2=cv:=by
  rcases rc with⟨B,rfl,rfl⟩|⟨n,rfl,rfl⟩
  ·exact r2
  ·exact r2
 subst e2;let⟨⟨o,vs,h1,h2,_⟩,_⟩:=I.ah ea _ he;exact aaH (rl k) I.bT ⟨o,h1,h2⟩ kb 8#28 λtk=>⟨.bl b,H,I.tok tk,rfl,q⟩
structure Mv (N:Addr->Prop) (H H':Hp):Prop where
 tup:∀b xs,H b=1#(.tup xs)->H' b=1#(.tup xs)
 lst:∀b xs,N b->H b=1#7#xs->H' b=1#7#xs
section
variable {N M:Addr->Prop} {H H' H2:Hp} {a:Addr} {xs:2#V}
end
def MN (K:8#4):2#V->Hp->VK->Prop:=λxs H Q=>∃p ys,xs=[3#p]/\((bU K H p ys/\∀l,H l=none->Q 3#l (upd H l (.tup ys)))∨(cU K H p ys/\Q 3#p H))
theorem Aw {X:Cx}:au X (.type "tuple") (MN X.K):=p8
def MU (K:8#4):2#V->Hp->VK->Prop:=λxs H Q=>∃p ys,xs=[3#p]/\(bU K H p ys∨cU K H p ys)/\∀l,H l=none->Q 3#l (upd H l 7#ys)
theorem AO {X:Cx}:au X (.type "list") (MU X.K):=qI
section
variable {N:Addr->Prop} {K:8#4} {a:Addr} {xs:2#V} {σ:St} {H:Hp}
end
section
variable {prog:Program} {w:World} {A:Around} {E:8#2} {s:9#2}
theorem zE {l:Addr} {k:Nat} {xs:Array Value} {x:Value} {Q:8#2} (gi:s.heap.IsTupleIter it l k) (gl:s.heap.IsTuple l xs) (gx:xs[k]?=1#x)
  (q:∀h1,h1.IsTupleIter it l (k+1)->Heap.SameBut it s.heap h1->Q x {s with heap:=h1}):wpAny 9#1 A (Builtin.SmallTypes.nextOf 3#it) Q E s:=by
 let⟨oi,goi,gci,gdi⟩:=id gi;let⟨ol,gol,_,nl,gdl⟩:=gl;unfold Builtin.SmallTypes.nextOf;refine aaa (aaX (name:=Str.ofString "__next__") gi.typeIs abE (abc abE gi.typeIs F.entry_tuple_iterator_next ?_ (F.args_tuple_iterator_next_1 _)));show wpAny _ _ (field 3#it 0>>=_) _ _ s;refine aaa (aaD goi gdi (x:= 3#l) rfl ?_);show wpAny _ _ (if (Value.ref l==Value.none)=true then _ else _) _ _ s;rw[if_neg (show¬((Value.ref l==Value.none)=true) from aaF)];show wpAny _ _ (field 3#it 1>>=_) _ _ s;refine aaa (aaD goi gdi (x:= .int k 0) rfl ?_);show wpAny _ _ (seqItems? 3#l>>=_) _ _ s;refine aaa (abf gol gdl ?_);simp only[acj,gx];refine aaa (abI goi gdi 8#7 (aaf ⟨x,rfl,aaf (q _ ?_ (ab6 ..))⟩));refine⟨_,abo _ goi (abC (aba gdi _)),(acZ ..).trans gci, ?_⟩;rw[aba gdi];simp[rawInt]
theorem Em {l:Addr} {k:Nat} {xs:Array Value} {Q:8#2} (hh:A.handled=none) (gi:s.heap.IsTupleIter it l k) (gl:s.heap.IsTuple l xs) (gx:xs[k]?=none)
  (q:∀h1 e,Heap.ExtBut it s.heap h1->(∃o,h1.get? e=1#o/\o.cls= .type "StopIteration")->E 3#e {s with heap:=h1}):wpAny 9#1 A (Builtin.SmallTypes.nextOf 3#it) Q E s:=by
 let⟨oi,goi,gci,gdi⟩:=id gi;let⟨ol,gol,_,nl,gdl⟩:=gl;unfold Builtin.SmallTypes.nextOf;refine aaa (aaX (name:=Str.ofString "__next__") gi.typeIs abE (abc abE gi.typeIs F.entry_tuple_iterator_next ?_ (F.args_tuple_iterator_next_1 _)));show wpAny _ _ (field 3#it 0>>=_) _ _ s;refine aaa (aaD goi gdi (x:= 3#l) rfl ?_);show wpAny _ _ (if (Value.ref l==Value.none)=true then _ else _) _ _ s;rw[if_neg (show¬((Value.ref l==Value.none)=true) from aaF)];show wpAny _ _ (field 3#it 1>>=_) _ _ s;refine aaa (aaD goi gdi (x:= .int k 0) rfl ?_);show wpAny _ _ (seqItems? 3#l>>=_) _ _ s;refine aaa (abf gol gdl ?_);simp only[acj,gx];refine aaa (acL (aaa (abI goi gdi 8#7 ?_)));show wpAny _ _ (newExc (.type "StopIteration") []>>=_) _ _ _;refine aaa ?_;simp only[newExc,newTuple];refine aaa (aaK ?_ (by size_fits));refine aaa (m:=firstArgMember _ _) (wpAny_of_eq (a:=Value.none) (by first|rfl|(simp only[firstArgMember];rfl)) ?_);refine aaK ?_ (by size_fits);simp only[raiseNew]
 refine aaa (wpAny_handled ?_);first|rw[show A.in1.handled=none from hh]|rw[hh]
 refine aaa (aaf (wpAny_throw ?_));exact q _ _ (((ab6 ..).extBut.push _).push _) ⟨_,aaj _ rfl,rfl⟩
end
def eh (b:Bool) (h:Heap) (it a:Addr) (i:Nat):Prop:=cond b (h.IsListIter it a i) (h.IsTupleIter it a i)
def cP (b:Bool) (h:Heap) (a:Addr) (xs:Array Value):Prop:=cond b (h.IsList a xs) (h.IsTuple a xs)
def fU (b:Bool) (K:8#4) (H:Hp) (a:Addr) (xs:2#V):Prop:=cond b (bU K H a xs) (cU K H a xs)
theorem eh.at {b:Bool} {h h1:Heap} {a:Addr} {i:Nat} (x:eh b h it a i) (k:∀o,h.get? it=1#o->h1.get? it=1#o):eh b h1 it a i:=by
 cases b
 ·let⟨o,h0,r⟩:=(show h.IsTupleIter it a i from x);exact⟨o,k o h0,r⟩
 ·let⟨o,h0,r⟩:=(show h.IsListIter it a i from x);exact⟨o,k o h0,r⟩
theorem eh.live {b:Bool} {h:Heap} {a:Addr} {i:Nat} (x:eh b h it a i):∃o,h.get? it=1#o/\∀v,o.data≠ .cell v:=by
 cases b
 ·let⟨o,h0,_,d⟩:=(show h.IsTupleIter it a i from x);exact⟨o,h0,λv z=>by rw[d] at z;cases z⟩
 ·let⟨o,h0,_,d⟩:=(show h.IsListIter it a i from x);exact⟨o,h0,λv z=>by rw[d] at z;cases z⟩
theorem cP.at {b:Bool} {h h1:Heap} {a:Addr} {xs:Array Value} (x:cP b h a xs) (k:∀o,h.get? a=1#o->h1.get? a=1#o):cP b h1 a xs:=by
 cases b
 ·let⟨o,h0,r⟩:=(show h.IsTuple a xs from x);exact⟨o,k o h0,r⟩
 ·let⟨o,h0,r⟩:=(show h.IsList a xs from x);exact⟨o,k o h0,r⟩
theorem jA {b:Bool} {a:Addr} {i:Nat} {xs:Array Value} (hi:eh b h it a i) (p:cP b h a xs):a≠it:=λz=>by
 cases b
 ·let⟨o,e1,e2,_⟩:=(show h.IsTuple a xs from p);let⟨o',e3,e4,_⟩:=(show h.IsTupleIter it a i from hi);rw[z,e3] at e1;cases e1;rw[e2] at e4;exact absurd e4 9#7
 ·let⟨o,e1,e2,_⟩:=(show h.IsList a xs from p);let⟨o',e3,e4,_⟩:=(show h.IsListIter it a i from hi);rw[z,e3] at e1;cases e1;rw[e2] at e4;exact absurd e4 9#7
theorem hU {w:World} {A:Around} (b:Bool) (hh:A.handled=none) (it l:Addr) (ne:l≠it) (xs:Array Value):
  Draws prog w A it [it,l] xs.size (λi v=>xs[i]?=1#v) (λi h=>eh b h it l i/\cP b h l xs):=by
 cases b
 ·exact⟨λ_ _ st=>let ⟨o,h0,_⟩:=st.1.live;⟨o,h0⟩,λ_ _ _ st hk=>⟨st.1.at λo e=>hk it 8#7 o e,st.2.at λo e=>hk l 8#7 o e⟩,
   λi s Q E hi st hQ=>zE st.1 st.2 (x:=xs[i]) (by simp[hi]) λh1 a1 a2=>hQ _ h1 s.toks (by simp[hi]) ⟨a1,st.2.at λo e=>a2.extBut _ _ ne e⟩ a2,λs Q E st hE=>Em hh st.1 st.2 8#7 hE⟩
 ·exact Draws.list hh it l ne xs
theorem AN {w:World} {A:Around} {E:8#2} {s:9#2} {b:Bool} {l:Addr} {xs:Array Value} {Q:8#2} (hl:cP b s.heap l xs)
  (q:∀h1,eh b h1 s.heap.objs.size l 0->(∀c o,s.heap.get? c=1#o->h1.get? c=1#o)->h1.objs.size=s.heap.objs.size+1->Q 3#s.heap.objs.size {s with heap:=h1}):wpAny 9#1 A (pyIter 3#l) Q E s:=by
 cases b
 ·exact acf hl (q _ ⟨_,aaj _ rfl,rfl,rfl⟩ (λc o e=>aae _ e) (aaO ..))
 ·exact acn hl (q _ ⟨_,aaj _ rfl,rfl,rfl⟩ (λc o e=>aae _ e) (aaO ..))
section
variable {X:Cx} {pins:8#5} {σ:St} {H:Hp} {s:9#2} {a:Addr} {xs ys:2#V} {b:Bool}
theorem aM (I:8#1) (h:fU b X.K H a xs):∃its:2#Value,Vals xs its/\cP b s.heap a its.toArray/\0#xs<=sizeLine:=by
 cases b
 ·exact I.tuple h
 ·let⟨its,r,p,z⟩:=I.list h;exact⟨its,r,p.isList,z⟩
theorem uZ (I:8#1) (h:fU b X.K H a xs) (h':fU b X.K H a ys):xs=ys:=by
 cases b
 ·exact I.iB h h'
 ·exact I.jt h h'
theorem kP {h':Heap} {t':Nat} {ch:2#Addr} (I:8#1) (hf:∀b∈ch,cB X pins H b) (k:∀b o,b∉ch->s.heap.get? b=1#o->h'.get? b=1#o):Inv X pins σ H {s with heap:=h',toks:=t'}:=by
 have nit:∀b u,H b=1#u->b∉ch:=λb u e z=>by
  rw[(hf b z).1] at e;cases e
 refine I.step (g':=s.gens) (d':=s.drawn) (ch:=ch) (λb hb=>⟨(hf b hb).2.2.2.1,(hf b hb).2.1,(hf b hb).2.2.2.2.1,(hf b hb).2.2.2.2.2⟩) (λb o _ _ hc e _=>k b o hc e) (λb o _ _ hc e _=>⟨o.slots,k b o hc e⟩) (λ_ _ _ _ n=>n)
  (λb o hc e=>⟨o,k b o hc e⟩) (λ_ _ e=>e) (λ_ _ _ e=>e) (λb ps e=>⟨#[],by rw[e];simp⟩) (λm hm=> ?_) (λb u e=> ?_) I.bare
 ·let⟨o,es,ep,ho,r⟩:=hm;exact⟨o,es,ep,k _ o (λz=>(hf _ z).2.1 rfl) ho,r⟩
 ·refine(I.ah b u e).iE (λc v hc q=>k c v ?_ q) (λ_ q=>q) λ_ _ q=>q
  rcases hc with z|z
  ·rw[z];exact nit b u e
  ·exact nit c _ z
theorem yO {h':Heap} {t':Nat} {T:Addr} {ch:2#Addr} {x y:V} {u v:Value} (I:8#1) (hf:∀b∈ch,cB X pins H b) (k:∀b o,b∉ch->s.heap.get? b=1#o->h'.get? b=1#o) (hT:s.heap.objs.size<=T)
  (hp:h'.get? T=some {cls:= .type "tuple",data:= .seq #[u,v]}) (rx:RelV x u) (ry:RelV y v):Inv X pins σ (upd H T (.tup [x,y])) {s with heap:=h',toks:=t'}:=by
 have f:=I.mf hT (I.ah.fresh hT);exact kU (kP (t':=t') I hf k) f.1 (abd (aaQ I.sz hT)) f.2.1 f.2.2.2.2.1 f.2.2.2.2.2 ⟨by show 2<=sizeLine;decide,[u,v], .cons rx (.cons ry .nil),⟨_,hp,rfl,_,rfl⟩⟩
end
structure ZApart (z TI TO i1 i2:Addr) (f1 f2:2#Addr):Prop where
 TIz:TI≠z
 TOz:TO≠z
 i1z:i1≠z
 i2z:i2≠z
 TIO:TI≠TO
 TI1:TI≠i1
 TI2:TI≠i2
 TO1:TO≠i1
 TO2:TO≠i2
 i12:i1≠i2
 z1:z∉f1
 o1:TO∉f1
 j1:i2∉f1
 z2:z∉f2
 o2:TO∉f2
 j2:i1∉f2
section
variable {prog:Program} {w:World} {A:Around} {E:8#2} {s:9#2} {z TI TO i1 i2:Addr} {f1 f2:2#Addr} {n1 n2 k:Nat} {P1 P2:Nat->Value->Prop} {S1 S2:Nat->Heap->Prop} {a b:Value}
theorem bc {n i:Nat} {P:Nat->Value->Prop} {S:Nat->Heap->Prop} {c:Addr} (D:Draws prog w A it fp n P S) (st:S i h) (hs:Heap.ExtBut c h h1) (hc:c∉fp):S i h1:=
 D.frame _ _ _ st λd hd o e=>hs d o (λq=>hc (q▸hd)) e
theorem yZ {Q:8#2} (D1:Draws prog w A i1 f1 n1 P1 S1) (D2:Draws prog w A i2 f2 n2 P2 S2) (Z:ZApart z TI TO i1 i2 f1 f2) (gz:IsZip s.heap z TI TO .none) (gI:IsPair s.heap TI 3#i1 3#i2) (gO:IsPair s.heap TO a b)
  (s1:S1 k s.heap) (s2:S2 k s.heap) (k1:k<n1) (k2:k<n2)
  (q:∀x y h1 tk,P1 k x->P2 k y->IsZip h1 z TI TO (rawInt s.heap.objs.size)->IsPair h1 TO x y->S1 (k+1) h1->S2 (k+1) h1->IsPair h1 s.heap.objs.size x y->
   (∀c o,c≠z->c≠TO->c≠i1->c≠i2->s.heap.get? c=1#o->h1.get? c=1#o)->Q 3#s.heap.objs.size {s with heap:=h1,toks:=tk}):
  wpAny 9#1 A (Builtin.«zip.__next__» ⟨[3#z],[]⟩) (λfin t=>∃v,fin= .done (.ret v)/\Q v t) E s:=by
 show wpAny _ _ (field 3#z 2>>=_) _ _ _;refine aaa (aaD gz rfl (x:= .bool false) rfl ?_);show wpAny _ _ (field 3#z 3>>=_) _ _ _;refine aaa (aaD gz rfl (x:= 3#TI) rfl ?_);refine aaa (abf gI rfl ?_);show wpAny _ _ (Builtin.SmallTypes.ownedTupleIsFree 3#z>>=_) _ _ _;refine aaa ?_;unfold Builtin.SmallTypes.ownedTupleIsFree;refine aaa (aaD gz rfl (x:= .none) rfl (aaf ?_));simp only[ab5];refine aaa (acL ?_);refine aaa (aaD gz rfl (x:= 3#TO) rfl ?_);refine aaa (abt gz 8#7 λh1 gz1 e1=> ?_);replace gz1:IsZip h1 z TI TO .ellipsis:=gz1;replace e1:Heap.SameBut z s.heap h1:=e1;refine aaa ?_;simp only[ac6,ac9,ab7,acg];refine aaa (aaa (acu ?_));show wpAny _ _ (Builtin.SmallTypes.nextOf 3#i1>>=_) _ _ _;refine aaa (D1.item k _ _ _ k1 (bc D1 s1 e1.extBut Z.z1) λx h2 t2 px s12 e2=>aaf ?_);replace e2:Heap.SameBut i1 h1 h2:=e2;have gO2:IsPair h2 TO a b:=e2.extBut _ _ Z.TO1 (e1.extBut _ _ Z.TOz gO);refine aaa (abf (s:={s with heap:=h2,toks:=t2}) gO2 rfl ?_);refine aaa (acM (s:={s with heap:=h2,toks:=t2}) gO2 λh3 gO3 e3=> ?_);replace gO3:IsPair h3 TO x b:=gO3;replace e3:Heap.SameBut TO h2 h3:=e3;refine aaa (acS (aaf ?_));refine aaa (aaa (acu ?_));show wpAny _ _ (Builtin.SmallTypes.nextOf 3#i2>>=_) _ _ _;have s23:S2 k h3:=bc D2 (bc D2 (bc D2 s2 e1.extBut Z.z2) e2.extBut Z.j2) e3.extBut Z.o2;refine aaa (D2.item k _ _ _ k2 s23 λy h4 t4 py s24 e4=>aaf ?_);replace e4:Heap.SameBut i2 h3 h4:=e4;have gO4:IsPair h4 TO x b:=e4.extBut _ _ Z.TO2 gO3;refine aaa (abf (s:={s with heap:=h4,toks:=t4}) gO4 rfl ?_);refine aaa (acM (s:={s with heap:=h4,toks:=t4}) gO4 λh5 gO5 e5=> ?_);replace gO5:IsPair h5 TO x y:=gO5
 replace e5:Heap.SameBut TO h4 h5:=e5;refine aaa (acS (aaf (aaf ?_)));refine aaa (abf (s:={s with heap:=h5,toks:=t4}) gO5 rfl ?_);refine aaa (wpAny_newTuple ?_)
 have sz:h5.objs.size=s.heap.objs.size:=by rw[e5.1,e4.1,e3.1,e2.1,e1.1]
 have gz5:IsZip h5 z TI TO .ellipsis:=e5.extBut _ _ Z.TOz.symm (e4.extBut _ _ Z.i2z.symm (e3.extBut _ _ Z.TOz.symm (e2.extBut _ _ Z.i1z.symm gz1)));have k5:∀c o,c≠z->c≠TO->c≠i1->c≠i2->s.heap.get? c=1#o->h5.get? c=1#o:=λc o c1 c2 c3 c4 e=>e5.extBut _ _ c2 (e4.extBut _ _ c4 (e3.extBut _ _ c2 (e2.extBut _ _ c3 (e1.extBut _ _ c1 e))));have s15:S1 (k+1) h5:=bc D1 (bc D1 (bc D1 s12 e3.extBut Z.o1) e4.extBut Z.j1) e5.extBut Z.o1;have s25:S2 (k+1) h5:=bc D2 s24 e5.extBut Z.o2;have zlt:z<h5.objs.size:=aan gz5;show wpAny _ _ (Builtin.SmallTypes.ownedTupleHandOut 3#z 3#h5.objs.size>>=_) _ _ _;refine aaa ?_;unfold Builtin.SmallTypes.ownedTupleHandOut;have gz6:IsZip (h5.push {cls:= .type "tuple",data:= .seq #[x,y]}) z TI TO .ellipsis:=aae _ gz5;refine aaa (abt gz6 8#7 λh7 gz7 e7=> ?_);replace gz7:IsZip h7 z TI TO (rawInt h5.objs.size):=gz7;refine abt gz7 8#7 λh8 gz8 e8=> ?_;replace gz8:IsZip h8 z TI TO (rawInt h5.objs.size):=gz8;have up:∀c o,c≠z->h5.get? c=1#o->h8.get? c=1#o:=λc o c1 e=>e8.extBut _ _ c1 (e7.extBut _ _ c1 (aae _ e));have gT:IsPair h8 h5.objs.size x y:=e8.extBut _ _ (abJ zlt) (e7.extBut _ _ (abJ zlt) (aaj _ rfl));rw[sz] at gz8 gT;refine aaf ⟨_,rfl, ?_⟩;show Q 3#h5.objs.size _;rw[sz];exact q x y h8 t4 px py gz8 (up _ _ Z.TOz gO5) (D1.frame _ _ _ s15 λd hd o e=>up d o (λq=>Z.z1 (q▸hd)) e) (D2.frame _ _ _ s25 λd hd o e=>up d o (λq=>Z.z2 (q▸hd)) e) gT λc o c1 c2 c3 c4 e=>up c o c1 (k5 c o c1 c2 c3 c4 e)
theorem Ah {Q:Fin->Shared->Prop} (D1:Draws prog w A i1 f1 n1 P1 S1) (Z:ZApart z TI TO i1 i2 f1 f2) (gz:IsZip s.heap z TI TO .none) (gI:IsPair s.heap TI 3#i1 3#i2) (s1:S1 n1 s.heap)
  (q:∀h1 e,(∀c o,c≠z->c≠i1->s.heap.get? c=1#o->h1.get? c=1#o)->(∃o,h1.get? e=1#o/\o.cls= .type "StopIteration")->E 3#e {s with heap:=h1}):
  wpAny 9#1 A (Builtin.«zip.__next__» ⟨[3#z],[]⟩) Q E s:=by
 show wpAny _ _ (field 3#z 2>>=_) _ _ _;refine aaa (aaD gz rfl (x:= .bool false) rfl ?_);show wpAny _ _ (field 3#z 3>>=_) _ _ _;refine aaa (aaD gz rfl (x:= 3#TI) rfl ?_);refine aaa (abf gI rfl ?_);show wpAny _ _ (Builtin.SmallTypes.ownedTupleIsFree 3#z>>=_) _ _ _;refine aaa ?_;unfold Builtin.SmallTypes.ownedTupleIsFree;refine aaa (aaD gz rfl (x:= .none) rfl (aaf ?_));simp only[ab5];refine aaa (acL ?_);refine aaa (aaD gz rfl (x:= 3#TO) rfl ?_);refine aaa (abt gz 8#7 λh1 gz1 e1=> ?_);replace gz1:IsZip h1 z TI TO .ellipsis:=gz1;replace e1:Heap.SameBut z s.heap h1:=e1;refine aaa ?_;simp only[ac6,ac9,ab7,acg];refine aaa (aaa (acu ?_));show wpAny _ _ (Builtin.SmallTypes.nextOf 3#i1>>=_) _ _ _;refine aaa (D1.done _ _ _ (bc D1 s1 e1.extBut Z.z1) λh2 e e2 he=> ?_);let⟨oe,hoe,hce⟩:=he;replace e2:Heap.ExtBut i1 h1 h2:=e2;have gz2:IsZip h2 z TI TO .ellipsis:=e2 _ _ Z.i1z.symm gz1
 have ez:e≠z:=λq=>by
  subst q;replace hoe:h2.get? e=1#oe:=hoe;rw[gz2] at hoe;cases hoe;exact absurd hce (by show Value.type "zip"≠Value.type "StopIteration";decide)
 refine abt (s:={s with heap:=h2}) gz2 8#7 λh3 _ e3=>q h3 e (λc o c1 c2 x=>e3.extBut _ _ c1 (e2 _ _ c2 (e1.extBut _ _ c1 x))) ⟨oe,e3.extBut _ _ ez hoe,hce⟩
theorem wR {Q:Fin->Shared->Prop} (D1:Draws prog w A i1 f1 n1 P1 S1) (D2:Draws prog w A i2 f2 n2 P2 S2) (Z:ZApart z TI TO i1 i2 f1 f2) (gz:IsZip s.heap z TI TO .none) (gI:IsPair s.heap TI 3#i1 3#i2) (gO:IsPair s.heap TO a b) (s1:S1 k s.heap) (k1:k<n1) (s2:S2 n2 s.heap)
  (q:∀h1 tk e,(∀c o,c≠z->c≠TO->c≠i1->c≠i2->s.heap.get? c=1#o->h1.get? c=1#o)->(∃o,h1.get? e=1#o/\o.cls= .type "StopIteration")->E 3#e {s with heap:=h1,toks:=tk}):
  wpAny 9#1 A (Builtin.«zip.__next__» ⟨[3#z],[]⟩) Q E s:=by
 show wpAny _ _ (field 3#z 2>>=_) _ _ _;refine aaa (aaD gz rfl (x:= .bool false) rfl ?_);show wpAny _ _ (field 3#z 3>>=_) _ _ _;refine aaa (aaD gz rfl (x:= 3#TI) rfl ?_);refine aaa (abf gI rfl ?_);show wpAny _ _ (Builtin.SmallTypes.ownedTupleIsFree 3#z>>=_) _ _ _;refine aaa ?_;unfold Builtin.SmallTypes.ownedTupleIsFree;refine aaa (aaD gz rfl (x:= .none) rfl (aaf ?_));simp only[ab5];refine aaa (acL ?_);refine aaa (aaD gz rfl (x:= 3#TO) rfl ?_);refine aaa (abt gz 8#7 λh1 gz1 e1=> ?_);replace gz1:IsZip h1 z TI TO .ellipsis:=gz1;replace e1:Heap.SameBut z s.heap h1:=e1;refine aaa ?_;simp only[ac6,ac9,ab7,acg];refine aaa (aaa (acu ?_));show wpAny _ _ (Builtin.SmallTypes.nextOf 3#i1>>=_) _ _ _;refine aaa (D1.item k _ _ _ k1 (bc D1 s1 e1.extBut Z.z1) λx h2 t2 px s12 e2=>aaf ?_);replace e2:Heap.SameBut i1 h1 h2:=e2;have gO2:IsPair h2 TO a b:=e2.extBut _ _ Z.TO1 (e1.extBut _ _ Z.TOz gO);refine aaa (abf (s:={s with heap:=h2,toks:=t2}) gO2 rfl ?_);refine aaa (acM (s:={s with heap:=h2,toks:=t2}) gO2 λh3 gO3 e3=> ?_);replace e3:Heap.SameBut TO h2 h3:=e3;refine aaa (acS (aaf ?_));refine aaa (aaa (acu ?_));show wpAny _ _ (Builtin.SmallTypes.nextOf 3#i2>>=_) _ _ _;refine aaa (D2.done _ _ _ (bc D2 (bc D2 (bc D2 s2 e1.extBut Z.z2) e2.extBut Z.j2) e3.extBut Z.o2) λh4 e e4 he=> ?_);let⟨oe,hoe,hce⟩:=he;replace e4:Heap.ExtBut i2 h3 h4:=e4;have gz4:IsZip h4 z TI TO .ellipsis:=e4 _ _ Z.i2z.symm (e3.extBut _ _ Z.TOz.symm (e2.extBut _ _ Z.i1z.symm gz1))
 have ez:e≠z:=λq=>by
  subst q;replace hoe:h4.get? e=1#oe:=hoe;rw[gz4] at hoe;cases hoe;exact absurd hce (by show Value.type "zip"≠Value.type "StopIteration";decide)
 exact abt (s:={s with heap:=h4,toks:=t2}) gz4 8#7 λh5 _ e5=>q h5 t2 e (λc o c1 c2 c3 c4 x=>e5.extBut _ _ c1 (e4 _ _ c4 (e3.extBut _ _ c2 (e2.extBut _ _ c3 (e1.extBut _ _ c1 x))))) ⟨oe,e5.extBut _ _ ez hoe,hce⟩
end
noncomputable def itN (b:Bool):String:=cond b "list_iterator" "tuple_iterator"
def iK (b:Bool) (l:Addr):Obj:={cls:= .type (itN b),data:= .fields #[3#l, .int 0 0]}
theorem eh.of {b:Bool} {h:Heap} {l:Addr} (e:h.get? it=1#(iK b l)):eh b h it l 0:=by
 cases b
 ·exact⟨_,e,rfl,rfl⟩
 ·exact⟨_,e,rfl,rfl⟩
theorem cP.push {b:Bool} {h:Heap} {l:Addr} {xs:Array Value} (x:cP b h l xs) (o:Obj):cP b (h.push o) l xs:=x.at λ_ e=>aae _ e
theorem cP.lt {b:Bool} {h:Heap} {l:Addr} {xs:Array Value} (x:cP b h l xs):l<h.objs.size:=by
 cases b
 ·let⟨o,e,_⟩:=(show h.IsTuple l xs from x);exact aan e
 ·let⟨o,e,_⟩:=(show h.IsList l xs from x);exact aan e
section
variable {prog:Program} {w:World} {A:Around} {E:8#2} {s:9#2}
theorem pL {b:Bool} {l:Addr} {xs:Array Value} {Q:8#2} (hl:cP b s.heap l xs) (q:Q 3#s.heap.objs.size {s with heap:=s.heap.push (iK b l)}):wpAny 9#1 A (pyIter 3#l) Q E s:=by
 cases b
 ·exact acf hl q
 ·exact acn hl q
end
abbrev B2 (b1:Bool) (h:Heap) (l1:Addr):Heap:=h.push (iK b1 l1)
abbrev BW (b1 b2:Bool) (h:Heap) (l1 l2:Addr):Heap:=(B2 b1 h l1).push (iK b2 l2)
abbrev Cv (b1 b2:Bool) (h:Heap) (l1 l2:Addr):Heap:=(BW b1 b2 h l1 l2).push {cls:= .type "tuple",data:= .seq #[3#h.objs.size, 3#(B2 b1 h l1).objs.size]}
abbrev Cc (b1 b2:Bool) (h:Heap) (l1 l2:Addr):Heap:=(Cv b1 b2 h l1 l2).push {cls:= .type "tuple",data:= .seq #[.none, .none]}
abbrev uj (b1 b2:Bool) (h:Heap) (l1 l2:Addr):Heap:=(Cc b1 b2 h l1 l2).push {cls:= .type "zip",data:= .fields #[.none, .bool false, .bool false, 3#(BW b1 b2 h l1 l2).objs.size, 3#(Cv b1 b2 h l1 l2).objs.size]}
theorem yc (b1 b2:Bool) (l1 l2:Addr) (xs ys:Array Value):Meets (Builtin.«zip.__new__» ⟨[.type "zip", 3#l1, 3#l2],[]⟩)
  (λ_ R s=>cP b1 s.heap l1 xs/\cP b2 s.heap l2 ys/\R (.ok (.ret 3#(Cc b1 b2 s.heap l1 l2).objs.size)) {s with heap:=uj b1 b2 s.heap l1 l2}):=
 .of_wp λprog w A R s h=>by
  let⟨hp,g,d,tk,os⟩:=s;let⟨g1,g2,h⟩:=h;have hsub:=sub_zip;have k1:cP b1 (Shared.heap ⟨hp,g,d,tk,os⟩) l1 xs:=g1;have k2:cP b2 (Shared.heap ⟨hp.push (iK b1 l1),g,d,tk,os⟩) l2 ys:=cP.push g2 _
  wp_walk using pL k1,pL k2
  exact⟨_,rfl,h⟩
theorem Bq {w:World} {A:Around} {E:8#2} {s:9#2} {b1 b2:Bool} {xs ys:Array Value} {Q:8#2} (g1:cP b1 s.heap l1 xs) (g2:cP b2 s.heap l2 ys)
  (q:∀h1,IsZip h1 (s.heap.objs.size+4) (s.heap.objs.size+2) (s.heap.objs.size+3) .none->IsPair h1 (s.heap.objs.size+2) 3#s.heap.objs.size 3#9#8->IsPair h1 (s.heap.objs.size+3) .none .none->
   eh b1 h1 s.heap.objs.size l1 0->eh b2 h1 9#8 l2 0->(∀c o,s.heap.get? c=1#o->h1.get? c=1#o)->Q 3#(s.heap.objs.size+4) {s with heap:=h1}):
  wpAny 9#1 A (call (.type "zip") [3#l1, 3#l2]) Q E s:=by
 refine callType_new F.called_zip 9#7 (F.typeCall_zip_2 _ _) (F.newCall_zip_2 _ _) (λobj=>F.args_object_init_3 obj _ _) F.entry_zip_new (yc b1 b2 l1 l2 xs ys) ⟨g1,g2, ?_⟩;have z1:(B2 b1 s.heap l1).objs.size=s.heap.objs.size+1:=aaO ..
 have z2:(BW b1 b2 s.heap l1 l2).objs.size=s.heap.objs.size+2:=by rw[aaO,z1]
 have z3:(Cv b1 b2 s.heap l1 l2).objs.size=s.heap.objs.size+3:=by rw[aaO,z2]
 have z4:(Cc b1 b2 s.heap l1 l2).objs.size=s.heap.objs.size+4:=by rw[aaO,z3]
 have y5:(uj b1 b2 s.heap l1 l2).get? (Cc b1 b2 s.heap l1 l2).objs.size=1#_:=aaj _ rfl;have y4:(uj b1 b2 s.heap l1 l2).get? (Cv b1 b2 s.heap l1 l2).objs.size=1#_:=aae _ (aaj _ rfl);have y3:(uj b1 b2 s.heap l1 l2).get? (BW b1 b2 s.heap l1 l2).objs.size=1#_:=aae _ (aae _ (aaj _ rfl));have y2:(uj b1 b2 s.heap l1 l2).get? (B2 b1 s.heap l1).objs.size=1#_:=aae _ (aae _ (aae _ (aaj _ rfl)));have y1:(uj b1 b2 s.heap l1 l2).get? s.heap.objs.size=1#_:=aae _ (aae _ (aae _ (aae _ (aaj _ rfl))));show _/\_;rw[z2,z3,z4] at y5;rw[z1,z2] at y3;rw[z3] at y4;rw[z1] at y2;rw[z4];exact⟨⟨_,y5,rfl⟩,q _ y5 y3 y4 (eh.of y1) (eh.of y2) λc o x=>aae _ (aae _ (aae _ (aae _ (aae _ x))))⟩
def B4 (K:8#4) (b1:Bool) (l1:Addr) (b2:Bool) (l2:Addr):It:=
 ⟨λi H=>∃xs ys x y,fU b1 K H l1 xs/\fU b2 K H l2 ys/\xs[i]?=1#x/\ys[i]?=1#y,
 λi H x H'=>∃T u v,x= 3#T/\H T=none/\H'=upd H T (.tup [u,v])/\(∀xs,fU b1 K H l1 xs->xs[i]?=1#u)/\∀ys,fU b2 K H l2 ys->ys[i]?=1#v,
 λi H=>∃xs,fU b1 K H l1 xs/\(0#xs=i∨i<0#xs/\∃ys,fU b2 K H l2 ys/\0#ys=i)⟩
theorem AH {P:Program} {w:World} {K:8#4} {x1} (b1 b2:Bool) (l1 l2 z TI TO i1 i2:Addr) (Z:ZApart z TI TO i1 i2 [i1,l1] [i2,l2]):
  Turn P w K (.Tuple elts x1 pos) (B4 K b1 l1 b2 l2) [z,TI,TO,i1,i2] z (λi h=>IsZip h z TI TO .none/\IsPair h TI 3#i1 3#i2/\(∃a b,IsPair h TO a b)/\eh b1 h i1 l1 i/\eh b2 h i2 l2 i) where
 mem:=by simp
 obj:=λi h st c hc=>by
  let⟨g1,g2,⟨a,b,g3⟩,g4,g5⟩:=st;simp only[aap,abz,acR] at hc
  rcases hc with rfl|rfl|rfl|rfl|rfl
  ·exact⟨_,g1,λv q=>by cases q⟩
  ·exact⟨_,g2,λv q=>by cases q⟩
  ·exact⟨_,g3,λv q=>by cases q⟩
  ·exact g4.live
  ·exact g5.live
 keep:=λi h h' st k=>by
  let⟨g1,g2,⟨a,b,g3⟩,g4,g5⟩:=st;exact⟨k z 8#7 _ g1,k TI 8#7 _ g2,⟨a,b,k TO 8#7 _ g3⟩,g4.at λo q=>k i1 8#7 o q,g5.at λo q=>k i2 8#7 o q⟩
 item:=by
  intro X hP hw hK hc i pins s σ H E I hf st hg;subst hP hw hK;let⟨g1,g2,⟨a,b,g3⟩,g4,g5⟩:=st;let⟨xs,ys,x,y,hx,hy,ex,ey⟩:=hg;let⟨its,rv,p,_⟩:=aM I hx;let⟨jts,rw',p',_⟩:=aM I hy;let⟨u,hu,ru⟩:=rv.get ex;let⟨v,hv,rv'⟩:=rw'.get ey;have D1:=hU (prog:=X.prog) (w:=X.w) (A:=X.A.in1) b1 (I.ok.hd hc) i1 l1 (jA g4 p) its.toArray;have D2:=hU (prog:=X.prog) (w:=X.w) (A:=X.A.in1) b2 (I.ok.hd hc) i2 l2 (jA g5 p') jts.toArray
  have q1:i<its.toArray.size:=by
   have:=(aad.mp hu).1;simpa using this
  have q2:i<jts.toArray.size:=by
   have:=(aad.mp hv).1;simpa using this
  have hT:s.TypeIs 3#z "zip":=⟨_,g1,rfl⟩;unfold pyNext
  refine aaa (acv (aaX (name:=Str.ofString "__next__") hT acG (abc acG hT F.entry_zip_next
   (yZ D1 D2 Z g1 g2 g3 ⟨g4,p⟩ ⟨g5,p'⟩ q1 q2 λu' v' h1 tk pu pv z1 z2 z3 z4 z5 hk=>aaf ?_) (F.args_zip_next_1 _))))
  have eu:u'=u:=by
   have h0:its[i]?=1#u':=by simpa using pu
   rw[hu] at h0;exact(Option.some.inj h0).symm
  have ev:v'=v:=by
   have h0:jts[i]?=1#v':=by simpa using pv
   rw[hv] at h0;exact(Option.some.inj h0).symm
  subst eu ev
  have lt:∀c∈[z,TI,TO,i1,i2],c<s.heap.objs.size:=λc hc=>by
   simp only[aap,abz,acR] at hc
   rcases hc with rfl|rfl|rfl|rfl|rfl
   ·exact aan g1
   ·exact aan g2
   ·exact aan g3
   ·let⟨o,q,_⟩:=g4.live;exact aan q
   ·let⟨o,q,_⟩:=g5.live;exact aan q
  refine⟨_,rfl,wpAny_letOwnedTupleGo_zip (s:={s with heap:=h1,toks:=tk}) z1 λh2 y1 y2=> ?_⟩;replace y2:Heap.SameBut z h1 h2:=y2;have hT2:h2.get? s.heap.objs.size=some {cls:= .type "tuple",data:= .seq #[u',v']}:=(y2.2 _ (abJ (lt z 8#7))).trans z5;refine⟨3#s.heap.objs.size,upd H s.heap.objs.size (.tup [x,y]),yO (s:=s) (h':=h2) (t':=tk) I hf (λc o hc q=> ?_) (aai _) hT2 ru rv',rfl,⟨_,x,y,rfl,I.fresh,rfl,λzs hz=> ?_,λzs hz=> ?_⟩,⟨y1, ?_,⟨_,_,(y2.2 _ Z.TOz).trans z2⟩,z3.1.at λo q=>(y2.2 _ Z.i1z).trans q,z4.1.at λo q=>(y2.2 _ Z.i2z).trans q⟩,λc hc=> ?_⟩
  ·have c1:c≠z:=λq=>hc (by simp[q]);exact(y2.2 c c1).trans (hk c o c1 (λq=>hc (by simp[q])) (λq=>hc (by simp[q])) (λq=>hc (by simp[q])) q)
  ·rw[uZ I hz hx];exact ex
  ·rw[uZ I hz hy];exact ey
  ·exact(y2.2 _ Z.TIz).trans (hk _ _ Z.TIz Z.TIO Z.TI1 Z.TI2 g2)
  ·rw[ao (aax (lt c hc))];exact(hf c hc).1
 done:=by
  intro X hP hw hK hc i pins s σ H E I hf st hg;subst hP hw hK;let⟨g1,g2,⟨a,b,g3⟩,g4,g5⟩:=st;let⟨xs,hx,ex⟩:=hg;let⟨its,rv,p,_⟩:=aM I hx;have D1:=hU (prog:=X.prog) (w:=X.w) (A:=X.A.in1) b1 (I.ok.hd hc) i1 l1 (jA g4 p) its.toArray;have ln:=0#rv;have hT:s.TypeIs 3#z "zip":=⟨_,g1,rfl⟩;unfold pyNext;refine aaa (acv (aaX (name:=Str.ofString "__next__") hT acG (abc acG hT F.entry_zip_next ?_ (F.args_zip_next_1 _))))
  rcases ex with ex|⟨ex,ys,hy,ey⟩
  ·have en:i=its.toArray.size:=by
    simp;lia
   refine Ah D1 Z g1 g2 (by rw[←en];exact⟨g4,p⟩) λh1 e hk he=> ?_;let⟨oe,h0,h2⟩:=he;refine aaa (wpAny_isInstance (T:="StopIteration") (b:=true) ⟨oe,h0,h2⟩ isSubtype_stop ?_);exact aaf ⟨rfl,kP (t':=s.toks) I hf λc o hc q=>hk c o (λq=>hc (by simp[q])) (λq=>hc (by simp[q])) q⟩
  ·let⟨jts,rw',p',_⟩:=aM I hy;have D2:=hU (prog:=X.prog) (w:=X.w) (A:=X.A.in1) b2 (I.ok.hd hc) i2 l2 (jA g5 p') jts.toArray;have ln2:=0#rw'
   have en:i=jts.toArray.size:=by
    simp;lia
   refine wR D1 D2 Z g1 g2 g3 ⟨g4,p⟩ (by simp;lia) (by rw[←en];exact⟨g5,p'⟩) λh1 tk e hk he=> ?_;let⟨oe,h0,h2⟩:=he;refine aaa (wpAny_isInstance (T:="StopIteration") (b:=true) ⟨oe,h0,h2⟩ isSubtype_stop ?_);exact aaf ⟨rfl,kP (t':=tk) I hf λc o hc q=>hk c o (λq=>hc (by simp[q])) (λq=>hc (by simp[q])) (λq=>hc (by simp[q])) (λq=>hc (by simp[q])) q⟩
 self:=λ_ _ _ _ _ st h=>wpAny_pyIter_zip st.1 h
theorem zap {n l1 l2:Nat} (h1:l1<n) (h2:l2<n):ZApart (n+4) (n+2) (n+3) n (n+1) [n,l1] [n+1,l2]:=by
 constructor
 all_goals
  intro q
  try simp only[aap,abz,acR] at q
  have q':_:=q
  first|(exact absurd q (by show¬(_:Nat)=_;lia))|(rcases q with q|q<;>exact absurd q (by show¬(_:Nat)=_;lia))
def MF (K:8#4) (ta:TA):TI:=λσ H R=>ta σ H λvs H1=>∃a c b1 b2,vs=[3#a, 3#c]/\(∃xs,fU b1 K H1 a xs)/\(∃ys,fU b2 K H1 c ys)/\R (B4 K b1 a b2 c) H1
theorem HJ {X:Cx} {a c:Expr} {x1} {tp:Pos} {ta:TA} {p:Pos} (hg:Gl X "zip") (hm:X.mg "zip"=none) (ha:PA X [a,c] ta) (hs:starEach [a,c] X.env=[(false,eval a X.env),(false,eval c X.env)]:=by rfl) (hs2:starEach [c] X.env=[(false,eval c X.env)]:=by rfl):
  PI X (.Tuple elts x1 tp) (.Call (.Name "zip" p) [a,c] [] pos) (MF X.K ta):=by
 intro pins s σ H R I h;refine Call_ (iW I hg hm PyProof.Rows.Boot.«zip» (abZ (ay (ha pos pins s σ H _ I h) λus s1 z902=> ?_) (by rw[hs,hs2]) (by rw[hs2];rfl)));let⟨vs,H1,I1,r1,q1⟩:=z902;let⟨l1,l2,b1,b2,e,⟨xs,hx⟩,⟨ys,hy⟩,q⟩:=q1;subst e
 cases r1 with
 |cons r rr=>
  cases rr with
  |cons r' rr=>
   cases rr;cases r;cases r';let⟨its,rv,g1,_⟩:=aM I1 hx;let⟨jts,rw',g2,_⟩:=aM I1 hy;have lt1:=g1.lt;have lt2:=g2.lt;refine Bq g1 g2 λh1 z1 z2 z3 z4 z5 hk=>wpAny_pyIter_zip (s:={s1 with heap:=h1}) z1 ?_;refine⟨s1.heap.objs.size+4,[s1.heap.objs.size+4,s1.heap.objs.size+2,s1.heap.objs.size+3,s1.heap.objs.size,s1.heap.objs.size+1],_,_,H1,rfl,I1.kept (t':=s1.toks) hk,AH b1 b2 l1 l2 _ _ _ _ _ (zap lt1 lt2),⟨z1,z2,⟨_,_,z3⟩,z4,z5⟩,λb hb=> ?_,q⟩
   have le:s1.heap.objs.size<=b:=by
    simp only[aap,abz,acR] at hb
    rcases hb with rfl|rfl|rfl|rfl|rfl
    ·exact acy _ _
    ·exact acy _ _
    ·exact acy _ _
    ·exact aai _
    ·exact acy _ _
   exact I1.mf le (I1.ah.fresh le)
def BQ (K:8#4):2#V->Hp->VK->Prop:=λxs H Q=>∃x t n b,xs=[x, .ty n]/\eW K H x t/\PySem.W.kitOne K t (.type n)=1#b/\Q (.bl b) H
theorem yb {X:Cx}:au X (.builtin "isinstance") (BQ X.K):=by
 intro pins s σ H xs us Q I r h;let⟨x,t,n,b,rfl,ty,kb,q⟩:=h;let⟨u,v,rfl,r1,r2⟩:=Vals.two r;cases r2;exact pb I r1 ty kb λtk=>⟨.bl b,H,I.tok tk,rfl,q⟩
def LU (K:8#4):2#V->Hp->VK->Prop:=λxs H Q=>∃p,∃ys:2#Bool,xs=[3#p]/\bU K H p (ys.map V.bl)/\Q (.bl (ys.all id)) H
theorem range_all (ys:2#Bool):(List.range 0#ys).all (λi=>(ys[i]?).getD true)=ys.all id:=by
 rw[aaZ,aa4,aa4];constructor
 ·intro h y hy;let⟨i,hi,e⟩:=List.getElem_of_mem hy;have:=h i (abn.mpr hi);rw[aac hi,e] at this;exact this
 ·intro h i hi;have hi':=abn.mp hi;rw[aac hi'];exact h _ (List.getElem_mem hi')
theorem zY {X:Cx} (hc:X.calm=true):au X (.builtin "all") (LU X.K):=by
 intro pins s σ H xs us Q I r h;let⟨p,ys,rfl,hp,q⟩:=h;let⟨u,rfl,r1⟩:=Vals.one r;cases r1;let⟨its,rv,g,hz⟩:=I.list hp
 have lt:p<s.heap.objs.size:=by
  let⟨o,n,e,_⟩:=g;exact aan e
 have hl:0#its=0#ys:=by rw[←0#rv,aay]
 have hsz:its.toArray.size=0#ys:=by rw[aal,hl]
 refine call_all_walk (acn g.isList ⟨s.heap.objs.size,[s.heap.objs.size,p],[s.heap.objs.size],its.toArray.size,_,_,λi=>(ys[i]?).getD true,rfl,Walks.list (A:=X.A.in1) (I.ok.hd hc) s.heap.objs.size p (aax lt) its.toArray,
  ⟨⟨_,aaj _ rfl,rfl,rfl⟩,g.isList.push _⟩,λi v s1 Q1 E1 hv hq=> ?_,λh' tk hk=> ?_⟩)
 ·have hv':its[i]?=1#v:=by simpa using hv
  have hi:i<0#ys:=by
   have:=(aad.mp hv').1;lia
  let⟨w',hw,rw'⟩:=rv.get (i:=i) (x:=V.bl ys[i]) (by rw[aaR,aac hi];rfl);rw[hv'] at hw;cases hw;cases rw';replace hq:Q1 ((ys[i]?).getD true) s1:=hq;rw[aac hi] at hq;exact abG hq
 ·refine⟨.bl (ys.all id),H,I.kept (t':=tk) λb o e=>hk b o (λz=> ?_) (aae _ e), ?_,q⟩
  ·rw[aaM.mp z] at e;exact absurd (aan e) (aa5 _)
  ·show Value.bool _=_;rw[hsz,range_all]
section
variable {prog:Program} {w:World} {A:Around} {E:8#2} {s:9#2}
theorem qM {xs:Array (Int×Tok)} {v:Value} (hn:0<xs.size) (h:(intItems xs)[argBest (λi j=>decide (numAt xs i>numAt xs j)) (xs.size-1)]?=1#v):∃m t,v= .int m t/\(xs.toList.map (·.1)).max?=1#m:=by
 let⟨t,rfl⟩:=intItems_at h;let⟨h1,h2⟩:=argBest_gt (numAt xs) (xs.size-1);refine⟨_,t,rfl,List.max?_eq_some_iff.mpr ⟨?_,λb hb=> ?_⟩⟩
 ·rw[numAt_eq];exact PySem.getD_mem (by rw[aay,aa2];lia)
 ·let⟨j,hj,rfl⟩:=mem_getD hb;rw[←numAt_eq];exact h2 j (by simp at hj;lia)
theorem args_max3 (a b c:Value):argsOk "max" ⟨[a,b,c],[]⟩:=by unfold argsOk;kernel_rfl
theorem Mh {a b c:Int} {t u v:Tok} {Q:8#2} (hh:A.handled=none) (h:∀m t h' tk,[a,b,c].max?=1#m->(∀c o,s.heap.get? c=1#o->h'.get? c=1#o)->Q (.int m t) {s with heap:=h',toks:=tk}):
  wpAny 9#1 A (call (.builtin "max") [.int a t, .int b u, .int c v]) Q E s:=by
 have hn:(toString "max"++toString ".loop":String)="max.loop":=by decide
 have hT:(s.heap.push {cls:= .type "tuple",data:= .seq #[.int a t, .int b u, .int c v]}).IsTuple s.heap.objs.size (intItems #[(a,t),(b,u),(c,v)]):=⟨_,aaj _ rfl,rfl,0,by simp[intItems]⟩;have z1:(s.heap.push {cls:= .type "tuple",data:= .seq #[.int a t, .int b u, .int c v]}).objs.size=s.heap.objs.size+1:=aaO ..;refine call_function_tree F.kind_max F.plain_max F.entry_max (args_max3 _ _ _) ?_;show wpAny _ A.in1 (Builtin.Builtins.bindParams "max" ["key","default"] 0 ⟨[],[]⟩>>=λx=>_) _ _ s;refine aaa (wpAny_of_eq (show Builtin.Builtins.bindParams "max" ["key","default"] 0 ⟨[],[]⟩=pure [none,none] from rfl) ?_);show wpAny _ A.in1 (newTuple [.int a t, .int b u, .int c v]>>=λx=>_) _ _ s;refine aaa (aaK (aaa (acf hT (aaa (aaK ?_)))));rw[hn]
 have z2:((s.heap.push {cls:= .type "tuple",data:= .seq #[.int a t, .int b u, .int c v]}).push {cls:= .type "tuple_iterator",data:= .fields #[3#s.heap.objs.size, .int 0 0]}).objs.size=s.heap.objs.size+2:=by rw[aaO,z1]
 generalize eA:(s.heap.push {cls:= .type "tuple",data:= .seq #[.int a t, .int b u, .int c v]})=hA at*;have W:=PySem.Walks.tuple (prog:=prog) (w:=w) (A:=A.in1) hh hA.objs.size s.heap.objs.size (by rw[z1];exact aax (ab0 _)) (intItems #[(a,t),(b,u),(c,v)]);have hst:_:=And.intro (show ((hA.push {cls:= .type "tuple_iterator",data:= .fields #[3#s.heap.objs.size, .int 0 0]}).IsTupleIter hA.objs.size s.heap.objs.size 0) from ⟨_,aaj _ rfl,rfl,rfl⟩) (hT.push {cls:= .type "tuple_iterator",data:= .fields #[3#s.heap.objs.size, .int 0 0]});refine aaf ⟨plainId_quiet F.plain_max_loop _,codeAny_max_loop_first W _ (CmpOf.ints_gt (numAt #[(a,t),(b,u),(c,v)]) (λ_ _=>intItems_at)) _ ?_ (by simp[intItems]) (W.frame _ _ _ hst λd _ o e=>aae _ e) (aaj _ rfl) λx h' tk hP hk=> ?_⟩
 ·show¬_∈[_,_];simp only[aap,abz,acR];show¬((Heap.push _ _).objs.size=_∨(Heap.push _ _).objs.size=_);rw[z2,z1];lia
 ·let⟨m,r,rfl,e⟩:=qM (xs:=#[(a,t),(b,u),(c,v)]) 8#7 (by simpa[intItems] using hP);refine h m r h' tk e λd o q=> ?_;have lt:=aan q
  have l1:d≠hA.objs.size:=by rw[z1];exact aax (ack lt)
  have l2:=z2▸(show d≠s.heap.objs.size+2 from aax (ack (ack lt)))
  have q2:hA.get? d=1#o:=by rw[←eA];exact aae _ q
  exact hk d o (λhm=>l1 (aaM.mp hm)) l2 (aae _ (aae _ q2))
section
variable {R:Result->Shared->Prop} {I:Addr} {fp wr:2#Addr} {n:Nat} {P:Nat->Value->Prop} {St:Nat->Heap->Prop}
end
end
variable {X:Cx} {pins:8#5} {σ:St} {H:Hp}
section
variable {X:Cx}
theorem yJ (hc:X.calm=true):au X (.builtin "max") (λxs H Q=>∃i j k,xs=[6#i, 6#j, 6#k]/\Q 6#(max i (max j k)) H):=by
 intro pins s σ H xs us Q I r h;let⟨i,j,k,rfl,q⟩:=h
 cases r with
 |cons a r=>cases r with
  |cons b r=>cases r with
   |cons c r=>
    cases r;let⟨t,rfl⟩:=a;let⟨t',rfl⟩:=b;let⟨t'',rfl⟩:=c;refine Mh (I.ok.hd hc) λm z h' tk e kp=>⟨6#(max i (max j k)),H,I.kept kp,⟨z, ?_⟩,q⟩;rw[show m=max i (max j k) from Option.some.inj (e.symm.trans (by simp[Int.max_assoc]))]
theorem Ez {σ:St} {H:Hp} {s:9#2} {p:Addr} {ns:2#Int} (I:8#1) (hp:bU X.K H p (ns.map V.int)):∃xs,s.heap.IsList p (intItems xs)/\ns=xs.toList.map (·.1):=by
 let⟨its,rv,g,hz⟩:=I.list hp;have hi:=intsAre_of rv;let⟨xs,hx⟩:=hi.allInts.items;refine⟨xs,hx▸g.isList, ?_⟩;rw[←nums_intItems,←hx];exact(show numsOf its.toArray.toList=ns from hi.numsOf).symm
theorem yh (hc:X.calm=true):au X (.builtin "max") (λxs H Q=>∃p,∃ns:2#Int,∃m,xs=[3#p]/\bU X.K H p (ns.map V.int)/\ns.max?=1#m/\Q 6#m H):=by
 intro pins s σ H xs us Q I r h;let⟨p,ns,m,rfl,hp,hm,q⟩:=h;let⟨u,rfl,r1⟩:=Vals.one r;cases r1;let⟨xs,hl,rfl⟩:=Ez I hp
 have h0:0<xs.size:=Nat.pos_of_ne_zero λz=>by
  have:xs.toList=[]:=abg.mp (by simpa using z);rw[this] at hm;cases hm
 refine max_intList (I.ok.hd hc) hl h0 λv h' tk hv hk=> ?_;let⟨m',t,rfl,e⟩:=qM h0 hv;rw[hm] at e;cases e;exact⟨6#m,H,I.kept (t':=tk) hk,⟨t,rfl⟩,q⟩
end
end L2.L3
namespace L2
open PySem PySem.Spec PyProof.Rows
section
variable {κ:Type} [DecidableEq κ]
noncomputable def fS (kvs:2#(κ×V)) (k:κ):5#V:=(kvs.find? λkv=>decide (kv.1=k)).map (·.2)
noncomputable def putK (kvs:2#(κ×V)) (k:κ) (v:V):2#(κ×V):=
 if (kvs.any λkv=>decide (kv.1=k))=true then kvs.map (λkv=>if kv.1=k then (kv.1,v) else kv) else kvs++[(k,v)]
theorem gJ {p:κ×V} {r:2#(κ×V)} {k:κ} (e:p.1=k):fS (p::r) k=1#p.2:=by simp[fS,abi,e]
theorem gW {p:κ×V} {r:2#(κ×V)} {k:κ} (e:¬p.1=k):fS (p::r) k=fS r k:=by simp[fS,abi,e]
theorem sS (k:κ):∀kvs:2#(κ×V),(kvs.any λkv=>decide (kv.1=k))=(fS kvs k).isSome
 |[]=>rfl
 |p::r=>by
  rw[ab3]
  by_cases e:p.1=k
  ·simp only[gJ e,abe e,Bool.true_or,Option.isSome_some]
  ·rw[gW e,aaB e,Bool.false_or];exact sS k r
theorem fk (kvs:2#(κ×V)) (k:κ) (v:V):0#(putK kvs k v)<=0#kvs+1:=by
 unfold putK;split
 ·rw[aay];lia
 ·rw[aaT,aas,ada];lia
theorem dX.fH {o:5#V} {u:5#Value} (r:dX o u):o.isSome=u.isSome:=by
 cases o with
 |none=>cases u with
  |none=>rfl
  |some _=>exact(show False from r).elim
 |some _=>cases u with
  |none=>exact(show False from r).elim
  |some _=>rfl
theorem dX.getD {o:5#V} {u:5#Value} {d:V} {d':Value} (r:dX o u) (rd:RelV d d'):RelV (o.getD d) (u.getD d'):=by
 cases o with
 |none=>cases u with
  |none=>exact rd
  |some _=>exact(show False from r).elim
 |some _=>cases u with
  |none=>exact(show False from r).elim
  |some _=>exact r
theorem KV.val {kvs:2#(κ×V)} {vs:2#(κ×Value)} (r:KV kvs vs) (k:κ):dX (fS kvs k) (valueAt vs k):=by
 unfold KV at r
 induction r with
 |nil=>exact True.intro
 | @cons p q ps qs h t ih=>
  let⟨h1,h2⟩:=h
  by_cases e:p.1=k
  ·have e':q.1=k:=h1.symm.trans e
   have b:valueAt (q::qs) k=1#q.2:=by simp[valueAt,abi,e']
   rw[gJ e,b];exact h2
  ·have e':¬q.1=k:=λz=>e (h1.trans z)
   have b:valueAt (q::qs) k=valueAt qs k:=by simp[valueAt,abi,e']
   rw[gW e,b];exact ih
theorem KV.any {kvs:2#(κ×V)} {vs:2#(κ×Value)} (r:KV kvs vs) (k:κ):(kvs.any λkv=>decide (kv.1=k))=vs.any λkv=>decide (kv.1=k):=by
 unfold KV at r
 induction r with
 |nil=>rfl
 |cons h t ih=>rw[ab3,ab3,ih,h.1]
theorem KV.AX {kvs:2#(κ×V)} {vs:2#(κ×Value)} (r:KV kvs vs) (k:κ) {y:V} {u:Value} (ry:RelV y u):
  KV (kvs.map λkv=>if kv.1=k then (kv.1,y) else kv) (vs.map λkv=>if kv.1=k then (kv.1,u) else kv):=by
 unfold KV at r⊢
 induction r with
 |nil=>exact .nil
 | @cons p q ps qs h t ih=>
  rw[aav,aav];refine .cons ?_ ih;let⟨h1,h2⟩:=h
  by_cases e:p.1=k
  ·rw[if_pos e,if_pos (h1.symm.trans e)];exact⟨h1,ry⟩
  ·rw[if_neg e,if_neg (λz=>e (h1.trans z))];exact⟨h1,h2⟩
theorem KV.put {kvs:2#(κ×V)} {vs:2#(κ×Value)} (r:KV kvs vs) (k:κ) {y:V} {u:Value} (ry:RelV y u):KV (putK kvs k y) (stored vs k u):=by
 unfold putK stored;rw[r.any k]
 by_cases e:(vs.any λkv=>decide (kv.1=k))=true
 ·rw[if_pos e,if_pos e];exact r.AX k ry
 ·rw[if_neg e,if_neg e];exact Paired.snoc r ⟨rfl,ry⟩
theorem KV.length {kvs:2#(κ×V)} {vs:2#(κ×Value)} (r:KV kvs vs):0#kvs=0#vs:=abk r
end
theorem dP {P:Program} {w:World} {k:Key} {u:Value} (r:RelV (kV k) u):(aJ P w).is k u=true:=by
 cases k with
 |inl i=>let⟨t,e⟩:=(show∃t,u=Value.int i t from r);subst e;exact tD P w i t
 |inr x=>let⟨t,e⟩:=(show∃t,u=Value.str x t from r);subst e;exact tw P w x t
theorem oO {P:Program} {w:World}:∀{ks:2#Key} {us:8#36},Vals (ks.map kV) us->ItemsAre (aJ P w) ks us
 |[],_,r=>by rw[acd] at r;cases r;exact .nil
 |k::ks,_,r=>by
  rw[aav] at r
  cases r with
  |cons h t=>exact .cons (dP h) (oO t)
abbrev KT (H:Hp):2#(2#Key×V)->2#(2#Key×Addr×Value)->Prop:=Paired λp q=>p.1=q.1/\H q.2.1=1#(.tup (p.1.map kV))/\RelV p.2 q.2.2
theorem KT.val {H:Hp} {kvs:2#(2#Key×V)} {xs:2#(2#Key×Addr×Value)} (r:KT H kvs xs) (k:2#Key):dX (fS kvs k) ((atKey xs k).map (·.2)):=by
 induction r with
 |nil=>exact True.intro
 | @cons p q ps qs h t ih=>
  let⟨h1,_,h2⟩:=h
  by_cases e:p.1=k
  ·have e':q.1=k:=h1.symm.trans e
   have b:atKey (q::qs) k=1#q.2:=by simp[atKey,abi,e']
   rw[gJ e,b];exact h2
  ·have e':¬q.1=k:=λz=>e (h1.trans z)
   have b:atKey (q::qs) k=atKey qs k:=by simp[atKey,abi,e']
   rw[gW e,b];exact ih
theorem KT.AX {H:Hp} {kvs:2#(2#Key×V)} {xs:2#(2#Key×Addr×Value)} (r:KT H kvs xs) (k:2#Key) {y:V} {u:Value} (ry:RelV y u):
  KT H (kvs.map λkv=>if kv.1=k then (kv.1,y) else kv) (xs.map (putAt k u)):=by
 induction r with
 |nil=>exact .nil
 | @cons p q ps qs h t ih=>
  rw[aav,aav];refine .cons ?_ ih;let⟨h1,h2,h3⟩:=h;unfold putAt
  by_cases e:p.1=k
  ·rw[if_pos e,if_pos (h1.symm.trans e)];exact⟨h1,h2,ry⟩
  ·rw[if_neg e,if_neg (λz=>e (h1.trans z))];exact⟨h1,h2,h3⟩
theorem KT.put {H:Hp} {kvs:2#(2#Key×V)} {xs:2#(2#Key×Addr×Value)} (r:KT H kvs xs) (k:2#Key) {b:Addr} {y:V} {u:Value} (hb:H b=1#(.tup (k.map kV))) (ry:RelV y u):
  KT H (putK kvs k y) (storedH xs k b u):=by
 have e:(kvs.any λkv=>decide (kv.1=k))=(atKey xs k).isSome:=by
  rw[sS,(r.val k).fH,acm]
 unfold putK storedH;rw[e]
 by_cases q:(atKey xs k).isSome=true
 ·rw[if_pos q,if_pos q];exact r.AX k ry
 ·rw[if_neg q,if_neg q];exact Paired.snoc r ⟨rfl,hb,ry⟩
theorem KT.keeps {H H':Hp} {kvs:2#(2#Key×V)} {xs:2#(2#Key×Addr×Value)} (r:KT H kvs xs) (ht:∀b ys,H b=1#(.tup ys)->H' b=1#(.tup ys)):KT H' kvs xs:=
 Paired.wj r λ_ _ z=>⟨z.1,ht _ _ z.2.1,z.2.2⟩
section
variable {P:Program} {w:World} {H:Hp} {h:Heap} {a:Addr}
theorem BZ {u:HO} (ok:bE P w H h) (e:Rd H a u):aK P w H h a u:=e.ok ok
theorem eG {kvs:2#(Key×V)} (ok:bE P w H h) (e:Rd H a (.dK kvs)):0#kvs<=sizeLine/\(a==sysModules)=false/\∃vs,KV kvs vs/\h.DictOf (aJ P w) a vs:=
 show aK P w H h a (.dK kvs) from BZ ok e
theorem Cz {kvs:2#(Key×V)} (ok:bE P w H h) (e:H a=1#(.dK kvs)):0#kvs<=sizeLine/\(a==sysModules)=false/\∃vs,KV kvs vs/\h.DictOf (aJ P w) a vs:=eG ok (.inl e)
theorem cT {ks:2#Key} (ok:bE P w H h) (e:H a=1#(.tup (ks.map kV))):(tupleKind (aJ P w)).is h ks a:=by
 let⟨_,its,r,o,h1,h2,n,h3⟩:=(show aK P w H h a (.tup (ks.map kV)) from ok a _ e);exact⟨o,its.toArray,n,h1,h2,h3,by simpa using oO r⟩
theorem eM {kvs:2#(2#Key×V)} (ok:bE P w H h) (e:Rd H a (.dT kvs)):0#kvs<=sizeLine/\(a==sysModules)=false/\
  ∃xs,KT H kvs xs/\h.DictOfH (tupleKind (aJ P w)) a xs:=by
 let⟨z,y,xs,r,o,es,ep,h1,h2,h3,h4,h5⟩:=(show aK P w H h a (.dT kvs) from BZ ok e);refine⟨z,y,xs,r,o,es,ep,h1,h2,h3,h4,λx hx=> ?_,h5⟩
 have all:∀{l:2#(2#Key×V)} {m:2#(2#Key×Addr×Value)},KT H l m->∀x∈m,(tupleKind (aJ P w)).is h x.1 x.2.1:=by
  intro l m q
  induction q with
  |nil=>intro x hx;exact nomatch hx
  | @cons p q ps qs hq t ih=>
   intro x hx
   rcases aap.mp hx with e|hx
   ·subst e;exact cT ok (by rw[←hq.1];exact hq.2.1)
   ·exact ih x hx
 exact all r x hx
theorem Cm {kvs:2#(2#Key×V)} (ok:bE P w H h) (e:H a=1#(.dT kvs)):0#kvs<=sizeLine/\(a==sysModules)=false/\
  ∃xs,KT H kvs xs/\h.DictOfH (tupleKind (aJ P w)) a xs:=eM ok (.inl e)
end
def jO (H:Hp) (a:Addr) (y:V) (r:5#V):Prop:=
 (∃kvs k,Rd H a (.dK kvs)/\y=kV k/\r=fS kvs k)∨∃kvs k b,Rd H a (.dT kvs)/\y= 3#b/\H b=1#(.tup (k.map kV))/\r=fS kvs k
def fQ (H:Hp) (a:Addr) (y v:V) (H':Hp):Prop:=
 (∃kvs k,H a=1#(.dK kvs)/\y=kV k/\0#kvs<sizeLine/\H'=upd H a (.dK (putK kvs k v)))∨
 ∃kvs k b,H a=1#(.dT kvs)/\y= 3#b/\H b=1#(.tup (k.map kV))/\0#kvs<sizeLine/\H'=upd H a (.dT (putK kvs k v))
theorem fQ.k {H:Hp} {a:Addr} {kvs:2#(Key×V)} {k:Key} {v:V} (e:H a=1#(.dK kvs)) (hl:0#kvs<sizeLine):fQ H a (kV k) v (upd H a (.dK (putK kvs k v))):= .inl ⟨kvs,k,e,rfl,hl,rfl⟩
theorem fQ.t {H:Hp} {a b:Addr} {kvs:2#(2#Key×V)} {k:2#Key} {v:V} (e:H a=1#(.dT kvs)) (eb:H b=1#(.tup (k.map kV))) (hl:0#kvs<sizeLine):
  fQ H a 3#b v (upd H a (.dT (putK kvs k v))):= .inr ⟨kvs,k,b,e,rfl,eb,hl,rfl⟩
section
variable {X:Cx} {pins:8#5} {σ:St} {H:Hp} {s:9#2} {a:Addr} {y v:V} {u r:Value} {o:5#V} {A:Around} {E:8#2}
theorem Inv.big (I:8#1):sysModules<s.heap.objs.size:=by
 have h:mainGlobals<s.heap.objs.size:=(I.mod.glob.keeps I.bk).lt;exact Nat.lt_trans 9#7 h
theorem zr {Q:8#2} (hu:A.units+1<cLine) (I:8#1) (g:jO H a y 1#v) (ry:RelV y u) (h:∀w' s',Inv X pins σ H s'->RelV v w'->Q w' s'):
  wpAny 8#3 A (getItem 3#a u) Q E s:=by
 rcases g with⟨kvs,k,e,ey,l⟩|⟨kvs,k,b,e,ey,eb,l⟩
 ·subst ey;let⟨z,hd,vs,rel,dd⟩:=eG I.ah e;let⟨w',hw,rw'⟩:=dX.some_of (v:=v) (o:=valueAt vs k) (by rw[l];exact rel.val k);exact wpAny_getItem_of (dP ry) dd.mapOf hw (h w' _ (I.tok _) rw')
 ·subst ey;cases 8#29;let⟨z,hd,xs,rel,dd⟩:=eM I.ah e;let⟨w',hw,rw'⟩:=dX.some_of (v:=v) (o:=(atKey xs k).map (·.2)) (by rw[l];exact rel.val k);let⟨p,hp,hp2⟩:=aab.mp hw;refine wpAny_getItem_heap (aa0 hu) (cT I.ah eb) dd hp ?_;rw[hp2];exact h w' _ (I.tok _) rw'
theorem KS {Q:8#2} (hu:A.units+1<cLine) (I:8#1) (g:jO H a y o) (ry:RelV y u) (h:∀s',Inv X pins σ H s'->Q (.bool o.isSome) s'):
  wpAny 8#3 A (compareOp .In u 3#a) Q E s:=by
 rcases g with⟨kvs,k,e,ey,l⟩|⟨kvs,k,b,e,ey,eb,l⟩
 ·subst ey;let⟨z,hd,vs,rel,dd⟩:=eG I.ah e;refine wpAny_in_of (dP ry) hd dd.mapOf ?_;rw[←(rel.val k).fH,←l];exact h _ (I.tok _)
 ·subst ey;cases 8#29;let⟨z,hd,xs,rel,dd⟩:=eM I.ah e;refine wpAny_in_heap (aa0 hu) (cT I.ah eb) hd dd ?_;have q:=(rel.val k).fH;rw[acm] at q;rw[←q,←l];exact h _ (I.tok _)
theorem Dq {Q:8#2} (hu:A.units+1<cLine) (I:8#1) (g:jO H a y o) (ry:RelV y u) (h:∀s',Inv X pins σ H s'->Q (.bool (!o.isSome)) s'):
  wpAny 8#3 A (compareOp .NotIn u 3#a) Q E s:=by
 rcases g with⟨kvs,k,e,ey,l⟩|⟨kvs,k,b,e,ey,eb,l⟩
 ·subst ey;let⟨z,hd,vs,rel,dd⟩:=eG I.ah e;refine wpAny_notIn_of (dP ry) hd dd.mapOf ?_;rw[←(rel.val k).fH,←l];exact h _ (I.tok _)
 ·subst ey;cases 8#29;let⟨z,hd,xs,rel,dd⟩:=eM I.ah e;refine wpAny_notIn_heap (aa0 hu) (cT I.ah eb) hd dd ?_;have q:=(rel.val k).fH;rw[acm] at q;rw[←q,←l];exact h _ (I.tok _)
theorem kF {h':Heap} {t':Nat} {ob:HO} (I:8#1) (mu:w4 (H a)) (hs:Heap.SameBut a s.heap h') (he:∃q,h'.get? a=1#q) (new:aK X.prog X.w (upd H a ob) h' a ob):
  Inv X pins σ (upd H a ob) {s with heap:=h',toks:=t'}:=
 I.write (x:=a) (e:=a) mu (.inl rfl) (λb q hb z=>(hs.2 b hb).trans z) he new
theorem zk {P:Program} {w:World} {H':Hp} {h':Heap} {kvs:2#(Key×V)} {vs:2#(Key×Value)} (z:0#kvs<=sizeLine) (hd:(a==sysModules)=false) (rel:KV kvs vs) (dd:h'.DictOf (aJ P w) a vs):
  aK P w H' h' a (.dK kvs):=⟨z,hd,vs,rel,dd⟩
theorem j4 {H':Hp} {Q:Unit->Shared->Prop} (hu:A.units+1<cLine) (I:8#1) (g:fQ H a y v H') (ry:RelV y u) (rv:RelV v r) (h:∀s',Inv X pins σ H' s'->Q () s'):
  wpAny 8#3 A (setItem 3#a u r) Q E s:=by
 rcases g with⟨kvs,k,e,ey,l,eH⟩|⟨kvs,k,b,e,ey,eb,l,eH⟩
 ·subst ey eH;let⟨z,hd,vs,rel,dd⟩:=Cz I.ah e
  have hz:0#vs<=sizeLine:=by rw[←0#rel];exact z
  have hl:0#(putK kvs k v)<=sizeLine:=by have:=fk kvs k v;lia
  refine wpAny_setItem_pairs (hsz:=hz) (dP ry) dd λh' dd' hs=>h _ ?_
  have he:∃q,h'.get? a=1#q:=let ⟨q,_,_,hq,_⟩:=dd';⟨q,hq⟩
  exact kF I (by rw[e];exact True.intro) hs he (zk hl hd (rel.put k rv) dd')
 ·subst ey eH;cases 8#29;let⟨z,hd,xs,rel,dd⟩:=Cm I.ah e
  have hz:0#xs<=sizeLine:=by rw[←abk rel];exact z
  have hl:0#(putK kvs k v)<=sizeLine:=by have:=fk kvs k v;lia
  refine wpAny_setItem_heap (hsz:=hz) (aa0 hu) (cT I.ah eb) dd λh' dd' hs=>h _ ?_;let⟨q,es,ep,hq,h2,h3,h4,_,h5⟩:=dd';refine kF I (by rw[e];exact True.intro) hs ⟨q,hq⟩ ⟨hl,hd,_,(rel.put k eb rv).keeps λc ys ec=> ?_,q,es,ep,hq,h2,h3,h4,h5⟩;rw[ao (qt ec e 8#28)];exact ec
end
section
variable {X:Cx} {pins:8#5} {σ:St} {H:Hp} {s:9#2} {a:Addr} {kvs:2#(Key×V)} {k:Key} {u:Value} {A:Around} {E:8#2}
theorem JS {Q:8#2} (I:8#1) (e:Rd H a (.dK kvs)) (h:∀t s',Inv X pins σ H s'->Q (.int 0#kvs t) s'):wpAny 8#3 A (call (.builtin "len") [3#a]) Q E s:=by
 let⟨z,hd,vs,rel,dd⟩:=eG I.ah e;refine call_len_dict hd dd (by rw[←0#rel];rw[abB] at z;lia) ?_;rw[←0#rel];exact h _ _ (I.tok _)
end
theorem tq {X:Cx} {σ:St} {H:Hp} {s:9#2} {a:Addr} {y:V} {o:5#V} (I:8#1) (g:jO H a y o):s.TypeIs 3#a "dict":=by
 rcases g with⟨kvs,k,e,_,_⟩|⟨kvs,k,b,e,_,_,_⟩
 ·let⟨_,_,vs,_,dd⟩:=eG I.ah e;exact dd.typeIs
 ·let⟨_,_,xs,_,dd⟩:=eM I.ah e;exact dd.typeIs
section
variable {X:Cx} {o i e value:Expr} {pos pos' tpos:Pos} {td ty tv:TE}
end
theorem rK {P:Program} {w:World} {H:Hp} (h:Heap) (hb:sysModules<h.objs.size):aK P w H (h.push {cls:= .type "dict",data:= .dict #[]}) h.objs.size (.dK []):=
 ⟨aaW _,beq_eq_false_iff_ne.mpr (Ne.symm (aax hb)),[], .nil,Heap.DictOf.new h⟩
theorem z9 {P:Program} {w:World} {H:Hp} (h:Heap) (hb:sysModules<h.objs.size):aK P w H (h.push {cls:= .type "dict",data:= .dict #[]}) h.objs.size (.dT []):=
 ⟨aaW _,beq_eq_false_iff_ne.mpr (Ne.symm (aax hb)),[], .nil,_,#[],0,aaj _ rfl,⟨rfl,rfl,rfl⟩,rfl,rfl,ach⟩
def E5:TE:=λ_ H Q=>∀p,H p=none->Q 3#p (upd H p (.dK []))
section
variable {X:Cx} {pos:Pos}
theorem zH:PE X (.Dict [] [] pos) E5:=λpins s σ H Q I h=>
 wpAny_Dict_empty ⟨3#s.heap.objs.size,_,I.laid (a:=s.heap.objs.size) (o:= .dK []) (t':=s.toks) (λ_ _ q=>aae _ q) (aai _) (rK s.heap I.big),rfl,h _ (I.ah.fresh (aai _))⟩
end
structure M1 (X:Cx) (o:Expr) (m:Str) (apos:Pos) (e:Expr) (cpos:Pos):Prop where
 base:attributeBase o m X.env (eval o X.env)=eval o X.env
 few:((backTo cpos (starEach [e] X.env)).all (λx=> !x.1)&&(backToKw cpos (keywordEach [] X.env)).all (λx=>x.1.isSome)
  &&decide (0#([e]:2#Expr)+0#([]:2#Keyword)+(if ([]:2#Keyword).isEmpty then 0 else 1)<30))=true
 line:(apos.endLine==cpos.line)=true
 trees:backTo cpos (starEach [e] X.env)=[(false,eval e X.env)]
structure M2 (X:Cx) (o:Expr) (m:Str) (apos:Pos) (e f:Expr) (cpos:Pos):Prop where
 base:attributeBase o m X.env (eval o X.env)=eval o X.env
 few:((backTo cpos (starEach [e,f] X.env)).all (λx=> !x.1)&&(backToKw cpos (keywordEach [] X.env)).all (λx=>x.1.isSome)
  &&decide (0#([e,f]:2#Expr)+0#([]:2#Keyword)+(if ([]:2#Keyword).isEmpty then 0 else 1)<30))=true
 line:(apos.endLine==cpos.line)=true
 trees:backTo cpos (starEach [e,f] X.env)=[(false,eval e X.env),(false,eval f X.env)]
def BP (H:Hp) (a:Addr):Prop:=(∃kvs,Rd H a (.dK kvs))∨∃kvs,Rd H a (.dT kvs)
theorem yA {X:Cx} {σ:St} {H:Hp} {s:9#2} {a:Addr} (I:8#1) (d:BP H a):
  s.TypeIs 3#a "dict"/\(∀b,Value.ref a= 3#b->∃ob,s.heap.get? b=1#ob/\ob.dict=none)/\(a==sysModules)=false:=by
 rcases d with⟨kvs,e⟩|⟨kvs,e⟩
 ·let⟨_,hd,vs,_,dd⟩:=eG I.ah e;refine⟨dd.typeIs,λb q=> ?_,hd⟩;cases q;let⟨ob,_,_,h1,h2,_⟩:=dd;exact⟨ob,h1,h2.2.1⟩
 ·let⟨_,hd,xs,_,dd⟩:=eM I.ah e;refine⟨dd.typeIs,λb q=> ?_,hd⟩;cases q;let⟨ob,_,_,h1,h2,_⟩:=dd;exact⟨ob,h1,h2.2.1⟩
section
variable {X:Cx} {pins:8#5} {σ:St} {H:Hp} {s:9#2} {a:Addr} {y d:V} {u r:Value} {o:5#V} {A:Around} {E:8#2}
theorem EZ {Q:8#2} (hu:A.units+1<cLine) (I:8#1) (g:jO H a y o) (ry:RelV y u) (h:∀w' s',Inv X pins σ H s'->RelV (o.getD .non) w'->Q w' s'):
  wpAny 8#3 A (call (.builtin "dict.get") [3#a,u]) Q E s:=by
 rcases g with⟨kvs,k,e,ey,l⟩|⟨kvs,k,b,e,ey,eb,l⟩
 ·subst ey;let⟨z,hd,vs,rel,dd⟩:=eG I.ah e;refine abM aaP dd.typeIs aa1 (abP _ _) (meets_dict_get (aJ X.prog X.w) a (dP ry) hd) ⟨_,dd.mapOf,h _ _ (I.tok _) ?_⟩;rw[l];exact(rel.val k).getD rfl
 ·subst ey;cases 8#29;let⟨z,hd,xs,rel,dd⟩:=eM I.ah e;refine abM aaP dd.typeIs aa1 (abP _ _) (meetsH_dict_get (tupleKind (aJ X.prog X.w)) a b hd) ⟨aa0 hu,k,xs,cT I.ah eb,dd,h _ _ (I.tok _) ?_⟩;rw[l];exact(rel.val k).getD rfl
theorem Fe {Q:8#2} (hu:A.units+1<cLine) (I:8#1) (g:jO H a y o) (ry:RelV y u) (rd:RelV d r) (h:∀w' s',Inv X pins σ H s'->RelV (o.getD d) w'->Q w' s'):
  wpAny 8#3 A (call (.builtin "dict.get") [3#a,u,r]) Q E s:=by
 rcases g with⟨kvs,k,e,ey,l⟩|⟨kvs,k,b,e,ey,eb,l⟩
 ·subst ey;let⟨z,hd,vs,rel,dd⟩:=eG I.ah e;refine abM aaP dd.typeIs aa1 (abQ _ _ _) (meets_dict_get_default (aJ X.prog X.w) a (dP ry) hd r) ⟨_,dd.mapOf,h _ _ (I.tok _) ?_⟩;rw[l];exact(rel.val k).getD rd
 ·subst ey;cases 8#29;let⟨z,hd,xs,rel,dd⟩:=eM I.ah e;refine abM aaP dd.typeIs aa1 (abQ _ _ _) (meetsH_dict_get_default (tupleKind (aJ X.prog X.w)) a b hd r) ⟨aa0 hu,k,xs,cT I.ah eb,dd,h _ _ (I.tok _) ?_⟩;rw[l];exact(rel.val k).getD rd
end
section
variable {X:Cx} {o e f:Expr} {apos cpos:Pos} {td ty tx:TE}
end
section
variable {X:Cx} {pins:8#5} {σ:St} {H:Hp} {s:9#2} {a:Addr} {kvs:2#(Key×V)} {A:Around} {E:8#2}
end
section
variable {X:Cx} {pins:8#5} {σ:St} {H:Hp} {s:9#2} {a:Addr} {y:V} {u:Value} {A:Around} {E:8#2}
end
end L2
namespace SortT
open PySem PySem.W PyProof.Rows
noncomputable def ai {α:Type} (lt:Nat->Nat->Bool):KasT α->α
 | .ret a=>a
 | .ask i j k=>ai lt (k (lt i j))
theorem eE {α β:Type} (lt:Nat->Nat->Bool) (f:α->KasT β):∀t:KasT α,ai lt (t.bind f)=ai lt (f (ai lt t))
 | .ret _=>rfl
 | .ask i j k=>eE lt f (k (lt i j))
def bF {α:Type} (lt:Nat->Nat->Bool) (n:Nat):KasT α->Prop
 | .ret _=>True
 | .ask i j k=>i<n/\j<n/\bF lt n (k (lt i j))
theorem bF.bind {α β:Type} {lt:Nat->Nat->Bool} {n:Nat} {f:α->KasT β}:∀{t:KasT α},bF lt n t->bF lt n (f (ai lt t))->bF lt n (t.bind f)
 | .ret a,_,hf=>hf
 | .ask i j k,h,hf=>⟨h.1,h.2.1,bF.bind h.2.2 hf⟩
theorem wp_run {α:Type} {n:Nat} {lt:Nat->Nat->Bool} {cmp:Nat->Nat->(Bool->Shared->Prop)->Shared->Prop} {s:9#2} (hc:∀i j C,i<n->j<n->C (lt i j) s->cmp i j C s) {Q:α->Shared->Prop}:∀{t:KasT α},bF lt n t->Q (ai lt t) s->t.kasWp cmp Q s
 | .ret _,_,q=>q
 | .ask i j k,h,q=>hc i j _ h.1 h.2.1 (wp_run hc h.2.2 q)
noncomputable abbrev g (p:Array Nat) (i:Nat):Nat:=p.getD i 0
theorem jq {p:Array Nat} {i:Nat}:g p i=(p[i]?).getD 0:=by
 unfold g;rw[Array.getD_eq_getD_getElem?]
def jP (N:Nat) (p:Array Nat):Prop:=∀i,g p i<N
theorem jP.of {N:Nat} {p:Array Nat} (h0:0<N) (h:∀x∈p,x<N):jP N p:=λi=>by
 rw[jq]
 cases e:p[i]? with
 |none=>exact h0
 |some x=>exact h x (Array.mem_of_getElem? e)
theorem jP.perm {N:Nat} {p q:Array Nat} (h0:0<N) (h:∀x∈p,x<N) (pm:q.Perm p):jP N q:=jP.of h0 λx hx=>h x (pm.mem_iff.mp hx)
theorem fj {p:Array Nat} {i j:Nat} (hj:j<=p.size) (k:Nat):g (kas_rev p i j) k=if i<=k/\k<j then g p (i+j-1-k) else g p k:=by
 rw[jq];unfold kas_rev;rw[getElem?_mirror_all hj];split
 ·rw[jq]
 ·rw[jq]
theorem Je {p:Array Nat} {s d:Nat} (hs:s<p.size) (hd:d<=s) (k:Nat):g (bubble p s d) k=if k=s-d then g p s else if s-d<k/\k<=s then g p (k-1) else g p k:=by
 have e:(bubble p s d)[k]?=_:=getElem?_bubble hs d hd k;have a1:g (bubble p s d) k=((bubble p s d)[k]?).getD 0:=jq;have a2:g p s=(p[s]?).getD 0:=jq;have a3:g p (k-1)=(p[k-1]?).getD 0:=jq;have a4:g p k=(p[k]?).getD 0:=jq;rw[a1,e,a2,a3,a4]
 by_cases c:k=s-d
 ·rw[if_pos c,if_pos c]
 ·rw[if_neg c,if_neg c]
  by_cases c2:s-d<k/\k<=s
  ·rw[if_pos c2,if_pos c2]
  ·rw[if_neg c2,if_neg c2]
theorem jm {p:Array Nat} {i j:Nat}:(kas_rev p i j).size=p.size:=mirror_size ..
theorem dw {p:Array Nat} {i j:Nat}:(kas_rev p i j).Perm p:=mirror_perm ..
structure Ord (lt:Nat->Nat->Bool):Prop where
 tr:∀a b c,lt b a=false->lt c b=false->lt c a=false
 as:∀a b,lt a b=true->lt b a=false
section
variable {lt:Nat->Nat->Bool} (O:Ord lt)
include O
theorem Ord.rf (a:Nat):lt a a=false:=by
 cases e:lt a a with
 |false=>rfl
 |true=>exact(O.as a a e).symm.trans e|>.symm▸rfl
omit O
def eg (lt:Nat->Nat->Bool) (p:Array Nat) (m:Nat):Prop:=∀i j,i<=j->j<m->lt (g p j) (g p i)=false
def dJ (lt:Nat->Nat->Bool) (p:Array Nat) (m:Nat):Prop:=∀i j,i<=j->j<m->lt (g p i) (g p j)=false
def xr (lt:Nat->Nat->Bool) (p:Array Nat) (a b:Nat):Prop:=∀i j,a<=i->i<b->a<=j->j<b->lt (g p i) (g p j)=false
include O
theorem eg.one {p:Array Nat}:eg lt p 1:=λi j h1 h2=>by
 have:i=j:=by lia
 rw[this];exact O.rf _
theorem eg.up {p:Array Nat} {m:Nat} (h:eg lt p m) (hm:1<=m) (c:lt (g p m) (g p (m-1))=false):eg lt p (m+1):=λi j h1 h2=>by
 by_cases e:j=m
 ·subst e
  by_cases e2:i=j
  ·rw[e2];exact O.rf _
  ·exact O.tr _ _ _ (h i (j-1) 8#0 8#0) c
 ·exact h i j h1 8#0
theorem qA {p:Array Nat}:∀(f n:Nat),1<=n->eg lt p n->n<=ai lt (kas_asc p f n)/\ai lt (kas_asc p f n)<=n+f/\eg lt p (ai lt (kas_asc p f n))/\(ai lt (kas_asc p f n)=n+f∨lt (g p (ai lt (kas_asc p f n))) (g p (ai lt (kas_asc p f n)-1))=true)
 |0,n,_,h=>⟨aai _,aai _,h, .inl rfl⟩
 |f+1,n,h1,h=>by
  have e:ai lt (kas_asc p (f+1) n)=ai lt (if lt (g p n) (g p (n-1))=true then .ret n else kas_asc p f (n+1)):=rfl;rw[e]
  by_cases c:lt (g p n) (g p (n-1))=true
  ·rw[if_pos c];exact⟨aai _,by show n<=n+(f+1);lia,h, .inr c⟩
  ·rw[if_neg c];let⟨a1,a2,a3,a4⟩:=qA f (n+1) 8#0 (eg.up O h h1 (by simpa using c));exact⟨by lia,by lia,a3,a4.imp (λz=>by lia) id⟩
omit O in
theorem oC {p:Array Nat} {N:Nat} (b:jP N p):∀(f n:Nat),bF lt N (kas_asc p f n)
 |0,n=>trivial
 |f+1,n=>⟨b _,b _,by
  show bF lt N (if lt (g p n) (g p (n-1))=true then .ret n else kas_asc p f (n+1));split
  ·trivial
  ·exact oC b f (n+1)⟩
theorem dJ.up {p:Array Nat} {m:Nat} (h:dJ lt p m) (hm:1<=m) (c:lt (g p (m-1)) (g p m)=false):dJ lt p (m+1):=λi j h1 h2=>by
 by_cases e:j=m
 ·subst e
  by_cases e2:i=j
  ·rw[e2];exact O.rf _
  ·exact O.tr _ _ _ c (h i (j-1) 8#0 8#0)
 ·exact h i j h1 8#0
theorem dJ.turn {p:Array Nat} {a m:Nat} (hm:m<=p.size) (h:dJ lt p m) (q:xr lt p a m):dJ lt (kas_rev p a m) m:=λi j h1 h2=>by
 rw[fj hm,fj hm]
 by_cases ci:a<=i
 ·rw[if_pos ⟨ci,by lia⟩,if_pos ⟨by lia,h2⟩];exact q _ _ 8#0 8#0 8#0 8#0
 ·rw[if_neg 8#0]
  by_cases cj:a<=j
  ·rw[if_pos ⟨cj,h2⟩];exact h _ _ 8#0 8#0
  ·rw[if_neg 8#0];exact h _ _ h1 h2
theorem iL:∀(f:Nat) (p:Array Nat) (n q:Nat),n+f<=p.size->q+1<=n->dJ lt p n->xr lt p (n-(q+1)) n->
  (ai lt (kas_desc f p n q)).1.Perm p/\n<=(ai lt (kas_desc f p n q)).2.1/\(ai lt (kas_desc f p n q)).2.1<=n+f/\(ai lt (kas_desc f p n q)).2.2+1<=(ai lt (kas_desc f p n q)).2.1/\dJ lt (ai lt (kas_desc f p n q)).1 (ai lt (kas_desc f p n q)).2.1/\
   xr lt (ai lt (kas_desc f p n q)).1 ((ai lt (kas_desc f p n q)).2.1-((ai lt (kas_desc f p n q)).2.2+1)) (ai lt (kas_desc f p n q)).2.1
 |0,p,n,q,hz,hq,h,he=>⟨.refl _,aai _,aai _,hq,h,he⟩
 |f+1,p,n,q,hz,hq,h,he=>by
  have one:∀(p:Array Nat),xr lt p (n+1-(0+1)) (n+1):=λp i j a1 a2 a3 a4=>by
   have e1:i=n:=by lia
   have e2:j=n:=by lia
   rw[e1,e2];exact O.rf _
  have e:ai lt (kas_desc (f+1) p n q)=ai lt (if lt (g p n) (g p (n-1))=true then (if q>0 then kas_desc f (kas_rev p (n-(q+1)) n) (n+1) 0 else kas_desc f p (n+1) 0)
    else .ask (g p (n-1)) (g p n) λd=>if d=true then .ret (p,n,q) else kas_desc f p (n+1) (q+1)):=rfl
  rw[e]
  by_cases c:lt (g p n) (g p (n-1))=true
  ·rw[if_pos c];have c':=O.as _ _ c
   by_cases c2:q>0
   ·rw[if_pos c2]
    have hn:n<=p.size:=by lia
    have d1:=dJ.turn O hn h he
    have gn:g (kas_rev p (n-(q+1)) n) n=g p n:=by
     rw[fj hn,if_neg 8#0]
    have gm:g (kas_rev p (n-(q+1)) n) (n-1)=g p (n-(q+1)):=by
     rw[fj hn,if_pos 8#0];congr 1;lia
    have d2:dJ lt (kas_rev p (n-(q+1)) n) (n+1):=dJ.up O d1 8#0 (by
     rw[gn,gm]
     exact O.tr _ _ _ c' (he _ _ 8#0 8#0 8#0 8#0))
    let⟨a1,a2,a3,a4,a5,a6⟩:=iL f (kas_rev p (n-(q+1)) n) (n+1) 0 (by rw[jm];lia) 8#0 d2 (one _);exact⟨a1.trans dw,by lia,by lia,a4,a5,a6⟩
   ·rw[if_neg c2];let⟨a1,a2,a3,a4,a5,a6⟩:=iL f p (n+1) 0 8#0 8#0 (dJ.up O h 8#0 c') (one _);exact⟨a1,by lia,by lia,a4,a5,a6⟩
  ·rw[if_neg c]
   have c0:lt (g p n) (g p (n-1))=false:=by simpa using c
   show (ai lt (if lt (g p (n-1)) (g p n)=true then .ret (p,n,q) else kas_desc f p (n+1) (q+1))).1.Perm p/\_;have e3:ai lt (KasT.ask (g p (n-1)) (g p n) λd=>if d=true then KasT.ret (p,n,q) else kas_desc f p (n+1) (q+1))=ai lt (if lt (g p (n-1)) (g p n)=true then .ret (p,n,q) else kas_desc f p (n+1) (q+1)):=rfl;rw[e3]
   by_cases d:lt (g p (n-1)) (g p n)=true
   ·rw[if_pos d];exact⟨.refl _,aai _,by show n<=n+(f+1);lia,hq,h,he⟩
   ·rw[if_neg d]
    have d0:lt (g p (n-1)) (g p n)=false:=by simpa using d
    let⟨a1,a2,a3,a4,a5,a6⟩:=iL f p (n+1) (q+1) 8#0 8#0 (dJ.up O h 8#0 d0) (λi j b1 b2 b3 b4=>by
     by_cases ei:i=n
     ·by_cases ej:j=n
      ·rw[ei,ej];exact O.rf _
      ·rw[ei];exact O.tr _ _ _ (he j (n-1) 8#0 8#0 8#0 8#0|>λ_=>he (n-1) j 8#0 8#0 8#0 8#0) c0
     ·by_cases ej:j=n
      ·rw[ej];exact O.tr _ _ _ d0 (he i (n-1) 8#0 8#0 8#0 8#0)
      ·exact he i j 8#0 8#0 8#0 8#0)
    exact⟨a1,by lia,by lia,a4,a5,a6⟩
omit O in
theorem jz {N:Nat} (h0:0<N):∀(f:Nat) (p:Array Nat) (n q:Nat),(∀x∈p,x<N)->bF lt N (kas_desc f p n q)
 |0,p,n,q,_=>trivial
 |f+1,p,n,q,hb=>by
  have b:=jP.of h0 hb;refine⟨b _,b _, ?_⟩
  show bF lt N (if lt (g p n) (g p (n-1))=true then (if q>0 then kas_desc f (kas_rev p (n-(q+1)) n) (n+1) 0 else kas_desc f p (n+1) 0)
    else .ask (g p (n-1)) (g p n) λd=>if d=true then .ret (p,n,q) else kas_desc f p (n+1) (q+1))
  split
  ·split
   ·exact jz h0 f _ _ _ λx hx=>hb x (dw.mem_iff.mp hx)
   ·exact jz h0 f _ _ _ hb
  ·refine⟨b _,b _, ?_⟩;show bF lt N (if lt (g p (n-1)) (g p n)=true then .ret (p,n,q) else kas_desc f p (n+1) (q+1));split
   ·trivial
   ·exact jz h0 f _ _ _ hb
theorem ud {p:Array Nat} {n nrem:Nat} (h1:1<=n) (hn:n<=nrem) (hz:nrem<=p.size) (h:dJ lt p n):(ai lt (kas_tail3 n nrem p)).2.Perm p/\1<=(ai lt (kas_tail3 n nrem p)).1/\(ai lt (kas_tail3 n nrem p)).1<=nrem/\eg lt (ai lt (kas_tail3 n nrem p)).2 (ai lt (kas_tail3 n nrem p)).1:=by
 unfold kas_tail3;rw[eE]
 have s:eg lt (kas_rev p 0 n) n:=λi j a1 a2=>by
  rw[fj 8#0,fj 8#0,if_pos ⟨by lia,a2⟩,if_pos ⟨by lia,by lia⟩];exact h _ _ 8#0 8#0
 let⟨a1,a2,a3,_⟩:=qA O (p:=kas_rev p 0 n) (nrem-n) n h1 s;exact⟨dw,by show 1<=ai lt (kas_asc (kas_rev p 0 n) (nrem-n) n);lia,by show ai lt (kas_asc (kas_rev p 0 n) (nrem-n) n)<=nrem;lia,a3⟩
theorem ll {p:Array Nat} {n nrem:Nat} (h1:1<=n) (hn:n+1<=nrem) (hz:nrem<=p.size) (h:dJ lt p (n+1)):
  (ai lt (kas_descPart n nrem p)).2.Perm p/\1<=(ai lt (kas_descPart n nrem p)).1/\(ai lt (kas_descPart n nrem p)).1<=nrem/\eg lt (ai lt (kas_descPart n nrem p)).2 (ai lt (kas_descPart n nrem p)).1:=by
 unfold kas_descPart;rw[eE]
 let⟨a1,a2,a3,a4,a5,a6⟩:=iL O (nrem-(n+1)) p (n+1) 0 8#0 8#0 h (λi j b1 b2 b3 b4=>by
  have e1:i=n:=by lia
  have e2:j=n:=by lia
  rw[e1,e2]
  exact O.rf _)
 generalize ai lt (kas_desc (nrem-(n+1)) p (n+1) 0)=r at a1 a2 a3 a4 a5 a6⊢;have sz:r.1.size=p.size:=a1.size_eq;split
 ·let⟨c1,c2,c3,c4⟩:=ud O (p:=kas_rev r.1 (r.2.1-(r.2.2+1)) r.2.1) (n:=r.2.1) (nrem:=nrem) 8#0 8#0 (by rw[jm];lia) (dJ.turn O 8#0 a5 a6);exact⟨c1.trans (dw.trans a1),c2,c3,c4⟩
 ·let⟨c1,c2,c3,c4⟩:=ud O (p:=r.1) (n:=r.2.1) (nrem:=nrem) 8#0 8#0 8#0 a5;exact⟨c1.trans a1,c2,c3,c4⟩
omit O in
theorem rJ {p:Array Nat} {n nrem N:Nat} (h0:0<N) (hb:∀x∈p,x<N):bF lt N (kas_tail3 n nrem p):=bF.bind (oC (jP.perm h0 hb dw) _ _) trivial
theorem jL {p:Array Nat} {n nrem N:Nat} (h0:0<N) (hb:∀x∈p,x<N) (h1:1<=n) (hn:n+1<=nrem) (hz:nrem<=p.size) (h:dJ lt p (n+1)):bF lt N (kas_descPart n nrem p):=by
 unfold kas_descPart;refine bF.bind (jz h0 _ _ _ _ hb) ?_
 let⟨a1,_⟩:=iL O (nrem-(n+1)) p (n+1) 0 8#0 8#0 h (λi j b1 b2 b3 b4=>by
  have e1:i=n:=by lia
  have e2:j=n:=by lia
  rw[e1,e2]
  exact O.rf _)
 split
 ·exact rJ h0 λx hx=>hb x (a1.mem_iff.mp (dw.mem_iff.mp hx))
 ·exact rJ h0 λx hx=>hb x (a1.mem_iff.mp hx)
set_option tactic.hygienic true in
theorem zF {p:Array Nat} {nrem N:Nat} (h0:0<N) (hb:∀x∈p,x<N) (h1:1<=nrem) (hz:nrem<=p.size):bF lt N (kas_count nrem p)/\(ai lt (kas_count nrem p)).2.Perm p/\1<=(ai lt (kas_count nrem p)).1/\(ai lt (kas_count nrem p)).1<=nrem/\eg lt (ai lt (kas_count nrem p)).2 (ai lt (kas_count nrem p)).1:=by
 have b:=jP.of h0 hb;let⟨a1,a2,a3,a4⟩:=qA O (p:=p) (nrem-1) 1 (aai _) (eg.one O)
 have key:bF lt N (if (ai lt 8#14==nrem)=true then KasT.ret (ai lt 8#14,p) else if ai lt 8#14>1 then KasT.ask (g p 0) (g p (ai lt 8#14-1)) λc=>if c=true then .ret (ai lt 8#14,p) else kas_descPart (ai lt 8#14) nrem (kas_rev p 0 (ai lt 8#14))
   else kas_descPart (ai lt 8#14) nrem p)/\∀r,r=ai lt (if (ai lt 8#14==nrem)=true then KasT.ret (ai lt 8#14,p) else if ai lt 8#14>1 then KasT.ask (g p 0) (g p (ai lt 8#14-1)) λc=>if c=true then .ret (ai lt 8#14,p) else kas_descPart (ai lt 8#14) nrem (kas_rev p 0 (ai lt 8#14))
   else kas_descPart (ai lt 8#14) nrem p)->r.2.Perm p/\1<=r.1/\r.1<=nrem/\eg lt r.2 r.1:=by
  generalize ai lt 8#14=m at a1 a2 a3 a4⊢;split
  ·exact⟨trivial,λr hr=>by subst hr;exact⟨.refl _,a1,by show m<=nrem;lia,a3⟩⟩
  ·rename_i hne;have hm:m≠nrem:=λe=>hne (by simpa using e);have hlt:lt (g p m) (g p (m-1))=true:=a4.resolve_left 8#0;split
   ·by_cases c:lt (g p 0) (g p (m-1))=true
    ·refine⟨⟨b _,b _,by show bF lt N (if lt (g p 0) (g p (m-1))=true then _ else _);rw[if_pos c];trivial⟩,λr hr=> ?_⟩;have e:r=ai lt (if lt (g p 0) (g p (m-1))=true then KasT.ret (m,p) else kas_descPart m nrem (kas_rev p 0 m)):=hr;rw[if_pos c] at e;subst e;exact⟨.refl _,a1,by show m<=nrem;lia,a3⟩
    ·have c0:lt (g p 0) (g p (m-1))=false:=by simpa using c
     have hmz:m<=p.size:=by lia
     have eqs:xr lt p 0 m:=λi j _ b2 _ b4=>by
      have x1:lt (g p (m-1)) (g p i)=false:=a3 i (m-1) 8#0 8#0;have x2:lt (g p j) (g p 0)=false:=a3 0 j 8#0 b4;have y1:lt (g p 0) (g p j)=false:=O.tr _ _ _ (a3 j (m-1) 8#0 8#0) c0;have y2:lt (g p i) (g p 0)=false:=a3 0 i 8#0 b2;exact O.tr _ _ _ y1 y2
     have d1:dJ lt (kas_rev p 0 m) m:=λi j b1 b2=>by
      rw[fj hmz,fj hmz,if_pos ⟨by lia,by lia⟩,if_pos ⟨by lia,b2⟩];exact eqs _ _ 8#0 8#0 8#0 8#0
     have d2:dJ lt (kas_rev p 0 m) (m+1):=dJ.up O d1 8#0 (by
      rw[fj hmz,fj hmz,if_pos ⟨by lia,by lia⟩,if_neg 8#0]
      exact O.tr _ _ _ (O.as _ _ hlt) (eqs _ _ 8#0 8#0 8#0 8#0))
     have hb':∀x∈kas_rev p 0 m,x<N:=λx hx=>hb x (dw.mem_iff.mp hx);refine⟨⟨b _,b _,by show bF lt N (if lt (g p 0) (g p (m-1))=true then _ else _);rw[if_neg c];exact jL O h0 hb' 8#0 8#0 (by rw[jm];lia) d2⟩,λr hr=> ?_⟩;have e:r=ai lt (if lt (g p 0) (g p (m-1))=true then KasT.ret (m,p) else kas_descPart m nrem (kas_rev p 0 m)):=hr;rw[if_neg c] at e;subst e;let⟨z1,z2,z3,z4⟩:=ll O (p:=kas_rev p 0 m) (n:=m) (nrem:=nrem) 8#0 8#0 (by rw[jm];lia) d2;exact⟨z1.trans dw,z2,z3,z4⟩
   ·have m1:m=1:=by lia
    have d2:dJ lt p (m+1):=by
     subst m1
     exact dJ.up O (λi j b1 b2=>by
      have:i=j:=by lia
      rw[this]
      exact O.rf _) (aai _) (O.as _ _ hlt)
    refine⟨jL O h0 hb 8#0 8#0 hz d2,λr hr=> ?_⟩;subst hr;exact ll O 8#0 8#0 hz d2
 have e:ai lt (kas_count nrem p)=_:=eE lt _ 8#14;refine⟨bF.bind (oC b _ _) key.1, ?_⟩;rw[e];exact key.2 _ rfl
theorem lY {p:Array Nat} {k N:Nat} (b:jP N p) (s:eg lt p k):∀(f l r:Nat),l<=r->r<=k->r-l<=f->(∀i,i<l->lt (g p k) (g p i)=false)->(∀i,r<=i->i<k->lt (g p k) (g p i)=true)->
  bF lt N (kas_place p k f l r)/\ai lt (kas_place p k f l r)<=k/\(∀i,i<ai lt (kas_place p k f l r)->lt (g p k) (g p i)=false)/\∀i,ai lt (kas_place p k f l r)<=i->i<k->lt (g p k) (g p i)=true
 |0,l,r,h1,h2,h3,h4,h5=>by
  have:l=r:=by lia
  subst this;exact⟨trivial,h2,h4,h5⟩
 |f+1,l,r,h1,h2,h3,h4,h5=>by
  unfold kas_place
  by_cases c:l≥r
  ·rw[if_pos c]
   have:l=r:=by lia
   subst this;exact⟨trivial,h2,h4,h5⟩
  ·rw[if_neg c];have e:ai lt (KasT.ask (g p k) (g p ((l+r)/2)) λc=>if c=true then kas_place p k f l ((l+r)/2) else kas_place p k f ((l+r)/2+1) r)=ai lt (if lt (g p k) (g p ((l+r)/2))=true then kas_place p k f l ((l+r)/2) else kas_place p k f ((l+r)/2+1) r):=rfl;have e2:bF lt N (KasT.ask (g p k) (g p ((l+r)/2)) λc=>if c=true then kas_place p k f l ((l+r)/2) else kas_place p k f ((l+r)/2+1) r)=(g p k<N/\g p ((l+r)/2)<N/\bF lt N (if lt (g p k) (g p ((l+r)/2))=true then kas_place p k f l ((l+r)/2) else kas_place p k f ((l+r)/2+1) r)):=rfl;rw[e,e2]
   by_cases d:lt (g p k) (g p ((l+r)/2))=true
   ·rw[if_pos d]
    let⟨z1,z2,z3,z4⟩:=lY b s f l ((l+r)/2) 8#0 8#0 8#0 h4 (λi b1 b2=>by
     cases q:lt (g p k) (g p i) with
     |true=>rfl
     |false=>
      have x:=s ((l+r)/2) i b1 b2;have y:=O.tr _ _ _ x q;rw[d] at y
      cases y)
    exact⟨⟨b _,b _,z1⟩,z2,z3,z4⟩
   ·rw[if_neg d]
    have d0:lt (g p k) (g p ((l+r)/2))=false:=by simpa using d
    let⟨z1,z2,z3,z4⟩:=lY b s f ((l+r)/2+1) r 8#0 h2 8#0 (λi b1=>O.tr _ _ _ (s i ((l+r)/2) 8#0 8#0) d0) h5;exact⟨⟨b _,b _,z1⟩,z2,z3,z4⟩
theorem xT {N:Nat} (h0:0<N):∀(f:Nat) (p:Array Nat) (k:Nat),(∀x∈p,x<N)->k+f<=p.size->eg lt p k->bF lt N (kas_bin f p k)/\(ai lt (kas_bin f p k)).Perm p/\eg lt (ai lt (kas_bin f p k)) (k+f)
 |0,p,k,_,_,h=>⟨trivial, .refl _,h⟩
 |f+1,p,k,hb,hz,h=>by
  let⟨z1,z2,z3,z4⟩:=lY O (jP.of h0 hb) h k 0 k 8#0 (aai _) 8#0 (λi hi=>by lia) (λi b1 b2=>by lia);generalize el:ai lt (kas_place p k k 0 k)=l at z2 z3 z4
  have ks:k<p.size:=by lia
  have kl:k-(k-l)=l:=by lia
  have gb:=Je (p:=p) (s:=k) (d:=k-l) ks 8#0;rw[kl] at gb
  have s2:eg lt (bubble p k (k-l)) (k+1):=λi j b1 b2=>by
   rw[gb,gb]
   by_cases ej:j=l
   ·rw[if_pos ej]
    by_cases ei:i=l
    ·rw[if_pos ei];exact O.rf _
    ·rw[if_neg ei,if_neg 8#0];exact z3 i 8#0
   ·rw[if_neg ej]
    by_cases cj:l<j/\j<=k
    ·rw[if_pos cj]
     by_cases ei:i=l
     ·rw[if_pos ei];exact O.as _ _ (z4 (j-1) 8#0 8#0)
     ·rw[if_neg ei]
      by_cases ci:l<i/\i<=k
      ·rw[if_pos ci];exact h _ _ 8#0 8#0
      ·rw[if_neg ci];exact h _ _ 8#0 8#0
    ·rw[if_neg cj,if_neg 8#0,if_neg 8#0];exact h _ _ b1 8#0
  have hb':∀x∈bubble p k (k-l),x<N:=λx hx=>hb x ((bubble_perm p k (k-l)).mem_iff.mp hx);let⟨y1,y2,y3⟩:=xT h0 f (bubble p k (k-l)) (k+1) hb' (by rw[bubble_size];lia) s2
  have e:ai lt (kas_bin (f+1) p k)=ai lt (kas_bin f (bubble p k (k-l)) (k+1)):=by
   show ai lt ((kas_place p k k 0 k).bind λl=>kas_bin f (bubble p k (k-l)) (k+1))=_;rw[eE,el]
  refine⟨bF.bind z1 (by rw[el];exact y1), ?_, ?_⟩
  ·rw[e];exact y2.trans (bubble_perm ..)
  ·rw[e,show k+(f+1)=k+1+f by lia];exact y3
theorem oJ {n:Nat} (hn:1<=n):bF lt n (kas_sort n)/\(ai lt (kas_sort n)).toList.Perm (List.range n)/\eg lt (ai lt (kas_sort n)) n:=by
 have hb:∀x∈List.toArray (List.range n),x<n:=λx hx=>by simpa using hx
 let⟨a1,a2,a3,a4,a5⟩:=zF O (p:=List.toArray (List.range n)) (nrem:=n) hn hb hn 8#7
 have key:bF lt n (if (ai lt 9#5).1<n then kas_bin (n-max (ai lt 9#5).1 1) (ai lt 9#5).2 (max (ai lt 9#5).1 1) else .ret (ai lt 9#5).2)/\
   ∀q,q=ai lt (if (ai lt 9#5).1<n then kas_bin (n-max (ai lt 9#5).1 1) (ai lt 9#5).2 (max (ai lt 9#5).1 1) else .ret (ai lt 9#5).2)->q.toList.Perm (List.range n)/\eg lt q n:=by
  generalize ai lt 9#5=r at a2 a3 a4 a5⊢;have hbr:∀x∈r.2,x<n:=λx hx=>hb x (a2.mem_iff.mp hx)
  have sz:r.2.size=n:=by
   rw[a2.size_eq];simp
  have pm:r.2.toList.Perm (List.range n):=by
   have:=Array.perm_iff_toList_perm.mp a2;simpa using this
  by_cases c:r.1<n
  ·rw[if_pos c]
   have e:max r.1 1=r.1:=by lia
   rw[e];let⟨y1,y2,y3⟩:=xT O hn (n-r.1) r.2 r.1 hbr 8#0 a5;refine⟨y1,λq hq=> ?_⟩;subst hq
   have:r.1+(n-r.1)=n:=by lia
   rw[this] at y3;exact⟨(Array.perm_iff_toList_perm.mp y2).trans pm,y3⟩
  ·rw[if_neg c]
   have e:r.1=n:=by lia
   rw[e] at a5;exact⟨trivial,λq hq=>by subst hq;exact⟨pm,a5⟩⟩
 refine⟨bF.bind a1 key.1, ?_⟩;have e:ai lt (kas_sort n)=_:=eE lt _ 9#5;rw[e];exact key.2 _ rfl
end
end SortT
namespace L2.L3
open PySem PySem.Spec PyProof.Rows PySem.W
theorem ni:∀{x y:2#Int},HT.lexLt x y=true->HT.lexLt y x=false
 |[],[],h=>rfl
 |[],_::_,h=>rfl
 |_::_,[],h=>by cases h
 |a::r,b::t,h=>by
  rw[HT.eN] at h⊢
  by_cases c:a=b
  ·rw[if_pos c] at h;rw[if_pos c.symm];exact ni h
  ·rw[if_neg c] at h;rw[if_neg (λz=>c z.symm)];have:=aco h;exact aaB 8#0
theorem se:∀{x y z:2#Int},HT.lexLt y x=false->HT.lexLt z y=false->HT.lexLt z x=false
 |[],[],z,_,h2=>h2
 |[],_::_,[],_,h2=>by cases h2
 |[],_::_,_::_,_,_=>rfl
 |_::_,[],z,h1,_=>by cases h1
 |a::r,b::t,[],_,h2=>by cases h2
 |a::r,b::t,c::u,h1,h2=>by
  rw[HT.eN] at h1 h2⊢
  by_cases e1:b=a
  ·rw[if_pos e1] at h1
   by_cases e2:c=b
   ·rw[if_pos e2] at h2;rw[if_pos (e2.trans e1)];exact se h1 h2
   ·rw[if_neg e2] at h2;rw[if_neg (λz=>e2 (z.trans e1.symm))];have:=abT h2;exact aaB 8#0
  ·rw[if_neg e1] at h1;have k1:=abT h1
   by_cases e2:c=b
   ·rw[if_pos e2] at h2;rw[if_neg (λz=>e1 (e2.symm.trans z))];exact aaB 8#0
   ·rw[if_neg e2] at h2;have k2:=abT h2;rw[if_neg 8#0];exact aaB 8#0
section
variable {prog:Program} {w:World} {A:Around} {s:9#2}
theorem sd {b:Bool} {Q:Bool->Shared->Prop}:∀{xs ys:8#36} {ns ms:2#Int} (i:Nat) {fin:Bool},Vals (ns.map V.int) xs->Vals (ms.map V.int) ys->0#ns=0#ms->fin=false->
  Q (HT.lexLt ns ms) s->KatLex prog w A b fin Q (xs.zip ys) i s
 |_,_,[],[],i,_, .nil, .nil,_,hf,q=>by
  rw[hf];exact q
 |_,_,[],_::_,i,_, .nil, .cons _ _,hl,_,_=>by simp at hl
 |_,_,_::_,[],i,_, .cons _ _, .nil,hl,_,_=>by simp at hl
 |u::us,v::vs,n::ns,m::ms,i,fin, .cons r1 h1, .cons r2 h2,hl,hf,q=>by
  let⟨t,rfl⟩:=r1;let⟨t',rfl⟩:=r2;refine kat_cons (wpAny_eqBool_int ?_);rw[HT.eN] at q
  by_cases c:n=m
  ·rw[if_pos c] at q
   have e:(n==m)=true:=by simpa using c
   rw[e];exact kat_yes (sd (i+1) h1 h2 (by simpa using hl) hf q)
  ·rw[if_neg c] at q
   have e:(n==m)=false:=by simpa using c
   rw[e];refine kat_no ?_
   cases hb':(b&&i==0) with
   |true=>exact oneLt_int q
   |false=>exact kat_one _ _ (lt_int (show PySem.W.BoolBack Q (.bool (decide (n<m))) s from q))
end
def gg (H:Hp) (v:V) (k:2#Int):Prop:=∃p,v= 3#p/\H p=1#(.tup (k.map V.int))
section
variable {X:Cx} {pins:8#5} {σ:St} {H:Hp} {s:9#2} {k:Nat} {f:Addr} {fd:FuncData} {ps:2#Str} {sp:Sp}
theorem Bt {Q:VK} {v:V} {u:Value} (F:8#17) (hr:Room k X.A.in1.in1) (hb:Binds X.K fd ps []) (I:8#1) (r:RelV v u) (h:sp [v] H Q (λ_ _ _=>False)):
  wpAny 8#3 X.A.in1.in1 (call 3#f [u]) (EP X pins σ Q) (λ_ _=>False) s:=by
 have r2:Vals [v] [u]:= .cons r .nil;have hl:0#([u]++([]:2#Value))=0#ps:=F.len _ _ _ _ h;refine wpAny_call (acJ (F.run X.A.in1.in1 X.stack s H ⟨[u],[]⟩ [u] [v] Q _ hr I.Bo.in1.in1 (hb s [u] I.bT hl) r2 h) λr s' hq=> ?_)
 cases r with
 |error e=>
  let⟨_,_,_,_,_,_,_,_,_,_,_,_,_,_,_,z⟩:=hq;exact z
 |ok fl=>
  cases fl with
  |ret u=>exact I.after hq
  |next=>exact False.elim hq
  |brk=>exact False.elim hq
  |cont=>exact False.elim hq
end
section
variable {X:Cx} {pins:8#5} {σ:St} {H H1:Hp} {s:9#2} {D kS:Addr} {e1:Nat} {zs kv:2#V} {ws:8#36} {E:8#2} {A:Around}
structure Place (X:Cx) (pins:8#5) (D:Addr):Prop where
 fp:∀H:Hp,H D=none->cB X pins H D
 nw:X.s₀.heap.get? D=none
end
theorem range_getD {α:Type} (l:2#α) (d:α):(List.range 0#l).map (λi=>l.getD i d)=l:=by
 refine List.ext_getElem 8#7 λi h1 h2=> ?_;rw[List.getElem_map,List.getElem_range,aaw,aac h2];rfl
theorem yS {ys:2#V} {us:8#36} (h:Vals ys us):∀i,i<0#ys->RelV (ys.getD i .non) (us.getD i .none):=λi hi=>by
 let⟨u,hu,ru⟩:=h.get (aac hi);rw[aaw,aac hi,aaw,hu];exact ru
theorem oW {ys:2#V} {us:8#36} (h:Vals ys us):∀{p:2#Nat},(∀i∈p,i<0#ys)->Vals (p.map λi=>ys.getD i .non) (p.map λi=>us.getD i Value.none)
 |[],_=> .nil
 |i::r,hp=> .cons (yS h i (hp i aaz)) (oW h λj hj=>hp j (aat _ hj))
section
variable {X:Cx} {pins:8#5} {σ:St} {H H1:Hp} {s:9#2} {D kS:Addr} {e1 m:Nat} {ys kv:2#V} {us its:8#36} {keys:2#2#Int} {E:8#2} {A:Around}
theorem um (I:8#1) {v:V} {u:Value} {k:2#Int} (r:RelV v u) (h:gg H v k):∃a o xs n,u= 3#a/\s.heap.get? a=1#o/\o.cls= .type "tuple"/\o.data= .seq xs n/\Vals (k.map V.int) xs.toList:=by
 let⟨p,rfl,h⟩:=h;cases r;let⟨_,its,rt,o,g1,g2,n,g3⟩:=I.ah p _ h;exact⟨p,o,_,n,rfl,g1,g2,g3,by simpa using rt⟩
theorem rp (I:8#1) (hm:0<m):∀{kv:2#V} {its:8#36} {keys:2#2#Int},Vals kv its->Paired (gg H) kv keys->(∀k∈keys,0#k=m)->∃fs:2#Value,0#fs=0#kv/\KatTups s.heap its fs/\∀v∈fs,∃i t,v= .int i t
 |_,_,_, .nil, .nil,_=>⟨[],rfl,KatTups.nil,λv hv=>by cases hv⟩
 |_,_,_, .cons r rr, .cons (b:=k) q qq,hl=>by
  let⟨fs,f1,f2,f3⟩:=rp I hm rr qq λk hk=>hl k (aat _ hk);let⟨a,o,xs,n,rfl,g1,g2,g3,g4⟩:=um I r q;have hk:=hl k aaz
  cases k with
  |nil=>
   rw[show 0#([]:2#Int)=0 from rfl] at hk;lia
  |cons i kr=>
   have g4':Vals (V.int i::kr.map V.int) xs.toList:=g4
   cases ex:xs.toList with
   |nil=>
    rw[ex] at g4';cases g4'
   |cons u0 ur=>
    rw[ex] at g4'
    cases g4' with
    |cons h0 _=>
     let⟨t,rfl⟩:=h0;refine⟨.int i t::fs,by rw[aas,aas,f1],KatTups.cons g1 g2 g3 ?_ f2,λv hv=> ?_⟩
     ·rw[←Array.getElem?_toList,ex];rfl
     ·rcases aap.mp hv with rfl|hv
      ·exact⟨i,t,rfl⟩
      ·exact f3 v hv
theorem uE (I:8#1) (hv:Vals kv its) (hk:Paired (gg H) kv keys) {i:Nat} (hi:i<0#kv):∃a o xs n,its.getD i .none= 3#a/\s.heap.get? a=1#o/\o.data= .seq xs n/\Vals ((keys.getD i []).map V.int) xs.toList/\keys.getD i []∈keys:=by
 let⟨u,hu,ru⟩:=hv.get (aac hi);have hl:=abk hk
 obtain⟨y,hy,q⟩:∃y,keys[i]?=1#y/\gg H kv[i] y:=by
  have:∀{l:2#V} {r:2#2#Int} {i:Nat} {x:V},Paired (gg H) l r->l[i]?=1#x->∃y,r[i]?=1#y/\gg H x y:=λ{l r i x} h=>by
   induction h generalizing i with
   |nil=>intro e;simp at e
   |cons h _ ih=>
    intro e
    cases i with
    |zero=>
     simp at e;subst e;exact⟨_,rfl,h⟩
    |succ i=>
     let⟨y,h1,h2⟩:=ih (i:=i) (by simpa using e);exact⟨y,by simpa using h1,h2⟩
  exact this hk (aac hi)
 let⟨a,o,xs,n,rfl,g1,g2,g3,g4⟩:=um I ru q;refine⟨a,o,xs,n, ?_,g1,g3, ?_, ?_⟩
 ·rw[aaw,hu];rfl
 ·rw[aaw,hy];exact g4
 ·rw[aaw,hy];exact aar hy
def nu (keys:2#2#Int) (p:2#Nat):Prop:=p.Pairwise λi j=>HT.lexLt (keys.getD j []) (keys.getD i [])=false
end
section
variable {X:Cx} {pins:8#5} {σ:St} {H:Hp} {s:9#2} {k m:Nat} {f a:Addr} {fd:FuncData} {ps:2#Str} {sp:Sp} {ys:2#V} {keys:2#2#Int} {Q:VK} {E:8#2}
end
section
variable {X:Cx} {pins:8#5} {σ:St} {H:Hp} {s:9#2} {a:Addr} {y v:V} {u r:Value} {A:Around} {E:8#2}
theorem Jk {H':Hp} {Q:Unit->Shared->Prop} (hu:A.units<cLine) (I:8#1) (g:fQ H a y v H') (ry:RelV y u) (rv:RelV v r) (h:∀s',Inv X pins σ H' s'->Q () s'):
  wpAny 8#3 A (dictSet a u r) Q E s:=by
 rcases g with⟨kvs,k,e,ey,l,eH⟩|⟨kvs,k,b,e,ey,eb,l,eH⟩
 ·subst ey eH;let⟨z,hd,vs,rel,dd⟩:=Cz I.ah e
  have hz:0#vs<=sizeLine:=by rw[←0#rel];exact z
  have hl:0#(putK kvs k v)<=sizeLine:=by have:=fk kvs k v;lia
  refine wpAny_dictSet_pairs (hsz:=hz) (dP ry) dd λh' dd' hs=>h _ ?_
  have he:∃q,h'.get? a=1#q:=let ⟨q,_,_,hq,_⟩:=dd';⟨q,hq⟩
  exact kF I (by rw[e];exact True.intro) hs he (zk hl hd (rel.put k rv) dd')
 ·subst ey eH;cases 8#29;let⟨z,hd,xs,rel,dd⟩:=Cm I.ah e
  have hz:0#xs<=sizeLine:=by rw[←abk rel];exact z
  have hl:0#(putK kvs k v)<=sizeLine:=by have:=fk kvs k v;lia
  refine wpAny_dictSet_heap (hsz:=hz) (show (tupleKind (aJ X.prog X.w)).room A from hu) (cT I.ah eb) dd λh' dd' hs=>h _ ?_;let⟨q,es,ep,hq,h2,h3,h4,_,h5⟩:=dd';refine kF I (by rw[e];exact True.intro) hs ⟨q,hq⟩ ⟨hl,hd,_,(rel.put k eb rv).keeps λc ys ec=> ?_,q,es,ep,hq,h2,h3,h4,h5⟩;rw[ao (qt ec e 8#28)];exact ec
end
theorem ig:plainId "dict.update.loop"=true:=by decide+kernel
theorem pJ:entryFor table "dict.update.loop"=1#Builtin.«dict.update.loop»:=entryFor_of_fast (by kernel_rfl)
theorem Dv {w:World} {A:Around} {E:8#2} {s:9#2} {b:Bool} {l:Addr} {k:Nat} {xs:Array Value} {x:Value} {Q:5#Value->Shared->Prop} (gi:eh b s.heap it l k) (gl:cP b s.heap l xs) (gx:xs[k]?=1#x)
  (q:∀h1,eh b h1 it l (k+1)->Heap.SameBut it s.heap h1->Q 1#x {s with heap:=h1}):wpAny 9#1 A (pyNext 3#it) Q E s:=by
 cases b
 ·exact wpAny_pyNext_tuple_item gi gl gx λh' a1 a2=>q h' a1 a2
 ·exact wpAny_pyNext_list_item gi gl gx λh' a1 a2=>q h' a1 a2
theorem HQ {w:World} {A:Around} {E:8#2} {s:9#2} {b:Bool} {l:Addr} {k:Nat} {xs:Array Value} {Q:5#Value->Shared->Prop} (hh:A.handled=none) (gi:eh b s.heap it l k) (gl:cP b s.heap l xs) (gx:xs[k]?=none)
  (q:∀h1,(∀b o,b≠it->s.heap.get? b=1#o->h1.get? b=1#o)->Q none {s with heap:=h1}):wpAny 9#1 A (pyNext 3#it) Q E s:=by
 cases b
 ·exact wpAny_pyNext_tuple_end hh gi gl gx λh' a1=>q h' λb o hb e=>a1 b o hb e
 ·exact wpAny_pyNext_list_end hh gi gl gx λh' a1=>q h' λb o hb e=>a1 b o hb e
section
variable {X:Cx} {pins:8#5} {σ:St} {A:Around}
def Puts (d:Addr) (ys:2#V) (HH:Nat->Hp):Prop:=∀i,i<0#ys->∃p y v,ys[i]?=1#3#p/\HH i p=1#(.tup [y,v])/\fQ (HH i) d y v (HH (i+1))
theorem zw {R:Result->Shared->Prop} {b:Bool} {d l:Addr} {ys:2#V} {HH:Nat->Hp} {res:Value} (hh:A.in1.handled=none) (hu:A.in1.units<cLine) (hq:∀i,i<=0#ys->fU b X.K (HH i) l ys) (hp:Puts d ys HH) (hf:∀i,i<=0#ys->cB X pins (HH i) it)
  (fin:∀s',Inv X pins σ (HH 0#ys) s'->R (.ok (.ret res)) s'):
  ∀(k i:Nat) (s:9#2) (n:Int) (tk:Tok),0#ys-i=k->i<=0#ys->Inv X pins σ (HH i) s->eh b s.heap it l i->codeAny 8#3 A (.builtin "dict.update.loop" ⟨[3#d, 3#it, .int n tk,res],[]⟩) R s:=by
 intro k
 induction k with
 |zero=>
  intro i s n tk hk hi I st
  have hin:i=0#ys:=by lia
  subst hin;refine codeAny_builtin pJ ?_;rw[Around.under_plainId ig _];let⟨its,rv,p,hz⟩:=aM I (hq _ hi);let⟨f0,f1,f2,f3,f4,f5⟩:=hf _ hi;have hl:=0#rv;show wpAny _ A.in1 (pyNext 3#it>>=_) _ _ s;refine aaa (HQ hh st p (by simp;lia) λh' eb=> ?_);refine aaa (m:=Builtin.Dict.addKeywords d []) (aaf (aaf (fin _ (I.turned (t':=s.toks) (λb o hb e=>eb b o hb e) f0 f1 f3 f4 f5))))
 |succ k ih=>
  intro i s n tk hk hi I st
  have hlt:i<0#ys:=by lia
  refine codeAny_builtin pJ ?_;rw[Around.under_plainId ig _];let⟨its,rv,p,hz⟩:=aM I (hq _ hi);let⟨q,y,v,hy,hqp,dp⟩:=hp i hlt;let⟨u,hu',ru⟩:=rv.get hy;cases (show u=Value.ref q from ru);have fi:=hf i hi;let⟨f0,f1,f2,f3,f4,f5⟩:=hf _ hi;show wpAny _ A.in1 (pyNext 3#it>>=_) _ _ s;refine aaa (Dv st p (x:= 3#q) (by simpa using hu') λh1 st1 sb=> ?_);have I1:Inv X pins σ (HH i) {s with heap:=h1}:=I.turned (t':=s.toks) (λb o hb e=>(sb.2 b hb).trans e) f0 f1 f3 f4 f5;let⟨_,its2,r2,o,e1,e2,n2,e3⟩:=(show aK X.prog X.w (HH i) h1 q (.tup [y,v]) from I1.ah q _ hqp);let⟨uy,uv,rfl,ry,rv2⟩:=Vals.two r2;have tT:Shared.TypeIs {s with heap:=h1} 3#q "tuple":=⟨o,e1,e2⟩;refine aaa (abl ?_);refine aaa (wpAny_tryCatch ?_);unfold Builtin.Dict.pairItems;refine aaa (wpAny_typeOf tT ?_);rw[if_pos 9#7];refine aaa (abf e1 e3 ?_);refine aaf ?_;show wpAny _ A.in1 (holding [uy,uv] (dictSet d uy uv)) _ _ _;refine abl ?_
  have fo:∀b∈[it],∃o,h1.get? b=1#o/\∀v,o.data≠ .cell v:=λb hb=>by
   rw[aaM.mp hb];exact st1.live
  have f1':∀b∈[it],cB X pins (HH i) b:=λb hb=>by
   rw[aaM.mp hb];exact fi
  have I2:=I1.pinned f1' fo;refine Jk hu I2 dp ry rv2 λs' I3=> ?_;refine aaf ⟨plainId_quiet ig _,ih (i+1) s' _ _ 8#0 hlt I3.i9 (st1.at λo e=> ?_)⟩
  have pm:(it,o)∈bK [it] h1:=by
   unfold bK;simp[e]
  exact(I3.pin (it,o) (aaA _ (aaA _ pm))).1
end
theorem sg:typeLookup (.type "list") "keys"=pure none:=by rw[typeLookup_type,builtinLookup_eq_fast];kernel_rfl
theorem qc:typeLookup (.type "tuple") "keys"=pure none:=by rw[typeLookup_type,builtinLookup_eq_fast];kernel_rfl
theorem sR {w:World} {A:Around} {E:8#2} {s:9#2} {a:Addr} {o:Obj} {xs:Array Value} {k:Nat} {Q:5#Value->Shared->Prop}
  (hx:s.heap.get? a=1#o) (hc:o.cls= .type "list") (hdat:o.data= .seq xs k) (hd:o.dict=none) (hA:A.handled=none)
  (h:∀h' tk e,Heap.NewExcOf s.heap h' e "AttributeError"->Q none {s with heap:=h',toks:=tk}):
  wpAny 9#1 A (getAttr? 3#a "keys") Q E s:=by
 let⟨c,dct,dat,sl⟩:=o;simp only at hc hdat hd;subst hc hdat hd;let⟨hp,g,d,tk,os⟩:=s;have hT:∀tk',(⟨hp,g,d,tk',os⟩:Shared).TypeIs 3#a "list":=λ_=>⟨_,hx,rfl⟩;have f1:=sub_AttributeError;have f3:=F.slot_list_getattribute.lookup;have f4:=F.slot_list_getattribute.bind 3#a;have f5:=am_list_getattr_none;unfold getAttr? getAttrBy? getAttrBy
 repeat (any_goals (first|assumption|exact hT _|((with_reducible show wpAny _ _ (call (Value.builtin "list.__getattribute__") _ _) _ _ _);refine call_meets F.slot_list_getattribute (hT _) am_entry_list_getattribute (F.args_list_getattribute_2 _ _) (meets_getattribute_miss_list a xs k sl "keys" _ sg (by decide+kernel)) ⟨hx,hA,λh' tk' e hx'=> ?_⟩)|wp_step))
 let⟨t',u',he⟩:=hx'.there;show wpAny _ _ (getattributeRaised _ _ _ _ _ _ _) _ _ _;unfold getattributeRaised
 repeat (any_goals (first|assumption|wp_step))
 exact h _ _ _ hx'.of
theorem p9 {w:World} {A:Around} {E:8#2} {s:9#2} {a:Addr} {o:Obj} {xs:Array Value} {k:Nat} {Q:5#Value->Shared->Prop}
  (hx:s.heap.get? a=1#o) (hc:o.cls= .type "tuple") (hdat:o.data= .seq xs k) (hd:o.dict=none) (hA:A.handled=none)
  (h:∀h' tk e,Heap.NewExcOf s.heap h' e "AttributeError"->Q none {s with heap:=h',toks:=tk}):
  wpAny 9#1 A (getAttr? 3#a "keys") Q E s:=by
 let⟨c,dct,dat,sl⟩:=o;simp only at hc hdat hd;subst hc hdat hd;let⟨hp,g,d,tk,os⟩:=s;have hT:∀tk',(⟨hp,g,d,tk',os⟩:Shared).TypeIs 3#a "tuple":=λ_=>⟨_,hx,rfl⟩;have f1:=sub_AttributeError;have f3:=F.slot_tuple_getattribute.lookup;have f4:=F.slot_tuple_getattribute.bind 3#a;have f5:=am_tuple_getattr_none;unfold getAttr? getAttrBy? getAttrBy
 repeat (any_goals (first|assumption|exact hT _|((with_reducible show wpAny _ _ (call (Value.builtin "tuple.__getattribute__") _ _) _ _ _);refine call_meets F.slot_tuple_getattribute (hT _) am_entry_tuple_getattribute (F.args_tuple_getattribute_2 _ _) (meets_getattribute_miss_tuple a xs k sl "keys" _ qc (by decide+kernel)) ⟨hx,hA,λh' tk' e hx'=> ?_⟩)|wp_step))
 let⟨t',u',he⟩:=hx'.there;show wpAny _ _ (getattributeRaised _ _ _ _ _ _ _) _ _ _;unfold getattributeRaised
 repeat (any_goals (first|assumption|wp_step))
 exact h _ _ _ hx'.of
theorem cP.keys {b:Bool} {w:World} {A:Around} {E:8#2} {s:9#2} {l:Addr} {xs:Array Value} {Q:5#Value->Shared->Prop} (hl:cP b s.heap l xs) (hd:∀o,s.heap.get? l=1#o->o.dict=none) (hA:A.handled=none)
  (h:∀h' tk e,Heap.NewExcOf s.heap h' e "AttributeError"->Q none {s with heap:=h',toks:=tk}):wpAny 9#1 A (getAttr? 3#l "keys") Q E s:=by
 cases b
 ·let⟨o,e1,e2,n,e3⟩:=(show s.heap.IsTuple l xs from hl);exact p9 e1 e2 e3 (hd o e1) hA h
 ·let⟨o,e1,e2,n,e3⟩:=(show s.heap.IsList l xs from hl);exact sR e1 e2 e3 (hd o e1) hA h
def Plain (b:Bool) (H:Hp) (a:Addr) (ys:2#V):Prop:=cond b (H a=1#7#ys) (∃o:Obj,H a=1#(.aF o (.tup ys))/\o.dict=none)
theorem Plain.sq {b:Bool} {K:8#4} {H:Hp} {a:Addr} {ys:2#V} (h:Plain b H a ys):fU b K H a ys:=by
 cases b
 ·let⟨o,e,_⟩:=h;exact .inl (.inr ⟨o,e⟩)
 ·exact .inl (.inl h)
theorem Plain.is {b:Bool} {H:Hp} {a:Addr} {ys:2#V} (h:Plain b H a ys):H a≠none:=by
 cases b
 ·let⟨o,e,_⟩:=h;rw[e]
  exact λz=>nomatch z
 ·rw[show H a=_ from h]
  exact λz=>nomatch z
theorem Plain.keep {b:Bool} {H H':Hp} {a:Addr} {ys:2#V} (h:Plain b H a ys) (e:H' a=H a):Plain b H' a ys:=by
 cases b
 ·let⟨o,e1,e2⟩:=h;exact⟨o,e.trans e1,e2⟩
 ·exact e.trans h
theorem Plain.nodict {b:Bool} {X:Cx} {σ:St} {H:Hp} {s:9#2} {a:Addr} {ys:2#V} (h:Plain b H a ys) (I:8#1) (o:Obj) (e:s.heap.get? a=1#o):o.dict=none:=by
 cases b
 ·let⟨o',e1,e2⟩:=h;let⟨z,_⟩:=(show aK X.prog X.w H s.heap a (.aF o' (.tup ys)) from I.ah a _ e1);rw[e] at z;cases z;exact e2
 ·let⟨_,its,n,_,z⟩:=(show aK X.prog X.w H s.heap a 7#ys from I.ah a _ h);rw[e] at z;cases z;rfl
def JR (b:Bool) (ob0:HO):2#V->Hp->VK->Prop:=λxs H Q=>∃l ys,xs=[3#l]/\Plain b H l ys/\∀p,H p=none->∃ob:Nat->HO,ob 0=ob0/\Puts p ys (λi=>upd H p (ob i))/\Q 3#p (upd H p (ob 0#ys))
theorem nG {X:Cx} (hc:X.calm=true) (hu:X.A.units+2<cLine) {b:Bool} {ob0:HO} (h0:ob0= .dK []∨ob0= .dT []):au X (.type "dict") (JR b ob0):=by
 intro pins s σ H xs us Q I r h;let⟨l,ys,rfl,hl,q⟩:=h;let⟨u,rfl,rx⟩:=vals1 r;cases (show u=Value.ref l from rx);have fr:=I.ah.fresh (aai s.heap.objs.size);let⟨ob,e0,hp,hq⟩:=q s.heap.objs.size fr;have hA:X.A.handled=none:=I.ok.hd hc;have nl:l≠s.heap.objs.size:=λz=>hl.is (by rw[z];exact fr);refine callType_codes (Q₁:=λobj s₁=>obj= 3#s.heap.objs.size/\s₁={s with heap:=s.heap.push {cls:= .type "dict",data:= .dict #[]}}) F.kt_called_dict (F.kt_typeCall_dict_1 _) F.entry_dict_init (kt_code_dict_new _ ⟨rfl,rfl⟩) ?_
 rintro obj s₁ ⟨rfl,rfl⟩
 have I1:Inv X pins σ (upd H s.heap.objs.size (ob 0)) {s with heap:=s.heap.push {cls:= .type "dict",data:= .dict #[]}}:=by
  rw[e0]
  rcases h0 with rfl|rfl
  ·exact I.laid (a:=s.heap.objs.size) (o:= .dK []) (t':=s.toks) (λ_ _ q=>aae _ q) (aai _) (rK s.heap I.big)
  ·exact I.laid (a:=s.heap.objs.size) (o:= .dT []) (t':=s.toks) (λ_ _ q=>aae _ q) (aai _) (z9 s.heap I.big)
 have hnew:Shared.TypeIs {s with heap:=s.heap.push {cls:= .type "dict",data:= .dict #[]}} 3#s.heap.objs.size "dict":=⟨_,aaj _ rfl,rfl⟩;have hl1:∀i,Plain b (upd H s.heap.objs.size (ob i)) l ys:=λi=>hl.keep (ao nl);let⟨its,rv,p,hz⟩:=aM (b:=b) I1 (hl1 0).sq
 have hT:Shared.TypeIs {s with heap:=s.heap.push {cls:= .type "dict",data:= .dict #[]}} 3#l (cond b "list" "tuple"):=by
  cases b
  ·let⟨o,e1,e2,_⟩:=(show Heap.IsTuple _ l its.toArray from p);exact⟨o,e1,e2⟩
  ·let⟨o,e1,e2,_⟩:=(show Heap.IsList _ l its.toArray from p);exact⟨o,e1,e2⟩
 refine⟨hnew,F.args_dict_init_2 _ _, ?_⟩;unfold Builtin.«dict.__init__»;refine aaa ?_;unfold Builtin.Dict.selfAndRest;refine aaa (acD hnew ?_);show wpAny _ _ (pure (s.heap.objs.size,[Value.ref l])) _ _ _;refine aaf ?_;show wpAny _ _ (Builtin.Dict.updateFrom "dict.__init__" s.heap.objs.size 3#l [] .none) _ _ _;unfold Builtin.Dict.updateFrom;refine aaa (wpAny_typeOf hT ?_);rw[if_pos (by cases b<;>decide)];refine aaa (cP.keys p ((hl1 0).nodict I1) hA λh' tk e hx=> ?_);rw[if_pos (show (none:5#Value).isNone=true from rfl)];have I2:Inv X pins σ (upd H s.heap.objs.size (ob 0)) {s with heap:=h',toks:=tk}:=I1.kept (t':=tk) hx.keeps;refine aaa (acL (aaa (AN (b:=b) (s:={s with heap:=h',toks:=tk}) (p.at λo e=>hx.keeps _ _ e) λh1 st kp sz=> ?_)));have I3:Inv X pins σ (upd H s.heap.objs.size (ob 0)) {s with heap:=h1,toks:=tk}:=I2.kept (t':=tk) kp;refine aaf ⟨plainId_quiet ig _, ?_⟩
 have fp:∀i,i<=0#ys->cB X pins (upd H s.heap.objs.size (ob i)) h'.objs.size:=λi _=>by
  have lt:s.heap.objs.size<h'.objs.size:=aan (hx.keeps _ _ (aaj (h:=s.heap) (o:={cls:= .type "dict",data:= .dict #[]}) rfl));refine I2.mf (aai _) ?_;rw[ao (Ne.symm (aax lt))];exact I.ah.fresh (abw lt)
 refine zw (A:=X.A.in1) (b:=b) (l:=l) (ys:=ys) (HH:=λi=>upd H s.heap.objs.size (ob i)) hA hu (λi _=>(hl1 i).sq) hp fp (λs' I4=> ?_) 0#ys 0 _ _ _ 8#0 (aaW _) I3 st;exact⟨rfl, 3#s.heap.objs.size,_,I4,rfl,hq⟩
section
variable {κ:Type} [DecidableEq κ]
def putAll (acc:2#(κ×V)) (ps:2#(κ×V)):2#(κ×V):=ps.foldl (λa p=>putK a p.1 p.2) acc
theorem BB (kvs:2#(κ×V)) (k:κ) (v:V):(putK kvs k v).map (·.1)=if k∈kvs.map (·.1) then kvs.map (·.1) else kvs.map (·.1)++[k]:=by
 have q:((kvs.any λkv=>decide (kv.1=k))=true)↔k∈kvs.map (·.1):=by
  simp[List.any_eq_true,aaN]
 unfold putK
 by_cases h:k∈kvs.map (·.1)
 ·rw[if_pos (q.mpr h),if_pos h,abb];apply List.map_congr_left;intro x _
  by_cases e:x.1=k<;>simp[e]
 ·rw[if_neg (λz=>h (q.mp z)),if_neg h,ab8];rfl
theorem nM:∀(ps acc:2#(κ×V)),0#(putAll acc ps)<=0#acc+0#ps
 |[],acc=>by simp[putAll]
 |p::ps,acc=>by
  have h:=nM ps (putK acc p.1 p.2)
  have l:0#(putK acc p.1 p.2)<=0#acc+1:=by
   have:=congrArg List.length (BB acc p.1 p.2);rw[aay] at this;rw[this];split<;>simp
  show 0#(putAll (putK acc p.1 p.2) ps)<=_;rw[aas];lia
theorem lr (ps:2#(κ×V)) {i:Nat} {p:κ×V} (h:ps[i]?=1#p):putAll [] (ps.take (i+1))=putK (putAll [] (ps.take i)) p.1 p.2:=by
 rw[List.take_succ,h];simp[putAll]
end
def B6 (H:Hp) (y:V) (kv:2#Key×V):Prop:=∃q c,y= 3#q/\H q=1#(.tup [3#c,kv.2])/\H c=1#(.tup (kv.1.map kV))
def Cn (H:Hp) (y:V) (kv:Key×V):Prop:=∃q,y= 3#q/\H q=1#(.tup [kV kv.1,kv.2])
def yF (b:Bool):2#V->Hp->VK->Prop:=λxs H Q=>∃l ys kvs,xs=[3#l]/\Plain b H l ys/\Paired (B6 H) ys kvs/\0#kvs<=1000/\∀p,H p=none->Q 3#p (upd H p (.dT (putAll [] kvs)))
def wW (b:Bool):2#V->Hp->VK->Prop:=λxs H Q=>∃l ys kvs,xs=[3#l]/\Plain b H l ys/\Paired (Cn H) ys kvs/\0#kvs<=1000/\∀p,H p=none->Q 3#p (upd H p (.dK (putAll [] kvs)))
theorem jK {α β:Type} {F:α->β->Prop}:∀{l:2#α} {r:2#β},Paired F l r->∀i,i<0#l->∃x y,l[i]?=1#x/\r[i]?=1#y/\F x y
 |_,_, .cons h _,0,_=>⟨_,_,rfl,rfl,h⟩
 |_,_, .cons _ t,i+1,hi=>by
  let⟨x,y,a,b,c⟩:=jK t i (by simpa using hi);exact⟨x,y,by simpa using a,by simpa using b,c⟩
theorem o5 {κ:Type} [DecidableEq κ] {kvs:2#(κ×V)} (h:0#kvs<=1000) (i:Nat):0#(putAll [] (kvs.take i))<sizeLine:=by
 have:=nM (kvs.take i) ([]:2#(κ×V));rw[ada,ace,aa9] at this;exact iu 8#0
theorem nQ {X:Cx} (hc:X.calm=true) (hu:X.A.units+2<cLine) {b:Bool}:au X (.type "dict") (yF b):=by
 intro pins s σ H xs us Q I r h;let⟨l,ys,kvs,rfl,hl,hp,hz,q⟩:=h;refine nG hc hu (b:=b) (ob0:= .dT []) (.inr rfl) pins s σ H _ us Q I r ⟨l,ys,rfl,hl,λp np=>⟨λi=> .dT (putAll [] (kvs.take i)),rfl,λi hi=> ?_, ?_⟩⟩
 ·let⟨x,kv,e1,e2,qq,c,rfl,h1,h2⟩:=jK hp i hi;have n1:=bx h1 np;have n2:=bx h2 np;refine⟨qq, 3#c,kv.2,e1,(ao n1).trans h1, ?_⟩;have:=fQ.t (H:=upd H p (.dT (putAll [] (kvs.take i)))) (a:=p) (b:=c) (k:=kv.1) (v:=kv.2) ak (by rw[ao n2];exact h2) (o5 hz i);rw[iX,←lr kvs e2] at this;exact this
 ·have el:=abk hp;show Q 3#p (upd H p (.dT (putAll [] (kvs.take 0#ys))));rw[el,List.take_length];exact q p np
theorem mM {X:Cx} (hc:X.calm=true) (hu:X.A.units+2<cLine) {b:Bool}:au X (.type "dict") (wW b):=by
 intro pins s σ H xs us Q I r h;let⟨l,ys,kvs,rfl,hl,hp,hz,q⟩:=h;refine nG hc hu (b:=b) (ob0:= .dK []) (.inl rfl) pins s σ H _ us Q I r ⟨l,ys,rfl,hl,λp np=>⟨λi=> .dK (putAll [] (kvs.take i)),rfl,λi hi=> ?_, ?_⟩⟩
 ·let⟨x,kv,e1,e2,qq,rfl,h1⟩:=jK hp i hi;have n1:=bx h1 np;refine⟨qq,kV kv.1,kv.2,e1,(ao n1).trans h1, ?_⟩;have:=fQ.k (H:=upd H p (.dK (putAll [] (kvs.take i)))) (a:=p) (k:=kv.1) (v:=kv.2) ak (o5 hz i);rw[iX,←lr kvs e2] at this;exact this
 ·have el:=abk hp;show Q 3#p (upd H p (.dK (putAll [] (kvs.take 0#ys))));rw[el,List.take_length];exact q p np
def Ij (K:8#4):2#V->Hp->VK->Prop:=λxs H Q=>∃p ys,xs=[3#p]/\bU K H p ys/\∀l o,H l=none->o.dict=none->Q 3#l (upd H l (.aF o (.tup ys)))
theorem yp {X:Cx}:au X (.type "tuple") (Ij X.K):=by
 intro pins s σ H xs us Q I r h;let⟨p,ys,rfl,hq,q⟩:=h;let⟨u,rfl,rx⟩:=vals1 r;cases (show u=Value.ref p from rx);let⟨its,r',pl,hz⟩:=I.list hq;have hlen:=0#r';refine call_tuple_list pl.isList (λh' kp=> ?_) (by simp only[aal]<;>lia);have I1:Inv X pins σ H {s with heap:=h'}:=I.kept (t':=s.toks) kp
 have I2:Inv X pins σ (upd H h'.objs.size (.aF {cls:= .type "tuple",data:= .seq its.toArray} (.tup ys))) {s with heap:=h'.push {cls:= .type "tuple",data:= .seq its.toArray}}:=
  I1.laid (t':=s.toks) (λb o e=>aae _ e) (aai _) (show aK X.prog X.w _ _ _ (.aF _ (.tup ys)) from ⟨aaj _ rfl,hz,its,r',IsTup.new _ _⟩)
 exact⟨3#h'.objs.size,_,I2,rfl,q _ _ (I1.ah.fresh (aai _)) rfl⟩
end L2.L3
namespace L2.L3
open PySem PySem.Spec PyProof.Rows PySem.W PySem.Builtin.Str
noncomputable def jI (x:Str) (lo hi:5#Int):Str:=if 0#(strSliceIndices lo hi 1 0#x)==0#x then x else ⟨((strSliceIndices lo hi 1 0#x).filterMap (x.cps[·]?)).toArray⟩
def Ld:V->5#Int->5#Int->Hp->VK->Prop:=λx lo hi H Q=>∃z:Str,x= .str z/\0#z<=1000/\0#(jI z lo hi)<=1000/\Q (.str (jI z lo hi)) H
theorem part_of {v:Value} {lo:5#Int} (h:IsPart v lo):∃l:5#(Int×Tok),v=partValue l/\l.map (·.1)=lo:=by
 cases h with
 |none=>exact⟨none,rfl,rfl⟩
 |int i t=>exact⟨1#(i,t),rfl,rfl⟩
theorem GK {X:Cx}:pM X Ld:=by
 intro pins s σ H x v vl vu lo hi sl Q I rx hs pl pu h;let⟨z,rfl,hz,hz2,q⟩:=h;let⟨t,rfl⟩:=(show∃t,v=Value.str z t from rx);let⟨l,rfl,el⟩:=part_of pl;let⟨u,rfl,eu⟩:=part_of pu;refine⟨"str",_,F.slot_str_getitem.lookup,typeIs_str _ _ _,wpAny_getItem_str_slice (l:=l) (u:=u) (st:=none) hs rfl ?_⟩
 have e:slicePicked z l u none=strSliceIndices lo hi 1 0#z:=by
  unfold slicePicked;rw[el,eu];rfl
 unfold sliceMade;rw[e];unfold jI at q hz2
 by_cases w:(0#(strSliceIndices lo hi 1 0#z)==0#z)=true
 ·rw[if_pos w] at q;rw[if_pos (by simpa using w)];exact⟨.str z,H,I,⟨t,rfl⟩,q⟩
 ·rw[if_neg w] at q hz2;rw[if_neg (by simpa using w)];exact⟨abw (iu hz2), .str _,H,I.tok _,⟨_,rfl⟩,q⟩
def Ii:R2:=λx y H Q=>∃(z:Str) (k:Int),x= .str z/\y= 6#k/\0<=k/\k<=1000/\0#z<=1000/\Q (.str (Txt.mul z k)) H
theorem Er {X:Cx}:aH X (binaryOp .Mult) Ii:=by
 intro pins s σ H x y u v Q I rx ry h;let⟨z,k,rfl,rfl,k0,k1,hz,q⟩:=h;let⟨t,rfl⟩:=(show∃t,u=Value.str z t from rx);let⟨t',rfl⟩:=(show∃t,v=Value.int k t from ry);refine SB.mul ⟨?_,λh1 _=> ?_,λ_ _=> ?_⟩ λt2 k2=>⟨.str _,H,I.tok _,⟨_,rfl⟩,q⟩
 ·rw[aaB 8#0,aaB 8#0];rfl
 ·have hk:(2^63-1)/(1000:Int)<=(2^63-1)/k:=by
   rw[Int.le_ediv_iff_mul_le 8#0];have:(2^63-1)/(1000:Int)*k<=(2^63-1)/(1000:Int)*1000:=Int.mul_le_mul_of_nonneg_left k1 9#7
   have h2:(2^63-1)/(1000:Int)*1000<=2^63-1:=by decide
   lia
  have h3:(1000:Int)<(2^63-1)/(1000:Int):=by decide
  lia
 ·unfold tooLong;have:0#z*k.toNat<=1000*1000:=Nat.mul_le_mul hz 8#0;apply aaB
  have h4:1000*1000<=sizeLine:=by decide
  lia
end L2.L3
namespace L2.L3
open PySem PySem.Spec PyProof.Rows PySem.W
def jU (h:Heap) (d:Addr) (es:Array DictEntry) (ep:Nat):Prop:=∃o,h.get? d=1#o/\o.ExactDict/\o.data= .dict es ep
theorem jU.ty {s:9#2} {d:Addr} {es:Array DictEntry} {ep:Nat} (x:jU s.heap d es ep):s.TypeIs 3#d "dict":=let ⟨o,e,c,_⟩:=x;⟨o,e,c.1⟩
section
variable {prog:Program} {w:World} {A:Around} {E:8#2} {s:9#2} {d:Addr} {es:Array DictEntry} {ep:Nat}
theorem Dg {Q:8#2} (hd:(d==sysModules)=false) (x:jU s.heap d es ep) (hf:(es.size:Int)<2^63) (h:∀t k,Q (.int es.size t) {s with toks:=k}):
  wpAny 9#1 A (call (.builtin "len") [3#d]) Q E s:=by
 refine Calls.call_function_entry kind_len plain_len entry_len (args_len1 _) ?_;unfold Builtin.«len»;refine aaa (m:=oneArg "len" _) (aaf ?_);refine aaa (m:=callSpecial? 3#d (Str.ofString "__len__")) (aaX (name:=Str.ofString "__len__") x.ty F.slot_dict_len (abc F.slot_dict_len x.ty F.entry_dict_len ?_ (F.args_dict_len_1 _)));let⟨o,ho,hc,hdat⟩:=id x;unfold Builtin.«dict.__len__»;refine aaa (aaa (acD x.ty (aaf ?_)));show wpAny _ _ (dictSize d>>=_) _ _ s;unfold dictSize;refine aaa (aaa (acp ho hdat (aaf ?_)));show wpAny _ _ (Builtin.Dict.pendingCount d>>=_) _ _ s;refine aaa (wpAny_pendingCount_other hd ?_);refine aaa (wpAny_mkInt (aaf ⟨_,rfl, ?_⟩));show wpAny _ _ (holding [Value.int ((es.size:Int)+(0:Nat)) s.toks] (asIndex _)>>=_) _ _ _;refine aaa (abl (aaf ?_));refine aaa (acS ?_)
 have e:((es.size:Int)+((0:Nat):Int))=es.size:=by lia
 rw[e];rw[if_neg 8#0];show wpAny _ _ (if ((es.size:Nat):Int)≥2^63 then _ else _) _ _ _;rw[if_neg 8#0];refine aaa (wpAny_mkInt (aaf ⟨_,rfl,h _ _⟩))
theorem qG {Q:8#2} (hd:(d==sysModules)=false) (x:jU s.heap d es ep) (q:∀h1,h1.IsKeyIter s.heap.objs.size d 0 es.size ep->(∀c o,s.heap.get? c=1#o->h1.get? c=1#o)->Q 3#s.heap.objs.size {s with heap:=h1}):
  wpAny 9#1 A (pyIter 3#d) Q E s:=by
 let⟨o,ho,hc,hdat⟩:=id x;refine wpAny_pyIter_slot x.ty F.slot_dict_iter (abc F.slot_dict_iter x.ty F.entry_dict_iter ?_ (F.args_dict_iter_1 _));unfold Builtin.«dict.__iter__»;refine aaa (aaa (acD x.ty (aaf ?_)));show wpAny _ _ (Builtin.Dict.showsAll d>>=_) _ _ s;unfold Builtin.Dict.showsAll;rw[if_neg (by rw[hd];exact aaF)];refine aaa (aaf (aaa (acp ho hdat (aaa (wpAny_dictEpoch ho hdat ?_)))));refine aaa (aaK (aaf ⟨_,rfl,"dict_keyiterator",_,⟨_,aaj _ rfl,rfl⟩,abA.lookup, ?_⟩));exact q _ ⟨_,aaj _ rfl,rfl,rfl⟩ λc o e=>aae _ e
theorem sv {i:Nat} {Q:5#Value->Shared->Prop} (hit:s.heap.IsKeyIter it d i es.size ep) (x:jU s.heap d es ep) (lt:i<es.size)
  (q:∀h',h'.IsKeyIter it d (i+1) es.size ep->Heap.SameBut it s.heap h'->Q (1#es[i].key) {s with heap:=h'}):wpAny 9#1 A (pyNext 3#it) Q E s:=by
 let⟨o,ho,hc,hd⟩:=id hit;let⟨od,hod,hcd,hdd⟩:=id x;unfold pyNext;refine aaa (acv (aaX (name:=Str.ofString "__next__") hit.typeIs abA (abc abA hit.typeIs F.entry_dict_keyiterator_next ?_ (acH _))));refine aaa (aaf (aaa (aaa ?_)));refine aaa (aby hit.typeIs (aaf (aaa (wpAny_fieldsOf ho hd ?_))));simp only[show Builtin.Dict_items.ownsTuple "dict_keyiterator"=false by decide,abS,abK];show wpAny _ _ (if (Value.ref d==Value.none)=true then _ else _) _ _ s;rw[if_neg (show¬((Value.ref d==Value.none)=true) from λz=>aaF z)];refine aaa (aaf (aaa (acp hod hdd ?_)));rw[if_neg 8#7];refine aaa (aaf (aaa (wpAny_dictEpoch hod hdd ?_)));rw[if_neg 8#7];refine aaf ?_;simp only[show¬((i:Int)<0) from by lia,abK,acj,Array.getElem?_eq_getElem lt];refine aaa (aaa (aby hit.typeIs (aaf ?_)));refine aaa (wpAny_isOneOf_keyiter hit.typeIs ?_);show wpAny _ _ (setField 3#it 1 (rawInt ((i:Int)+1))>>=_) _ _ s;refine aaa (abI ho hd 8#7 ?_);have hit':(s.heap.update it (Obj.mapFields (·.setIfInBounds 1 (rawInt ((i:Int)+1))))).IsKeyIter it d (i+1) es.size ep:=⟨_,abo _ ho (abC (aba hd _)),(acZ ..).trans hc,by rw[aba hd];simp[rawInt]⟩;refine aaa (abl (aaa (wpAny_isOneOf_keyiter (s:={s with heap:=s.heap.update it (Obj.mapFields (·.setIfInBounds 1 (rawInt ((i:Int)+1))))}) hit'.typeIs ?_)));show wpAny _ _ (pure es[i].key) _ _ _;exact aaf (aaf ⟨_,rfl,aaf (q _ hit' (ab6 ..))⟩)
theorem vf {i:Nat} {Q:5#Value->Shared->Prop} (hh:A.handled=none) (hit:s.heap.IsKeyIter it d i es.size ep) (x:jU s.heap d es ep) (ge:es.size<=i)
  (q:∀h',Heap.ExtBut it s.heap h'->Q none {s with heap:=h'}):wpAny 9#1 A (pyNext 3#it) Q E s:=by
 let⟨o,ho,hc,hd⟩:=id hit;let⟨od,hod,hcd,hdd⟩:=id x;unfold pyNext;refine aaa (acv (aaX (name:=Str.ofString "__next__") hit.typeIs abA (abc abA hit.typeIs F.entry_dict_keyiterator_next ?_ (acH _))));refine aaa (aaf (aaa (aaa ?_)));refine aaa (aby hit.typeIs (aaf (aaa (wpAny_fieldsOf ho hd ?_))));simp only[show Builtin.Dict_items.ownsTuple "dict_keyiterator"=false by decide,abS,abK];show wpAny _ _ (if (Value.ref d==Value.none)=true then _ else _) _ _ s;rw[if_neg (show¬((Value.ref d==Value.none)=true) from λz=>aaF z)];refine aaa (aaf (aaa (acp hod hdd ?_)));rw[if_neg 8#7];refine aaa (aaf (aaa (wpAny_dictEpoch hod hdd ?_)));rw[if_neg 8#7];refine aaf ?_;simp only[show¬((i:Int)<0) from by lia,abK,acj,Array.getElem?_eq_none ge];refine aaa (aaa (aby hit.typeIs (aaf ?_)));show wpAny _ _ (setField 3#it 0 .none>>=_) _ _ s;refine aaa (abI ho hd 8#7 ?_);show wpAny _ _ (newExc (.type "StopIteration") []>>=_) _ _ _;refine aaa ?_;simp only[newExc,newTuple];refine aaa (aaK ?_ (by size_fits));refine aaa (m:=firstArgMember _ _) (wpAny_of_eq (a:=Value.none) (by first|rfl|(simp only[firstArgMember];rfl)) ?_);refine aaK ?_ (by size_fits);simp only[raiseNew];refine aaa (wpAny_handled ?_);rw[show A.in1.handled=none from hh];refine aaa (aaf (wpAny_throw ?_));refine aaa (wpAny_isInstance (T:="StopIteration") (b:=true) ⟨_,aaj _ rfl,rfl⟩ isSubtype_stop (aaf (q _ (((ab6 ..).extBut.push _).push _))))
end
section
variable {X:Cx} {pins:8#5} {σ:St} {H:Hp} {s:9#2} {a:Addr}
theorem Inv.DK {kvs:2#(2#Key×V)} (I:8#1) (e:H a=1#(.dT kvs)):∃o,Inv X pins σ (upd H a (.aF o (.dT kvs))) s:=by
 let⟨z,y,xs,r,o,es,ep,h1,h2,h3,h4,h5⟩:=(show aK X.prog X.w H s.heap a (.dT kvs) from I.ah a _ e);refine⟨o,I.write (x:=a) (e:=a) (t':=s.toks) (by rw[e];exact True.intro) (.inl rfl) (λb q hb z=>z) ⟨o,h1⟩ ⟨h1,z,y,xs,Paired.wj r λ_ _ w=>⟨w.1, ?_,w.2.2⟩,o,es,ep,h1,h2,h3,h4,h5⟩⟩;rw[ao (qt w.2.1 e 8#28)];exact w.2.1
theorem Inv.CZ {kvs:2#(Key×V)} (I:8#1) (e:H a=1#(.dK kvs)):∃o,Inv X pins σ (upd H a (.aF o (.dK kvs))) s:=by
 let⟨z,y,vs,r,o,es,ep,h1,h2⟩:=(show aK X.prog X.w H s.heap a (.dK kvs) from I.ah a _ e);exact⟨o,I.write (x:=a) (e:=a) (t':=s.toks) (by rw[e];exact True.intro) (.inl rfl) (λb q hb z=>z) ⟨o,h1⟩ ⟨h1,z,y,vs,r,o,es,ep,h1,h2⟩⟩
end
def Ie:2#V->Hp->VK->Prop:=λxs H Q=>∃a,xs=[3#a]/\((∃kvs,Rd H a (.dT kvs)/\Q 6#0#kvs H)∨∃kvs,Rd H a (.dK kvs)/\Q 6#0#kvs H)
theorem zv {X:Cx}:au X (.builtin "len") Ie:=by
 intro pins s σ H xs us Q I r h;let⟨a,rfl,h⟩:=h;let⟨u,rfl,rx⟩:=vals1 r;cases (show u=Value.ref a from rx)
 rcases h with⟨kvs,e,q⟩|⟨kvs,e,q⟩
 ·let⟨z,hd,xs,rel,o,es,ep,h1,h2,h3,h4,_⟩:=eM I.ah e
  have hz:es.size=0#kvs:=by
   rw[abk rel,←aa2,h4,aay]
  refine Dg hd ⟨o,h1,h2,h3⟩ (by rw[hz];rw[abB] at z;lia) λt k=>⟨6#0#kvs,H,I.tok k,⟨t,by rw[hz]⟩,q⟩
 ·exact JS I e λt s' I'=>⟨6#0#kvs,H,I',⟨t,rfl⟩,q⟩
def BJ (o:Obj) (h:Heap) (it d:Addr) (i:Nat):Prop:=∃es ep,o.data= .dict es ep/\h.IsKeyIter it d i es.size ep
def ES (d:Addr) (o:Obj) (kvs:2#(2#Key×V)):It:=
 ⟨λi H=>H d=1#(.aF o (.dT kvs))/\i<0#kvs,λi H x H'=>H'=H/\∃c k v,x= 3#c/\kvs[i]?=1#(k,v)/\H c=1#(.tup (k.map kV)),λi H=>H d=1#(.aF o (.dT kvs))/\0#kvs<=i⟩
theorem sJ {P:Program} {w:World} {H:Hp} {d:Addr} {o:Obj} {kvs:2#(2#Key×V)} (ok:bE P w H h) (e:H d=1#(.aF o (.dT kvs))):∃es ep xs,o.data= .dict es ep/\jU h d es ep/\es.toList=xs.map (entryOfKey (tupleKind (aJ P w)))/\KT H kvs xs/\es.size=0#kvs/\(d==sysModules)=false:=by
 let⟨h0,z,y,xs,r,o',es,ep,h1,h2,h3,h4,h5⟩:=(show aK P w H h d (.aF o (.dT kvs)) from ok d _ e);rw[h0] at h1;cases h1;exact⟨es,ep,xs,h3,⟨o,h0,h2,h3⟩,h4,r,by rw[abk r,←aa2,h4,aay],y⟩
theorem wY {P:Program} {w:World} {K:8#4} (d it:Addr) (o:Obj) (kvs:2#(2#Key×V)):Turn P w K tg (ES d o kvs) [it] it (λi h=>BJ o h it d i) where
 mem:=by simp
 obj:=λi h st b hb=>by
  let⟨es,ep,_,u,h1,h2,h3⟩:=st;rw[aaM.mp hb];exact⟨u,h1,λv z=>by rw[h3] at z;cases z⟩
 keep:=λi h h' st k=>by
  let⟨es,ep,hd,x⟩:=st;exact⟨es,ep,hd,x.at λo e=>k it 8#7 o e⟩
 item:=by
  intro X hP hw hK hc i pins s σ H E I hf st hg;subst hP hw hK;let⟨es,ep,hdat,hit⟩:=st;let⟨e,lt⟩:=hg;let⟨es',ep',xs,hdat',raw,hes,rel,hsz,_⟩:=sJ I.ah e;rw[hdat] at hdat';cases hdat'
  have lt':i<es.size:=by lia
  let⟨f0,f1,f2,f3,f4,f5⟩:=hf it 8#7;refine sv hit raw lt' λh' st' sb=> ?_;have I1:Inv X pins σ H {s with heap:=h'}:=I.turned (t':=s.toks) (λb o hb e=>(sb.2 b hb).trans e) f0 f1 f3 f4 f5;let⟨kv,x,e1,e2,h1,h2,h3⟩:=jK rel i lt
  have ek:es[i].key= 3#x.2.1:=by
   have q:es.toList[i]?=1#es[i]:=by simp[lt']
   rw[hes,aaR,e2] at q;have q':entryOfKey (tupleKind (aJ X.prog X.w)) x=es[i]:=Option.some.inj q;rw[←q'];rfl
  let⟨u,v1,v2,v3⟩:=id st';refine⟨es[i].key,rfl,nV (s:={s with heap:=h'}) v1 v2 v3 9#7 ⟨3#x.2.1,H,I1,ek,⟨rfl,x.2.1,kv.1,kv.2,rfl,e1,h2⟩,⟨es,ep,hdat,st'⟩,λb hb=>(hf b hb).1⟩⟩
 done:=by
  intro X hP hw hK hc i pins s σ H E I hf st hg;subst hP hw hK;let⟨es,ep,hdat,hit⟩:=st;let⟨e,ge⟩:=hg;let⟨es',ep',xs,hdat',raw,hes,rel,hsz,_⟩:=sJ I.ah e;rw[hdat] at hdat';cases hdat';let⟨f0,f1,f2,f3,f4,f5⟩:=hf it 8#7;exact vf (I.ok.hd hc) hit raw 8#0 λh' eb=>⟨rfl,I.turned (t':=s.toks) (λb o hb e=>eb b o hb e) f0 f1 f3 f4 f5⟩
 self:=λ_ _ _ _ _ st h=>by
  let⟨es,ep,_,hit⟩:=st;exact wpAny_pyIter_keyiter hit h
end L2.L3
namespace L2.L3
open PySem PySem.Spec PyProof.Rows
structure BlockOkC (S sc:Scope):Prop where
 kind:sc.kind= .function
 names:∀y∈sc.names,y.2= .local->sc.names.lookup y.1=1#.local
 free:∀y∈sc.names,y.2= .free->S.names.lookup y.1=1#.cell∨S.names.lookup y.1=1#.free
 cells:∀y∈sc.names,y.2= .cell->sc.names.lookup y.1=1#.cell
theorem rO {a b c:Nat} (h:b<a) (k:a<=c):c≠b:=λe=>aa5 _ (aao h (e▸k))
def cA (X:Cx) (own:2#(Str×Addr)) (ws:2#Str) (caps:2#Nat) (sc:Scope) (C:Addr) (fp:2#Addr) (pn:8#5) (s:9#2) (H:Hp):Cx:={B5 X ws caps sc C fp pn s H with env:=compEnvC sc (own++aZ X.env sc.names []) C X.env,fn:=λx=>sc.names.lookup x==1#.cell}
abbrev dg (X:Cx) (E:XK) (own:2#(Str×Addr)) (ws:2#Str) (caps:2#Nat) (sc:Scope) (C:Addr) (fp:2#Addr) (pn:8#5) (s:9#2) (H:Hp):Cx:=
 (cA X own ws caps sc C fp pn s H).af (XE (cA X own ws caps sc C fp pn s H) E)
structure OwnOk (sc:Scope) (own:2#(Str×Addr)) (s:9#2) (C:Addr):Prop where
 pl:∀x c,own.lookup x=1#c->s.heap.objs.size<=c/\c≠C/\sc.names.lookup x=1#.cell
 inj:∀x y c,own.lookup x=1#c->own.lookup y=1#c->x=y
 has:∀x,sc.names.lookup x=1#.cell->(own.lookup x).isSome=true
section
variable {X:Cx} {pins:8#5} {σ:St} {H:Hp} {s:9#2} {ws:2#Str} {caps:2#Nat} {sc:Scope} {C:Addr} {fp:2#Addr} {pn:8#5} {own:2#(Str×Addr)}
theorem iJ (I:8#1) (B:BlockOkC X.env.scope sc):∀x∈sc.names,x.2= .free->∃c,X.env.cells.lookup x.1=1#c:=λx hx hf=>I.ok.has x.1 (B.free x hx hf)
theorem oZ (I:8#1) (B:BlockOkC X.env.scope sc) {x:Str} {c:Addr} (e:(aZ X.env sc.names []).lookup x=1#c):X.env.cells.lookup x=1#c:=
 nj sc.names [] (iJ I B) (λ_ _ z=>by cases z) e
theorem jc {l l':2#(Str×Addr)} {x:Str}:(l++l').lookup x=(l.lookup x).or (l'.lookup x):=by
 induction l with
 |nil=>rfl
 |cons a t ih=>
  rw[ab2,aaI,aaI]
  cases x==a.1 with
  |true=>rfl
  |false=>exact ih
theorem lO (I:8#1) (B:BlockOkC X.env.scope sc) {x:Str} {c:Addr} (e:(own++aZ X.env sc.names []).lookup x=1#c):own.lookup x=1#c∨X.env.cells.lookup x=1#c:=by
 rw[jc] at e
 cases q:own.lookup x with
 |some d=>
  rw[q] at e;exact .inl e
 |none=>
  rw[q] at e;exact .inr (oZ I B e)
theorem Cg (O:OwnOk sc own s C) {x:Str} {c:Addr} (fr:sc.names.lookup x=1#.free) (e:(aZ X.env sc.names []).lookup x=1#c):(own++aZ X.env sc.names []).lookup x=1#c:=by
 rw[jc]
 cases q:own.lookup x with
 |some d=>
  have:=(O.pl x d q).2.2;rw[fr] at this;cases this
 |none=>exact e
theorem CV (O:OwnOk sc own s C) {x:Str} {c:Addr} (z:(sc.names.lookup x==1#NameKind.cell)=true) (e:(own++aZ X.env sc.names []).lookup x=1#c):s.heap.objs.size<=c:=by
 have z':sc.names.lookup x=1#NameKind.cell:=beq_iff_eq.mp z;let⟨d,hd⟩:=aaV.mp (O.has x z');rw[jc,hd] at e;cases e;exact(O.pl x _ hd).1
theorem xR (I:8#1) (O:OwnOk sc own s C) (B:BlockOkC X.env.scope sc) {x y:Str} {c:Addr} (e1:(own++aZ X.env sc.names []).lookup x=1#c) (e2:(own++aZ X.env sc.names []).lookup y=1#c):x=y:=by
 have old:∀z,X.env.cells.lookup z=1#c->c<s.heap.objs.size:=λz h=>let ⟨v,q⟩:=I.cell z c h;q.lt
 rcases lO I B e1 with a|a<;>rcases lO I B e2 with b|b
 ·exact O.inj x y c a b
 ·exact absurd (old y b) (Nat.not_lt.mpr (O.pl x c a).1)
 ·exact absurd (old x a) (Nat.not_lt.mpr (O.pl y c b).1)
 ·exact I.ok.inj x y c a b
theorem xq (O:OwnOk sc own s C) (B:BlockOkC X.env.scope sc) {x:Str} (h:(compEnvC sc (own++aZ X.env sc.names []) C X.env).kindOf x=1#.cell∨(compEnvC sc (own++aZ X.env sc.names []) C X.env).kindOf x=1#.free):
  ∃c,(own++aZ X.env sc.names []).lookup x=1#c:=by
 have e:(compEnvC sc (own++aZ X.env sc.names []) C X.env).kindOf x=(sc.names.lookup x).map λk=>if (k==NameKind.free&&X.env.scope.kind== .function&&X.env.kindOf x==1#.cell) then NameKind.cell else k:=gM sc.names
 rw[e] at h
 cases q:sc.names.lookup x with
 |none=>
  rw[q] at h
  rcases h with h|h<;>cases h
 |some k=>
  have mem:=aaG q;rw[q] at h
  by_cases hk:k= .free
  ·subst hk;let⟨c,hc⟩:=aaV.mp (jQ (env:=X.env) sc.names [] (.inl mem));exact⟨c,Cg O q hc⟩
  ·have hb:(k==NameKind.free)=false:=by simpa using hk
   simp only[ab9,hb,Bool.false_and,abS,abK,Option.some.injEq] at h
   rcases h with h|h
   ·subst h;let⟨c,hc⟩:=aaV.mp (O.has x q);refine⟨c, ?_⟩;rw[jc,hc];rfl
   ·exact absurd h hk
theorem Fx (I:8#1) (O:OwnOk sc own s C) (B:BlockOkC X.env.scope sc) (hf:∀b∈fp,cB X pins H b) (ho:∀b∈fp,∃o,s.heap.get? b=1#o) (hC:s.heap.objs.size<=C):(cA X own ws caps sc C fp pn s H).Ok where
 mod:=I.ok.mod
 kind:=B.kind
 glob:=I.ok.glob
 blt:=I.ok.blt
 above:=hC
 inj:=λx y c e1 e2=>xR I O B e1 e2
 has:=λx hx=>xq O B hx
 cab:=λx c z e=>CV O z e
 hd:=I.ok.hd
 frames:=I.ok.frames
 stk:= .inl rfl
 exf:=λb hb=>by
  let⟨o,e⟩:=ho b hb;let⟨_,_,_,_,f4,_⟩:=hf b hb;exact⟨aax (aao (aan e) hC),λx c q=>(lO I B q).elim (λz=>rO (aan e) (O.pl x c z).1) (f4 x c)⟩
 bs:=I.bs
 bsz:=aaQ I.ok.bsz I.sz
 noex:=λb o e hb=>by
  let⟨_,_,_,f3,_⟩:=hf b hb
  rcases f3 with z|z
  ·exact I.ok.noex b o e z
  ·exact absurd (aao (aan e) (aaQ I.ok.bsz z)) (aa5 _)
 exfs:=λb hb=>rS I (hf b hb)
 dh:=I.stack
 frf:=I.kO
theorem rR {h1:Heap} {m:8#19} {t:Nat} (I:8#1) (O:OwnOk sc own s C) (B:BlockOkC X.env.scope sc) (hf:∀b∈fp,cB X pins H b) (ho:∀b∈fp,∃o,s.heap.get? b=1#o) (hC:s.heap.objs.size<=C)
  (hcap:8#21) (k:∀b o,s.heap.get? b=1#o->h1.get? b=1#o) (hn:h1.Ns C m) (hw:∀x c,own.lookup x=1#c->∃v,h1.IsCell c v):
  Inv 8#30 [] (stC ws caps σ) H {s with heap:=h1,toks:=t}:=by
 refine⟨Fx I O B hf ho hC,rfl,I.bare,Un.kept k,⟨m,hn,λi x v e1 e2 e3=> ?_⟩,λx c e=> ?_,I.ah.fresh hC,λx c e=>(lO I B e).elim (λz=>I.ah.fresh (O.pl x c z).1) (I.freeC x c),λp hp=>absurd (show p∈([]:2#(Addr×Obj)) from hp) 8#7,I.ah.kept k, ?_⟩
 ·have e1':(ws++caps.map λi=>X.N.getD i Str.empty)[i]?=1#x:=e1;have e2':(ws.map (λ_=>(none:5#V))++caps.map λi=>(σ[i]?).getD none)[i]?=1#1#v:=e2
  by_cases hi:i<0#ws
  ·rw[aaq (by simpa using hi),aaR] at e2'
   cases q:ws[i]? with
   |none=>
    rw[q] at e2';cases e2'
   |some y=>
    rw[q] at e2';cases e2'
  ·rw[aam 8#0] at e1';rw[aam (by simp;lia),aay] at e2';rw[aaR] at e1' e2'
   cases q:caps[i-0#ws]? with
   |none=>
    rw[q] at e1';cases e1'
   |some j=>
    rw[q] at e1' e2';have x1:X.N.getD j Str.empty=x:=Option.some.inj e1';have x2:(σ[j]?).getD none=1#v:=Option.some.inj e2'
    have x3:σ[j]?=1#1#v:=by
     cases z:σ[j]? with
     |none=>
      rw[z] at x2;cases x2
     |some u=>
      rw[z] at x2;exact congrArg some x2
    have hj:j<0#X.N:=by
     rw[←I.len];exact(aad.mp x3).1
    have x4:X.N[j]?=1#x:=by
     rw[←x1,aaw,aac hj];rfl
    have fr:sc.names.lookup x=1#.free:=by
     rw[←x1];exact hcap j (aar q)
    have out:=B.free _ (aaG fr) rfl;have vis:uf X.env.scope x:= .inr out;let⟨m',hn',hl⟩:=I.loc;let⟨u,r,lk⟩:=hl j x v x4 x3 vis;refine⟨u,r, ?_⟩
    rcases lk with⟨hk,_⟩|⟨_,c,hc,hcell⟩
    ·exfalso;have hk':X.env.scope.names.lookup x=1#.local:=hk
     rcases out with z|z
     ·have z':X.env.scope.names.lookup x=1#.cell:=z;rw[hk'] at z';cases z'
     ·have z':X.env.scope.names.lookup x=1#.free:=z;rw[hk'] at z';cases z'
    ·let⟨c',hc'⟩:=aaV.mp (jQ (env:=X.env) sc.names [] (.inl (aaG fr)));have ec:=oZ I B hc';rw[hc] at ec;cases ec;refine .inr ⟨?_,c,Cg O fr hc', ?_⟩
     ·have e:(compEnvC sc (own++aZ X.env sc.names []) C X.env).kindOf x=(sc.names.lookup x).map λk=>if (k==NameKind.free&&X.env.scope.kind== .function&&X.env.kindOf x==1#.cell) then NameKind.cell else k:=gM sc.names
      show (compEnvC sc (own++aZ X.env sc.names []) C X.env).kindOf x=1#.cell∨(compEnvC sc (own++aZ X.env sc.names []) C X.env).kindOf x=1#.free;rw[e,fr];simp only[ab9];split
      ·exact .inl rfl
      ·exact .inr rfl
     ·let⟨o,z1,z2⟩:=hcell;exact⟨o,k _ _ z1,z2⟩
 ·rcases lO I B e with z|z
  ·exact hw x c z
  ·let⟨v,o,z1,z2⟩:=I.cell x c z;exact⟨v,o,k _ _ z1,z2⟩
 ·show 0#(stC ws caps σ)=0#(ws++caps.map λi=>X.N.getD i Str.empty);unfold stC;simp
theorem mZ {σ':St} {H' H2:Hp} {s':9#2} (I:8#1) (hf:∀b∈fp,cB X pins H b) (J:Inv (cA X own ws caps sc C fp pn s H) pins' σ' H' s')
  (sb:Heap.SameBut C s'.heap h') (fr:∀b o,s.heap.get? b=1#o->H b=none->b∉fp->H2 b=none) (tu:∀b xs,H' b=1#(.tup xs)->H2 b=1#(.tup xs)) (fz:∀b o u,H' b=1#(.aF o u)->H2 b=1#(.aF o u)) (tb:∀b ps,H' b=1#(.tbl ps)->H2 b=1#(.tbl ps))
  (ah:bE X.prog X.w H2 h'):Inv X pins σ H2 {s' with heap:=h'}:=by
 have B:Un (cF X.stack) fp H H' s.heap s'.heap:=J.base;have nC:∀b o,s.heap.get? b=1#o->b≠C:=λb o e=>aax (aao (aan e) J.ok.above)
 have un:Un (cF X.stack) fp H H2 s.heap h':=by
  refine⟨λb o e n f c=> ?_,λb o e n f c=> ?_,λb o e n c=>fr b o e n c,λb o e c=> ?_,λb xs q=>tu b xs (B.tups b xs q),λb o u q=>fz b o u (B.aV b o u q),λb ps q=> ?_⟩
  ·exact(sb.2 b (nC b o e)).trans (B.keep b o e n f c)
  ·let⟨sl,z⟩:=B.slot b o e n f c;exact⟨sl,(sb.2 b (nC b o e)).trans z⟩
  ·let⟨o',z⟩:=B.there b o e c;exact⟨o',(sb.2 b (nC b o e)).trans z⟩
  ·let⟨more,z⟩:=B.tbls b ps q;exact⟨more,tb b _ z⟩
 exact I.vH (s':={s' with heap:=h'}) (ch:=fp) J.os un ah J.bare λb hb=>by
  let⟨_,f1,_,f3,f4,f5⟩:=hf b hb;exact⟨f3,f1,f4,f5⟩
end
theorem iq:∀(l:2#(Str×NameKind)) (n:Nat) (acc:2#(Str×Addr)),cellsFrom n l acc=cellsFrom n l []++acc
 |[],_,_=>rfl
 |(x,k)::r,n,acc=>by
  unfold cellsFrom;split
  ·rw[iq r _ ((x,n)::acc),iq r _ [(x,n)],ac1];rfl
  ·exact iq r n acc
set_option tactic.hygienic true in
theorem fO {x:Str} {c:Addr}:∀(l:2#(Str×NameKind)) (n:Nat) (acc:2#(Str×Addr)),(x,c)∈cellsFrom n l acc->(x,c)∈acc∨(x,NameKind.cell)∈l
 |[],_,_,h=> .inl h
 |(y,k)::r,n,acc,h=>by
  unfold cellsFrom at h;split at h
  ·rename_i hk
   rcases fO r _ _ h with z|z
   ·rcases aap.mp z with e|z
    ·cases e;rw[show k= .cell by simpa using hk];exact .inr aaz
    ·exact .inl z
   ·exact .inr (aat _ z)
  ·exact(fO r _ _ h).imp id (aat _)
set_option tactic.hygienic true in
theorem j3 {x:Str}:∀(l:2#(Str×NameKind)) (n:Nat) (acc:2#(Str×Addr)),((x,NameKind.cell)∈l∨(acc.lookup x).isSome=true)->((cellsFrom n l acc).lookup x).isSome=true
 |[],_,_,h=>h.elim (λz=>by cases z) id
 |(y,k)::r,n,acc,h=>by
  unfold cellsFrom;split
  ·refine j3 r _ _ ?_
   rcases h with h|h
   ·rcases aap.mp h with e|h
    ·cases e;right;simp
    ·exact .inl h
   ·right;rw[aaI];split
    ·rfl
    ·exact h
  ·rename_i hk;refine j3 r _ _ ?_
   rcases h with h|h
   ·rcases aap.mp h with e|h
    ·cases e;exact absurd rfl hk
    ·exact .inl h
   ·exact .inr h
theorem CQ {M:Model} {A:Around} {E:8#2} {s:9#2} {sc:Scope} {closure:2#(Str×Addr)} {qual:Str} {outer:Env} {Q:Env->Shared->Prop}
  (hQ:∀h1 own,h1.Ns s.heap.objs.size (λ_=>none)->(∀b o,s.heap.get? b=1#o->h1.get? b=1#o)->
   ((∀x c,own.lookup x=1#c->h1.IsCell c none/\s.heap.objs.size<c)/\(∀x c,own.lookup x=1#c->(x,NameKind.cell)∈sc.names)/\(∀x y c,own.lookup x=1#c->own.lookup y=1#c->x=y)/\∀x,sc.names.lookup x=1#.cell->(own.lookup x).isSome=true)->
   Q (newEnv sc s.heap.objs.size globals (own++closure) qual none .none 1#outer builtinsNs) {s with heap:=h1}):
  wpAny M A (newFunctionEnv sc globals closure [] qual none .none 1#outer) Q E s:=by
 simp only[newFunctionEnv,Option.isSome_some,ab5];refine aaa (wpAny_alloc ?_);refine aaa (wpAny_layCells _ (λname kind cells=>by cases hkc:kind==NameKind.cell<;>simp[hkc]) _ _ _ _ ?_);have ok:=cellsFrom_ok sc.names (s.heap.push {cls:= .type "dict",data:= .dict #[]}) 9#8 [] ⟨λ_ _ hm=>(nomatch hm),List.Pairwise.nil⟩ (by rw[aaO];exact aai _);rw[aaO] at ok;rw[show ({s with heap:=s.heap.push {cls:= .type "dict",data:= .dict #[]}}:Shared).heap.objs.size=s.heap.objs.size+1 from aaO ..];refine aaa ?_;rw[acg];refine aaf (aaf ?_);rw[iq]
 have q:=hQ (pushCells (s.heap.push {cls:= .type "dict",data:= .dict #[]}) sc.names) (cellsFrom 9#8 sc.names [])
  ((Heap.Ns.new s.heap (.type "dict")).keeps (pushCells_keeps _ _)) (λb o e=>pushCells_keeps _ _ b o (aae _ e))
  ⟨λx c e=>ok.empty x c (aaG e),λx c e=>(fO _ _ _ (aaG e)).elim (λz=>by cases z) id,λx y c e1 e2=>name_of_addr ok.apart (aaG e1) (aaG e2),λx e=>j3 _ _ _ (.inl (aaG e))⟩
 exact q
section
variable {X:Cx} {E:XK} {pins:8#5} {σ:St} {H:Hp} {s:9#2} {ws:2#Str} {caps:2#Nat} {sc:Scope} {tg iter elt:Expr} {ifs:2#Expr} {pos:Pos} {g:TG} {tt:TT} {te:TE} {it:Addr} {fp:2#Addr} {tn:Nat->Heap->Prop} {J:It} {Z:2#V->Hp->Prop}
 {RR:Value->Addr->Result->Shared->Prop} {E':8#2}
end
section
variable {X:Cx} {E:XK} {ws:2#Str} {caps:2#Nat} {sc:Scope} {tg iter elt:Expr} {ifs:2#Expr} {pos py spos:Pos} {wi:TI} {g:TG} {tt:TT} {te:TE}
end
end L2.L3
namespace L2.L4
open PySem PySem.Spec L2.L3
open PyProof.Rows hiding lobj
def mT (X:Cx) (E:St->XK) (mk:5#(Addr×Value)->Prop):Value->Shared->Prop:=λe s=>
 ∃(σ:St) (H:Hp) (ea:Addr) (cls:Value) (dx:5#Addr) (tb:5#(Addr×Value)),e= 3#ea/\Inv X.eU [] σ H s/\ExcAt s.heap ea cls dx tb/\Young X H ea/\
  (∀p,tb=1#p->Young X H p.1)/\mk tb/\E σ cls dx H
abbrev XE (X:Cx) (E:St->XK):Value->Shared->Prop:=mT X E λ_=>True
abbrev XT (X:Cx) (E:St->XK):Value->Shared->Prop:=mT X E λtb=>∃p,tb=1#p
abbrev XL (X:Cx) (E:St->XK):Value->Shared->Prop:=mT X E λtb=>∃T,tb=1#(T, .none)
section
variable {X:Cx} {pins:8#5} {σ:St} {H:Hp} {s s':9#2} {E:St->XK} {e:Value}
theorem jT {M:Model} {E':8#2} {mk:5#(Addr×Value)->Prop} (fr:Framed X) (hx:cc X) (h:mT X E mk e s):wpAny M X.A (noteFrame e X.env) (λ_ s'=>XT X E e s') E' s:=by
 let⟨F,rest,L,hst,hF,hv⟩:=fr;let⟨σ,H,ea,cls,dx,tb,rfl,I,x,y,yt,_,q⟩:=h
 have fr':X.A.frames=1#(F::rest):=by
  rw[←hst];exact I.ok.frames
 have fl:s.heap.FunFrames X.base (F::rest):=by
  rw[←hst];exact I.stack
 refine CG (bs:=X.base) fr' hF hv fl x λh' T m n x'=> ?_;rw[←hst] at m
 have yT:Young X H T:=by
  rcases n with n|n
  ·let⟨a,b,c⟩:=j9 (X:=X.eU) hx I n;exact⟨a,b,c⟩
  ·cases tb with
   |none=>cases n
   |some p=>
    cases n;exact yt p rfl
 have I':Inv X.eU [] σ H {s with heap:=h'}:=by
  refine jZ I m λb hb=> ?_
  rcases aap.mp hb with z|z
  ·subst z;exact⟨y.new,(by rw[abh];exact y.npn),y.free,(gk x).1⟩
  ·cases tb with
   |none=>cases z
   |some p=>
    have z':b=p.1:=by simpa using z
    subst z';exact⟨(yt p rfl).new,(by rw[abh];exact(yt p rfl).npn),(yt p rfl).free,(gk x).2 p rfl⟩
 exact⟨σ,H,ea,cls,dx,1#(T,rawInt L),rfl,I',x',y,λp hp=>(by cases hp;exact yT),⟨_,rfl⟩,q⟩
theorem gB {M:Model} {E':8#2} {fr:5#Addr} (h:XT X E e s):
  wpAny M X.A (setFlight e fr) (λ_ s'=>mT X E (λtb=>∃T,tb=1#(T,fr.elim .none λf=>rawInt f)) e s') E' s:=by
 let⟨σ,H,ea,cls,dx,tb,rfl,I,x,y,yt,⟨⟨T,fl⟩,rfl⟩,q⟩:=h;refine kg x λh' m x'=> ?_;have m':Moved (cF X.eU.stack) [T] s.heap h':=⟨λb o _ c e=>m.keep b o 8#7 c e,m.slot⟩;have yT:=yt _ rfl
 have I':Inv X.eU [] σ H {s with heap:=h'}:=by
  refine jZ I m' λb hb=> ?_
  have z:b=T:=by simpa using hb
  subst z;exact⟨yT.new,(by rw[abh];exact yT.npn),yT.free,(gk x).2 _ rfl⟩
 refine⟨σ,H,ea,cls,dx,_,rfl,I',x',y,λp hp=> ?_,⟨_,rfl⟩,q⟩;cases hp;exact yT
theorem F5 {M:Model} (h:XT X E e s):cameBackBy M X.A X.env (XE X E) e s:=by
 have h0:=h;let⟨σ,H,ea,cls,dx,tb,rfl,I,x,y,yt,⟨⟨T,fl⟩,rfl⟩,q⟩:=h;let⟨oe,vs,he,hc,hx,hd,hz,x1,x2⟩:=x;unfold cameBackBy;refine aaa (aaD he hd x1 ?_);rw[if_neg (show¬((Value.ref T==Value.none)=true) from by simp)]
 exact ay (gB h0) λ_ s1 z902=>by let⟨σ1,H1,e1,c1,d1,t1,a1,a2,a3,a4,a5,_,a6⟩:=z902;exact⟨σ1,H1,e1,c1,d1,t1,a1,a2,a3,a4,a5,trivial,a6⟩
theorem Js {M:Model} (fr:Framed X) (hx:cc X):PassesOwn M X.A X.env (XE X E):=λe s h=>ay (jT fr hx h) λ_ s1 h1=>F5 h1
theorem o7 {α:Type} {M:Model} {what:String} {cenv:Env} {Q:α->Shared->Prop} (h:XT X E e s):wpAny M X.A (PySem.passOn what e cenv:Sem α) Q (XE X E) s:=by
 have h0:=h;let⟨σ,H,ea,cls,dx,tb,rfl,I,x,y,yt,⟨⟨T,fl⟩,rfl⟩,q⟩:=h;let⟨oe,vs,he,hc,hx,hd,hz,x1,x2⟩:=x;unfold PySem.passOn;refine aaa (aaD he hd x1 ?_);rw[if_neg (show¬((Value.ref T==Value.none)=true) from by simp)];exact aaa (ay (gB h0) λ_ s1 z902=>by let⟨σ1,H1,e1,c1,d1,t1,a1,a2,a3,a4,a5,_,a6⟩:=z902;exact wpAny_throw ⟨σ1,H1,e1,c1,d1,t1,a1,a2,a3,a4,a5,trivial,a6⟩)
end
theorem DN {X:Cx} {E:XK} {e:Value} {s:9#2} {E':8#2} {M:Model} (fr:Framed X) (hex:X.ex=[]) (h:XE X (λ_=>E) e s):wpAny M X.A (leaving X.env e) (λ_ s'=>dI X.prog X.w X.outer X.H₀ X.s₀ E e s') E' s:=by
 have hx:cc X:=λb hb=>by
  rw[hex] at hb;cases hb
 unfold leaving;refine aaa (ay (jT fr hx h) λ_ s1 h1=>ay (gB (fr:=none) h1) λ_ s2 h2=> ?_);let⟨σ,H,ea,cls,dx,tb,rfl,I,x,y,yt,⟨T,rfl⟩,q⟩:=h2;have B:Un X.fs X.ex X.H₀ H X.s₀.heap s2.heap:=I.base;rw[hex] at B;exact⟨ea,cls,dx,T,H,rfl,I.os,I.bare,B,I.ah,x,y.new,(yt _ rfl).new,y.free,(yt _ rfl).free,q⟩
theorem xk {X:Cx} {E:St->XK} (hx:cc X) {σ:St} {H:Hp} {s:9#2} {e:Value} (I:Inv (X.af (XE X E)) pins σ H s) (h:dI X.prog X.w X.stack H s (E σ) e s'):XE X E e s':=by
 let⟨ea,cls,dx,T,H',rfl,h1,h2,h3,h4,h5,h6,h7,h8,h9,q⟩:=h;have I1:Inv (X.af (XE X E)) pins σ H' s':=I.vH (ch:=[]) h1 h3 h4 h2 λb z=>absurd z 8#7;have I2:Inv X.eU [] σ H' s':=(I1.aS.af λ_ _=>False).cz λp hp=>absurd hp 8#7;let⟨a1,a2,_⟩:=j9 (X:=X.af (XE X E)) hx I h6;let⟨b1,b2,_⟩:=j9 (X:=X.af (XE X E)) hx I h7;exact⟨σ,H',ea,cls,dx,_,rfl,I2,h5,⟨a1,a2,h8⟩,λp hp=>(by cases hp;exact⟨b1,b2,h9⟩),trivial,q⟩
abbrev dg (X:Cx) (E:St->XK) (own:2#(Str×Addr)) (ws:2#Str) (caps:2#Nat) (sc:Scope) (C:Addr) (fp:2#Addr) (pn:8#5) (s:9#2) (H:Hp):Cx:=
 (cA X own ws caps sc C fp pn s H).af (XE (cA X own ws caps sc C fp pn s H) E)
section
variable {X:Cx} {E:St->XK} {pins:8#5} {σ:St} {H:Hp} {s:9#2} {ws:2#Str} {caps:2#Nat} {sc:Scope} {tg iter elt:Expr} {ifs:2#Expr} {pos:Pos} {g:TG} {tt:TT} {te:TE} {it:Addr} {fp:2#Addr} {tn:Nat->Heap->Prop} {J:It} {Z:2#V->Hp->Prop}
 {RR:Value->Addr->Result->Shared->Prop} {E':8#2}
theorem pj (fm:Framed X) (hx:cc X) (B:BlockOkC X.env.scope sc) (hc:X.calm=true) (hcap:8#21)
  (hg:∀own C pn s H,9#9->PG 8#13 tg g) (ht:∀own C pn s H,9#9->k8 8#13 ifs tt) (he:∀own C pn s H,9#9->PE 8#13 elt te)
  (I:Inv (X.af (XE X E)) pins σ H s) (T:Turn X.prog X.w X.K tg J fp it tn) (st:tn 0 s.heap) (hf:∀b∈fp,cB (X.af (XE X E)) pins H b) (h:runC g tt te J (stC ws caps σ) H Z)
  (hdone:∀D C s' H' ys,H' D=none->H' C=none->D≠C->Z ys H'->(∃m,s'.heap.Ns C m)->s.heap.objs.size<=C->(∀h',Heap.SameBut C s'.heap h'->Inv (X.af (XE X E)) pins σ (upd H' D 7#ys) {s' with heap:=h'})->RR 3#D C (.ok .next) s')
  (herr:∀D C e s',(∃m,s'.heap.Ns C m)->(∀h',Heap.SameBut C s'.heap h'->XT X E e {s' with heap:=h'})->RR 3#D C (.error e) s'):
  wpAny 8#3 X.A (newList []) (λacc s3=>wpAny 8#3 X.A (newFunctionEnv sc X.env.globals (aZ X.env sc.names []) [] X.env.qual none .none 1#X.env) (λcenv s4=>
   codeAny 8#3 X.A (.compStart 9#6 0 3#it acc {cenv with scope:=relabel sc X.env}) (RR acc cenv.locals) s4) E' s3) E' s:=by
 refine aaK (CQ (λh1 own hns hsb hw0=> ?_));dsimp only at hns hsb hw0⊢;generalize hP:s.heap.push {cls:= .type "list",dict:=none,data:= .seq ([]:2#Value).toArray}=P2 at hns hsb hw0⊢
 have zC:P2.objs.size=s.heap.objs.size+1:=by rw[←hP,aaO]
 have leC:s.heap.objs.size<=P2.objs.size:=by rw[zC];exact Nat.le_succ _
 have nDC:s.heap.objs.size≠P2.objs.size:=by rw[zC];exact aax (ab0 _)
 have old:∀b o,s.heap.get? b=1#o->h1.get? b=1#o:=λb o e=>
  hsb _ _ (hP▸aae _ e)
 have acc0:h1.get? s.heap.objs.size=1#(lobj [] 0):=hsb _ _ (hP▸aaj _ rfl);have OO:OwnOk sc own s P2.objs.size:=⟨λx c e=>⟨aaQ leC (abw (hw0.1 x c e).2),abJ (hw0.1 x c e).2,B.cells _ (hw0.2.1 x c e) rfl⟩,hw0.2.2.1,hw0.2.2.2⟩;have hw:∀x c,own.lookup x=1#c->∃v,h1.IsCell c v:=λx c e=>⟨none,(hw0.1 x c e).1⟩;have abv:∀x c,own.lookup x=1#c->s.heap.objs.size<c:=λx c e=>Nat.lt_of_le_of_lt leC (hw0.1 x c e).2;clear hw0
 have there:∀b∈fp,∃o,s.heap.get? b=1#o:=λb hb=>let ⟨o,e,_⟩:=T.obj 0 s.heap st b hb;⟨o,e⟩
 generalize hD:s.heap.objs.size=D at*;generalize hCC:P2.objs.size=C at*;have I0:Inv X pins σ H s:=I.aS;have hf0:∀b∈fp,cB X pins H b:=hf;have st1:tn 0 h1:=T.keep 0 s.heap h1 st λb _ o e=>old b o e;have J0:Inv 8#30 [] (stC ws caps σ) H {s with heap:=h1}:=rR (t:=s.toks) I0 OO B hf0 there 8#0 hcap old hns hw;have D0:H D=none:=I0.ah.fresh 8#0;have nD1:D≠C:=nDC
 have nDc:∀x c,(own++aZ X.env sc.names []).lookup x=1#c->c≠D:=λx c e z=>by
  rcases lO I0 B e with w|w
  ·exact absurd (abv x c w) (by rw[z];exact aa5 _)
  let⟨v,q⟩:=I0.cell x c w;have lt:=q.lt;rw[z,hD] at lt;exact aa5 _ lt
 have nDs:D∉cF X.stack:=λz=>by
  let⟨_,o,e,_⟩:=I0.stack.mem z;have lt:=aan e;rw[hD] at lt;exact aa5 _ lt
 have nDf:D∉fp:=λz=>by
  let⟨o,e⟩:=there D z;have lt:=aan e;rw[hD] at lt;exact aa5 _ lt
 have sD:s.heap.get? D=none:=abd 8#0
 have stat:∀{H':Hp} {p:8#5},(∀b∈fp,H' b=none)->(∀q∈p,q.1∉fp)->∀b∈fp,cB 8#30 p H' b:=λ{H' p} hn hp b hb=>by
  let⟨o,e⟩:=there b hb;have lt:=aan e;let⟨_,_,_,_,f4,_⟩:=hf0 b hb;exact⟨hn b hb,(by rw[hD] at lt;exact aax (aao lt leC)),rS I0 (hf0 b hb), .inl hb,λx c q=>(lO I0 B q).elim (λz=>rO lt (OO.pl x c z).1) (f4 x c),λq hq z=>hp q hq (by rw[z];exact hb)⟩
 have err:∀{pn:8#5} {e:Value} {s':9#2},9#9->XE (cA X own ws caps sc C fp pn s H) (λ_=>E σ) e s'->
   notedBy 8#3 X.A (compEnvC sc (own++aZ X.env sc.names []) C X.env) (λe s'=>RR 3#D C (.error e) s') e s':=λ{pn e s'} hh x=>by
  have fm':Framed (cA X own ws caps sc C fp pn s H):=fm;refine ay (jT (X:=cA X own ws caps sc C fp pn s H) fm' hh x) λ_ s2 x2=> ?_;let⟨σ2,H2,ea,cls,dx,tb,rfl,K2,y2,y3,y4,⟨p,rfl⟩,q2⟩:=x2;let⟨mC,nC,_⟩:=K2.loc;have K3:Inv (cA X own ws caps sc C fp pn s H) [] σ2 H2 s2:=K2;refine herr D C _ s2 ⟨mC,nC⟩ λh' sb=> ?_;have r1:=(gk y2).1;have r2:=(gk y2).2 p rfl
  have ne1:ea≠C:=by let⟨o,vs,e1,e2⟩:=r1;exact(nR K2 e1 e2).1
  have ne2:p.1≠C:=by let⟨o,vs,e1,e2⟩:=r2;exact(nR K2 e1 e2).1
  have hk:bE X.prog X.w H2 h':=by
   refine(Moved.ah (fs:=[]) (ch:=[C]) ⟨λb o _ c e=>(sb.2 b (by simpa using c)).trans e,λb o c e=>⟨o.slots,(sb.2 b (by simpa using c)).trans e⟩⟩ K2.ah (λb hb=>absurd hb 8#7) λb hb=> ?_)
   have z:b=C:=by simpa using hb
   rw[z];exact K2.free
  have I3:Inv X pins σ H2 {s2 with heap:=h'}:=mZ I0 hf0 K3 sb (λb o e n c=>K3.base.free b o e n c) (λ_ _ q=>q) (λ_ _ _ q=>q) (λ_ _ q=>q) hk;have I4:Inv X.eU [] σ H2 {s2 with heap:=h'}:=(I3.af λ_ _=>False).cz λp hp=>absurd hp 8#7
  have yo:∀b,Young (cA X own ws caps sc C fp pn s H) H2 b->Young X H2 b:=λb y=>by
   let⟨a1,a2,_⟩:=j9 hx I0 y.new;exact⟨a1,a2,y.free⟩
  refine⟨σ,H2,ea,cls,dx,1#p,rfl,I4, ?_,yo _ y3,λp' hp'=>(by cases hp';exact yo _ (y4 p rfl)),⟨p,rfl⟩,q2⟩;let⟨oe,vs,e1,e2,e3,e4,e5,e6,e7,oT,ts,e8,e9,e10⟩:=y2;exact⟨oe,vs,(sb.2 _ ne1).trans e1,e2,e3,e4,e5,e6,e7,oT,ts,(sb.2 _ ne2).trans e8,e9,e10⟩
 let⟨W,⟨m0,w0⟩,turn⟩:=h
 have loop:codeAny 8#3 X.A (.compLoop 9#6 0 3#it 3#D (compEnvC sc (own++aZ X.env sc.names []) C X.env)) (RR 3#D C) {s with heap:=h1}:=by
  refine xm (λn s'=>∃i ys its k σ' H',Inv 8#30 [(D,lobj its k)] σ' H' s'/\Vals ys its/\0#ys<=sizeLine/\tn i s'.heap/\(∀b∈fp,H' b=none)/\W i n ys σ' H') ?_ m0
   ⟨0,[],[],0,stC ws caps σ,H,J0.cz λp hp=> ?_, .nil,aaW _,st1,λb hb=>(hf0 b hb).1,w0⟩
  rotate_left
  ·have z:p=(D,lobj [] 0):=by simpa using hp
   subst z;exact⟨acc0,D0,nD1,nDs,λv z=>by cases z⟩
  rintro n s1 ⟨i,ys,its,k,σ1,H1,I1,rv,hz,st1',fr1,w1⟩
  have nq:∀q∈[(D,lobj its k)],q.1∉fp:=λq hq=>by
   have z:q=(D,lobj its k):=by simpa using hq
   rw[z];exact nDf
  rcases turn i n ys σ1 H1 w1 with⟨stop,zq⟩|⟨go,N,hN,step⟩
  ·refine aaL (T.done 8#30 rfl rfl rfl hc i [(D,lobj its k)] s1 σ1 H1 (λ_ _=>False) I1 (stat fr1 nq) st1' stop) (λr s2 z902=> ?_) λ_ _ z=>z.elim;let⟨hr,I2⟩:=z902;subst hr;let⟨mC,nC,_⟩:=I2.loc;have p2:=I2.pin (D,lobj its k) 8#7;refine hdone D C s2 H1 ys p2.2.1 I2.free nD1 zq ⟨mC,nC⟩ 8#0 λh' sb=> ?_
   have hk:bE X.prog X.w (upd H1 D 7#ys) h':=by
    have t1:Inv 8#30 [] σ1 (upd H1 D 7#ys) s2:=kU (o:= 7#ys) (I2.cz (pins':=[]) λp hp=>absurd hp 8#7) p2.2.1 sD nD1 nDc (λp hp=>absurd (show p∈([]:2#(Addr×Obj)) from hp) 8#7) ⟨hz,its,k,rv,p2.1⟩;refine(Moved.ah (fs:=[]) (ch:=[C]) ⟨λb o _ c e=>(sb.2 b (by simpa using c)).trans e,λb o c e=>⟨o.slots,(sb.2 b (by simpa using c)).trans e⟩⟩ t1.ah (λb hb=>absurd hb 8#7) λb hb=> ?_)
    have z:b=C:=by simpa using hb
    rw[z];exact t1.free
   have nn:∀b u,H1 b=1#u->upd H1 D 7#ys b=1#u:=λb u q=>by
    rw[ao (bx q p2.2.1)];exact q
   exact(mZ I0 hf0 I2 sb (λb o e nb c=>by
    have hb:b≠D:=λz=>by rw[z,sD] at e;cases e
    rw[ao hb]
    exact I2.base.free b o e nb c) (λb xs q=>nn _ _ q) (λb o u q=>nn _ _ q) (λb ps q=>nn _ _ q) hk).af _
  ·refine aaL (T.item 8#30 rfl rfl rfl hc i [(D,lobj its k)] s1 σ1 H1 (λ_ _=>False) I1 (stat fr1 nq) st1' go) (λr s2 z902=> ?_) λ_ _ z=>z.elim;let⟨u,hr,h2⟩:=z902;subst hr;refine aaL h2 (λ_ s3 z902=> ?_) λ_ _ z=>z.elim;let⟨x,H3,I3,r3,y3,st3,fr3⟩:=z902;have p3:=I3.pin (D,lobj its k) 8#7
   have hh:∀b∈fp,∃o,(b,o)∈(D,lobj its k)::bK fp s3.heap:=λb hb=>by
    let⟨o,e,_⟩:=T.obj _ _ st3 b hb;exact⟨o,aat _ (dG hb e)⟩
   have I3':Inv (dg X (λ_=>E σ) own ws caps sc C fp ((D,lobj its k)::bK fp s3.heap) s H) [] σ1 H3 s3:=by
    have q:Inv (cA X own ws caps sc C fp ((D,lobj its k)::bK fp s3.heap) s H) [] σ1 H3 s3:=by
     have i4:=I3.pinned (stat fr3 nq) (T.obj _ _ st3)
     exact dA (qn:=(D,lobj its k)::bK fp s3.heap) (q:=[]) i4 λp hp=>by simpa[cA,B5] using hp
    exact q.af _
   refine aaL (hg own C ((D,lobj its k)::bK fp s3.heap) s H hh [] s3 σ1 H3 x u _ I3' r3 (step x H3 y3)) (λ_ s4 z902=> ?_) λe s' z=>err hh z;let⟨σ4,H4,I4,q4⟩:=z902;refine aaL (ht own C ((D,lobj its k)::bK fp s3.heap) s H hh [] s4 σ4 H4 _ I4 q4) (λok s5 z902=> ?_) λe s' z=>err hh z;let⟨H5,I5,q5⟩:=z902
   have back:∀{σ9:St} {H9:Hp} {s9:9#2},Inv (dg X (λ_=>E σ) own ws caps sc C fp ((D,lobj its k)::bK fp s3.heap) s H) [] σ9 H9 s9->Inv 8#30 [(D,lobj its k)] σ9 H9 s9/\tn (i+1) s9.heap/\∀b∈fp,H9 b=none:=λ{σ9 H9 s9} I9=>by
    have i1:Inv (cA X own ws caps sc C fp ((D,lobj its k)::bK fp s3.heap) s H) [] σ9 H9 s9:=I9.aS;refine⟨dA (qn:=[]) (q:=[(D,lobj its k)]) i1 λp hp=> ?_,T.keep _ _ _ st3 λb hb o e=> ?_,λb hb=> ?_⟩
    ·have z:p=(D,lobj its k):=by simpa using hp
     subst z;simp[cA,B5]
    ·exact(i1.pin (b,o) (aaS _ (aat _ (dG hb e)))).1
    ·let⟨o,e,_⟩:=T.obj _ _ st3 b hb;exact(i1.pin (b,o) (aaS _ (aat _ (dG hb e)))).2.1
   cases ok with
   |false=>
    rw[if_neg aaF] at q5⊢;let⟨m',hm,w5⟩:=hN _ _ _ q5;let⟨b1,b2,b3⟩:=back I5;exact⟨m',hm,i+1,ys,its,k,σ4,H5,b1,rv,hz,b2,b3,w5⟩
   |true=>
    rw[if_pos rfl] at q5⊢;refine aaL (he own C ((D,lobj its k)::bK fp s3.heap) s H hh [] s5 σ4 H5 _ I5 q5) (λv s6 z902=> ?_) λe s' z=>err hh z;let⟨xv,H6,I6,r6,hlt,nq⟩:=z902;let⟨m',hm,w6⟩:=hN _ _ _ nq;let⟨b1,b2,b3⟩:=back I6;have p6:=b1.pin (D,lobj its k) 8#7
    have t1:Inv 8#30 (bK fp s6.heap) σ4 (upd H6 D 7#ys) s6:=by
     have c1:=(b1.cz (pins':=[]) λp hp=>absurd hp 8#7).pinned (fp:=fp) (stat b3 λq hq=>absurd hq 8#7) (T.obj _ _ b2);refine kU (o:= 7#ys) c1 p6.2.1 sD nD1 nDc (λp hp=> ?_) ⟨hz,its,k,rv,p6.1⟩
     have hp':p∈bK fp s6.heap:=by simpa[cA,B5] using hp
     intro z;exact nDf (z▸(pK hp').1)
    refine aaL (oX (X:=cA X own ws caps sc C fp [] s H) (bK fp s6.heap) s6 σ4 (upd H6 D 7#ys) 3#D [xv] 3#D [v] (λ_ H7=>H7=upd (upd H6 D 7#ys) D 7#(ys++[xv])) t1 rfl (.cons r6 .nil) ⟨D,ys,xv,rfl,rfl,ak,hlt,rfl⟩) (λ_ s7 z902=> ?_) λ_ _ z=>z.elim;let⟨_,H7,I7,_,q7⟩:=z902;subst q7;rw[iX] at I7;let⟨z7,its7,n7,v7,l7,e7⟩:=I7.lS ak;have I8:=DB I7 p6.2.1;refine⟨m',hm,i+1,ys++[xv],its7,n7,σ4,H6, ?_,v7,z7,T.keep _ _ _ b2 λb hb o e=> ?_,b3,w6⟩
    ·refine I8.cz λp hp=> ?_
     have z:p=(D,lobj its7 n7):=by simpa using hp
     subst z;exact⟨e7,p6.2.1,nD1,nDs,λv z=>by cases z⟩
    ·exact(I8.pin (b,o) (aaA _ (dG hb e))).1
 exact codeAny_compStart_list loop (T.self _ 0 _ _ _ st1 loop)
end
def Cr (ws:2#Str) (caps:2#Nat) (wi:TI) (g:TG) (tt:St->TT) (te:St->TE):TE:=λσ H Q=>wi σ H λJ H1=>runC g (tt σ) (te σ) J (stC ws caps σ) H1 λys H'=>∀D,H' D=none->Q 3#D (upd H' D 7#ys)
def BU (i:Nat) (ws:2#Str) (caps:2#Nat) (wi:TI) (g:TG) (tt:St->TT) (te:St->TE):TS:=λD σ H=>wi σ H λJ H1=>runC g (tt σ) (te σ) J (stC ws caps σ) H1 λys H'=>∀a,H' a=none->D.nx (σ.set i 1#3#a) (upd H' a 7#ys)
section
variable {X:Cx} {E:St->XK} {ws:2#Str} {caps:2#Nat} {sc:Scope} {tg iter elt:Expr} {ifs:2#Expr} {pos py spos:Pos} {wi:TI} {g:TG} {tt:St->TT} {te:St->TE}
theorem AU (fm:Framed X) (hx:cc X) (B:BlockOkC X.env.scope sc) (hc:X.calm=true) (hcap:8#21) (hi:PI (X.af (XE X E)) tg iter wi)
  (hg:∀σ own C fp pn s H,9#9->PG 8#13 tg g) (ht:∀σ own C fp pn s H,9#9->k8 8#13 ifs (tt σ))
  (he:∀σ own C fp pn s H,9#9->PE 8#13 elt (te σ)) (hs:∀x,foldedSetIterable iter X.env x=pure x:=by intro _;rfl):
  PE (X.af (XE X E)) 9#6 (Cr ws caps wi g tt te):=by
 intro pins s σ H Q I h;have fc:=iJ I.aS B;show wpAny 8#3 X.A (eval 9#6 X.env) _ (XE X E) s;rw[eval_ListComp];refine wpAny_comprehension_free (use:=none) (cl:=aZ X.env sc.names []) rfl hs (jD fc) B.kind B.names (ay (hi pins s σ H _ I h) λv s1 h1=>ay h1 λitv s2 h2=> ?_);let⟨it,fp,tn,J,H2,e,I2,T,st,f2,q⟩:=h2;subst e
 refine pj (RR:=λacc C=>compPost 8#3 X.A (XE X E) none (EP (X.af (XE X E)) pins σ Q) acc C) fm hx B hc hcap (λown C pn s H=>hg σ own C fp pn s H) (λown C pn s H=>ht σ own C fp pn s H) (λown C pn s H=>he σ own C fp pn s H) I2 T st f2 q
  (λD C s' H' ys hD _ _ z z909 _ k=>by let⟨m,hn⟩:=z909;exact⟨m,hn,λh' sb=>⟨3#D,_,k h' sb,rfl,z D hD⟩⟩) λD C e s' z904 k=>by let⟨m,hn⟩:=z904;exact⟨m,hn,λh' sb cenv _=>o7 (k h' sb)⟩
theorem A0 {i:Nat} {y:Str} (fm:Framed X) (hx:cc X) (B:BlockOkC X.env.scope sc) (hc:X.calm=true) (hcap:8#21) (hN:X.N.Nodup) (hy:X.N[i]?=1#y) (hl:X.env.scope.names.lookup y=1#.local)
  (hi:PI (X.af (XE X E)) tg iter wi)
  (hg:∀σ own C fp pn s H,9#9->PG 8#13 tg g) (ht:∀σ own C fp pn s H,9#9->k8 8#13 ifs (tt σ))
  (he:∀σ own C fp pn s H,9#9->PE 8#13 elt (te σ))
  (hsw:swapsWith 9#6 1#(.Name y py) spos.line X.env=pure true:=by rfl) (hs:∀x,foldedSetIterable iter X.env x=pure x:=by intro _;rfl):
  PS (X.af (XE X E)) (.Assign [.Name y py] 9#6 spos) (BU i ws caps wi g tt te):=by
 intro pins s σ H D I h;show wpAny 8#3 X.A (exec (.Assign [.Name y py] 9#6 spos) X.env) _ _ s;rw[exec_Assign_Name_used _ _ _ _ hsw];refine aaa (acV (aaa ?_))
 show wpAny _ X.A (do let _←comprehension 9#6 sc X.env _ (newList []) false (eval iter X.env) 1#(assign (.Name y py) X.env)) _ _ s
 refine aaa (ay (wpAny_comprehension_free (use:=1#(assign (.Name y py) X.env)) (cl:=aZ X.env sc.names []) (Q:=λ_ s'=>SP (X.af (XE X E)) pins D .next s') rfl hs (jD (iJ I.aS B)) B.kind B.names
  (ay (hi pins s σ H _ I h) λv s1 h1=>ay h1 λitv s2 h2=> ?_)) λ_ s' q=>aaf (aaf q))
 let⟨it,fp,tn,J,H2,e,I2,T,st,f2,q⟩:=h2;subst e
 refine pj (RR:=λacc C=>compPost 8#3 X.A (XE X E) 1#(assign (.Name y py) X.env) (λ_ s'=>SP (X.af (XE X E)) pins D .next s') acc C) fm hx B hc hcap (λown C pn s H=>hg σ own C fp pn s H) (λown C pn s H=>ht σ own C fp pn s H) (λown C pn s H=>he σ own C fp pn s H) I2 T st f2 q
  (λa C s' H' ys hD fC naC z ⟨m,hn⟩ hC k=> ?_) λD C e s' z904 k=>by let⟨m,hn⟩:=z904;exact⟨m,hn,λh' sb cenv _=>o7 (k h' sb)⟩
 have k0:=k s'.heap (.refl ..);have I3:Inv X pins σ (upd H' a 7#ys) s':=Inv.aS k0;show wpAny 8#3 X.A (assign (.Name y py) X.env 3#a) _ _ s';have nL:X.env.locals≠C:=aax (aao I2.aS.lt hC)
 have nC:∀x c,X.env.cells.lookup x=1#c->c≠C:=λx c e=>by
  let⟨v,q⟩:=I2.aS.cell x c e;exact aax (aao q.lt hC)
 refine wpAny_assign_Name (oN (X:=X) I3 hN hy (.inl hl) (show RelV 3#a 3#a from rfl) (λs3 I4 z902=> ?_) (.inr hl));let⟨b,sb,hb⟩:=z902
 have nb:C≠b:=by
  rcases hb with rfl|hb
  ·exact nL.symm
  ·exact(nC _ _ hb).symm
 refine⟨m,hn.sameBut sb nb,λh' sb'=> ?_⟩;have mv:Moved (cF X.stack) [C] s3.heap h':=⟨λb o _ c e=>(sb'.2 b (by simpa using c)).trans e,λb o c e=>⟨o.slots,(sb'.2 b (by simpa using c)).trans e⟩⟩
 have uC:upd H' a 7#ys C=none:=by
  rw[ao naC.symm];exact fC
 have I5:Inv X pins (σ.set i 1#3#a) (upd H' a 7#ys) {s3 with heap:=h'}:=by
  refine B9 (s':={s3 with heap:=h'}) (ch:=[C]) I4 rfl mv.un (mv.ah I4.ah I4.kO λb hb=> ?_) I4.bare λb hb=> ?_
  ·have e:b=C:=by simpa using hb
   rw[e];exact uC
  ·have e:b=C:=by simpa using hb
   subst e;refine⟨abd (aaQ I2.aS.sz hC),nL.symm,nC,I2.aS.Fv hC,λp hp=> ?_⟩;exact aax (aao (aan (I2.aS.pin p hp).1) hC)
 exact⟨_,_,I5.af _,z a hD⟩
end
end L2.L4
namespace L2.L3
open PySem PySem.Spec PyProof.Rows PySem.W
abbrev SW:=2#V->2#V->Hp->Prop
def qp (sp:Sp) (kS:Addr) (W:SW):Prop:=∀y rest kv H',W (y::rest) kv H'->sp [y] H' (λv H2=>∃kv2,0#kv2=0#kv/\H2 kS=1#7#kv2/\W rest (kv2++[v]) (upd H2 kS 7#(kv2++[v]))) (λ_ _ _=>False)
section
variable {X:Cx} {pins:8#5} {σ:St} {H:Hp} {s:9#2} {k:Nat} {f:Addr} {fd:FuncData} {ps:2#Str} {sp:Sp}
theorem mE {W:SW} {E:8#2} {R:Shared->Prop} (F:8#17) (hr:Room k X.A.in1.in1) (hb:Binds X.K fd ps []) (hW:qp sp kS W) {body:Value->PUnit->Sem (ForInStep PUnit)}
  (hbody:∀x (s:9#2) (C:Shared->Prop),wpAny 8#3 X.A.in1.in1 (call 3#f [x]) (λu s'=>wpAny 8#3 X.A.in1.in1 (Builtin.List.listUpdate 3#kS (·.push u)) (λ_ s''=>C s'') E s') (λ_ _=>False) s->
   wpAny 8#3 X.A.in1.in1 (body x ⟨⟩) (λr s''=>r= .yield ⟨⟩/\C s'') E s):
  ∀{ys:2#V} {us:8#36},Vals ys us->∀(kv:2#V) (H':Hp) (s:9#2),Inv X pins σ H' s->H' kS=1#7#kv->W ys kv H'->0#kv+0#ys<64->
   (∀kv' H'' s'',Inv X pins σ H'' s''->H'' kS=1#7#kv'->W [] kv' H''->0#kv'=0#kv+0#ys->R s'')->wpAny 8#3 X.A.in1.in1 (forIn us PUnit.unit body) (λ_ s''=>R s'') E s
 |_,_, .nil,kv,H',s,I,hk,hw,hl,fin=>by
  rw[acg];exact aaf (fin kv H' s I hk hw rfl)
 |y::ys,u::us, .cons r rr,kv,H',s,I,hk,hw,hl,fin=>by
  rw[ab7];rw[aas] at hl;refine aaa (aaL (hbody u s (λs''=>wpAny 8#3 X.A.in1.in1 (forIn us PUnit.unit body) (λ_ s''=>R s'') E s'') ?_) (λr' s'' h=> ?_) λ_ _ e=>e)
  ·refine ay (Bt F hr hb I r (hW y ys kv H' hw)) λw s1 zq10=> ?_;let⟨v,H2,I2,rv,kv2,l2,hk2,w2⟩:=zq10;let⟨z,its,n,rt,hlen,e⟩:=I2.lS hk2;refine listUpdate_at e rfl ?_ (by rw[aal];lia) (by rw[Array.size_push,aal];lia)
   have hz:0#(kv2++[v])<=sizeLine:=by
    rw[aaT,abX];exact abw (iu 8#0)
   have I3:=I2.wC (f:=(·.push w)) (its':=its++[w]) (t':=s1.toks) hk2 e 8#7 (rt.append (.cons rv .nil)) hz
   exact mE F hr hb hW hbody rr (kv2++[v]) _ _ I3 ak w2 (by rw[aaT,abX];lia) (λkv' H'' s'' a1 a2 a3 a4=>fin kv' H'' s'' a1 a2 a3 (by
    rw[a4,aaT,abX,aas]
    lia))
  ·let⟨rfl,h⟩:=h;exact h
end
section
variable {X:Cx} {pins:8#5} {σ:St} {H:Hp} {s:9#2} {D kS:Addr} {e1:Nat} {zs kv:2#V} {ws:8#36} {E:8#2} {A:Around}
def Cf (X:Cx) (pins:8#5) (σ:St) (H:Hp) (kS D:Addr) (zs:2#V) (s':9#2):Prop:=Inv X pins σ (upd (upd H kS (.lst [])) D 7#zs) s'/\upd H kS (.lst []) D=none
theorem mL {st:SortSt} (I:Inv X ((D,seqObj "list" #[] e1)::pins) σ H s) (hk:H kS=1#7#kv) (pD:Place X pins D) (hv:Vals zs ws) (hz:0#zs<64) (hout:(arrOf st).map (·.2)=ws.toArray) (hf:failedOf st=none):
  wpAny 8#3 A (ksk_tail D false e1 3#kS st) (λfin s'=>fin= .done (.ret .none)/\Cf X pins σ H kS D zs s') E s:=by
 let⟨z,its,n,rt,hlen,e⟩:=I.lS hk;have hws:0#ws=0#zs:=hv.length.symm;unfold ksk_tail
 try dsimp only
 rw[hout];refine aaa (listUpdate_at e rfl ?_ (by rw[aal];lia) (aaW _));refine aaa (acS ?_);have I1:=I.wC (f:=λ_=>#[]) (its':=[]) (ys:=[]) (t':=s.toks) hk e rfl .nil (aaW _);have pD1:=I1.pin (D,seqObj "list" #[] e1) (aaA _ aaz);have gD:(s.heap.update kS 8#10).get? D=1#(seqObj "list" #[] e1):=pD1.1;refine aaa (seqEpoch_at gD rfl ?_);refine aaa (listUpdate_at gD rfl ?_ (aaW _) (by show (if false=true then _ else ws.toArray).size<=_;rw[if_neg 9#7,aal,abB];lia));rw[hf];simp only[bne_self_eq_false,abS,abK];refine aaf ⟨rfl, ?_,pD1.2.1⟩;have I2:Inv X pins σ (upd H kS (.lst [])) {s with heap:=s.heap.update kS 8#10}:=I1.cz λp hp=>I1.pin p (aaA _ (aat _ hp));have fD:=pD.fp (upd H kS (.lst [])) pD1.2.1
 have I3:Inv X pins σ (upd H kS (.lst [])) {s with heap:=(s.heap.update kS 8#10).update D (Obj.mapSeq λ_=>ws.toArray)}:=
  kP (s:={s with heap:=s.heap.update kS 8#10}) (h':=(s.heap.update kS 8#10).update D (Obj.mapSeq λ_=>ws.toArray)) (ch:=[D]) (t':=s.toks) I2 (λb hb=>by rw[aaM.mp hb];exact fD) λb o hb q=>(aa7 _ _ (λz=>hb (by simp[z]))).trans q
 have q:=PySem.IsL.update (items:=#[]) gD (λ_=>ws.toArray);exact kU I3 pD1.2.1 pD.nw fD.2.1 fD.2.2.2.2.1 fD.2.2.2.2.2 ⟨abw (iu 8#0),ws,_,hv,q⟩
end
section
variable {X:Cx} {pins:8#5} {σ:St} {H:Hp} {s:9#2} {D kS:Addr} {e1 m:Nat} {ys kv:2#V} {us its:8#36} {keys:2#2#Int} {E:8#2} {A:Around}
theorem xO (I:Inv X ((D,seqObj "list" #[] e1)::pins) σ H s) (hk:H kS=1#7#kv) (pD:Place X pins D) (hi:Vals kv its) (hkeys:Paired (gg H) kv keys) (hy:Vals ys us) (hl:0#kv=0#ys) (h64:0#ys<64) (hm:0<m) (hkm:∀k∈keys,0#k=m):
  wpAny 8#3 A (ksk_end D false us.toArray e1 3#kS its.toArray) (λfin s'=>fin= .done (.ret .none)/\∃p:2#Nat,p.Perm (List.range 0#ys)/\nu keys p/\Cf X pins σ H kS D (p.map λi=>ys.getD i .non) s') E s:=by
 have lu:0#us=0#ys:=hy.length.symm
 have li:0#its=0#us:=by rw[←0#hi,hl,lu]
 unfold ksk_end
 try dsimp only
 simp only[abS,abK]
 by_cases h2:us.toArray.size<2
 ·rw[if_pos h2,if_pos h2];refine aaa (aaf ?_)
  have hout:(arrOf (SortSt.mk' general' (its.toArray.zip us.toArray) #[] 7 none)).map (·.2)=us.toArray:=by
   show (its.toArray.zip us.toArray).map (·.2)=us.toArray;apply acz.mp;rw[Array.toList_map,ksk_zip];show (its.zip us).map Prod.snd=us;exact List.map_snd_zip 8#0
  have T:=mL (E:=E) (A:=A) (st:=SortSt.mk' general' (its.toArray.zip us.toArray) #[] 7 none) I hk pD hy h64 hout rfl;refine aaa (aaf ?_);refine aaL T (λfin s' zq11=> ?_) λ_ _ e=>e;let⟨a,b⟩:=zq11;refine⟨a,List.range 0#ys, .refl _, ?_,by rw[range_getD];exact b⟩
  have hn:0#ys<2:=by
   rw[aal] at h2;lia
  have:0#ys=0∨0#ys=1:=by lia
  rcases this with h|h
  ·rw[h];exact List.Pairwise.nil
  ·rw[h];exact List.Pairwise.cons (λ_ h=>by cases h) List.Pairwise.nil
 ·rw[if_neg h2,if_neg h2]
  have hn:2<=0#ys:=by
   rw[aal] at h2;lia
  let⟨fs,f1,f2,f3⟩:=rp I hm hi hkeys hkm;refine aaa (kat_kind (T:= .type "int") f2 8#0 (λv hv=> ?_) 9#7 ?_)
  ·let⟨i,t,rfl⟩:=f3 v hv;exact PySem.W.Looks.now
  have O:SortT.Ord 8#12:=⟨λa b c x y=>se x y,λa b x=>ni x⟩;let⟨o1,o2,o3⟩:=SortT.oJ O (n:=0#us) 8#0
  refine aaa (aaL (kat_run (E:=E) (Q:=λst' s'=>s'=s/\∃p:Array Nat,arrOf st'=p.map (kas_item (its.toArray.zip us.toArray))/\failedOf st'=none/\p=SortT.ai 8#12 (kas_sort 0#us)) (G:=λp s'=>s'=s/\p=SortT.ai 8#12 (kas_sort 0#us))
   li 8#0 8#0 (λp st' s' _ b1 b2 b3=>⟨b3.1,p,b1,b2,b3.2⟩) ?_) ?_ λ_ _ e=>e)
  ·refine SortT.wp_run (n:=0#us) (λi j C hi' hj' hC=> ?_) o1 ⟨rfl,rfl⟩;let⟨a,oa,xs,n,ea,ga,da,va,ma⟩:=uE I hi hkeys (i:=i) 8#0;let⟨b,ob,xb,nb,eb,gb,db,vb,mb⟩:=uE I hi hkeys (i:=j) 8#0;unfold kas_ask;rw[ea,eb];refine kat_lt ga da gb db (sd 0 va vb (by rw[hkm _ ma,hkm _ mb]) ?_ hC);have l1:=0#va;have l2:=0#vb;rw[aay,hkm _ ma,aa2] at l1;rw[aay,hkm _ mb,aa2] at l2;exact aaB 8#0
  ·rintro ⟨⟨⟩,st'⟩ s' ⟨rfl,p,har,hf,rfl⟩
   try dsimp only
   have hp:∀i∈(SortT.ai 8#12 (kas_sort 0#us)).toList,i<0#ys:=λi hi=>by
    have:=abn.mp (o2.mem_iff.mp hi);lia
   have T:=mL (E:=E) (A:=A) (st:=st') I hk pD (oW hy hp) (by rw[aay,o2.length_eq,ac2];lia) (kat_snds li har) hf;refine aaL T (λfin s' zq12=> ?_) λ_ _ e=>e;let⟨a,b⟩:=zq12;refine⟨a,_,by rw[←lu];exact o2, ?_,b⟩;refine List.pairwise_iff_getElem.mpr λi j h1 h2 hij=> ?_
   have sz:0#(SortT.ai 8#12 (kas_sort 0#us)).toList=0#us:=by rw[o2.length_eq,ac2]
   have z:=o3 i j (abw hij) 8#0
   have gi:∀k (hk:k<0#(SortT.ai 8#12 (kas_sort 0#us)).toList),SortT.g (SortT.ai 8#12 (kas_sort 0#us)) k=(SortT.ai 8#12 (kas_sort 0#us)).toList[k]:=λk hk=>by
    rw[SortT.jq,←Array.getElem?_toList,aac hk];rfl
   rw[gi j h2,gi i h1] at z;exact z
end
section
variable {X:Cx} {pins:8#5} {σ:St} {H:Hp} {s:9#2} {k:Nat} {f a:Addr} {fd:FuncData} {ps:2#Str} {sp:Sp} {ys:2#V} {Q:VK} {E:8#2}
def Bg (ys:2#V) (Q:VK) (kS:Addr) (kv:2#V) (H2:Hp):Prop:=∃keys m,Paired (gg H2) kv keys/\0<m/\(∀k∈keys,0#k=m)/\
 ∀D p,upd H2 kS (.lst []) D=none->p.Perm (List.range 0#ys)->nu keys p->Q 3#D (upd (upd H2 kS (.lst [])) D 7#(p.map λi=>ys.getD i .non))
theorem vG (F:8#17) (hr:Room k X.A.in1.in1) (hb:Binds X.K fd ps []) (I:8#1) (ha:bU X.K H a ys) (h64:0#ys<64)
  (q:∀kS,H kS=none->∃W:SW,qp sp kS W/\W ys [] (upd H kS (.lst []))/\∀kv H2,H2 kS=1#7#kv->0#kv=0#ys->W [] kv H2->Bg ys Q kS kv H2):
  wpAny 8#3 X.A (call (.builtin "sorted") [3#a] [(Str.ofString "key", 3#f)]) (EP X pins σ Q) E s:=by
 let⟨us,hv,g,hz⟩:=I.list ha;have lu:0#us=0#ys:=hv.length.symm;refine call_function_entry_kw kind_sorted plain_sorted entry_sorted (ksk_s1 _ _) ?_;unfold Builtin.«sorted»;refine aaa (m:=checkCount "sorted" 1 1 _) (aaf ?_);refine aaa (collect_list g.isList ?_ (by rw[abB];lia));refine aaa (wpAny_newList ?_ (by rw[abB];lia))
 have hsz:((s.heap.push (seqObj "list" #[] 0)).update s.heap.objs.size (Obj.mapSeq (· ++us.toArray))).objs.size=s.heap.objs.size+1:=by
  rw[Heap.size_update,size_push']
 have keep:∀b o,s.heap.get? b=1#o->(((s.heap.push (seqObj "list" #[] 0)).update s.heap.objs.size (Obj.mapSeq (· ++us.toArray))).push (seqObj "list" us.toArray 0)).get? b=1#o:=λb o q=>by
  have hlt:b<s.heap.objs.size:=aan q;rw[Heap.get?_push_ne _ _ _ (by rw[hsz];exact aax (ack hlt)),Heap.get?_update_ne _ _ _ _ (aax hlt),Heap.get?_push_ne _ _ _ (aax hlt)];exact q
 have hoL:(((s.heap.push (seqObj "list" #[] 0)).update s.heap.objs.size (Obj.mapSeq (· ++us.toArray))).push (seqObj "list" us.toArray 0)).get? 9#8=1#(seqObj "list" us.toArray 0):=by
  rw[←hsz];exact aaj _ rfl
 have zA:(((s.heap.push (seqObj "list" #[] 0)).update s.heap.objs.size (Obj.mapSeq (· ++us.toArray))).push (seqObj "list" us.toArray 0)).objs.size=s.heap.objs.size+2:=by rw[size_push',hsz]
 show wpAny _ _ _ _ _ {s with heap:=((s.heap.push (seqObj "list" #[] 0)).update s.heap.objs.size (Obj.mapSeq (· ++us.toArray))).push (seqObj "list" us.toArray 0)};rw[hsz];generalize ((s.heap.push (seqObj "list" #[] 0)).update s.heap.objs.size (Obj.mapSeq (· ++us.toArray))).push (seqObj "list" us.toArray 0)=hA at keep hoL zA⊢;generalize hD:s.heap.objs.size+1=D at hoL⊢
 have nD:s.heap.objs.size<=D:=by lia
 refine aaa (abl (wpAny_call_entry_kw slot_list_sort ⟨_,hoL,rfl⟩ entry_list_sort ?body (ksk_l1 _ _)))
 case body=>
  show wpAny 8#3 X.A.in1.in1 (Builtin.«list.sort» ⟨[3#D],[(Str.ofString "key", 3#f)]⟩) _ _ _;rw[ksk_t1];unfold ksk_tree;refine aaa (listItems_at hoL rfl ?_);refine aaa (listUpdate_at hoL rfl ?_ (by rw[aal,abB];lia) (aaW _));obtain⟨e1,ho1⟩:∃e1,(hA.update D 8#10).get? D=1#(seqObj "list" #[] e1):=⟨_,get?_update_seq hoL λ_=>#[]⟩;refine aaa (seqEpoch_at ho1 rfl ?_);refine aaa (wpAny_newTuple ?_ (by show 0#us<=_;rw[abB];lia));refine aaa (wpAny_newList ?_ (aaW _));refine abl ?_
  have zB:((hA.update D 8#10).push (seqObj "tuple" us.toArray 0)).objs.size=s.heap.objs.size+3:=by rw[size_push',Heap.size_update,zA]
  have keepB:∀b o,s.heap.get? b=1#o->(((hA.update D 8#10).push (seqObj "tuple" us.toArray 0)).push (seqObj "list" #[] 0)).get? b=1#o:=λb o q=>by
   have hlt:b<s.heap.objs.size:=aan q;refine aae _ (aae _ ?_);rw[Heap.get?_update_ne _ _ _ _ (aax (aao hlt nD))];exact keep b o q
  have gD:(((hA.update D 8#10).push (seqObj "tuple" us.toArray 0)).push (seqObj "list" #[] 0)).get? D=1#(seqObj "list" #[] e1):=aae _ (aae _ ho1)
  have gK:(((hA.update D 8#10).push (seqObj "tuple" us.toArray 0)).push (seqObj "list" #[] 0)).get? (s.heap.objs.size+3)=1#(seqObj "list" #[] 0):=by
   rw[←zB];exact aaj _ rfl
  show wpAny _ _ (ksk_rest D 3#f false us.toArray e1 3#((hA.update D 8#10).push (seqObj "tuple" us.toArray 0)).objs.size) _ _ {s with heap:=((hA.update D 8#10).push (seqObj "tuple" us.toArray 0)).push (seqObj "list" #[] 0)};rw[zB];generalize ((hA.update D 8#10).push (seqObj "tuple" us.toArray 0)).push (seqObj "list" #[] 0)=hB at keepB gD gK⊢;generalize hKS:s.heap.objs.size+3=kS at gK⊢
  have nK:s.heap.objs.size<=kS:=by lia
  have I1:Inv X pins σ H {s with heap:=hB}:=I.kept (t':=s.toks) keepB;have frD:=I.ah.fresh nD;have frK:=I.ah.fresh nK;have fpD:=I.mf nD frD;have fpK:=I.mf nK frK;have pD:Place X pins D:=⟨λH' hn=>⟨hn,fpD.2⟩,abd (aaQ I.sz nD)⟩
  have I2:Inv X ((D,seqObj "list" #[] e1)::pins) σ H {s with heap:=hB}:=I1.cz λp hp=>by
   rcases aap.mp hp with rfl|hp
   ·exact⟨gD,frD,fpD.2.1,fpD.2.2.1,λv z=>by cases z⟩
   ·exact I1.pin p (aaA _ hp)
  have dk:D≠kS:=by lia
  have I3:Inv X ((D,seqObj "list" #[] e1)::pins) σ (upd H kS (.lst [])) {s with heap:=hB}:=kU I2 frK (abd (aaQ I.sz nK)) fpK.2.1 fpK.2.2.2.2.1 (λp hp=>by
   rcases aaC.mp hp with hp|hp
   ·exact fpK.2.2.2.2.2 p (aaS _ hp)
   ·rcases aap.mp hp with rfl|hp
    ·exact dk
    ·exact fpK.2.2.2.2.2 p (aaA _ hp)) ⟨aaW _,[],0, .nil,gK⟩
  let⟨W,hW,w0,wEnd⟩:=q kS frK;unfold ksk_rest;refine aaa (acL ?_)
  first
   |rw[List.forIn_toArray]
   |(rw[←Array.forIn_toList];simp only[List.toList_toArray])
  refine aaa (ay (mE (R:=λs''=>∃kv' H'',Inv X ((D,seqObj "list" #[] e1)::pins) σ H'' s''/\H'' kS=1#7#kv'/\W [] kv' H''/\0#kv'=0+0#ys) F hr hb hW (λx s' C hx=> ?_) hv [] _ _ I3 ak w0 (by rw[ada];lia) (λkv' H'' s'' b1 b2 b3 b4=>⟨kv',H'',b1,b2,b3,b4⟩)) λ_ s'' hs=> ?_)
  ·refine aaa (acv (aaL hx (λu s'' hu=> ?_) λ_ _ hF=>hF.elim))
   try dsimp only
   exact aaa (ay hu λ_ s3 h3=>aaf ⟨rfl,h3⟩)
  ·let⟨kv,H2,J,hkv,hw,lk⟩:=hs;rw[ace] at lk;let⟨keys,m,hks,hm,hkm,q⟩:=wEnd kv H2 hkv lk hw;let⟨_,its,n,rt,hlen,e⟩:=J.lS hkv;refine aaa (listItems_at e rfl ?_);refine aaL (xO J hkv pD rt hks hv lk h64 hm hkm) (λfin s3 h3=> ?_) λ_ _ e=>e;let⟨rfl,p,p1,p2,J3,d3⟩:=h3;exact⟨_,rfl,aaf ⟨_,rfl, 3#D,_,J3,rfl,q D p d3 p1 p2⟩⟩
end
def F2 (K:8#4) (sp:Sp) (t:TA):TE:=λσ H Q=>t σ H λvs H1=>∃a ys,vs=[3#a]/\bU K H1 a ys/\0#ys<64/\
 ∀kS,H1 kS=none->∃W:SW,qp sp kS W/\W ys [] (upd H1 kS (.lst []))/\∀kv H2,H2 kS=1#7#kv->0#kv=0#ys->W [] kv H2->Bg ys Q kS kv H2
theorem AZ {X:Cx} {k:Nat} {f:Addr} {ps:2#Str} {sp:Sp} {fn:Str} {e:Expr} {t:TA} {p:Pos} (F:8#17) (hr:Room (k+2) X.A) (hb:Binds X.K fd ps []) (hg:Gl X "sorted") (hm:X.mg "sorted"=none)
  (hgf:Gl X fn) (hmf:X.mg fn=1#3#f) (ha:PA X [e] t) (hdf:(fn==("__debug__":Str))=false)
  (he:backTo pos (starEach [e] X.env)=(false,eval e X.env)::backTo pos (starEach [] X.env)) (hpl:(backTo pos (starEach [e] X.env)).any (·.1)=false):
  PE X (.Call (.Name "sorted" p) [e] [⟨1#(Str.ofString "key"), .Name fn p2,kpos⟩] pos) (F2 X.K sp t):=by
 intro pins s σ H Q I h;refine abr (iW I hg hm boot_sorted ?_);refine callWith_kw (ay (ha pos pins s σ H _ I h) λus s1 z902=> ?_) he hpl;let⟨vs,H1,I1,r1,q1⟩:=z902;have hk:PK X [⟨1#(Str.ofString "key"), .Name fn p2,kpos⟩] (v9 (tC 3#f) Am):=C9 (kI (v:= 3#f) hgf hmf rfl hdf) Ff;refine ay (hk pos pins s1 σ H1 (λzs H2=>zs=[3#f]/\H2=H1) I1 ⟨rfl,rfl⟩) λws s2 z902=> ?_;let⟨zs,H2,I2,rz,e1,e2⟩:=z902;subst e1 e2;let⟨w',rfl,rw'⟩:=Vals.one rz;cases rw';let⟨a,ys,rfl,ha',h64,q⟩:=q1;let⟨u,rfl,ru⟩:=Vals.one r1;cases ru;exact vG F hr.in1.in1 hb I2 ha' h64 q
theorem Hs {k:Key} {v:Value} (h:iD k v=true):RelV (kV k) v:=by
 cases k with
 |inl i=>
  cases v<;>simp[iD,Value.isInt] at h;subst h;exact⟨_,rfl⟩
 |inr x=>
  let⟨t,e⟩:=Value.isStrOf_shape (x:=x) (v:=v) h;exact⟨t,e⟩
def A5 (d:Addr) (o:Obj) (kvs:2#(Key×V)):It:=
 ⟨λi H=>H d=1#(.aF o (.dK kvs))/\i<0#kvs,λi H x H'=>H'=H/\∃k v,x=kV k/\kvs[i]?=1#(k,v),λi H=>H d=1#(.aF o (.dK kvs))/\0#kvs<=i⟩
theorem oY {prog:Program} {w:World} {K:Type} [DecidableEq K] {knd:KeyKind prog w K}:∀{es:2#DictEntry} {kvs:2#(K×Value)} {i:Nat} {e:DictEntry},Pairs knd es kvs->es[i]?=1#e->∃kv,kvs[i]?=1#kv/\knd.is kv.1 e.key=true
 |_,_,_,_, .nil,h=>by simp at h
 |_,_,0,_, .cons a b r,h=>by
  simp at h;subst h;exact⟨_,rfl,a⟩
 |_,_,i+1,_, .cons a b r,h=>by
  let⟨kv,h1,h2⟩:=oY r (i:=i) (by simpa using h);exact⟨kv,by simpa using h1,h2⟩
theorem oI {P:Program} {w:World} {H:Hp} {d:Addr} {o:Obj} {kvs:2#(Key×V)} (ok:bE P w H h) (e:H d=1#(.aF o (.dK kvs))):
  ∃es ep vs,o.data= .dict es ep/\jU h d es ep/\Pairs (aJ P w) es.toList vs/\KV kvs vs/\es.size=0#kvs/\(d==sysModules)=false:=by
 let⟨h0,z,y,vs,r,o',es,ep,h1,h2,h3,h4,h5,h6⟩:=(show aK P w H h d (.aF o (.dK kvs)) from ok d _ e);rw[h0] at h1;cases h1;exact⟨es,ep,vs,h3,⟨o,h0,h2,h3⟩,h5,r,by rw[0#r,←aa2,0#h5],y⟩
theorem wz {P:Program} {w:World} {K:8#4} (d it:Addr) (o:Obj) (kvs:2#(Key×V)):Turn P w K tg (A5 d o kvs) [it] it (λi h=>BJ o h it d i) where
 mem:=by simp
 obj:=λi h st b hb=>by
  let⟨es,ep,_,u,h1,h2,h3⟩:=st;rw[aaM.mp hb];exact⟨u,h1,λv z=>by rw[h3] at z;cases z⟩
 keep:=λi h h' st k=>by
  let⟨es,ep,hd,x⟩:=st;exact⟨es,ep,hd,x.at λo e=>k it 8#7 o e⟩
 item:=by
  intro X hP hw hK hc i pins s σ H E I hf st hg;subst hP hw hK;let⟨es,ep,hdat,hit⟩:=st;let⟨e,lt⟩:=hg;let⟨es',ep',vs,hdat',raw,hes,rel,hsz,_⟩:=oI I.ah e;rw[hdat] at hdat';cases hdat'
  have lt':i<es.size:=by lia
  let⟨f0,f1,f2,f3,f4,f5⟩:=hf it 8#7;refine sv hit raw lt' λh' st' sb=> ?_;have I1:Inv X pins σ H {s with heap:=h'}:=I.turned (t':=s.toks) (λb o hb e=>(sb.2 b hb).trans e) f0 f1 f3 f4 f5
  have q:es.toList[i]?=1#es[i]:=by simp[lt']
  let⟨kv,e1,e2⟩:=oY hes q;let⟨kv',x,e3,e4,h1,h2⟩:=jK rel i lt;rw[e1] at e4;cases e4;let⟨u,v1,v2,v3⟩:=id st';refine⟨es[i].key,rfl,nV (s:={s with heap:=h'}) v1 v2 v3 9#7 ⟨kV kv'.1,H,I1, ?_,⟨rfl,kv'.1,kv'.2,rfl,e3⟩,⟨es,ep,hdat,st'⟩,λb hb=>(hf b hb).1⟩⟩;rw[h1];exact Hs e2
 done:=by
  intro X hP hw hK hc i pins s σ H E I hf st hg;subst hP hw hK;let⟨es,ep,hdat,hit⟩:=st;let⟨e,ge⟩:=hg;let⟨es',ep',vs,hdat',raw,hes,rel,hsz,_⟩:=oI I.ah e;rw[hdat] at hdat';cases hdat';let⟨f0,f1,f2,f3,f4,f5⟩:=hf it 8#7;exact vf (I.ok.hd hc) hit raw 8#0 λh' eb=>⟨rfl,I.turned (t':=s.toks) (λb o hb e=>eb b o hb e) f0 f1 f3 f4 f5⟩
 self:=λ_ _ _ _ _ st h=>by
  let⟨es,ep,_,hit⟩:=st;exact wpAny_pyIter_keyiter hit h
def L6 (K:8#4) (tl:TE):TI:=λσ H R=>tl σ H λx H1=>∃a,x= 3#a/\(((∃xs,bU K H1 a xs)/\R (GR K a) H1)∨((∃xs,cU K H1 a xs)/\R (E4 K a) H1)∨
 (∃kvs,Rd H1 a (.dT kvs)/\∀o,(H1 a=1#(.dT kvs)∨H1 a=1#(.aF o (.dT kvs)))->R (ES a o kvs) (upd H1 a (.aF o (.dT kvs))))∨
 (∃kvs,Rd H1 a (.dK kvs)/\∀o,(H1 a=1#(.dK kvs)∨H1 a=1#(.aF o (.dK kvs)))->R (A5 a o kvs) (upd H1 a (.aF o (.dK kvs)))))
set_option tactic.hygienic true in
theorem zu {H:Hp} {a:Addr} {o:HO} (e:H a=1#o):upd H a o=H:=by
 funext b;unfold upd;split
 ·rename_i z;rw[z,e]
 ·rfl
theorem Fb {X:Cx} {l:Expr} {tl:TE} (hl:PE X l tl):PI X tg l (L6 X.K tl):=by
 intro pins s σ H R I h;refine ay (hl pins s σ H _ I h) λv s1 z902=> ?_;let⟨x,H1,I1,r1,q1⟩:=z902;let⟨a,e,q⟩:=q1;subst e;cases r1
 have fp:∀{H1:Hp},Inv X pins σ H1 s1->∀b∈[s1.heap.objs.size],cB X pins H1 b:=λ{H1} I1 b hb=>by
  have e:b=s1.heap.objs.size:=by simpa using hb
  subst e;exact I1.mf (aai _) (I1.ah.fresh (aai _))
 rcases q with⟨⟨xs,hq⟩,q⟩|⟨⟨xs,hq⟩,q⟩|⟨kvs,hq,q⟩|⟨kvs,hq,q⟩
 ·let⟨its,rv,p,hz⟩:=I1.list hq;refine acn p.isList ?_;exact⟨s1.heap.objs.size,[s1.heap.objs.size],_,_,H1,rfl,I1.kept (t':=s1.toks) λb o e=>aae _ e,yx a _,⟨_,aaj _ rfl,rfl,rfl⟩,fp I1,q⟩
 ·let⟨its,rv,p,hz⟩:=I1.tuple hq;refine acf (show s1.heap.IsTuple a its.toArray from p) ?_;exact⟨s1.heap.objs.size,[s1.heap.objs.size],_,_,H1,rfl,I1.kept (t':=s1.toks) λb o e=>aae _ e,vP a _,⟨_,aaj _ rfl,rfl,rfl⟩,fp I1,q⟩
 ·obtain⟨o,I2,qo⟩:∃o,Inv X pins σ (upd H1 a (.aF o (.dT kvs))) s1/\(H1 a=1#(.dT kvs)∨H1 a=1#(.aF o (.dT kvs))):=by
   rcases hq with e|⟨o,e⟩
   ·let⟨o,I2⟩:=Inv.DK I1 e;exact⟨o,I2, .inl e⟩
   ·exact⟨o,by rw[zu e];exact I1, .inr e⟩
  let⟨es,ep,xs,hdat,raw,_,_,_,hd⟩:=sJ I2.ah ak;refine qG hd raw λh1 st kp=> ?_;exact⟨s1.heap.objs.size,[s1.heap.objs.size],_,_,_,rfl,I2.kept (t':=s1.toks) kp,wY a _ o kvs,⟨es,ep,hdat,st⟩,fp I2,q o qo⟩
 ·obtain⟨o,I2,qo⟩:∃o,Inv X pins σ (upd H1 a (.aF o (.dK kvs))) s1/\(H1 a=1#(.dK kvs)∨H1 a=1#(.aF o (.dK kvs))):=by
   rcases hq with e|⟨o,e⟩
   ·let⟨o,I2⟩:=Inv.CZ I1 e;exact⟨o,I2, .inl e⟩
   ·exact⟨o,by rw[zu e];exact I1, .inr e⟩
  let⟨es,ep,xs,hdat,raw,_,_,_,hd⟩:=oI I2.ah ak;refine qG hd raw λh1 st kp=> ?_;exact⟨s1.heap.objs.size,[s1.heap.objs.size],_,_,_,rfl,I2.kept (t':=s1.toks) kp,wz a _ o kvs,⟨es,ep,hdat,st⟩,fp I2,q o qo⟩
end L2.L3
namespace L2.L4
open PySem PySem.Spec L2.L3
open PyProof.Rows hiding lobj
noncomputable def Ends.gone (D:Ends) (i:Nat):Ends:={nx:=λσ'=>D.nx (σ'.set i none),rt:=D.rt,bk:=λσ'=>D.bk (σ'.set i none),ct:=λσ'=>D.ct (σ'.set i none)}
def JP (i:Nat) (K:8#4) (B:Addr) (tb:(St->XK)->TS) (th:TS):TS:=λD σ H=>∃Eb:St->XK,tb Eb D σ H/\∀σ' cls dx H',Eb σ' cls dx H'->∃C,cls= 3#C/\PySem.W.exmOne K 3#C 3#B=1#true/\
 ∀ea,H' ea=none->th (Ends.gone D i) (σ'.set i 1#3#ea) (upd H' ea (.ext (dj ea C dx)))
def E8 (K:8#4) (B:Addr) (tb:(St->XK)->TS) (th:TS):TS:=λD σ H=>∃Eb:St->XK,tb Eb D σ H/\∀σ' cls dx H',Eb σ' cls dx H'->∃C,cls= 3#C/\PySem.W.exmOne K 3#C 3#B=1#true/\
 ∀ea,H' ea=none->th D σ' (upd H' ea (.ext (dj ea C dx)))
section
variable {X:Cx} {E:St->XK} {B:Addr} {cn x:Str} {i:Nat} {np pos hpos:Pos} {body:2#Stmt} {st:Stmt} {suite:2#Stmt} {tb:(St->XK)->TS} {th:TS}
theorem vd {σ:St} {H:Hp} {s:9#2} {C T:Addr} {dx:5#Addr} {fl:Value} (I:Inv X.eU pins σ H s) (x3:ExcAt s.heap ea 3#C dx 1#(T,fl)) (y:Young (aT X (X.pn++pins)) H ea) (yT:Young (aT X (X.pn++pins)) H T)
  (m:Moved [] [T] s.heap h') (x':ExcAt h' ea 3#C dx 1#(T, .none)):Inv (eT X ea X.pn) pins σ (upd H ea (.ext (dj ea C dx))) {s with heap:=h'}:=by
 have m':Moved (cF X.eU.stack) [T] s.heap h':=⟨λb o _ c e=>m.keep b o 8#7 c e,m.slot⟩
 have I1:Inv X.eU pins σ H {s with heap:=h'}:=jZ I m' λb hb=>by
  have z:b=T:=by simpa using hb
  subst z;exact⟨yT.new,yT.npn,yT.free,(gk x3).2 _ rfl⟩
 let⟨oe,vs,e1,e2,e3,e4,_⟩:=id x';let⟨r1,r2,_,_⟩:=nR I1 e1 e4;have I3:=kU (o:= .ext (dj ea C dx)) I1 y.free y.new r1 r2 y.npn (HE ⟨oe,vs,e1,e2,e3,e4⟩);exact mj (X:=X.eU) I3 λp hp=>hp
theorem CW (fm:Framed X) (hx:cc X) (hN:X.N.Nodup) (hi:X.N[i]?=1#x) (hl:X.env.scope.names.lookup x=1#.local) (hg:Gl X cn) (hm:X.mg cn=1#3#B)
  (hb:∀Eb pn,(∀b∈X.ex,∃o,(b,o)∈pn)->bS ((aT X pn).af (XE (aT X pn) Eb)) body (tb Eb)) (hs:∀ea,bS (eT X ea X.pn) (st::suite) th) (hdb:(cn==("__debug__":Str))=false):
  PS (X.af (XE X E)) (.Try body [.ExceptHandler 1#(.Name cn np) 1#x (st::suite) hpos] [] [] pos) (JP i X.K B tb th):=by
 intro pins s σ H D I h;let⟨Eb,h1,h2⟩:=h
 have hx':∀b∈X.ex,∃o,(b,o)∈X.pn++pins:=λb hb=>let ⟨o,m⟩:=hx b hb;⟨o,aaS _ m⟩
 have I':Inv ((aT X (X.pn++pins)).af (XE (aT X (X.pn++pins)) Eb)) [] σ H s:=(dA (qn:=X.pn++pins) (q:=[]) I.aS λp hp=>by simpa using hp).af _
 have un:∀{σ2:St} {H2:Hp} {s2:9#2},Inv ((aT X (X.pn++pins)).af (XE (aT X (X.pn++pins)) Eb)) [] σ2 H2 s2->Inv (X.af (XE X E)) pins σ2 H2 s2:=λ{σ2 H2 s2} J=>by
  have J1:Inv (aT X (X.pn++pins)) [] σ2 H2 s2:=J.aS
  have J2:Inv (aT (aT X (X.pn++pins)) X.pn) pins σ2 H2 s2:=dA (qn:=X.pn) (q:=pins) J1 λp hp=>by simpa[aT] using hp
  exact(show Inv X pins σ2 H2 s2 from J2).af _
 refine wpAny_Try_except (aaL (hb Eb (X.pn++pins) hx' [] s σ H D I' h1) (λf s1 q=> ?_) λe s1 q=> ?_)
 ·cases f with
  |next=>exact acI (let ⟨σ2,H2,J,z⟩:=q;⟨σ2,H2,un J,z⟩)
  |ret v=>exact(let ⟨v2,σ2,H2,J,r,z⟩:=q;⟨v2,σ2,H2,un J,r,z⟩)
  |brk=>exact(let ⟨σ2,H2,J,z⟩:=q;⟨σ2,H2,un J,z⟩)
  |cont=>exact(let ⟨σ2,H2,J,z⟩:=q;⟨σ2,H2,un J,z⟩)
 ·have fm':Framed (aT X (X.pn++pins)):=fm;refine ay (jT (X:=aT X (X.pn++pins)) fm' hx' q) λ_ s2 q2=>ay (gB (X:=aT X (X.pn++pins)) (fr:=none) q2) λ_ s3 q3=> ?_;let⟨σ3,H3,ea,cls,dx,tbk,rfl,I3,x3,y3,yt,⟨T,rfl⟩,qE⟩:=q3;let⟨C,rfl,hmt,k⟩:=h2 σ3 cls dx H3 qE;have I3':Inv X.eU pins σ3 H3 s3:=(dA (X:=(aT X (X.pn++pins)).eU) (qn:=X.pn) (q:=pins) I3 λp hp=>by simpa[aT] using hp);have Im:Inv (eT X ea X.pn) pins σ3 H3 s3:=mj (X:=X.eU) I3' λp hp=>hp;refine wpAny_handleBy_cons (codeAny_handlers_test (eB (X:=eT X ea X.pn) Im hg hm ?_ hdb)) (by intro q;cases q);let⟨oe,vs,e1,e2,e3,e4,_⟩:=id x3;have LT:PySem.W.Looks 8#3 s3.heap (typeOf 3#ea) 3#C:=e2▸(acx e1).andThen .now;refine PySem.W.exm_one I3'.bT LT hmt _ _ _ _ (λ_ _ e=>e) ?_;refine codeAny_handlers_suite_as ?_;refine kg x3 λh' mv x'=> ?_;have I4:=vd I3' x3 y3 (yt _ rfl) mv x';refine mi (X:=eT X ea X.pn) I4 hN hi (.inl hl) (show RelV 3#ea 3#ea from rfl) (λs5 I5=> ?_) (.inr hl);refine aaL (hs ea pins s5 _ _ _ I5 (k ea y3.free)) (λf s6 q6=> ?_) λ_ _ z=>z.elim
  have fin:∀{σ6:St} {H6:Hp} {Q:Unit->Shared->Prop},Inv (eT X ea X.pn) pins σ6 H6 s6->(∀s7,Inv (X.af (XE X E)) pins (σ6.set i none) H6 s7->Q () s7)->
    wpAny 8#3 X.A (do bindName X.env x .none;unbindBehindTheSuite X.env x hpos) Q (XE X E) s6:=λ{σ6 H6 Q} J hQ=>by
   have J1:Inv X pins σ6 H6 s6:=nA I.aS.ok J λp hp=>hp;let⟨mm,hn,hll⟩:=id J1.loc;refine wpAny_nameGoes_keeps hl hn (by rw[J1.ok.kind];rfl) λh7 v hn7 sb=>hQ _ ((xK J1 hN hi hll hn7 sb).af _)
  cases f with
  |next=>exact(let ⟨σ6,H6,J,z⟩:=q6;fin J λs7 J7=>⟨_,H6,J7,z⟩)
  |ret v=>exact(let ⟨v6,σ6,H6,J,r,z⟩:=q6;fin J λs7 J7=>⟨v6,_,H6,J7,r,z⟩)
  |brk=>exact(let ⟨σ6,H6,J,z⟩:=q6;fin J λs7 J7=>⟨_,H6,J7,z⟩)
  |cont=>exact(let ⟨σ6,H6,J,z⟩:=q6;fin J λs7 J7=>⟨_,H6,J7,z⟩)
theorem Bj (fm:Framed X) (hx:cc X) (hg:Gl X cn) (hm:X.mg cn=1#3#B)
  (hb:∀Eb pn,(∀b∈X.ex,∃o,(b,o)∈pn)->bS ((aT X pn).af (XE (aT X pn) Eb)) body (tb Eb)) (hs:∀ea,bS (eT X ea X.pn) (st::suite) th) (hdb:(cn==("__debug__":Str))=false):
  PS (X.af (XE X E)) (.Try body [.ExceptHandler 1#(.Name cn np) none (st::suite) hpos] [] [] pos) (E8 X.K B tb th):=by
 intro pins s σ H D I h;let⟨Eb,h1,h2⟩:=h
 have hx':∀b∈X.ex,∃o,(b,o)∈X.pn++pins:=λb hb=>let ⟨o,m⟩:=hx b hb;⟨o,aaS _ m⟩
 have I':Inv ((aT X (X.pn++pins)).af (XE (aT X (X.pn++pins)) Eb)) [] σ H s:=(dA (qn:=X.pn++pins) (q:=[]) I.aS λp hp=>by simpa using hp).af _
 have un:∀{σ2:St} {H2:Hp} {s2:9#2},Inv ((aT X (X.pn++pins)).af (XE (aT X (X.pn++pins)) Eb)) [] σ2 H2 s2->Inv (X.af (XE X E)) pins σ2 H2 s2:=λ{σ2 H2 s2} J=>by
  have J1:Inv (aT X (X.pn++pins)) [] σ2 H2 s2:=J.aS
  have J2:Inv (aT (aT X (X.pn++pins)) X.pn) pins σ2 H2 s2:=dA (qn:=X.pn) (q:=pins) J1 λp hp=>by simpa[aT] using hp
  exact(show Inv X pins σ2 H2 s2 from J2).af _
 refine wpAny_Try_except (aaL (hb Eb (X.pn++pins) hx' [] s σ H D I' h1) (λf s1 q=> ?_) λe s1 q=> ?_)
 ·cases f with
  |next=>exact acI (let ⟨σ2,H2,J,z⟩:=q;⟨σ2,H2,un J,z⟩)
  |ret v=>exact(let ⟨v2,σ2,H2,J,r,z⟩:=q;⟨v2,σ2,H2,un J,r,z⟩)
  |brk=>exact(let ⟨σ2,H2,J,z⟩:=q;⟨σ2,H2,un J,z⟩)
  |cont=>exact(let ⟨σ2,H2,J,z⟩:=q;⟨σ2,H2,un J,z⟩)
 ·have fm':Framed (aT X (X.pn++pins)):=fm;refine ay (jT (X:=aT X (X.pn++pins)) fm' hx' q) λ_ s2 q2=>ay (gB (X:=aT X (X.pn++pins)) (fr:=none) q2) λ_ s3 q3=> ?_;let⟨σ3,H3,ea,cls,dx,tbk,rfl,I3,x3,y3,yt,⟨T,rfl⟩,qE⟩:=q3;let⟨C,rfl,hmt,k⟩:=h2 σ3 cls dx H3 qE;have I3':Inv X.eU pins σ3 H3 s3:=(dA (X:=(aT X (X.pn++pins)).eU) (qn:=X.pn) (q:=pins) I3 λp hp=>by simpa[aT] using hp);have Im:Inv (eT X ea X.pn) pins σ3 H3 s3:=mj (X:=X.eU) I3' λp hp=>hp;refine wpAny_handleBy_cons (codeAny_handlers_test (eB (X:=eT X ea X.pn) Im hg hm ?_ hdb)) (by intro q;cases q);let⟨oe,vs,e1,e2,e3,e4,_⟩:=id x3;have LT:PySem.W.Looks 8#3 s3.heap (typeOf 3#ea) 3#C:=e2▸(acx e1).andThen .now;refine PySem.W.exm_one I3'.bT LT hmt _ _ _ _ (λ_ _ e=>e) ?_;refine codeAny_handlers_suite ?_;refine kg x3 λh' mv x'=> ?_;have I4:=vd I3' x3 y3 (yt _ rfl) mv x';refine aaL (hs ea pins _ _ _ _ I4 (k ea y3.free)) (λf s6 q6=> ?_) λ_ _ z=>z.elim;have fin:∀{σ6:St} {H6:Hp},Inv (eT X ea X.pn) pins σ6 H6 s6->Inv (X.af (XE X E)) pins σ6 H6 s6:=λ{σ6 H6} J=>(nA I.aS.ok J λp hp=>hp).af _
  cases f with
  |next=>exact(let ⟨σ6,H6,J,z⟩:=q6;⟨σ6,H6,fin J,z⟩)
  |ret v=>exact(let ⟨v6,σ6,H6,J,r,z⟩:=q6;⟨v6,σ6,H6,fin J,r,z⟩)
  |brk=>exact(let ⟨σ6,H6,J,z⟩:=q6;⟨σ6,H6,fin J,z⟩)
  |cont=>exact(let ⟨σ6,H6,J,z⟩:=q6;⟨σ6,H6,fin J,z⟩)
end
end L2.L4
namespace PI
open PySem
noncomputable section
inductive Val where
 |non|bl (b:Bool)|int (i:Int)|str (x:Str)|tup (f:Bool) (xs:2#Val)|lst (xs:2#Val)|dct (ks vs:2#Val)|obj (c:Nat) (ns:2#Str) (vs:2#Val)|ref (n:Nat)
deriving Inhabited
inductive Ob where
 |lst (xs:2#Val)|dct (ks vs:2#Val)|ins (c:Nat) (ns:2#Str) (vs:2#Val)
abbrev aa:=2#Ob
abbrev Env:=2#5#Val
structure Exn where
 c:Nat
 ns:2#Str
 vs:2#Val
inductive R (α:Type) where
 |ok (a:α) (st:aa)|exc (x:Exn) (st:aa)|stuck
namespace R
noncomputable def bind {α β:Type} (r:R α) (f:α->aa->R β):R β:=match r with
 | .ok a st=>f a st
 | .exc x st=> .exc x st
 | .stuck=> .stuck
@[simp]theorem iQ {α β:Type} (a:α) (st:aa) (f:α->aa->R β):(R.ok a st).bind f=f a st:=rfl
@[simp]theorem L5 {α β:Type} (x:Exn) (st:aa) (f:α->aa->R β):(R.exc x st:R α).bind f= .exc x st:=rfl
@[simp]theorem IH {α β:Type} (f:α->aa->R β):(R.stuck:R α).bind f= .stuck:=rfl
noncomputable def aj {α:Type} (o:5#α) (st:aa):R α:=match o with
 |some a=> .ok a st
 |none=> .stuck
@[simp]theorem KY {α:Type} (a:α) (st:aa):aj 1#a st= .ok a st:=rfl
@[simp]theorem MA {α:Type} (st:aa):(aj none st:R α)= .stuck:=rfl
end R
mutual
noncomputable def Val.bd (n:Nat):Val->Bool
 | .tup _ xs=>dq n xs
 | .lst xs=>dq n xs
 | .dct ks vs=>dq n ks&&dq n vs
 | .obj _ _ vs=>dq n vs
 | .ref k=>decide (k<n)
 |_=>true
noncomputable def dq (n:Nat):2#Val->Bool
 |[]=>true
 |v::r=>v.bd n&&dq n r
end
def Ob.bd (n:Nat):Ob->Bool
 | .lst xs=>dq n xs
 | .dct ks vs=>dq n ks&&dq n vs
 | .ins _ _ vs=>dq n vs
mutual
noncomputable def Val.sub (f:Nat->5#Val):Val->5#Val
 | .tup g xs=>(subs f xs).map λxs=> .tup g xs
 | .lst xs=>(subs f xs).map .lst
 | .dct ks vs=>(subs f vs).map λvs=> .dct ks vs
 | .obj c ns vs=>(subs f vs).map λvs=> .obj c ns vs
 | .ref k=>f k
 |v=>1#v
noncomputable def subs (f:Nat->5#Val):2#Val->5#2#Val
 |[]=>some []
 |v::r=>(v.sub f).bind λv=>(subs f r).map λr=>v::r
end
noncomputable def js (st:aa) (n x:Nat):Nat->Nat->5#Val
 |0,k=>if k<n then 1#3#k else none
 |d+1,k=>if k<n then 1#3#k else if k=x then none else match st[k]? with
  |some 7#xs=>(subs (js st n x d) xs).map .lst
  |some (.dct ks vs)=>(subs (js st n x d) vs).map λvs=> .dct ks vs
  |some (.ins c ns vs)=>(subs (js st n x d) vs).map λvs=> .obj c ns vs
  |none=>none
def Val.aF (st:aa) (n x:Nat) (v:Val):5#Val:=v.sub (js st n x 6)
def aV (st:aa) (n x:Nat) (vs:2#Val):5#2#Val:=subs (js st n x 6) vs
def Old (st st':aa):Prop:=0#st<=0#st'/\∀(i:Nat) o,i<0#st->st'[i]?=1#o->st[i]?=1#o∨o.bd 0#st=true
set_option genInjectivity false
inductive Bi where
 |len|tuple|list|dict|abs|sum|all|any|min|max|minD|int|str|bool|sorted|bQ (n:String)
inductive Bm where
 |append|extend|insert|pop|clear|reverse|remove|get|join|split|isdigit|count|index|keys|values
inductive T where
 |var (i:Nat)|tup (ts:2#T)
mutual
inductive E where
 |const (v:Val)|var (i:Nat)
 |bin (op:Operator) (a b:E)|neg (a:E)|cmp (op:CmpOp) (a b:E)|cmp2 (op op':CmpOp) (a b c:E)
 |and (a b:E)|or (a b:E)|not (a:E)|ite (c a b:E)
 |tup (es:2#E)|lst (es:2#E)|dct (ks vs:2#E)
 |fld (o:E) (f:Str)|idx (o i:E)|slc (o:E) (lo hi:5#E)
 |call (f:Nat) (es:2#E)|make (c:Nat) (es:2#E)|meth (o:E) (m:Str) (es:2#E)
 |bi (b:Bi) (es:2#E)|bm (m:Bm) (o:E) (es:2#E)|isI (e:E) (c:Nat)|isM (e:E) (cs:2#Nat)
 |comp (nw:Nat) (caps:2#Nat) (t:T) (q:Q) (c:5#E) (e:E)
 |sortK (q:E) (f:Nat)|fz (e:E)|dOf (e:E)
inductive Q where
 |val (e:E)|rng1 (a:E)|rng2 (a b:E)|zip (a b:E)|enm (a:E)|items (a:E)|rev (a:E)
end
abbrev E.ci (n:Int):E:= .const 6#n
inductive S where
 |set (t:T) (e:E)|fR (o i e:E)|dE (o:E) (f:Str) (e:E)
 |aug (i:Nat) (op:Operator) (e:E)|augI (o i:E) (op:Operator) (e:E)|augF (o:E) (f:Str) (op:Operator) (e:E)
 |expr (e:E)|ret (e:E)|retN|pass|brk|cont
 |ife (c:E) (a b:2#S)|whl (c:E) (b:2#S)|for (t:T) (q:Q) (b:2#S)
 |raise (c:Nat) (es:2#E)|try_ (b:2#S) (c:Nat) (x:5#Nat) (h:2#S)
set_option genInjectivity true
structure Fn where
 np:Nat
 ns:Nat
 body:2#S
structure Cl where
 flds:2#Str
 init:5#Nat
 meths:2#(Str×Nat)
 sup:2#Nat
 exc:Bool
 chg:Bool
structure Pg where
 fns:2#(Nat×Fn)
 cls:2#(Nat×Cl)
 w:Nat
def Pg.fn (P:Pg) (i:Nat):5#Fn:=P.fns.lookup i
def Pg.cl (P:Pg) (i:Nat):5#Cl:=P.cls.lookup i
noncomputable def dS (ns:2#Str) (vs:2#Val) (f:Str):5#Val:=match ns,vs with
 |n::ns,v::vs=>if n=f then 1#v else dS ns vs f
 |_,_=>none
noncomputable def aW (ns:2#Str) (vs:2#Val) (f:Str) (x:Val):2#Str×2#Val:=match ns,vs with
 |n::ns,v::vs=>if n=f then (n::ns,x::vs) else let r:=aW ns vs f x;(n::r.1,v::r.2)
 |_,_=>([f],[x])
noncomputable def lQ (k:Nat):5#Ob->Val
 |some 7#xs=> 7#xs
 |some (.dct ks vs)=> .dct ks vs
 |some (.ins c ns vs)=> .obj c ns vs
 |none=> 3#k
def res (st:aa):Val->Val
 | .ref k=>lQ k st[k]?
 | .non=> .non
 | .bl b=> .bl b
 | .int i=> 6#i
 | .str x=> .str x
 | .tup f xs=> .tup f xs
 | .lst xs=> 7#xs
 | .dct ks vs=> .dct ks vs
 | .obj c ns vs=> .obj c ns vs
noncomputable def new (o:Ob) (st:aa):R Val:= .ok 3#0#st (st++[o])
noncomputable def cO (f:Val->Val->5#Bool):2#Val->2#Val->5#Bool
 |[],[]=>1#true
 |[],_::_=>1#false
 |_::_,[]=>1#false
 |x::xs,y::ys=>(f x y).bind λa=>(cO f xs ys).map λb=>a&&b
noncomputable def eqN:Val->5#Bool
 | .non=>1#true
 |_=>none
noncomputable def eqB (a:Bool):Val->5#Bool
 | .bl b=>1#(a==b)
 |_=>none
noncomputable def eqI (a:Int):Val->5#Bool
 | .int b=>1#(a==b)
 | .str _=>1#false
 |_=>none
noncomputable def eqS (a:Str):Val->5#Bool
 | .str b=>1#(decide (a=b))
 | .int _=>1#false
 |_=>none
noncomputable def eqT (f:2#Val->5#Bool):Val->5#Bool
 | .tup _ ys=>f ys
 |_=>none
noncomputable def eqL (f:2#Val->5#Bool):Val->5#Bool
 | .lst ys=>f ys
 |_=>none
def FL (f:2#Val->2#Val->5#Bool) (v w:Val):5#Bool:=match v with
 | .non=>eqN w
 | .bl a=>eqB a w
 | .int a=>eqI a w
 | .str a=>eqS a w
 | .tup _ xs=>eqT (f xs) w
 | .lst xs=>eqL (f xs) w
 |_=>none
noncomputable def eqv:Nat->Val->Val->5#Bool
 |0=>FL λ_ _=>none
 |d+1=>FL (cO (eqv d))
noncomputable def dU (x:Val):2#Val->5#Bool
 |[]=>1#false
 |y::ys=>(eqv 8 y x).bind λa=>(dU x ys).map λb=>a||b
noncomputable def vp:Val->Bool
 | .int _=>true
 | .str _=>true
 |_=>false
def bY:Val->Bool
 | .int _=>true
 | .str _=>true
 | .tup f xs=> !f&&xs.all vp
 |_=>false
noncomputable def jo:Val->Val
 | .tup _ xs=> .tup false xs
 | .non=> .non
 | .bl b=> .bl b
 | .int i=> 6#i
 | .str x=> .str x
 | .lst xs=> 7#xs
 | .dct ks vs=> .dct ks vs
 | .obj c ns vs=> .obj c ns vs
 | .ref k=> 3#k
noncomputable def kT:Val->Bool
 | .tup _ _=>true
 |_=>false
noncomputable def getD (k:Val):2#Val->2#Val->5#5#Val
 |a::ks,v::vs=>if kT a=kT k then (eqv 8 a k).bind λb=>if b=true then 1#1#v else getD k ks vs else none
 |_,_=>1#none
noncomputable def memD (k:Val):2#Val->5#Bool
 |[]=>1#false
 |a::ks=>if kT a=kT k then (eqv 8 a k).bind λb=>(memD k ks).map λc=>b||c else none
noncomputable def lX (k x:Val):2#Val->2#Val->2#Val
 |a::ks,v::vs=>(if eqv 8 a k=1#true then x else v)::lX k x ks vs
 |_,_=>[]
def putD (k x:Val) (ks vs:2#Val):5#(2#Val×2#Val):=(memD k ks).map λb=>if b=true then (ks,lX k x ks vs) else (ks++[k],vs++[x])
noncomputable def pairD:2#Val->2#Val->2#Val->5#(2#Val×2#Val)
 |[],ks,vs=>1#(ks,vs)
 | .tup false [k,v]::r,ks,vs=>if bY k=true then (putD k v ks vs).bind λp=>pairD r p.1 p.2 else none
 |_,_,_=>none
noncomputable def truth:Val->5#Bool
 | .non=>1#false
 | .bl b=>1#b
 | .int i=>1#(i !=0)
 | .str x=>if 0#x<=1000 then 1#((0#x:Int) !=0) else none
 | .tup _ xs=>some !xs.isEmpty
 | .lst xs=>some !xs.isEmpty
 |_=>none
noncomputable def iH:Val->5#Int
 | .tup _ xs=>1#0#xs
 | .lst xs=>1#0#xs
 | .dct ks _=>1#0#ks
 | .str x=>if 0#x<=1000 then 1#(0#x:Int) else none
 |_=>none
noncomputable def jw (n:Nat) (i:Int):5#Nat:=if 0<=i then (if i<n then 1#i.toNat else none) else if-(n:Int)<=i then 1#(i+n).toNat else none
def k9 (xs:2#Val) (i:Int):5#Val:=(jw 0#xs i).bind λj=>xs[j]?
noncomputable def bR (n d:Nat):5#Int->Nat
 |none=>d
 |some v=>if v<0 then (v+(n:Int)).toNat else min v.toNat n
def cut {α:Type} (xs:2#α) (lo hi:5#Int):2#α:=(xs.drop (bR 0#xs 0 lo)).take (bR 0#xs 0#xs hi-bR 0#xs 0 lo)
def big (i:Int):Prop:=i.natAbs<2^1000
def B3 (i j:Int):Prop:=i.natAbs<2^64∨j.natAbs<2^64∨(big i/\big j)
noncomputable def iff {α:Type} (c:Prop) (r:R α):R α:= @ite _ c (Classical.propDecidable c) r .stuck
theorem bB {α:Type} {c:Prop} {r:R α} (h:c):iff c r=r:=if_pos h
noncomputable def lK {α:Type} (f:Int->Int->aa->R α) (i:Int):Val->aa->R α
 | .int j,st=>f i j st
 |_,_=> .stuck
def bX {α:Type} (f:Int->Int->aa->R α):Val->Val->aa->R α
 | .int i,y,st=>lK f i y st
 |_,_,_=> .stuck
def Ap (i:Str):Val->aa->R Val
 | .str j,st=>iff (0#i+0#j<=100000) (.ok (.str (i++j)) st)
 |_,_=> .stuck
def Ac (xs:2#Val):Val->aa->R Val
 | .tup _ ys,st=>iff (xs≠[]/\ys≠[]/\0#xs+0#ys<=10000) (.ok (.tup false (xs++ys)) st)
 |_,_=> .stuck
def zS (xs:2#Val):Val->aa->R Val
 | .lst ys,st=>iff (0#xs+0#ys<=10000) (new 7#(xs++ys) st)
 |_,_=> .stuck
def km:Val->Val->aa->R Val
 | .int i,y,st=>lK (λi j st=> .ok 6#(i+j) st) i y st
 | .str i,y,st=>Ap i y st
 | .tup _ xs,y,st=>Ac xs y st
 | .lst xs,y,st=>zS xs y st
 |_,_,_=> .stuck
def oj (i j:Int) (st:aa):R Val:=iff (B3 i j) (.ok 6#(i*j) st)
def rM (i j:Int) (st:aa):R Val:=iff (j≠0/\big j) (.ok 6#(i.fdiv j) st)
def rA (i j:Int) (st:aa):R Val:=iff (j≠0) (.ok 6#(i.fmod j) st)
def vZ (i j:Int) (st:aa):R Val:=iff (0<=j/\j<=1000/\i.natAbs<2^64) (.ok 6#(i^j.toNat) st)
noncomputable def j7 (z:Str) (n:Nat):Str:=⟨(List.replicate n z.cps.toList).flatten.toArray⟩
def wI:Val->Val->aa->R Val
 | .str z, 6#k,st=>iff (0<=k/\k<=1000/\0#z<=1000) (.ok (.str (j7 z k.toNat)) st)
 | .int i,y,st=>lK oj i y st
 |_,_,_=> .stuck
def eY:Operator->Val->Val->aa->R Val
 | .Add,x,y,st=>km x y st
 | .Sub,x,y,st=>bX (λi j st=> .ok 6#(i-j) st) x y st
 | .Mult,x,y,st=>wI x y st
 | .FloorDiv,x,y,st=>bX rM x y st
 | .Mod,x,y,st=>bX rA x y st
 | .Pow,x,y,st=>bX vZ x y st
 |_,_,_,_=> .stuck
noncomputable def gd:Val->Bool
 | .non=>true
 | .bl _=>false
 | .int _=>false
 | .str _=>false
 | .tup _ _=>false
 | .lst _=>false
 | .dct _ _=>false
 | .obj _ _ _=>false
 | .ref _=>false
noncomputable def Hy (neg b:Bool):Val->aa->R Bool
 | .bl a,st=> .ok (if neg=true then !(a==b) else a==b) st
 |_,_=> .stuck
def uW (neg:Bool) (x:Val):Val->aa->R Bool
 | .non,st=> .ok (if neg=true then !gd x else gd x) st
 | .bl b,st=>Hy neg b x st
 |_,_=> .stuck
def xa (neg:Bool) (x:Val):Val->aa->R Bool
 | .tup _ ys,st=>R.aj ((dU x ys).map λb=>if neg=true then !b else b) st
 | .lst ys,st=>R.aj ((dU x ys).map λb=>if neg=true then !b else b) st
 | .dct ks vs,st=>iff (bY x=true) (R.aj ((getD x ks vs).map λo=>if neg=true then o.isNone else o.isSome) st)
 |_,_=> .stuck
def bz:CmpOp->Val->Val->aa->R Bool
 | .Eq,x,y,st=>R.aj (eqv 8 x y) st
 | .NotEq,x,y,st=>R.aj ((eqv 8 x y).map λb=> !b) st
 | .Lt,x,y,st=>bX (λi j st=> .ok (decide (i<j)) st) x y st
 | .LtE,x,y,st=>bX (λi j st=> .ok (decide (i<=j)) st) x y st
 | .Gt,x,y,st=>bX (λi j st=> .ok (decide (j<i)) st) x y st
 | .GtE,x,y,st=>bX (λi j st=> .ok (decide (j<=i)) st) x y st
 | .Is,x,y,st=>uW false x y st
 | .IsNot,x,y,st=>uW true x y st
 | .In,x,y,st=>xa false x y st
 | .NotIn,x,y,st=>xa true x y st
def cW (r:R Bool):R Val:=r.bind λb st=> .ok (.bl b) st
def eQ:Val->Val->aa->R Val
 | .tup _ xs, 6#k,st=>R.aj (k9 xs k) st
 | .lst xs, 6#k,st=>R.aj (k9 xs k) st
 | .str x, 6#k,st=>iff (0#x<=1000) (R.aj (((jw 0#x k).bind λj=>x.cps.toList[j]?).map λc=> .str ⟨#[c]⟩) st)
 | .dct ks vs,k,st=>iff (bY k=true) (R.aj ((getD k ks vs).bind id) st)
 |_,_,_=> .stuck
def oH:Val->5#Int->5#Int->aa->R Val
 | .tup _ xs,lo,hi,st=>iff (¬(bR 0#xs 0 lo=0/\bR 0#xs 0#xs hi=0#xs)) (.ok (.tup false (cut xs lo hi)) st)
 | .lst xs,lo,hi,st=>new 7#(cut xs lo hi) st
 | .str x,lo,hi,st=>iff (0#x<=1000) (.ok (.str ⟨(cut x.cps.toList lo hi).toArray⟩) st)
 |_,_,_,_=> .stuck
noncomputable def allB:2#Val->5#Bool
 |[]=>1#true
 | .bl b::r=>(allB r).map λc=>b&&c
 |_=>none
noncomputable def anyB:2#Val->5#Bool
 |[]=>1#false
 | .bl b::r=>(anyB r).map λc=>b||c
 |_=>none
noncomputable def iF:Int->2#Val->5#Int
 |a,[]=>1#a
 |a, 6#i::r=>iF (a+i) r
 |_,_=>none
noncomputable def bQ (n:String):Val->5#Bool
 | .non=>1#false
 | .bl _=>1#(n=="bool"||n=="int")
 | .int _=>1#(n=="int")
 | .str _=>1#(n=="str")
 | .tup _ _=>1#(n=="tuple")
 | .lst _=>1#(n=="list")
 | .dct _ _=>1#(n=="dict")
 | .obj _ _ _=>none
 | .ref _=>none
noncomputable def cN:2#Val->5#2#Int
 |[]=>some []
 | .int i::r=>(cN r).map λr=>i::r
 |_=>none
def iP:Bi->Val->aa->R Val
 | .len,x,st=>R.aj ((iH x).map .int) st
 | .tuple, .tup f xs,st=> .ok (.tup f xs) st
 | .tuple, 7#xs,st=> .ok (.tup true xs) st
 | .list, .tup _ xs,st=>new 7#xs st
 | .list, 7#xs,st=>new 7#xs st
 | .abs, 6#i,st=> .ok 6#i.natAbs st
 | .all, 7#xs,st=>R.aj ((allB xs).map .bl) st
 | .any, 7#xs,st=>R.aj ((anyB xs).map .bl) st
 | .sum, 7#xs,st=>R.aj ((iF 0 xs).map .int) st
 | .max, 7#xs,st=>R.aj ((cN xs).bind λl=>l.max?.map .int) st
 | .min, 7#xs,st=>R.aj ((cN xs).bind λl=>l.min?.map .int) st
 | .minD, 7#xs,st=>R.aj ((cN xs).map λl=>(l.min?.map .int).getD .non) st
 | .int, .bl b,st=> .ok 6#(if b=true then 1 else 0) st
 | .int, 6#i,st=> .ok 6#i st
 | .bQ n,x,st=>R.aj ((bQ n x).map .bl) st
 |_,_,_=> .stuck
noncomputable def yB:Bi->Val->Val->aa->R Val
 | .max, 6#i, 6#j,st=> .ok 6#(if j>i then j else i) st
 | .min, 6#i, 6#j,st=> .ok 6#(if j<i then j else i) st
 |_,_,_,_=> .stuck
noncomputable def xY:Bi->Val->Val->Val->aa->R Val
 | .max, 6#i, 6#j, 6#k,st=> .ok 6#(max i (max j k)) st
 |_,_,_,_,_=> .stuck
def pU (b:Bi):2#Val->aa->R Val
 |[x],st=>iP b x st
 |[x,y],st=>yB b x y st
 |[x,y,z],st=>xY b x y z st
 |_,_=> .stuck
def lmV:Bm->Nat->2#Val->2#Val->aa->R Val
 | .append,k,ys,[x],st=>iff (0#ys<10000) (.ok .non (st.set k 7#(ys++[x])))
 | .insert,k,ys,[6#i,x],st=>iff (0<=i/\i<=0#ys/\0#ys<=1000) (.ok .non (st.set k 7#(ys.take i.toNat++[x]++ys.drop i.toNat)))
 | .clear,k,_,[],st=> .ok .non (st.set k (.lst []))
 | .reverse,k,ys,[],st=> .ok .non (st.set k 7#ys.reverse)
 | .pop,k,ys,[],st=>(R.aj ys.getLast? st).bind λy st=> .ok y (st.set k 7#ys.dropLast)
 |_,_,_,_,_=> .stuck
def BV (k:Nat) (ys:2#Val) (st:aa):5#Ob->R Val
 |some 7#zs=>iff (0#ys+0#zs<=10000) (.ok .non (st.set k 7#(ys++zs)))
 |_=> .stuck
def pI (m:Bm) (k:Nat) (xs:2#Val) (st:aa):5#Ob->R Val
 |some 7#ys=>match m,xs with
  | .extend,[3#j]=>BV k ys st st[j]?
  |m,xs=>lmV m k ys xs st
 |_=> .stuck
def s8:Val->2#Val->aa->R Val
 | .dct ks vs,[k],st=>iff (bY k=true) (R.aj ((getD k ks vs).map λo=>o.getD .non) st)
 | .dct ks vs,[k,d],st=>iff (bY k=true) (R.aj ((getD k ks vs).map λo=>o.getD d) st)
 |_,_,_=> .stuck
def kZ:Bm->Val->2#Val->aa->R Val
 | .get,o,xs,st=>s8 (res st o) xs st
 |m, 3#k,xs,st=>pI m k xs st st[k]?
 |_,_,_,_=> .stuck
mutual
noncomputable def T.put (v:Val) (env:Env):T->5#Env
 | .var i=>if i<0#env then 1#(env.set i 1#v) else none
 | .tup ts=>match v with
  | .tup _ xs=>bM xs env ts
  |_=>none
noncomputable def bM (vs:2#Val) (env:Env):2#T->5#Env
 |[]=>match vs with
  |[]=>1#env
  |_=>none
 |t::ts=>match vs with
  |v::vs=>(t.put v env).bind λenv=>bM vs env ts
  |[]=>none
end
mutual
noncomputable def T.low (n:Nat):T->Bool
 | .var i=>decide (i<n)
 | .tup ts=>lows n ts
noncomputable def lows (n:Nat):2#T->Bool
 |[]=>true
 |t::ts=>t.low n&&lows n ts
end
noncomputable def yE:2#Int->2#Int->Bool
 |[],[]=>false
 |[],_::_=>true
 |_::_,[]=>false
 |a::r,b::t=>if a=b then yE r t else decide (a<b)
noncomputable def dF {α:Type} (k:2#Int) (y:α):2#(2#Int×α)->2#(2#Int×α)
 |[]=>[(k,y)]
 |z::r=>if yE k z.1=true then (k,y)::z::r else z::dF k y r
noncomputable def bJ {α:Type}:2#(2#Int×α)->2#(2#Int×α)
 |[]=>[]
 |z::r=>dF z.1 z.2 (bJ r)
def Ga:Val->5#2#Int
 | .tup false xs=>cN xs
 |_=>none
noncomputable def dQ:2#Val->5#2#2#Int
 |[]=>some []
 |v::r=>(Ga v).bind λk=>(dQ r).map λr=>k::r
def Kept (chk:2#(Nat×Ob)) (st:aa):Prop:=∀p∈chk,st[p.1]?=1#p.2
end
noncomputable section
def rC (P:Pg) (c:Nat):Bool:=(((P.cl c)).map (·.chg)).getD false
def tf (P:Pg) (n:Nat) (k:Nat) (st':aa):5#Ob->R Val
 |some 7#xs=>(R.aj (aV st' n k xs) st').bind λys st'=> .ok 3#n (st'.take n++[7#ys])
 |some (.dct ks vs)=>(R.aj (aV st' n k vs) st').bind λvs st'=> .ok 3#n (st'.take n++[.dct ks vs])
 |some (.ins c ns vs)=>if rC P c=true then .ok 3#k st' else (R.aj (aV st' n 0#st' vs) st').bind λvs st'=> .ok (.obj c ns vs) (st'.take n)
 |none=> .stuck
noncomputable def isRef:Val->5#Nat
 | .ref k=>1#k
 | .non=>none
 | .bl _=>none
 | .int _=>none
 | .str _=>none
 | .tup _ _=>none
 | .lst _=>none
 | .dct _ _=>none
 | .obj _ _ _=>none
def Ag (P:Pg) (n:Nat) (v:Val) (st':aa):5#Nat->R Val
 |some k=>if k<n then .ok v (st'.take n) else tf P n k st' st'[k]?
 |none=>(R.aj (v.aF st' n 0#st') st').bind λv st'=> .ok v (st'.take n)
open Classical in
def fin (P:Pg) (st:aa) (v:Val) (st':aa):R Val:=if Old st st' then Ag P 0#st v st' (isRef v) else .ok v st'
open Classical in
def oG (st:aa) (x:Exn) (st':aa):R Val:=
 if Old st st' then (R.aj (aV st' 0#st 0#st' x.vs) st').bind λvs st'=> .exc {x with vs:=vs} (st'.take 0#st) else .exc x st'
open Classical in
def t6 (st:aa) (v:Val) (st':aa):R Val:=
 if Old st st' then (R.aj (v.aF st' 0#st 0#st') st').bind λv st'=> .ok v (st'.take 0#st) else .ok v st'
inductive F where
 |next (env:Env) (st:aa)|ret (v:Val) (st:aa)|brk (env:Env) (st:aa)|cont (env:Env) (st:aa)|exc (x:Exn) (env:Env) (st:aa)|stuck
noncomputable def F.bind:F->(Env->aa->F)->F
 | .next env st,k=>k env st
 | .ret v st,_=> .ret v st
 | .brk env st,_=> .brk env st
 | .cont env st,_=> .cont env st
 | .exc x env st,_=> .exc x env st
 | .stuck,_=> .stuck
noncomputable def F.of {α:Type} (env:Env):R α->(α->aa->F)->F
 | .ok a st,k=>k a st
 | .exc x st,_=> .exc x env st
 | .stuck,_=> .stuck
noncomputable def F.aj (st:aa):5#Env->F
 |some env=> .next env st
 |none=> .stuck
abbrev ar:=Nat->2#Val->aa->R Val
noncomputable def iK (k:Nat):5#Ob->5#(2#Val×2#(Nat×Ob))
 |some 7#xs=>1#(xs,[(k, 7#xs)])
 |some (.dct _ _)=>none
 |some (.ins _ _ _)=>none
 |none=>none
def itemsOf (st:aa):Val->5#(2#Val×2#(Nat×Ob))
 | .tup _ xs=>1#(xs,[])
 | .lst xs=>1#(xs,[])
 | .dct _ _=>none
 | .ref k=>iK k st[k]?
 | .non=>none
 | .bl _=>none
 | .int _=>none
 | .str _=>none
 | .obj _ _ _=>none
def gY (st:aa):Val->5#(2#Val×2#(Nat×Ob))
 | .tup _ xs=>1#(xs,[])
 | .lst xs=>1#(xs,[])
 | .dct ks _=>1#(ks.map jo,[])
 | .ref k=>iK k st[k]?
 | .non=>none
 | .bl _=>none
 | .int _=>none
 | .str _=>none
 | .obj _ _ _=>none
def newD (xs:2#Val) (st:aa):R Val:=iff (0#xs<=1000) ((R.aj (pairD xs [] []) st).bind λp st=>new (.dct p.1 p.2) st)
def vI (st:aa):5#Ob->R Val
 |some 7#xs=>newD xs st
 |_=> .stuck
def rY (st:aa):Val->R Val
 | .tup true xs=>newD xs st
 | .ref k=>vI st st[k]?
 |_=> .stuck
noncomputable def Ca:Val->Bool
 | .lst _=>true
 |_=>false
noncomputable def eJ:2#Val->2#Val->2#Val
 |x::xs,y::ys=> .tup false [x,y]::eJ xs ys
 |_,_=>[]
noncomputable def GJ:Int->2#Val->2#Val
 |i,x::xs=> .tup false [6#i,x]::GJ (i+1) xs
 |_,[]=>[]
noncomputable def bg (lo:Int):Nat->2#Val
 |0=>[]
 |n+1=> 6#lo::bg (lo+1) n
def v8:Val->aa->R (2#Val×2#(Nat×Ob))
 | .int n,st=>iff (-(2^60)<n/\n<2^24) (.ok (bg 0 n.toNat,[]) st)
 |_,_=> .stuck
def IG (a:Int):Val->aa->R (2#Val×2#(Nat×Ob))
 | .int b,st=>iff (b-a<2^24/\ -(2^60)<a/\a<2^60/\ -(2^60)<b) (.ok (bg a (b-a).toNat,[]) st)
 |_,_=> .stuck
def Iz:Val->Val->aa->R (2#Val×2#(Nat×Ob))
 | .int a,y,st=>IG a y st
 |_,_,_=> .stuck
noncomputable def fu:5#Val->2#Val->2#Val
 |some x,r=>x::r
 |none,r=>r
open Classical in
noncomputable def aE (f:Val->aa->R 5#Val) (chk:2#(Nat×Ob)):2#Val->aa->R 2#Val
 |[],st=>iff (Kept chk st) (.ok [] st)
 |v::vs,st=>iff (Kept chk st) ((f v st).bind λo st=>(aE f chk vs st).bind λr st=> .ok (fu o r) st)
noncomputable def ax (nw:Nat) (caps:2#Nat) (env:Env):Env:=List.replicate nw none++caps.map λi=>(env[i]?).bind id
noncomputable def fE:Val->aa->R Bool
 | .bl b,st=> .ok b st
 |_,_=> .stuck
noncomputable def cD:Bm->Bool
 | .get=>true
 | .keys=>true
 | .values=>true
 |_=>false
def xJ (m:Bm):Val->Bool
 | .lst _=> !cD m
 | .dct _ _=>cD m
 |_=>false
noncomputable def AE:Val->aa->R Val
 | .int i,st=> .ok 6#(-i) st
 |_,_=> .stuck
noncomputable def jX:5#Val->aa->R 5#Int
 |none,st=> .ok none st
 |some 6#i,st=> .ok 1#i st
 |_,_=> .stuck
def eI (P:Pg) (c:Nat) (f:Str):Bool:=(((P.cl c)).map λk=>k.flds.contains f).getD false
def jx (P:Pg) (f:Str):Val->aa->R Val
 | .obj c ns vs,st=>iff (eI P c f=true) (R.aj (dS ns vs f) st)
 |_,_=> .stuck
def wA (P:Pg) (c:Nat):Val->aa->R Val
 | .obj k _ _,st=>R.aj (((P.cl k)).bind λk=>if k.sup=[] then none else 1#(.bl (k.sup.contains c))) st
 |_,_=> .stuck
def vE (P:Pg) (cs:2#Nat):Val->aa->R Val
 | .obj k _ _,st=>R.aj (((P.cl k)).bind λk=>if k.exc=true/\¬k.sup=[] then 1#(.bl (cs.any λc=>k.sup.contains c)) else none) st
 |_,_=> .stuck
noncomputable def qL {α:Type}:Val->R α->R α
 | .non,r=>r
 |_,_=> .stuck
def ir (P:Pg) (cl:ar) (c:Nat) (xs:2#Val) (st:aa):5#5#Nat->R Val
 |some 1#f=>(cl f (3#0#st::xs) (st++[.ins c [] []])).bind λv st'=>qL v (fin P st 3#0#st st')
 |some none=>if xs.isEmpty then fin P st 3#0#st (st++[.ins c [] []]) else .stuck
 |none=> .stuck
def HS (P:Pg) (m:Str):Val->5#Nat
 | .obj c ns _=>if ns.contains m=true then none else (P.cl c).bind λk=>k.meths.lookup m
 |_=>none
noncomputable def eS {α:Type}:Bool->R α->R α->R α
 |true,a,_=>a
 |false,_,b=>b
def aL (o:5#Env) (c:Env->aa->R Bool) (e:Env->aa->R Val) (st:aa):R 5#Val:=(R.aj o st).bind λenv st=>
 (c env st).bind λb st=>eS b ((e env st).bind λx st=> .ok 1#x st) (.ok none st)
def zK:5#(2#Val×2#(Nat×Ob))->5#(2#Val×2#(Nat×Ob))->aa->R (2#Val×2#(Nat×Ob))
 |some (xs,c),1#(ys,d),st=>iff (0#ys<=0#xs) (.ok (eJ xs ys,c++d) st)
 |_,_,_=> .stuck
noncomputable def noX:R Val->R Val
 | .ok a st=> .ok a st
 | .exc _ _=> .stuck
 | .stuck=> .stuck
noncomputable def fh (cl:ar) (f:Nat) (st:aa):2#Val->2#Val->R 2#Val
 |[],dn=> .ok dn (st++[7#dn])
 |y::ys,dn=>(noX (cl f [y] (st++[7#dn]))).bind λv st'=>iff (st'=st++[7#dn]) (fh cl f st ys (dn++[v]))
def jd (ys:2#Val) (ks:2#2#Int) (st:aa):R Val:=iff (0#ys<64/\ks.Nodup/\∃m,0<m/\∀k∈ks,0#k=m) (new 7#((bJ (ks.zip ys)).map λz=>z.2) (st++[.lst []]))
def qv (cl:ar) (f:Nat) (st:aa):Val->R Val
 | .lst ys=>iff (0#ys<64) ((fh cl f st ys []).bind λks _=>(R.aj (dQ ks) st).bind λks st=>jd ys ks st)
 |_=> .stuck
mutual
noncomputable def E.run (P:Pg) (cl:ar):E->Env->aa->R Val
 | .const v,_,st=> .ok v st
 | .var i,env,st=>R.aj ((env[i]?).bind id) st
 | .bin op a b,env,st=>(a.run P cl env st).bind λx st=>(b.run P cl env st).bind λy st=>eY op (res st x) (res st y) st
 | .neg a,env,st=>(a.run P cl env st).bind λx st=>AE x st
 | .cmp op a b,env,st=>(a.run P cl env st).bind λx st=>(b.run P cl env st).bind λy st=>cW (bz op (res st x) (res st y) st)
 | .cmp2 op op' a b c,env,st=>(a.run P cl env st).bind λx st=>(b.run P cl env st).bind λy st=>(bz op (res st x) (res st y) st).bind λz st=>eS z ((c.run P cl env st).bind λw st=>cW (bz op' (res st y) (res st w) st)) (.ok (.bl false) st)
 | .and a b,env,st=>(a.run P cl env st).bind λx st=>(fE x st).bind λt st=>eS t (b.run P cl env st) (.ok (.bl false) st)
 | .or a b,env,st=>(a.run P cl env st).bind λx st=>(fE x st).bind λt st=>eS t (.ok (.bl true) st) (b.run P cl env st)
 | .not a,env,st=>(a.run P cl env st).bind λx st=>(fE x st).bind λt st=> .ok (.bl !t) st
 | .ite c a b,env,st=>(c.run P cl env st).bind λx st=>(R.aj (truth (res st x)) st).bind λt st=>eS t (a.run P cl env st) (b.run P cl env st)
 | .tup es,env,st=>(aO P cl es env st).bind λxs st=>iff (0#xs<=1000) (.ok (.tup false xs) st)
 | .lst es,env,st=>(aO P cl es env st).bind λxs st=>iff (0#xs<=1000) (new 7#xs st)
 | .dct [] [],_,st=>new (.dct [] []) st
 | .dct _ _,_,_=> .stuck
 | .fld o f,env,st=>(o.run P cl env st).bind λx st=>jx P f (res st x) st
 | .idx o i,env,st=>(o.run P cl env st).bind λx st=>(i.run P cl env st).bind λy st=>eQ (res st x) y st
 | .slc o lo hi,env,st=>(o.run P cl env st).bind λx st=>((ja P cl lo env st).bind λa st=>jX a st).bind λa st=>((ja P cl hi env st).bind λb st=>jX b st).bind λb st=>oH (res st x) a b st
 | .call f es,env,st=>(aO P cl es env st).bind λxs st=>cl f xs st
 | .make c es,env,st=>(aO P cl es env st).bind λxs st=>ir P cl c xs st (((P.cl c)).map (·.init))
 | .meth o m es,env,st=>(o.run P cl env st).bind λx st=>(R.aj (HS P m (res st x)) st).bind λf st=>(aO P cl es env st).bind λxs st=>cl f (x::xs) st
 | .bi b es,env,st=>(aO P cl es env st).bind λxs st=>pU b (xs.map (res st)) st
 | .bm m o es,env,st=>(o.run P cl env st).bind λx st=>iff (xJ m (res st x)=true) ((aO P cl es env st).bind λxs st=>kZ m x xs st)
 | .isI e c,env,st=>(e.run P cl env st).bind λx st=>wA P c (res st x) st
 | .isM e cs,env,st=>(e.run P cl env st).bind λx st=>vE P cs (res st x) st
 | .comp nw caps t q c e,env,st=>(q.run P cl env st).bind λit st=>iff (t.low nw=true/\0#it.1<=10000) ((aE (λv st=>aL (t.put v (ax nw caps env)) (runC P cl c) (e.run P cl) st) it.2 it.1 st).bind λxs st=>new 7#xs st)
 | .sortK q f,env,st=>(q.run P cl env st).bind λx st=>qv cl f st (res st x)
 | .dOf e,env,st=>(e.run P cl env st).bind λx st=>rY st x
 | .fz e,env,st=>(e.run P cl env st).bind λv st'=>t6 st v st'
noncomputable def aO (P:Pg) (cl:ar):2#E->Env->aa->R 2#Val
 |[],_,st=> .ok [] st
 |e::es,env,st=>(e.run P cl env st).bind λx st=>(aO P cl es env st).bind λxs st=> .ok (x::xs) st
noncomputable def ja (P:Pg) (cl:ar):5#E->Env->aa->R 5#Val
 |none,_,st=> .ok none st
 |some e,env,st=>(e.run P cl env st).bind λx st=> .ok 1#x st
noncomputable def runC (P:Pg) (cl:ar):5#E->Env->aa->R Bool
 |none,_,st=> .ok true st
 |some e,env,st=>(e.run P cl env st).bind λx st=>R.aj (truth (res st x)) st
noncomputable def Q.run (P:Pg) (cl:ar):Q->Env->aa->R (2#Val×2#(Nat×Ob))
 | .val e,env,st=>(e.run P cl env st).bind λx st=>R.aj (gY st x) st
 | .rng1 a,env,st=>(a.run P cl env st).bind λx st=>v8 x st
 | .rng2 a b,env,st=>(a.run P cl env st).bind λx st=>(b.run P cl env st).bind λy st=>Iz x y st
 | .zip a b,env,st=>(a.run P cl env st).bind λx st=>(b.run P cl env st).bind λy st=>zK (itemsOf st x) (itemsOf st y) st
 | .enm a,env,st=>(a.run P cl env st).bind λx st=>iff (Ca (res st x)=true) ((R.aj (itemsOf st x) st).bind λp st=> .ok (GJ 0 p.1,p.2) st)
 | .items _,_,_=> .stuck
 | .rev _,_,_=> .stuck
end
noncomputable def F.turn:F->(Env->aa->F)->F
 | .next env st,k=>k env st
 | .cont env st,k=>k env st
 | .brk env st,_=> .next env st
 | .ret v st,_=> .ret v st
 | .exc x env st,_=> .exc x env st
 | .stuck,_=> .stuck
noncomputable def ji (c:Prop) (r:F):F:= @ite _ c (Classical.propDecidable c) r .stuck
theorem fM {c:Prop} {r:F} (h:c):ji c r=r:=if_pos h
open Classical in
noncomputable def forL (t:T) (body:Env->aa->F) (chk:2#(Nat×Ob)):2#Val->Env->aa->F
 |[],env,st=>ji (Kept chk st) (.next env st)
 |v::vs,env,st=>ji (Kept chk st) ((F.aj st (t.put v env)).bind λenv st=>(body env st).turn λenv st=>forL t body chk vs env st)
noncomputable def oS:Bool->F->F->F
 |true,a,_=>a
 |false,_,b=>b
noncomputable def Fq (test:Env->aa->R Bool) (body:Env->aa->F):Nat->Env->aa->F
 |0,_,_=> .stuck
 |n+1,env,st=>F.of env (test env st) λb st=>oS b ((body env st).turn λenv st=>Fq test body n env st) (.next env st)
def qm (P:Pg) (k:Nat) (f:Str) (x:Val) (st:aa):5#Ob->R Unit
 |some (.ins c ns vs)=>iff (eI P c f=true/\0#ns<100) (.ok () (st.set k (.ins c (aW ns vs f x).1 (aW ns vs f x).2)))
 |_=> .stuck
def dE (P:Pg) (f:Str) (x:Val):Val->aa->R Unit
 | .ref k,st=>qm P k f x st st[k]?
 |_,_=> .stuck
def mR (k:Nat) (x:Val) (st:aa):5#Ob->Val->R Unit
 |some 7#xs, 6#j=>(R.aj (jw 0#xs j) st).bind λj st=> .ok () (st.set k 7#(xs.set j x))
 |some (.dct ks vs),i=>iff (bY i=true/\0#ks<10000) ((R.aj (putD i x ks vs) st).bind λr st=> .ok () (st.set k (.dct r.1 r.2)))
 |_,_=> .stuck
def fR (i x:Val):Val->aa->R Unit
 | .ref k,st=>mR k x st st[k]? i
 |_,_=> .stuck
def gE (P:Pg) (c k:Nat):Bool:=(((P.cl k)).map λk=>k.sup.contains c).getD false
noncomputable def unset (x:5#Nat) (env:Env):Env:=match x with
 |some i=>env.set i none
 |none=>env
def F.unset (x:5#Nat):F->F
 | .next env st=> .next (PI.unset x env) st
 | .brk env st=> .brk (PI.unset x env) st
 | .cont env st=> .cont (PI.unset x env) st
 | .exc _ _ _=> .stuck
 | .ret v st=> .ret v st
 | .stuck=> .stuck
def lJ (x:5#Nat) (y:Exn) (env:Env):Env:=match x with
 |some i=>env.set i 1#(.obj y.c y.ns y.vs)
 |none=>env
def F.mG (P:Pg) (c:Nat) (x:5#Nat) (h:Env->aa->F):F->F
 | .exc y env st=>oS (gE P c y.c) ((h (lJ x y env) st).unset x) .stuck
 | .next env st=> .next env st
 | .brk env st=> .brk env st
 | .cont env st=> .cont env st
 | .ret v st=> .ret v st
 | .stuck=> .stuck
noncomputable def GV (env:Env) (st:aa):Val->F
 | .obj c ns vs=> .exc ⟨c,ns,vs⟩ env st
 |_=> .stuck
def wL (P:Pg) (cl:ar) (c:Nat) (xs:2#Val) (env:Env) (st:aa):5#5#Nat->F
 |some 1#f=>F.of env ((cl f (3#0#st::xs) (st++[.ins c [] []])).bind λ_ st'=>fin P st 3#0#st st') λv st=>GV env st v
 |some none=> .exc ⟨c,[],[]⟩ env st
 |none=> .stuck
mutual
noncomputable def S.run (P:Pg) (cl:ar):S->Env->aa->F
 | .set t e,env,st=>F.of env (e.run P cl env st) λx st=>F.aj st (t.put x env)
 | .fR o i e,env,st=>F.of env ((e.run P cl env st).bind λx st=>(o.run P cl env st).bind λy st=>(i.run P cl env st).bind λz st=>fR z x y st) λ_ st=> .next env st
 | .dE o f e,env,st=>F.of env ((e.run P cl env st).bind λx st=>(o.run P cl env st).bind λy st=>dE P f x y st) λ_ st=> .next env st
 | .aug i op e,env,st=>F.of env ((R.aj ((env[i]?).bind id) st).bind λx st=>(e.run P cl env st).bind λy st=>eY op x (res st y) st) λx st=> .next (env.set i 1#x) st
 | .augI _ _ _ _,_,_=> .stuck
 | .augF _ _ _ _,_,_=> .stuck
 | .expr e,env,st=>F.of env (e.run P cl env st) λ_ st=> .next env st
 | .ret e,env,st=>F.of env (e.run P cl env st) λx st=> .ret x st
 | .retN,_,st=> .ret .non st
 | .pass,env,st=> .next env st
 | .brk,env,st=> .brk env st
 | .cont,env,st=> .cont env st
 | .ife c a b,env,st=>F.of env (runC P cl 1#c env st) λt st=>oS t (aD P cl a env st) (aD P cl b env st)
 | .whl c b,env,st=>Fq (λenv st=>runC P cl 1#c env st) (λenv st=>aD P cl b env st) P.w env st
 | .for t q b,env,st=>F.of env (q.run P cl env st) λit st=>forL t (λenv st=>aD P cl b env st) it.2 it.1 env st
 | .raise c es,env,st=>F.of env (aO P cl es env st) λxs st=>wL P cl c xs env st (((P.cl c)).map (·.init))
 | .try_ b c x h,env,st=>(aD P cl b env st).mG P c x λenv st=>aD P cl h env st
noncomputable def aD (P:Pg) (cl:ar):2#S->Env->aa->F
 |[],env,st=> .next env st
 |s::ss,env,st=>(s.run P cl env st).bind λenv st=>aD P cl ss env st
end
def F.fin (P:Pg) (st:aa):F->R Val
 | .next _ st'=>PI.fin P st .non st'
 | .ret v st'=>PI.fin P st v st'
 | .exc x _ st'=>oG st x st'
 | .brk _ _=> .stuck
 | .cont _ _=> .stuck
 | .stuck=> .stuck
def Ck (P:Pg) (cl:ar) (xs:2#Val) (st:aa):5#Fn->R Val
 |some d=>iff (0#xs=d.np) ((aD P cl d.body (xs.map some++List.replicate (d.ns-d.np) none) st).fin P st)
 |none=> .stuck
noncomputable def call (P:Pg):Nat->ar
 |0,_,_,_=> .stuck
 |n+1,f,xs,st=>Ck P (call P n) xs st (P.fn f)
end
theorem sP (st:aa):Old st st:=⟨aai _,λ_ _ _ h=> .inl h⟩
theorem iM (st g:aa):Old st (st++g):=⟨by simp,λi o h e=> .inl (by rwa[aaq h] at e)⟩
theorem tP (st g:aa) (k:Nat) (o:Ob) (h:o.bd 0#st=true):Old st (st.set k o++g):=⟨by simp,λi u hi e=>by
 rw[aaq (by simpa using hi),List.getElem?_set] at e;split at e
 ·split at e
  ·exact .inr (by cases e;exact h)
  ·cases e
 ·exact .inl e⟩
end PI
set_option autoImplicit true
set_option relaxedAutoImplicit true
namespace PI
open PySem
@[simp]theorem Nc (k:Nat):lQ k 1#7#xs= 7#xs:=rfl
@[simp]theorem Nq (k:Nat):lQ k 1#(.dct ks vs)= .dct ks vs:=rfl
@[simp]theorem NX (k:Nat):lQ k 1#(.ins c ns vs)= .obj c ns vs:=rfl
@[simp]theorem Nm (k:Nat):lQ k none= 3#k:=rfl
@[simp]theorem OP (st:aa):res st 3#k=lQ k st[k]?:=rfl
@[simp]theorem Pf (st:aa):res st (.tup f xs)= .tup f xs:=rfl
@[simp]theorem OM (st:aa):res st 7#xs= 7#xs:=rfl
@[simp]theorem Pc (st:aa):res st (.dct ks vs)= .dct ks vs:=rfl
@[simp]theorem O7 (st:aa):res st (.obj c ns vs)= .obj c ns vs:=rfl
@[simp]theorem NJ {α:Type} (f:Int->Int->aa->R α) (i:Int):lK f i 6#j st=f i j st:=rfl
@[simp]theorem Nw {α:Type} (f:Int->Int->aa->R α):bX f 6#i y st=lK f i y st:=rfl
@[simp]theorem Oj (i:Str):Ap i (.str j) st=iff (0#i+0#j<=100000) (.ok (.str (i++j)) st):=rfl
@[simp]theorem Nh (xs:2#Val):Ac xs (.tup w1_ ys) st=iff (xs≠[]/\ys≠[]/\0#xs+0#ys<=10000) (.ok (.tup false (xs++ys)) st):=rfl
@[simp]theorem NO (xs:2#Val):zS xs 7#ys st=iff (0#xs+0#ys<=10000) (new 7#(xs++ys) st):=rfl
@[simp]theorem NR :km 6#i y st=lK (λi j st=> .ok 6#(i+j) st) i y st:=rfl
@[simp]theorem Oq :km (.str i) y st=Ap i y st:=rfl
@[simp]theorem N2 :km (.tup w1_ xs) y st=Ac xs y st:=rfl
@[simp]theorem Og :km 7#xs y st=zS xs y st:=rfl
@[simp]theorem NK :wI (.str z) 6#k st=iff (0<=k/\k<=1000/\0#z<=1000) (.ok (.str (j7 z k.toNat)) st):=rfl
@[simp]theorem N3 :wI 6#i y st=lK oj i y st:=rfl
@[simp]theorem Nb :eY .Add x y st=km x y st:=rfl
@[simp]theorem Om :eY .Sub x y st=bX (λi j st=> .ok 6#(i-j) st) x y st:=rfl
@[simp]theorem Nz :eY .Mult x y st=wI x y st:=rfl
@[simp]theorem NY :eY .FloorDiv x y st=bX rM x y st:=rfl
@[simp]theorem Nn :eY .Mod x y st=bX rA x y st:=rfl
@[simp]theorem Oa :eY .Pow x y st=bX vZ x y st:=rfl
@[simp]theorem O6 (neg b:Bool):Hy neg b (.bl a) st= .ok (if neg=true then !(a==b) else a==b) st:=rfl
@[simp]theorem OQ (neg:Bool) (x:Val):uW neg x .non st= .ok (if neg=true then !gd x else gd x) st:=rfl
@[simp]theorem O1 (neg:Bool) (x:Val):uW neg x (.bl b) st=Hy neg b x st:=rfl
@[simp]theorem OG (neg:Bool) (x:Val):xa neg x (.tup w1_ ys) st=R.aj ((dU x ys).map λb=>if neg=true then !b else b) st:=rfl
@[simp]theorem Nl :bz .Eq x y st=R.aj (eqv 8 x y) st:=rfl
@[simp]theorem NG :bz .NotEq x y st=R.aj ((eqv 8 x y).map λb=> !b) st:=rfl
@[simp]theorem NI :bz .Lt x y st=bX (λi j st=> .ok (decide (i<j)) st) x y st:=rfl
@[simp]theorem M9 :bz .LtE x y st=bX (λi j st=> .ok (decide (i<=j)) st) x y st:=rfl
@[simp]theorem NL :bz .Gt x y st=bX (λi j st=> .ok (decide (j<i)) st) x y st:=rfl
@[simp]theorem NA :bz .GtE x y st=bX (λi j st=> .ok (decide (j<=i)) st) x y st:=rfl
@[simp]theorem Ow :bz .Is x y st=uW false x y st:=rfl
@[simp]theorem Oo :bz .IsNot x y st=uW true x y st:=rfl
@[simp]theorem M6 :bz .In x y st=xa false x y st:=rfl
@[simp]theorem KQ :gd .non=true:=rfl
@[simp]theorem KW :gd 6#w1_=false:=rfl
@[simp]theorem LL :gd (.tup w1_ w2_)=false:=rfl
@[simp]theorem M3 :eQ (.tup w1_ xs) 6#k st=R.aj (k9 xs k) st:=rfl
@[simp]theorem oy :eQ 7#xs 6#k st=R.aj (k9 xs k) st:=rfl
@[simp]theorem kJ :eQ (.str x) 6#k st=iff (0#x<=1000) (R.aj (((jw 0#x k).bind λj=>x.cps.toList[j]?).map λc=> .str ⟨#[c]⟩) st):=rfl
@[simp]theorem Ni :oH (.tup w1_ xs) lo hi st=iff (¬(bR 0#xs 0 lo=0/\bR 0#xs 0#xs hi=0#xs)) (.ok (.tup false (cut xs lo hi)) st):=rfl
@[simp]theorem NW :oH 7#xs lo hi st=new 7#(cut xs lo hi) st:=rfl
@[simp]theorem N7 :oH (.str x) lo hi st=iff (0#x<=1000) (.ok (.str ⟨(cut x.cps.toList lo hi).toArray⟩) st):=rfl
@[simp]theorem ME :truth (.bl b)=1#b:=rfl
@[simp]theorem Ng :iH (.tup w1_ xs)=1#0#xs:=rfl
@[simp]theorem NB :iH 7#xs=1#0#xs:=rfl
@[simp]theorem N9 :iH (.dct ks w1_)=1#0#ks:=rfl
@[simp]theorem O3 :iP .len x st=R.aj ((iH x).map .int) st:=rfl
@[simp]theorem O5 :iP .tuple (.tup f xs) st= .ok (.tup f xs) st:=rfl
@[simp]theorem Pm :iP .tuple 7#xs st= .ok (.tup true xs) st:=rfl
@[simp]theorem Ph :iP .list (.tup w1_ xs) st=new 7#xs st:=rfl
@[simp]theorem OZ :iP .abs 6#i st= .ok 6#i.natAbs st:=rfl
@[simp]theorem Na :iP .max 7#xs st=R.aj ((cN xs).bind λl=>l.max?.map .int) st:=rfl
@[simp]theorem Nv :iP .min 7#xs st=R.aj ((cN xs).bind λl=>l.min?.map .int) st:=rfl
@[simp]theorem Oz :iP .minD 7#xs st=R.aj ((cN xs).map λl=>(l.min?.map .int).getD .non) st:=rfl
@[simp]theorem Oy :iP .int (.bl b) st= .ok 6#(if b=true then 1 else 0) st:=rfl
@[simp]theorem OA :iP (.bQ n) x st=R.aj ((bQ n x).map .bl) st:=rfl
@[simp]theorem OW :yB .max 6#i 6#j st= .ok 6#(if j>i then j else i) st:=rfl
@[simp]theorem OV :xY .max 6#i 6#j 6#k st= .ok 6#(max i (max j k)) st:=rfl
@[simp]theorem O9 (b:Bi):pU b [x] st=iP b x st:=rfl
@[simp]theorem OL (b:Bi):pU b [x,y] st=yB b x y st:=rfl
@[simp]theorem Pa (b:Bi):pU b [x,y,z] st=xY b x y z st:=rfl
@[simp]theorem OX (k:Nat) (ys:2#Val) (st:aa):BV k ys st 1#7#zs=iff (0#ys+0#zs<=10000) (.ok .non (st.set k 7#(ys++zs))):=rfl
@[simp]theorem Pd :s8 (.dct ks vs) [k] st=iff (bY k=true) (R.aj ((getD k ks vs).map λo=>o.getD .non) st):=rfl
@[simp]theorem sF :s8 (.dct ks vs) [k,d] st=iff (bY k=true) (R.aj ((getD k ks vs).map λo=>o.getD d) st):=rfl
@[simp]theorem Lv :isRef 3#k=1#k:=by simp only[isRef]
@[simp]theorem KL :isRef .non=none:=by simp only[isRef]
@[simp]theorem Lg :isRef (.bl w1_)=none:=by simp only[isRef]
@[simp]theorem MC :isRef (.tup w1_ w2_)=none:=by simp only[isRef]
@[simp]theorem Nj (P:Pg) (n:Nat) (k:Nat) (st':aa):tf P n k st' 1#7#xs=(R.aj (aV st' n k xs) st').bind λys st'=> .ok 3#n (st'.take n++[7#ys]):=rfl
@[simp]theorem NN (P:Pg) (n:Nat) (k:Nat) (st':aa):tf P n k st' 1#(.ins c ns vs)=if rC P c=true then .ok 3#k st' else (R.aj (aV st' n 0#st' vs) st').bind λvs st'=> .ok (.obj c ns vs) (st'.take n):=rfl
@[simp]theorem NS (P:Pg) (n:Nat) (v:Val) (st':aa):Ag P n v st' 1#k=if k<n then .ok v (st'.take n) else tf P n k st' st'[k]?:=rfl
@[simp]theorem Kk :F.bind (.next env st) k=k env st:=rfl
@[simp]theorem Ke :F.bind (.ret v st) w1_= .ret v st:=rfl
@[simp]theorem KA :F.bind (.exc x env st) w1_= .exc x env st:=rfl
@[simp]theorem Oc {α:Type} (env:Env):F.of env (.ok a st) k=k a st:=rfl
@[simp]theorem NT {α:Type} (env:Env):F.of env (.exc x st) w1_= .exc x env st:=rfl
@[simp]theorem KU (st:aa):F.aj st 1#env= .next env st:=rfl
@[simp]theorem OF (k:Nat):iK k 1#7#xs=1#(xs,[(k, 7#xs)]):=rfl
@[simp]theorem J5 (st:aa):itemsOf st (.tup w1_ xs)=1#(xs,[]):=rfl
@[simp]theorem IE (st:aa):itemsOf st 7#xs=1#(xs,[]):=rfl
@[simp]theorem Io (st:aa):itemsOf st 3#k=iK k st[k]?:=rfl
@[simp]theorem Kl (st:aa):gY st (.tup w1_ xs)=1#(xs,[]):=rfl
@[simp]theorem Kx (st:aa):gY st (.dct ks w1_)=1#(ks.map jo,[]):=rfl
@[simp]theorem Kt (st:aa):gY st 3#k=iK k st[k]?:=rfl
@[simp]theorem Ox (st:aa):vI st 1#7#xs=newD xs st:=rfl
@[simp]theorem Oh (st:aa):rY st (.tup true xs)=newD xs st:=rfl
@[simp]theorem N8 (st:aa):rY st 3#k=vI st st[k]?:=rfl
@[simp]theorem LX :fu 1#x r=x::r:=rfl
@[simp]theorem OE :AE 6#i st= .ok 6#(-i) st:=rfl
@[simp]theorem MJ :fE (.bl b) st= .ok b st:=rfl
@[simp]theorem NV :jX none st= .ok none st:=rfl
@[simp]theorem Oi :jX 1#6#i st= .ok 1#i st:=rfl
@[simp]theorem NQ (P:Pg) (f:Str):jx P f (.obj c ns vs) st=iff (eI P c f=true) (R.aj (dS ns vs f) st):=rfl
@[simp]theorem CD (P:Pg) (c:Nat):wA P c (.obj k w1_ w2_) st=R.aj (((P.cl k)).bind λk=>if k.sup=[] then none else 1#(.bl (k.sup.contains c))) st:=rfl
@[simp]theorem Dc (P:Pg) (cs:2#Nat):vE P cs (.obj k w1_ w2_) st=R.aj (((P.cl k)).bind λk=>if k.exc=true/\¬k.sup=[] then 1#(.bl (cs.any λc=>k.sup.contains c)) else none) st:=rfl
@[simp]theorem ND {α:Type}:qL .non r=r:=rfl
@[simp]theorem K6 (P:Pg) (cl:ar) (c:Nat) (xs:2#Val) (st:aa):ir P cl c xs st 1#1#f=(cl f (3#0#st::xs) (st++[.ins c [] []])).bind λv st'=>qL v (fin P st 3#0#st st'):=rfl
@[simp]theorem OK {α:Type}:eS true a w1_=a:=rfl
@[simp]theorem O0 {α:Type}:eS false w1_ b=b:=rfl
@[simp]theorem NP :zK 1#(xs,c) 1#(ys,d) st=iff (0#ys<=0#xs) (.ok (eJ xs ys,c++d) st):=rfl
@[simp]theorem Kc :F.turn (.next env st) k=k env st:=rfl
@[simp]theorem Pj :oS true a w1_=a:=rfl
@[simp]theorem K9 (P:Pg) (k:Nat) (f:Str) (x:Val) (st:aa):qm P k f x st 1#(.ins c ns vs)=iff (eI P c f=true/\0#ns<100) (.ok () (st.set k (.ins c (aW ns vs f x).1 (aW ns vs f x).2))):=rfl
@[simp]theorem NC (P:Pg) (f:Str) (x:Val):dE P f x 3#k st=qm P k f x st st[k]?:=rfl
@[simp]theorem Ms (k:Nat) (x:Val) (st:aa):mR k x st 1#7#xs 6#j=(R.aj (jw 0#xs j) st).bind λj st=> .ok () (st.set k 7#(xs.set j x)):=rfl
@[simp]theorem Lq (k:Nat) (x:Val) (st:aa):mR k x st 1#(.dct ks vs) i=iff (bY i=true/\0#ks<10000) ((R.aj (putD i x ks vs) st).bind λr st=> .ok () (st.set k (.dct r.1 r.2))):=rfl
@[simp]theorem NH (i x:Val):fR i x 3#k st=mR k x st st[k]? i:=rfl
@[simp]theorem JV (x:5#Nat):F.unset x (.next env st)= .next (PI.unset x env) st:=rfl
@[simp]theorem IF (P:Pg) (c:Nat) (x:5#Nat) (h:Env->aa->F):F.mG P c x h (.exc y env st)=oS (gE P c y.c) ((h (lJ x y env) st).unset x) .stuck:=rfl
@[simp]theorem Ja (P:Pg) (c:Nat) (x:5#Nat) (h:Env->aa->F):F.mG P c x h (.next env st)= .next env st:=rfl
@[simp]theorem Kj (P:Pg) (cl:ar) (c:Nat) (xs:2#Val) (env:Env) (st:aa):wL P cl c xs env st 1#none= .exc ⟨c,[],[]⟩ env st:=rfl
@[simp]theorem LF (P:Pg) (st:aa):F.fin P st (.next w1_ st')=PI.fin P st .non st':=rfl
@[simp]theorem Ma (P:Pg) (st:aa):F.fin P st (.ret v st')=PI.fin P st v st':=rfl
@[simp]theorem Lm (P:Pg) (st:aa):F.fin P st (.exc x w1_ st')=oG st x st':=rfl
@[simp]theorem Of :allB []=1#true:=rfl
@[simp]theorem NZ :allB (.bl b::r)=(allB r).map λc=>b&&c:=rfl
@[simp]theorem Nr :iF a []=1#a:=rfl
@[simp]theorem M5 :iF a (6#i::r)=iF (a+i) r:=rfl
@[simp]theorem L7 :cN []=some []:=rfl
@[simp]theorem LS :cN (6#i::r)=(cN r).map λr=>i::r:=rfl
@[simp]theorem OB (n:String):bQ n .non=1#false:=rfl
@[simp]theorem Ot (n:String):bQ n (.bl w1_)=1#(n=="bool"||n=="int"):=rfl
@[simp]theorem N5 (n:String):bQ n 6#w1_=1#(n=="int"):=rfl
@[simp]theorem Ov (n:String):bQ n (.tup w1_ w2_)=1#(n=="tuple"):=rfl
@[simp]theorem Nt (n:String):bQ n 7#w1_=1#(n=="list"):=rfl
@[simp]theorem O8 (m:Bm):xJ m 7#w1_= !cD m:=rfl
@[simp]theorem OU (m:Bm):xJ m (.dct w1_ w2_)=cD m:=rfl
@[simp]theorem OJ :noX (.ok a st)= .ok a st:=rfl
@[simp]theorem LI (cl:ar) (f:Nat) (st:aa):qv cl f st 7#ys=iff (0#ys<64) ((fh cl f st ys []).bind λks _=>(R.aj (dQ ks) st).bind λks st=>jd ys ks st):=rfl
@[simp]theorem Bv (P:Pg) (cl:ar):E.run P cl (.const v) w1_ st= .ok v st:=rfl
@[simp]theorem Be (P:Pg) (cl:ar):E.run P cl 4#i env st=R.aj ((env[i]?).bind id) st:=rfl
@[simp]theorem Mj (P:Pg) (cl:ar):E.run P cl (.bin op a b) env st=(a.run P cl env st).bind λx st=>(b.run P cl env st).bind λy st=>eY op (res st x) (res st y) st:=rfl
@[simp]theorem Lh (P:Pg) (cl:ar):E.run P cl (.neg a) env st=(a.run P cl env st).bind λx st=>AE x st:=rfl
@[simp]theorem LA (P:Pg) (cl:ar):E.run P cl (.cmp op a b) env st=(a.run P cl env st).bind λx st=>(b.run P cl env st).bind λy st=>cW (bz op (res st x) (res st y) st):=rfl
@[simp]theorem LG (P:Pg) (cl:ar):E.run P cl (.cmp2 op op' a b c) env st=(a.run P cl env st).bind λx st=>(b.run P cl env st).bind λy st=>(bz op (res st x) (res st y) st).bind λz st=>eS z ((c.run P cl env st).bind λw st=>cW (bz op' (res st y) (res st w) st)) (.ok (.bl false) st):=rfl
@[simp]theorem KJ (P:Pg) (cl:ar):E.run P cl (.and a b) env st=(a.run P cl env st).bind λx st=>(fE x st).bind λt st=>eS t (b.run P cl env st) (.ok (.bl false) st):=rfl
@[simp]theorem Ll (P:Pg) (cl:ar):E.run P cl (.or a b) env st=(a.run P cl env st).bind λx st=>(fE x st).bind λt st=>eS t (.ok (.bl true) st) (b.run P cl env st):=rfl
@[simp]theorem La (P:Pg) (cl:ar):E.run P cl (.not a) env st=(a.run P cl env st).bind λx st=>(fE x st).bind λt st=> .ok (.bl !t) st:=rfl
@[simp]theorem p7 (P:Pg) (cl:ar):E.run P cl (.ite c a b) env st=(c.run P cl env st).bind λx st=>(R.aj (truth (res st x)) st).bind λt st=>eS t (a.run P cl env st) (b.run P cl env st):=rfl
@[simp]theorem Kw (P:Pg) (cl:ar):E.run P cl (.tup es) env st=(aO P cl es env st).bind λxs st=>iff (0#xs<=1000) (.ok (.tup false xs) st):=rfl
@[simp]theorem Km (P:Pg) (cl:ar):E.run P cl 7#es env st=(aO P cl es env st).bind λxs st=>iff (0#xs<=1000) (new 7#xs st):=rfl
@[simp]theorem Kq (P:Pg) (cl:ar):E.run P cl (.dct [] []) w1_ st=new (.dct [] []) st:=rfl
@[simp]theorem Kd (P:Pg) (cl:ar):E.run P cl (.fld o f) env st=(o.run P cl env st).bind λx st=>jx P f (res st x) st:=rfl
@[simp]theorem Kr (P:Pg) (cl:ar):E.run P cl (.idx o i) env st=(o.run P cl env st).bind λx st=>(i.run P cl env st).bind λy st=>eQ (res st x) y st:=rfl
@[simp]theorem Kg (P:Pg) (cl:ar):E.run P cl (.slc o lo hi) env st=(o.run P cl env st).bind λx st=>((ja P cl lo env st).bind λa st=>jX a st).bind λa st=>((ja P cl hi env st).bind λb st=>jX b st).bind λb st=>oH (res st x) a b st:=rfl
@[simp]theorem Kb (P:Pg) (cl:ar):E.run P cl (.call f es) env st=(aO P cl es env st).bind λxs st=>cl f xs st:=rfl
@[simp]theorem Kp (P:Pg) (cl:ar):E.run P cl (.make c es) env st=(aO P cl es env st).bind λxs st=>ir P cl c xs st (((P.cl c)).map (·.init)):=rfl
@[simp]theorem xF (P:Pg) (cl:ar):E.run P cl (.bi b es) env st=(aO P cl es env st).bind λxs st=>pU b (xs.map (res st)) st:=rfl
@[simp]theorem J6 (P:Pg) (cl:ar):E.run P cl (.bm m o es) env st=(o.run P cl env st).bind λx st=>iff (xJ m (res st x)=true) ((aO P cl es env st).bind λxs st=>kZ m x xs st):=rfl
@[simp]theorem Kn (P:Pg) (cl:ar):E.run P cl (.isI e c) env st=(e.run P cl env st).bind λx st=>wA P c (res st x) st:=rfl
@[simp]theorem Kh (P:Pg) (cl:ar):E.run P cl (.isM e cs) env st=(e.run P cl env st).bind λx st=>vE P cs (res st x) st:=rfl
@[simp]theorem Ku (P:Pg) (cl:ar):E.run P cl (.sortK q f) env st=(q.run P cl env st).bind λx st=>qv cl f st (res st x):=rfl
@[simp]theorem J9 (P:Pg) (cl:ar):E.run P cl (.dOf e) env st=(e.run P cl env st).bind λx st=>rY st x:=rfl
@[simp]theorem Kf (P:Pg) (cl:ar):E.run P cl (.fz e) env st=(e.run P cl env st).bind λv st'=>t6 st v st':=rfl
@[simp]theorem zR (P:Pg) (cl:ar):aO P cl [] w1_ st= .ok [] st:=rfl
@[simp]theorem Bf (P:Pg) (cl:ar):aO P cl (e::es) env st=(e.run P cl env st).bind λx st=>(aO P cl es env st).bind λxs st=> .ok (x::xs) st:=rfl
@[simp]theorem OC (P:Pg) (cl:ar):ja P cl none w1_ st= .ok none st:=rfl
@[simp]theorem M0 (P:Pg) (cl:ar):ja P cl 1#e env st=(e.run P cl env st).bind λx st=> .ok 1#x st:=rfl
@[simp]theorem NM (P:Pg) (cl:ar):runC P cl none w1_ st= .ok true st:=rfl
@[simp]theorem Np (P:Pg) (cl:ar):runC P cl 1#e env st=(e.run P cl env st).bind λx st=>R.aj (truth (res st x)) st:=rfl
@[simp]theorem Mo (P:Pg) (cl:ar):Q.run P cl (.val e) env st=(e.run P cl env st).bind λx st=>R.aj (gY st x) st:=rfl
@[simp]theorem LC (P:Pg) (cl:ar):Q.run P cl (.rng1 a) env st=(a.run P cl env st).bind λx st=>v8 x st:=rfl
@[simp]theorem KH (P:Pg) (cl:ar):Q.run P cl (.zip a b) env st=(a.run P cl env st).bind λx st=>(b.run P cl env st).bind λy st=>zK (itemsOf st x) (itemsOf st y) st:=rfl
@[simp]theorem M4 (f:Val->Val->5#Bool):cO f [] []=1#true:=rfl
@[simp]theorem N0 (f:Val->Val->5#Bool):cO f (x::xs) (y::ys)=(f x y).bind λa=>(cO f xs ys).map λb=>a&&b:=rfl
@[simp]theorem Ny (v:Val) (env:Env) (i:Nat):T.put v env 4#i=if i<0#env then 1#(env.set i 1#v) else none:=by simp only[T.put]
@[simp]theorem OD (f:Bool) (xs:2#Val) (env:Env) (ts:2#T):T.put (.tup f xs) env (.tup ts)=bM xs env ts:=by simp only[T.put]
@[simp]theorem Mx (env:Env):bM [] env []=1#env:=by simp only[bM]
@[simp]theorem Ky (v:Val) (vs:2#Val) (env:Env) (t:T) (ts:2#T):bM (v::vs) env (t::ts)=(t.put v env).bind λenv=>bM vs env ts:=by simp only[bM]
@[simp]theorem OT (xs:2#Val) (i:Int):k9 xs i=(jw 0#xs i).bind λj=>xs[j]?:=rfl
@[simp]theorem Od (n:Nat) (i:Int):jw n i=if 0<=i then (if i<n then 1#i.toNat else none) else if-(n:Int)<=i then 1#(i+n).toNat else none:=rfl
@[simp]theorem OR (r:R Bool):cW r=r.bind λb st=> .ok (.bl b) st:=rfl
@[simp]theorem ON (d:Nat) (a b:Bool):eqv d (.bl a) (.bl b)=1#(a==b):=by cases d<;>rfl
@[simp]theorem Ol (d:Nat) (a b:Int):eqv d 6#a 6#b=1#(a==b):=by cases d<;>rfl
@[simp]theorem Nd (d:Nat) (a b:Str):eqv d (.str a) (.str b)=1#(decide (a=b)):=by cases d<;>rfl
@[simp]theorem NU (d:Nat) (f g:Bool) (xs ys:2#Val):eqv (d+1) (.tup f xs) (.tup g ys)=cO (eqv d) xs ys:=rfl
inductive Gv where
 |fn (i:Nat)|cls (i:Nat) (ini:Bool)|err (i:Nat)|val (v:Val)|nam (i:Nat)
structure Dt where
 gl:2#(Str×Gv)
 fr:2#Str
 fx:2#Str
 is:2#Str
 ff:2#Str
structure Gm where
 N:2#Str
 sc:Scope
 fn:Str->Bool
 cm:Bool
def Gm.gl (g:Gm) (x:Str):Bool:=g.sc.names.lookup x==1#.globalImplicit
noncomputable def Ha (sc:Scope) (x:Str):Bool:=sc.names.lookup x==1#.local||sc.names.lookup x==1#.cell||sc.names.lookup x==1#.free
noncomputable def vT (sc:Scope) (x:Str):Bool:=sc.names.lookup x==1#.local||sc.names.lookup x==1#.cell
def Gm.ix (g:Gm) (x:Str):5#Nat:=if (x==("__debug__":Str))||(x==("__classdict__":Str)) then none else (g.N.idxOf? x).bind λi=>if Ha g.sc x then 1#i else none
def Gm.lx (g:Gm) (x:Str):5#Nat:=(g.N.idxOf? x).bind λi=>if vT g.sc x&&(g.fn x||g.sc.names.lookup x==1#.local) then 1#i else none
def Gm.gb (g:Gm) (x:Str):Bool:=g.gl x&& !(x==("__debug__":Str))&& !(x==("__name__":Str))
def Gm.gv (D:Dt) (g:Gm) (x:Str):5#Gv:=if g.gb x then D.gl.lookup x else none
noncomputable def Af (x:Str):5#Bi:=if x="len" then 1#.len else if x="abs" then 1#.abs else if x="int" then 1#.int else if x="tuple" then 1#.tuple else if x="list" then 1#.list else if x="all" then 1#.all else if x="sum" then 1#.sum else if x="max" then 1#.max else none
noncomputable def BM (S sc:Scope):Scope:={sc with names:=sc.names.map λ(n,k)=>if (k== .free&&S.kind== .function&&S.names.lookup n==1#.cell) then (n, .cell) else (n,k)}
noncomputable def kf:2#Str->Bool
 |[]=>true
 |x::r=> !r.contains x&&kf r
noncomputable def zT (S sc:Scope):Bool:=(sc.kind== .function)&&(sc.names.all λy=> !(y.2== .local)||sc.names.lookup y.1==1#.local)
 &&(sc.names.all λy=> !(y.2== .free)||S.names.lookup y.1==1#.cell||S.names.lookup y.1==1#.free)&&(sc.names.all λy=> !(y.2== .cell)||sc.names.lookup y.1==1#.cell)
noncomputable def qU (sc:Scope):2#Str:=(sc.names.filter λy=>(y.2== .local||y.2== .cell)&& !(y.1==(".0":Str))).map (·.1)
noncomputable def iT (N:2#Str) (sc:Scope):2#Nat:=(sc.names.filter λy=>y.2== .free).filterMap λy=>N.idxOf? y.1
def Gm.block (g:Gm) (sc:Scope):5#Gm:=let ws:=qU sc;let caps:=iT g.N sc;let N:=ws++caps.map λi=>g.N.getD i Str.empty
 if zT g.sc sc&&kf N&&(caps.all λk=>sc.names.lookup (g.N.getD k Str.empty)==1#.free)&&g.cm then 1#⟨N,BM g.sc sc,λx=>sc.names.lookup x==1#.cell,true⟩ else none
noncomputable def cC:Const->5#E
 | .none=>1#(.const .non)
 | .bool b=>1#(.const (.bl b))
 | .int i=>1#(.const 6#i)
 | .str s=>1#(.const (.str s))
 |_=>none
noncomputable def Ax:Operator->Bool
 | .Add=>true
 | .Sub=>true
 | .Mult=>true
 | .FloorDiv=>true
 | .Mod=>true
 | .Pow=>true
 |_=>false
noncomputable def cUn:UnaryOp->E->5#E
 | .USub,a=>1#(.neg a)
 | .Not,a=>1#(.not a)
 |_,_=>none
noncomputable def cL {α β:Type} (f:α->5#β):2#α->5#2#β
 |[]=>some []
 |a::r=>(f a).bind λb=>(cL f r).map λr=>b::r
noncomputable def bop:BoolOp->E->E->E
 | .And,x,y=> .and x y
 | .Or,x,y=> .or x y
noncomputable def cBool (op:BoolOp) (f:Expr->5#E):2#Expr->5#E
 |[]=>none
 |[a]=>f a
 |a::r=>(f a).bind λx=>(cBool op f r).map λy=>bop op x y
noncomputable def notStar:Expr->Bool
 | .Starred _ _=>false
 |_=>true
noncomputable def eP:Expr->Bool
 | .Set _ _ _=>false
 |_=>true
noncomputable def fb:Expr->Bool
 | .Slice _ _ _ _=>false
 |_=>true
noncomputable def eC:Expr->Bool
 | .ListComp _ _ _ _=>false
 | .SetComp _ _ _ _=>false
 | .DictComp _ _ _ _ _=>false
 |_=>true
noncomputable def cR:Expr->Bool
 | .IfExp _ _ _ _=>false
 |_=>true
noncomputable def jB:Expr->Bool
 | .Call (.Name _ _) [] [] _=>false
 |_=>true
noncomputable def zX (m:Str) (n:Nat):5#Bm:=
 if m="append" then (if n=1 then 1#.append else none) else if m="extend" then (if n=1 then 1#.extend else none) else none
noncomputable def jV (m:Str):Bool:=(["append","extend","insert","reverse","clear","get","pop","remove","join","split","isdigit","count","index","keys","values","items","copy","sort"]:2#Str).contains m
def Ce (D:Dt) (g:Gm) (x:Str):5#E:=match g.gv D x with
 |some (.val v)=>1#(.const v)
 |_=>none
noncomputable def mY (x:Str):5#String:=
 if x="bool" then some "bool" else if x="int" then some "int" else if x="str" then some "str" else if x="tuple" then some "tuple" else if x="list" then some "list" else if x="dict" then some "dict" else none
def qk (D:Dt) (g:Gm) (x:Str) (es:2#Expr) (f:Expr->5#E):5#E:=match g.gv D x with
 |some (.fn i)=>if es.all notStar then (cL f es).map λes=> .call i es else none
 |some (.cls c ini)=>if es.all notStar&&(ini== !es.isEmpty) then (cL f es).map λes=> .make c es else none
 |some (.err _)=>none
 |some (.val _)=>none
 |some (.nam _)=>none
 |none=>if g.gb x&&D.fr.contains x&&es.all notStar&& !es.isEmpty&&g.cm then (Af x).bind λb=>(cL f es).map λes=> .bi b es else none
def ql (m:Str) (ap pos:Pos) (o:Expr) (es:2#Expr) (f:Expr->5#E):5#E:=
 if jB o&&es.all notStar&&(ap.endLine==pos.line)&&decide (0#es<30) then (f o).bind λo=>(cL f es).bind λes=>
  if jV m then (if m="get" then (match es with
   |[k]=>1#(.bm .get o [k])
   |[k,d]=>1#(.bm .get o [k,d])
   |_=>none) else (zX m 0#es).map λb=> .bm b o es) else none else none
noncomputable def k6 (g:Gm):Nat->Expr->5#T
 |0,_=>none
 |n+1,e=>match e with
  | .Name x _=>(g.lx x).map .var
  | .Tuple es _ _=>if es.all notStar&&g.cm then (cL (k6 g n) es).map .tup else none
  |_=>none
def HP (f:Expr->5#E) (o:Expr):Expr->5#E
 | .Slice lo hi none _=>(f o).bind λo=>match lo,hi with
  |none,none=>1#(.slc o none none)
  |some a,none=>(f a).map λa=> .slc o 1#a none
  |none,1#b=>(f b).map λb=> .slc o none 1#b
  |some a,1#b=>(f a).bind λa=>(f b).map λb=> .slc o 1#a 1#b
 |i=>if fb i then (f o).bind λo=>(f i).map λi=> .idx o i else none
noncomputable def iU (x:Str):Bool:=x==("isinstance":Str)
def rg (D:Dt) (g:Gm) (y:Str):5#Nat:=if y="ValueError" then (if D.is.contains y&&D.fr.contains y&&g.gb y then 1#1000 else none) else if D.is.contains y then (match g.gv D y with
 |some (.nam c)=>if c=1000 then none else 1#c
 |some (.err c)=>if c=1000 then none else 1#c
 |_=>none) else none
def v5 (D:Dt) (g:Gm):Expr->5#Nat
 | .Name y _=>(rg D g y).bind λc=>if c=1000 then none else 1#c
 |_=>none
def CA (D:Dt) (g:Gm) (x:Str) (f:Expr->5#E):2#Expr->5#E
 |[a, .Name y _]=>match rg D g y with
  |some c=>if notStar a&&g.gb x&&D.fr.contains x then (f a).map λa=> .isI a c else none
  |none=>if notStar a&&g.gb x&&D.fr.contains x&&g.gb y&&D.fr.contains y then (mY y).bind λn=>(f a).map λa=> .bi (.bQ n) [a] else none
 |[a, .Tuple ys _ _]=>if notStar a&&g.gb x&&D.fr.contains x&&decide (0<0#ys/\0#ys<100) then (cL (v5 D g) ys).bind λcs=>(f a).map λa=> .isM a cs else none
 |_=>none
noncomputable def isSort (x:Str):Bool:=x==("sorted":Str)
def wb (D:Dt) (g:Gm) (x:Str) (f:Expr->5#E) (es:2#Expr) (ks:2#Keyword):5#E:=match es,ks with
 |[a],[⟨1#kn, .Name y _,_⟩]=>if isSort x&&(kn==("key":Str))&&notStar a&&g.gb x&&D.fr.contains x&&g.cm then (match g.gv D y with
  |some (.fn i)=>(f a).map λa=> .sortK a i
  |_=>none) else none
 |_,_=>none
noncomputable def rX (x:Str):Bool:=x==("dict":Str)
def Cu (D:Dt) (g:Gm) (x:Str) (f:Expr->5#E):2#Expr->5#E
 |[a]=>if notStar a&&g.gb x&&D.fr.contains x&&g.cm then (f a).map .dOf else none
 |_=>none
noncomputable def kq (x:Str):Bool:=x==("range":Str)
noncomputable def sT:2#Comprehension->5#Comprehension
 |[c]=>1#c
 |_=>none
def zD (f:Expr->5#E):2#Expr->5#5#E
 |[]=>1#none
 |[c]=>if cR c then (f c).map some else none
 |_=>none
def EV (D:Dt) (g:Gm) (x:Str) (f:Expr->5#E):2#Expr->5#Q
 |[a]=>if g.gb x&&D.fr.contains x&&notStar a then (f a).map .rng1 else none
 |_=>none
noncomputable def qr (x:Str):Bool:=x==("zip":Str)
def ER (D:Dt) (g:Gm) (x:Str) (f:Expr->5#E):2#Expr->5#Q
 |[a,b]=>if g.gb x&&D.fr.contains x&&notStar a&&notStar b then (f a).bind λa=>(f b).map λb=> .zip a b else none
 |_=>none
noncomputable def IZ:Q->Bool
 | .enm _=>true
 | .zip _ _=>true
 |_=>false
noncomputable def isTup:Expr->Bool
 | .Tuple _ _ _=>true
 |_=>false
def uo (q:Q) (tg:Expr):Bool:= !IZ q||isTup tg
mutual
noncomputable def cE (D:Dt):Nat->Gm->Expr->5#E
 |0,_,_=>none
 |n+1,g,e=>match e with
  | .Constant c _ _=>cC c
  | .Name x _=>match g.ix x with
   |some i=>1#4#i
   |none=>Ce D g x
  | .Dict [] [] _=>1#(.dct [] [])
  | .Call (.Attribute o m ap) es [] pos=>if g.cm||jV m then ql m ap pos o es (cE D n g) else none
  | .BinOp a op b _=>if Ax op then (cE D n g a).bind λa=>(cE D n g b).map λb=> .bin op a b else none
  | .UnaryOp op a _=>if cR a then (cE D n g a).bind λa=>cUn op a else none
  | .BoolOp op vs _=>if vs.all cR then cBool op (cE D n g) vs else none
  | .Compare a [op] [b] _=>if eP b then (cE D n g a).bind λa=>(cE D n g b).map λb=> .cmp op a b else none
  | .IfExp c a b _=>if cR c then (cE D n g c).bind λc=>(cE D n g a).bind λa=>(cE D n g b).map λb=> .ite c a b else none
  | .Tuple es _ _=>if es.all notStar then (cL (cE D n g) es).map .tup else none
  | .List es _=>if es.all notStar then (cL (cE D n g) es).map .lst else none
  | .Attribute o f _=>if jB o&&D.fx.contains f then (cE D n g o).map λo=> .fld o f else none
  | .Subscript o i _=>HP (cE D n g) o i
  | .Call (.Name x _) es [] _=>if iU x then CA D g x (cE D n g) es else if rX x then Cu D g x (cE D n g) es else if g.cm then qk D g x es (cE D n g) else none
  | .Call (.Name x _) es (k::ks) _=>wb D g x (cE D n g) es (k::ks)
  | .ListComp elt gens sc _=>(sT gens).bind λc=>if c.is_async==0&&eP c.iter then (g.block sc).bind λh=>(cQ D n g c.iter).bind λq=>(if uo q c.target then k6 h n c.target else none).bind λt=>(cE D n h elt).bind λe=>(zD (cE D n h) c.ifs).map λc=> .comp 0#(qU sc) (iT g.N sc) t q c e else none
  |_=>none
noncomputable def cQ (D:Dt):Nat->Gm->Expr->5#Q
 |0,_,_=>none
 |n+1,g,e=>match e with
  | .Call (.Name x _) es [] _=>if kq x then EV D g x (cE D n g) es else if qr x then ER D g x (cE D n g) es else (cE D n g e).map .val
  |_=>(cE D n g e).map .val
end
noncomputable def za:Expr->Bool
 | .Tuple _ _ _=>false
 |_=>true
def qH (D:Dt) (g:Gm) (x:Str) (es:2#Expr) (f:Expr->5#E):5#S:=match g.gv D x with
 |some (.err c)=>if es.all notStar&& !es.isEmpty&&decide (0#es<=100)&&g.cm then (cL f es).map λes=> .raise c es else none
 |_=>none
def vv (D:Dt) (g:Gm) (cn:Str):5#Nat:=if D.is.contains cn then (match g.gv D cn with
 |some (.err c)=>1#c
 |_=>none) else none
def Ay (g:Gm):5#Str->5#5#Nat
 |none=>1#none
 |some x=>(g.N.idxOf? x).bind λi=>if g.sc.names.lookup x==1#.local then 1#1#i else none
noncomputable def FK:Bool->E->E
 |true,e=> .fz e
 |false,e=>e
mutual
noncomputable def cS (D:Dt):Nat->Gm->Stmt->5#S
 |0,_,_=>none
 |n+1,g,s=>match s with
  | .Return none _=>1#.retN
  | .Return 1#e _=>(cE D n g e).map .ret
  | .Assign [.Name x _] e _=>(g.lx x).bind λi=>(cE D n g e).map λe=> .set 4#i e
  | .Assign [.Subscript o i _] e _=>if fb i&&eC e then (cE D n g o).bind λo=>(cE D n g i).bind λi=>(cE D n g e).map λe=> .fR o i e else none
  | .Assign [.Attribute o f _] e _=>if eC e&&D.fx.contains f then (cE D n g o).bind λo=>(cE D n g e).map λe=> .dE o f (FK (D.ff.contains f) e) else none
  | .Assign [.Tuple es k p] e _=>if za e then (k6 g n (.Tuple es k p)).bind λt=>(cE D n g e).map λe=> .set t e else none
  | .Raise 1#(.Call (.Name x _) es [] _) none _=>qH D g x es (cE D n g)
  | .Expr e _=>if eC e then (cE D n g e).map .expr else none
  | .If c a b _=>if cR c then (cE D n g c).bind λc=>(eO D n g a).bind λa=>(eO D n g b).map λb=> .ife c a b else none
  | .For tg it b [] _=>if eP it&&g.cm then (cQ D n g it).bind λq=>(if uo q tg then k6 g n tg else none).bind λt=>(eO D n g b).map λb=> .for t q b else none
  | .Try b [.ExceptHandler 1#(.Name cn _) x (h::hs) _] [] [] _=>if g.cm then (vv D g cn).bind λc=>(Ay g x).bind λi=>(eO D n g b).bind λb=>(eO D n {g with cm:=false} (h::hs)).map λh=> .try_ b c i h else none
  |_=>none
noncomputable def eO (D:Dt):Nat->Gm->2#Stmt->5#2#S
 |0,_,_=>none
 |n+1,g,ss=>match ss with
  |[]=>some []
  |s::r=>(cS D n g s).bind λs=>(eO D n g r).map λr=>s::r
end
noncomputable def ki (ps:2#Str) (sc:Scope):2#Str:=ps++(sc.names.filter λy=>(y.2== .local||y.2== .cell)&& !ps.contains y.1).map (·.1)
def uI (D:Dt) (ps:2#Str) (sc:Scope) (body:2#Stmt):5#Fn:=let N:=ki ps sc
 (eO D 400 ⟨N,sc,λ_=>true,true⟩ body).map λb=>⟨0#ps,0#N,b⟩
end PI
namespace PI
open PySem L2 L2.L3
noncomputable def cb:Val->5#Key
 | .int i=>1#(.inl i)
 | .str x=>1#(.inr x)
 |_=>none
noncomputable def aI:2#Val->5#2#Key
 |[]=>some []
 |v::r=>(cb v).bind λk=>(aI r).map λr=>k::r
def di:Val->5#2#Key
 | .tup _ xs=>aI xs
 |_=>none
noncomputable def ba:2#Val->5#2#2#Key
 |[]=>some []
 |v::r=>(di v).bind λk=>(ba r).map λr=>k::r
def fZ (H:Hp) (a:Addr) (ks:2#Val) (us:2#L2.V):Prop:=
 (∃kk,aI ks=1#kk/\0#kk=0#us/\Rd H a (.dK (kk.zip us)))∨(∃kk,ba ks=1#kk/\0#kk=0#us/\Rd H a (.dT (kk.zip us)))
def vW (H:Hp) (a:Addr) (ks:2#Val) (us:2#L2.V):Prop:=
 (∃kk,aI ks=1#kk/\0#kk=0#us/\H a=1#(.dK (kk.zip us)))∨(∃kk,ba ks=1#kk/\0#kk=0#us/\H a=1#(.dT (kk.zip us)))
theorem vW.at {H:Hp} {a:Addr} (h:vW H a ks us):fZ H a ks us:=h.imp (λz900=>by let⟨k,e,n,r⟩:=z900;exact⟨k,e,n, .inl r⟩) λz900=>by let⟨k,e,n,r⟩:=z900;exact⟨k,e,n, .inl r⟩
structure CT where
 K:PySem.W.Frag
 ca:Nat->Addr
 xc:Nat->Bool
def TupAt (G:Hp) (a:Addr) (f:Bool) (us:2#L2.V):Prop:=cond f (∃o:Obj,G a=1#(.aF o (.tup us))/\o.dict=none) (G a=1#(.tup us))
mutual
noncomputable def Rel (T:CT) (as:2#Addr) (G:Hp):Val->L2.V->Prop
 | .non,u=>u= .non
 | .bl b,u=>u= .bl b
 | .int i,u=>u= 6#i
 | .str x,u=>u= .str x
 | .tup f xs,u=>∃a us,u= 3#a/\TupAt G a f us/\ag T as G xs us
 | .lst xs,u=>∃a us,u= 3#a/\bU T.K G a us/\ag T as G xs us
 | .dct ks vs,u=>∃a us,u= 3#a/\fZ G a ks us/\ag T as G vs us
 | .obj c ns vs,u=>∃a us,u= 3#a/\0#ns=0#us/\ag T as G vs us/\
   if T.xc c=true then∃dx,G a=1#(.ext (dj a (T.ca c) dx))/\((dx=none/\ns=[])∨∃d,dx=1#d/\G d=1#(.xd (ns.zip us)))
   else∃dx,G a=1#(.ins (T.ca c) dx (ns.zip us))
 | .ref n,u=>∃a,as[n]?=1#a/\u= 3#a
noncomputable def ag (T:CT) (as:2#Addr) (G:Hp):2#Val->2#L2.V->Prop
 |[],us=>us=[]
 |v::r,us=>∃u t,us=u::t/\Rel T as G v u/\ag T as G r t
end
noncomputable def Gx:HO->Bool
 | .dK _=>true
 | .dT _=>true
 |_=>false
def Le (G H:Hp):Prop:=∀a o,G a=1#o->H a=1#o∨(Gx o=true/\∃ob,H a=1#(.aF ob o))
theorem Le.ex {G H:Hp} (l:Le G H) {a:Addr} {o:HO} (e:G a=1#o) (n:Gx o=false):H a=1#o:=(l a o e).elim id λz=>by rw[n] at z;cases z.1
theorem Le.refl (G:Hp):Le G G:=λ_ _ e=> .inl e
theorem Le.trans {A B C:Hp} (x:Le A B) (y:Le B C):Le A C:=λa o e=>by
 rcases x a o e with q|⟨q,ob,z⟩
 ·exact y a o q
 ·exact .inr ⟨q,ob,y.ex z rfl⟩
theorem Le.new {G:Hp} {a:Addr} {o:HO} (h:G a=none):Le G (upd G a o):=λb u e=>by
 rw[ao (bx e h)];exact .inl e
theorem Rd.le {G H:Hp} {a:Addr} {o:HO} (l:Le G H) (h:Rd G a o):Rd H a o:=h.elim (λe=>(l _ _ e).imp id λz=>z.2) λz900=>by let⟨u,e⟩:=z900;exact .inr ⟨u,l.ex e rfl⟩
theorem nI {G H:Hp} {a:Addr} {f:Bool} (l:Le G H) (h:TupAt G a f xs):TupAt H a f xs:=by
 cases f
 ·exact l.ex h rfl
 ·exact h.imp λo q=>⟨l.ex q.1 rfl,q.2⟩
theorem qV {K:8#4} {G:Hp} {a:Addr} {f:Bool} (h:TupAt G a f xs):cU K G a xs:=by
 cases f
 ·exact .inl (.inl h)
 ·let⟨o,e,_⟩:=h;exact .inl (.inr ⟨o,e⟩)
theorem bj {K:8#4} {G H:Hp} {a:Addr} {f:Bool} (l:Le G H) (h:TupAt G a f xs):cU K H a xs:=qV (nI l h)
theorem BK {K:8#4} {G H:Hp} {a:Addr} (l:Le G H) (h:cU K G a xs):cU K H a xs:=h.imp (Rd.le l) id
theorem cf {K:8#4} {G H:Hp} {a:Addr} (l:Le G H) (h:bU K G a xs):bU K H a xs:=h.imp (Rd.le l) id
theorem sA {G H:Hp} {a:Addr} (l:Le G H) (h:fZ G a ks us):fZ H a ks us:=
 h.imp (λz900=>by let⟨k,e,n,r⟩:=z900;exact⟨k,e,n,Rd.le l r⟩) λz900=>by let⟨k,e,n,r⟩:=z900;exact⟨k,e,n,Rd.le l r⟩
theorem kz {bs:2#Addr} (p:as<+:bs) {n:Nat} {a:Addr} (h:as[n]?=1#a):bs[n]?=1#a:=by
 let⟨t,rfl⟩:=p;rw[aaq (aad.mp h).1];exact h
set_option tactic.hygienic true in
mutual
theorem Rel.mono {T:CT} {as bs:2#Addr} {G H:Hp} (p:as<+:bs) (l:Le G H):∀{v:Val} {u:L2.V},Rel T as G v u->Rel T bs H v u
 | .non,_,h=>h
 | .bl _,_,h=>h
 | .int _,_,h=>h
 | .str _,_,h=>h
 | .tup _ _,_,⟨a,us,e,q,r⟩=>⟨a,us,e,nI l q,ag.mono p l r⟩
 | .lst _,_,⟨a,us,e,q,r⟩=>⟨a,us,e,cf l q,ag.mono p l r⟩
 | .dct _ _,_,⟨a,us,e,q,r⟩=>⟨a,us,e,sA l q,ag.mono p l r⟩
 | .obj c ns vs,_,⟨a,us,e,n,r,q⟩=>⟨a,us,e,n,ag.mono p l r,by
  split at q
  ·rename_i h;rw[if_pos h];let⟨dx,q1,q2⟩:=q;exact⟨dx,l.ex q1 rfl,q2.imp id λz=>z.elim λd w=>⟨d,w.1,l.ex w.2 rfl⟩⟩
  ·rename_i h;rw[if_neg h]
   exact q.imp λdx q=>l.ex q rfl⟩
 | .ref _,_,⟨a,e,q⟩=>⟨a,kz p e,q⟩
theorem ag.mono {T:CT} {as bs:2#Addr} {G H:Hp} (p:as<+:bs) (l:Le G H):∀{vs:2#Val} {us:2#L2.V},ag T as G vs us->ag T bs H vs us
 |[],_,h=>h
 |_::_,_,⟨u,t,e,h,r⟩=>⟨u,t,e,Rel.mono p l h,ag.mono p l r⟩
end
def eR (T:CT) (as:2#Addr) (G H:Hp) (a:Addr):Ob->Prop
 | .lst xs=>∃us,H a=1#7#us/\ag T as G xs us
 | .dct ks vs=>∃us,vW H a ks us/\ag T as G vs us
 | .ins c ns vs=>∃dx us,T.xc c=false/\H a=1#(.ins (T.ca c) dx (ns.zip us))/\0#ns=0#us/\ag T as G vs us
structure Sim (T:CT) (st:aa) (as:2#Addr) (G H:Hp):Prop where
 len:0#as=0#st
 nd:as.Nodup
 sub:Le G H
 off:∀a∈as,G a=none
 ob:∀(n:Nat) o a,st[n]?=1#o->as[n]?=1#a->eR T as G H a o
abbrev XS:=St->XK
def ub (T:CT) (as:2#Addr) (G:Hp) (x:Exn) (cls:Value) (dx:5#Addr):Prop:=
 cls= 3#(T.ca x.c)/\T.xc x.c=true/\((dx=none/\x.ns=[]/\x.vs=[])∨∃d us,dx=1#d/\G d=1#(.xd (x.ns.zip us))/\0#x.ns=0#us/\ag T as G x.vs us)
def aG (T:CT) (as:2#Addr) (G:Hp) (env:Env) (σ:St):Prop:=0#env=0#σ/\∀(i:Nat) v,env[i]?=1#1#v->∃u,σ[i]?=1#1#u/\Rel T as G v u
theorem aG.mono {T:CT} {bs:2#Addr} {G H:Hp} {env:Env} {σ:St} (p:as<+:bs) (l:Le G H) (h:aG T as G env σ):aG T bs H env σ:=
 ⟨h.1,λi v e=>(h.2 i v e).imp λu q=>⟨q.1,q.2.mono p l⟩⟩
def ae {α:Type} (T:CT) (as:2#Addr) (G:Hp) (r:R α) (Q:8#23) (X:XK):Prop:=match r with
 | .ok a st=>∀as' G' H',as<+:as'->Le G G'->Sim T st as' G' H'->Q a st as' G' H'
 | .exc x st=>∀as' G' H' cls dx,as<+:as'->Le G G'->Sim T st as' G' H'->ub T as' G' x cls dx->X cls dx H'
 | .stuck=>False
theorem ae.mono {α:Type} {T:CT} {bs:2#Addr} {G G2:Hp} {r:R α} {Q:8#23} {X:XK} (p:as<+:bs) (l:Le G G2) (h:ae T as G r Q X):ae T bs G2 r Q X:=by
 cases r with
 |ok a st=>exact λas' G' H' p' l' s=>h as' G' H' (p.trans p') (l.trans l') s
 |exc x st=>exact λas' G' H' cls dx p' l' s e=>h as' G' H' cls dx (p.trans p') (l.trans l') s e
 |stuck=>exact h
theorem ae.bind {α β:Type} {T:CT} {as:2#Addr} {G:Hp} {r:R α} {f:α->aa->R β} {Q:β->aa->2#Addr->Hp->Hp->Prop} {X:XK} (h:ae T as G (r.bind f) Q X):
  ae T as G r (λa st as' G' _=>ae T as' G' (f a st) Q X) X:=by
 cases r with
 |ok a st=>exact λas' G' H' p l s=>ae.mono p l h
 |exc x st=>exact h
 |stuck=>exact h
theorem ae.imp {α:Type} {T:CT} {as:2#Addr} {G:Hp} {r:R α} {Q Q':8#23} {X:XK} (h:ae T as G r Q X)
  (k:∀a st as' G' H',as<+:as'->Le G G'->Sim T st as' G' H'->Q a st as' G' H'->Q' a st as' G' H'):ae T as G r Q' X:=by
 cases r with
 |ok a st=>exact λas' G' H' p l s=>k a st as' G' H' p l s (h as' G' H' p l s)
 |exc x st=>exact h
 |stuck=>exact h
theorem ae.ok {α:Type} {T:CT} {G H:Hp} {a:α} {st:aa} {Q:8#23} {X:XK} (h:ae T as G (.ok a st) Q X) (s:9#3):Q a st as G H:=
 h as G H (aah _) 8#26 s
def dC (T:CT) (as:2#Addr) (G H:Hp):Val->L2.V->Prop
 | .tup f xs,u=>∃a us,u= 3#a/\TupAt G a f us/\ag T as G xs us
 | .lst xs,u=>∃a us,u= 3#a/\bU T.K H a us/\ag T as G xs us
 | .dct ks vs,u=>∃a us,u= 3#a/\fZ H a ks us/\ag T as G vs us
 | .obj c ns vs,u=>∃a us,u= 3#a/\0#ns=0#us/\ag T as G vs us/\
   if T.xc c=true then∃dx,H a=1#(.ext (dj a (T.ca c) dx))/\((dx=none/\ns=[])∨∃d,dx=1#d/\H d=1#(.xd (ns.zip us)))
   else∃dx,H a=1#(.ins (T.ca c) dx (ns.zip us))
 | .non,u=>u= .non
 | .bl b,u=>u= .bl b
 | .int i,u=>u= 6#i
 | .str x,u=>u= .str x
 | .ref _,_=>False
set_option tactic.hygienic true in
theorem Rel.top {T:CT} {G H:Hp} (l:Le G H):∀{v:Val} {u:L2.V},isRef v=none->Rel T as G v u->dC T as G H v u
 | .non,_,_,h=>h
 | .bl _,_,_,h=>h
 | .int _,_,_,h=>h
 | .str _,_,_,h=>h
 | .tup _ _,_,_,h=>h
 | .lst _,_,_,⟨a,us,e,q,r⟩=>⟨a,us,e,cf l q,r⟩
 | .dct _ _,_,_,⟨a,us,e,q,r⟩=>⟨a,us,e,sA l q,r⟩
 | .obj c ns vs,_,_,⟨a,us,e,n,r,q⟩=>⟨a,us,e,n,r,by
  split at q
  ·rename_i h;rw[if_pos h];let⟨dx,q1,q2⟩:=q;exact⟨dx,l.ex q1 rfl,q2.imp id λz=>z.elim λd w=>⟨d,w.1,l.ex w.2 rfl⟩⟩
  ·rename_i h;rw[if_neg h]
   exact q.imp λdx q=>l.ex q rfl⟩
 | .ref _,_,h,_=>by cases h
theorem aY {T:CT} {st:aa} {G H:Hp} (s:9#3) {v:Val} {u:L2.V} (h:Rel T as G v u):dC T as G H (res st v) u:=by
 cases v with
 |ref k=>
  let⟨a,e,rfl⟩:=h;have hk:k<0#as:=(aad.mp e).1;rw[s.len] at hk;have ho:st[k]?=1#st[k]:=aac hk;have ob:=s.ob k _ a ho e;show dC T as G H (lQ k st[k]?) _;rw[ho]
  cases q:st[k] with
  |lst xs=>
   rw[q] at ob;let⟨us,h1,h2⟩:=ob;exact⟨a,us,rfl, .inl (.inl h1),h2⟩
  |dct ks vs=>
   rw[q] at ob;let⟨us,h1,h2⟩:=ob;exact⟨a,us,rfl,h1.at,h2⟩
  |ins c ns vs=>
   rw[q] at ob;let⟨dx,us,x0,h1,h2,h3⟩:=ob;exact⟨a,us,rfl,h2,h3,by rw[if_neg (by rw[x0];decide)];exact⟨dx,h1⟩⟩
 |non=>exact h
 |bl b=>exact h
 |int i=>exact h
 |str x=>exact h
 |tup xs=>exact Rel.top s.sub rfl h
 |lst xs=>exact Rel.top s.sub rfl h
 |dct ks vs=>exact Rel.top s.sub rfl h
 |obj c ns vs=>exact Rel.top s.sub rfl h
theorem qy {α:Type} {l:2#α} (h:l.Nodup) {i j:Nat} {x:α} (a:l[i]?=1#x) (b:l[j]?=1#x):i=j:=by
 let⟨l1,e1⟩:=aad.mp a;let⟨l2,e2⟩:=aad.mp b;have q:=List.pairwise_iff_getElem.mp h
 rcases Nat.lt_trichotomy i j with z|z|z
 ·exact absurd (e1.trans e2.symm) (q i j l1 l2 z)
 ·exact z
 ·exact absurd (e2.trans e1.symm) (q j i l2 l1 z)
theorem eR.live {T:CT} {G H:Hp} {a:Addr} {o:Ob} (h:eR T as G H a o):H a≠none:=by
 intro z
 cases o with
 |lst xs=>
  let⟨us,e,_⟩:=h;rw[z] at e;cases e
 |dct ks vs=>
  let⟨us,e,_⟩:=h
  rcases e with⟨_,_,_,e⟩|⟨_,_,_,e⟩<;>(rw[z] at e;cases e)
 |ins c ns vs=>
  let⟨dx,us,_,e,_⟩:=h;rw[z] at e;cases e
theorem eR.at {T:CT} {G H H':Hp} {a:Addr} {o:Ob} (e:H' a=H a) (h:eR T as G H a o):eR T as G H' a o:=by
 cases o with
 |lst xs=>
  let⟨us,q,r⟩:=h;exact⟨us,e.trans q,r⟩
 |dct ks vs=>
  let⟨us,q,r⟩:=h;refine⟨us, ?_,r⟩;unfold vW at q⊢;rw[e];exact q
 |ins c ns vs=>
  let⟨dx,us,x,q,r⟩:=h;exact⟨dx,us,x,e.trans q,r⟩
theorem eR.mono {T:CT} {bs:2#Addr} {G G' H:Hp} {a:Addr} {o:Ob} (p:as<+:bs) (l:Le G G') (h:eR T as G H a o):eR T bs G' H a o:=by
 cases o with
 |lst xs=>
  let⟨us,q,r⟩:=h;exact⟨us,q,r.mono p l⟩
 |dct ks vs=>
  let⟨us,q,r⟩:=h;exact⟨us,q,r.mono p l⟩
 |ins c ns vs=>
  let⟨dx,us,x,q,n,r⟩:=h;exact⟨dx,us,x,q,n,r.mono p l⟩
theorem Sim.live {T:CT} {st:aa} {G H:Hp} (s:9#3) {a:Addr} (h:a∈as):H a≠none:=by
 let⟨n,hn⟩:=abp.mp h;have hk:n<0#as:=(aad.mp hn).1;rw[s.len] at hk;exact(s.ob n _ a (aac hk) hn).live
theorem Sim.fresh {T:CT} {st:aa} {G H:Hp} (s:9#3) {p:Addr} (hp:H p=none):p∉as/\G p=none:=by
 refine⟨λh=>s.live h hp, ?_⟩
 cases e:G p with
 |none=>rfl
 |some o=>
  rcases s.sub p o e with z|⟨_,ob,z⟩<;>(rw[z] at hp;cases hp)
theorem Le.up {G H:Hp} {p:Addr} {o:HO} (l:Le G H) (hp:G p=none):Le G (upd H p o):=λb u e=>by
 rw[ao (bx e hp)];exact l b u e
theorem Sim.kA {T:CT} {st:aa} {G H:Hp} (s:9#3) {p:Addr} {u:HO} (hp:H p=none):Sim T st as (upd G p u) (upd H p u):=by
 let⟨n1,n2⟩:=s.fresh hp;refine⟨s.len,s.nd,λb o e=> ?_,λa ha=> ?_,λn o a h1 h2=> ?_⟩
 ·by_cases hb:b=p
  ·subst hb;rw[ak] at e⊢;exact .inl e
  ·rw[ao hb] at e⊢;exact s.sub b o e
 ·rw[ao (show a≠p from λz=>n1 (by rw[←z];exact ha))];exact s.off a ha
 ·refine((s.ob n o a h1 h2).at (ao λz=>n1 ?_)).mono (aah _) (Le.new n2);rw[←z];exact aar h2
theorem Sim.push {T:CT} {st:aa} {G H:Hp} (s:9#3) {p:Addr} {u:HO} {o:Ob} (hp:H p=none) (hu:eR T (as++[p]) G (upd H p u) p o):Sim T (st++[o]) (as++[p]) G (upd H p u):=by
 let⟨n1,n2⟩:=s.fresh hp;refine⟨by simp[s.len], ?_,s.sub.up n2,λa ha=> ?_,λn o' a h1 h2=> ?_⟩
 ·rw[abF];refine⟨s.nd,by simp,λa ha b hb=> ?_⟩;rw[aaM.mp hb];exact λz=>n1 (z▸ha)
 ·rcases aaC.mp ha with h|h
  ·exact s.off a h
  ·rw[aaM.mp h];exact n2
 ·by_cases hn:n<0#st
  ·rw[aaq hn] at h1;rw[aaq (by rw[s.len];exact hn)] at h2;refine((s.ob n o' a h1 h2).at (ao λz=>n1 ?_)).mono (aau _ _) 8#26;rw[←z];exact aar h2
  ·have z:n=0#st:=by
    have:=(aad.mp h1).1;simp at this;lia
   subst z;rw[aam (aai _)] at h1;rw[←s.len,aam (aai _)] at h2;simp at h1 h2;subst h1 h2;exact hu
theorem Sim.set {T:CT} {st:aa} {G H:Hp} (s:9#3) {n:Nat} {a:Addr} {u:HO} {o:Ob} (ha:as[n]?=1#a) (hu:eR T as G (upd H a u) a o):Sim T (st.set n o) as G (upd H a u):=by
 have ma:a∈as:=aar ha;refine⟨by simp[s.len],s.nd,s.sub.up (s.off a ma),s.off,λm o' b h1 h2=> ?_⟩
 by_cases hm:m=n
 ·subst hm;rw[ha] at h2;cases h2
  have hl:m<0#st:=by rw[←s.len];exact(aad.mp ha).1
  rw[aa6 hl] at h1;cases h1;exact hu
 ·rw[aaY (λz=>hm z.symm)] at h1;refine(s.ob m o' b h1 h2).at (ao λz=>hm ?_);subst z;let⟨l1,e1⟩:=aad.mp h2;let⟨l2,e2⟩:=aad.mp ha;exact qy s.nd h2 ha
theorem Sim.Hh {T:CT} {st:aa} {G H:Hp} {a:Addr} {u:HO} (s:9#3) (q:Rd G a u) (hd:Gx u=true) (ho:H a=1#u∨H a=1#(.aF o u)):
  Sim T st as (upd G a (.aF o u)) (upd H a (.aF o u))/\Le G (upd G a (.aF o u)):=by
 have l:Le G (upd G a (.aF o u)):=λb v e=>by
  by_cases hb:b=a
  ·subst hb;rw[ak]
   rcases q with q|⟨o',q⟩
   ·rw[e] at q;cases q;exact .inr ⟨hd,o,rfl⟩
   ·rw[e] at q;cases q;have z:=s.sub.ex e rfl
    rcases ho with ho|ho
    ·rw[ho] at z;rw[Option.some.inj z] at hd;cases hd
    ·rw[ho] at z;exact .inl (by rw[z])
  ·rw[ao hb];exact .inl e
 have na:∀{b},b∈as->b≠a:=λhb z=>by
  subst z;have:=s.off _ hb
  rcases q with q|⟨o',q⟩<;>(rw[q] at this;cases this)
 refine⟨⟨s.len,s.nd,λb v e=> ?_,λb hb=> ?_,λn ob b h1 h2=> ?_⟩,l⟩
 ·by_cases hb:b=a
  ·subst hb;rw[ak] at e⊢;exact .inl e
  ·rw[ao hb] at e⊢;exact s.sub b v e
 ·rw[ao (na hb)];exact s.off b hb
 ·exact((s.ob n ob b h1 h2).at (ao (na (aar h2)))).mono (aah _) l
theorem Sim.IJ {T:CT} {st:aa} {G H:Hp} {c:Addr} (s:9#3) (e:H c=1#(.tup us)):Sim T st as (upd G c (.tup us)) H/\Le G (upd G c (.tup us)):=by
 have nc:∀{b},b∈as->b≠c:=λhb z=>by
  subst z;let⟨n,hn⟩:=abp.mp hb;have hk:n<0#as:=(aad.mp hn).1;rw[s.len] at hk;have ob:=s.ob n _ _ (aac hk) hn
  cases q:st[n] with
  |lst xs=>
   rw[q] at ob;let⟨_,z,_⟩:=ob;rw[e] at z;cases z
  |dct ks vs=>
   rw[q] at ob;let⟨_,z,_⟩:=ob
   rcases z with⟨_,_,_,z⟩|⟨_,_,_,z⟩<;>(rw[e] at z;cases z)
  |ins c ns vs=>
   rw[q] at ob;let⟨_,_,_,z,_⟩:=ob;rw[e] at z;cases z
 have l:Le G (upd G c (.tup us)):=λb v h=>by
  by_cases hb:b=c
  ·subst hb;rw[ak]
   rcases s.sub _ _ h with z|⟨_,_,z⟩
   ·rw[e] at z;exact .inl z
   ·rw[e] at z;cases z
  ·rw[ao hb];exact .inl h
 refine⟨⟨s.len,s.nd,λb v h=> ?_,λb hb=> ?_,λn ob b h1 h2=>(s.ob n ob b h1 h2).mono (aah _) l⟩,l⟩
 ·by_cases hb:b=c
  ·subst hb;rw[ak] at h;exact .inl (e.trans h)
  ·rw[ao hb] at h;exact s.sub b v h
 ·rw[ao (nc hb)];exact s.off b hb
theorem nU {α β:Type} {x:5#α} {y:5#2#α} {c:2#α} (h:(x.bind λa=>y.map λb=>a::b)=1#c):∃a b,x=1#a/\y=1#b/\c=a::b:=by
 let⟨a,e1,e2⟩:=aak.mp h;let⟨b,e3,e4⟩:=aab.mp e2;exact⟨a,b,e1,e3,e4.symm⟩
theorem jR:∀{ks:2#Val} {kk:2#Key},aI ks=1#kk->0#kk=0#ks
 |[],kk,h=>by cases h;rfl
 |v::ks,kk,h=>by
  let⟨a,b,_,e2,rfl⟩:=nU (β:=Nat) (show ((cb v).bind λk=>(aI ks).map λr=>k::r)=1#kk from h);simp[jR e2]
theorem kc:∀{ks:2#Val} {kk:2#2#Key},ba ks=1#kk->0#kk=0#ks
 |[],kk,h=>by cases h;rfl
 |v::ks,kk,h=>by
  let⟨a,b,_,e2,rfl⟩:=nU (β:=Nat) (show ((di v).bind λk=>(ba ks).map λr=>k::r)=1#kk from h);simp[kc e2]
theorem pS:∀{ks:2#Val} {kk:2#Key} {i:Nat} {v:Val},aI ks=1#kk->ks[i]?=1#v->∃k,kk[i]?=1#k/\cb v=1#k
 |[],kk,i,v,_,e=>by simp at e
 |w::ks,kk,i,v,h,e=>by
  let⟨a,b,e1,e2,rfl⟩:=nU (β:=Nat) (show ((cb w).bind λk=>(aI ks).map λr=>k::r)=1#kk from h)
  cases i with
  |zero=>
   simp at e;subst e;exact⟨a,rfl,e1⟩
  |succ i=>
   let⟨k,h1,h2⟩:=pS (i:=i) e2 (by simpa using e);exact⟨k,by simpa using h1,h2⟩
theorem o9:∀{ks:2#Val} {kk:2#2#Key} {i:Nat} {v:Val},ba ks=1#kk->ks[i]?=1#v->∃k,kk[i]?=1#k/\di v=1#k
 |[],kk,i,v,_,e=>by simp at e
 |w::ks,kk,i,v,h,e=>by
  let⟨a,b,e1,e2,rfl⟩:=nU (β:=Nat) (show ((di w).bind λk=>(ba ks).map λr=>k::r)=1#kk from h)
  cases i with
  |zero=>
   simp at e;subst e;exact⟨a,rfl,e1⟩
  |succ i=>
   let⟨k,h1,h2⟩:=o9 (i:=i) e2 (by simpa using e);exact⟨k,by simpa using h1,h2⟩
theorem r8 {T:CT} {G:Hp} {v:Val} {k:Key} (h:cb v=1#k):Rel T as G v (kV k):=by
 cases v<;>first
  |(cases h;exact rfl)
  |cases h
theorem Gs {v:Val} {k:Key} (h:cb v=1#k):jo v=v:=by
 cases v<;>first
  |rfl
  |cases h
theorem nz {T:CT} {G:Hp}:∀{xs:2#Val} {kk:2#Key},aI xs=1#kk->ag T as G xs (kk.map kV)
 |[],kk,h=>by cases h;exact rfl
 |v::xs,kk,h=>by
  let⟨a,b,e1,e2,rfl⟩:=nU (β:=Nat) (show ((cb v).bind λk=>(aI xs).map λr=>k::r)=1#kk from h);exact⟨kV a,b.map kV,rfl,r8 e1,nz e2⟩
theorem Ds {v:Val} {k:2#Key} (h:di v=1#k):∃f xs,v= .tup f xs/\aI xs=1#k:=by
 cases v<;>first
  |exact⟨_,_,rfl,h⟩
  |cases h
theorem GL {n:Nat} {v:Val} {k:Key} (h:cb v=1#k):v.bd n=true:=by
 cases v<;>first|rfl|(simp[cb] at h)
theorem kR {n:Nat}:∀{vs:2#Val} {kk:2#Key},aI vs=1#kk->dq n vs=true
 |[],_,_=>rfl
 |v::r,kk,h=>by
  unfold aI at h;unfold dq
  cases e:cb v with
  |none=>rw[e] at h;cases h
  |some k=>
   cases e2:aI r with
   |none=>rw[e,e2] at h;cases h
   |some kr=>rw[GL e,kR e2];rfl
theorem DW {n:Nat} {v:Val} {k:2#Key} (h:di v=1#k):v.bd n=true:=by
 cases v with
 |tup fl xs=>unfold Val.bd;exact kR h
 |_=>cases h
theorem l9 {n:Nat}:∀{vs:2#Val} {kk:2#2#Key},ba vs=1#kk->dq n vs=true
 |[],_,_=>rfl
 |v::r,kk,h=>by
  unfold ba at h;unfold dq
  cases e:di v with
  |none=>rw[e] at h;cases h
  |some k=>
   cases e2:ba r with
   |none=>rw[e,e2] at h;cases h
   |some kr=>rw[DW e,l9 e2];rfl
mutual
theorem Rel.bd {T:CT} {as:2#Addr} {G:Hp}:∀{v:Val} {u:L2.V},Rel T as G v u->v.bd 0#as=true
 | .non,_,_=>rfl
 | .bl _,_,_=>rfl
 | .int _,_,_=>rfl
 | .str _,_,_=>rfl
 | .tup _ _,_,⟨_,_,_,_,r⟩=>by unfold Val.bd;exact ag.bd r
 | .lst _,_,⟨_,_,_,_,r⟩=>by unfold Val.bd;exact ag.bd r
 | .dct ks _,_,⟨_,us,_,q,r⟩=>by
  unfold Val.bd;rw[ag.bd r,acs]
  rcases q with⟨kk,e,_,_⟩|⟨kk,e,_,_⟩
  ·exact kR e
  ·exact l9 e
 | .obj _ _ _,_,⟨_,_,_,_,r,_⟩=>by unfold Val.bd;exact ag.bd r
 | .ref _,_,⟨_,e,_⟩=>by unfold Val.bd;exact abe (aad.mp e).1
theorem ag.bd {T:CT} {as:2#Addr} {G:Hp}:∀{vs:2#Val} {us:2#L2.V},ag T as G vs us->dq 0#as vs=true
 |[],_,_=>rfl
 |_::_,_,⟨_,_,_,h,r⟩=>by unfold dq;rw[Rel.bd h,ag.bd r];rfl
end
mutual
theorem Rel.cut {T:CT} {as:2#Addr} {G:Hp} {n:Nat}:∀{v:Val} {u:L2.V},v.bd n=true->Rel T as G v u->Rel T (as.take n) G v u
 | .non,_,_,h=>h
 | .bl _,_,_,h=>h
 | .int _,_,_,h=>h
 | .str _,_,_,h=>h
 | .tup _ _,_,b,⟨a,us,e,q,r⟩=>⟨a,us,e,q,ag.cut (by unfold Val.bd at b;exact b) r⟩
 | .lst _,_,b,⟨a,us,e,q,r⟩=>⟨a,us,e,q,ag.cut (by unfold Val.bd at b;exact b) r⟩
 | .dct _ _,_,b,⟨a,us,e,q,r⟩=>⟨a,us,e,q,ag.cut (by unfold Val.bd at b;exact(aag _ _▸b).2) r⟩
 | .obj _ _ _,_,b,⟨a,us,e,n,r,q⟩=>⟨a,us,e,n,ag.cut (by unfold Val.bd at b;exact b) r,q⟩
 | .ref k,_,b,⟨a,e,q⟩=>⟨a,by
  unfold Val.bd at b;rw[aa3 (aco b)]
  exact e,q⟩
theorem ag.cut {T:CT} {as:2#Addr} {G:Hp} {n:Nat}:∀{vs:2#Val} {us:2#L2.V},dq n vs=true->ag T as G vs us->ag T (as.take n) G vs us
 |[],_,_,h=>h
 |_::_,_,b,⟨u,t,e,h,r⟩=>⟨u,t,e,Rel.cut (by unfold dq at b;exact(aag _ _▸b).1) h,ag.cut (by unfold dq at b;exact(aag _ _▸b).2) r⟩
end
open Classical in
noncomputable def dN (G H:Hp) (as:2#Addr) (n x:Nat):Hp:=λb=>if b∈as.drop n/\as[x]?≠1#b then H b else G b
section
variable {T:CT} {st:aa} {as:2#Addr} {G H:Hp} {n x:Nat}
theorem tR {a:Addr} {k:Nat} (hk:n<=k) (hx:k≠x) (nd:as.Nodup) (e:as[k]?=1#a):dN G H as n x a=H a:=by
 unfold dN;rw[if_pos];refine⟨?_,λz=>hx (qy nd e z)⟩;rw[abp];exact⟨k-n,by rw[List.getElem?_drop,show n+(k-n)=k by lia];exact e⟩
theorem bq (s:9#3):Le G (dN G H as n x):=λa o e=>by
 unfold dN;rw[if_neg]
 ·exact .inl e
 ·rintro ⟨h,_⟩
  rw[s.off a (List.mem_of_mem_drop h)] at e;cases e
theorem Bp (s:9#3):Le (dN G H as n x) H:=λa o e=>by
 unfold dN at e;split at e
 ·exact .inl e
 ·exact s.sub a o e
theorem take_drop {α:Type} {l:2#α} (nd:l.Nodup) {n:Nat} {a:α} (h1:a∈l.take n) (h2:a∈l.drop n):False:=by
 rw[←List.take_append_drop n l] at nd;exact(abF.mp nd).2.2 a h1 a h2 rfl
theorem AF (s:9#3):∀a∈as.take n,dN G H as n x a=none:=λa ha=>by
 unfold dN;rw[if_neg λz=>take_drop s.nd ha z.1];exact s.off a (List.mem_of_mem_take ha)
end
set_option tactic.hygienic true in
mutual
theorem ox {T:CT} {as bs:2#Addr} {G D:Hp} (l:Le G D) {f:Nat->5#Val} (hf:∀k v' u,f k=1#v'->Rel T as G 3#k u->Rel T bs D v' u):∀{v v':Val} {u:L2.V},v.sub f=1#v'->Rel T as G v u->Rel T bs D v' u
 | .non,_,_,e,h=>by cases e;exact h
 | .bl _,_,_,e,h=>by cases e;exact h
 | .int _,_,_,e,h=>by cases e;exact h
 | .str _,_,_,e,h=>by cases e;exact h
 | .tup _ _,_,_,e,⟨a,us,e1,q,r⟩=>by
  unfold Val.sub at e;let⟨ys,e2,rfl⟩:=aab.mp e;exact⟨a,us,e1,nI l q,bW l hf e2 r⟩
 | .lst _,_,_,e,⟨a,us,e1,q,r⟩=>by
  unfold Val.sub at e;let⟨ys,e2,rfl⟩:=aab.mp e;exact⟨a,us,e1,cf l q,bW l hf e2 r⟩
 | .dct _ _,_,_,e,⟨a,us,e1,q,r⟩=>by
  unfold Val.sub at e;let⟨ys,e2,rfl⟩:=aab.mp e;exact⟨a,us,e1,sA l q,bW l hf e2 r⟩
 | .obj c _ _,_,_,e,⟨a,us,e1,n,r,q⟩=>by
  unfold Val.sub at e;let⟨ys,e2,rfl⟩:=aab.mp e;refine⟨a,us,e1,n,bW l hf e2 r, ?_⟩;split at q
  ·rename_i h;rw[if_pos h];let⟨dx,q1,q2⟩:=q;exact⟨dx,l.ex q1 rfl,q2.imp id λz900=>by let⟨d,q3,q4⟩:=z900;exact⟨d,q3,l.ex q4 rfl⟩⟩
  ·rename_i h;rw[if_neg h];exact q.imp λdx q=>l.ex q rfl
 | .ref k,_,_,e,h=>by
  unfold Val.sub at e;exact hf k _ _ e h
theorem bW {T:CT} {as bs:2#Addr} {G D:Hp} (l:Le G D) {f:Nat->5#Val} (hf:∀k v' u,f k=1#v'->Rel T as G 3#k u->Rel T bs D v' u):∀{vs vs':2#Val} {us:2#L2.V},subs f vs=1#vs'->ag T as G vs us->ag T bs D vs' us
 |[],_,_,e,h=>by cases e;exact h
 |v::r,_,_,e,⟨u,t,e1,h,q⟩=>by
  unfold subs at e
  cases e2:v.sub f with
  |none=>rw[e2] at e;cases e
  |some v'=>
   cases e3:subs f r with
   |none=>rw[e2,e3] at e;cases e
   |some r'=>
    rw[e2,e3] at e;cases e;exact⟨u,t,e1,ox l hf e2 h,bW l hf e3 q⟩
end
theorem gr {T:CT} {st:aa} {as:2#Addr} {G H:Hp} {n x:Nat} (s:9#3):∀(d k:Nat) (v':Val) (u:L2.V),js st n x d k=1#v'->Rel T as G 3#k u->Rel T (as.take n) (dN G H as n x) v' u:=by
 intro d
 induction d with
 |zero=>
  intro k v' u e ⟨a,ea,eu⟩
  by_cases hk:k<n
  ·cases (show 1#_=1#v' from (if_pos hk).symm.trans e);exact⟨a,by rw[aa3 hk];exact ea,eu⟩
  ·cases (show none=1#v' from (if_neg hk).symm.trans e)
 |succ d ih=>
  intro k v' u e ⟨a,ea,eu⟩
  by_cases hk:k<n
  ·cases (show 1#_=1#v' from (if_pos hk).symm.trans e);exact⟨a,by rw[aa3 hk];exact ea,eu⟩
  ·replace e:=(if_neg hk).symm.trans e
   by_cases hx:k=x
   ·cases (show none=1#v' from (if_pos hx).symm.trans e)
   replace e:=(if_neg hx).symm.trans e
   have lk:k<0#st:=by rw[←s.len];exact(aad.mp ea).1
   have ho:st[k]?=1#st[k]:=aac lk;have ob:=s.ob k _ a ho ea;have ga:dN G H as n x a=H a:=tR 8#0 hx s.nd ea;rw[ho] at e;generalize st[k]=o at e ob;subst eu
   cases o with
   |lst xs=>
    let⟨us,q,r⟩:=ob;let⟨ys,e2,rfl⟩:=aab.mp e;exact⟨a,us,rfl, .inl (.inl (ga.trans q)),bW (bq s) ih e2 r⟩
   |dct ks vs=>
    let⟨us,q,r⟩:=ob;let⟨ys,e2,rfl⟩:=aab.mp e;refine⟨a,us,rfl, ?_,bW (bq s) ih e2 r⟩;have q2:=q.at;unfold fZ Rd at q2⊢;rw[ga];exact q2
   |ins c ns vs=>
    let⟨dx,us,x0,q,m,r⟩:=ob;let⟨ys,e2,rfl⟩:=aab.mp e;exact⟨a,us,rfl,m,bW (bq s) ih e2 r,by rw[if_neg (by rw[x0];decide)];exact⟨dx,ga.trans q⟩⟩
theorem Hw {T:CT} {as:2#Addr} {G D H:Hp} {n:Nat} {a:Addr} {o:Ob} (l:Le G D) (b:o.bd n=true) (h:eR T as G H a o):eR T (as.take n) D H a o:=by
 cases o with
 |lst xs=>
  let⟨us,q,r⟩:=h;exact⟨us,q,(ag.cut b r).mono (aah _) l⟩
 |dct ks vs=>
  let⟨us,q,r⟩:=h;exact⟨us,q,(ag.cut (by unfold Ob.bd at b;exact(aag _ _▸b).2) r).mono (aah _) l⟩
 |ins c ns vs=>
  let⟨dx,us,x0,q,m,r⟩:=h;exact⟨dx,us,x0,q,m,(ag.cut b r).mono (aah _) l⟩
theorem eR.bd {T:CT} {as:2#Addr} {G H:Hp} {a:Addr} {o:Ob} (h:eR T as G H a o):o.bd 0#as=true:=by
 cases o with
 |lst xs=>
  let⟨us,q,r⟩:=h;exact r.bd
 |dct ks vs=>
  let⟨us,q,r⟩:=h;show (dq _ ks&&dq _ vs)=true;rw[r.bd,acs]
  rcases q with⟨kk,e,_,_⟩|⟨kk,e,_,_⟩
  ·exact kR e
  ·exact l9 e
 |ins c ns vs=>
  let⟨dx,us,x0,q,m,r⟩:=h;exact r.bd
theorem Sim.cut {T:CT} {st st':aa} {as':2#Addr} {G G' H H':Hp} (s:9#3) (s':Sim T st' as' G' H') (p:as<+:as') (o:Old st st') (x:Nat):as'.take 0#st=as/\Sim T (st'.take 0#st) as (dN G' H' as' 0#st x) H':=by
 have e:as'.take 0#st=as:=by
  let⟨t,rfl⟩:=p;rw[←s.len,List.take_left'];rfl
 refine⟨e, ?_,s.nd,Bp s',λa ha=> ?_,λn ob a h1 h2=> ?_⟩
 ·rw[s.len,aa9,Nat.min_eq_left o.1]
 ·rw[←e] at ha;exact AF s' a ha
 ·have hn:n<0#st:=by
   have:=(aad.mp h1).1;rw[aa9] at this;lia
  rw[aa3 hn] at h1
  have b:ob.bd 0#st=true:=by
   rcases o.2 n ob hn h1 with z|z
   ·rw[←s.len];exact(s.ob n ob a z h2).bd
   ·exact z
  have:=Hw (n:=0#st) (bq (n:=0#st) (x:=x) s') b (s'.ob n ob a h1 (kz p h2));rw[e] at this;exact this
section
variable {T:CT} {P:Pg} {st st':aa} {as as':2#Addr} {G G' H H':Hp} {X:XK}
set_option tactic.hygienic true in
theorem nF {v:Val} {u:L2.V} {Q:VK} (s:9#3) (s':Sim T st' as' G' H') (p:as<+:as') (l:Le G G') (r:Rel T as' G' v u)
  (h:ae T as G (fin P st v st') (λv _ as2 G2 H2=>∀u,Rel T as2 G2 v u->Q u H2) X):Q u H':=by
 unfold fin at h;split at h
 ·rename_i o
  cases e:isRef v with
  |none=>
   rw[e] at h;unfold Ag at h
   cases e2:v.aF st' 0#st 0#st' with
   |none=>rw[e2] at h;exact h.elim
   |some v'=>
    rw[e2] at h;let⟨c1,c2⟩:=Sim.cut s s' p o 0#st';refine h as _ H' (aah _) (l.trans (bq s')) c2 u ?_;have:=ox (bq s') (gr s' 6) e2 r;rw[c1] at this;exact this
  |some k=>
   have ev:v= 3#k:=by
    cases v<;>first|(cases e;rfl)|cases e
   subst ev;rw[e] at h;replace h:ae T as G (if k<0#st then .ok 3#k (st'.take 0#st) else tf P 0#st k st' st'[k]?) (λv _ as2 G2 H2=>∀u,Rel T as2 G2 v u->Q u H2) X:=h;let⟨a,ea,eu⟩:=r;split at h
   ·rename_i hk;let⟨c1,c2⟩:=Sim.cut s s' p o 0#st';refine h as _ H' (aah _) (l.trans (bq s')) c2 u ⟨a, ?_,eu⟩;rw[←c1,aa3 hk];exact ea
   ·rename_i hk;let⟨c1,c2⟩:=Sim.cut s s' p o k
    have lk:k<0#st':=by rw[←s'.len];exact(aad.mp ea).1
    have ho:st'[k]?=1#st'[k]:=aac lk;have ob:=s'.ob k _ a ho ea;rw[ho] at h;generalize st'[k]=o' at h ob
    have ga:dN G' H' as' 0#st k a=none:=by
     unfold dN;rw[if_neg λz=>z.2 ea];exact s'.off a (aar ea)
    have na:a∉as:=λz=>by
     rw[←c1] at z;let⟨i,hi⟩:=abp.mp z;have li:=(aad.mp hi).1;rw[aa9] at li;rw[aa3 8#0] at hi;have:=qy s'.nd hi ea;lia
    have put:∀{o2:Ob},eR T (as++[a]) (dN G' H' as' 0#st k) H' a o2->Sim T (st'.take 0#st++[o2]) (as++[a]) (dN G' H' as' 0#st k) H':=λ{o2} q=>by
     refine⟨by simp[c2.len], ?_,c2.sub,λb hb=> ?_,λi ob2 b h1 h2=> ?_⟩
     ·rw[abF];refine⟨s.nd,by simp,λb hb c hc=> ?_⟩;rw[aaM.mp hc];exact λz=>na (z▸hb)
     ·rcases aaC.mp hb with z|z
      ·exact c2.off b z
      ·rw[aaM.mp z];exact ga
     ·by_cases hi:i<0#(st'.take 0#st)
      ·rw[aaq hi] at h1;rw[aaq (by rw[c2.len];exact hi)] at h2;exact(c2.ob i ob2 b h1 h2).mono (aau _ _) 8#26
      ·have z:i=0#(st'.take 0#st):=by
        have:=(aad.mp h1).1;rw[aaT] at this;simp at this hi⊢;lia
       rw[z,aam (aai _)] at h1;rw[z,←c2.len,aam (aai _)] at h2;simp at h1 h2;subst h1 h2;exact q
    have told:Rel T (as++[a]) (dN G' H' as' 0#st k) 3#0#st u:=⟨a,by
     rw[←s.len,aam (aai _)]
     simp,eu⟩
    cases o' with
    |lst xs=>
     replace h:ae T as G ((R.aj (aV st' 0#st k xs) st').bind λys st'=> .ok 3#0#st (st'.take 0#st++[7#ys])) (λv _ as2 G2 H2=>∀u,Rel T as2 G2 v u->Q u H2) X:=h
     cases e2:aV st' 0#st k xs with
     |none=>rw[e2] at h;exact h.elim
     |some ys=>
      rw[e2] at h;let⟨us,q,r⟩:=ob;have r2:=bW (bq s') (gr s' 6) e2 r;rw[c1] at r2;exact h (as++[a]) _ H' (aau _ _) (l.trans (bq s')) (put ⟨us,q,r2.mono (aau _ _) 8#26⟩) u told
    |dct ks vs=>
     replace h:ae T as G ((R.aj (aV st' 0#st k vs) st').bind λvs st'=> .ok 3#0#st (st'.take 0#st++[.dct ks vs])) (λv _ as2 G2 H2=>∀u,Rel T as2 G2 v u->Q u H2) X:=h
     cases e2:aV st' 0#st k vs with
     |none=>rw[e2] at h;exact h.elim
     |some ys=>
      rw[e2] at h;let⟨us,q,r⟩:=ob;have r2:=bW (bq s') (gr s' 6) e2 r;rw[c1] at r2;exact h (as++[a]) _ H' (aau _ _) (l.trans (bq s')) (put ⟨us,q,r2.mono (aau _ _) 8#26⟩) u told
    |ins c ns vs=>
     replace h:ae T as G (if rC P c=true then .ok 3#k st' else (R.aj (aV st' 0#st 0#st' vs) st').bind λvs st'=> .ok (.obj c ns vs) (st'.take 0#st)) (λv _ as2 G2 H2=>∀u,Rel T as2 G2 v u->Q u H2) X:=h;split at h
     ·exact h as' G' H' p l s' u ⟨a,ea,eu⟩
     ·cases e2:aV st' 0#st 0#st' vs with
      |none=>rw[e2] at h;exact h.elim
      |some ys=>
       rw[e2] at h;let⟨dx,us,x0,q,m,r⟩:=ob;let⟨d1,d2⟩:=Sim.cut s s' p o 0#st'
       have kx:k≠0#st':=by lia
       have r2:=bW (bq (n:=0#st) (x:=0#st') s') (gr s' 6) e2 r;rw[d1] at r2;refine h as _ H' (aah _) (l.trans (bq s')) d2 u ⟨a,us,eu,m,r2, ?_⟩;rw[if_neg (by rw[x0];decide)];exact⟨dx,(tR 8#0 kx s'.nd ea).trans q⟩
 ·exact h as' G' H' p l s' u r
set_option tactic.hygienic true in
theorem Di {x:Exn} {cls:Value} {dx:5#Addr} {Q:Val->aa->2#Addr->Hp->Hp->Prop} (s:9#3) (s':Sim T st' as' G' H') (p:as<+:as') (l:Le G G') (r:ub T as' G' x cls dx)
  (h:ae T as G (oG st x st') Q X):X cls dx H':=by
 unfold oG at h;split at h
 ·rename_i o
  cases e2:aV st' 0#st 0#st' x.vs with
  |none=>rw[e2] at h;exact h.elim
  |some ys=>
   rw[e2] at h;let⟨d1,d2⟩:=Sim.cut s s' p o 0#st';refine h as _ H' cls dx (aah _) (l.trans (bq s')) d2 ?_;let⟨r1,r0,r2⟩:=r;refine⟨r1,r0,r2.imp (λ⟨q1,q2,q3⟩=>⟨q1,q2, ?_⟩) λ⟨d,us,q1,q2,q3,q4⟩=>⟨d,us,q1,(bq s').ex q2 rfl,q3, ?_⟩⟩
   ·rw[q3] at e2;cases e2;rfl
   ·have r2:=bW (bq (n:=0#st) (x:=0#st') s') (gr s' 6) e2 q4;rw[d1] at r2;exact r2
 ·exact h as' G' H' cls dx p l s' r
set_option tactic.hygienic true in
theorem Iq {v:Val} {u:L2.V} {Q:Val->aa->2#Addr->Hp->Hp->Prop} (s:9#3) (s':Sim T st' as' G' H') (p:as<+:as') (l:Le G G') (r:Rel T as' G' v u) (h:ae T as G (t6 st v st') Q X):
  ∃v2 st2 as2 G2,Sim T st2 as2 G2 H'/\Rel T as2 G2 v2 u/\Q v2 st2 as2 G2 H':=by
 unfold t6 at h;split at h
 ·rename_i o
  cases e2:v.aF st' 0#st 0#st' with
  |none=>rw[e2] at h;exact h.elim
  |some v'=>
   rw[e2] at h;let⟨c1,c2⟩:=Sim.cut s s' p o 0#st';have r2:=ox (bq (n:=0#st) (x:=0#st') s') (gr s' 6) e2 r;rw[c1] at r2;exact⟨v',_,as,_,c2,r2,h as _ H' (aah _) (l.trans (bq s')) c2⟩
 ·exact⟨v,st',as',G',s',r,h as' G' H' p l s'⟩
end
end PI
namespace PI
open PySem L2 L2.L3 L2.L4
def tE (T:CT) (P:Pg) (cl:ar) (E:XS) (e:PI.E):TE:=λσ H Q=>∃env st as G,Sim T st as G H/\aG T as G env σ/\ae T as G (e.run P cl env st) 9#0 (E σ)
def tT (T:CT) (P:Pg) (cl:ar) (E:XS) (e:PI.E):TT:=λσ H Q=>∃env st as G,Sim T st as G H/\aG T as G env σ/\ae T as G (runC P cl 1#e env st) (λb _ _ _ H'=>Q b H') (E σ)
def fG (T:CT) (P:Pg) (cl:ar) (E:XS) (es:2#PI.E):TA:=λσ H Q=>∃env st as G,Sim T st as G H/\aG T as G env σ/\ae T as G (aO P cl es env st) (λvs _ as' G' H'=>∀us,ag T as' G' vs us->Q us H') (E σ)
theorem PE.mono {X:Cx} {e:Expr} {t t':TE} (h:PE X e t) (k:∀σ H Q,t' σ H Q->t σ H Q):PE X e t':=λpins s σ H Q I q=>h pins s σ H Q I (k σ H Q q)
theorem PT.mono {X:Cx} {e:Expr} {t t':TT} (h:PT X e t) (k:∀σ H Q,t' σ H Q->t σ H Q):PT X e t':=λpins s σ H Q I q=>h pins s σ H Q I (k σ H Q q)
theorem PA.mono {X:Cx} {t t':TA} (h:PA X es t) (k:∀σ H Q,t' σ H Q->t σ H Q):PA X es t':=λpos pins s σ H Q I q=>h pos pins s σ H Q I (k σ H Q q)
section
variable {T:CT} {P:Pg} {cl:ar} {E:XS} {X:Cx} {pos:Pos}
theorem aC {α:Type} {e:PI.E} {env:Env} {st:aa} {G H:Hp} {σ:St} {f:Val->aa->R α} {Q:8#23} {K:VK} (s:9#3) (er:aG T as G env σ)
  (h:ae T as G ((e.run P cl env st).bind f) Q (E σ))
  (k:∀v st1 as1 G1 H1 u,Sim T st1 as1 G1 H1->aG T as1 G1 env σ->Rel T as1 G1 v u->as<+:as1->Le G G1->ae T as1 G1 (f v st1) Q (E σ)->K u H1):tE T P cl E e σ H K:=
 ⟨env,st,as,G,s,er,h.bind.imp λv st1 as1 G1 H1 p l s1 q u r=>k v st1 as1 G1 H1 u s1 (er.mono p l) r p l q⟩
theorem dD {α:Type} {es:2#PI.E} {env:Env} {st:aa} {G H:Hp} {σ:St} {f:2#Val->aa->R α} {Q:8#23} {K:2#L2.V->Hp->Prop} (s:9#3) (er:aG T as G env σ)
  (h:ae T as G ((aO P cl es env st).bind f) Q (E σ))
  (k:∀vs st1 as1 G1 H1 us,Sim T st1 as1 G1 H1->aG T as1 G1 env σ->ag T as1 G1 vs us->as<+:as1->Le G G1->ae T as1 G1 (f vs st1) Q (E σ)->K us H1):fG T P cl E es σ H K:=
 ⟨env,st,as,G,s,er,h.bind.imp λv st1 as1 G1 H1 p l s1 q u r=>k v st1 as1 G1 H1 u s1 (er.mono p l) r p l q⟩
theorem D9 {α:Type} {e:PI.E} {env:Env} {st:aa} {G H:Hp} {σ:St} {f:Bool->aa->R α} {Q:8#23} {K:Bool->Hp->Prop} (s:9#3) (er:aG T as G env σ)
  (h:ae T as G ((runC P cl 1#e env st).bind f) Q (E σ))
  (k:∀b st1 as1 G1 H1,Sim T st1 as1 G1 H1->aG T as1 G1 env σ->as<+:as1->Le G G1->ae T as1 G1 (f b st1) Q (E σ)->K b H1):tT T P cl E e σ H K:=
 ⟨env,st,as,G,s,er,h.bind.imp λv st1 as1 G1 H1 p l s1 q=>k v st1 as1 G1 H1 s1 (er.mono p l) p l q⟩
theorem ae.aj {α β:Type} {G:Hp} {o:5#α} {st:aa} {f:α->aa->R β} {Q:β->aa->2#Addr->Hp->Hp->Prop} {X:XK} (h:ae T as G ((R.aj o st).bind f) Q X):∃a,o=1#a/\ae T as G (f a st) Q X:=by
 cases o with
 |none=>exact h.elim
 |some a=>exact⟨a,rfl,h⟩
theorem ae.dr {α:Type} {G:Hp} {o:5#α} {st:aa} {Q:8#23} {X:XK} (h:ae T as G (R.aj o st) Q X):∃a,o=1#a/\ae T as G (.ok a st) Q X:=by
 cases o with
 |none=>exact h.elim
 |some a=>exact⟨a,rfl,h⟩
set_option tactic.hygienic true in
theorem ae.iff {α:Type} {G:Hp} {c:Prop} {r:R α} {Q:8#23} {X:XK} (h:ae T as G (iff c r) Q X):c/\ae T as G r Q X:=by
 unfold PI.iff at h;split at h
 ·rename_i z;exact⟨z,h⟩
 ·exact h.elim
theorem ID {i:Int} {j:Nat}:PE X (.Constant 6#i j pos) (tE T P cl E (.const 6#i)):=PE.mono HD λσ H Q z903=>by let⟨env,st,as,G,s,er,h⟩:=z903;exact h.ok s _ rfl
theorem Ln {i:Bool} {j:Nat}:PE X (.Constant (.bool i) j pos) (tE T P cl E (.const (.bl i))):=PE.mono Jt λσ H Q z903=>by let⟨env,st,as,G,s,er,h⟩:=z903;exact h.ok s _ rfl
theorem Jv {i:Str} {j:Nat}:PE X (.Constant (.str i) j pos) (tE T P cl E (.const (.str i))):=PE.mono Fl λσ H Q z903=>by let⟨env,st,as,G,s,er,h⟩:=z903;exact h.ok s _ rfl
theorem Jc {j:Nat}:PE X (.Constant .none j pos) (tE T P cl E (.const .non)):=PE.mono HG λσ H Q z903=>by let⟨env,st,as,G,s,er,h⟩:=z903;exact h.ok s _ rfl
theorem Ic {i:Nat} {x:Str} (hN:X.N[i]?=1#x) (hv:uf X.env.scope x) (hd:(x==("__debug__":Str))=false) (hcd:(x==("__classdict__":Str))=false):PE X (.Name x pos) (tE T P cl E 4#i):=
 PE.mono (Hn hN hv hd hcd) λσ H Q z903=>by
  let⟨env,st,as,G,s,er,h⟩:=z903;let⟨v,e,h⟩:=ae.dr h
  have e':env[i]?=1#1#v:=by
   cases q:env[i]? with
   |none=>rw[q] at e;cases e
   |some o=>rw[q] at e;exact congrArg some e
  let⟨u,e1,r⟩:=er.2 i v e';exact⟨u,e1,h.ok s u r⟩
theorem IA {a b:Expr} {op:Operator} {r:R2} (ho:aH X (binaryOp op) r) (ha:8#16) (hb:PE X b (tE T P cl E ib))
  (k:∀{st as G H x y u w} {Q:VK} {Z:XK},Sim T st as G H->dC T as G H (res st x) u->dC T as G H (res st y) w->ae T as G (eY op (res st x) (res st y) st) 9#0 Z->r u w H Q):PE X (.BinOp a op b pos) (tE T P cl E (.bin op ia ib)):=
 PE.mono (Jx ho ha hb) λσ H Q z903=>by
  let⟨env,st,as,G,s,er,h⟩:=z903;dsimp only[PI.E.run] at h;refine aC s er h λx st1 as1 G1 H1 u s1 er1 r1 p1 l1 h=> ?_;refine aC s1 er1 h λy st2 as2 G2 H2 w s2 er2 r2 p2 l2 h=> ?_;exact k s2 (aY s2 (r1.mono p2 l2)) (aY s2 r2) h
theorem Jl {a b:Expr} {op:CmpOp} {r:R2} (ho:aH X (compareOp op) r) (hm:behindInMarks op b=false) (ha:8#16) (hb:PE X b (tE T P cl E ib))
  (k:∀{st as G H x y u w} {Q:VK} {Z:XK},Sim T st as G H->dC T as G H (res st x) u->dC T as G H (res st y) w->ae T as G (cW (bz op (res st x) (res st y) st)) 9#0 Z->r u w H Q):PE X (.Compare a [op] [b] pos) (tE T P cl E (.cmp op ia ib)):=
 PE.mono (C0 ho ha hb hm) λσ H Q z903=>by
  let⟨env,st,as,G,s,er,h⟩:=z903;dsimp only[PI.E.run] at h;refine aC s er h λx st1 as1 G1 H1 u s1 er1 r1 p1 l1 h=> ?_;refine aC s1 er1 h λy st2 as2 G2 H2 w s2 er2 r2 p2 l2 h=> ?_;exact k s2 (aY s2 (r1.mono p2 l2)) (aY s2 r2) h
end
end PI
namespace PI
open PySem L2 L2.L3 L2.L4 PySem.SeqAt
noncomputable def oP (f:Val->Val->5#Bool) (xs ys:2#Val) (j:Nat):Bool:=(f (xs.getD j .non) (ys.getD j .non)).getD false
theorem all_succ (n:Nat) (e:Nat->Bool):(List.range (n+1)).all e=(e 0&&(List.range n).all λj=>e (j+1)):=by
 rw[acq,aaJ,List.all_map];rfl
theorem cJ (f:Val->Val->5#Bool):∀(xs ys:2#Val) (b:Bool),cO f xs ys=1#b->
  b=((List.range (min 0#xs 0#ys)).all (oP f xs ys)&&0#xs==0#ys)/\∀(j:Nat) x y,xs[j]?=1#x->ys[j]?=1#y->f x y=1#(oP f xs ys j)
 |[],[],b,h=>by
  cases h;exact⟨rfl,λj x y e=>by simp at e⟩
 |[],y::ys,b,h=>by
  cases h;exact⟨by simp,λj x y e=>by simp at e⟩
 |x::xs,[],b,h=>by
  cases h;exact⟨by simp,λj x y e e'=>by simp at e'⟩
 |x::xs,y::ys,b,h=>by
  unfold cO at h
  cases e1:f x y with
  |none=>rw[e1] at h;cases h
  |some c=>
   cases e2:cO f xs ys with
   |none=>rw[e1,e2] at h;cases h
   |some c'=>
    rw[e1,e2] at h;cases h;let⟨i1,i2⟩:=cJ f xs ys c' e2;have z:∀j,oP f (x::xs) (y::ys) (j+1)=oP f xs ys j:=λj=>rfl
    have z0:oP f (x::xs) (y::ys) 0=c:=by
     show (f x y).getD false=c;rw[e1];rfl
    refine⟨?_,λj x' y' ex ey=> ?_⟩
    ·rw[show min 0#(x::xs) 0#(y::ys)=min 0#xs 0#ys+1 by simp[Nat.succ_min_succ],all_succ,z0,i1];simp only[z,aas,Bool.and_assoc];congr 2;rw[aaZ];simp
    ·cases j with
     |zero=>
      simp at ex ey;subst ex ey;rw[z0];exact e1
     |succ j=>
      rw[z];exact i2 j x' y' (by simpa using ex) (by simpa using ey)
theorem ag.get {T:CT} {G:Hp}:∀{vs:2#Val} {us:2#L2.V} {j:Nat} {v:Val},ag T as G vs us->vs[j]?=1#v->∃u,us[j]?=1#u/\Rel T as G v u
 |[],_,_,_,_,e=>by simp at e
 |_::_,_,0,_,⟨u,t,e1,h,r⟩,e=>by
  simp at e;subst e e1;exact⟨u,rfl,h⟩
 |_::_,_,j+1,_,⟨u,t,e1,h,r⟩,e=>by
  subst e1;simpa using ag.get r (by simpa using e)
theorem ag.length {T:CT} {G:Hp}:∀{vs:2#Val} {us:2#L2.V},ag T as G vs us->0#vs=0#us
 |[],_,h=>by
  cases h;rfl
 |_::_,_,⟨u,t,e1,h,r⟩=>by
  subst e1;rw[aas,aas,ag.length r]
section
variable {T:CT} {X:Cx} {pins:8#5} {σ:St} {as:2#Addr} {G H:Hp} {s:9#2}
end
inductive gL (f:2#Val->2#Val->5#Bool):Val->Val->Bool->Prop
 |non:gL f .non .non true
 |bl (a c:Bool):gL f (.bl a) (.bl c) (a==c)
 |int (a c:Int):gL f 6#a 6#c (a==c)
 |str (a c:Str):gL f (.str a) (.str c) (decide (a=c))
 |is (a:Int) (c:Str):gL f 6#a (.str c) false
 |si (a:Str) (c:Int):gL f (.str a) 6#c false
 |tup (p q:Bool) (xs ys:2#Val) (b:Bool) (h:f xs ys=1#b):gL f (.tup p xs) (.tup q ys) b
 |lst (xs ys:2#Val) (b:Bool) (h:f xs ys=1#b):gL f 7#xs 7#ys b
theorem gU {f:2#Val->2#Val->5#Bool} {v w:Val} {b:Bool} (e:FL f v w=1#b):gL f v w b:=by
 cases v with
 |non=>cases w<;>cases e;exact .non
 |bl a=>cases w<;>cases e;exact .bl _ _
 |int a=>
  cases w<;>cases e
  ·exact .int _ _
  ·exact .is _ _
 |str a=>
  cases w<;>cases e
  ·exact .si _ _
  ·exact .str _ _
 |tup p xs=>cases w with
  |tup q ys=>exact .tup _ _ _ _ _ e
  |_=>cases e
 |lst xs=>cases w with
  |lst ys=>exact .lst _ _ _ e
  |_=>cases e
 |_=>cases e
section
variable {T:CT} {X:Cx} {pins:8#5} {σ:St} {as:2#Addr} {G H:Hp} {s:9#2}
theorem pE (I:8#1) (hK:T.K=X.K) (l:Le G H) {f:2#Val->2#Val->5#Bool}
  (hf:∀xs ys us b,f xs ys=1#b->ag T as G xs us->ag T as G ys us->b=true) {v w:Val} {u:L2.V} {b:Bool} (c:gL f v w b) (r1:Rel T as G v u) (r2:Rel T as G w u):b=true:=by
 cases c with
 |non=>rfl
 |bl a c=>cases r1;cases r2;exact abL _
 |int a c=>cases r1;cases r2;exact abL _
 |str a c=>cases r1;cases r2;exact abe rfl
 |is a c=>cases r1;cases r2
 |si a c=>cases r1;cases r2
 |tup p q xs ys b e=>
  let⟨a,us,rfl,h1,h2⟩:=r1;let⟨a',us',e',h3,h4⟩:=r2;cases e';cases (I.iB (bj l h1) (bj l h3):us=us');exact hf _ _ _ _ e h2 h4
 |lst xs ys b e=>
  let⟨a,us,rfl,h1,h2⟩:=r1;let⟨a',us',e',h3,h4⟩:=r2;cases e';cases (I.jt (hK▸cf l h1) (hK▸cf l h3):us=us');exact hf _ _ _ _ e h2 h4
theorem fg {α:Type} {xs:2#α} {j:Nat} (h:j<0#xs):∃x,xs[j]?=1#x:=⟨_,aac h⟩
theorem rB (I:8#1) (hK:T.K=X.K) (l:Le G H):∀(d:Nat) {v w:Val} {u:L2.V} {b:Bool},eqv d v w=1#b->Rel T as G v u->Rel T as G w u->b=true
 |0,_,_,_,_,e,r1,r2=>pE I hK l (λ_ _ _ _ z=>(by cases z)) (gU e) r1 r2
 |d+1,_,_,_,_,e,r1,r2=>pE I hK l (λxs ys us b e r1 r2=>by
  let⟨i1,i2⟩:=cJ (eqv d) xs ys b e;have ln:0#xs=0#ys:=r1.length.trans r2.length.symm;rw[i1,ln,abL,acs,abY,aa4];intro j hj;have hj':=abn.mp hj;let⟨x,e1⟩:=fg (show j<0#xs from ln▸hj');let⟨y,e2⟩:=fg hj';let⟨u1,q1,s1⟩:=r1.get e1;let⟨u2,q2,s2⟩:=r2.get e2;rw[q1] at q2;cases q2
  exact rB I hK l d (i2 j _ _ e1 e2) s1 s2) (gU e) r1 r2
theorem yW {its:8#36} {j:Nat} {x:Value} (e:its[j]?=1#x) (h:j<its.toArray.size):its.toArray[j]=x:=by
 have z:=aac (show j<0#its from h);exact Option.some.inj (z.symm.trans e)
def F3 (T:CT) (as:2#Addr) (G:Hp) (s:9#2) (A:Around) (g:Val->Val->5#Bool):Prop:=∀(v w:Val) (u u':L2.V) (x y:Value) (c:Bool),g v w=1#c->Rel T as G v u->Rel T as G w u'->RelV u x->RelV u' y->EqAt A s x y c
theorem i8 {g:Val->Val->5#Bool} {A:Around} (ih:F3 T as G s A g) {b:Bool} {its its':8#36} (e:cO g xs ys=1#b) (r1:ag T as G xs us) (r2:ag T as G ys us') (v1:Vals us its) (v2:Vals us' its'):
  ∀j (h1:j<its.toArray.size) (h2:j<its'.toArray.size),EqAt A s its.toArray[j] its'.toArray[j] (oP g xs ys j):=λj h1 h2=>by
 let⟨x,e1⟩:=fg (show j<0#xs from (r1.length.trans 0#v1)▸h1);let⟨y,e2⟩:=fg (show j<0#ys from (r2.length.trans 0#v2)▸h2);let⟨u1,a1,s1⟩:=r1.get e1;let⟨u2,a2,s2⟩:=r2.get e2;let⟨x1,b1,t1⟩:=Vals.get v1 a1;let⟨x2,b2,t2⟩:=Vals.get v2 a2;rw[yW b1 h1,yW b2 h2];exact ih _ _ _ _ _ _ _ ((cJ g xs ys b e).2 j _ _ e1 e2) s1 s2 t1 t2
theorem tX (I:8#1) (hK:T.K=X.K) (l:Le G H) {g:Val->Val->5#Bool} {A:Around} (hA:A.units+1<cLine)
  (ih:F3 T as G s A.in1 g) {v w:Val} {u:L2.V} {x y:Value} {b:Bool} (c:gL (cO g) v w b) (r1:Rel T as G v u) (r2:Rel T as G w u') (q1:RelV u x) (q2:RelV u' y):RcAt A s x y b:=by
 cases c with
 |non=>cases r1;cases r2;cases q1;cases q2;exact RcAt.none_none
 |bl a c=>cases r1;cases r2;cases q1;cases q2;exact RcAt.bool_bool _ _
 |int a c=>cases r1;cases r2;let⟨t,rfl⟩:=q1;let⟨t',rfl⟩:=q2;exact RcAt.int_int _ _ _ _
 |str a c=>
  cases r1;cases r2;let⟨t,rfl⟩:=q1;let⟨t',rfl⟩:=q2;rw[show decide (a=c)=(a==c) by rw[aaZ];simp];exact RcAt.str_str _ _ _ _
 |is a c=>cases r1;cases r2;let⟨t,rfl⟩:=q1;let⟨t',rfl⟩:=q2;exact RcAt.int_str _ _ _ _
 |si a c=>cases r1;cases r2;let⟨t,rfl⟩:=q1;let⟨t',rfl⟩:=q2;exact RcAt.str_int _ _ _ _
 |tup p q xs ys b e=>
  let⟨a,us,rfl,h1,h2⟩:=r1;let⟨a',us',rfl,h3,h4⟩:=r2;cases q1;cases q2;let⟨its,v1,t1,_⟩:=aM (b:=false) I (bj l h1);let⟨its',v2,t2,_⟩:=aM (b:=false) I (bj l h3);have R:=RcAt.tuples (A:=A) t1 t2 8#0 (i8 ih e h2 h4 v1 v2);rw[(cJ g _ _ b e).1,h2.length.trans 0#v1,h4.length.trans 0#v2];exact R
 |lst xs ys b e=>
  let⟨a,us,rfl,h1,h2⟩:=r1;let⟨a',us',rfl,h3,h4⟩:=r2;cases q1;cases q2;let⟨its,v1,t1,_⟩:=aM (b:=true) I (hK▸cf l h1);let⟨its',v2,t2,_⟩:=aM (b:=true) I (hK▸cf l h3);rw[(cJ g _ _ b e).1,h2.length.trans 0#v1,h4.length.trans 0#v2]
  by_cases hs:0#its=0#its'
  ·have R:=RcAt.lists (A:=A) t1 t2 hs 8#0 (i8 ih e h2 h4 v1 v2);rw[hs,abL,acs,abY];rw[show its.toArray.size=0#its' from hs] at R;exact R
  ·rw[show (0#its==0#its')=false from beq_false_of_ne hs,acP];exact RcAt.lists_lengths (A:=A) t1 t2 (by simpa using hs) 8#0
theorem u4 {A:Around} {f:2#Val->2#Val->5#Bool} {v w:Val} {u:L2.V} {x y:Value} {b:Bool} (c:gL f v w b) (r1:Rel T as G v u) (r2:Rel T as G w u') (q1:RelV u x) (q2:RelV u' y):EqAt A s x y b∨(∃a a',u= 3#a/\u'= 3#a'):=by
 cases c with
 |non=>cases r1;cases r2;cases q1;cases q2;exact .inl (EqAt.same _)
 |bl a c=>cases r1;cases r2;exact .inl (jN q1 q2 rfl rfl)
 |int a c=>cases r1;cases r2;exact .inl (jN q1 q2 rfl rfl)
 |str a c=>
  rw[show decide (a=c)=FF (.str a) (.str c) by show _=(_==_);rw[aaZ];simp];cases r1;cases r2;exact .inl (jN q1 q2 rfl rfl)
 |is a c=>cases r1;cases r2;exact .inl (jN q1 q2 rfl rfl)
 |si a c=>cases r1;cases r2;exact .inl (jN q1 q2 rfl rfl)
 |tup p q xs ys b e=>let⟨a,us,h1,_⟩:=r1;let⟨a',us',h2,_⟩:=r2;exact .inr ⟨a,a',h1,h2⟩
 |lst xs ys b e=>let⟨a,us,h1,_⟩:=r1;let⟨a',us',h2,_⟩:=r2;exact .inr ⟨a,a',h1,h2⟩
set_option tactic.hygienic true in
theorem ku (I:8#1) (hK:T.K=X.K) (l:Le G H):∀(d:Nat) {v w:Val} {u u':L2.V} {x y:Value} {b:Bool} {A:Around},A.units+d<cLine->eqv d v w=1#b->Rel T as G v u->Rel T as G w u'->RelV u x->RelV u' y->EqAt A s x y b
 |0,v,w,u,u',x,y,b,A,hA,e,r1,r2,q1,q2=>by
  have c:=gU e;refine(u4 c r1 r2 q1 q2).elim id λz900=> ?_;let⟨a,a',h1,h2⟩:=z900
  cases c<;>first|(rename_i z;cases z;done)|(subst h1;cases r1)
 |d+1,v,w,u,u',x,y,b,A,hA,e,r1,r2,q1,q2=>by
  refine(u4 (gU e) r1 r2 q1 q2).elim id λz900=> ?_;let⟨a,a',h1,h2⟩:=z900;subst h1;subst h2
  by_cases ha:a=a'
  ·subst ha;rw[rB I hK l (d+1) e r1 r2];cases q1;cases q2;exact EqAt.same _
  ·have R:=tX I hK l (A:=A) 8#0 (λ_ _ _ _ _ _ _ e r1 r2 q1 q2=>ku I hK l d (by show A.units+1+d<cLine;lia) e r1 r2 q1 q2) (gU e) r1 r2 q1 q2;cases q1;cases q2;exact EqAt.of_refs ha R
theorem CH (I:8#1) (hK:T.K=X.K) (l:Le G H) {g:Val->Val->5#Bool} {A:Around} (hA:A.units+1<cLine)
  (ih:F3 T as G s A.in1 g) {v w:Val} {u:L2.V} {x y:Value} {b:Bool} (c:gL (cO g) v w b) (r1:Rel T as G v u) (r2:Rel T as G w u') (q1:RelV u x) (q2:RelV u' y):RcNeAt A s x y (!b):=by
 cases c with
 |non=>cases r1;cases r2;cases q1;cases q2;exact RcNeAt.none_none
 |bl a c=>cases r1;cases r2;cases q1;cases q2;exact RcNeAt.bool_bool _ _
 |int a c=>cases r1;cases r2;let⟨t,rfl⟩:=q1;let⟨t',rfl⟩:=q2;exact RcNeAt.int_int _ _ _ _
 |str a c=>
  cases r1;cases r2;let⟨t,rfl⟩:=q1;let⟨t',rfl⟩:=q2;rw[show decide (a=c)=(a==c) by rw[aaZ];simp];exact RcNeAt.str_str _ _ _ _
 |is a c=>cases r1;cases r2;let⟨t,rfl⟩:=q1;let⟨t',rfl⟩:=q2;exact RcNeAt.int_str _ _ _ _
 |si a c=>cases r1;cases r2;let⟨t,rfl⟩:=q1;let⟨t',rfl⟩:=q2;exact RcNeAt.str_int _ _ _ _
 |tup p q xs ys b e=>
  let⟨a,us,rfl,h1,h2⟩:=r1;let⟨a',us',rfl,h3,h4⟩:=r2;cases q1;cases q2;let⟨its,v1,t1,_⟩:=aM (b:=false) I (bj l h1);let⟨its',v2,t2,_⟩:=aM (b:=false) I (bj l h3);have R:=RcNeAt.tuples (A:=A) t1 t2 8#0 (i8 ih e h2 h4 v1 v2);rw[(cJ g _ _ b e).1,h2.length.trans 0#v1,h4.length.trans 0#v2];exact R
 |lst xs ys b e=>
  let⟨a,us,rfl,h1,h2⟩:=r1;let⟨a',us',rfl,h3,h4⟩:=r2;cases q1;cases q2;let⟨its,v1,t1,_⟩:=aM (b:=true) I (hK▸cf l h1);let⟨its',v2,t2,_⟩:=aM (b:=true) I (hK▸cf l h3);rw[(cJ g _ _ b e).1,h2.length.trans 0#v1,h4.length.trans 0#v2]
  by_cases hs:0#its=0#its'
  ·have R:=RcNeAt.lists (A:=A) t1 t2 hs 8#0 (i8 ih e h2 h4 v1 v2);rw[hs,abL,acs,abY];rw[show its.toArray.size=0#its' from hs] at R;exact R
  ·rw[show (0#its==0#its')=false from beq_false_of_ne hs,acP];exact RcNeAt.lists_lengths (A:=A) t1 t2 (by simpa using hs) 8#0
end
theorem dC.rel {T:CT} {G H:Hp} (l:Le G H):∀{v:Val} {u:L2.V},dC T as G H v u->Rel T as H v u
 | .non,_,h=>h
 | .bl _,_,h=>h
 | .int _,_,h=>h
 | .str _,_,h=>h
 | .tup _ _,_,⟨a,us,e,q,r⟩=>⟨a,us,e,nI l q,r.mono (aah _) l⟩
 | .lst _,_,⟨a,us,e,q,r⟩=>⟨a,us,e,q,r.mono (aah _) l⟩
 | .dct _ _,_,⟨a,us,e,q,r⟩=>⟨a,us,e,q,r.mono (aah _) l⟩
 | .obj _ _ _,_,⟨a,us,e,n,r,q⟩=>⟨a,us,e,n,r.mono (aah _) l,q⟩
 | .ref n,_,h=>h.elim
def BL (T:CT) (neg:Bool):R2:=λu w H Q=>∃as v v' b,Rel T as H v u/\Rel T as H v' w/\eqv 8 v v'=1#b/\Q (.bl (if neg=true then !b else b)) H
theorem we {T:CT} {X:Cx} (hK:T.K=X.K) (hu:X.A.units+8<cLine):aH X (compareOp .Eq) (BL T false):=by
 intro pins s σ H x y u v Q I rx ry h;let⟨as,v1,v2,b,r1,r2,e,q⟩:=h;exact tX I hK 8#26 (A:=X.A) 8#0 (λ_ _ _ _ _ _ _ e r1 r2 q1 q2=>ku I hK 8#26 7 (by show X.A.units+1+7<cLine;lia) e r1 r2 q1 q2) (gU (f:=cO (eqv 7)) e) r1 r2 rx ry _ _ _ _ ⟨.bl b,H,I,rfl,q⟩
theorem wx {T:CT} {X:Cx} (hK:T.K=X.K) (hu:X.A.units+8<cLine):aH X (compareOp .NotEq) (BL T true):=by
 intro pins s σ H x y u v Q I rx ry h;let⟨as,v1,v2,b,r1,r2,e,q⟩:=h;exact CH I hK 8#26 (A:=X.A) 8#0 (λ_ _ _ _ _ _ _ e r1 r2 q1 q2=>ku I hK 8#26 7 (by show X.A.units+1+7<cLine;lia) e r1 r2 q1 q2) (gU (f:=cO (eqv 7)) e) r1 r2 rx ry _ _ _ _ ⟨.bl (!b),H,I,rfl,q⟩
end PI
namespace PI
open PySem L2 L2.L3 L2.L4 PySem.SeqAt PyProof.Rows
abbrev PV (T:CT) (Q:VK):Val->aa->2#Addr->Hp->Hp->Prop:=λv _ as' G' H'=>∀u,Rel T as' G' v u->Q u H'
def cH (T:CT) (f:Val->Val->aa->R Val):R2:=λu w H Q=>∃st as G x y Z,Sim T st as G H/\dC T as G H x u/\dC T as G H y w/\ae T as G (f x y st) (PV T Q) Z
theorem aH.imp {X:Cx} {f:Value->Value->Sem Value} {r r':R2} (h:aH X f r) (k:∀x y H Q,r' x y H Q->r x y H Q):aH X f r':=λpins s σ H x y v u Q I rx ry q=>h pins s σ H x y v u Q I rx ry (k x y H Q q)
section
variable {T:CT} {X:Cx}
theorem j8 {f:Value->Value->Sem Value} {C:Int->Int->Prop} {g:Int->Int->L2.V} {h:Int->Int->aa->R Val} (ho:aH X f (rI C g))
  (k:∀{st as G H Z Q} {i j:Int},Sim T st as G H->ae T as G (h i j st) (PV T Q) Z->C i j/\Q (g i j) H):aH X f (cH T (bX h)):=
 aH.imp ho λu w H Q z904=>by
  let⟨st,as,G,x,y,Z,s,r1,r2,p⟩:=z904
  cases x with
  |int i=>cases y with
   |int j=>
    cases r1;cases r2;let⟨c,q⟩:=k s p;exact⟨i,j,rfl,rfl,c,q⟩
   |_=>exact p.elim
  |_=>exact p.elim
theorem HU {g:Int->Int->L2.V} {x y:L2.V} {H:Hp} {Q:VK} (h:rI (λ_ _=>True) g x y H Q):lp g x y H Q:=by
 let⟨i,j,a,b,_,c⟩:=h;exact⟨i,j,a,b,c⟩
theorem D7:aH X (binaryOp .Sub) (cH T (bX λi j st=> .ok 6#(i-j) st)):=j8 (aH.imp Fw λ_ _ _ _=>HU) λs p=>⟨trivial,p.ok s _ rfl⟩
theorem DD:aH X (binaryOp .Mod) (cH T (bX rA)):=j8 CS λs p=>by
 let⟨c,p⟩:=ae.iff p;exact⟨c,p.ok s _ rfl⟩
theorem kE {f:Value->Value->Sem Value} {g:Int->Int->Bool} (ho:aH X f (lp λi j=> .bl (g i j))):aH X f (cH T λx y st=>cW (bX (λi j st=> .ok (g i j) st) x y st)):=
 aH.imp ho λu w H Q z904=>by
  let⟨st,as,G,x,y,Z,s,r1,r2,p⟩:=z904
  cases x with
  |int i=>cases y with
   |int j=>
    cases r1;cases r2;exact⟨i,j,rfl,rfl,p.ok s _ rfl⟩
   |_=>exact p.elim
  |_=>exact p.elim
theorem EU:aH X (compareOp .Lt) (cH T λx y st=>cW (bz .Lt x y st)):=kE IC
theorem EF:aH X (compareOp .LtE) (cH T λx y st=>cW (bz .LtE x y st)):=kE Jb
theorem G8:aH X (compareOp .Gt) (cH T λx y st=>cW (bz .Gt x y st)):=kE Jh
theorem Hm:aH X (compareOp .GtE) (cH T λx y st=>cW (bz .GtE x y st)):=kE Ir
theorem qN {i:Int} (h:big i):Builtin.Int.intBits i<=1000:=by
 unfold Builtin.Int.intBits;split
 ·exact aaW _
 ·have:i.natAbs.log2<1000:=by
   rcases Nat.eq_zero_or_pos i.natAbs with h0|hp
   ·rw[h0];decide
   ·exact(Nat.log2_lt (abJ hp)).mpr h
  lia
theorem HI {i j:Int} (h:B3 i j):IntMulOk i j:=by
 rcases h with h|h|⟨h1,h2⟩
 ·exact IntMulOk.of_left (intBits_le_64 8#0 8#0)
 ·exact IntMulOk.of_right (intBits_le_64 8#0 8#0)
 ·have b1:=qN h1;have b2:=qN h2;unfold IntMulOk
  have:Builtin.Int.intTooBig (Builtin.Int.intBits i+Builtin.Int.intBits j)=false:=by
   unfold Builtin.Int.intTooBig;have z:bitsLine=2^27:=rfl;simp only[decide_eq_false_iff_not,z];lia
  rw[this,acP];decide
theorem DJ:aH X (binaryOp .Mult) (cH T (bX oj)):=j8 (Co (C:=IntMulOk) (g:=λi j=>i*j) λ_ _ _ _ _ _ _ hc q=>mul_int q hc) λs p=>by
 let⟨c,p⟩:=ae.iff p;exact⟨HI c,p.ok s _ rfl⟩
theorem Gy {i j:Int} (h:big j):Builtin.divisionGoesByPylong i j=false:=by
 unfold Builtin.divisionGoesByPylong
 have:(if (j==0)=true then 0 else j.natAbs.log2/30+1)<=300:=by
  split
  ·lia
  ·have:j.natAbs.log2<1000:=by
    rcases Nat.eq_zero_or_pos j.natAbs with h0|hp
    ·rw[h0];decide
    ·exact(Nat.log2_lt (abJ hp)).mpr h
   lia
 simp only[Bool.and_eq_false_iff,decide_eq_false_iff_not];left;lia
theorem D8:aH X (binaryOp .FloorDiv) (cH T (bX rM)):=j8 (Co (C:=λi j=>j≠0/\big j) (g:=λi j=>i.fdiv j) λ_ _ _ _ _ _ _ hc q=>floordiv_int hc.1 q (.inl (Gy hc.2))) λs p=>by
 let⟨c,p⟩:=ae.iff p;exact⟨c,p.ok s _ rfl⟩
theorem Ei:aH X (binaryOp .Pow) (cH T (bX vZ)):=j8 Gp λs p=>by
 let⟨c,p⟩:=ae.iff p;exact⟨⟨c.1,by lia,c.2.2⟩,p.ok s _ rfl⟩
def J4 (K:8#4):R2:=λx y H Q=>∃l b xs zs,x= 3#l/\y= 3#b/\bU K H l xs/\bU K H b zs/\0#xs+0#zs<=sizeLine/\∀p,H p=none->Q 3#p (upd H p 7#(xs++zs))
theorem Dk:aH X (binaryOp .Add) (J4 X.K):=by
 intro pins s σ H x y v u Q I rx ry h;let⟨l,b,xs,zs,rfl,rfl,hH,hB,hz,q⟩:=h;cases rx;cases ry;let⟨vs,r1,hl,_⟩:=aM (b:=true) I hH;let⟨ws,r2,hb,_⟩:=aM (b:=true) I hB;let⟨⟨cls,dd,data,sl⟩,ho,hc,n,hd⟩:=id hl;let⟨⟨cls2,dd2,data2,sl2⟩,ho2,hc2,n2,hd2⟩:=id hb;simp only at hc hd hc2 hd2;subst hc hd hc2 hd2
 have e:vs.toArray++ws.toArray=(vs++ws).toArray:=by simp
 refine concat_meets ⟨_,ho,rfl⟩ ⟨_,ho2,rfl⟩ noFill_list_add seq_list_add PySem.F.slot_list_add PySem.F.entry_list_add (PySem.F.args_list_add_2 _ _) (list_addW l b vs.toArray ws.toArray n n2 dd dd2 sl sl2 (by simpa[0#r1,0#r2] using hz)) ⟨ho,ho2, ?_⟩;rw[e];exact⟨3#_,_,I.Lz (t':=s.toks) (r1.append r2) (by rw[aaT];lia),rfl,q _ I.fresh⟩
theorem ag.append {G:Hp}:∀{xs ys:2#Val} {us ws:2#L2.V},ag T as G xs us->ag T as G ys ws->ag T as G (xs++ys) (us++ws)
 |[],_,_,_,h,r=>by
  cases h;exact r
 |_::_,_,_,_,⟨u,t,e,h,q⟩,r=>by
  subst e;exact⟨u,_,rfl,h,ag.append q r⟩
theorem nY {st:aa} {G H:Hp} {Q:VK} {Z:XK} (s:9#3) (r:ag T as G xs us) (p:ae T as G (.ok (.tup false xs) st) (PV T Q) Z) {a:Addr} (ha:H a=none):Q 3#a (upd H a (.tup us)):=by
 have l:Le G (upd G a (.tup us)):=Le.new (s.fresh ha).2;exact p as _ _ (aah _) l (s.kA ha) _ ⟨a,us,rfl,(show upd G a (.tup us) a=_ from ak),r.mono (aah _) l⟩
theorem Ar {st:aa} {G H:Hp} {Q:VK} {Z:XK} (s:9#3) (r:ag T as G xs us) (p:ae T as G (.ok (.tup true xs) st) (PV T Q) Z) {a:Addr} {o:Obj} (ha:H a=none) (ho:o.dict=none):Q 3#a (upd H a (.aF o (.tup us))):=by
 have l:Le G (upd G a (.aF o (.tup us))):=Le.new (s.fresh ha).2;exact p as _ _ (aah _) l (s.kA ha) _ ⟨a,us,rfl,⟨o,ak,ho⟩,r.mono (aah _) l⟩
theorem gp {st:aa} {G H:Hp} {Q:VK} {Z:XK} (s:9#3) (r:ag T as G xs us) (p:ae T as G (new 7#xs st) (PV T Q) Z) {a:Addr} (ha:H a=none):Q 3#a (upd H a 7#us):=by
 refine p (as++[a]) G _ (aau _ _) 8#26 (s.push ha ⟨us,ak,r.mono (aau _ _) 8#26⟩) _ ⟨a, ?_,rfl⟩;rw[←s.len,aam (aai _)];simp
theorem Ej (hK:T.K=X.K):aH X (binaryOp .Add) (cH T km):=by
 refine aH.imp (((FR (X:=X)).or vF).or ((DT (X:=X)).or Dk)) λu w H Q z904=> ?_;let⟨st,as,G,x,y,Z,s,r1,r2,p⟩:=z904
 cases x with
 |int i=>cases y with
  |int j=>
   cases r1;cases r2;exact .inl (.inl ⟨i,j,rfl,rfl,p.ok s _ rfl⟩)
  |_=>exact p.elim
 |str i=>cases y with
  |str j=>
   cases r1;cases r2;let⟨c,p⟩:=ae.iff p;have z:sizeLine=2^24:=rfl;exact .inl (.inr ⟨i,j,rfl,rfl,by lia,p.ok s _ rfl⟩)
  |_=>exact p.elim
 |tup fl xs=>cases y with
  |tup fl ys=>
   let⟨a,us,rfl,q1,s1⟩:=r1;let⟨b,ws,rfl,q2,s2⟩:=r2;let⟨c,p⟩:=ae.iff p;have z:sizeLine=2^24:=rfl;refine .inr (.inl ⟨a,b,us,ws,rfl,rfl,bj s.sub q1,bj s.sub q2,λz=>c.1 ?_,by rw[←0#s1,←0#s2];lia,λz=> ?_,λ_ l hl=>nY s (s1.append s2) p hl⟩)
   ·have:=0#s1;rw[z] at this;exact aaE this
   ·refine absurd ?_ c.2.1;have:=0#s2;rw[z] at this;exact aaE this
  |_=>exact p.elim
 |lst xs=>cases y with
  |lst ys=>
   let⟨a,us,rfl,q1,s1⟩:=r1;let⟨b,ws,rfl,q2,s2⟩:=r2;let⟨c,p⟩:=ae.iff p;have z:sizeLine=2^24:=rfl;exact .inr (.inr ⟨a,b,us,ws,rfl,rfl,hK▸q1,hK▸q2,by rw[←0#s1,←0#s2];lia,λl hl=>gp s (s1.append s2) p hl⟩)
  |_=>exact p.elim
 |_=>exact p.elim
theorem Gw (hK:T.K=X.K) (hu:X.A.units+8<cLine):aH X (compareOp .Eq) (cH T λx y st=>cW (bz .Eq x y st)):=
 aH.imp (we hK hu) λu w H Q z904=>by
  let⟨st,as,G,x,y,Z,s,r1,r2,p⟩:=z904;let⟨b,e,p⟩:=ae.aj (show ae T as G ((R.aj (eqv 8 x y) st).bind λb st=> .ok (.bl b) st) (PV T Q) Z from p);exact⟨as,x,y,b,r1.rel s.sub,r2.rel s.sub,e,p.ok s _ rfl⟩
theorem GY (hK:T.K=X.K) (hu:X.A.units+8<cLine):aH X (compareOp .NotEq) (cH T λx y st=>cW (bz .NotEq x y st)):=
 aH.imp (wx hK hu) λu w H Q z904=>by
  let⟨st,as,G,x,y,Z,s,r1,r2,p⟩:=z904;let⟨c,e,p⟩:=ae.aj (show ae T as G ((R.aj ((eqv 8 x y).map λb=> !b) st).bind λb st=> .ok (.bl b) st) (PV T Q) Z from p);let⟨b,e1,e2⟩:=aab.mp e;subst e2;exact⟨as,x,y,b,r1.rel s.sub,r2.rel s.sub,e1,p.ok s _ rfl⟩
theorem ue {G H:Hp} {v:Val} {u:L2.V} (h:dC T as G H v u):decide (u= .non)=gd v:=by
 cases v with
 |non=>cases h;rfl
 |bl b=>cases h;rfl
 |int b=>cases h;rfl
 |str b=>cases h;rfl
 |ref k=>exact h.elim
 |tup fl xs=>let⟨a,us,rfl,_⟩:=h;rfl
 |lst xs=>let⟨a,us,rfl,_⟩:=h;rfl
 |dct ks vs=>let⟨a,us,rfl,_⟩:=h;rfl
 |obj c ns vs=>let⟨a,us,rfl,_⟩:=h;rfl
theorem aH.or {f:Value->Value->Sem Value} {r r':L2.V->L2.V->Hp->VK->Prop} (h:aH X f r) (h':aH X f r'):aH X f (λx y H Q=>r x y H Q∨r' x y H Q):=λpins s σ H x y v u Q I rx ry q=>q.elim (h pins s σ H x y v u Q I rx ry) (h' pins s σ H x y v u Q I rx ry)
theorem bool_beq (a b:Bool):(Value.bool a==Value.bool b)=(a==b):=by cases a<;>cases b<;>decide
theorem E6:aH X (compareOp .Is) (λx y H Q=>∃a b,x= .bl a/\y= .bl b/\Q (.bl (a==b)) H):=by
 intro pins s σ H x y v u Q I rx ry ⟨a,b,e1,e2,q⟩;subst e1 e2;cases rx;cases ry;exact wpAny_is_plain rfl (L2.nE I q (bool_beq a b).symm)
theorem DV:aH X (compareOp .IsNot) (λx y H Q=>∃a b,x= .bl a/\y= .bl b/\Q (.bl (!(a==b))) H):=by
 intro pins s σ H x y v u Q I rx ry ⟨a,b,e1,e2,q⟩;subst e1 e2;cases rx;cases ry;exact wpAny_isNot_plain rfl (L2.nE I q (by rw[bool_beq]))
theorem EL:aH X (compareOp .Is) (cH T λx y st=>cW (bz .Is x y st)):=
 aH.imp (aH.or F4 E6) λu w H Q z904=>by
  let⟨st,as,G,x,y,Z,s,r1,r2,p⟩:=z904
  cases y with
  |non=>
   cases r2;refine .inl ⟨rfl, ?_⟩;rw[ue r1];exact p.ok s _ rfl
  |bl b=>cases x with
   |bl a=>
    cases r1;cases r2;exact .inr ⟨a,b,rfl,rfl,p.ok s _ rfl⟩
   |_=>exact p.elim
  |_=>exact p.elim
theorem xQ:aH X (compareOp .IsNot) (cH T λx y st=>cW (bz .IsNot x y st)):=
 aH.imp (aH.or Dh DV) λu w H Q z904=>by
  let⟨st,as,G,x,y,Z,s,r1,r2,p⟩:=z904
  cases y with
  |non=>
   cases r2;refine .inl ⟨rfl, ?_⟩;rw[ue r1];exact p.ok s _ rfl
  |bl b=>cases x with
   |bl a=>
    cases r1;cases r2;exact .inr ⟨a,b,rfl,rfl,p.ok s _ rfl⟩
   |_=>exact p.elim
  |_=>exact p.elim
end
end PI
namespace PI
open PySem L2 L2.L3 L2.L4 PySem.SeqAt
section
variable {T:CT} {X:Cx} {pins:8#5} {σ:St} {as:2#Addr} {G H:Hp} {s:9#2}
theorem AA {g:Val->Val->5#Bool} (ih:∀v v' w u b b',Rel T as G v u->Rel T as G v' u->g v w=1#b->g v' w=1#b'->b=b') (us:2#L2.V) (xs xs' ys:2#Val) (b b':Bool) (r:ag T as G xs us) (r':ag T as G xs' us) (e:cO g xs ys=1#b) (e':cO g xs' ys=1#b'):b=b':=by
 let⟨i1,i2⟩:=cJ g xs ys b e;let⟨j1,j2⟩:=cJ g xs' ys b' e';have ln:0#xs=0#xs':=r.length.trans r'.length.symm;rw[i1,j1,ln];refine congrArg (· &&_) (aaZ.mpr ?_);rw[aa4,aa4]
 have at_:∀j∈List.range (min 0#xs' 0#ys),oP g xs ys j=oP g xs' ys j:=λj hj=>by
  have hj':=abn.mp hj;let⟨x,e1⟩:=fg (show j<0#xs by lia);let⟨x',e2⟩:=fg (show j<0#xs' by lia);let⟨y,e3⟩:=fg (show j<0#ys by lia);let⟨u1,q1,s1⟩:=r.get e1;let⟨u2,q2,s2⟩:=r'.get e2;rw[q1] at q2;cases q2;exact ih _ _ _ _ _ _ s1 s2 (i2 j _ _ e1 e3) (j2 j _ _ e2 e3)
 exact⟨λh j hj=>(at_ j hj)▸h j hj,λh j hj=>(at_ j hj).symm▸h j hj⟩
theorem qQ (I:8#1) (hK:T.K=X.K) (l:Le G H) {f:2#Val->2#Val->5#Bool} (hf:∀us xs xs' ys b b',ag T as G xs us->ag T as G xs' us->f xs ys=1#b->f xs' ys=1#b'->b=b')
  {v w:Val} {u:L2.V} {b b':Bool} (r1:Rel T as G v u) (r2:Rel T as G v' u) (c:gL f v w b) (c':gL f v' w b'):b=b':=by
 cases c with
 |non=>cases c';rfl
 |bl a c=>cases c';cases r1;cases r2;rfl
 |int a c=>cases c'<;>cases r1<;>cases r2;rfl
 |str a c=>cases c'<;>cases r1<;>cases r2;rfl
 |is a c=>cases c'<;>cases r1<;>cases r2;rfl
 |si a c=>cases c'<;>cases r1<;>cases r2;rfl
 |tup p q xs ys b e=>
  cases c' with
  |tup p' _ xs' _ b' e'=>
   let⟨a,us,rfl,h1,h2⟩:=r1;let⟨a',us',z,h3,h4⟩:=r2;cases z;cases (I.iB (bj l h1) (bj l h3):us=us');exact hf _ _ _ _ _ _ h2 h4 e e'
 |lst xs ys b e=>
  cases c' with
  |lst xs' _ b' e'=>
   let⟨a,us,rfl,h1,h2⟩:=r1;let⟨a',us',z,h3,h4⟩:=r2;cases z;cases (I.jt (hK▸cf l h1) (hK▸cf l h3):us=us');exact hf _ _ _ _ _ _ h2 h4 e e'
theorem t5 (I:8#1) (hK:T.K=X.K) (l:Le G H):∀(d:Nat) {v v' w:Val} {u:L2.V} {b b':Bool},Rel T as G v u->Rel T as G v' u->eqv d v w=1#b->eqv d v' w=1#b'->b=b'
 |0,_,_,_,_,_,_,r1,r2,e,e'=>qQ I hK l (λ_ _ _ _ _ _ _ _ z=>(by cases z)) r1 r2 (gU e) (gU e')
 |d+1,_,_,_,_,_,_,r1,r2,e,e'=>qQ I hK l (f:=cO (eqv d)) (AA (g:=eqv d) λ_ _ _ _ _ _ r1 r2 e e'=>t5 I hK l d r1 r2 e e') r1 r2 (gU e) (gU e')
theorem uh {x:Val}:∀{ys:2#Val} {b:Bool},dU x ys=1#b->(∀y∈ys,∃c,eqv 8 y x=1#c)/\(b=true↔∃y∈ys,eqv 8 y x=1#true)
 |[],b,e=>by
  cases e;exact⟨λy h=>(by cases h),by simp⟩
 |y::ys,b,e=>by
  unfold dU at e
  cases e1:eqv 8 y x with
  |none=>rw[e1] at e;cases e
  |some c=>
   cases e2:dU x ys with
   |none=>rw[e1,e2] at e;cases e
   |some c'=>
    rw[e1,e2] at e;cases e;let⟨i1,i2⟩:=uh e2;refine⟨λy' hy=> ?_, ?_⟩
    ·rcases aap.mp hy with z|z
     ·rw[z];exact⟨c,e1⟩
     ·exact i1 y' z
    ·simp only[abx,aap,exists_eq_or_imp,e1,i2,Option.some.injEq]
noncomputable def Jp:Value->L2.V
 | .bool b=> .bl b
 | .int i _=> 6#i
 | .str i _=> .str i
 | .bytes i _=> .byt i
 | .float i _=> .flt i
 | .ref a=> 3#a
 | .type n=> .ty n
 |_=> .non
theorem RelV.back {u:L2.V} {x:Value} (h:RelV u x):Jp x=u:=by
 cases u with
 |non=>cases h;rfl
 |bl b=>cases h;rfl
 |int i=>let⟨t,rfl⟩:=h;rfl
 |str i=>let⟨t,rfl⟩:=h;rfl
 |byt i=>let⟨t,rfl⟩:=h;rfl
 |flt i=>let⟨t,rfl⟩:=h;rfl
 |ref a=>cases h;rfl
 |ty n=>cases h;rfl
theorem RelV.one {u:L2.V} {x:Value} (h:RelV u x) (h':RelV u' x):u=u':=(RelV.back h).symm.trans (RelV.back h')
open Classical in
noncomputable def isIn (T:CT) (as:2#Addr) (G:Hp) (ys:2#Val) (us:2#L2.V) (x:Val) (z:Value):Bool:=decide (∃(j:Nat) (v:Val) (u:L2.V),ys[j]?=1#v/\us[j]?=1#u/\RelV u z/\eqv 8 v x=1#true)
open Classical in
theorem jn (I:8#1) (hK:T.K=X.K) (l:Le G H) {A:Around} (hA:A.units+8<cLine) {x:Val} {u:L2.V} {xv:Value} {its:8#36} {b:Bool} (rx:Rel T as G x u) (qx:RelV u xv) (r:ag T as G ys us) (q:Vals us its) (e:dU x ys=1#b):
  (∀z,z∈its.toArray->EqAt A s z xv (isIn T as G ys us x z))/\its.toArray.any (isIn T as G ys us x)=b:=by
 let⟨m1,m2⟩:=uh e
 have at_:∀(j:Nat) z,its[j]?=1#z->∃v u',ys[j]?=1#v/\us[j]?=1#u'/\Rel T as G v u'/\RelV u' z:=λj z hz=>by
  have lj:j<0#ys:=by rw[0#r,0#q];exact(aad.mp hz).1
  have e1:ys[j]?=1#ys[j]:=aac lj;let⟨u',e2,h1⟩:=r.get e1;let⟨z',e3,h2⟩:=Vals.get q e2;rw[hz] at e3;cases e3;exact⟨_,u',e1,e2,h1,h2⟩
 have val:∀(j:Nat) z v u' c,ys[j]?=1#v->us[j]?=1#u'->RelV u' z->Rel T as G v u'->eqv 8 v x=1#c->isIn T as G ys us x z=c:=λj z v u' c e1 e2 h1 h2 ec=>by
  cases c with
  |true=>exact abe ⟨j,v,u',e1,e2,h1,ec⟩
  |false=>
   refine aaB λz900=> ?_;let⟨k,v',u2,a1,a2,a3,a4⟩:=z900;have z2:=RelV.one h1 a3;subst z2;let⟨u3,b1,b2⟩:=r.get a1;rw[a2] at b1;cases b1;cases t5 I hK l 8 h2 b2 ec a4
 refine⟨λz hz=> ?_, ?_⟩
 ·let⟨j,hj⟩:=abp.mp (show z∈its by simpa using hz);let⟨v,u',e1,e2,h1,h2⟩:=at_ j z hj;let⟨c,ec⟩:=m1 v (aar e1);rw[val j z v u' c e1 e2 h2 h1 ec];exact ku I hK l 8 hA ec h1 rx h2 qx
 ·rw[aaZ,m2,List.any_toArray,List.any_eq_true];constructor
  ·rintro ⟨z,hz,t⟩
   let⟨j,v,u',e1,e2,h1,h2⟩:=aco t;exact⟨v,aar e1,h2⟩
  ·rintro ⟨v,hv,ev⟩
   let⟨j,hj⟩:=abp.mp hv;let⟨u',e2,h1⟩:=r.get hj;let⟨z,e3,h2⟩:=Vals.get q e2;exact⟨z,aar e3,val j z v u' true hj e2 h2 h1 ev⟩
end
section
variable {T:CT} {X:Cx}
def EW (neg:Bool) (x:Val):Val->aa->R Bool
 | .tup _ ys,st=>R.aj ((dU x ys).map λb=>if neg=true then !b else b) st
 | .lst ys,st=>R.aj ((dU x ys).map λb=>if neg=true then !b else b) st
 |_,_=> .stuck
theorem yj (hK:T.K=X.K) (hu:X.A.units+9<cLine):aH X (compareOp .In) (cH T λx y st=>cW (EW false x y st)):=by
 intro pins s σ H u w uv wv Q I ru rw' ⟨st,as,G,x,y,Z,sm,r1,r2,p⟩
 have hA:X.A.in1.units+8<cLine:=by show X.A.units+1+8<cLine;lia
 cases y with
 |tup fl ys=>
  let⟨a,us,rfl,q1,s1⟩:=r2;cases rw';let⟨v,e,p⟩:=ae.aj (show ae T as G ((R.aj ((dU x ys).map λb=>b) st).bind λb st=> .ok (.bl b) st) (PV T Q) Z from p);let⟨b,e1,e2⟩:=aab.mp e;subst e2;let⟨its,v1,t1,_⟩:=aM (b:=false) I (bj sm.sub q1);let⟨c1,c2⟩:=jn (A:=X.A.in1) I hK 8#26 hA (r1.rel sm.sub) ru (s1.mono (aah _) sm.sub) v1 e1;refine in_tupleAt _ t1 c1 ?_;rw[c2];exact⟨.bl b,H,I,rfl,p.ok sm _ rfl⟩
 |lst ys=>
  let⟨a,us,rfl,q1,s1⟩:=r2;cases rw';let⟨v,e,p⟩:=ae.aj (show ae T as G ((R.aj ((dU x ys).map λb=>b) st).bind λb st=> .ok (.bl b) st) (PV T Q) Z from p);let⟨b,e1,e2⟩:=aab.mp e;subst e2;let⟨its,v1,t1,_⟩:=aM (b:=true) I (hK▸q1);let⟨c1,c2⟩:=jn (A:=X.A.in1) I hK 8#26 hA (r1.rel sm.sub) ru (s1.mono (aah _) sm.sub) v1 e1;refine in_listAt _ t1 c1 ?_;rw[c2];exact⟨.bl b,H,I,rfl,p.ok sm _ rfl⟩
 |_=>exact p.elim
theorem pN (hK:T.K=X.K) (hu:X.A.units+9<cLine):aH X (compareOp .NotIn) (cH T λx y st=>cW (EW true x y st)):=by
 intro pins s σ H u w uv wv Q I ru rw' ⟨st,as,G,x,y,Z,sm,r1,r2,p⟩
 have hA:X.A.in1.units+8<cLine:=by show X.A.units+1+8<cLine;lia
 cases y with
 |tup fl ys=>
  let⟨a,us,rfl,q1,s1⟩:=r2;cases rw';let⟨v,e,p⟩:=ae.aj (show ae T as G ((R.aj ((dU x ys).map λb=> !b) st).bind λb st=> .ok (.bl b) st) (PV T Q) Z from p);let⟨b,e1,e2⟩:=aab.mp e;subst e2;let⟨its,v1,t1,_⟩:=aM (b:=false) I (bj sm.sub q1);let⟨c1,c2⟩:=jn (A:=X.A.in1) I hK 8#26 hA (r1.rel sm.sub) ru (s1.mono (aah _) sm.sub) v1 e1;refine notIn_tupleAt _ t1 c1 ?_;rw[c2];exact⟨.bl !b,H,I,rfl,p.ok sm _ rfl⟩
 |lst ys=>
  let⟨a,us,rfl,q1,s1⟩:=r2;cases rw';let⟨v,e,p⟩:=ae.aj (show ae T as G ((R.aj ((dU x ys).map λb=> !b) st).bind λb st=> .ok (.bl b) st) (PV T Q) Z from p);let⟨b,e1,e2⟩:=aab.mp e;subst e2;let⟨its,v1,t1,_⟩:=aM (b:=true) I (hK▸q1);let⟨c1,c2⟩:=jn (A:=X.A.in1) I hK 8#26 hA (r1.rel sm.sub) ru (s1.mono (aah _) sm.sub) v1 e1;refine notIn_listAt _ t1 c1 ?_;rw[c2];exact⟨.bl !b,H,I,rfl,p.ok sm _ rfl⟩
 |_=>exact p.elim
end
section
variable {T:CT} {P:Pg} {cl:ar} {E:XS} {X:Cx} {pos:Pos}
theorem KG {a b:Expr} {op:Operator} (ho:aH X (binaryOp op) (cH T (eY op))) (ha:8#16) (hb:PE X b (tE T P cl E ib)):PE X (.BinOp a op b pos) (tE T P cl E (.bin op ia ib)):=
 IA ho ha hb λs r1 r2 p=>⟨_,_,_,_,_,_,s,r1,r2,p⟩
theorem Mq {a b:Expr} {op:CmpOp} (ho:aH X (compareOp op) (cH T λx y st=>cW (bz op x y st))) (hm:behindInMarks op b=false) (ha:8#16) (hb:PE X b (tE T P cl E ib)):PE X (.Compare a [op] [b] pos) (tE T P cl E (.cmp op ia ib)):=
 Jl ho hm ha hb λs r1 r2 p=>⟨_,_,_,_,_,_,s,r1,r2,p⟩
theorem JN {a:Expr} (ha:8#16):PE X (.UnaryOp .USub a pos) (tE T P cl E (.neg ia)):=
 PE.mono (JQ GO ha) λσ H Q z903=>by
  let⟨env,st,as,G,s,er,h⟩:=z903;dsimp only[PI.E.run] at h;refine aC s er h λx st1 as1 G1 H1 u s1 er1 r1 p1 l1 h=> ?_
  cases x with
  |int i=>
   cases r1;exact⟨i,rfl,h.ok s1 _ rfl⟩
  |_=>exact h.elim
theorem Iy {a b:Expr} {rest:2#Expr} (ha:8#16) (hb:PE X (.BoolOp .And (b::rest) pos) (tE T P cl E ib)):PE X (.BoolOp .And (a::b::rest) pos) (tE T P cl E (.and ia ib)):=
 PE.mono (GG ha hb) λσ H Q z903=>by
  let⟨env,st,as,G,s,er,h⟩:=z903;dsimp only[PI.E.run] at h;refine aC s er h λx st1 as1 G1 H1 u s1 er1 r1 p1 l1 h=> ?_
  cases x with
  |bl t=>
   cases r1;refine⟨t,rfl, ?_⟩
   cases t with
   |true=>exact lM ⟨env,st1,as1,G1,s1,er1,h⟩
   |false=>exact lR (h.ok s1 _ rfl)
  |_=>exact h.elim
theorem Ls {a b:Expr} {rest:2#Expr} (ha:8#16) (hb:PE X (.BoolOp .Or (b::rest) pos) (tE T P cl E ib)):PE X (.BoolOp .Or (a::b::rest) pos) (tE T P cl E (.or ia ib)):=
 PE.mono (Iw ha hb) λσ H Q z903=>by
  let⟨env,st,as,G,s,er,h⟩:=z903;dsimp only[PI.E.run] at h;refine aC s er h λx st1 as1 G1 H1 u s1 er1 r1 p1 l1 h=> ?_
  cases x with
  |bl t=>
   cases r1;refine⟨t,rfl, ?_⟩
   cases t with
   |true=>exact lM (h.ok s1 _ rfl)
   |false=>exact lR ⟨env,st1,as1,G1,s1,er1,h⟩
  |_=>exact h.elim
theorem IY {a:Expr} (ha:8#16):PE X (.UnaryOp .Not a pos) (tE T P cl E (.not ia)):=
 PE.mono (Hl ha) λσ H Q z903=>by
  let⟨env,st,as,G,s,er,h⟩:=z903;dsimp only[PI.E.run] at h;refine aC s er h λx st1 as1 G1 H1 u s1 er1 r1 p1 l1 h=> ?_
  cases x with
  |bl t=>
   cases r1;exact⟨t,rfl,h.ok s1 _ rfl⟩
  |_=>exact h.elim
set_option tactic.hygienic true in
theorem Ht {st:aa} {G H:Hp} {x:Val} {u:L2.V} {b:Bool} (hK:T.K=X.K) (s:9#3) (r:dC T as G H x u) (e:truth x=1#b):Ab X.K u H b:=by
 cases x with
 |non=>cases r;cases e;rfl
 |bl t=>cases r;cases e;rfl
 |int i=>cases r;cases e;rfl
 |str y=>
  cases r;replace e:(if 0#y<=1000 then 1#((0#y:Int) !=0) else none)=1#b:=e;split at e
  ·rename_i c;cases e;have z:sizeLine=2^24:=rfl;exact⟨by lia,rfl⟩
  ·cases e
 |tup fl xs=>
  let⟨a,us,rfl,q,r⟩:=r;cases e;refine .inr (.inl ⟨us,bj s.sub q, ?_⟩)
  cases xs with
  |nil=>cases r;rfl
  |cons x xs=>let⟨_,_,rfl,_⟩:=r;rfl
 |lst xs=>
  let⟨a,us,rfl,q,r⟩:=r;cases e;refine .inl ⟨us,hK▸q, ?_⟩
  cases xs with
  |nil=>cases r;rfl
  |cons x xs=>let⟨_,_,rfl,_⟩:=r;rfl
 |dct ks vs=>cases e
 |obj c ns vs=>cases e
 |ref k=>cases e
theorem IW {a:Expr} (hK:T.K=X.K) (ha:8#16) (he:∀whole,isTrue a X.env whole=(do let v←whole;standAt a.pos;holding [v] (truthy v))):PT X a (tT T P cl E ia):=
 PT.mono (Bb ha he) λσ H Q z903=>by
  let⟨env,st,as,G,s,er,h⟩:=z903;dsimp only[runC] at h;refine aC s er h λx st1 as1 G1 H1 u s1 er1 r1 p1 l1 h=> ?_;let⟨b,e,h⟩:=ae.dr h;exact⟨b,Ht hK s1 (aY s1 r1) e,h.ok s1⟩
theorem JO {a b:Expr} {op:CmpOp} (ho:aH X (compareOp op) (cH T λx y st=>cW (bz op x y st))) (hm:behindInMarks op b=false) (ha:8#16) (hb:PE X b (tE T P cl E ib)):PT X (.Compare a [op] [b] pos) (tT T P cl E (.cmp op ia ib)):=
 PT.mono (En ho ha hb hm) λσ H Q z903=>by
  let⟨env,st,as,G,s,er,h⟩:=z903;dsimp only[runC,PI.E.run] at h;have h2:=h.bind;refine aC s er h2 λx st1 as1 G1 H1 u s1 er1 r1 p1 l1 h=> ?_;refine aC s1 er1 h λy st2 as2 G2 H2 w s2 er2 r2 p2 l2 h=> ?_;refine⟨st2,as2,G2,_,_,E σ,s2,aY s2 (r1.mono p2 l2),aY s2 r2, ?_⟩;show ae T as2 G2 (cW (bz op (res st2 x) (res st2 y) st2)) _ _
  cases e:bz op (res st2 x) (res st2 y) st2 with
  |stuck=>rw[e] at h;exact h.elim
  |exc x st=>rw[e] at h;exact h
  |ok b st3=>
   rw[e] at h;exact λas' G' H' p l s u ru=>⟨b,ru,(h as' G' H' p l s).ok s⟩
theorem qD {e:PI.E} {env:Env} {st:aa} {G H:Hp} {σ:St} {f:Val->aa->R Bool} {Q K:Bool->Hp->Prop} (s:9#3) (er:aG T as G env σ)
  (h:ae T as G ((e.run P cl env st).bind f) (λb _ _ _ H'=>Q b H') (E σ))
  (k:∀t st1 as1 G1 H1,Sim T st1 as1 G1 H1->aG T as1 G1 env σ->ae T as1 G1 (f (.bl t) st1) (λb _ _ _ H'=>Q b H') (E σ)->K t H1) (hb:∀v st,(∀t,v≠ .bl t)->f v st= .stuck):tT T P cl E e σ H K:=by
 refine⟨env,st,as,G,s,er, ?_⟩;unfold runC
 cases e1:e.run P cl env st with
 |stuck=>rw[e1] at h;exact h.elim
 |exc x st=>rw[e1] at h;exact h
 |ok v st1=>
  rw[e1] at h;replace h:ae T as G (f v st1) (λb _ _ _ H'=>Q b H') (E σ):=h
  by_cases z:∃t,v= .bl t
  ·let⟨t,rfl⟩:=z;exact λas' G' H' p l s'=>k t st1 as' G' H' s' (er.mono p l) (h.mono p l)
  ·rw[hb v st1 λt q=>z ⟨t,q⟩] at h;exact h.elim
theorem ml {β:Type} {v:Val} {st:aa} {f:Bool->aa->R β} (h:∀t,v≠ .bl t):(fE v st).bind f= .stuck:=by
 cases v with
 |bl t=>exact absurd rfl (h t)
 |_=>rfl
theorem R.bind_assoc {α β γ:Type} (r:R α) (f:α->aa->R β) (g:β->aa->R γ):(r.bind f).bind g=r.bind λa st=>(f a st).bind g:=by
 cases r<;>rfl
theorem JJ {a:Expr} (ha:PT X a (tT T P cl E ia)):PT X (.UnaryOp .Not a pos) (tT T P cl E (.not ia)):=
 PT.mono (EK ha) λσ H Q z903=>by
  let⟨env,st,as,G,s,er,h⟩:=z903;dsimp only[runC,PI.E.run] at h;rw[R.bind_assoc] at h
  exact qD s er h (λt st1 as1 G1 H1 s1 er1 h=>h.ok s1) λv st n=>by rw[ml n];rfl
theorem Ih {a b:Expr} {rest:2#Expr} (ha:PT X a (tT T P cl E ia)) (hb:PW X (.BoolOp .And (b::rest) pos) (tT T P cl E ib)):PW X (.BoolOp .And (a::b::rest) pos) (tT T P cl E (.and ia ib)):=λwh pins s0 σ H Q I z907=>by
 let⟨env,st,as,G,s,er,h⟩:=z907;refine Gk ha hb wh pins s0 σ H Q I ?_;dsimp only[runC,PI.E.run] at h;rw[R.bind_assoc] at h
 refine qD s er h (λt st1 as1 G1 H1 s1 er1 h=> ?_) λv st n=>by rw[ml n];rfl
 cases t with
 |true=>exact lM ⟨env,st1,as1,G1,s1,er1,h⟩
 |false=>exact lR (h.ok s1)
theorem MI {a b:Expr} {rest:2#Expr} (ha:PT X a (tT T P cl E ia)) (hb:PW X (.BoolOp .Or (b::rest) pos) (tT T P cl E ib)):PW X (.BoolOp .Or (a::b::rest) pos) (tT T P cl E (.or ia ib)):=λwh pins s0 σ H Q I z907=>by
 let⟨env,st,as,G,s,er,h⟩:=z907;refine JX ha hb wh pins s0 σ H Q I ?_;dsimp only[runC,PI.E.run] at h;rw[R.bind_assoc] at h
 refine qD s er h (λt st1 as1 G1 H1 s1 er1 h=> ?_) λv st n=>by rw[ml n];rfl
 cases t with
 |true=>exact lM (h.ok s1)
 |false=>exact lR ⟨env,st1,as1,G1,s1,er1,h⟩
theorem JA {c a b:Expr} (hc:PT X c (tT T P cl E ic)) (ha:8#16) (hb:PE X b (tE T P cl E ib)):PE X (.IfExp c a b pos) (tE T P cl E (.ite ic ia ib)):=
 PE.mono (BC hc ha hb) λσ H Q z903=>by
  let⟨env,st,as,G,s,er,h⟩:=z903;dsimp only[PI.E.run] at h
  have z:((ic.run P cl env st).bind λx st=>(R.aj (truth (res st x)) st).bind λt st=>eS t (ia.run P cl env st) (ib.run P cl env st))=(runC P cl 1#ic env st).bind λt st=>eS t (ia.run P cl env st) (ib.run P cl env st):=by
   unfold runC;rw[R.bind_assoc]
  rw[z] at h;refine D9 s er h λt st1 as1 G1 H1 s1 er1 p1 l1 h=> ?_
  cases t with
  |true=>exact lM ⟨env,st1,as1,G1,s1,er1,h⟩
  |false=>exact lR ⟨env,st1,as1,G1,s1,er1,h⟩
theorem wc:PA X [] (fG T P cl E []):=PA.mono gC λσ H Q z903=>by let⟨env,st,as,G,s,er,h⟩:=z903;exact h.ok s _ rfl
theorem mF {e:Expr} {ies:2#PI.E} (ha:8#31) (hr:PA X es (fG T P cl E ies)) (hs:8#11):PA X (e::es) (fG T P cl E (ie::ies)):=
 PA.mono (cZ ha hr hs) λσ H Q z903=>by
  let⟨env,st,as,G,s,er,h⟩:=z903;dsimp only[aO] at h;refine aC s er h λx st1 as1 G1 H1 u s1 er1 r1 p1 l1 h=> ?_;refine dD s1 er1 h λxs st2 as2 G2 H2 us s2 er2 r2 p2 l2 h=> ?_;exact h.ok s2 _ ⟨u,us,rfl,r1.mono p2 l2,r2⟩
theorem JF {ies:2#PI.E} {k:Nat} (h:PA X es (fG T P cl E ies)):PE X (.Tuple es k pos) (tE T P cl E (.tup ies)):=
 PE.mono (xI h) λσ H Q z903=>by
  let⟨env,st,as,G,s,er,h⟩:=z903;dsimp only[PI.E.run] at h;refine dD s er h λxs st1 as1 G1 H1 us s1 er1 r1 p1 l1 h=> ?_;let⟨c,h⟩:=ae.iff h;have z:sizeLine=2^24:=rfl;exact⟨by rw[←0#r1];lia,λl hl=>nY s1 r1 h hl⟩
theorem Ju {ies:2#PI.E} (h:PA X es (fG T P cl E ies)):PE X (.List es pos) (tE T P cl E 7#ies):=
 PE.mono (EX h) λσ H Q z903=>by
  let⟨env,st,as,G,s,er,h⟩:=z903;dsimp only[PI.E.run] at h;refine dD s er h λxs st1 as1 G1 H1 us s1 er1 r1 p1 l1 h=> ?_;let⟨c,h⟩:=ae.iff h;have z:sizeLine=2^24:=rfl;exact⟨by rw[←0#r1];lia,λl hl=>gp s1 r1 h hl⟩
end
structure COk (T:CT) (P:Pg):Prop where
 xc:∀(c:Nat) k,(P.cl c)=1#k->T.xc c=k.exc
 cl:∀(c:Nat) k,(P.cl c)=1#k->k.exc=false->Cls T.K (T.ca c)
 na:∀(c:Nat) k f,(P.cl c)=1#k->k.exc=false->f∈k.flds->eK T.K (T.ca c) f
theorem uM {P:Pg} {c:Nat} {f:Str} (h:eI P c f=true):∃k,(P.cl c)=1#k/\f∈k.flds:=by
 unfold eI at h
 cases e:(P.cl c) with
 |none=>rw[e] at h;cases h
 |some k=>
  rw[e] at h;exact⟨k,rfl,by simpa using h⟩
theorem pH {T:CT} {G:Hp} {f:Str}:∀{ns:2#Str} {vs:2#Val} {us:2#L2.V} {v:Val},ag T as G vs us->dS ns vs f=1#v->∃u,(ns.zip us).lookup f=1#u/\Rel T as G v u
 |[],_,_,_,_,e=>by cases e
 |_::_,[],_,_,_,e=>by cases e
 |n::ns,x::vs,_,v,⟨u,t,rfl,h,r⟩,e=>by
  unfold dS at e;rw[aaU,aaI]
  by_cases z:n=f
  ·rw[if_pos z] at e;cases e;rw[show (f==n)=true by rw[z];simp];exact⟨u,rfl,h⟩
  ·rw[if_neg z] at e;rw[show (f==n)=false by simpa using λq=>z q.symm];exact pH r e
section
variable {T:CT} {P:Pg} {cl:ar} {E:XS} {X:Cx} {pos:Pos}
theorem JT {f:Str} (hK:T.K=X.K) (C:COk T P) (ho:PE X o (tE T P cl E io)) (hb:attributeBase o f X.env (eval o X.env)=eval o X.env) (hx:∀(c:Nat) k,(P.cl c)=1#k->f∈k.flds->k.exc=false):PE X (.Attribute o f pos) (tE T P cl E (.fld io f)):=
 PE.mono (FV ho hb) λσ H Q z903=>by
  let⟨env,st,as,G,s,er,h⟩:=z903;dsimp only[PI.E.run] at h;refine aC s er h λx st1 as1 G1 H1 u s1 er1 r1 p1 l1 h=> ?_;have r2:=aY s1 r1;generalize res st1 x=y at h r2
  cases y with
  |obj c ns vs=>
   let⟨hc,h⟩:=ae.iff h;let⟨k,e1,e2⟩:=uM hc;have ex:=hx c k e1 e2;let⟨a,us,rfl,n,r,q⟩:=r2;rw[if_neg (by rw[C.xc c k e1,ex];decide)] at q;let⟨dx,q⟩:=q;let⟨v,e3,h⟩:=ae.dr h;let⟨w,e4,r4⟩:=pH r e3;exact⟨a,T.ca c,dx,_,w,rfl,q,hK▸C.cl c k e1 ex,hK▸C.na c k f e1 ex e2,e4,h.ok s1 _ r4⟩
  |_=>exact h.elim
end
end PI
namespace PI
open PySem PySem.Spec L2 L2.L3 L2.L4 PySem.SeqAt
open PyProof.Rows hiding St lobj
def qi (T:CT) (as:2#Addr) (G H:Hp):2#Val->2#L2.V->Prop
 |[],us=>us=[]
 |v::r,us=>∃u t,us=u::t/\dC T as G H v u/\qi T as G H r t
theorem l8 {T:CT} {st:aa} {G H:Hp} (s:9#3):∀{vs:2#Val} {us:2#L2.V},ag T as G vs us->qi T as G H (vs.map (res st)) us
 |[],_,h=>h
 |_::_,_,⟨u,t,e,h,r⟩=>⟨u,t,e,aY s h,l8 s r⟩
def jE (T:CT) (b:Bi):2#L2.V->Hp->VK->Prop:=λus H Q=>∃st as G xs Z,Sim T st as G H/\qi T as G H xs us/\ae T as G (pU b xs st) (PV T Q) Z
theorem au.imp {X:Cx} {f:Value} {r r':2#L2.V->Hp->VK->Prop} (h:au X f r) (k:∀xs H Q,r' xs H Q->r xs H Q):au X f r':=λpins s σ H xs us Q I rv q=>h pins s σ H xs us Q I rv (k xs H Q q)
theorem au.or {X:Cx} {f:Value} {r r':2#L2.V->Hp->VK->Prop} (h:au X f r) (h':au X f r'):au X f (λxs H Q=>r xs H Q∨r' xs H Q):=λpins s σ H xs us Q I rv q=>q.elim (h pins s σ H xs us Q I rv) (h' pins s σ H xs us Q I rv)
section
variable {T:CT} {P:Pg} {cl:ar} {E:XS} {X:Cx} {pos:Pos}
theorem H8 {b:Bi} {id:String} {x:Str} {p:Pos} {e:Expr} {ies:2#PI.E} (hc:au X (.builtin id) (jE T b)) (hg:Gl X x) (hm:X.mg x=none) (hv:bootBuiltins x=1#(.builtin id)) (ha:PA X (e::es) (fG T P cl E ies)) (hn:x≠"__name__") (hdb:(x==("__debug__":Str))=false)
  (he:8#11) (hpl:(backTo pos (starEach es X.env)).any (·.1)=false):PE X (.Call (.Name x p) (e::es) [] pos) (tE T P cl E (.bi b ies)):=
 PE.mono (jl hc hg hm hv ha hn hdb he hpl) λσ H Q z903=>by
  let⟨env,st,as,G,s,er,h⟩:=z903;dsimp only[PI.E.run] at h;refine dD s er h λxs st1 as1 G1 H1 us s1 er1 r1 p1 l1 h=> ?_;exact⟨st1,as1,G1,_,_,s1,l8 s1 r1,h⟩
theorem JY {b:Bi} {id:String} {x:Str} {p:Pos} {e:Expr} {ies:2#PI.E} (hc:au X (.type id) (jE T b)) (hg:Gl X x) (hm:X.mg x=none) (hv:bootBuiltins x=1#(.type id)) (ha:PA X (e::es) (fG T P cl E ies)) (hn:x≠"__name__") (hdb:(x==("__debug__":Str))=false)
  (he:8#11) (hpl:(backTo pos (starEach es X.env)).any (·.1)=false):PE X (.Call (.Name x p) (e::es) [] pos) (tE T P cl E (.bi b ies)):=
 PE.mono (pP hc hg hm hv ha hn hdb he hpl) λσ H Q z903=>by
  let⟨env,st,as,G,s,er,h⟩:=z903;dsimp only[PI.E.run] at h;refine dD s er h λxs st1 as1 G1 H1 us s1 er1 r1 p1 l1 h=> ?_;exact⟨st1,as1,G1,_,_,s1,l8 s1 r1,h⟩
theorem eD {G H:Hp} {x:Val} (r:qi T as G H [x] us):∃u,us=[u]/\dC T as G H x u:=by
 let⟨u,t,rfl,h,r⟩:=r;cases r;exact⟨u,rfl,h⟩
theorem gu {b:Bi} {st:aa} {G:Hp} {Q:Val->aa->2#Addr->Hp->Hp->Prop} {Z:XK} (h:ae T as G (pU b xs st) Q Z) (n2:∀x y st,yB b x y st= .stuck:=by intros;rfl) (n3:∀x y z st,xY b x y z st= .stuck:=by intros;rfl):∃x,xs=[x]:=by
 match xs with
 |[x]=>exact⟨x,rfl⟩
 |[]=>exact h.elim
 |[x,y]=>
  replace h:ae T as G (yB b x y st) Q Z:=h;rw[n2] at h;exact h.elim
 |[x,y,z]=>
  replace h:ae T as G (xY b x y z st) Q Z:=h;rw[n3] at h;exact h.elim
 |_::_::_::_::_=>exact h.elim
theorem CO {G H:Hp} {a:Addr} {ks:2#Val} (d:fZ H a ks us) (r:ag T as G vs us):(∃kvs,Rd H a (.dT kvs)/\0#kvs=0#ks)∨∃kvs,Rd H a (.dK kvs)/\0#kvs=0#ks:=by
 have kl:∀{ks:2#Val} {kk:2#Key},aI ks=1#kk->0#kk=0#ks:=λ{ks}=>by
  induction ks with
  |nil=>intro kk e;cases e;rfl
  |cons k ks ih=>
   intro kk e;unfold aI at e
   cases e1:cb k with
   |none=>rw[e1] at e;cases e
   |some k'=>
    cases e2:aI ks with
    |none=>rw[e1,e2] at e;cases e
    |some r=>rw[e1,e2] at e;cases e;simp[ih e2]
 have tl:∀{ks:2#Val} {kk:2#2#Key},ba ks=1#kk->0#kk=0#ks:=λ{ks}=>by
  induction ks with
  |nil=>intro kk e;cases e;rfl
  |cons k ks ih=>
   intro kk e;unfold ba at e
   cases e1:di k with
   |none=>rw[e1] at e;cases e
   |some k'=>
    cases e2:ba ks with
    |none=>rw[e1,e2] at e;cases e
    |some r=>rw[e1,e2] at e;cases e;simp[ih e2]
 rcases d with⟨kk,e,n,h⟩|⟨kk,e,n,h⟩
 ·exact .inr ⟨_,h,by rw[abj,←n,abY];exact kl e⟩
 ·exact .inl ⟨_,h,by rw[abj,←n,abY];exact tl e⟩
theorem yy (hK:T.K=X.K):au X (.builtin "len") (jE T .len):=by
 refine au.imp (((sZ (X:=X)).or sY).or zv) λus H Q z903=> ?_;let⟨st,as,G,xs,Z,s,r0,p0⟩:=z903;let⟨x,rfl⟩:=gu p0;let⟨u,rfl,r⟩:=eD r0;let⟨v,e,p⟩:=ae.dr (show ae T as G (R.aj ((iH x).map .int) st) (PV T Q) Z from p0);clear r0 p0;let⟨n,e1,rfl⟩:=aab.mp e;clear e;have q:=p.ok s _ rfl
 cases x with
 |tup fl xs=>
  let⟨a,us,rfl,h1,h2⟩:=r;cases e1;exact .inl (.inl ⟨a,us,rfl, .inr (bj s.sub h1),by rw[←0#h2];exact q⟩)
 |lst xs=>
  let⟨a,us,rfl,h1,h2⟩:=r;cases e1;exact .inl (.inl ⟨a,us,rfl, .inl (hK▸h1),by rw[←0#h2];exact q⟩)
 |dct ks vs=>
  let⟨a,us,rfl,h1,h2⟩:=r;cases e1;refine .inr ⟨a,rfl, ?_⟩
  rcases CO h1 h2 with⟨kvs,h,z⟩|⟨kvs,h,z⟩
  ·exact .inl ⟨kvs,h,by rw[z];exact q⟩
  ·exact .inr ⟨kvs,h,by rw[z];exact q⟩
 |str x=>
  cases r;replace e1:(if 0#x<=1000 then 1#(0#x:Int) else none)=1#n:=e1;split at e1
  ·cases e1;have z:sizeLine=2^24:=rfl;exact .inl (.inr ⟨x,rfl,by lia,q⟩)
  ·cases e1
 |_=>cases e1
theorem yG:au X (.builtin "abs") (jE T .abs):=by
 refine au.imp A1 λus H Q z903=> ?_;let⟨st,as,G,xs,Z,s,r0,p0⟩:=z903;let⟨x,rfl⟩:=gu p0;let⟨u,rfl,r⟩:=eD r0
 cases x with
 |int i=>
  cases r;refine⟨i,rfl, ?_⟩;have q:=p0.ok s _ rfl;rw[show (if i<0 then-i else i)=(i.natAbs:Int) by split<;>lia];exact q
 |_=>exact p0.elim
theorem xD:au X (.type "int") (jE T .int):=by
 refine au.imp yK λus H Q z903=> ?_;let⟨st,as,G,xs,Z,s,r0,p0⟩:=z903;let⟨x,rfl⟩:=gu p0;let⟨u,rfl,r⟩:=eD r0
 cases x with
 |int i=>
  cases r;exact .inl ⟨i,rfl,p0.ok s _ rfl⟩
 |bl b=>
  cases r;exact .inr ⟨b,rfl,p0.ok s _ rfl⟩
 |_=>exact p0.elim
theorem tm (hK:T.K=X.K):au X (.type "tuple") (jE T .tuple):=by
 refine au.imp ((Aw (X:=X)).or yp) λus H Q z903=> ?_;let⟨st,as,G,xs,Z,s,r0,p0⟩:=z903;let⟨x,rfl⟩:=gu p0;let⟨u,rfl,r⟩:=eD r0
 cases x with
 |tup fl xs=>
  have r1:=r;let⟨a,us,rfl,h1,h2⟩:=r;exact .inl ⟨a,us,rfl, .inr ⟨bj s.sub h1,p0.ok s _ r1⟩⟩
 |lst xs=>
  let⟨a,us,rfl,h1,h2⟩:=r;exact .inr ⟨a,us,rfl,hK▸h1,λl o hl ho=>Ar s h2 p0 hl ho⟩
 |_=>exact p0.elim
theorem wy (hK:T.K=X.K):au X (.type "list") (jE T .list):=by
 refine au.imp AO λus H Q z903=> ?_;let⟨st,as,G,xs,Z,s,r0,p0⟩:=z903;let⟨x,rfl⟩:=gu p0;let⟨u,rfl,r⟩:=eD r0
 cases x with
 |tup fl xs=>
  let⟨a,us,rfl,h1,h2⟩:=r;exact⟨a,us,rfl, .inr (bj s.sub h1),λl hl=>gp s h2 p0 hl⟩
 |lst xs=>
  let⟨a,us,rfl,h1,h2⟩:=r;exact⟨a,us,rfl, .inl (hK▸h1),λl hl=>gp s h2 p0 hl⟩
 |_=>exact p0.elim
theorem all_bools {G:Hp}:∀{xs:2#Val} {us:2#L2.V} {b:Bool},ag T as G xs us->allB xs=1#b->∃ys:2#Bool,us=ys.map V.bl/\ys.all id=b
 |[],_,_,h,e=>by
  cases h;cases e;exact⟨[],rfl,rfl⟩
 | .bl c::r,_,b,⟨u,t,z,h,q⟩,e=>by
  unfold allB at e;let⟨d,e1,rfl⟩:=aab.mp e;let⟨ys,e2,e3⟩:=all_bools q e1;cases h;subst z e2;exact⟨c::ys,rfl,by rw[aaJ,e3];rfl⟩
 | .non::_,_,_,_,e=>by cases e
 | .int _::_,_,_,_,e=>by cases e
 | .str _::_,_,_,_,e=>by cases e
 | .tup _ _::_,_,_,_,e=>by cases e
 | .lst _::_,_,_,_,e=>by cases e
 | .dct _ _::_,_,_,_,e=>by cases e
 | .obj _ _ _::_,_,_,_,e=>by cases e
 | .ref _::_,_,_,_,e=>by cases e
theorem xo (hK:T.K=X.K) (hc:X.calm=true):au X (.builtin "all") (jE T .all):=by
 refine au.imp (zY hc) λus H Q z903=> ?_;let⟨st,as,G,xs,Z,s,r0,p0⟩:=z903;let⟨x,rfl⟩:=gu p0;let⟨u,rfl,r⟩:=eD r0
 cases x with
 |lst xs=>
  let⟨a,us,rfl,h1,h2⟩:=r;let⟨v,e,p⟩:=ae.dr (show ae T as G (R.aj ((allB xs).map .bl) st) (PV T Q) Z from p0);let⟨b,e1,rfl⟩:=aab.mp e;let⟨ys,e2,e3⟩:=all_bools h2 e1;subst e2;exact⟨a,ys,rfl,hK▸h1,by rw[e3];exact p.ok s _ rfl⟩
 |_=>exact p0.elim
theorem sum_ints {G:Hp}:∀{xs:2#Val} {us:2#L2.V} {a n:Int},ag T as G xs us->iF a xs=1#n->∃ns:2#Int,us=ns.map V.int/\a+ns.sum=n
 |[],_,a,n,h,e=>by
  cases h;cases e;exact⟨[],rfl,by simp⟩
 | .int i::r,_,a,n,⟨u,t,z,h,q⟩,e=>by
  let⟨ns,e2,e3⟩:=sum_ints (a:=a+i) q e;cases h;subst z e2;exact⟨i::ns,rfl,by rw[List.sum_cons];lia⟩
 | .non::_,_,_,_,_,e=>by cases e
 | .bl _::_,_,_,_,_,e=>by cases e
 | .str _::_,_,_,_,_,e=>by cases e
 | .tup _ _::_,_,_,_,_,e=>by cases e
 | .lst _::_,_,_,_,_,e=>by cases e
 | .dct _ _::_,_,_,_,_,e=>by cases e
 | .obj _ _ _::_,_,_,_,_,e=>by cases e
 | .ref _::_,_,_,_,_,e=>by cases e
def ML (K:8#4):2#L2.V->Hp->VK->Prop:=λxs H Q=>∃p,∃ns:2#Int,xs=[3#p]/\bU K H p (ns.map V.int)/\Q 6#ns.sum H
theorem xg {X:Cx} (hc:X.calm=true):au X (.builtin "sum") (ML X.K):=by
 intro pins s σ H xs us Q I r h;let⟨p,ns,rfl,hp,q⟩:=h;let⟨u,rfl,r1⟩:=Vals.one r;cases r1;let⟨its,rv,g,hz⟩:=I.list hp;have hi:=intsAre_of rv;let⟨xs,hx⟩:=hi.allInts.items;have hl':s.heap.IsList p (intItems xs):=hx▸g.isList;refine sum_intListG (I.ok.hd hc) hl' λh' tk t' hk=> ?_
 have e1:ns=xs.toList.map (·.1):=by
  rw[←nums_intItems,←hx];exact(show numsOf its.toArray.toList=ns from hi.numsOf).symm
 have e2:preSum (numAt xs) xs.size=ns.sum:=by
  rw[preSum_eq,acr 8#7,e1]
 rw[e2];exact⟨6#ns.sum,H,I.kept (t':=tk) hk,⟨t',rfl⟩,q⟩
theorem xU (hK:T.K=X.K) (hc:X.calm=true):au X (.builtin "sum") (jE T .sum):=by
 refine au.imp (xg hc) λus H Q z903=> ?_;let⟨st,as,G,xs,Z,s,r0,p0⟩:=z903;let⟨x,rfl⟩:=gu p0;let⟨u,rfl,r⟩:=eD r0
 cases x with
 |lst xs=>
  let⟨a,us,rfl,h1,h2⟩:=r;let⟨v,e,p⟩:=ae.dr (show ae T as G (R.aj ((iF 0 xs).map .int) st) (PV T Q) Z from p0);let⟨n,e1,rfl⟩:=aab.mp e;let⟨ns,e2,e3⟩:=sum_ints h2 e1;subst e2;rw[Int.zero_add] at e3;exact⟨a,ns,rfl,hK▸h1,by rw[e3];exact p.ok s _ rfl⟩
 |_=>exact p0.elim
end
end PI
namespace PI
open PySem L2 L2.L3 L2.L4 PySem.SeqAt
def aB (T:CT) (as:2#Addr) (G:Hp) (r:F) (D:Ends) (E:XS):Prop:=match r with
 | .next env st=>∀as' G' H' σ',as<+:as'->Le G G'->Sim T st as' G' H'->aG T as' G' env σ'->D.nx σ' H'
 | .brk env st=>∀as' G' H' σ',as<+:as'->Le G G'->Sim T st as' G' H'->aG T as' G' env σ'->D.bk σ' H'
 | .cont env st=>∀as' G' H' σ',as<+:as'->Le G G'->Sim T st as' G' H'->aG T as' G' env σ'->D.ct σ' H'
 | .ret v st=>∀as' G' H' u,as<+:as'->Le G G'->Sim T st as' G' H'->Rel T as' G' v u->D.rt u H'
 | .exc x env st=>∀as' G' H' σ' cls dx,as<+:as'->Le G G'->Sim T st as' G' H'->aG T as' G' env σ'->ub T as' G' x cls dx->E σ' cls dx H'
 | .stuck=>False
theorem aB.mono {T:CT} {bs:2#Addr} {G G2:Hp} {r:F} {D:Ends} {E:XS} (p:as<+:bs) (l:Le G G2) (h:aB T as G r D E):aB T bs G2 r D E:=by
 cases r with
 |next env st=>exact λas' G' H' σ' p' l'=>h as' G' H' σ' (p.trans p') (l.trans l')
 |brk env st=>exact λas' G' H' σ' p' l'=>h as' G' H' σ' (p.trans p') (l.trans l')
 |cont env st=>exact λas' G' H' σ' p' l'=>h as' G' H' σ' (p.trans p') (l.trans l')
 |ret v st=>exact λas' G' H' u p' l'=>h as' G' H' u (p.trans p') (l.trans l')
 |exc x env st=>exact λas' G' H' σ' cls dx p' l'=>h as' G' H' σ' cls dx (p.trans p') (l.trans l')
 |stuck=>exact h
def tS (T:CT) (P:Pg) (cl:ar) (E:XS) (s:PI.S):TS:=λD σ H=>∃env st as G,Sim T st as G H/\aG T as G env σ/\aB T as G (s.run P cl env st) D E
def fV (T:CT) (P:Pg) (cl:ar) (E:XS) (ss:2#PI.S):TS:=λD σ H=>∃env st as G,Sim T st as G H/\aG T as G env σ/\aB T as G (aD P cl ss env st) D E
theorem PS.mono {X:Cx} {e:Stmt} {t t':TS} (h:PS X e t) (k:∀D σ H,t' D σ H->t D σ H):PS X e t':=λpins s σ H D I q=>h pins s σ H D I (k D σ H q)
theorem bS.mono {X:Cx} {e:2#Stmt} {t t':TS} (h:bS X e t) (k:∀D σ H,t' D σ H->t D σ H):bS X e t':=λpins s σ H D I q=>h pins s σ H D I (k D σ H q)
theorem aG.set {T:CT} {G:Hp} {env:Env} {σ:St} {v:Val} {u:L2.V} (h:aG T as G env σ) (i:Nat) (r:Rel T as G v u):aG T as G (env.set i 1#v) (σ.set i 1#u):=by
 refine⟨by simp[h.1],λj w e=> ?_⟩
 by_cases hj:j=i
 ·subst hj
  have lj:j<0#env:=by
   have:=(aad.mp e).1;simpa using this
  rw[aa6 lj] at e;cases e;exact⟨u,by rw[aa6 (by rw[←h.1];exact lj)],r⟩
 ·rw[aaY (λz=>hj z.symm)] at e;rw[aaY (λz=>hj z.symm)];exact h.2 j w e
section
variable {T:CT} {P:Pg} {cl:ar} {E:XS} {X:Cx} {pos:Pos}
theorem qj {e:PI.E} {env:Env} {st:aa} {G H:Hp} {σ:St} {f:Val->aa->F} {D:Ends} {K:VK} (s:9#3) (er:aG T as G env σ)
  (h:aB T as G (F.of env (e.run P cl env st) f) D E)
  (k:∀v st1 as1 G1 H1 u,Sim T st1 as1 G1 H1->aG T as1 G1 env σ->Rel T as1 G1 v u->aB T as1 G1 (f v st1) D E->K u H1):tE T P cl E e σ H K:=by
 refine⟨env,st,as,G,s,er, ?_⟩
 cases e1:e.run P cl env st with
 |ok v st1=>
  rw[e1] at h;exact λas' G' H' p l s' u r=>k v st1 as' G' H' u s' (er.mono p l) r (aB.mono p l h)
 |exc x st1=>
  rw[e1] at h;exact λas' G' H' cls dx p l s' x=>h as' G' H' σ cls dx p l s' (er.mono p l) x
 |stuck=>
  rw[e1] at h;exact h.elim
theorem HY {e:PI.E} {env:Env} {st:aa} {G H:Hp} {σ:St} {f:Bool->aa->F} {D:Ends} {K:Bool->Hp->Prop} (s:9#3) (er:aG T as G env σ)
  (h:aB T as G (F.of env (runC P cl 1#e env st) f) D E)
  (k:∀v st1 as1 G1 H1,Sim T st1 as1 G1 H1->aG T as1 G1 env σ->aB T as1 G1 (f v st1) D E->K v H1):tT T P cl E e σ H K:=by
 refine⟨env,st,as,G,s,er, ?_⟩
 cases e1:runC P cl 1#e env st with
 |ok v st1=>
  rw[e1] at h;exact λas' G' H' p l s'=>k v st1 as' G' H' s' (er.mono p l) (aB.mono p l h)
 |exc x st1=>
  rw[e1] at h;exact λas' G' H' cls dx p l s' x=>h as' G' H' σ cls dx p l s' (er.mono p l) x
 |stuck=>
  rw[e1] at h;exact h.elim
theorem JW {i:Nat} {x:Str} {e:Expr} (hN:X.N.Nodup) (hi:X.N[i]?=1#x) (hx:Loc X.env.scope x) (he:8#31) (hs:swapsWith e 1#(.Name x pos') pos.line X.env=pure false) (hf:X.fn x=true∨X.env.scope.names.lookup x=1#.local):PS X (.Assign [.Name x pos'] e pos) (tS T P cl E (.set 4#i ie)):=
 PS.mono (EN hN hi hx he hs hf) λD σ H z903=>by
  let⟨env,st,as,G,s,er,h⟩:=z903;dsimp only[PI.S.run] at h;refine qj s er h λv st1 as1 G1 H1 u s1 er1 r1 h=> ?_;unfold PI.T.put at h;split at h
  ·exact h as1 G1 H1 _ (aah _) 8#26 s1 (er1.set i r1)
  ·exact h.elim
theorem Hr {e:Expr} (he:8#31) (hs:swapsWith e none pos.line X.env=pure false):PS X (.Expr e pos) (tS T P cl E (.expr ie)):=
 PS.mono (DA he hs) λD σ H z903=>by
  let⟨env,st,as,G,s,er,h⟩:=z903;dsimp only[PI.S.run] at h;exact qj s er h λv st1 as1 G1 H1 u s1 er1 r1 h=>h as1 G1 H1 _ (aah _) 8#26 s1 er1
theorem JU {e:Expr} (he:8#31):PS X (.Return 1#e pos) (tS T P cl E (.ret ie)):=
 PS.mono (FD he) λD σ H z903=>by
  let⟨env,st,as,G,s,er,h⟩:=z903;dsimp only[PI.S.run] at h;exact qj s er h λv st1 as1 G1 H1 u s1 er1 r1 h=>h as1 G1 H1 _ (aah _) 8#26 s1 r1
theorem Fh:PS X (.Return none pos) (tS T P cl E .retN):=
 PS.mono D4 λD σ H z903=>by let⟨env,st,as,G,s,er,h⟩:=z903;exact h as G H _ (aah _) 8#26 s rfl
theorem KZ {c:Expr} {a b:2#Stmt} {ia ib:2#PI.S} (hc:PT X c (tT T P cl E ic)) (ha:bS X a (fV T P cl E ia)) (hb:bS X b (fV T P cl E ib)):PS X (.If c a b pos) (tS T P cl E (.ife ic ia ib)):=
 PS.mono (Jj hc ha hb) λD σ H z903=>by
  let⟨env,st,as,G,s,er,h⟩:=z903;dsimp only[PI.S.run] at h;refine HY s er h λt st1 as1 G1 H1 s1 er1 h=> ?_
  cases t with
  |true=>exact lM ⟨env,st1,as1,G1,s1,er1,h⟩
  |false=>exact lR ⟨env,st1,as1,G1,s1,er1,h⟩
theorem EH:bS X [] (fV T P cl E []):=bS.mono C4 λD σ H z903=>by let⟨env,st,as,G,s,er,h⟩:=z903;exact h as G H σ (aah _) 8#26 s er
theorem aB.bind {as:2#Addr} {G:Hp} {r:F} {k:Env->aa->F} {D:Ends} (h:aB T as G (r.bind k) D E):aB T as G r {D with nx:=λσ' H'=>∃env st as' G',Sim T st as' G' H'/\aG T as' G' env σ'/\aB T as' G' (k env st) D E} E:=by
 cases r with
 |next env st=>exact λas' G' H' σ' p l s er=>⟨env,st,as',G',s,er,aB.mono p l h⟩
 |brk env st=>exact h
 |cont env st=>exact h
 |ret v st=>exact h
 |exc x env st=>exact h
 |stuck=>exact h
theorem Eu {a:Stmt} {b:2#Stmt} {ia:PI.S} {ib:2#PI.S} (ha:PS X a (tS T P cl E ia)) (hb:bS X b (fV T P cl E ib)):bS X (a::b) (fV T P cl E (ia::ib)):=
 bS.mono (zO ha hb) λD σ H z903=>by
  let⟨env,st,as,G,s,er,h⟩:=z903;dsimp only[aD] at h;exact⟨env,st,as,G,s,er,h.bind⟩
set_option tactic.hygienic true in
theorem aB.iff {G:Hp} {c:Prop} {r:F} {D:Ends} (h:aB T as G (ji c r) D E):c/\aB T as G r D E:=by
 unfold ji at h;split at h
 ·rename_i z;exact⟨z,h⟩
 ·exact h.elim
def Src (T:CT) (b:Bool) (a:Addr) (items:2#Val) (chk:2#(Nat×Ob)) (as:2#Addr) (G:Hp):Prop:=(∃us,fU b T.K G a us/\ag T as G items us)∨(b=true/\∃k,(k,Ob.lst items)∈chk/\as[k]?=1#a)
theorem Src.mono {b:Bool} {a:Addr} {chk:2#(Nat×Ob)} {G G':Hp} (p:as<+:as') (l:Le G G') (h:Src T b a items chk as G):Src T b a items chk as' G':=by
 rcases h with⟨us,h1,h2⟩|⟨rfl,k,h1,h2⟩
 ·refine .inl ⟨us, ?_,h2.mono p l⟩;cases b
  ·exact BK l h1
  ·exact cf l h1
 ·exact .inr ⟨rfl,k,h1,kz p h2⟩
theorem Src.now {b:Bool} {a:Addr} {chk:2#(Nat×Ob)} {st:aa} {G H:Hp} (s:9#3) (kp:Kept chk st) (h:Src T b a items chk as G):∃us,fU b T.K H a us/\ag T as G items us:=by
 rcases h with⟨us,h1,h2⟩|⟨rfl,k,h1,h2⟩
 ·refine⟨us, ?_,h2⟩;cases b
  ·exact BK s.sub h1
  ·exact cf s.sub h1
 ·let⟨us,q,r⟩:=s.ob k _ a (kp _ h1) h2;exact⟨us, .inl (.inl q),r⟩
def B8 (K:8#4) (b:Bool) (a:Addr):It:=cond b (GR K a) (E4 K a)
end
def tG (T:CT) (t:PI.T):TG:=λu σ H Q=>∃env st as G v env',Sim T st as G H/\aG T as G env σ/\Rel T as G v u/\t.put v env=1#env'/\∀σ',aG T as G env' σ'->Q σ' H
def wK (T:CT) (ts:2#PI.T):nr:=λus σ H Q=>∃env st as G vs env',Sim T st as G H/\aG T as G env σ/\ag T as G vs us/\bM vs env ts=1#env'/\∀σ',aG T as G env' σ'->Q σ' H
theorem PG.mono {X:Cx} {e:Expr} {t t':TG} (h:PG X e t) (k:∀v σ H Q,t' v σ H Q->t v σ H Q):PG X e t':=λpins s σ H v u Q I r q=>h pins s σ H v u Q I r (k v σ H Q q)
theorem iz.mono {X:Cx} {e:2#Expr} {t t':nr} (h:iz X e t) (k:∀v σ H Q,t' v σ H Q->t v σ H Q):iz X e t':=λpins s σ H v u Q I r q=>h pins s σ H v u Q I r (k v σ H Q q)
section
variable {T:CT} {P:Pg} {cl:ar} {E:XS} {X:Cx} {pos:Pos}
theorem JB {i:Nat} {x:Str} (hN:X.N.Nodup) (hi:X.N[i]?=1#x) (hx:Loc X.env.scope x) (hf:X.fn x=true∨X.env.scope.names.lookup x=1#.local):PG X (.Name x pos) (tG T 4#i):=
 PG.mono (Es hN hi hx hf) λu σ H Q z904=>by
  let⟨env,st,as,G,v,env',s,er,r,e,k⟩:=z904;unfold PI.T.put at e;split at e
  ·cases e;exact k _ (er.set i r)
  ·cases e
theorem FO:iz X [] (wK T []):=iz.mono Dn λus σ H Q z904=>by
 let⟨env,st,as,G,vs,env',s,er,r,e,k⟩:=z904
 cases vs with
 |nil=>
  cases r;cases e;exact⟨rfl,k σ er⟩
 |cons v vs=>cases e
theorem Eg {e:Expr} {t:PI.T} {ts:2#PI.T} (h1:PG X e (tG T t)) (h2:iz X es (wK T ts)) (hs:(assignEach (e::es) X.env).map (·.2)=assign e X.env::(assignEach es X.env).map (·.2)):iz X (e::es) (wK T (t::ts)):=
 iz.mono (z6 h1 h2 hs) λus σ H Q z904=>by
  let⟨env,st,as,G,vs,env',s,er,r,e,k⟩:=z904
  cases vs with
  |nil=>cases e
  |cons v vs=>
   let⟨u,us',rfl,r1,r2⟩:=r
   replace e:(t.put v env).bind (λenv=>bM vs env ts)=1#env':=by unfold bM at e;exact e
   cases e1:t.put v env with
   |none=>rw[e1] at e;cases e
   |some env1=>
    rw[e1] at e;exact⟨u,us',rfl,env,st,as,G,v,env1,s,er,r1,e1,λσ' er'=>⟨env1,st,as,G,vs,env',s,er',r2,e,k⟩⟩
theorem pX:∀{ts:2#PI.T} {vs:2#Val} {env env':Env},bM vs env ts=1#env'->0#vs=0#ts
 |[],[],_,_,_=>rfl
 |[],_::_,_,_,e=>by cases e
 |_::_,[],_,_,e=>by cases e
 |t::ts,v::vs,env,env',e=>by
  replace e:(t.put v env).bind (λenv=>bM vs env ts)=1#env':=by unfold bM at e;exact e
  cases e1:t.put v env with
  |none=>rw[e1] at e;cases e
  |some env1=>
   rw[e1] at e;rw[aas,aas,pX (show bM vs env1 ts=1#env' from e)]
theorem HX {ts:2#PI.T} {k:Nat} {n:Nat} (hK:T.K=X.K) (hc:X.calm=true) (h:iz X es (wK T ts)) (hl:0#ts=n) (hn:0#(assignEach es X.env)=n) (hst:(assignEach es X.env).findIdx? (·.1)=none):PG X (.Tuple es k pos) (tG T (.tup ts)):=
 PG.mono (HF hc h hn hst) λu σ H Q z904=>by
  let⟨env,st,as,G,v,env',s,er,r,e,k⟩:=z904
  cases v with
  |tup fl xs=>
   let⟨a,us,rfl,q,r⟩:=r
   replace e:bM xs env ts=1#env':=by unfold PI.T.put at e;exact e
   exact⟨a,us,rfl,bj s.sub q,by rw[←0#r,pX e];exact hl,env,st,as,G,xs,env',s,er,r,e,k⟩
  |_=>(unfold PI.T.put at e;cases e)
structure Walks (T:CT) (J:It) (items:2#Val) (chk:2#(Nat×Ob)) (src:2#Addr->Hp->Prop):Prop where
 mono:∀{as as' G G'},as<+:as'->Le G G'->src as G->src as' G'
 stop:∀{st as G H},Sim T st as G H->Kept chk st->src as G->J.stop 0#items H
 go:∀{st as G H} {i:Nat},i<0#items->Sim T st as G H->Kept chk st->src as G->J.go i H
 yld:∀{st as G H x H'} {i:Nat},i<0#items->Sim T st as G H->Kept chk st->src as G->J.yld i H x H'->∃v G',items[i]?=1#v/\Le G G'/\Sim T st as G' H'/\Rel T as G' v x
def tQ (T:CT) (P:Pg) (cl:ar) (E:XS) (q:PI.Q):TI:=λσ H R=>∃env st as G,Sim T st as G H/\aG T as G env σ/\ae T as G (q.run P cl env st) (λit _ as' G' H'=>∀J src,Walks T J it.1 it.2 src->src as' G'->R J H') (E σ)
theorem PI.mono {X:Cx} {e:Expr} {t t':TI} (h:L2.PI X tg e t) (k:∀σ H R,t' σ H R->t σ H R):L2.PI X tg e t':=λpins s σ H R I q=>h pins s σ H R I (k σ H R q)
theorem jW (b:Bool) (a:Addr) (items:2#Val) (chk:2#(Nat×Ob)):Walks T (B8 T.K b a) items chk (Src T b a items chk) where
 mono p l h:=h.mono p l
 stop s kp h:=by
  let⟨us,q,r⟩:=h.now s kp;cases b
  ·exact⟨us,q,by rw[0#r];exact aai _⟩
  ·exact⟨us,q,by rw[0#r];exact aai _⟩
 go hi s kp h:=by
  let⟨us,q,r⟩:=h.now s kp;let⟨u,e,_⟩:=r.get (aac hi);cases b
  ·exact⟨us,u,q,e⟩
  ·exact⟨us,u,q,e⟩
 yld hi s kp h y:=by
  let⟨us,q,r⟩:=h.now s kp;let⟨u,e,hr⟩:=r.get (aac hi);cases b
  ·let⟨rfl,z⟩:=y;have:=z us q;rw[e] at this;cases this;exact⟨_,_,aac hi,Le.refl _,s,hr⟩
  ·let⟨rfl,z⟩:=y;have:=z us q;rw[e] at this;cases this;exact⟨_,_,aac hi,Le.refl _,s,hr⟩
theorem zL {ks:2#Val} {kk:2#2#Key} {us:2#L2.V} (a:Addr) (o:Obj) (ek:ba ks=1#kk) (el:0#kk=0#us):Walks T (ES a o (kk.zip us)) (ks.map jo) [] (λ_ G=>G a=1#(.aF o (.dT (kk.zip us)))) where
 mono _ l h:=l.ex h rfl
 stop s _ h:=⟨s.sub.ex h rfl,by rw[abj,aay,←kc ek];lia⟩
 go hi s _ h:=⟨s.sub.ex h rfl,by rw[abj];rw[aay,←kc ek] at hi;lia⟩
 yld {st as G H x H' i} hi s _ h y:=by
  let⟨rfl,c,k,v,rfl,e1,e2⟩:=y;rw[aay] at hi;let⟨k',e3,e4⟩:=o9 ek (aac hi)
  have e5:k=k':=by
   have:=(List.getElem?_zip_eq_some.mp e1).1;rw[e3] at this;exact(Option.some.inj this).symm
  subst e5;let⟨s2,l2⟩:=s.IJ e2;let⟨f,xs,e6,e7⟩:=Ds e4;refine⟨.tup false xs,_, ?_,l2,s2,c,k.map kV,rfl,(show upd G c (.tup (k.map kV)) c=_ from ak),nz e7⟩;rw[aaR,aac hi,e6];rfl
theorem Ak {ks:2#Val} {kk:2#Key} {us:2#L2.V} (a:Addr) (o:Obj) (ek:aI ks=1#kk) (el:0#kk=0#us):Walks T (A5 a o (kk.zip us)) (ks.map jo) [] (λ_ G=>G a=1#(.aF o (.dK (kk.zip us)))) where
 mono _ l h:=l.ex h rfl
 stop s _ h:=⟨s.sub.ex h rfl,by rw[abj,aay,←jR ek];lia⟩
 go hi s _ h:=⟨s.sub.ex h rfl,by rw[abj];rw[aay,←jR ek] at hi;lia⟩
 yld {st as G H x H' i} hi s _ h y:=by
  let⟨rfl,k,v,rfl,e1⟩:=y;rw[aay] at hi;let⟨k',e3,e4⟩:=pS ek (aac hi)
  have e5:k=k':=by
   have:=(List.getElem?_zip_eq_some.mp e1).1;rw[e3] at this;exact(Option.some.inj this).symm
  subst e5;refine⟨ks[i],G, ?_,Le.refl _,s,r8 e4⟩;rw[aaR,aac hi];exact congrArg some (Gs e4)
theorem JK {e:Expr} (hK:T.K=X.K) (he:8#31):L2.PI X tg e (tQ T P cl E (.val ie)):=
 PI.mono (Fb he) λσ H R z903=>by
  let⟨env,st,as,G,s,er,h⟩:=z903;unfold PI.Q.run at h;refine aC s er h λx st1 as1 G1 H1 u s1 er1 r1 p1 l1 h=> ?_;let⟨it,e,h⟩:=ae.dr h;have k:=h.ok s1
  cases x with
  |tup fl xs=>
   cases e;let⟨a,us,rfl,q,r⟩:=r1;exact⟨a,rfl, .inr (.inl ⟨⟨us,bj s1.sub q⟩,hK▸k (B8 T.K false a) _ (jW false a xs []) (.inl ⟨us,qV q,r⟩)⟩)⟩
  |lst xs=>
   cases e;let⟨a,us,rfl,q,r⟩:=r1;exact⟨a,rfl, .inl ⟨⟨us,hK▸cf s1.sub q⟩,hK▸k (B8 T.K true a) _ (jW true a xs []) (.inl ⟨us,q,r⟩)⟩⟩
  |dct ks vs=>
   cases e;let⟨a,us,rfl,q,r⟩:=r1
   rcases q with⟨kk,ek,el,q⟩|⟨kk,ek,el,q⟩
   ·refine⟨a,rfl, .inr (.inr (.inr ⟨_,Rd.le s1.sub q,λo ho=> ?_⟩))⟩;let⟨s2,l2⟩:=s1.Hh q rfl ho;exact h as1 _ _ (aah _) l2 s2 _ _ (Ak a o ek el) ak
   ·refine⟨a,rfl, .inr (.inr (.inl ⟨_,Rd.le s1.sub q,λo ho=> ?_⟩))⟩;let⟨s2,l2⟩:=s1.Hh q rfl ho;exact h as1 _ _ (aah _) l2 s2 _ _ (zL a o ek el) ak
  |ref n=>
   let⟨a,ea,rfl⟩:=r1;replace e:iK n st1[n]?=1#it:=e
   cases e1:st1[n]? with
   |none=>rw[e1] at e;cases e
   |some o=>
    rw[e1] at e;have ob:=s1.ob n o a e1 ea
    cases o with
    |lst xs=>
     cases e;let⟨us,q,r⟩:=ob;exact⟨a,rfl, .inl ⟨⟨us, .inl (.inl q)⟩,hK▸k (B8 T.K true a) _ (jW true a xs [(n, 7#xs)]) (.inr ⟨rfl,n,by simp,ea⟩)⟩⟩
    |dct ks vs=>cases e
    |ins c ns vs=>cases e
  |_=>cases e
theorem aB.turn {as:2#Addr} {G:Hp} {r:F} {k:Env->aa->F} {D:Ends} {src:2#Addr->Hp->Prop} (mo:∀{as as' G G'},as<+:as'->Le G G'->src as G->src as' G') (sr:src as G) (h:aB T as G (r.turn k) D E) {N:St->Hp->Prop}
  (hN:∀env st as' G' σ' H',Sim T st as' G' H'->aG T as' G' env σ'->src as' G'->aB T as' G' (k env st) D E->N σ' H'):aB T as G r {D with nx:=N,ct:=N,bk:=D.nx} E:=by
 cases r with
 |next env st=>exact λas' G' H' σ' p l s er=>hN env st as' G' σ' H' s er (mo p l sr) (aB.mono p l h)
 |cont env st=>exact λas' G' H' σ' p l s er=>hN env st as' G' σ' H' s er (mo p l sr) (aB.mono p l h)
 |brk env st=>exact h
 |ret v st=>exact h
 |exc x env st=>exact h
 |stuck=>exact h
open Classical in
theorem Jo {t:PI.T} {q:PI.Q} {ib:2#PI.S} (fm:Framed X) (hx:cc X) (hc:X.calm=true) (hi:L2.PI (X.af (L4.XE X E)) tg iter (tQ T P cl E q)) (hg:PG (X.af (L4.XE X E)) tg (tG T t)) (hb:bS (X.af (L4.XE X E)) body (fV T P cl E ib)) (hs:∀x,foldedSetIterable iter X.env x=pure x):
  PS 8#25 (.For tg iter body [] pos) (tS T P cl E (.for t q ib)):=
 PS.mono (Hf (L4.Js fm hx) hc hi hg hb hs) λD σ H z903=>by
  let⟨env,st,as,G,s,er,h⟩:=z903;dsimp only[PI.S.run] at h;refine⟨env,st,as,G,s,er, ?_⟩
  cases e1:q.run P cl env st with
  |stuck=>rw[e1] at h;exact h.elim
  |exc x st1=>
   rw[e1] at h;exact λas' G' H' cls dx p l s' x=>h as' G' H' σ cls dx p l s' (er.mono p l) x
  |ok it st1=>
   rw[e1] at h;replace h:aB T as G (forL t (λenv st=>aD P cl ib env st) it.2 it.1 env st1) D E:=h;intro as0 G0 H0 p0 l0 s0 J src wk sr0
   refine⟨λi m σ H=>m=0#it.1-i/\i<=0#it.1/\∃env st as G,Sim T st as G H/\aG T as G env σ/\src as G/\aB T as G (forL t (λenv st=>aD P cl ib env st) it.2 (it.1.drop i) env st) D E,
    ⟨_,rfl,aaW _,env,st1,as0,G0,s0,er.mono p0 l0,sr0,aB.mono p0 l0 h⟩, ?_⟩
   rintro i m σ H ⟨rfl,hi,env,st,as,G,s,er,sr,h⟩
   by_cases hl:i=0#it.1
   ·subst hl;rw[List.drop_length] at h;let⟨kp,h⟩:=aB.iff (show aB T as G (ji (Kept it.2 st) (.next env st)) D E from h);exact .inl ⟨wk.stop s kp sr,h as G H σ (aah _) 8#26 s er⟩
   ·have li:i<0#it.1:=by lia
    rw[List.drop_eq_getElem_cons li] at h;let⟨kp,h⟩:=aB.iff (show aB T as G (ji (Kept it.2 st) ((F.aj st (t.put it.1[i] env)).bind λenv st=>(aD P cl ib env st).turn λenv st=>forL t (λenv st=>aD P cl ib env st) it.2 (it.1.drop (i+1)) env st)) D E from h)
    refine .inr ⟨wk.go li s kp sr,λσ' H'=>∃env st as G,Sim T st as G H'/\aG T as G env σ'/\src as G/\aB T as G (forL t (λenv st=>aD P cl ib env st) it.2 (it.1.drop (i+1)) env st) D E,
     λσ' H' w=>⟨0#it.1-(i+1),by lia,rfl,by lia,w⟩,λx H' y=> ?_⟩
    let⟨v,G',e2,l,s',rv⟩:=wk.yld li s kp sr y;rw[aac li] at e2;cases e2
    cases e3:t.put it.1[i] env with
    |none=>rw[e3] at h;exact h.elim
    |some env1=>
     rw[e3] at h;replace h:aB T as G ((aD P cl ib env1 st).turn λenv st=>forL t (λenv st=>aD P cl ib env st) it.2 (it.1.drop (i+1)) env st) D E:=h;refine⟨env,st,as,G',_,env1,s',er.mono (aah _) l,rv,e3,λσ' er'=>⟨env1,st,as,G',s',er', ?_⟩⟩;exact aB.turn wk.mono (wk.mono (aah _) l sr) (aB.mono (aah _) l h) λenv st as G σ' H' s er sr h=>⟨env,st,as,G,s,er,sr,h⟩
end
end PI
namespace PI
open PySem L2 L2.L3 L2.L4 PySem.SeqAt
open PyProof.Rows (envOfC)
def fT (T:CT) (P:Pg) (n fi:Nat):Sp:=λvs H Q E=>∃st as G xs,Sim T st as G H/\ag T as G xs vs/\ae T as G (call P n fi xs st) (PV T Q) E
section
variable {T:CT} {P:Pg} {cl:ar} {E:XS} {X:Cx} {pos:Pos}
theorem uT {k:Nat} {f:Addr} {ps:2#Str} {sp:Sp} {σ:St} {H:Hp} {s:9#2} {Q:VK} {us:8#36} (F:8#17) (hr:Room k X.A) (hb:Binds X.K fd ps []) (hx:cc X)
  (I:Inv 8#25 pins σ H s) (r:Vals vs us) (h:sp vs H Q (E σ)):wpAny 8#3 X.A (PySem.call 3#f us) (EP 8#25 pins σ Q) 8#9 s:=by
 have hl:0#(us++[])=0#ps:=by rw[abh,←0#r];exact F.len _ _ _ _ h
 have hb':=hb s us I.bT hl;rw[abh] at hb';refine wpAny_call (acJ (F.run X.A X.stack s H ⟨us,[]⟩ us vs Q (E σ) hr I.Bo hb' r h) λr s' hq=> ?_)
 cases r with
 |error e=>exact L4.xk hx I hq
 |ok fl=>
  cases fl with
  |ret u=>exact I.after hq
  |next=>exact False.elim hq
  |brk=>exact False.elim hq
  |cont=>exact False.elim hq
theorem s_call {k n fi:Nat} {f:Addr} {ps:2#Str} {x:Str} {p:Pos} {e:Expr} {ies:2#PI.E} (F:FnOk X.prog X.w X.K X.mg X.base (dI X.prog X.w) k f fd ps (fT T P n fi)) (hr:Room k X.A) (hb:Binds X.K fd ps []) (hx:cc X) (hg:Gl X x) (hm:X.mg x=1#3#f) (hk:PySem.W.keepIn X.K 3#f=true)
  (ha:PA 8#25 (e::es) (fG T P (call P n) E ies)) (hdb:(x==("__debug__":Str))=false) (he:8#11) (hpl:(backTo pos (starEach es X.env)).any (·.1)=false):
  PE 8#25 (.Call (.Name x p) (e::es) [] pos) (tE T P (call P n) E (.call fi ies)):=by
 intro pins s σ H Q I ⟨env,st,as,G,sm,er,h⟩;dsimp only[PI.E.run] at h;have h2:=dD (K:=λus H1=>fT T P n fi us H1 Q (E σ)) sm er h λxs st1 as1 G1 H1 us s1 er1 r1 p1 l1 h=>⟨st1,as1,G1,xs,s1,r1,h⟩;refine abr (eB I hg hm ?_ hdb);refine PySem.W.callWith_K (h₀:=X.base) I.ok.mod.kin hk (ay (ha pos pins s σ H _ I h2) λus s1 zq13=> ?_) he hpl;let⟨vs,H1,I1,r,q⟩:=zq13;refine⟨I1.bT, ?_⟩;exact uT F hr hb hx I1 r q
theorem CJ {k n fi:Nat} {f:Addr} {ps:2#Str} {x:Str} {p:Pos} (F:FnOk X.prog X.w X.K X.mg X.base (dI X.prog X.w) k f fd ps (fT T P n fi)) (hr:Room k X.A) (hb:Binds X.K fd ps []) (hx:cc X) (hg:Gl X x) (hm:X.mg x=1#3#f) (hk:PySem.W.keepIn X.K 3#f=true)
  (hdb:(x==("__debug__":Str))=false):PE 8#25 (.Call (.Name x p) [] [] pos) (tE T P (call P n) E (.call fi [])):=by
 intro pins s σ H Q I ⟨env,st,as,G,sm,er,h⟩;dsimp only[PI.E.run] at h;refine abr (eB I hg hm ?_ hdb);exact PySem.W.callWith_K0 I.bT hk (uT (us:=[]) F hr hb hx I .nil ⟨st,as,G,[],sm,rfl,h⟩)
end
section
variable {P':Program} {w:World} {K:8#4} {mg:8#19} {base:Heap} {N:2#Str} {qual:Str} {f:Addr}
theorem B1 {x:Str} {st:Stmt} {ps:2#Str} {k:Nat} {sp:Sp} (F:Fun K x qual st f fd) (S:FnScope N ps (az st)) (len:∀vs H Q E,sp vs H Q E->0#vs=0#ps)
  (hbody:∀(cdv:Value) (A:Around) (outer:2#PySem.Env) (s:9#2) (H:Hp) (vs:2#L2.V) (Q:VK) (E:XK),Room k (A.deeper (envOfC qual (az st) s.heap.objs.size f cdv))->sp vs H Q E->
   ∃t,bS ((uL P' w K mg base N qual (az st) f cdv A outer s H E).af (L4.XE (uL P' w K mg base N qual (az st) f cdv A outer s H E) λ_=>E)) (br st) t/\t {nx:=λ_ H'=>Q .non H',rt:=Q} (start N vs) H):
  FnOk P' w K mg base (dI P' w) (k+1) f fd ps sp:=by
 let⟨oc,od,kV,doc,pm,an,cdv,ct,osl,rfl,lk,hcd⟩:=F.ex;refine Il lk hcd S len λA outer s H vs Q E hr hsp=> ?_;let⟨t,h,q⟩:=hbody cdv A outer s H vs Q E hr hsp;refine⟨t,λpins s1 σ1 H1 D I hw=> ?_,q⟩;exact aaL (h pins s1 σ1 H1 D (I.af _) hw) (λ_ _ z=>z.aS) λe s2 z=>L4.DN fmD rfl z
variable {T:CT} {P:Pg}
theorem HZ {x:Str} {st:Stmt} {ps:2#Str} {k n fi:Nat} {d:Fn} (F:Fun K x qual st f fd) (S:FnScope N ps (az st)) (hd:(P.fn fi)=1#d) (hp:d.np=0#ps) (hn:d.ns=0#N)
  (body:∀(cdv:Value) (A:Around) (outer:2#PySem.Env) (s:9#2) (H:Hp) (E:XK),Room k (A.deeper (envOfC qual (az st) s.heap.objs.size f cdv))->
   bS ((uL P' w K mg base N qual (az st) f cdv A outer s H E).af (L4.XE (uL P' w K mg base N qual (az st) f cdv A outer s H E) λ_=>E)) (br st) (fV T P (call P n) (λ_=>E) d.body)):
  FnOk P' w K mg base (dI P' w) (k+1) f fd ps (fT T P (n+1) fi):=by
 have arity:∀{as G xs st Q X},ae T as G (call P (n+1) fi xs st) Q X->0#xs=d.np/\ae T as G ((aD P (call P n) d.body (xs.map some++List.replicate (d.ns-d.np) none) st).fin P st) Q X:=λ{as G xs st Q X} h=>by
  unfold call at h;rw[hd] at h;exact ae.iff h
 refine B1 F S (λvs H Q E ⟨st,as,G,xs,s,r,h⟩=> ?_) λcdv A outer s H vs Q E hr ⟨st,as,G,xs,sm,r,h⟩=>⟨_,body cdv A outer s H E hr, ?_⟩
 ·rw[←0#r,(arity h).1,hp]
 ·let⟨la,h⟩:=arity h;refine⟨xs.map some++List.replicate (d.ns-d.np) none,st,as,G,sm, ?_, ?_⟩
  ·have lv:0#vs=0#xs:=r.length.symm;refine⟨by simp[L2.start,lv,la,hn],λi v e=> ?_⟩
   by_cases hi:i<0#xs
   ·rw[aaq (by simpa using hi),aaR] at e;let⟨v',e1,e2⟩:=aab.mp e;cases e2;let⟨u,e3,hr⟩:=r.get e1;refine⟨u, ?_,hr⟩;unfold L2.start;rw[aaq (by simpa[lv] using hi),aaR,e3];rfl
   ·rw[aam (by simpa using hi),abO] at e;split at e<;>cases e
  ·cases e1:aD P (call P n) d.body (xs.map some++List.replicate (d.ns-d.np) none) st with
   |next env st'=>
    rw[e1] at h;exact λas' G' H' σ' p l s' er=>nF (v:= .non) (u:= .non) sm s' p l rfl h
   |ret v st'=>
    rw[e1] at h;exact λas' G' H' u p l s' rv=>nF sm s' p l rv h
   |exc x env st'=>
    rw[e1] at h;exact λas' G' H' σ' cls dx p l s' er ex=>Di sm s' p l ex h
   |brk env st'=>rw[e1] at h;exact h.elim
   |cont env st'=>rw[e1] at h;exact h.elim
   |stuck=>rw[e1] at h;exact h.elim
end
end PI
namespace PI
open PySem L2 L2.L3 L2.L4 PySem.SeqAt
mutual
theorem ph {n:Nat}:∀{t:PI.T} {v:Val} {env env':Env},t.low n=true->t.put v env=1#env'->0#env'=0#env/\∀(i:Nat),n<=i->env'[i]?=env[i]?
 | .var k,v,env,env',l,e=>by
  unfold PI.T.put at e;unfold PI.T.low at l;split at e
  ·cases e;refine⟨by simp,λi hi=> ?_⟩;have:=aco l;rw[aaY 8#0]
  ·cases e
 | .tup ts,v,env,env',l,e=>by
  unfold PI.T.low at l
  cases v with
  |tup fl xs=>exact mU l (show bM xs env ts=1#env' by unfold PI.T.put at e;exact e)
  |_=>(unfold PI.T.put at e;cases e)
theorem mU {n:Nat}:∀{ts:2#PI.T} {vs:2#Val} {env env':Env},lows n ts=true->bM vs env ts=1#env'->0#env'=0#env/\∀(i:Nat),n<=i->env'[i]?=env[i]?
 |[],[],_,_,_,e=>by
  cases e;exact⟨rfl,λ_ _=>rfl⟩
 |[],_::_,_,_,_,e=>by cases e
 |_::_,[],_,_,_,e=>by cases e
 |t::ts,v::vs,env,env',l,e=>by
  replace e:(t.put v env).bind (λenv=>bM vs env ts)=1#env':=by unfold bM at e;exact e
  unfold lows at l;rw[aag] at l
  cases e1:t.put v env with
  |none=>rw[e1] at e;cases e
  |some env1=>
   rw[e1] at e;let⟨a1,a2⟩:=ph l.1 e1;let⟨b1,b2⟩:=mU l.2 (show bM vs env1 ts=1#env' from e);exact⟨b1.trans a1,λi hi=>(b2 i hi).trans (a2 i hi)⟩
end
theorem Ec {T:CT} {G:Hp} {env:Env} {σ:St} (ws:2#Str) (caps:2#Nat) (h:aG T as G env σ):aG T as G (ax 0#ws caps env) (stC ws caps σ):=by
 refine⟨by simp[ax,stC],λi v e=> ?_⟩;unfold ax at e
 by_cases hi:i<0#ws
 ·rw[aaq (by simpa using hi),abO,if_pos hi] at e;cases e
 ·rw[aam (by simpa using hi),aaR] at e;let⟨c,e1,e2⟩:=aab.mp e
  have e3:env[c]?=1#1#v:=by
   cases q:env[c]? with
   |none=>rw[q] at e2;cases e2
   |some o=>rw[q] at e2;exact congrArg some e2
  let⟨u,e4,r⟩:=h.2 c v e3;refine⟨u, ?_,r⟩;unfold stC;rw[aam (by simpa using hi),aaR];rw[show i-0#(ws.map λ_=>(none:5#L2.V))=i-0#(List.replicate 0#ws (none:5#Val)) by simp,e1];simp[e4]
theorem sN {T:CT} {G:Hp} {env env1:Env} {σ:St} {n:Nat} {caps:2#Nat} {t:PI.T} {v:Val} (l:t.low n=true) (e:t.put v (ax n caps env)=1#env1) (h:aG T as G env1 σ):aG T as G (ax n caps env) σ:=by
 let⟨a1,a2⟩:=ph l e;refine⟨by rw[←a1];exact h.1,λi w ew=> ?_⟩
 by_cases hi:i<n
 ·unfold ax at ew;rw[aaq (by simpa using hi),abO,if_pos hi] at ew;cases ew
 ·exact h.2 i w (by rw[a2 i 8#0];exact ew)
section
variable {T:CT} {P:Pg} {cl:ar} {E:XS} {X:Cx} {pos:Pos}
theorem L8 {e:Expr} (he:8#31):PE X e (tE T P cl E (.fz ie)):=
 PE.mono he λσ H Q z903=>by
  let⟨env,st,as,G,s,er,h⟩:=z903;dsimp only[PI.E.run] at h;refine⟨env,st,as,G,s,er, ?_⟩
  cases e1:ie.run P cl env st with
  |stuck=>rw[e1] at h;exact h.elim
  |exc x st1=>rw[e1] at h;exact h
  |ok v st1=>
   rw[e1] at h;intro as1 G1 H1 p l s1 u r;let⟨v2,st2,as2,G2,s2,r2,q⟩:=Iq s s1 p l r h;exact q u r2
def tO (T:CT) (P:Pg) (cl:ar) (E:XS) (c:5#PI.E):TT:=λσ H Q=>∃env st as G,Sim T st as G H/\aG T as G env σ/\ae T as G (runC P cl c env st) (λb _ _ _ H'=>Q b H') (E σ)
theorem Fi:k8 X [] (tO T P cl E none):=λpins s σ H Q I z906=>by let⟨env,st,as,G,sm,er,h⟩:=z906;exact CU pins s σ H Q I (h.ok sm)
theorem FC {c:Expr} (hc:PT X c (tT T P cl E ic)):k8 X [c] (tO T P cl E 1#ic):=C5 hc
open Classical in
theorem pZ {σ0:St} {ws:2#Str} {caps:2#Nat} {t:PI.T} {c:5#PI.E} {ie:PI.E} {it:2#Val×2#(Nat×Ob)} {env:Env} {st:aa} {as:2#Addr} {G H:Hp} {Q:Val->aa->2#Addr->Hp->Hp->Prop} {Z:2#L2.V->Hp->Prop} {J:It} {src:2#Addr->Hp->Prop}
  (s:9#3) (er:aG T as G env σ0) (wk:Walks T J it.1 it.2 src) (sr:src as G) (low:t.low 0#ws=true) (len:0#it.1<=10000)
  (h:ae T as G ((aE 8#6 it.2 it.1 st).bind λxs st=>new 7#xs st) Q (E σ0))
  (hZ:∀xs ys st as' G' H',as<+:as'->Le G G'->Sim T st as' G' H'->ag T as' G' xs ys->ae T as' G' (new 7#xs st) Q (E σ0)->Z ys H'):
  L3.runC (tG T t) (tO T P cl (λ_=>E σ0) c) (tE T P cl (λ_=>E σ0) ie) J (stC ws caps σ0) H Z:=by
 have sz:sizeLine=2^24:=rfl
 refine⟨λi m ys σ H=>m=0#it.1-i/\i<=0#it.1/\∃st as1 G1 xs,as<+:as1/\Le G G1/\Sim T st as1 G1 H/\aG T as1 G1 (ax 0#ws caps env) σ/\src as1 G1/\ag T as1 G1 xs ys/\0#xs<=i/\
   ae T as1 G1 ((aE 8#6 it.2 (it.1.drop i) st).bind λr st=>new 7#(xs++r) st) Q (E σ0),
  ⟨_,rfl,aaW _,st,as,G,[],aah _,Le.refl _,s,Ec ws caps er,sr,rfl,aai _,h⟩, ?_⟩
 rintro i m ys σ H ⟨rfl,hi,st,as1,G1,xs,p1,l1,s,er,sr,rx,lx,h⟩
 by_cases hl:i=0#it.1
 ·subst hl;rw[List.drop_length] at h
  let⟨kp,h⟩:=ae.iff (show ae T as1 G1 (iff (Kept it.2 st) (new 7#(xs++[]) st)) Q (E σ0) by
   by_cases z:Kept it.2 st
   ·rw[bB z];have:aE 8#6 it.2 [] st= .ok [] st:=bB z;rw[this] at h;exact h
   ·have:aE 8#6 it.2 [] st= .stuck:=if_neg z;rw[this] at h
    exact h.elim)
  rw[abh] at h;exact .inl ⟨wk.stop s kp sr,hZ xs ys st as1 G1 H p1 l1 s rx h⟩
 ·have li:i<0#it.1:=by lia
  rw[List.drop_eq_getElem_cons li] at h
  have ⟨kp,h⟩:Kept it.2 st/\ae T as1 G1 ((aL (t.put it.1[i] (ax 0#ws caps env)) (runC P cl c) (ie.run P cl) st).bind λo st=>(aE 8#6 it.2 (it.1.drop (i+1)) st).bind λr st=>new 7#(xs++fu o r) st) Q (E σ0):=by
   by_cases z:Kept it.2 st
   ·refine⟨z, ?_⟩;have:aE 8#6 it.2 (it.1[i]::it.1.drop (i+1)) st=(aL (t.put it.1[i] (ax 0#ws caps env)) (runC P cl c) (ie.run P cl) st).bind λo st=>(aE 8#6 it.2 (it.1.drop (i+1)) st).bind λr st=> .ok (fu o r) st:=bB z;rw[this,R.bind_assoc] at h;simpa only[R.bind_assoc,R.iQ] using h
   ·have:aE 8#6 it.2 (it.1[i]::it.1.drop (i+1)) st= .stuck:=if_neg z;rw[this] at h;exact h.elim
  refine .inr ⟨wk.go li s kp sr,λys' σ' H'=>∃st as1 G1 xs,as<+:as1/\Le G G1/\Sim T st as1 G1 H'/\aG T as1 G1 (ax 0#ws caps env) σ'/\src as1 G1/\ag T as1 G1 xs ys'/\0#xs<=i+1/\
    ae T as1 G1 ((aE 8#6 it.2 (it.1.drop (i+1)) st).bind λr st=>new 7#(xs++r) st) Q (E σ0),
   λys' σ' H' w=>⟨0#it.1-(i+1),by lia,rfl,by lia,w⟩,λx H2 y=> ?_⟩
  let⟨v,G2,e2,l2,s2,rv⟩:=wk.yld li s kp sr y;rw[aac li] at e2;cases e2;unfold aL at h;rw[R.bind_assoc] at h;let⟨env1,e3,h⟩:=ae.aj h;refine⟨ax 0#ws caps env,st,as1,G2,_,env1,s2,er.mono (aah _) l2,rv,e3,λσ3 er3=> ?_⟩;rw[R.bind_assoc] at h;refine⟨env1,st,as1,G2,s2,er3,(ae.mono (aah _) l2 h).bind.imp λb st4 as4 G4 H4 p4 l4 s4 h=> ?_⟩
  cases b with
  |false=>exact lR ⟨st4,as4,G4,xs,p1.trans p4,l1.trans (l2.trans l4),s4,sN low e3 (er3.mono p4 l4),wk.mono p4 (l2.trans l4) sr,rx.mono p4 (l2.trans l4),by lia,h⟩
  |true=>
   refine lM ?_;replace h:ae T as4 G4 (((ie.run P cl env1 st4).bind λx st=> .ok 1#x st).bind λo st=>(aE 8#6 it.2 (it.1.drop (i+1)) st).bind λr st=>new 7#(xs++fu o r) st) Q (E σ0):=h;rw[R.bind_assoc] at h;refine aC (E:=λ_=>E σ0) (σ:=σ3) s4 (er3.mono p4 l4) h λx st5 as5 G5 H5 u s5 er5 r5 p5 l5 h=> ?_;refine⟨by rw[←0#rx];lia,st5,as5,G5,xs++[x],p1.trans (p4.trans p5),l1.trans (l2.trans (l4.trans l5)),s5,sN low e3 er5,wk.mono (p4.trans p5) (l2.trans (l4.trans l5)) sr,ag.append (rx.mono (p4.trans p5) (l2.trans (l4.trans l5))) ⟨u,[],rfl,r5,rfl⟩,by simp;lia, ?_⟩;simpa[fu] using h
theorem EI {ws:2#Str} {caps:2#Nat} {sc:Scope} {t:PI.T} {q:PI.Q} {c:5#PI.E} (fm:Framed X) (hx:cc X) (B:BlockOkC X.env.scope sc) (hc:X.calm=true) (hcap:8#21) (hi:L2.PI (X.af (L4.XE X E)) tg iter (tQ T P cl E q))
  (hg:∀σ own C fp pn s H,9#9->PG 8#35 tg (tG T t)) (ht:∀σ own C fp pn s H,9#9->k8 8#35 ifs (tO T P cl (λ_=>E σ) c))
  (he:∀σ own C fp pn s H,9#9->PE 8#35 elt (tE T P cl (λ_=>E σ) ie)) (hs:∀x,foldedSetIterable iter X.env x=pure x):
  PE 8#25 9#6 (tE T P cl E (.comp 0#ws caps t q c ie)):=
 PE.mono (L4.AU fm hx B hc hcap hi hg ht he hs) λσ H Q z903=>by
  let⟨env,st,as,G,s,er,h⟩:=z903;dsimp only[PI.E.run] at h;refine⟨env,st,as,G,s,er,h.bind.imp λit st1 as1 G1 H1 p l s1 h J src wk sr=> ?_⟩;let⟨⟨low,len⟩,h⟩:=ae.iff h;exact pZ s1 (er.mono p l) wk sr low len h λxs ys st as' G' H' p' l' s' r h D hD=>gp s' r h hD
theorem Gn {i:Nat} {y:Str} {ws:2#Str} {caps:2#Nat} {sc:Scope} {t:PI.T} {q:PI.Q} {c:5#PI.E} (fm:Framed X) (hx:cc X) (B:BlockOkC X.env.scope sc) (hc:X.calm=true) (hcap:8#21) (hN:X.N.Nodup) (hy:X.N[i]?=1#y) (hl:X.env.scope.names.lookup y=1#.local) (hi:L2.PI (X.af (L4.XE X E)) tg iter (tQ T P cl E q))
  (hg:∀σ own C fp pn s H,9#9->PG 8#35 tg (tG T t)) (ht:∀σ own C fp pn s H,9#9->k8 8#35 ifs (tO T P cl (λ_=>E σ) c))
  (he:∀σ own C fp pn s H,9#9->PE 8#35 elt (tE T P cl (λ_=>E σ) ie)) (hsw:swapsWith (.ListComp elt [⟨tg,iter,ifs,0⟩] sc cpos) 1#(.Name y py) pos.line X.env=pure true) (hs:∀x,foldedSetIterable iter X.env x=pure x):
  PS 8#25 (.Assign [.Name y py] (.ListComp elt [⟨tg,iter,ifs,0⟩] sc cpos) pos) (tS T P cl E (.set 4#i (.comp 0#ws caps t q c ie))):=
 PS.mono (L4.A0 fm hx B hc hcap hN hy hl hi hg ht he hsw hs) λD σ H z903=>by
  let⟨env,st,as,G,s,er,h⟩:=z903;dsimp only[PI.S.run,PI.E.run] at h;refine⟨env,st,as,G,s,er, ?_⟩
  cases e1:q.run P cl env st with
  |stuck=>rw[e1] at h;exact h.elim
  |exc x st1=>
   rw[e1] at h;exact λas' G' H' cls dx p l s' x=>h as' G' H' σ cls dx p l s' (er.mono p l) x
  |ok it st1=>
   rw[e1] at h;intro as1 G1 H1 p1 l1 s1 J src wk sr
   have h2:ae T as G (iff (t.low 0#ws=true/\0#it.1<=10000) ((aE 8#6 it.2 it.1 st1).bind λxs st=>new 7#xs st)) (λv st as' G' H'=>∀u,Rel T as' G' v u->∀σ',aG T as' G' (env.set i 1#v) σ'->D.nx σ' H') (E σ):=by
    replace h:aB T as G (F.of env (iff (t.low 0#ws=true/\0#it.1<=10000) ((aE 8#6 it.2 it.1 st1).bind λxs st=>new 7#xs st)) λx st=>F.aj st ((PI.T.var i).put x env)) D E:=h;generalize iff (t.low 0#ws=true/\0#it.1<=10000) ((aE 8#6 it.2 it.1 st1).bind λxs st=>new 7#xs st)=r at h⊢
    cases r with
    |stuck=>exact h
    |exc x st=>exact λas' G' H' cls dx p l s' x=>h as' G' H' σ cls dx p l s' (er.mono p l) x
    |ok v st=>
     intro as' G' H' p l s' u ru σ' er';replace h:aB T as G (F.aj st ((PI.T.var i).put v env)) D E:=h;unfold PI.T.put at h;split at h
     ·exact h as' G' H' σ' p l s' er'
     ·exact h.elim
   let⟨⟨low,len⟩,h3⟩:=ae.iff h2;refine pZ s1 (er.mono p1 l1) wk sr low len (ae.mono p1 l1 h3) λxs ys st as' G' H' p' l' s' r h D' hD=> ?_;have h4:=h (as'++[D']) G' _ (aau _ _) 8#26 (s'.push hD ⟨ys,ak,r.mono (aau _ _) 8#26⟩) 3#D';have rn:Rel T (as'++[D']) G' 3#0#st 3#D':=⟨D',by rw[←s'.len,aam (aai _)];simp,rfl⟩;exact h4 rn _ ((er.mono (p1.trans (p'.trans (aau _ _))) (l1.trans l')).set i rn)
end
theorem kL:∀(n:Nat) (lo:Int),0#(bg lo n)=n
 |0,_=>rfl
 |n+1,lo=>by
  unfold bg;rw[aas,kL n]
theorem vh:∀(n:Nat) (lo:Int) (i:Nat),i<n->(bg lo n)[i]?=1#6#(lo+i)
 |0,_,_,h=>by lia
 |n+1,lo,0,_=>by
  unfold bg;simp
 |n+1,lo,i+1,h=>by
  unfold bg;rw[abR,vh n (lo+1) i 8#0];congr 2
  push_cast
  lia
section
variable {T:CT} {P:Pg} {cl:ar} {E:XS} {X:Cx} {pos:Pos}
theorem yk (lo:Int) (n:Nat):Walks T (B7 lo n) (bg lo n) [] (λ_ _=>True) where
 mono _ _ h:=h
 stop _ _ _:=by rw[kL];exact aai n
 go hi _ _ _:=by rw[kL] at hi;exact hi
 yld hi s _ _ y:=by
  rw[kL] at hi;let⟨rfl,rfl⟩:=y;exact⟨_,_,vh n lo _ hi,Le.refl _,s,rfl⟩
theorem Dl {α:Type} {e:PI.E} {env:Env} {st:aa} {G H:Hp} {σ:St} {f:Val->aa->R α} {Q:8#23} {K:2#L2.V->Hp->Prop} (s:9#3) (er:aG T as G env σ)
  (h:ae T as G ((e.run P cl env st).bind f) Q (E σ))
  (k:∀v st1 as1 G1 H1 u,Sim T st1 as1 G1 H1->aG T as1 G1 env σ->Rel T as1 G1 v u->ae T as1 G1 (f v st1) Q (E σ)->K [u] H1):fG T P cl E [e] σ H K:=by
 refine⟨env,st,as,G,s,er, ?_⟩;unfold aO
 cases e1:e.run P cl env st with
 |stuck=>rw[e1] at h;exact h.elim
 |exc x st1=>rw[e1] at h;exact h
 |ok v st1=>
  rw[e1] at h;intro as1 G1 H1 p l s1 us r;let⟨u,t,rfl,r1,r2⟩:=r;cases r2;exact k v st1 as1 G1 H1 u s1 (er.mono p l) r1 (ae.mono p l h)
theorem C8 {α:Type} {e e':PI.E} {env:Env} {st:aa} {G H:Hp} {σ:St} {f:Val->Val->aa->R α} {Q:8#23} {K:2#L2.V->Hp->Prop} (s:9#3) (er:aG T as G env σ)
  (h:ae T as G ((e.run P cl env st).bind λx st=>(e'.run P cl env st).bind λy st=>f x y st) Q (E σ))
  (k:∀v v' st1 as1 G1 H1 u u',Sim T st1 as1 G1 H1->aG T as1 G1 env σ->Rel T as1 G1 v u->Rel T as1 G1 v' u'->ae T as1 G1 (f v v' st1) Q (E σ)->K [u,u'] H1):fG T P cl E [e,e'] σ H K:=by
 refine⟨env,st,as,G,s,er, ?_⟩;unfold aO aO
 cases e1:e.run P cl env st with
 |stuck=>rw[e1] at h;exact h.elim
 |exc x st1=>rw[e1] at h;exact h
 |ok v st1=>
  rw[e1] at h;replace h:ae T as G ((e'.run P cl env st1).bind λy st=>f v y st) Q (E σ):=h;rw[R.iQ]
  cases e2:e'.run P cl env st1 with
  |stuck=>rw[e2] at h;exact h.elim
  |exc x st1=>rw[e2] at h;exact h
  |ok v' st2=>
   rw[e2] at h;intro as1 G1 H1 p l s1 us r;let⟨u,t,rfl,r1,u',t',rfl,r2,r3⟩:=r;cases r3;exact k v v' st2 as1 G1 H1 u u' s1 (er.mono p l) r1 r2 (ae.mono p l h)
theorem FT {a:Expr} {p:Pos} (hg:Gl X "range") (hm:X.mg "range"=none) (ha:PA X [a] (fG T P cl E [ia])) (hs:starEach [a] X.env=[(false,eval a X.env)]):L2.PI X tg (.Call (.Name "range" p) [a] [] pos) (tQ T P cl E (.rng1 ia)):=
 PI.mono (yL hg hm ha hs) λσ H R z903=>by
  let⟨env,st,as,G,s,er,h⟩:=z903;unfold PI.Q.run at h;refine Dl s er h λx st1 as1 G1 H1 u s1 er1 r1 h=> ?_
  cases x with
  |int n=>
   cases r1;let⟨c,h⟩:=ae.iff h;exact⟨n,rfl,by lia,by lia,h.ok s1 _ _ (yk 0 n.toNat) trivial⟩
  |_=>exact h.elim
def CN (C:Addr) (E:XS) (t:TA):TS:=λ_ σ H=>t σ H λvs H1=>0#vs<=sizeLine/\E σ 3#C none H1
theorem xf {C:Addr} {x:Str} {e:Expr} {t:TA} (hx:cc X) (hc:X.calm=true) (hg:Gl X x) (hm:X.mg x=1#3#C) (hq:PySem.W.excIn X.K C u9 "ValueError.__new__"=true) (ha:PA (X.af (L4.XE X E)) (e::es) t) (hdb:(x==("__debug__":Str))=false:=by decide)
  (he:starEach (e::es) X.env=(false,eval e X.env)::starEach es X.env:=by rfl) (hpl:(backTo cpos (starEach es X.env)).any (·.1)=false:=by rfl):
  PS 8#25 (.Raise 1#(.Call (.Name x np) (e::es) [] cpos) none pos) (CN C E t):=by
 intro pins s σ H D I h;let⟨bm,N,nm,qn,bs,hdct,sn,sub,ab,col,dd,k0,k1,k2,k3,k5,mN,hC,hN,hni,T⟩:=DL I.mod.kin hq;have up:∀{s2:9#2} {σ2:St} {H2:Hp} {p2:8#5},Inv 8#25 p2 σ2 H2 s2->∀b o,X.base.get? b=1#o->s2.heap.get? b=1#o:=λI2 b o e=>I2.bk b o e
 refine wpAny_Raise_call_subT (C:=C) (N:=N) (nm:=nm) (q:=qn) (bs:=bs) (bm:=bm) (hdct:=hdct) (sn:=sn) (sub:=sub) (ab:=ab) (col:=col) (dd:=dd) (k0:=k0) (k1:=k1) (k2:=k2) (k3:=k3) (k5:=k5)
  PySem.F.excBase_ValueError (mN:=mN) (T.hasType PySem.F.excBase_ValueError.hasBase) (I.ok.hd hc) (by rw[show (X.af 8#9).env=X.env from rfl,he];show (false||(backTo cpos (starEach es X.env)).any (·.1))=false;rw[hpl];rfl) hni (eB I hg hm ⟨rfl, ?_⟩ hdb)
 have hA:=ha cpos pins s σ H _ I h;rw[show (X.af 8#9).env=X.env from rfl,he] at hA⊢;refine ab1 (ay hA λus s2 z902=> ?_);let⟨vs,H2,I2,r2,hz,q2⟩:=z902;have U:=up I2;refine⟨rfl,by rw[←0#r2];exact hz,U _ _ hC,hN.keeps U,T.keeps U,λh' ea mk=> ?_⟩;let⟨tt,m1,m2,m3⟩:=mk.there;let⟨n1,n2,n3⟩:=j9 (X:=X.af 8#9) hx I2 mk.new;have I3:Inv 8#25 pins σ H2 {s2 with heap:=h'}:=I2.kept (t':=s2.toks) mk.keeps;refine⟨σ,H2,ea, 3#C,none,none,rfl,(I3.aS.af λ_ _=>False).cz λp hp=>absurd hp 8#7,⟨_,_,m1,rfl,rfl,rfl,by simp,by simp⟩,⟨n1,n2,n3⟩,λp hp=>(by cases hp),trivial,q2⟩
theorem Ep {C:Addr} {c:Nat} {k:Cl} {x:Str} {e:Expr} {ies:2#PI.E} (hk:(P.cl c)=1#k) (hi:k.init=none) (hC:T.ca c=C) (hX:T.xc c=true) (hl:0#ies<=100) (hx:cc X) (hc:X.calm=true) (hg:Gl X x) (hm:X.mg x=1#3#C) (hq:PySem.W.excIn X.K C u9 "ValueError.__new__"=true) (ha:PA (X.af (L4.XE X E)) (e::es) (fG T P cl E ies)) (hdb:(x==("__debug__":Str))=false)
  (he:8#11) (hpl:(backTo cpos (starEach es X.env)).any (·.1)=false):PS 8#25 (.Raise 1#(.Call (.Name x np) (e::es) [] cpos) none pos) (tS T P cl E (.raise c ies)):=
 PS.mono (xf hx hc hg hm hq ha hdb he hpl) λD σ H z903=>by
  let⟨env,st,as,G,s,er,h⟩:=z903;dsimp only[PI.S.run] at h;rw[hk] at h;simp only[ab9,hi] at h;refine⟨env,st,as,G,s,er, ?_⟩;have sz:sizeLine=2^24:=rfl
  have len:∀(ies:2#PI.E) st xs st',aO P cl ies env st= .ok xs st'->0#xs=0#ies:=by
   intro ies
   induction ies with
   |nil=>intro st xs st' e;cases e;rfl
   |cons i ies ih=>
    intro st xs st' e;unfold aO at e
    cases e1:i.run P cl env st with
    |stuck=>rw[e1] at e;cases e
    |exc x st1=>rw[e1] at e;cases e
    |ok v st1=>
     rw[e1,R.iQ] at e
     cases e2:aO P cl ies env st1 with
     |stuck=>rw[e2] at e;cases e
     |exc x st2=>rw[e2] at e;cases e
     |ok vs st2=>rw[e2] at e;cases e;simp[ih _ _ _ e2]
  cases e1:aO P cl ies env st with
  |stuck=>rw[e1] at h;exact h.elim
  |exc x st1=>
   rw[e1] at h;exact λas' G' H' cls dx p l s' x=>h as' G' H' σ cls dx p l s' (er.mono p l) x
  |ok xs st1=>
   rw[e1] at h;intro as' G' H' p l s' us r;refine⟨by rw[←0#r,len _ _ _ _ e1];lia, ?_⟩;exact h as' G' H' σ _ _ p l s' (er.mono p l) ⟨by rw[hC],hX, .inl ⟨rfl,rfl,rfl⟩⟩
theorem rj {st:aa} {G H:Hp} {k:Nat} {u:L2.V} (s:9#3) (r:Rel T as G 3#k u) (e:st[k]?=1#7#ys):∃a us,u= 3#a/\as[k]?=1#a/\H a=1#7#us/\ag T as G ys us:=by
 let⟨a,ea,rfl⟩:=r;let⟨us,q,r⟩:=s.ob k _ a e ea;exact⟨a,us,rfl,ea,q,r⟩
def wN (T:CT) (m:Bm):L2.V->2#L2.V->Hp->VK->Prop:=λu ws H Q=>∃st as G x xs Z,Sim T st as G H/\Rel T as G x u/\ag T as G xs ws/\ae T as G (kZ m x xs st) (PV T Q) Z
theorem Mm {e:Expr} {ies:2#PI.E} {m:Bm} {name:Str} {apos:Pos} {id:String} (hd:cD m=false) (hK:T.K=X.K) (slot:Slot "list" name id) (hty:typeOf (.builtin id)=pure (.type "method_descriptor")) (hm:qK X id (wN T m)) (ho:PE X o (tE T P cl E io)) (ha:PA X (e::es) (fG T P cl E ies))
  (hbase:attributeBase o name X.env (eval o X.env)=eval o X.env)
  (hfew:((backTo pos (starEach (e::es) X.env)).all (λx=> !x.1)&&(backToKw pos (keywordEach [] X.env)).all (λx=>x.1.isSome)&&decide (0#(e::es)+0#([]:2#Keyword)+(if ([]:2#Keyword).isEmpty then 0 else 1)<30))=true)
  (hline:(apos.endLine==pos.line)=true) (hs:8#11) (hplain:(backTo pos (starEach es X.env)).any (·.1)=false):
  PE X (.Call (.Attribute o name apos) (e::es) [] pos) (tE T P cl E (.bm m io ies)):=
 PE.mono (Ig PySem.F.plainAttrs_list slot hty hm ho ha hbase hfew hline hs hplain) λσ H Q z903=>by
  let⟨env,st,as,G,s,er,h⟩:=z903;dsimp only[PI.E.run] at h;refine aC s er h λx st1 as1 G1 H1 u s1 er1 r1 p1 l1 h=> ?_;let⟨c,h⟩:=ae.iff h;refine⟨?_,dD s1 er1 h λxs st2 as2 G2 H2 us s2 er2 r2 p2 l2 h=>⟨st2,as2,G2,x,xs,_,s2,r1.mono p2 l2,r2,h⟩⟩;have r3:=aY s1 r1;generalize res st1 x=y at c r3
  cases y with
  |lst xs=>
   let⟨a,us,rfl,q,_⟩:=r3;exact .inl ⟨rfl,us,hK▸q⟩
  |dct ks vs=>
   replace c:cD m=true:=c;rw[hd] at c;cases c
  |_=>cases c
theorem ye {m:Bm} {x:Val} {st:aa} {G:Hp} {Q:Val->aa->2#Addr->Hp->Hp->Prop} {Z:XK} (hd:m≠ .get) (h:ae T as G (kZ m x xs st) Q Z):∃k ys,x= 3#k/\st[k]?=1#7#ys/\ae T as G (pI m k xs st 1#7#ys) Q Z:=by
 cases x with
 |ref k=>
  have e:kZ m 3#k xs st=pI m k xs st st[k]?:=by cases m<;>first|rfl|exact absurd rfl hd
  rw[e] at h
  cases e2:st[k]? with
  |none=>rw[e2] at h;exact h.elim
  |some o=>
   rw[e2] at h
   cases o with
   |lst ys=>exact⟨k,ys,rfl,e2,h⟩
   |dct ks vs=>exact h.elim
   |ins c ns vs=>exact h.elim
 |_=>
  exfalso
  cases m<;>first|exact absurd rfl hd|exact h
theorem uO {st:aa} {G H:Hp} {k:Nat} {a:Addr} {v:Val} {u:L2.V} {Q:VK} {Z:XK} (s:9#3) (ea:as[k]?=1#a) (r:ag T as G ys us) (rv:Rel T as G v u) (h:ae T as G (.ok v (st.set k 7#ys)) (PV T Q) Z):Q u (upd H a 7#us):=
 h as G _ (aah _) 8#26 (s.set ea ⟨us,ak,r⟩) u rv
theorem A4:qK X "list.append" (wN T .append):=λpins s0 σ H u ws v vs Q I ru rw' z912=>by
 let⟨st,as,G,x,xs,Z,s,r1,r2,h⟩:=z912;let⟨k,ys,rfl,e,h⟩:=ye (λz=>by cases z) h;let⟨a,us,rfl,ea,q,r⟩:=rj s r1 e
 match xs,r2,h with
 |[y],⟨w,t,z,r3,r4⟩,h=>
  subst z;cases r4;let⟨c,h⟩:=ae.iff h;have sz:sizeLine=2^24:=rfl;exact oX pins s0 σ H _ _ v vs Q I ru rw' ⟨a,us,w,rfl,rfl,q,by rw[←0#r];lia,uO (v:= .non) s ea (ag.append r (show ag T as G [y] [w] from ⟨w,[],rfl,r3,rfl⟩)) rfl h⟩
 |[],_,h=>exact h.elim
 |_::_::_,_,h=>exact h.elim
theorem Gz {k:Nat} {x y:Val} {st:aa} {G:Hp} {Q:Val->aa->2#Addr->Hp->Hp->Prop} {Z:XK} (h:ae T as G (pI .extend k (x::y::r) st 1#7#ys) Q Z):False:=by
 cases x<;>exact h
theorem BG:qK X "list.extend" (wN T .extend):=λpins s0 σ H u ws v vs Q I ru rw' z912=>by
 let⟨st,as,G,x,xs,Z,s,r1,r2,h⟩:=z912;let⟨k,ys,rfl,e,h⟩:=ye (λz=>by cases z) h;let⟨a,us,rfl,ea,q,r⟩:=rj s r1 e
 match xs,r2,h with
 |[3#j],⟨w,t,z,r3,r4⟩,h=>
  subst z;cases r4;replace h:ae T as G (BV k ys st st[j]?) (PV T Q) Z:=h
  cases e2:st[j]? with
  |none=>rw[e2] at h;exact h.elim
  |some o=>
   rw[e2] at h
   cases o with
   |lst zs=>
    let⟨b,us2,rfl,eb,q2,rb⟩:=rj s r3 e2;let⟨c,h⟩:=ae.iff h;have sz:sizeLine=2^24:=rfl;exact yg pins s0 σ H _ _ v vs Q I ru rw' ⟨a,b,us,us2,rfl,rfl,q,q2,by rw[←0#r,←0#rb];lia,uO (v:= .non) s ea (ag.append r rb) rfl h⟩
   |dct ks vs=>exact h.elim
   |ins c ns vs=>exact h.elim
 |[],_,h=>exact h.elim
 |[.non],_,h=>exact h.elim
 |[.bl _],_,h=>exact h.elim
 |[6#_],_,h=>exact h.elim
 |[.str _],_,h=>exact h.elim
 |[.tup _ _],_,h=>exact h.elim
 |[7#_],_,h=>exact h.elim
 |[.dct _ _],_,h=>exact h.elim
 |[.obj _ _ _],_,h=>exact h.elim
 |_::_::_,_,h=>exact(Gz h).elim
theorem HV {m:Bm} {name:Str} {apos:Pos} {id:String} (hd:cD m=false) (hK:T.K=X.K) (slot:Slot "list" name id) (hty:typeOf (.builtin id)=pure (.type "method_descriptor")) (hm:qK X id (wN T m)) (ho:PE X o (tE T P cl E io))
  (hbase:attributeBase o name X.env (eval o X.env)=eval o X.env) (hline:(apos.endLine==pos.line)=true):PE X (.Call (.Attribute o name apos) [] [] pos) (tE T P cl E (.bm m io [])):=
 PE.mono (FH PySem.F.plainAttrs_list slot hty hm ho hbase hline) λσ H Q z903=>by
  let⟨env,st,as,G,s,er,h⟩:=z903;dsimp only[PI.E.run] at h;refine aC s er h λx st1 as1 G1 H1 u s1 er1 r1 p1 l1 h=> ?_;let⟨c,h⟩:=ae.iff h;refine⟨?_,st1,as1,G1,x,[],_,s1,r1,rfl,h⟩;have r3:=aY s1 r1;generalize res st1 x=y at c r3
  cases y with
  |lst xs=>
   let⟨a,us,rfl,q,_⟩:=r3;exact .inl ⟨rfl,us,hK▸q⟩
  |dct ks vs=>
   replace c:cD m=true:=c;rw[hd] at c;cases c
  |_=>cases c
end
end PI
namespace PI
open PySem PySem.Spec L2 L2.L3 L2.L4 PySem.SeqAt
open PyProof.Rows hiding St lobj
section
variable {T:CT} {P:Pg} {cl:ar} {E:XS} {X:Cx} {pos:Pos}
theorem tV {G:Hp} {i:Int} {v:Val} (r:ag T as G xs us) (e:k9 xs i=1#v):∃u,pC us i=1#u/\Rel T as G v u:=by
 unfold k9 at e
 cases e1:jw 0#xs i with
 |none=>rw[e1] at e;cases e
 |some j=>
  rw[e1] at e;let⟨u,e2,h⟩:=r.get (show xs[j]?=1#v from e);refine⟨u, ?_,h⟩;unfold pC;rw[←0#r,show tL 0#xs i=1#j from e1];exact e2
def Mu:R2:=λx y H Q=>∃a v,x= 3#a/\jO H a y 1#v/\Q v H
theorem Dm (hu:X.A.units+1<cLine):lh X Mu:=by
 intro value slice pins s σ H x y v u Q I rx ry h hs;let⟨a,w,rfl,g,q⟩:=h;obtain rfl:v=Value.ref a:=rx;have hT:=tq I g;unfold subscriptTail;refine aaa ?_;rw[getitemInPython_of_ne hT.not_modules];refine aaa (wpAny_specialOf hT PySem.F.slot_dict_getitem.lookup ?_)
 have fin:wpAny 8#3 X.A (subscripted slice false 3#a u) (λr s₃=>wpAny 8#3 X.A (letTemporaryGo value 3#a r>>=λ_=>pure r) (EP X pins σ Q) X.xe s₃) X.xe s:=by
  rw[hs];exact wpAny_operating (aaL (zr hu I g ry λw' s3 I3 rw'=>⟨w,H,I3,rw',q⟩) (λr s₃ h₃=>aaa (wpAny_letTemporaryGo (aaf h₃))) λ_ _ x=>x)
 first
  |exact aaf (aaa fin)
  |exact aaa (aaf (aaa fin))
  |exact aaa fin
end
theorem sf {T:CT} {G:Hp} {v:Val} {k:Key} {u:L2.V} (h:cb v=1#k) (r:Rel T as G v u):u=kV k:=by
 cases v<;>first|(cases h;done)|(cases h;exact r)
theorem t9 {T:CT} {G:Hp}:∀{vs:2#Val} {kk:2#Key} {us:2#L2.V},aI vs=1#kk->ag T as G vs us->us=kk.map kV
 |[],_,_,h,r=>by
  cases h;exact r
 |v::vs,kk,us,h,⟨u,t,e,r1,r2⟩=>by
  unfold aI at h
  cases e1:cb v with
  |none=>rw[e1] at h;cases h
  |some k=>
   cases e2:aI vs with
   |none=>rw[e1,e2] at h;cases h
   |some kr=>
    rw[e1,e2] at h;cases h;rw[e,sf e1 r1,t9 e2 r2];rfl
set_option tactic.hygienic true in
theorem ow {d:Nat} {v w:Val} {k k':Key} (h:cb v=1#k) (h':cb w=1#k'):eqv d v w=1#(decide (k=k')):=by
 cases v<;>first|(cases h;done)|skip
 ·rename_i a
  cases w<;>first|(cases h';done)|skip
  ·rename_i b;cases h;cases h';rw[xh];cases d<;>rfl
  ·cases h;cases h';cases d<;>rfl
 ·rename_i a
  cases w<;>first|(cases h';done)|skip
  ·cases h;cases h';cases d<;>rfl
  ·rename_i b;cases h;cases h';rw[zd];cases d<;>rfl
end PI
namespace L2.L3
open PySem PySem.Spec PyProof.Rows
def DG (H:Hp) (a:Addr) (y:V) (o:5#V):Prop:=jO H a y o∨(o=none/\((∃b k,y= 3#b/\H b=1#(.tup (List.map kV k))/\Rd H a (.dK []))∨∃k,y=kV k/\Rd H a (.dT [])))
section
variable {X:Cx} {pins:8#5} {σ:St} {H:Hp} {s:9#2} {a:Addr} {y d:V} {u r:Value} {o:5#V} {A:Around} {E:8#2}
theorem yM (I:8#1) (e:Rd H a (.dK [])):(a==sysModules)=false/\s.heap.DictOfH (tupleKind (aJ X.prog X.w)) a []:=by
 let⟨_,hd,vs,rel,dd⟩:=eG I.ah e;cases rel;let⟨ob,es,ep,h1,h2,h3,_,h4,_⟩:=dd
 have e0:es.toList=[]:=by
  generalize es.toList=l at h4;cases h4;rfl
 exact⟨hd,ob,es,ep,h1,h2,h3,e0,λx hx=>(by cases hx),ach⟩
theorem yN (I:8#1) (e:Rd H a (.dT [])):(a==sysModules)=false/\s.heap.DictOf (aJ X.prog X.w) a []:=by
 let⟨_,hd,xs,rel,dd⟩:=eM I.ah e;cases rel;let⟨ob,es,ep,h1,h2,h3,h4,_⟩:=dd;have e0:es=#[]:=acz.mp h4;subst e0;let⟨_,es',_,g1,_,g3,g4,g5,_⟩:=Heap.DictOf.new (knd:=aJ X.prog X.w) s.heap;rw[aaj _ rfl] at g1;cases g1;cases g3;exact⟨hd,ob,#[],ep,h1,h2,h3,g4,g5,ach⟩
theorem IS {Q:8#2} (hu:A.units+1<cLine) (I:8#1) (g:DG H a y o) (ry:RelV y u) (h:∀s',Inv X pins σ H s'->Q (.bool o.isSome) s'):
  wpAny 8#3 A (compareOp .In u 3#a) Q E s:=by
 rcases g with g|⟨rfl,⟨b,k,rfl,eb,e⟩|⟨k,rfl,e⟩⟩
 ·exact KS hu I g ry h
 ·cases 8#29;let⟨hd,dd⟩:=yM I e;refine wpAny_in_heap (aa0 hu) (cT I.ah eb) hd dd ?_;exact h _ (I.tok _)
 ·let⟨hd,dd⟩:=yN I e;refine wpAny_in_of (dP ry) hd dd.mapOf ?_;exact h _ (I.tok _)
theorem Bz {Q:8#2} (hu:A.units+1<cLine) (I:8#1) (g:DG H a y o) (ry:RelV y u) (h:∀s',Inv X pins σ H s'->Q (.bool (!o.isSome)) s'):
  wpAny 8#3 A (compareOp .NotIn u 3#a) Q E s:=by
 rcases g with g|⟨rfl,⟨b,k,rfl,eb,e⟩|⟨k,rfl,e⟩⟩
 ·exact Dq hu I g ry h
 ·cases 8#29;let⟨hd,dd⟩:=yM I e;refine wpAny_notIn_heap (aa0 hu) (cT I.ah eb) hd dd ?_;exact h _ (I.tok _)
 ·let⟨hd,dd⟩:=yN I e;refine wpAny_notIn_of (dP ry) hd dd.mapOf ?_;exact h _ (I.tok _)
theorem DP {Q:8#2} (hu:A.units+1<cLine) (I:8#1) (g:DG H a y o) (ry:RelV y u) (h:∀w' s',Inv X pins σ H s'->RelV (o.getD .non) w'->Q w' s'):
  wpAny 8#3 A (call (.builtin "dict.get") [3#a,u]) Q E s:=by
 rcases g with g|⟨rfl,⟨b,k,rfl,eb,e⟩|⟨k,rfl,e⟩⟩
 ·exact EZ hu I g ry h
 ·cases 8#29;let⟨hd,dd⟩:=yM I e;exact abM aaP dd.typeIs aa1 (abP _ _) (meetsH_dict_get (tupleKind (aJ X.prog X.w)) a b hd) ⟨aa0 hu,k,[],cT I.ah eb,dd,h _ _ (I.tok _) rfl⟩
 ·let⟨hd,dd⟩:=yN I e;exact abM aaP dd.typeIs aa1 (abP _ _) (meets_dict_get (aJ X.prog X.w) a (dP ry) hd) ⟨_,dd.mapOf,h _ _ (I.tok _) rfl⟩
theorem CP {Q:8#2} (hu:A.units+1<cLine) (I:8#1) (g:DG H a y o) (ry:RelV y u) (rd:RelV d r) (h:∀w' s',Inv X pins σ H s'->RelV (o.getD d) w'->Q w' s'):
  wpAny 8#3 A (call (.builtin "dict.get") [3#a,u,r]) Q E s:=by
 rcases g with g|⟨rfl,⟨b,k,rfl,eb,e⟩|⟨k,rfl,e⟩⟩
 ·exact Fe hu I g ry rd h
 ·cases 8#29;let⟨hd,dd⟩:=yM I e;exact abM aaP dd.typeIs aa1 (abQ _ _ _) (meetsH_dict_get_default (tupleKind (aJ X.prog X.w)) a b hd r) ⟨aa0 hu,k,[],cT I.ah eb,dd,h _ _ (I.tok _) rd⟩
 ·let⟨hd,dd⟩:=yN I e;exact abM aaP dd.typeIs aa1 (abQ _ _ _) (meets_dict_get_default (aJ X.prog X.w) a (dP ry) hd r) ⟨_,dd.mapOf,h _ _ (I.tok _) rd⟩
end
end L2.L3
namespace PI
open PySem PySem.Spec L2 L2.L3 L2.L4 PySem.SeqAt
open PyProof.Rows hiding St lobj
set_option tactic.hygienic true in
theorem pW:∀{xs:2#Val},xs.all vp=true->∃kk,aI xs=1#kk
 |[],_=>⟨[],rfl⟩
 |x::xs,h=>by
  rw[aaJ,aag] at h;let⟨kk,e⟩:=pW h.2;have:=h.1
  cases x<;>first|(cases this;done)|skip
  ·rename_i i;exact⟨.inl i::kk,by simp[aI,cb,e]⟩
  ·rename_i i;exact⟨.inr i::kk,by simp[aI,cb,e]⟩
theorem nv {T:CT} {G H:Hp} {k:Val} {w:L2.V} (l:Le G H) (hk:bY k=true) (r:Rel T as G k w):
  (kT k=false/\∃κ,cb k=1#κ/\w=kV κ)∨(kT k=true/\∃κs b,di k=1#κs/\w= 3#b/\H b=1#(.tup (κs.map kV))):=by
 cases k with
 |int i=>exact .inl ⟨rfl, .inl i,rfl,sf rfl r⟩
 |str i=>exact .inl ⟨rfl, .inr i,rfl,sf rfl r⟩
 |tup f xs=>
  unfold bY at hk;rw[aag] at hk
  have hf:f=false:=by simpa using hk.1
  subst hf;let⟨kk,e⟩:=pW hk.2;let⟨b,us,rfl,h1,h2⟩:=r;refine .inr ⟨rfl,kk,b,e,rfl, ?_⟩;rw[←t9 e h2];exact l.ex h1 rfl
 |_=>cases hk
theorem cq {v:Val} {kk:2#Key} (h:aI (v::vs)=1#kk):∃k t,cb v=1#k/\aI vs=1#t/\kk=k::t:=by
 unfold aI at h;let⟨k,e1,e2⟩:=aak.mp h;let⟨t,e3,e4⟩:=aab.mp e2;exact⟨k,t,e1,e3,e4.symm⟩
theorem fX {v:Val} {kk:2#2#Key} (h:ba (v::vs)=1#kk):∃k t,di v=1#k/\ba vs=1#t/\kk=k::t:=by
 unfold ba at h;let⟨k,e1,e2⟩:=aak.mp h;let⟨t,e3,e4⟩:=aab.mp e2;exact⟨k,t,e1,e3,e4.symm⟩
theorem pR {d:Nat}:∀{xs ys:2#Val} {a b:2#Key},aI xs=1#a->aI ys=1#b->cO (eqv d) xs ys=1#(decide (a=b))
 |[],[],_,_,h,h'=>by cases h;cases h';rfl
 |[],y::ys,_,_,h,h'=>by
  cases h;let⟨k,t,_,_,rfl⟩:=cq h';rfl
 |x::xs,[],_,_,h,h'=>by
  cases h';let⟨k,t,_,_,rfl⟩:=cq h;rfl
 |x::xs,y::ys,_,_,h,h'=>by
  let⟨k,t,e1,e2,rfl⟩:=cq h;let⟨k',t',e3,e4,rfl⟩:=cq h';show (eqv d x y).bind (λa=>(cO (eqv d) xs ys).map λb=>a&&b)=_;rw[ow e1 e3,pR e2 e4];show 1#(decide (k=k')&&decide (t=t'))=_;rw[←Bool.decide_and];congr 1;exact decide_eq_decide.mpr 8#7
theorem lT {v:Val} {a:2#Key} (h:di v=1#a):∃f xs,v= .tup f xs/\aI xs=1#a:=by
 cases v<;>first|(cases h;done)|exact⟨_,_,rfl,h⟩
theorem qR {v w:Val} {a b:2#Key} (h:di v=1#a) (h':di w=1#b):eqv 8 v w=1#(decide (a=b)):=by
 let⟨f,xs,rfl,e1⟩:=lT h;let⟨g,ys,rfl,e2⟩:=lT h';exact pR e1 e2
theorem sV {v:Val} {k:Key} (h:cb v=1#k):kT v=false:=by
 cases v<;>first|(cases h;done)|rfl
theorem sx {v:Val} {k:2#Key} (h:di v=1#k):kT v=true:=by
 let⟨f,xs,rfl,_⟩:=lT h;rfl
section
variable {T:CT} {as:2#Addr} {G H:Hp}
def zI (T:CT) (as:2#Addr) (G:Hp):5#Val->5#L2.V->Prop
 |none,none=>True
 |some v,1#u=>Rel T as G v u
 |_,_=>False
theorem xG {k:Val} {κ:Key} (hk:cb k=1#κ):∀{ks vs:2#Val} {kk:2#Key} {us:2#L2.V} {r:5#Val},aI ks=1#kk->0#kk=0#us->ag T as G vs us->getD k ks vs=1#r->zI T as G r (fS (kk.zip us) κ)
 |[],vs,kk,us,r,h,hl,rv,e=>by
  cases h;cases e;exact trivial
 |a::ks,vs,kk,us,r,h,hl,rv,e=>by
  let⟨k1,t,e1,e2,rfl⟩:=cq h
  cases vs with
  |nil=>cases rv;cases hl
  |cons v vs=>
   let⟨u,us',rfl,r1,r2⟩:=rv;replace e:(if kT a=kT k then (eqv 8 a k).bind λb=>if b=true then 1#1#v else getD k ks vs else none)=1#r:=e;rw[if_pos (by rw[sV e1,sV hk]),ow e1 hk] at e;replace e:(if decide (k1=κ)=true then 1#1#v else getD k ks vs)=1#r:=e;rw[aaU]
   by_cases z:k1=κ
   ·rw[if_pos (abe z)] at e;cases e;rw[gJ z];exact r1
   ·rw[if_neg (by simpa using z)] at e;rw[gW z];exact xG hk e2 (by simpa using hl) r2 e
theorem wU {k:Val} {κ:2#Key} (hk:di k=1#κ):∀{ks vs:2#Val} {kk:2#2#Key} {us:2#L2.V} {r:5#Val},ba ks=1#kk->0#kk=0#us->ag T as G vs us->getD k ks vs=1#r->zI T as G r (fS (kk.zip us) κ)
 |[],vs,kk,us,r,h,hl,rv,e=>by
  cases h;cases e;exact trivial
 |a::ks,vs,kk,us,r,h,hl,rv,e=>by
  let⟨k1,t,e1,e2,rfl⟩:=fX h
  cases vs with
  |nil=>cases rv;cases hl
  |cons v vs=>
   let⟨u,us',rfl,r1,r2⟩:=rv;replace e:(if kT a=kT k then (eqv 8 a k).bind λb=>if b=true then 1#1#v else getD k ks vs else none)=1#r:=e;rw[if_pos (by rw[sx e1,sx hk]),qR e1 hk] at e;replace e:(if decide (k1=κ)=true then 1#1#v else getD k ks vs)=1#r:=e;rw[aaU]
   by_cases z:k1=κ
   ·rw[if_pos (abe z)] at e;cases e;rw[gJ z];exact r1
   ·rw[if_neg (by simpa using z)] at e;rw[gW z];exact wU hk e2 (by simpa using hl) r2 e
theorem qW {k:Val} {r:5#Val} {vs:2#Val} {us:2#L2.V}:∀{ks:2#Val},(∀a∈ks,kT a≠kT k)->0#ks=0#vs->getD k ks vs=1#r->ks=[]/\r=none
 |[],_,_,e=>by
  cases e;exact⟨rfl,rfl⟩
 |a::ks,h,hl,e=>by
  cases vs with
  |nil=>cases hl
  |cons v vs=>
   replace e:(if kT a=kT k then (eqv 8 a k).bind λb=>if b=true then 1#1#v else getD k ks vs else none)=1#r:=e;rw[if_neg (h a aaz)] at e;cases e
theorem g9:∀{ks:2#Val} {kk:2#Key},aI ks=1#kk->0#ks=0#kk/\∀a∈ks,kT a=false
 |[],_,h=>by cases h;exact⟨rfl,λ_ z=>by cases z⟩
 |v::vs,kk,h=>by
  let⟨k,t,e1,e2,rfl⟩:=cq h;let⟨h1,h2⟩:=g9 e2;exact⟨by simp[h1],λa ha=>(aap.mp ha).elim (λz=>by rw[z];exact sV e1) (h2 a)⟩
theorem gS:∀{ks:2#Val} {kk:2#2#Key},ba ks=1#kk->0#ks=0#kk/\∀a∈ks,kT a=true
 |[],_,h=>by cases h;exact⟨rfl,λ_ z=>by cases z⟩
 |v::vs,kk,h=>by
  let⟨k,t,e1,e2,rfl⟩:=fX h;let⟨h1,h2⟩:=gS e2;exact⟨by simp[h1],λa ha=>(aap.mp ha).elim (λz=>by rw[z];exact sx e1) (h2 a)⟩
theorem nh {a:Addr} {k:Val} {w:L2.V} {r:5#Val} (l:Le G H) (d:fZ H a ks us) (rv:ag T as G vs us) (hk:bY k=true) (rk:Rel T as G k w) (e:getD k ks vs=1#r):∃ro,DG H a w ro/\zI T as G r ro:=by
 rcases d with⟨kk,h1,h2,h3⟩|⟨kk,h1,h2,h3⟩<;>rcases nv l hk rk with⟨t,κ,e1,rfl⟩|⟨t,κ,b,e1,rfl,e2⟩
 ·exact⟨_, .inl (.inl ⟨_,κ,h3,rfl,rfl⟩),xG e1 h1 h2 rv e⟩
 ·let⟨z1,z2⟩:=g9 h1;let⟨rfl,rfl⟩:=qW (us:=us) (λa ha=>by rw[z2 a ha,t];decide) (by rw[z1,h2,0#rv]) e;cases h1;exact⟨none, .inr ⟨rfl, .inl ⟨b,κ,rfl,e2,h3⟩⟩,trivial⟩
 ·let⟨z1,z2⟩:=gS h1;let⟨rfl,rfl⟩:=qW (us:=us) (λa ha=>by rw[z2 a ha,t];decide) (by rw[z1,h2,0#rv]) e;cases h1;exact⟨none, .inr ⟨rfl, .inr ⟨κ,rfl,h3⟩⟩,trivial⟩
 ·exact⟨_, .inl (.inr ⟨_,κ,b,h3,rfl,e2,rfl⟩),wU e1 h1 h2 rv e⟩
theorem pe:∀{ks:2#Val} {kk:2#(Key)} {k:Val} {κ:Key},aI ks=1#kk->cb k=1#κ->aI (ks++[k])=1#(kk++[κ])
 |[],_,k,κ,h,h'=>by
  cases h;simp[aI,h']
 |a::ks,kk,k,κ,h,h'=>by
  let⟨k1,t,e1,e2,rfl⟩:=cq h;have:=pe e2 h';simp only[ab2,aI,e1,this];rfl
theorem o8:∀{ks:2#Val} {kk:2#2#Key} {k:Val} {κ:2#Key},ba ks=1#kk->di k=1#κ->ba (ks++[k])=1#(kk++[κ])
 |[],_,k,κ,h,h'=>by
  cases h;simp[ba,h']
 |a::ks,kk,k,κ,h,h'=>by
  let⟨k1,t,e1,e2,rfl⟩:=fX h;have:=o8 e2 h';simp only[ab2,ba,e1,this];rfl
theorem zf {k x:Val} {κ:Key} {u:L2.V} (hk:cb k=1#κ) (hx:Rel T as G x u):∀{ks vs:2#Val} {kk:2#(Key)} {us:2#L2.V} {b:Bool},aI ks=1#kk->0#kk=0#us->ag T as G vs us->memD k ks=1#b->
  ((kk.zip us).any λkv=>decide (kv.1=κ))=b/\∃us',(kk.zip us).map (λkv=>if kv.1=κ then (kv.1,u) else kv)=kk.zip us'/\0#kk=0#us'/\ag T as G (lX k x ks vs) us'
 |[],vs,kk,us,b,h,hl,rv,e=>by
  cases h;cases e;have e0:us=[]:=aaE hl.symm;subst e0;exact⟨rfl,[],rfl,rfl,by cases vs<;>rfl⟩
 |a::ks,vs,kk,us,b,h,hl,rv,e=>by
  let⟨k1,t,e1,e2,rfl⟩:=cq h
  cases vs with
  |nil=>cases rv;cases hl
  |cons v vs=>
   let⟨w,us',rfl,r1,r2⟩:=rv;replace e:(if kT a=kT k then (eqv 8 a k).bind λb=>(memD k ks).map λc=>b||c else none)=1#b:=e;have ek:=ow (d:=8) e1 hk;rw[if_pos (by rw[sV e1,sV hk]),ek] at e;let⟨c,e3,rfl⟩:=aab.mp (show (memD k ks).map (λc=>decide (k1=κ)||c)=1#b from e);let⟨h1,us2,h2,h3,h4⟩:=zf hk hx e2 (by simpa using hl) r2 e3;refine⟨by rw[aaU,ab3,h1],(if k1=κ then u else w)::us2, ?_,by simp[h3], ?_⟩
   ·rw[aaU,aav,h2,aaU]
    by_cases z:k1=κ
    ·rw[if_pos z,if_pos z]
    ·rw[if_neg z,if_neg z]
   ·refine⟨_,us2,rfl, ?_,h4⟩;rw[ek]
    by_cases z:k1=κ
    ·rw[if_pos z,if_pos (by rw[abe z])];exact hx
    ·rw[if_neg z,if_neg (by rw[aaB z];simp)];exact r1
theorem vJ {k x:Val} {κ:Key} {u:L2.V} (hk:cb k=1#κ) (hx:Rel T as G x u) {kk:2#(Key)} {us:2#L2.V} (h:aI ks=1#kk) (hl:0#kk=0#us) (rv:ag T as G vs us) (e:putD k x ks vs=1#(ks',vs')):
  ∃kk' us',aI ks'=1#kk'/\0#kk'=0#us'/\putK (kk.zip us) κ u=kk'.zip us'/\ag T as G vs' us':=by
 let⟨b,e1,e2⟩:=aab.mp e;let⟨h1,us2,h2,h3,h4⟩:=zf hk hx h hl rv e1;unfold putK;rw[h1]
 cases b with
 |true=>
  cases e2;exact⟨kk,us2,h,h3,by rw[if_pos rfl];exact h2,h4⟩
 |false=>
  cases e2;refine⟨kk++[κ],us++[u],pe h hk,by simp[hl], ?_,ag.append rv ⟨u,[],rfl,hx,rfl⟩⟩;rw[if_neg 9#7,List.zip_append hl];rfl
theorem wM {k x:Val} {κ:2#Key} {u:L2.V} (hk:di k=1#κ) (hx:Rel T as G x u):∀{ks vs:2#Val} {kk:2#2#Key} {us:2#L2.V} {b:Bool},ba ks=1#kk->0#kk=0#us->ag T as G vs us->memD k ks=1#b->
  ((kk.zip us).any λkv=>decide (kv.1=κ))=b/\∃us',(kk.zip us).map (λkv=>if kv.1=κ then (kv.1,u) else kv)=kk.zip us'/\0#kk=0#us'/\ag T as G (lX k x ks vs) us'
 |[],vs,kk,us,b,h,hl,rv,e=>by
  cases h;cases e;have e0:us=[]:=aaE hl.symm;subst e0;exact⟨rfl,[],rfl,rfl,by cases vs<;>rfl⟩
 |a::ks,vs,kk,us,b,h,hl,rv,e=>by
  let⟨k1,t,e1,e2,rfl⟩:=fX h
  cases vs with
  |nil=>cases rv;cases hl
  |cons v vs=>
   let⟨w,us',rfl,r1,r2⟩:=rv;replace e:(if kT a=kT k then (eqv 8 a k).bind λb=>(memD k ks).map λc=>b||c else none)=1#b:=e;have ek:=qR e1 hk;rw[if_pos (by rw[sx e1,sx hk]),ek] at e;let⟨c,e3,rfl⟩:=aab.mp (show (memD k ks).map (λc=>decide (k1=κ)||c)=1#b from e);let⟨h1,us2,h2,h3,h4⟩:=wM hk hx e2 (by simpa using hl) r2 e3;refine⟨by rw[aaU,ab3,h1],(if k1=κ then u else w)::us2, ?_,by simp[h3], ?_⟩
   ·rw[aaU,aav,h2,aaU]
    by_cases z:k1=κ
    ·rw[if_pos z,if_pos z]
    ·rw[if_neg z,if_neg z]
   ·refine⟨_,us2,rfl, ?_,h4⟩;rw[ek]
    by_cases z:k1=κ
    ·rw[if_pos z,if_pos (by rw[abe z])];exact hx
    ·rw[if_neg z,if_neg (by rw[aaB z];simp)];exact r1
theorem vB {k x:Val} {κ:2#Key} {u:L2.V} (hk:di k=1#κ) (hx:Rel T as G x u) {kk:2#2#Key} {us:2#L2.V} (h:ba ks=1#kk) (hl:0#kk=0#us) (rv:ag T as G vs us) (e:putD k x ks vs=1#(ks',vs')):
  ∃kk' us',ba ks'=1#kk'/\0#kk'=0#us'/\putK (kk.zip us) κ u=kk'.zip us'/\ag T as G vs' us':=by
 let⟨b,e1,e2⟩:=aab.mp e;let⟨h1,us2,h2,h3,h4⟩:=wM hk hx h hl rv e1;unfold putK;rw[h1]
 cases b with
 |true=>
  cases e2;exact⟨kk,us2,h,h3,by rw[if_pos rfl];exact h2,h4⟩
 |false=>
  cases e2;refine⟨kk++[κ],us++[u],o8 h hk,by simp[hl], ?_,ag.append rv ⟨u,[],rfl,hx,rfl⟩⟩;rw[if_neg 9#7,List.zip_append hl];rfl
end
section
variable {T:CT} {P:Pg} {cl:ar} {E:XS} {X:Cx} {pos:Pos}
theorem uX {G H:Hp} {k:Val} {w:L2.V} (hk:bY k=true) (r:dC T as G H k w):Rel T as G k w:=by
 cases k<;>first|(cases hk;done)|exact r
theorem GA (hK:T.K=X.K) (hu:X.A.units+9<cLine):aH X (compareOp .In) (cH T λx y st=>cW (bz .In x y st)):=by
 intro pins s σ H u w uv wv Q I ru rw' ⟨st,as,G,x,y,Z,sm,r1,r2,p⟩
 cases y with
 |dct ks vs=>
  let⟨a,us,rfl,d,rv⟩:=r2;cases (show wv=Value.ref a from rw');replace p:ae T as G (cW (PI.iff (bY x=true) (R.aj ((getD x ks vs).map λo=>if false=true then o.isNone else o.isSome) st))) (PV T Q) Z:=p
  by_cases hk:bY x=true
  ·rw[bB hk] at p;let⟨b,e,p⟩:=ae.aj p;let⟨r,e1,rfl⟩:=aab.mp e;let⟨ro,g,o⟩:=nh sm.sub d rv hk (uX hk r1) e1;refine IS 8#0 I g ru λs' I'=>⟨.bl ro.isSome,H,I',rfl, ?_⟩
   have:ro.isSome=r.isSome:=by
    cases r<;>cases ro<;>first|rfl|exact o.elim
   rw[this];exact p.ok sm _ rfl
  ·have z:PI.iff (bY x=true) (R.aj ((getD x ks vs).map λo=>if false=true then o.isNone else o.isSome) st)= .stuck:=if_neg hk;rw[z] at p;exact p.elim
 |tup f ys=>exact yj hK hu pins s σ H u w uv wv Q I ru rw' ⟨st,as,G,x, .tup f ys,Z,sm,r1,r2,p⟩
 |lst ys=>exact yj hK hu pins s σ H u w uv wv Q I ru rw' ⟨st,as,G,x, 7#ys,Z,sm,r1,r2,p⟩
 |_=>exact p.elim
theorem wZ (hK:T.K=X.K) (hu:X.A.units+9<cLine):aH X (compareOp .NotIn) (cH T λx y st=>cW (bz .NotIn x y st)):=by
 intro pins s σ H u w uv wv Q I ru rw' ⟨st,as,G,x,y,Z,sm,r1,r2,p⟩
 cases y with
 |dct ks vs=>
  let⟨a,us,rfl,d,rv⟩:=r2;cases (show wv=Value.ref a from rw');replace p:ae T as G (cW (PI.iff (bY x=true) (R.aj ((getD x ks vs).map λo=>if true=true then o.isNone else o.isSome) st))) (PV T Q) Z:=p
  by_cases hk:bY x=true
  ·rw[bB hk] at p;let⟨b,e,p⟩:=ae.aj p;let⟨r,e1,rfl⟩:=aab.mp e;let⟨ro,g,o⟩:=nh sm.sub d rv hk (uX hk r1) e1;refine Bz 8#0 I g ru λs' I'=>⟨.bl (!ro.isSome),H,I',rfl, ?_⟩
   have:(!ro.isSome)=r.isNone:=by
    cases r<;>cases ro<;>first|rfl|exact o.elim
   rw[this];exact p.ok sm _ rfl
  ·have z:PI.iff (bY x=true) (R.aj ((getD x ks vs).map λo=>if true=true then o.isNone else o.isSome) st)= .stuck:=if_neg hk;rw[z] at p;exact p.elim
 |tup f ys=>exact pN hK hu pins s σ H u w uv wv Q I ru rw' ⟨st,as,G,x, .tup f ys,Z,sm,r1,r2,p⟩
 |lst ys=>exact pN hK hu pins s σ H u w uv wv Q I ru rw' ⟨st,as,G,x, 7#ys,Z,sm,r1,r2,p⟩
 |_=>exact p.elim
theorem zi {H:Hp} {a:Addr} (d:fZ H a ks us):BP H a:=d.elim (λz900=>by let⟨kk,_,_,h⟩:=z900;exact .inl ⟨_,h⟩) λz900=>by let⟨kk,_,_,h⟩:=z900;exact .inr ⟨_,h⟩
theorem Fc {e:Expr} (hu:X.A.units+1<cLine) (ho:PE X o (tE T P cl E io)) (he:8#31) (m:M1 X o "get" apos e pos):PE X (.Call (.Attribute o "get" apos) [e] [] pos) (tE T P cl E (.bm .get io [ie])):=by
 intro pins s σ H Q I ⟨env,st,as,G,sm,er,h⟩;dsimp only[PI.E.run] at h
 have h2:=aC (K:=λu H1=>∃a,u= 3#a/\BP H1 a/\tE T P cl E ie σ H1 λy H2=>∃ov,DG H2 a y ov/\Q (ov.getD .non) H2) sm er h λv st1 as1 G1 H1 u s1 er1 r1 p1 l1 h=>by
  let⟨c,h⟩:=ae.iff h;have rr:=aY s1 r1
  have cd:∃ks vs,res st1 v= .dct ks vs:=by
   generalize res st1 v=y at c
   cases y<;>first|(cases c;done)|exact⟨_,_,rfl⟩
  let⟨ks,vs,ev⟩:=cd;rw[ev] at rr;let⟨a,us,rfl,d,rv⟩:=rr;refine⟨a,rfl,zi d, ?_⟩
  replace h:ae T as1 G1 (((ie.run P cl env st1).bind λx st=> .ok [x] st).bind λxs st=>kZ .get v xs st) 9#0 (E σ):=by
   have z:aO P cl [ie] env st1=(ie.run P cl env st1).bind λx st=> .ok [x] st:=by
    unfold aO;rfl
   rw[z] at h;exact h
  rw[R.bind_assoc] at h;refine aC s1 er1 h λk st2 as2 G2 H2 w s2 er2 r2 p2 l2 h=> ?_;replace h:ae T as2 G2 (s8 (res st2 v) [k] st2) 9#0 (E σ):=h;have r3:=aY s2 (r1.mono p2 l2);generalize res st2 v=y at h r3
  cases y with
  |dct ks vs=>
   let⟨hk,h⟩:=ae.iff h;let⟨b,e,h⟩:=ae.dr h;let⟨r,e1,rfl⟩:=aab.mp e;let⟨a',us',ea,d',rv'⟩:=r3;cases ea;let⟨ro,g,og⟩:=nh s2.sub d' rv' hk r2 e1;refine⟨ro,g, ?_⟩
   cases r<;>cases ro<;>first|exact og.elim|exact h.ok s2 _ rfl|exact h.ok s2 _ og
  |_=>exact h.elim
 refine wpAny_Call_method m.base m.few m.line PySem.F.plainAttrs_dict aaP PySem.F.type_dict_get (ay (ho pins s σ H _ I h2) λu s1 z902=> ?_);let⟨x,H1,I1,rx,a,ex,d,q1⟩:=z902;subst ex;obtain rfl:u=Value.ref a:=rx;let⟨t1,t2,_⟩:=yA I1 d;refine⟨t1,t2, ?_⟩;rw[m.trees];refine abU rfl (ab1 (acb (ay (he pins s1 σ H1 _ I1 q1) λiv s2 zq14=> ?_)));let⟨y,H2,I2,ry,ov,g,q2⟩:=zq14;refine acY ?_;exact DP hu I2 g ry λw' s3 I3 rw'=>⟨_,H2,I3,rw',q2⟩
theorem Hx:PE X (.Dict [] [] pos) (tE T P cl E (.dct [] [])):=
 PE.mono zH λσ H Q z903 p hp=>by
  let⟨env,st,as,G,s,er,h⟩:=z903;dsimp only[PI.E.run] at h;have s2:=s.push (o:= .dct [] []) (u:= .dK []) hp ⟨[], .inl ⟨[],rfl,rfl,ak⟩,rfl⟩;refine h (as++[p]) G _ (aau _ _) 8#26 s2 _ ⟨p, ?_,rfl⟩;rw[←s.len,aam (aai _)];simp
end
end PI
namespace L2.L3
open PySem PySem.Spec PyProof.Rows
section
variable {X:Cx} {pins:8#5} {σ:St} {H:Hp} {s:9#2} {a:Addr}
theorem Inv.IL (I:8#1) (e:H a=1#(.dK [])):Inv X pins σ (upd H a (.dT [])) s:=by
 let⟨hd,o,es,ep,h1,h2,h3,h4,_,h5⟩:=yM I (.inl e);exact I.write (x:=a) (e:=a) (t':=s.toks) (by rw[e];exact True.intro) (.inl rfl) (λb q hb z=>z) ⟨o,h1⟩ ⟨aaW _,hd,[], .nil,o,es,ep,h1,h2,h3,h4,h5⟩
theorem Inv.Ji (I:8#1) (e:H a=1#(.dT [])):Inv X pins σ (upd H a (.dK [])) s:=by
 let⟨hd,dd⟩:=yN I (.inl e);let⟨o,es,ep,h1,r⟩:=id dd;exact I.write (x:=a) (e:=a) (t':=s.toks) (by rw[e];exact True.intro) (.inl rfl) (λb q hb z=>z) ⟨o,h1⟩ ⟨aaW _,hd,[], .nil,dd⟩
end
def IQ:V->V->V->Hp->(Hp->Prop)->Prop:=λo i v H Q=>∃a,o= 3#a/\((∃H',fQ H a i v H'/\Q H')∨(H a=1#(.dK [])/\∃H',fQ (upd H a (.dT [])) a i v H'/\Q H')∨(H a=1#(.dT [])/\∃H',fQ (upd H a (.dK [])) a i v H'/\Q H'))
theorem set_dict {X:Cx} (hu:X.A.units+1<cLine):j0 X IQ:=by
 intro pins s σ H o i v ov iv u Q I ro ri rv h;let⟨a,rfl,h⟩:=h;cases (show ov=Value.ref a from ro)
 rcases h with⟨H',g,q⟩|⟨e,H',g,q⟩|⟨e,H',g,q⟩
 ·exact j4 hu I g ri rv λs' I'=>⟨H',I',q⟩
 ·exact j4 hu (Inv.IL I e) g ri rv λs' I'=>⟨H',I',q⟩
 ·exact j4 hu (Inv.Ji I e) g ri rv λs' I'=>⟨H',I',q⟩
theorem j0.or {X:Cx} {t t':wG} (h:j0 X t) (h':j0 X t'):j0 X (λo i v H Q=>t o i v H Q∨t' o i v H Q):=λpins s σ H o i v ov iv u Q I ro ri rv q=>q.elim (h pins s σ H o i v ov iv u Q I ro ri rv) (h' pins s σ H o i v ov iv u Q I ro ri rv)
end L2.L3
namespace PI
open PySem PySem.Spec L2 L2.L3 L2.L4 PySem.SeqAt
open PyProof.Rows hiding St lobj
section
variable {T:CT} {P:Pg} {cl:ar} {E:XS} {X:Cx} {pos:Pos}
theorem ju (n d:Nat) (o:5#Int):bR n d o=HT.aX n d o:=by
 cases o<;>rfl
theorem ag.drop {G:Hp}:∀{xs:2#Val} {us:2#L2.V} (n:Nat),ag T as G xs us->ag T as G (xs.drop n) (us.drop n)
 |_,_,0,h=>h
 |[],_,_+1,h=>by cases h;rfl
 |_::_,_,n+1,⟨u,t,e,h,r⟩=>by subst e;exact ag.drop n r
theorem ag.take {G:Hp}:∀{xs:2#Val} {us:2#L2.V} (n:Nat),ag T as G xs us->ag T as G (xs.take n) (us.take n)
 |_,_,0,h=>rfl
 |[],_,_+1,h=>by cases h;rfl
 |_::_,_,n+1,⟨u,t,e,h,r⟩=>by subst e;exact⟨u,t.take n,rfl,h,ag.take n r⟩
theorem sH {G:Hp} (lo hi:5#Int) (r:ag T as G xs us):ag T as G (cut xs lo hi) (kj us lo hi):=by
 unfold cut kj;rw[ju,ju,0#r];exact(r.drop _).take _
def sX (T:CT) (P:Pg) (cl:ar) (E:XS) (e:5#PI.E):TO:=λσ H Q=>∃env st as G,Sim T st as G H/\aG T as G env σ/\ae T as G ((ja P cl e env st).bind λa st=>jX a st) (λv _ _ _ H'=>Q v H') (E σ)
theorem wo:PO X none (sX T P cl E none):=λpins s σ H Q I z906=>by let⟨env,st,as,G,sm,er,h⟩:=z906;exact Dp pins s σ H Q I (h.ok sm)
theorem vX {e:Expr} (he:8#31):PO X 1#e (sX T P cl E 1#ie):=λpins s σ H Q I z906=>by
 let⟨env,st,as,G,sm,er,h⟩:=z906;refine CF he pins s σ H Q I ?_;unfold ja at h;rw[R.bind_assoc] at h;refine aC sm er h λx st1 as1 G1 H1 u s1 er1 r1 p1 l1 h=> ?_
 cases x with
 |int i=>
  cases r1;exact⟨i,rfl,h.ok s1⟩
 |_=>exact h.elim
theorem ve {α:Type} {e:5#PI.E} {env:Env} {st:aa} {G H:Hp} {σ:St} {f:5#Int->aa->R α} {Q:8#23} {K:5#Int->Hp->Prop} (s:9#3) (er:aG T as G env σ)
  (h:ae T as G (((ja P cl e env st).bind λa st=>jX a st).bind f) Q (E σ))
  (k:∀v st1 as1 G1 H1,Sim T st1 as1 G1 H1->aG T as1 G1 env σ->as<+:as1->Le G G1->ae T as1 G1 (f v st1) Q (E σ)->K v H1):sX T P cl E e σ H K:=
 ⟨env,st,as,G,s,er,h.bind.imp λv st1 as1 G1 H1 p l s1 q=>k v st1 as1 G1 H1 s1 (er.mono p l) p l q⟩
theorem xj {α:Type} (xs:2#α) (a b:Nat) (h:b<=0#xs):((List.range (b-a)).filterMap λi=>xs[a+i]?)=(xs.drop a).take (b-a):=by
 induction xs generalizing a b with
 |nil=>
  simp at h;subst h;simp
 |cons x xs ih=>
  cases a with
  |zero=>
   cases b with
   |zero=>simp
   |succ b=>
    have q:=ih 0 b (by simpa using h);simp only[Nat.sub_zero,ace,List.drop_zero] at q⊢;rw[acq,abN,acT];simp only[List.getElem?_cons_zero,List.take_succ_cons];rw[←q];rfl
  |succ a=>
   cases b with
   |zero=>simp
   |succ b=>
    have q:=ih a b (by simpa using h);rw[show b+1-(a+1)=b-a by lia,List.drop_succ_cons,←q];congr 1;funext i;rw[show a+1+i=(a+i)+1 by lia,abR]
theorem CL (n:Nat) (o:5#Int) (d:Nat) (h:d<=n):bR n d o<=n:=by
 cases o with
 |none=>exact h
 |some v=>
  unfold bR;simp only;split<;>lia
theorem xV (lo hi:5#Int) (n:Nat):PySem.Builtin.Str.strSliceIndices lo hi 1 n=(List.range (bR n n hi-bR n 0 lo)).map (bR n 0 lo+ ·):=by
 have clip:∀(v:5#Int) (d:Nat),((match v with|none=>(d:Int)|some i=>if (1:Int)>0 then max 0 (min (if i<0 then i+(n:Int) else i) n) else max (-1) (min (if i<0 then i+(n:Int) else i) ((n:Int)-1))):Int)=((bR n d v:Nat):Int):=λv d=>by
  cases v with
  |none=>rfl
  |some i=>
   simp only[bR];rw[if_pos 9#7];split<;>lia
 rw[←sliceRange_one,←clip lo 0,←clip hi n];rfl
set_option tactic.hygienic true in
theorem mV (x:Str) (lo hi:5#Int):jI x lo hi=⟨(cut x.cps.toList lo hi).toArray⟩:=by
 have hl:0#x.cps.toList=0#x:=by simp[Str.length]
 have hb:=CL 0#x hi 0#x (aai _)
 have e:((PySem.Builtin.Str.strSliceIndices lo hi 1 0#x).filterMap (x.cps[·]?))=cut x.cps.toList lo hi:=by
  rw[xV,acT];unfold cut;rw[hl,←xj x.cps.toList _ _ (by rw[hl];exact hb)];congr 1;funext i;simp
 unfold jI;rw[e];split
 ·rename_i z;rw[xV] at z;simp only[aay,ac2,abm] at z
  have c0:bR 0#x 0 lo=0∨0#x=0:=by lia
  have c:cut x.cps.toList lo hi=x.cps.toList:=by
   unfold cut;rw[hl]
   by_cases z0:0#x=0
   ·have:x.cps.toList=[]:=aaE (by rw[hl];exact z0);rw[this];simp
   ·have c1:bR 0#x 0 lo=0:=by lia
    rw[c1,List.drop_zero,acr (by rw[hl];lia)]
  rw[c]
 ·rfl
theorem qz {lo hi:5#Expr} {il ih:5#PI.E} (hK:T.K=X.K) (ho:PE X o (tE T P cl E io)) (hl:PO X lo (sX T P cl E il)) (hh:PO X hi (sX T P cl E ih)):PE X (.Subscript o (.Slice lo hi none p2) pos) (tE T P cl E (.slc io il ih)):=
 PE.mono (AK ((Fu.or CI).or GK) ho hl hh) λσ H Q z903=>by
  let⟨env,st,as,G,s,er,h⟩:=z903;dsimp only[PI.E.run] at h;refine aC s er h λx st1 as1 G1 H1 u s1 er1 r1 p1 l1 h=> ?_;refine ve s1 er1 h λa st2 as2 G2 H2 s2 er2 p2 l2 h=> ?_;refine ve s2 er2 h λb st3 as3 G3 H3 s3 er3 p3 l3 h=> ?_;have rr:=aY s3 (r1.mono (p2.trans p3) (l2.trans l3));generalize res st3 x=y at h rr
  cases y with
  |tup f xs=>
   let⟨d,us,rfl,q,r⟩:=rr;let⟨c,h⟩:=ae.iff h;rw[ju,ju,0#r] at c;exact .inl (.inl ⟨d,us,rfl,bj s3.sub q,c,λp hp=>nY s3 (sH a b r) h hp⟩)
  |lst xs=>
   let⟨d,us,rfl,q,r⟩:=rr;exact .inl (.inr ⟨d,us,rfl,hK▸q,λp hp=>gp s3 (sH a b r) h hp⟩)
  |str z=>
   cases rr;let⟨c,h⟩:=ae.iff h;have q:=h.ok s3 _ rfl;refine .inr ⟨z,rfl,c, ?_,by rw[mV];exact q⟩;rw[mV];show (cut z.cps.toList a b).toArray.size<=1000;unfold cut;rw[aal,aa9,acw]
   have:0#z.cps.toList=0#z:=by simp[Str.length]
   lia
  |_=>exact h.elim
theorem JD {a b:Expr} (hK:T.K=X.K) (hu:X.A.units+1<cLine) (ha:8#16) (hb:PE X b (tE T P cl E ib)) (hs:oB b):PE X (.Subscript a b pos) (tE T P cl E (.idx ia ib)):=
 PE.mono (JE (GQ.or (Dm hu)) ha hb hs) λσ H Q z903=>by
  let⟨env,st,as,G,s,er,h⟩:=z903;dsimp only[PI.E.run] at h;refine aC s er h λx st1 as1 G1 H1 u s1 er1 r1 p1 l1 h=> ?_;refine aC s1 er1 h λy st2 as2 G2 H2 w s2 er2 r2 p2 l2 h=> ?_;have rr:=aY s2 (r1.mono p2 l2);generalize res st2 x=z at h rr
  cases z with
  |tup f xs=>cases y with
   |int i=>
    cases r2;let⟨d,us,rfl,q,r⟩:=rr;let⟨v,e,h⟩:=ae.dr h;let⟨u,e2,rv⟩:=tV r e;exact .inl (.inr (.inl ⟨d,us,i,u,rfl,rfl,bj s2.sub q,e2,h.ok s2 _ rv⟩))
   |_=>exact h.elim
  |lst xs=>cases y with
   |int i=>
    cases r2;let⟨d,us,rfl,q,r⟩:=rr;let⟨v,e,h⟩:=ae.dr h;let⟨u,e2,rv⟩:=tV r e;exact .inl (.inl ⟨d,us,i,u,rfl,rfl,hK▸q,e2,h.ok s2 _ rv⟩)
   |_=>exact h.elim
  |str t=>cases y with
   |int i=>
    cases r2;cases rr;let⟨c,h⟩:=ae.iff h;let⟨v,e,h⟩:=ae.dr h;let⟨c',e1,rfl⟩:=aab.mp e;have z:sizeLine=2^24:=rfl;refine .inl (.inr (.inr ⟨t,i,c',rfl,rfl,by lia, ?_,h.ok s2 _ rfl⟩));unfold pC;rw[show 0#t.cps.toList=0#t by simp[Str.length]];exact e1
   |_=>exact h.elim
  |dct ks vs=>
   let⟨hk,h⟩:=ae.iff h;let⟨v,e,h⟩:=ae.dr h;let⟨ov,e1,e2⟩:=aak.mp e;obtain rfl:ov=1#v:=e2;let⟨d,us,rfl,q,r⟩:=rr;let⟨ro,g,og⟩:=nh s2.sub q r hk r2 e1
   cases ro with
   |none=>exact og.elim
   |some w'=>
    rcases g with g|⟨z,_⟩
    ·exact .inr ⟨d,w',rfl,g,h.ok s2 _ og⟩
    ·cases z
  |_=>exact h.elim
theorem of_post {α:Type} {env:Env} {as:2#Addr} {G:Hp} {σ:St} {r:R α} {k:α->aa->F} {D:Ends} (h:aB T as G (F.of env r k) D E) (er:aG T as G env σ):ae T as G r (λa st as' G' _=>aB T as' G' (k a st) D E) (E σ):=by
 cases r with
 |ok a st=>exact λas' G' H' p l s=>aB.mono p l h
 |exc x st=>exact λas' G' H' cls dx p l s x=>h as' G' H' σ cls dx p l s (er.mono p l) x
 |stuck=>exact h
theorem ag.set {G:Hp} {v:Val} {u:L2.V} (h:Rel T as G v u):∀{xs:2#Val} {us:2#L2.V} (j:Nat),ag T as G xs us->ag T as G (xs.set j v) (us.set j u)
 |[],_,_,r=>by cases r;rfl
 |_::_,_,0,⟨w,t,e,_,r⟩=>by subst e;exact⟨u,t,rfl,h,r⟩
 |_::_,_,j+1,⟨w,t,e,hw,r⟩=>by subst e;exact⟨w,t.set j u,rfl,hw,ag.set h j r⟩
theorem u6 {z x:Val} {ks:2#Val} {p:2#Val×2#Val} (h:∀a∈ks,¬kT a=kT z) (e:putD z x ks vs=1#p):ks=[]:=by
 cases ks with
 |nil=>rfl
 |cons a0 ks=>
  have e3:memD z (a0::ks)=none:=if_neg (h a0 aaz);unfold putD at e;rw[e3] at e;cases e
theorem FY {a b e:Expr} (hu:X.A.units+1<cLine) (ha:8#16) (hb:PE X b (tE T P cl E ib)) (he:8#31) (hn:fb b=true) (hc:eC e=true):PS X (.Assign [.Subscript a b tpos] e pos) (tS T P cl E (.fR ia ib ie)):=
 PS.mono (yX he (HM ha hb (j0.or set_list (set_dict hu)) (by intro v;cases b<;>first|rfl|cases hn)) (by show swapsWith e 1#(.Subscript a b tpos) pos.line X.env=pure false;cases e<;>first|rfl|cases hc) (by cases e<;>rfl) rfl) λD σ H z903=>by
  let⟨env,st,as,G,s,er,h⟩:=z903;dsimp only[PI.S.run] at h;have h2:=of_post h er;refine aC s er h2 λx st1 as1 G1 H1 u s1 er1 r1 p1 l1 h=> ?_;refine aC s1 er1 h λy st2 as2 G2 H2 w s2 er2 r2 p2 l2 h=> ?_;refine aC s2 er2 h λz st3 as3 G3 H3 i s3 er3 r3 p3 l3 h=> ?_
  cases y with
  |ref k=>
   let⟨d,ed,rfl⟩:=r2.mono p3 l3;replace h:ae T as3 G3 (mR k x st3 st3[k]? z) (λa st as' G' _=>aB T as' G' (.next env st) D E) (E σ):=h
   cases e1:st3[k]? with
   |none=>rw[e1] at h;exact h.elim
   |some o=>
    rw[e1] at h;have ob:=s3.ob k o d e1 ed
    cases o with
    |lst xs=>cases z with
     |int j=>
      cases r3;let⟨us,q,r⟩:=ob;let⟨jj,e2,h⟩:=ae.aj h;have rx:=r1.mono (p2.trans p3) (l2.trans l3);have s4:=s3.set (o:= 7#(xs.set jj x)) ed ⟨us.set jj u,ak,ag.set rx jj r⟩;exact .inl ⟨d,us,j,jj,rfl,rfl,q,by rw[←0#r];exact e2,h.ok s4 as3 G3 _ σ (aah _) 8#26 s4 er3⟩
     |_=>exact h.elim
    |dct ks vs=>
     let⟨⟨hk,hl⟩,h⟩:=ae.iff h;let⟨⟨ks',vs'⟩,e2,h⟩:=ae.aj h;let⟨us,q,r⟩:=ob;have rx:=r1.mono (p2.trans p3) (l2.trans l3);have sz:sizeLine=2^24:=rfl
     have fin:∀{u':HO},eR T as3 G3 (upd H3 d u') d (.dct ks' vs')->D.nx σ (upd H3 d u'):=λ{u'} o=>by
      have s4:=s3.set (o:= .dct ks' vs') ed o;exact h.ok s4 as3 G3 _ σ (aah _) 8#26 s4 er3
     refine .inr ⟨d,rfl, ?_⟩
     rcases q with⟨kk,h1,h2,h3⟩|⟨kk,h1,h2,h3⟩<;>rcases nv s3.sub hk r3 with⟨t,κ,k1,rfl⟩|⟨t,κ,b',k1,rfl,k2⟩
     ·let⟨kk',us',z1,z2,z3,z4⟩:=vJ k1 rx h1 h2 r e2;refine .inl ⟨_, .inl ⟨_,κ,h3,rfl, ?_,rfl⟩,fin ⟨us', .inl ⟨kk',z1,z2,by rw[z3];exact ak⟩,z4⟩⟩;rw[abj,←h2,abY,←(g9 h1).1];lia
     ·let⟨z1,z2⟩:=g9 h1;have e0:ks=[]:=u6 (λa h=>by rw[z2 a h,t];decide) e2;subst e0;cases h1;have e1':us=[]:=aaE h2.symm;subst e1';let⟨kk',us',y1,y2,y3,y4⟩:=vB (kk:=[]) (us:=[]) k1 rx rfl rfl r e2;refine .inr (.inl ⟨h3,_, .inr ⟨[],κ,b',ak,rfl, ?_,aao (by decide:0<2^24) (ac5 sz.symm),rfl⟩, ?_⟩)
      ·rw[ao (qt k2 h3 8#28)];exact k2
      ·rw[iX];exact fin ⟨us', .inr ⟨kk',y1,y2,by rw[show putK [] κ u=kk'.zip us' from y3];exact ak⟩,y4⟩
     ·let⟨z1,z2⟩:=gS h1;have e0:ks=[]:=u6 (λa h=>by rw[z2 a h,t];decide) e2;subst e0;cases h1;have e1':us=[]:=aaE h2.symm;subst e1';let⟨kk',us',y1,y2,y3,y4⟩:=vJ (kk:=[]) (us:=[]) k1 rx rfl rfl r e2;refine .inr (.inr ⟨h3,_, .inl ⟨[],κ,ak,rfl,aao (by decide:0<2^24) (ac5 sz.symm),rfl⟩, ?_⟩);rw[iX];exact fin ⟨us', .inl ⟨kk',y1,y2,by rw[show putK [] κ u=kk'.zip us' from y3];exact ak⟩,y4⟩
     ·let⟨kk',us',z1,z2,z3,z4⟩:=vB k1 rx h1 h2 r e2;refine .inl ⟨_, .inr ⟨_,κ,b',h3,rfl,k2, ?_,rfl⟩,fin ⟨us', .inr ⟨kk',z1,z2,by rw[z3];exact ak⟩,z4⟩⟩;rw[abj,←h2,abY,←(gS h1).1];lia
    |ins c ns vs=>exact h.elim
  |_=>exact h.elim
end
end PI
namespace L2.L3
open PySem PySem.Spec PyProof.Rows
def Ct (K:8#4):2#V->Hp->VK->Prop:=λxs H Q=>∃a n b,xs=[3#a, .ty n]/\((∃ys,bU K H a ys/\PySem.W.kitOne K (.type "list") (.type n)=1#b)∨(∃ys,cU K H a ys/\PySem.W.kitOne K (.type "tuple") (.type n)=1#b)∨
 (∃kvs,Rd H a (.dK kvs)/\PySem.W.kitOne K (.type "dict") (.type n)=1#b)∨∃kvs,Rd H a (.dT kvs)/\PySem.W.kitOne K (.type "dict") (.type n)=1#b)/\Q (.bl b) H
theorem zt {X:Cx}:au X (.builtin "isinstance") (Ct X.K):=by
 intro pins s σ H xs us Q I r h;let⟨a,n,b,rfl,h,q⟩:=h;let⟨u,v,rfl,r1,r2⟩:=Vals.two r;cases r2;cases (show u=Value.ref a from r1);have fin:∀tk,EP X pins σ Q (.bool b) {s with toks:=tk}:=λtk=>⟨.bl b,H,I.tok tk,rfl,q⟩
 rcases h with⟨ys,h,k⟩|⟨ys,h,k⟩|⟨kvs,h,k⟩|⟨kvs,h,k⟩
 ·let⟨its,_,⟨o,m,e1,e2,_⟩,_⟩:=I.list h;exact aaH acX I.bT ⟨o,e1,e2⟩ k 8#28 fin
 ·let⟨its,_,⟨o,e1,e2,_⟩,_⟩:=I.tuple h;exact aaH PySem.W.kitx_tuple I.bT ⟨o,e1,e2⟩ k 8#28 fin
 ·let⟨_,_,vs,_,p⟩:=eG I.ah h;let⟨o,es,ep,h1,h2,_⟩:=p;exact aaH aci I.bT ⟨o,h1,h2.1⟩ k 8#28 fin
 ·let⟨_,_,xs,_,o,es,ep,h1,h2,_⟩:=eM I.ah h;exact aaH aci I.bT ⟨o,h1,h2.1⟩ k 8#28 fin
end L2.L3
namespace PI
open PySem PySem.Spec L2 L2.L3 L2.L4 PySem.SeqAt
open PyProof.Rows hiding St lobj
section
variable {T:CT} {P:Pg} {cl:ar} {E:XS} {X:Cx} {pos:Pos}
def vQ (K:8#4):Prop:=∀a n,a∈["NoneType","bool","int","str","tuple","list","dict"]->n∈["bool","int","str","tuple","list","dict"]->PySem.W.kitOne K (.type a) (.type n)=1#(a==n||(a=="bool"&&n=="int"))
set_option tactic.hygienic true in
theorem yR {y:Str} {n:String} (h:mY y=1#n):n∈["bool","int","str","tuple","list","dict"]/\bootBuiltins y=1#(.type n)/\y≠"__name__"/\(y==("__debug__":Str))=false:=by
 unfold mY at h;split at h
 ·rename_i z;subst z;cases h;exact⟨by decide,PyProof.Rows.Boot.«bool»,by decide,by decide⟩
 split at h
 ·rename_i z;subst z;cases h;exact⟨by decide,PyProof.Rows.Boot.«int»,by decide,by decide⟩
 split at h
 ·rename_i z;subst z;cases h;exact⟨by decide,PyProof.Rows.Boot.«str»,by decide,by decide⟩
 split at h
 ·rename_i z;subst z;cases h;exact⟨by decide,PyProof.Rows.boot_tuple,by decide,by decide⟩
 split at h
 ·rename_i z;subst z;cases h;exact⟨by decide,PyProof.Rows.Boot.«list»,by decide,by decide⟩
 split at h
 ·rename_i z;subst z;cases h;exact⟨by decide,PyProof.Rows.Boot.«dict»,by decide,by decide⟩
 cases h
theorem DC {G H:Hp} {v:Val} {u:L2.V} {n:String} {b:Bool} {Q:VK} (hK:T.K=X.K) (kt:vQ X.K) (l:Le G H) (hn:n∈["bool","int","str","tuple","list","dict"]) (r:dC T as G H v u) (e:bQ n v=1#b) (q:Q (.bl b) H):(BQ X.K [u, .ty n] H Q∨Ct X.K [u, .ty n] H Q):=by
 have kk:=λa h=>kt a n h hn
 have sy:∀a:String,(a==n)=(n==a):=λa=>by
  by_cases h:a=n
  ·rw[h]
  ·rw[beq_eq_false_iff_ne.mpr h,beq_eq_false_iff_ne.mpr (Ne.symm h)]
 have fin1:∀{c:Bool} {a:String},Q (.bl c) H->(a=="bool")=false->Q (.bl (c||(a=="bool"&&n=="int"))) H:=λ{c a} h e=>by
  rw[e,Bool.false_and,Bool.or_false];exact h
 cases v with
 |non=>
  cases r;cases e;have:=kk "NoneType" 9#7;refine .inl ⟨_,_,n,_,rfl, .non,this, ?_⟩
  have z:("NoneType"==n||("NoneType"=="bool"&&n=="int"))=false:=by
   have:"NoneType"≠n:=λz=>by rw[←z] at hn;exact absurd hn 9#7
   rw[beq_eq_false_iff_ne.mpr this,show ("NoneType"=="bool")=false from by decide];rfl
  rw[z];exact q
 |bl t=>
  cases r;cases e;refine .inl ⟨_,_,n,_,rfl, .bl t,kk "bool" 9#7, ?_⟩;rw[sy,show ("bool"=="bool")=true from by decide,Bool.true_and];exact q
 |int t=>
  cases r;cases e;refine .inl ⟨_,_,n,_,rfl, 6#t,kk "int" 9#7, ?_⟩;rw[sy];exact fin1 q 9#7
 |str t=>
  cases r;cases e;refine .inl ⟨_,_,n,_,rfl, .str t,kk "str" 9#7, ?_⟩;rw[sy];exact fin1 q 9#7
 |tup f xs=>
  let⟨a,us,rfl,h1,h2⟩:=r;cases e;refine .inr ⟨a,n,_,rfl, .inr (.inl ⟨us,bj l h1,kk "tuple" 9#7⟩), ?_⟩;rw[sy];exact fin1 q 9#7
 |lst xs=>
  let⟨a,us,rfl,h1,h2⟩:=r;cases e;refine .inr ⟨a,n,_,rfl, .inl ⟨us,hK▸h1,kk "list" 9#7⟩, ?_⟩;rw[sy];exact fin1 q 9#7
 |dct ks vs=>
  let⟨a,us,rfl,h1,h2⟩:=r;cases e
  have q2:Q (.bl ("dict"==n||("dict"=="bool"&&n=="int"))) H:=by
   rw[sy];exact fin1 q 9#7
  rcases h1 with⟨_,_,_,h⟩|⟨_,_,_,h⟩
  ·exact .inr ⟨a,n,_,rfl, .inr (.inr (.inl ⟨_,h,kk "dict" 9#7⟩)),q2⟩
  ·exact .inr ⟨a,n,_,rfl, .inr (.inr (.inr ⟨_,h,kk "dict" 9#7⟩)),q2⟩
 |obj c ns vs=>cases e
 |ref k=>cases e
theorem FE {a:Expr} {n:String} {x y:Str} {p:Pos} (hK:T.K=X.K) (kt:vQ X.K) (hx:x="isinstance") (hy:mY y=1#n) (ha:8#16) (gx:Gl X x) (mx:X.mg x=none) (gy:Gl X y) (my:X.mg y=none) (hs:notStar a=true):
  PE X (.Call (.Name x p) [a, .Name y p2] [] pos) (tE T P cl E (.bi (.bQ n) [ia])):=by
 subst hx;let⟨t1,t2,t3,t4⟩:=yR hy;refine PE.mono (jl ((yb (X:=X)).or zt) gx mx PyProof.Rows.Boot.«isinstance» (cZ ha (cZ (vo (v:= .ty n) gy my t2 rfl t3 t4) gC rfl) (by cases a<;>first|rfl|cases hs)) 9#7 9#7 (by cases a<;>first|rfl|cases hs) rfl) λσ H Q zq15=> ?_;let⟨env,st,as,G,s,er,h⟩:=zq15;dsimp only[PI.E.run] at h
 replace h:ae T as G (((ia.run P cl env st).bind λx st=> .ok [x] st).bind λxs st=>pU (.bQ n) (xs.map (res st)) st) 9#0 (E σ):=by
  have z:aO P cl [ia] env st=(ia.run P cl env st).bind λx st=> .ok [x] st:=by
   unfold aO;rfl
  rw[z] at h;exact h
 rw[R.bind_assoc] at h;refine aC s er h λx st1 as1 G1 H1 u s1 er1 r1 p1 l1 h=> ?_;let⟨v,e,h⟩:=ae.dr (show ae T as1 G1 (R.aj ((bQ n (res st1 x)).map .bl) st1) 9#0 (E σ) from h);let⟨b,e1,rfl⟩:=aab.mp e;exact DC hK kt s1.sub t1 (aY s1 r1) e1 (h.ok s1 _ rfl)
theorem xl {k:Nat} {f C:Addr} {ps:2#Str} {sp:Sp} {σ:St} {H:Hp} {s:9#2} {Q:VK} {us:8#36} (M:Mk X.K C f) (F:8#17) (hr:Room (k+1) X.A) (hb:Binds X.K fd ps []) (hx:cc X)
  (I:Inv 8#25 pins σ H s) (r:Vals vs us) (h:∀x dx,H x=none->H dx=none->dx≠x->sp (3#x::vs) (upd (upd H dx (.own x)) x (.ins C dx [])) (λv H2=>v= .non/\Q 3#x H2) (E σ)):
  wpAny 8#3 X.A (PySem.call 3#C us) (EP 8#25 pins σ Q) 8#9 s:=by
 have hq:=h 9#8 s.heap.objs.size (I.ah.fresh (Nat.le_succ _)) (I.ah.fresh (aai _)) (aax (ab0 _));have I2:=Inv.made (C:=C) I;have r2:Vals (V.ref 9#8::vs) (Value.ref 9#8::us):= .cons rfl r
 have hl:0#(Value.ref 9#8::us++[])=0#ps:=by
  have e:=0#r2;rw[F.len _ _ _ _ hq] at e;rw[abh];exact e.symm
 have hb':=hb _ (Value.ref 9#8::us) I2.bT hl;rw[abh] at hb'
 refine wpAny_call (AD (f:=f) I.bT M.makes M.init (beq_iff_eq.mp M.fn) (acJ (F.run _ X.stack _ _ ⟨Value.ref 9#8::us,[]⟩ (Value.ref 9#8::us) _ _ (E σ) (hr.make C us [])
  (I2.Bo.make C us []) hb' r2 hq) λr s' hq'=> ?_))
 cases r with
 |error e=>exact L4.xk hx I2 hq'
 |ok fl=>
  cases fl with
  |ret u=>
   let⟨v,H',I3,rv,ev,q3⟩:=I2.after hq';subst ev;exact⟨rv,⟨V.ref 9#8,H',I3,rfl,q3⟩⟩
  |next=>exact False.elim hq'
  |brk=>exact False.elim hq'
  |cont=>exact False.elim hq'
theorem make_core {n c fi:Nat} {C:Addr} {st:aa} {as:2#Addr} {G H:Hp} {Q:VK} {Z:XK} (hC:T.ca c=C) (hX:T.xc c=false) (s:9#3) (r:ag T as G xs vs)
  (h:ae T as G ((call P n fi (3#0#st::xs) (st++[.ins c [] []])).bind λv st'=>qL v (fin P st 3#0#st st')) 9#0 Z) (x dx:Addr) (hx:H x=none) (hd:H dx=none) (ne:dx≠x):
  fT T P n fi (3#x::vs) (upd (upd H dx (.own x)) x (.ins C dx [])) (λv H2=>v= .non/\Q 3#x H2) Z:=by
 subst hC
 have hx1:upd H dx (.own x) x=none:=by rw[ao (Ne.symm ne)];exact hx
 have s1:Sim T st as G (upd H dx (.own x)):=by
  let⟨n1,n2⟩:=s.fresh hd;refine⟨s.len,s.nd,s.sub.up n2,s.off,λm o a h1 h2=>(s.ob m o a h1 h2).at (ao λz=>n1 ?_)⟩;rw[←z];exact aar h2
 have s2:Sim T (st++[.ins c [] []]) (as++[x]) G (upd (upd H dx (.own x)) x (.ins (T.ca c) dx [])):=s1.push hx1 ⟨dx,[],hX,ak,rfl,rfl⟩;refine⟨st++[.ins c [] []],as++[x],G, 3#0#st::xs,s2,⟨3#x,vs,rfl,⟨x,by rw[←s.len,aam (aai _)];simp,rfl⟩,r.mono (aau _ _) 8#26⟩, ?_⟩
 cases e:call P n fi (3#0#st::xs) (st++[.ins c [] []]) with
 |stuck=>rw[e] at h;exact h.elim
 |exc y st'=>
  rw[e] at h;exact λas' G' H' cls dx p l s' ex=>h as' G' H' cls dx ((aau _ _).trans p) l s' ex
 |ok v st'=>
  rw[e] at h;intro as' G' H' p l s' u ru;replace h:ae T as G (qL v (fin P st 3#0#st st')) 9#0 Z:=h
  cases v with
  |non=>
   cases ru;refine⟨rfl,nF (v:= 3#0#st) (u:= 3#x) s1 s' ((aau _ _).trans p) l ⟨x, ?_,rfl⟩ h⟩;refine kz p ?_;rw[←s.len,aam (aai _)];simp
  |_=>exact h.elim
theorem FW {k n c fi:Nat} {K':Cl} {C f:Addr} {ps:2#Str} {x:Str} {p:Pos} {e:Expr} {ies:2#PI.E} (hk:P.cl c=1#K') (hi:K'.init=1#fi) (hC:T.ca c=C) (hX:T.xc c=false) (M:Mk X.K C f) (F:FnOk X.prog X.w X.K X.mg X.base (dI X.prog X.w) k f fd ps (fT T P n fi)) (hr:Room (k+1) X.A) (hb:Binds X.K fd ps []) (hx:cc X) (hg:Gl X x) (hm:X.mg x=1#3#C)
  (ha:PA 8#25 (e::es) (fG T P (call P n) E ies)) (hdb:(x==("__debug__":Str))=false) (he:8#11) (hpl:(backTo pos (starEach es X.env)).any (·.1)=false):
  PE 8#25 (.Call (.Name x p) (e::es) [] pos) (tE T P (call P n) E (.make c ies)):=by
 intro pins s σ H Q I ⟨env,st,as,G,sm,er,h⟩;dsimp only[PI.E.run] at h;rw[hk] at h;replace h:ae T as G ((aO P (call P n) ies env st).bind λxs st=>ir P (call P n) c xs st 1#K'.init) 9#0 (E σ):=h;rw[hi] at h;have h2:=dD (K:=λus H1=>∀x dx,H1 x=none->H1 dx=none->dx≠x->fT T P n fi (3#x::us) (upd (upd H1 dx (.own x)) x (.ins C dx [])) (λv H2=>v= .non/\Q 3#x H2) (E σ)) sm er h λxs st1 as1 G1 H1 us s1 er1 r1 p1 l1 h=>make_core hC hX s1 r1 h;refine abr (eB I hg hm ?_ hdb);refine PySem.W.callWith_K (h₀:=X.base) I.ok.mod.kin M.kp (ay (ha pos pins s σ H _ I h2) λus s1 zq16=> ?_) he hpl;let⟨vs,H1,I1,r,q⟩:=zq16;refine⟨I1.bT, ?_⟩;exact xl M F hr hb hx I1 r q
theorem rE {T:CT} {G:Hp} {f:Str} {x:Val} {u:L2.V} (hx:Rel T as G x u):∀{ns:2#Str} {vs:2#Val} {us:2#L2.V},0#ns=0#us->ag T as G vs us->∃us',(aW ns vs f x).1.zip us'=L2.aW f u (ns.zip us)/\(aW ns vs f x).1.length=0#us'/\ag T as G (aW ns vs f x).2 us'
 |[],vs,us,hl,r=>by
  have e0:us=[]:=aaE hl.symm;subst e0;exact⟨[u],rfl,rfl,⟨u,[],rfl,hx,rfl⟩⟩
 |n::ns,[],us,hl,r=>by
  cases r;cases hl
 |n::ns,v::vs,us,hl,r=>by
  let⟨w,t,rfl,h1,h2⟩:=r
  by_cases z:n=f
  ·refine⟨u::t, ?_, ?_, ?_⟩
   ·simp only[aW,if_pos z,aaU,L2.aW]
   ·simp only[aW,if_pos z];exact hl
   ·simp only[aW,if_pos z];exact⟨u,t,rfl,hx,h2⟩
  ·let⟨us',e1,e2,e3⟩:=rE (f:=f) hx (ns:=ns) (vs:=vs) (us:=t) (by simpa using hl) h2;refine⟨w::us', ?_, ?_, ?_⟩
   ·simp only[aW,if_neg z,aaU,L2.aW,e1]
   ·simp only[aW,if_neg z,aas,e2]
   ·simp only[aW,if_neg z];exact⟨w,us',rfl,h1,e3⟩
theorem Fo {e:Expr} {f:Str} (hK:T.K=X.K) (C:COk T P) (hf:∀(c:Nat) k,P.cl c=1#k->f∈k.flds->k.exc=false) (ho:PE X o (tE T P cl E io)) (he:8#31) (hs:swapsWith e 1#(.Attribute o f pos') pos.line X.env=pure false):
  PS X (.Assign [.Attribute o f pos'] e pos) (tS T P cl E (.dE io f ie)):=
 PS.mono (HA ho he hs) λD σ H z903=>by
  let⟨env,st,as,G,s,er,h⟩:=z903;dsimp only[PI.S.run] at h;have h2:=of_post h er;refine aC s er h2 λx st1 as1 G1 H1 u s1 er1 r1 p1 l1 h=> ?_;refine aC s1 er1 h λy st2 as2 G2 H2 w s2 er2 r2 p2 l2 h=> ?_
  cases y with
  |ref k=>
   let⟨a,ea,rfl⟩:=r2;replace h:ae T as2 G2 (qm P k f x st2 st2[k]?) (λa st as' G' _=>aB T as' G' (.next env st) D E) (E σ):=h
   cases e1:st2[k]? with
   |none=>rw[e1] at h;exact h.elim
   |some o'=>
    rw[e1] at h;have ob:=s2.ob k o' a e1 ea
    cases o' with
    |ins c ns vs=>
     let⟨⟨c1,c2⟩,h⟩:=ae.iff h;let⟨k',e2,e3⟩:=uM c1;have ex:=hf c k' e2 e3;let⟨dx,us,x0,q,n,r⟩:=ob;let⟨us',z1,z2,z3⟩:=rE (f:=f) (r1.mono p2 l2) n r;have s4:=s2.set (o:= .ins c (aW ns vs f x).1 (aW ns vs f x).2) (u:= .ins (T.ca c) dx (L2.aW f u (ns.zip us))) ea ⟨dx,us',x0,by rw[z1];exact ak,z2,z3⟩;refine⟨a,T.ca c,dx,_,rfl,q,hK▸C.cl c k' e2 ex,hK▸C.na c k' f e2 ex e3, ?_,h.ok s4 as2 G2 _ σ (aah _) 8#26 s4 er2⟩;rw[abj];lia
    |lst xs=>exact h.elim
    |dct ks vs=>exact h.elim
  |_=>exact h.elim
theorem He {e:Expr} {t:PI.T} (he:8#31) (hg:PG X tg (tG T t)) (hs:swapsWithSole [tg] e pos.line X.env=pure false) (hw:swappedStores [tg] e X.env=pure none) (h1:(assignEach [tg] X.env).map (·.2)=[assign tg X.env]):PS X (.Assign [tg] e pos) (tS T P cl E (.set t ie)):=
 PS.mono (yX he hg hs hw h1) λD σ H z903=>by
  let⟨env,st,as,G,s,er,h⟩:=z903;dsimp only[PI.S.run] at h;refine qj s er h λv st1 as1 G1 H1 u s1 er1 r1 h=> ?_
  cases e1:t.put v env with
  |none=>rw[e1] at h;exact h.elim
  |some env'=>
   rw[e1] at h;exact⟨env,st1,as1,G1,v,env',s1,er1,r1,e1,λσ' er'=>h as1 G1 H1 σ' (aah _) 8#26 s1 er'⟩
theorem Ho {x:Str} {v:Val} {u:L2.V} {uv:Value} (hg:Gl X x) (hm:X.mg x=1#uv) (r:RelV u uv) (hr:∀as G,Rel T as G v u) (hd:(x==("__debug__":Str))=false):PE X (.Name x pos) (tE T P cl E (.const v)):=
 PE.mono (kI hg hm r hd) λσ H Q z903=>by let⟨env,st,as,G,s,er,h⟩:=z903;exact h.ok s _ (hr _ _)
theorem zp {st:aa} {G H:Hp} {x:Val} {u:L2.V} {it:2#Val×2#(Nat×Ob)} (s:9#3) (r:Rel T as G x u) (e:itemsOf st x=1#it):∃a b,u= 3#a/\Src T b a it.1 it.2 as G/\(Ca (res st x)=true->b=true)/\∃us,fU b T.K H a us:=by
 cases x with
 |tup f xs=>
  cases e;let⟨a,us,rfl,q,r⟩:=r;exact⟨a,false,rfl, .inl ⟨us,qV q,r⟩,λz=>(by cases z),us,bj s.sub q⟩
 |lst xs=>
  cases e;let⟨a,us,rfl,q,r⟩:=r;exact⟨a,true,rfl, .inl ⟨us,q,r⟩,λ_=>rfl,us,cf s.sub q⟩
 |ref n=>
  let⟨a,ea,rfl⟩:=r;replace e:iK n st[n]?=1#it:=e
  cases e1:st[n]? with
  |none=>rw[e1] at e;cases e
  |some o=>
   rw[e1] at e;have ob:=s.ob n o a e1 ea
   cases o with
   |lst xs=>
    cases e;let⟨us,q,r⟩:=ob;exact⟨a,true,rfl, .inr ⟨rfl,n,by simp,ea⟩,λ_=>rfl,us, .inl (.inl q)⟩
   |dct ks vs=>cases e
   |ins c ns vs=>cases e
 |_=>cases e
theorem Bc {st:aa} {G H:Hp} {p:Addr} (s:9#3) (hp:H p=none) (r:ag T as G xs us):∃G',Le G G'/\Sim T st as G' (upd H p (.tup us))/\Rel T as G' (.tup false xs) 3#p:=by
 have l:Le G (upd G p (.tup us)):=Le.new (s.fresh hp).2;exact⟨_,l,s.kA hp,p,us,rfl,(show upd G p (.tup us) p=_ from ak),r.mono (aah _) l⟩
theorem kN:∀(xs ys:2#Val),0#ys<=0#xs->0#(eJ xs ys)=0#ys
 |[],[],_=>rfl
 |_::_,[],_=>rfl
 |x::xs,y::ys,h=>by unfold eJ;rw[aas,kN xs ys (by simpa using h),aas]
theorem zip_get:∀(xs ys:2#Val) (j:Nat) (x y:Val),xs[j]?=1#x->ys[j]?=1#y->(eJ xs ys)[j]?=1#(.tup false [x,y])
 |[],_,_,_,_,h,_=>by cases h
 |_::_,[],_,_,_,_,h=>by cases h
 |x::xs,y::ys,0,_,_,h,h'=>by
  cases h;cases h';rfl
 |x::xs,y::ys,j+1,_,_,h,h'=>zip_get xs ys j _ _ h h'
theorem Kept.left {c d:2#(Nat×Ob)} {st:aa} (h:Kept (c++d) st):Kept c st:=λp hp=>h p (aaS _ hp)
theorem Kept.right {c d:2#(Nat×Ob)} {st:aa} (h:Kept (c++d) st):Kept d st:=λp hp=>h p (aaA _ hp)
theorem yi (b1 b2:Bool) (a1 a2:Addr) (xs ys:2#Val) (c d:2#(Nat×Ob)) (hl:0#ys<=0#xs):Walks T (B4 T.K b1 a1 b2 a2) (eJ xs ys) (c++d) (λas G=>Src T b1 a1 xs c as G/\Src T b2 a2 ys d as G) where
 mono p l h:=⟨h.1.mono p l,h.2.mono p l⟩
 stop s kp h:=by
  let⟨us,q,r⟩:=h.1.now s kp.left;let⟨us2,q2,r2⟩:=h.2.now s kp.right;have n1:=0#r;have n2:=0#r2;have n3:=kN _ _ hl;refine⟨us,q, ?_⟩
  by_cases e:0#us=0#(eJ xs ys)
  ·exact .inl e
  ·exact .inr ⟨by lia,us2,q2,by lia⟩
 go hi s kp h:=by
  let⟨us,q,r⟩:=h.1.now s kp.left;let⟨us2,q2,r2⟩:=h.2.now s kp.right;rw[kN _ _ hl] at hi;let⟨u,e,_⟩:=r.get (aac (aao hi hl));let⟨u2,e2,_⟩:=r2.get (aac hi);exact⟨us,us2,u,u2,q,q2,e,e2⟩
 yld {st as G H x H' i} hi s kp h y:=by
  let⟨us,q,r⟩:=h.1.now s kp.left;let⟨us2,q2,r2⟩:=h.2.now s kp.right;rw[kN _ _ hl] at hi;let⟨u,e,hr⟩:=r.get (aac (aao hi hl));let⟨u2,e2,hr2⟩:=r2.get (aac hi);let⟨p,w,w2,rfl,hp,rfl,z,z2⟩:=y;have z':=z us q;have z2':=z2 us2 q2;rw[e] at z';rw[e2] at z2';cases z';cases z2';let⟨G',l,s',rr⟩:=Bc (xs:=[xs[i]'(aao hi hl),ys[i]]) (us:=[u,u2]) s hp ⟨u,[u2],rfl,hr,u2,[],rfl,hr2,rfl⟩;exact⟨_,G',zip_get xs ys i _ _ (aac (aao hi hl)) (aac hi),l,s',rr⟩
theorem JI {a b:Expr} {x1:Nat} {tp p:Pos} (hK:T.K=X.K) (hg:Gl X "zip") (hm:X.mg "zip"=none) (ha:PA X [a,b] (fG T P cl E [ia,ib])) (hs:starEach [a,b] X.env=[(false,eval a X.env),(false,eval b X.env)]) (hs2:starEach [b] X.env=[(false,eval b X.env)]):
  L2.PI X (.Tuple elts x1 tp) (.Call (.Name "zip" p) [a,b] [] pos) (tQ T P cl E (.zip ia ib)):=
 PI.mono (HJ hg hm ha hs hs2) λσ H R z903=>by
  let⟨env,st,as,G,s,er,h⟩:=z903;unfold PI.Q.run at h;refine C8 s er h λx y st1 as1 G1 H1 u u' s1 er1 r1 r2 h=> ?_
  cases e1:itemsOf st1 x with
  |none=>rw[e1] at h;exact h.elim
  |some it1=>cases e2:itemsOf st1 y with
   |none=>rw[e1,e2] at h;exact h.elim
   |some it2=>
    rw[e1,e2] at h;let⟨hl,h⟩:=ae.iff (show ae T as1 G1 (PI.iff (0#it2.1<=0#it1.1) (.ok (eJ it1.1 it2.1,it1.2++it2.2) st1)) _ _ from h);let⟨a1,b1,rfl,sr1,_,us1,q1⟩:=zp s1 r1 e1;let⟨a2,b2,rfl,sr2,_,us2,q2⟩:=zp s1 r2 e2;exact⟨a1,a2,b1,b2,rfl,⟨us1,hK▸q1⟩,⟨us2,hK▸q2⟩,hK▸h.ok s1 (B4 T.K b1 a1 b2 a2) _ (yi b1 b2 a1 a2 it1.1 it2.1 it1.2 it2.2 hl) ⟨sr1,sr2⟩⟩
theorem yH {C:Addr} {σ:St} {H:Hp} {s:9#2} {Q:VK} (hm:PySem.W.makesIn X.K C=true) (hi:PySem.W.findIn X.K 3#C "__init__"=1#1#(.builtin "object.__init__")) (I:8#1)
  (h:∀x dx,H x=none->H dx=none->dx≠x->Q 3#x (upd (upd H dx (.own x)) x (.ins C dx []))):wpAny 8#3 X.A (PySem.call 3#C []) (EP X pins σ Q) X.xe s:=by
 have hq:=h 9#8 s.heap.objs.size (I.ah.fresh (Nat.le_succ _)) (I.ah.fresh (aai _)) (aax (ab0 _));have I2:=Inv.made (C:=C) I;let⟨hh,g,d,t,os⟩:=s;have Y:=ac4 (M:=model X.prog X.w) I.bT hm;refine wpAny_call (yV I.bT hm hi (λself=>PySem.W.Looks.of_pure (PySem.W.oi_bind self)) ?_)
 have e2:((hh.push PySem.W.emptyDict).push (PySem.W.instObj C hh.objs.size)).get? (hh.objs.size+1)=1#(PySem.W.instObj C hh.objs.size):=by
  have:=aaj (hh.push PySem.W.emptyDict) (o:=PySem.W.instObj C hh.objs.size) rfl;rw[aaO] at this;exact this
 have t1:PySem.W.Looks 8#3 ((hh.push PySem.W.emptyDict).push (PySem.W.instObj C hh.objs.size)) (typeOf 3#(hh.objs.size+1)) 3#C:=(acx e2).andThen .now;have t2:PySem.W.Looks 8#3 ((hh.push PySem.W.emptyDict).push (PySem.W.instObj C hh.objs.size)) (isInstance 3#(hh.objs.size+1) (.type "object")) true:=t1.andThen (Y.top.keeps λb o e=>aae _ (aae _ e));refine acK PySem.W.oi_plain PySem.W.entry_oi (@PySem.W.check_slot 8#3 _ _ _ "object.__init__" "object" "__init__" 3#(hh.objs.size+1) [] [] _ PySem.W.oi_kind PySem.W.oi_split t2 (PySem.W.oi_args 3#(hh.objs.size+1)) ?_);rw[PySem.W.oi_run];exact aaf (And.intro rfl ⟨V.ref (hh.objs.size+1),_,I2,rfl,hq⟩)
theorem D3 {c:Nat} {K':Cl} {C:Addr} {x:Str} {p:Pos} (hk:P.cl c=1#K') (hin:K'.init=none) (hC:T.ca c=C) (hX:T.xc c=false) (hm:PySem.W.makesIn X.K C=true) (hi:PySem.W.findIn X.K 3#C "__init__"=1#1#(.builtin "object.__init__")) (kp:PySem.W.keepIn X.K 3#C=true) (hg:Gl X x) (hmg:X.mg x=1#3#C) (hdb:(x==("__debug__":Str))=false):
  PE X (.Call (.Name x p) [] [] pos) (tE T P cl E (.make c [])):=by
 intro pins s σ H Q I ⟨env,st,as,G,sm,er,h⟩;dsimp only[PI.E.run] at h;rw[hk] at h;replace h:ae T as G (ir P cl c [] st 1#K'.init) 9#0 (E σ):=h;rw[hin] at h;replace h:ae T as G (fin P st 3#0#st (st++[.ins c [] []])) 9#0 (E σ):=h;refine abr (eB I hg hmg ?_ hdb);refine PySem.W.callWith_K0 I.bT kp (yH hm hi I λx dx hx hd ne=> ?_);subst hC
 have hx1:upd H dx (.own x) x=none:=by rw[ao (Ne.symm ne)];exact hx
 have s1:Sim T st as G (upd H dx (.own x)):=by
  let⟨n1,n2⟩:=sm.fresh hd;refine⟨sm.len,sm.nd,sm.sub.up n2,sm.off,λm o a h1 h2=>(sm.ob m o a h1 h2).at (ao λz=>n1 ?_)⟩;rw[←z];exact aar h2
 have s2:Sim T (st++[.ins c [] []]) (as++[x]) G (upd (upd H dx (.own x)) x (.ins (T.ca c) dx [])):=s1.push hx1 ⟨dx,[],hX,ak,rfl,rfl⟩;refine nF (v:= 3#0#st) (u:= 3#x) s1 s2 (aau _ _) 8#26 ⟨x, ?_,rfl⟩ h;rw[←sm.len,aam (aai _)];simp
theorem rW {α:Type}:∀(l:2#(Array α)) (acc:Array α),(l.foldl (· ++ ·) acc).toList=acc.toList++(l.map Array.toList).flatten
 |[],acc=>by simp
 |a::l,acc=>by
  rw[List.foldl_cons,rW l];simp
set_option tactic.hygienic true in
theorem Az (z:Str) (k:Int) (h:0<=k):j7 z k.toNat=Txt.mul z k:=by
 unfold j7 Txt.mul;split
 ·rw[show k.toNat=0 by lia];rfl
 ·split
  ·rename_i h1 h2;rw[abx,abm,abm] at h2
   rcases h2 with h2|h2
   ·subst h2;simp
   ·have e:z.cps.toList=[]:=aaE (by simpa[Str.length] using h2);rw[e];have e2:z.cps=#[]:=acz.mp e
    have e3:(List.replicate k.toNat ([]:2#Nat)).flatten=([]:2#Nat):=by simp
    rw[e3];cases z;simp at e2;rw[e2]
  ·congr 1;apply acz.mp;rw[rW];simp
theorem DI:aH X (binaryOp .Mult) (cH T (eY .Mult)):=by
 intro pins s σ H u w uv wv Q I ru rw' ⟨st,as,G,x,y,Z,sm,r1,r2,p⟩
 cases x with
 |str z=>cases y with
  |int k=>
   cases r1;cases r2;let⟨⟨c1,c2,c3⟩,p⟩:=ae.iff (show ae T as G (PI.iff (0<=k/\k<=1000/\0#z<=1000) (.ok (.str (j7 z k.toNat)) st)) (PV T Q) Z from p);refine Er pins s σ H _ _ uv wv Q I ru rw' ⟨z,k,rfl,rfl,c1,c2,c3, ?_⟩;rw[←Az z k c1];exact p.ok sm _ rfl
  |_=>exact p.elim
 |int i=>exact DJ pins s σ H u w uv wv Q I ru rw' ⟨st,as,G, 6#i,y,Z,sm,r1,r2,p⟩
 |_=>exact p.elim
theorem EA {e f:Expr} (hu:X.A.units+1<cLine) (ho:PE X o (tE T P cl E io)) (he:8#31) (hf:PE X f (tE T P cl E jf)) (m:M2 X o "get" apos e f pos):PE X (.Call (.Attribute o "get" apos) [e,f] [] pos) (tE T P cl E (.bm .get io [ie,jf])):=by
 intro pins s σ H Q I ⟨env,st,as,G,sm,er,h⟩;dsimp only[PI.E.run] at h
 have h2:=aC (K:=λu H1=>∃a,u= 3#a/\BP H1 a/\tE T P cl E ie σ H1 λy H2=>tE T P cl E jf σ H2 λz H3=>∃ov,DG H3 a y ov/\Q (ov.getD z) H3) sm er h λv st1 as1 G1 H1 u s1 er1 r1 p1 l1 h=>by
  let⟨c,h⟩:=ae.iff h;have rr:=aY s1 r1
  have cd:∃ks vs,res st1 v= .dct ks vs:=by
   generalize res st1 v=y at c
   cases y<;>first|(cases c;done)|exact⟨_,_,rfl⟩
  let⟨ks,vs,ev⟩:=cd;rw[ev] at rr;let⟨a,us,rfl,d,rv⟩:=rr;refine⟨a,rfl,zi d, ?_⟩
  replace h:ae T as1 G1 (((ie.run P cl env st1).bind λx st=>(jf.run P cl env st).bind λy st=> .ok [x,y] st).bind λxs st=>kZ .get v xs st) 9#0 (E σ):=by
   have z:aO P cl [ie,jf] env st1=(ie.run P cl env st1).bind λx st=>(jf.run P cl env st).bind λy st=> .ok [x,y] st:=by
    unfold aO;congr 1;funext x st;unfold aO;rw[R.bind_assoc];rfl
   rw[z] at h;exact h
  rw[R.bind_assoc] at h;refine aC s1 er1 h λk st2 as2 G2 H2 w s2 er2 r2 p2 l2 h=> ?_;rw[R.bind_assoc] at h;refine aC s2 er2 h λx st3 as3 G3 H3 w3 s3 er3 r3 p3 l3 h=> ?_;replace h:ae T as3 G3 (s8 (res st3 v) [k,x] st3) 9#0 (E σ):=h;have r4:=aY s3 (r1.mono (p2.trans p3) (l2.trans l3));generalize res st3 v=y at h r4
  cases y with
  |dct ks vs=>
   let⟨hk,h⟩:=ae.iff h;let⟨b,e,h⟩:=ae.dr h;let⟨r,e1,rfl⟩:=aab.mp e;let⟨a',us',ea,d',rv'⟩:=r4;cases ea;let⟨ro,g,og⟩:=nh s3.sub d' rv' hk (r2.mono p3 l3) e1;refine⟨ro,g, ?_⟩
   cases r<;>cases ro<;>first|exact og.elim|exact h.ok s3 _ r3|exact h.ok s3 _ og
  |_=>exact h.elim
 refine wpAny_Call_method m.base m.few m.line PySem.F.plainAttrs_dict aaP PySem.F.type_dict_get (ay (ho pins s σ H _ I h2) λu s1 z902=> ?_);let⟨x,H1,I1,rx,a,ex,d,q1⟩:=z902;subst ex;obtain rfl:u=Value.ref a:=rx;let⟨t1,t2,_⟩:=yA I1 d;refine⟨t1,t2, ?_⟩;rw[m.trees];refine abU rfl (ab1 (acb (ay (he pins s1 σ H1 _ I1 q1) λiv s2 zq17=> ?_)));let⟨y,H2,I2,ry,q2⟩:=zq17;refine acb (ay (hf pins s2 σ H2 _ I2 q2) λfv s3 zq18=> ?_);let⟨z,H3,I3,rz,ov,g,q3⟩:=zq18;refine acY ?_;exact CP hu I3 g ry rz λw' s4 I4 rw'=>⟨_,H3,I4,rw',q3⟩
end
def ft:2#Val->Bool
 | .tup _ (k::_)::_=>kT k
 |_=>false
set_option tactic.hygienic true in
theorem mO {x:Val} (h:pairD (x::r) ks vs=1#(ks',vs')):∃k v p,x= .tup false [k,v]/\bY k=true/\putD k v ks vs=1#p/\pairD r p.1 p.2=1#(ks',vs'):=by
 unfold pairD at h;split at h
 ·rename_i z;cases z
 ·rename_i k v r' z;cases z;split at h
  ·rename_i hk;let⟨p,e1,e2⟩:=aak.mp h;exact⟨k,v,p,rfl,hk,e1,e2⟩
  ·cases h
 ·cases h
theorem tZ {k:Val}:∀{ks:2#Val},ks≠[]->(∀a∈ks,kT a≠kT k)->memD k ks=none
 |[],h,_=>absurd rfl h
 |a::ks,_,h=>by
  show (if kT a=kT k then _ else none)=none;rw[if_neg (h a aaz)]
section
variable {T:CT} {as:2#Addr} {G H:Hp}
set_option tactic.hygienic true in
theorem tU (l:Le G H):∀{xs:2#Val} {ys:2#L2.V} {ks vs ks' vs':2#Val} {kk:2#2#Key} {us:2#L2.V},ag T as G xs ys->ba ks=1#kk->0#kk=0#us->ag T as G vs us->(ks=[]->xs=[]∨ft xs=true)->pairD xs ks vs=1#(ks',vs')->
  ∃kvs kk' us',Paired (B6 H) ys kvs/\0#kvs=0#xs/\putAll (kk.zip us) kvs=kk'.zip us'/\ba ks'=1#kk'/\0#kk'=0#us'/\ag T as G vs' us'
 |[],ys,ks,vs,ks',vs',kk,us,rx,h1,h2,rv,_,e=>by
  cases rx;cases e;exact⟨[],kk,us, .nil,rfl,rfl,h1,h2,rv⟩
 |x::r,ys,ks,vs,ks',vs',kk,us,rx,h1,h2,rv,ht,e=>by
  let⟨k,v,⟨ks1,vs1⟩,rfl,hk,e1,e2⟩:=mO e;let⟨u,t,rfl,ru,rr⟩:=rx;let⟨q,us0,rfl,hq,r0⟩:=ru;let⟨uk,t0,rfl,rk,uv,t1,rfl,rvv,r1⟩:=r0;cases r1
  rcases nv l hk rk with⟨tk,κ,k1,k2⟩|⟨tk,κ,b,k1,rfl,k2⟩
  ·exfalso
   by_cases z:ks=[]
   ·rcases ht z with z|z
    ·cases z
    ·have:kT k=true:=z;rw[tk] at this;cases this
   ·have:=tZ (k:=k) z λa ha=>by rw[(gS h1).2 a ha,tk];decide
    unfold putD at e1;rw[this] at e1;cases e1
  ·let⟨kk1,us1,z1,z2,z3,z4⟩:=vB k1 rvv h1 h2 rv e1
   have ne:ks1≠[]:=λz=>by
    subst z;unfold putD at e1;let⟨bb,_,e4⟩:=aab.mp e1
    cases bb with
    |true=>
     cases ks with
     |nil=>rename_i e3;cases e3
     |cons _ _=>cases e4
    |false=>
     have:=congrArg (λp=>0#p.1) e4;simp at this
   let⟨kvs,kk2,us2,p1,p2,p3,p4,p5,p6⟩:=tU l rr z1 z2 z4 (λz=>absurd z ne) e2;refine⟨(κ,uv)::kvs,kk2,us2, .cons ⟨q,b,rfl,l.ex hq rfl,k2⟩ p1,by simp[p2], ?_,p4,p5,p6⟩;show putAll (putK (kk.zip us) κ uv) kvs=_;rw[z3,p3]
set_option tactic.hygienic true in
theorem t8 (l:Le G H):∀{xs:2#Val} {ys:2#L2.V} {ks vs ks' vs':2#Val} {kk:2#Key} {us:2#L2.V},ag T as G xs ys->aI ks=1#kk->0#kk=0#us->ag T as G vs us->(ks=[]->xs≠[]/\ft xs=false)->pairD xs ks vs=1#(ks',vs')->
  ∃kvs kk' us',Paired (Cn H) ys kvs/\0#kvs=0#xs/\putAll (kk.zip us) kvs=kk'.zip us'/\aI ks'=1#kk'/\0#kk'=0#us'/\ag T as G vs' us'
 |[],ys,ks,vs,ks',vs',kk,us,rx,h1,h2,rv,_,e=>by
  cases rx;cases e;exact⟨[],kk,us, .nil,rfl,rfl,h1,h2,rv⟩
 |x::r,ys,ks,vs,ks',vs',kk,us,rx,h1,h2,rv,ht,e=>by
  let⟨k,v,⟨ks1,vs1⟩,rfl,hk,e1,e2⟩:=mO e;let⟨u,t,rfl,ru,rr⟩:=rx;let⟨q,us0,rfl,hq,r0⟩:=ru;let⟨uk,t0,rfl,rk,uv,t1,rfl,rvv,r1⟩:=r0;cases r1
  rcases nv l hk rk with⟨tk,κ,k1,rfl⟩|⟨tk,κ,b,k1,k3,k2⟩
  ·let⟨kk1,us1,z1,z2,z3,z4⟩:=vJ k1 rvv h1 h2 rv e1
   have ne:ks1≠[]:=λz=>by
    subst z;unfold putD at e1;let⟨bb,_,e4⟩:=aab.mp e1
    cases bb with
    |true=>
     cases ks with
     |nil=>rename_i e3;cases e3
     |cons _ _=>cases e4
    |false=>
     have:=congrArg (λp=>0#p.1) e4;simp at this
   let⟨kvs,kk2,us2,p1,p2,p3,p4,p5,p6⟩:=t8 l rr z1 z2 z4 (λz=>absurd z ne) e2;refine⟨(κ,uv)::kvs,kk2,us2, .cons ⟨q,rfl,l.ex hq rfl⟩ p1,by simp[p2], ?_,p4,p5,p6⟩;show putAll (putK (kk.zip us) κ uv) kvs=_;rw[z3,p3]
  ·exfalso
   by_cases z:ks=[]
   ·have:=(ht z).2;have t2:kT k=false:=this;rw[tk] at t2;cases t2
   ·have:=tZ (k:=k) z λa ha=>by rw[(g9 h1).2 a ha,tk];decide
    unfold putD at e1;rw[this] at e1;cases e1
end
section
variable {T:CT} {P:Pg} {cl:ar} {E:XS} {X:Cx} {pos:Pos}
def MX (T:CT):2#L2.V->Hp->VK->Prop:=λus H Q=>∃st as G x u Z,us=[u]/\Sim T st as G H/\Rel T as G x u/\ae T as G (rY st x) (PV T Q) Z
theorem uD {st:aa} {G H:Hp} {a:Addr} {b:Bool} {Q:VK} {Z:XK} (s:9#3) (r:ag T as G xs ys) (hp:Plain b H a ys) (h:ae T as G (newD xs st) (PV T Q) Z):yF b [3#a] H Q∨wW b [3#a] H Q:=by
 let⟨c,h⟩:=ae.iff h;let⟨⟨ks,vs⟩,e,h⟩:=ae.aj h
 have fin:∀{u:HO} (p:Addr),H p=none->eR T (as++[p]) G (upd H p u) p (.dct ks vs)->Q 3#p (upd H p u):=λ{u} p hp o=>by
  have s2:=s.push hp o;refine h (as++[p]) G _ (aau _ _) 8#26 s2 _ ⟨p, ?_,rfl⟩;rw[←s.len,aam (aai _)];simp
 by_cases z:xs=[]∨ft xs=true
 ·let⟨kvs,kk,us,p1,p2,p3,p4,p5,p6⟩:=tU s.sub (kk:=[]) (us:=[]) r rfl rfl (show ag T as G [] [] from rfl) (λ_=>z) e;refine .inl ⟨a,ys,kvs,rfl,hp,p1,by rw[p2];exact c,λp hp=>fin p hp ⟨us, .inr ⟨kk,p4,p5, ?_⟩,p6.mono (aau _ _) 8#26⟩⟩;rw[show putAll [] kvs=kk.zip us from p3];exact ak
 ·have z1:xs≠[]:=λq=>z (.inl q)
  have z2:ft xs=false:=by
   cases q:ft xs with
   |true=>exact absurd (.inr q) z
   |false=>rfl
  let⟨kvs,kk,us,p1,p2,p3,p4,p5,p6⟩:=t8 s.sub (kk:=[]) (us:=[]) r rfl rfl (show ag T as G [] [] from rfl) (λ_=>⟨z1,z2⟩) e;refine .inr ⟨a,ys,kvs,rfl,hp,p1,by rw[p2];exact c,λp hp=>fin p hp ⟨us, .inl ⟨kk,p4,p5, ?_⟩,p6.mono (aau _ _) 8#26⟩⟩;rw[show putAll [] kvs=kk.zip us from p3];exact ak
theorem AJ (hc:X.calm=true) (hu:X.A.units+2<cLine):au X (.type "dict") (MX T):=by
 refine au.imp (((nQ hc hu (b:=true)).or (mM hc hu (b:=true))).or ((nQ hc hu (b:=false)).or (mM hc hu (b:=false)))) λus H Q z903=> ?_;let⟨st,as,G,x,u,Z,e,s,r,h⟩:=z903;subst e
 cases x with
 |tup f xs=>
  cases f with
  |false=>exact h.elim
  |true=>
   let⟨a,ys,rfl,⟨o,q1,q2⟩,r⟩:=r;exact .inr (uD s r ⟨o,s.sub.ex q1 rfl,q2⟩ h)
 |ref k=>
  let⟨a,ea,rfl⟩:=r;replace h:ae T as G (vI st st[k]?) (PV T Q) Z:=h
  cases e1:st[k]? with
  |none=>rw[e1] at h;exact h.elim
  |some o=>
   rw[e1] at h;have ob:=s.ob k o a e1 ea
   cases o with
   |lst xs=>
    let⟨ys,q,r⟩:=ob;exact .inl (uD s r q h)
   |dct ks vs=>exact h.elim
   |ins c ns vs=>exact h.elim
 |_=>exact h.elim
theorem Ib {e:Expr} {p:Pos} (hc:X.calm=true) (hu:X.A.units+2<cLine) (hg:Gl X "dict") (hm:X.mg "dict"=none) (he:8#31) (hs:notStar e=true):PE X (.Call (.Name "dict" p) [e] [] pos) (tE T P cl E (.dOf ie)):=
 PE.mono (pP (AJ hc hu) hg hm PyProof.Rows.Boot.«dict» (cZ he gC (by cases e<;>first|rfl|cases hs)) 9#7 9#7 (by cases e<;>first|rfl|cases hs) rfl) λσ H Q z903=>by
  let⟨env,st,as,G,s,er,h⟩:=z903;dsimp only[PI.E.run] at h;exact aC s er h λx st1 as1 G1 H1 u s1 er1 r1 p1 l1 h=>⟨st1,as1,G1,x,u,_,rfl,s1,r1,h⟩
end
end PI
namespace PI
open PySem L2 L2.L3
theorem oF:∀x y:2#Int,yE x y=HT.lexLt x y
 |[],[]=>rfl
 |[],_::_=>rfl
 |_::_,[]=>rfl
 |a::r,b::t=>by
  rw[HT.eN];unfold yE;rw[oF r t]
theorem xi:∀{x y:2#Int},HT.lexLt x y=false->HT.lexLt y x=false->x=y
 |[],[],_,_=>rfl
 |[],_::_,h,_=>by cases h
 |_::_,[],_,h=>by cases h
 |a::r,b::t,h1,h2=>by
  rw[HT.eN] at h1 h2
  by_cases e:a=b
  ·subst e;rw[if_pos rfl] at h1 h2;rw[xi h1 h2]
  ·rw[if_neg e] at h1;rw[if_neg (λz=>e z.symm)] at h2;have k1:=abT h1;have k2:=abT h2;lia
section
variable {α β:Type}
theorem jY {k:2#Int} {y:α}:∀{l:2#(2#Int×α)},(dF k y l).Perm ((k,y)::l)
 |[]=> .refl _
 |z::r=>by
  unfold dF;split
  ·exact .refl _
  ·exact((jY (l:=r)).cons z).trans (.swap _ _ _)
theorem jh:∀{l:2#(2#Int×α)},(bJ l).Perm l
 |[]=> .refl _
 |z::r=>jY.trans ((jh (l:=r)).cons _)
def su (l:2#(2#Int×α)):Prop:=l.Pairwise λx y=>HT.lexLt y.1 x.1=false
set_option tactic.hygienic true in
theorem nS {k:2#Int} {y:α}:∀{l:2#(2#Int×α)},su l->su (dF k y l)
 |[],_=>List.Pairwise.cons (λ_ h=>by cases h) .nil
 |z::r,h=>by
  unfold dF;split
  ·rename_i c;rw[oF] at c;refine List.Pairwise.cons (λw hw=> ?_) h
   rcases aap.mp hw with rfl|hw
   ·exact ni c
   ·exact se (ni c) (List.rel_of_pairwise_cons h hw)
  ·rename_i c;rw[oF] at c
   have c0:HT.lexLt k z.1=false:=by simpa using c
   refine List.Pairwise.cons (λw hw=> ?_) (nS (List.pairwise_cons.mp h).2)
   rcases aap.mp (jY.mem_iff.mp hw) with rfl|hw
   ·exact c0
   ·exact List.rel_of_pairwise_cons h hw
theorem lH:∀{l:2#(2#Int×α)},su (bJ l)
 |[]=> .nil
 |_::r=>nS (lH (l:=r))
theorem sO (g:α->β) {k:2#Int} {y:α}:∀{l:2#(2#Int×α)},dF k (g y) (l.map λz=>(z.1,g z.2))=(dF k y l).map λz=>(z.1,g z.2)
 |[]=>rfl
 |z::r=>by
  show (if yE k z.1=true then _ else _)=_;rw[dF];split
  ·rfl
  ·rw[aav,←sO g]
theorem pQ (g:α->β):∀{l:2#(2#Int×α)},bJ (l.map λz=>(z.1,g z.2))=(bJ l).map λz=>(z.1,g z.2)
 |[]=>rfl
 |z::r=>by
  show dF z.1 (g z.2) (bJ (r.map λz=>(z.1,g z.2)))=_;rw[pQ g,sO g];rfl
end
theorem yu {α:Type} {d:α} (ks:2#2#Int) (ys:2#α) (h:0#ks=0#ys):ks.zip ys=(ks.zip (List.range 0#ys)).map λz=>(z.1,ys.getD z.2 d):=by
 refine List.ext_getElem (by simp[h]) λi h1 h2=> ?_
 have hy:i<0#ys:=by simp at h1;lia
 simp[aaw,aac hy]
theorem yn {α:Type} {d:α} {ks:2#2#Int} {ys:2#α} (h:0#ks=0#ys) (nd:ks.Nodup) {p:2#Nat} (pp:p.Perm (List.range 0#ys)) (pr:nu ks p):(bJ (ks.zip ys)).map (λz=>z.2)=p.map λi=>ys.getD i d:=by
 rw[yu (d:=d) ks ys h,pQ (λi=>ys.getD i d),abb]
 have e:p=(bJ (ks.zip (List.range 0#ys))).map λz=>z.2:=by
  have m:∀z∈bJ (ks.zip (List.range 0#ys)),z.1=ks.getD z.2 []/\z.2<0#ks:=λz hz=>by
   let⟨i,hi,e⟩:=List.mem_iff_getElem.mp (jh.mem_iff.mp hz);subst e
   have hk:i<0#ks:=by simp at hi;lia
   simp[aaw,aac hk,hk]
  have sn:((ks.zip (List.range 0#ys)).map λz=>z.2)=List.range 0#ys:=List.map_snd_zip (by simp[h])
  have pm:((bJ (ks.zip (List.range 0#ys))).map λz=>z.2).Perm (List.range 0#ys):=by
   have:=(jh (l:=ks.zip (List.range 0#ys))).map λz=>z.2;rwa[sn] at this
  have rs:nu ks ((bJ (ks.zip (List.range 0#ys))).map λz=>z.2):=by
   unfold nu;rw[List.pairwise_map];refine(List.Pairwise.and_mem.mp (lH (l:=ks.zip (List.range 0#ys)))).imp λ{a b} z901=> ?_;let⟨ma,mb,q⟩:=z901;rw[←(m a ma).1,←(m b mb).1];exact q
  refine List.Perm.eq_of_pairwise (λa b ha hb h1 h2=> ?_) pr rs (pp.trans pm.symm)
  have la:a<0#ks:=by rw[h];exact abn.mp (pp.mem_iff.mp ha)
  have lb:b<0#ks:=by rw[h];exact abn.mp (pm.mem_iff.mp hb)
  have q:=xi h1 h2;rw[aaw,aaw,aac la,aac lb] at q;have q':ks[b]=ks[a]:=q;exact qy nd (aac la) (by rw[aac lb,q'])
 rw[e,abb];rfl
end PI
namespace PI
open PySem PySem.Spec L2 L2.L3 L2.L4 PySem.SeqAt
open PyProof.Rows hiding St lobj
theorem Aj {α β:Type} {c:Prop} {r:R α} {f:α->aa->R β}:(iff c r).bind f=iff c (r.bind f):=by
 unfold iff;split<;>rfl
theorem eqz {α β γ:Type} {x:5#α} {y:5#β} {f:α->β->γ} {c:γ} (h:(x.bind λa=>y.map λb=>f a b)=1#c):∃a b,x=1#a/\y=1#b/\c=f a b:=by
 let⟨a,e1,e2⟩:=aak.mp h;let⟨b,e3,e4⟩:=aab.mp e2;exact⟨a,b,e1,e3,e4.symm⟩
section
variable {T:CT} {as:2#Addr} {G H:Hp}
set_option tactic.hygienic true in
theorem j6:∀{xs:2#Val} {us:2#L2.V} {k:2#Int},cN xs=1#k->ag T as G xs us->us=k.map L2.V.int
 |[],us,k,h,r=>by
  cases h;exact r
 |x::xs,us,k,h,r=>by
  cases x<;>try (cases h;done)
  rename_i i;let⟨k',e,rfl⟩:=aab.mp h;let⟨u,t,rfl,ru,rr⟩:=r;cases ru;rw[j6 e rr];rfl
set_option tactic.hygienic true in
theorem qP (l:Le G H):∀{dn:2#Val} {kv:2#L2.V} {ks:2#2#Int},dQ dn=1#ks->ag T as G dn kv->Paired (gg H) kv ks
 |[],kv,ks,h,r=>by
  cases h;cases r;exact .nil
 |v::dn,kv,ks,h,r=>by
  let⟨k,ks',e1,e2,rfl⟩:=eqz h;let⟨u,t,rfl,ru,rr⟩:=r;refine .cons ?_ (qP l e2 rr)
  cases v<;>try (cases e1;done)
  rename_i f xs
  cases f with
  |true=>cases e1
  |false=>
   let⟨a,us,rfl,ha,hr⟩:=ru;have e3:cN xs=1#k:=e1;rw[j6 e3 hr] at ha;exact⟨a,rfl,l.ex ha rfl⟩
theorem oM:∀{dn:2#Val} {ks:2#2#Int},dQ dn=1#ks->0#ks=0#dn
 |[],ks,h=>by
  cases h;rfl
 |v::dn,ks,h=>by
  let⟨k,ks',e1,e2,rfl⟩:=eqz h;simp[oM e2]
theorem pT {ys:2#Val} {us:2#L2.V} (r:ag T as G ys us):∀{p:2#Nat},(∀i∈p,i<0#ys)->ag T as G (p.map λi=>ys.getD i .non) (p.map λi=>us.getD i .non)
 |[],_=>rfl
 |i::p,h=>by
  have hi:=h i aaz;let⟨u,e,ru⟩:=r.get (aac hi);refine⟨_,_,rfl, ?_,pT r λj hj=>h j (aat _ hj)⟩;show Rel T as G (ys.getD i .non) (us.getD i .non);rw[aaw,aac hi,aaw,e];exact ru
theorem uU {α:Type} (l:2#α) (a b:α):(l++[a]).set 0#l b=l++[b]:=by simp
end
section
variable {T:CT} {P:Pg} {E:XS} {X:Cx} {pos:Pos} {n fi:Nat}
theorem HN {st:aa} {G H:Hp} {us:2#L2.V} {Q:VK} {Z:XK} (s:9#3) (r:ag T as G ys us)
  (h:ae T as G ((fh (call P n) fi st ys []).bind λks _=>(R.aj (dQ ks) st).bind λks st=>jd ys ks st) (PV T Q) Z):
  ∀kS,H kS=none->∃W:SW,qp (fT T P n fi) kS W/\W us [] (upd H kS (.lst []))/\∀kv H2,H2 kS=1#7#kv->0#kv=0#us->W [] kv H2->Bg us Q kS kv H2:=by
 intro kS hS;have pre:as<+:as++[kS]:=aau _ _
 have ix:(as++[kS])[0#st]?=1#kS:=by
  rw[←s.len,aam (aai _)];simp
 refine⟨λrest kv H'=>∃G' dn rv,Le G G'/\Sim T (st++[7#dn]) (as++[kS]) G' H'/\ag T (as++[kS]) G' dn kv/\ag T (as++[kS]) G' rv rest/\0#rv+0#dn=0#ys/\
  ae T (as++[kS]) G' ((fh (call P n) fi st rv dn).bind λks _=>(R.aj (dQ ks) st).bind λks st=>jd ys ks st) (PV T Q) Z, ?_, ?_, ?_⟩
 ·rintro y rest kv H' ⟨G',dn,rv,l,sm,rd,rr,ln,hp⟩
  cases rv with
  |nil=>cases rr
  |cons yv rv=>
   let⟨u,t,e,ry,rr⟩:=rr;cases e;refine⟨st++[7#dn],as++[kS],G',[yv],sm,⟨y,[],rfl,ry,rfl⟩, ?_⟩;unfold fh at hp
   cases ec:call P n fi [yv] (st++[7#dn]) with
   |stuck=>rw[ec] at hp;exact hp.elim
   |exc x st'=>rw[ec] at hp;exact hp.elim
   |ok v st'=>
    rw[ec] at hp;replace hp:ae T (as++[kS]) G' ((iff (st'=st++[7#dn]) (fh (call P n) fi st rv (dn++[v]))).bind λks _=>(R.aj (dQ ks) st).bind λks st=>jd ys ks st) (PV T Q) Z:=hp;rw[Aj] at hp;let⟨e9,hq⟩:=ae.iff hp;subst e9;intro as' G2 H2 p l2 s2 w rw';have ea:as++[kS]=as':=p.eq_of_length (by rw[sm.len,s2.len]);subst ea;let⟨kv2,hk2,rd2⟩:=s2.ob 0#st 7#dn kS 8#7 ix;have rd3:ag T (as++[kS]) G2 (dn++[v]) (kv2++[w]):=rd2.append ⟨w,[],rfl,rw',rfl⟩;have s3:=s2.set (u:= 7#(kv2++[w])) (o:= 7#(dn++[v])) ix ⟨_,ak,rd3⟩;rw[uU] at s3;exact⟨kv2,by rw[←0#rd2,←0#rd],hk2,G2,dn++[v],rv,l.trans l2,s3,rd3,rr.mono (aah _) l2,by simp at ln⊢;lia,ae.mono (aah _) l2 hq⟩
 ·exact⟨G,[],ys,Le.refl _,s.push hS ⟨[],ak,rfl⟩,rfl,r.mono pre 8#26,by simp,ae.mono pre 8#26 h⟩
 ·rintro kv H2 hk lk ⟨G',dn,rv,l,sm,rd,rr,ln,hp⟩
  cases rv with
  |cons yv rv=>
   let⟨u,t,e,_⟩:=rr;cases e
  |nil=>
   replace hp:ae T (as++[kS]) G' ((R.aj (dQ dn) st).bind λks st=>jd ys ks st) (PV T Q) Z:=hp;let⟨ks,ek,hp⟩:=ae.aj hp;let⟨⟨c1,nd,m,hm,hkm⟩,hp⟩:=ae.iff hp;refine⟨ks,m,qP sm.sub ek rd,hm,hkm,λD p hD pp pr=> ?_⟩;have s2:=sm.set (u:= .lst []) (o:= .lst []) ix ⟨[],ak,rfl⟩;rw[uU] at s2;have ly:0#ys=0#us:=0#r
   have lks:0#ks=0#ys:=by
    rw[oM ek];simpa using ln
   rw[←ly] at pp;have eq:=yn (d:=Val.non) lks nd pp pr
   have rs:ag T (as++[kS]++[D]) G' ((bJ (ks.zip ys)).map λz=>z.2) (p.map λi=>us.getD i .non):=by
    rw[eq];exact(pT r λi hi=>abn.mp (pp.mem_iff.mp hi)).mono (pre.trans (aau _ _)) l
   have s3:=s2.push (u:= 7#(p.map λi=>us.getD i .non)) (o:= 7#((bJ (ks.zip ys)).map λz=>z.2)) hD ⟨_,ak,rs⟩;refine hp _ G' _ (aau _ _) 8#26 s3 3#D ⟨D, ?_,rfl⟩;rw[←s2.len,aam (aai _)];simp
theorem CY {k:Nat} {f:Addr} {ps:2#Str} {fn:Str} {e:Expr} {p:Pos} (hK:T.K=X.K) (F:FnOk X.prog X.w X.K X.mg X.base (dI X.prog X.w) k f fd ps (fT T P n fi)) (hr:Room (k+2) X.A) (hb:Binds X.K fd ps []) (hg:Gl X "sorted") (hm:X.mg "sorted"=none)
  (hgf:Gl X fn) (hmf:X.mg fn=1#3#f) (he:PE 8#25 e (tE T P (call P n) E ie)) (hdf:(fn==("__debug__":Str))=false) (hs:notStar e=true):
  PE 8#25 (.Call (.Name "sorted" p) [e] [⟨1#(Str.ofString "key"), .Name fn p2,kpos⟩] pos) (tE T P (call P n) E (.sortK ie fi)):=
 PE.mono (AZ (X:=X.af 8#9) F hr hb hg hm hgf hmf (cZ he gC (by cases e<;>first|rfl|cases hs)) hdf (by cases e<;>first|rfl|cases hs) (by cases e<;>first|rfl|cases hs)) λσ H Q z903=>by
  let⟨env,st,as,G,s,er,h⟩:=z903;dsimp only[PI.E.run] at h;refine aC s er h λx st1 as1 G1 H1 u s1 er1 r1 p1 l1 h=> ?_;have rt:=aY s1 r1
  cases ex:res st1 x with
  |lst ys=>
   rw[ex] at rt h;let⟨a,us,rfl,hq,rr⟩:=rt;let⟨c,h⟩:=ae.iff h;exact⟨a,us,rfl,hK▸hq,by rw[←0#rr];exact c,HN s1 rr h⟩
  |_=>rw[ex] at h;exact h.elim
end
end PI
namespace L2.L3
open PySem PySem.Spec PyProof.Rows
structure InsOk (K:8#4) (C:Addr):Prop where
 cl:Cls K C
 ha:PySem.W.findIn K 3#C "__class__"=1#1#8#27
 hn:PySem.W.specialIn K 8#27 "__get__"=1#1#(.builtin "getset_descriptor.__get__")
 htk:PySem.W.takesIn K 8#27=1#true
 hm:PySem.W.mroIn K C (.type "object")=1#true
def E0 (K:8#4):2#V->Hp->VK->Prop:=λxs H Q=>∃a C dx fs c cv b,xs=[3#a,c]/\H a=1#(.ins C dx fs)/\InsOk K C/\((∃B,c= 3#B/\cv= 3#B)∨∃n,c= .ty n/\cv= .type n)/\PySem.W.kitOne K 3#C cv=1#b/\Q (.bl b) H
theorem wm {X:Cx}:au X (.builtin "isinstance") (E0 X.K):=by
 intro pins s σ H xs us Q I r h;let⟨a,C,dx,fs,c,cv,b,rfl,e,k,rc,kb,q⟩:=h;let⟨u,v,rfl,r1,r2⟩:=Vals.two r
 have e2:v=cv:=by
  rcases rc with⟨B,rfl,rfl⟩|⟨n,rfl,rfl⟩
  ·exact r2
  ·exact r2
 subst e2;exact pb I r1 (.ins e k.cl k.ha k.hn k.htk k.hm) kb λtk=>⟨.bl b,H,I.tok tk,rfl,q⟩
end L2.L3
namespace PI
open PySem PySem.Spec L2 L2.L3 L2.L4 PySem.SeqAt
open PyProof.Rows hiding St lobj
def ra (T:CT) (c:Nat):Value:=if c=1000 then .type "ValueError" else 3#(T.ca c)
structure IsOk (T:CT) (k c:Nat) (K':Cl):Prop where
 kit:PySem.W.kitOne T.K 3#(T.ca k) (ra T c)=1#(K'.sup.contains c)
 ins:K'.exc=false->InsOk T.K (T.ca k)
 exc:K'.exc=true->ExcCls T.K (T.ca k)
section
variable {T:CT} {P:Pg} {cl:ar} {E:XS} {X:Cx} {pos:Pos}
theorem BS {a:Expr} {c:Nat} {x y:Str} {p:Pos} {B:L2.V} (hK:T.K=X.K) (C:COk T P) (hi:∀k K',P.cl k=1#K'->¬K'.sup=[]->IsOk T k c K') (hx:x="isinstance") (ha:8#16) (gx:Gl X x) (mx:X.mg x=none) (hy:PE X (.Name y p2) (tC B))
  (hB:(∃A,B= 3#A/\ra T c= 3#A)∨∃n,B= .ty n/\ra T c= .type n) (hs:notStar a=true):
  PE X (.Call (.Name x p) [a, .Name y p2] [] pos) (tE T P cl E (.isI ia c)):=by
 subst hx;refine PE.mono (jl ((wm (X:=X)).or wa) gx mx PyProof.Rows.Boot.«isinstance» (cZ ha (cZ hy gC rfl) (by cases a<;>first|rfl|cases hs)) 9#7 9#7 (by cases a<;>first|rfl|cases hs) rfl) λσ H Q zq19=> ?_;let⟨env,st,as,G,s,er,h⟩:=zq19;dsimp only[PI.E.run] at h;refine aC s er h λx st1 as1 G1 H1 u s1 er1 r1 p1 l1 h=> ?_;have rt:=aY s1 r1
 cases ex:res st1 x with
 |obj k ns vs=>
  rw[ex] at rt h;let⟨v,e,h⟩:=ae.dr (show ae T as1 G1 (R.aj (((P.cl k)).bind λk=>if k.sup=[] then none else 1#(.bl (k.sup.contains c))) st1) 9#0 (E σ) from h);let⟨K',e1,e⟩:=aak.mp e
  by_cases en:K'.sup=[]
  ·rw[if_pos en] at e;cases e
  rw[if_neg en] at e;cases e;have I:=hi k K' e1 en;have q:=h.ok s1 _ rfl;let⟨a',us,rfl,_,_,z⟩:=rt
  cases ez:K'.exc with
  |false=>
   rw[if_neg (by rw[C.xc k K' e1,ez];decide)] at z;let⟨dx,z⟩:=z;exact .inl ⟨a',T.ca k,dx,_,B,ra T c,_,rfl,z,hK▸I.ins ez,hB,hK▸I.kit,q⟩
  |true=>
   rw[if_pos (by rw[C.xc k K' e1,ez])] at z;let⟨dx,z,_⟩:=z;exact .inr ⟨a',T.ca k,dx,B,ra T c,_,rfl,z,hK▸I.exc ez,hB,hK▸I.kit,q⟩
 |_=>rw[ex] at h;exact h.elim
end
theorem aG.unset {T:CT} {G:Hp} {env:Env} {σ:St} (h:aG T as G env σ) (i:Nat):aG T as G (env.set i none) (σ.set i none):=by
 refine⟨by simp[h.1],λj w e=> ?_⟩
 by_cases hj:j=i
 ·subst hj
  have lj:j<0#env:=by
   have:=(aad.mp e).1;simpa using this
  rw[aa6 lj] at e;cases e
 ·rw[aaY (λz=>hj z.symm)] at e;rw[aaY (λz=>hj z.symm)];exact h.2 j w e
theorem D6 {T:CT} {G:Hp} {x:Exn} {cls:Value} {dx:5#Addr} (h:ub T as G x cls dx) (hg:G ea=none):Rel T as (upd G ea (.ext (dj ea (T.ca x.c) dx))) (.obj x.c x.ns x.vs) 3#ea:=by
 let⟨_,r0,r2⟩:=h;have l:Le G (upd G ea (.ext (dj ea (T.ca x.c) dx))):=Le.new hg
 rcases r2 with⟨q1,q2,q3⟩|⟨d,us,q1,q2,q3,q4⟩
 ·refine⟨ea,[],rfl,by rw[q2];rfl,by rw[q3];exact rfl, ?_⟩;rw[if_pos r0];exact⟨dx,ak, .inl ⟨q1,q2⟩⟩
 ·refine⟨ea,us,rfl,q3,q4.mono (aah _) l, ?_⟩;rw[if_pos r0];exact⟨dx,ak, .inr ⟨d,q1,l.ex q2 rfl⟩⟩
theorem vi {P:Pg} {c k:Nat} (h:gE P c k=true):∃K',P.cl k=1#K'/\K'.sup.contains c=true:=by
 unfold gE at h
 cases e:P.cl k with
 |none=>rw[e] at h;cases h
 |some K'=>
  rw[e] at h;exact⟨K',rfl,h⟩
section
variable {T:CT} {P:Pg} {cl:ar} {E:XS} {X:Cx} {pos:Pos}
def kH (T:CT) (P:Pg) (c:Nat):Prop:=∀k K',P.cl k=1#K'->K'.sup.contains c=true->PySem.W.exmOne T.K 3#(T.ca k) 3#(T.ca c)=1#true
theorem Jm {i c:Nat} {cn x:Str} {ib ih:2#PI.S} (hK:T.K=X.K) (hc:kH T P c) (fm:Framed X) (hx:cc X) (hN:X.N.Nodup) (hi:X.N[i]?=1#x) (hl:X.env.scope.names.lookup x=1#.local) (hg:Gl X cn) (hm:X.mg cn=1#3#(T.ca c))
  (hb:∀Eb pn,(∀b∈X.ex,∃o,(b,o)∈pn)->bS ((aT X pn).af (L4.XE (aT X pn) Eb)) body (fV T P cl Eb ib)) (hs:∀ea,bS (eT X ea X.pn) (sh::suite) (fV T P cl (λ_ _ _ _=>False) ih)) (hdb:(cn==("__debug__":Str))=false):
  PS 8#25 (.Try body [.ExceptHandler 1#(.Name cn np) 1#x (sh::suite) hpos] [] [] pos) (tS T P cl E (.try_ ib c 1#i ih)):=
 PS.mono (CW fm hx hN hi hl hg hm hb hs hdb) λD σ H z903=>by
  let⟨env,st,as,G,s,er,h⟩:=z903;dsimp only[PI.S.run] at h;refine⟨λσ' cls dx H'=>∃env' st' as' G' y,Sim T st' as' G' H'/\aG T as' G' env' σ'/\ub T as' G' y cls dx/\gE P c y.c=true/\aB T as' G' ((aD P cl ih (lJ 1#i y env') st').unset 1#i) D E,⟨env,st,as,G,s,er, ?_⟩, ?_⟩
  ·cases e1:aD P cl ib env st with
   |next env' st'=>rw[e1] at h;exact h
   |ret v st'=>rw[e1] at h;exact h
   |brk env' st'=>rw[e1] at h;exact h
   |cont env' st'=>rw[e1] at h;exact h
   |stuck=>rw[e1] at h;exact h
   |exc y env' st'=>
    rw[e1] at h;replace h:aB T as G (oS (gE P c y.c) ((aD P cl ih (lJ 1#i y env') st').unset 1#i) .stuck) D E:=h
    cases e2:gE P c y.c with
    |false=>rw[e2] at h;exact h.elim
    |true=>
     rw[e2] at h;exact λas' G' H' σ' cls dx p l s' er' ex=>⟨env',st',as',G',y,s',er',ex,e2,aB.mono p l h⟩
  ·rintro σ' cls dx H' ⟨env',st',as',G',y,s',er',ex,e2,hp⟩
   let⟨K',k1,k2⟩:=vi e2;refine⟨T.ca y.c,ex.1,hK▸hc y.c K' k1 k2,λea hea=> ?_⟩;have hG:=(s'.fresh hea).2;have l:Le G' (upd G' ea (.ext (dj ea (T.ca y.c) dx))):=Le.new hG;refine⟨lJ 1#i y env',st',as',_,s'.kA hea,(er'.mono (aah _) l).set i (D6 ex hG), ?_⟩;replace hp:=aB.mono (aah _) l hp
   cases e3:aD P cl ih (lJ 1#i y env') st' with
   |next env2 st2=>
    rw[e3] at hp;exact λas2 G2 H2 σ2 p l s2 er2=>hp as2 G2 H2 _ p l s2 (er2.unset i)
   |brk env2 st2=>
    rw[e3] at hp;exact λas2 G2 H2 σ2 p l s2 er2=>hp as2 G2 H2 _ p l s2 (er2.unset i)
   |cont env2 st2=>
    rw[e3] at hp;exact λas2 G2 H2 σ2 p l s2 er2=>hp as2 G2 H2 _ p l s2 (er2.unset i)
   |ret v st2=>
    rw[e3] at hp;exact λas2 G2 H2 u p l s2 r2=>hp as2 G2 H2 u p l s2 r2
   |exc x2 env2 st2=>rw[e3] at hp;exact hp.elim
   |stuck=>rw[e3] at hp;exact hp.elim
theorem ED {c:Nat} {cn:Str} {ib ih:2#PI.S} (hK:T.K=X.K) (hc:kH T P c) (fm:Framed X) (hx:cc X) (hg:Gl X cn) (hm:X.mg cn=1#3#(T.ca c))
  (hb:∀Eb pn,(∀b∈X.ex,∃o,(b,o)∈pn)->bS ((aT X pn).af (L4.XE (aT X pn) Eb)) body (fV T P cl Eb ib)) (hs:∀ea,bS (eT X ea X.pn) (sh::suite) (fV T P cl (λ_ _ _ _=>False) ih)) (hdb:(cn==("__debug__":Str))=false):
  PS 8#25 (.Try body [.ExceptHandler 1#(.Name cn np) none (sh::suite) hpos] [] [] pos) (tS T P cl E (.try_ ib c none ih)):=
 PS.mono (Bj fm hx hg hm hb hs hdb) λD σ H z903=>by
  let⟨env,st,as,G,s,er,h⟩:=z903;dsimp only[PI.S.run] at h;refine⟨λσ' cls dx H'=>∃env' st' as' G' y,Sim T st' as' G' H'/\aG T as' G' env' σ'/\ub T as' G' y cls dx/\gE P c y.c=true/\aB T as' G' ((aD P cl ih env' st').unset none) D E,⟨env,st,as,G,s,er, ?_⟩, ?_⟩
  ·cases e1:aD P cl ib env st with
   |next env' st'=>rw[e1] at h;exact h
   |ret v st'=>rw[e1] at h;exact h
   |brk env' st'=>rw[e1] at h;exact h
   |cont env' st'=>rw[e1] at h;exact h
   |stuck=>rw[e1] at h;exact h
   |exc y env' st'=>
    rw[e1] at h;replace h:aB T as G (oS (gE P c y.c) ((aD P cl ih env' st').unset none) .stuck) D E:=h
    cases e2:gE P c y.c with
    |false=>rw[e2] at h;exact h.elim
    |true=>
     rw[e2] at h;exact λas' G' H' σ' cls dx p l s' er' ex=>⟨env',st',as',G',y,s',er',ex,e2,aB.mono p l h⟩
  ·rintro σ' cls dx H' ⟨env',st',as',G',y,s',er',ex,e2,hp⟩
   let⟨K',k1,k2⟩:=vi e2;refine⟨T.ca y.c,ex.1,hK▸hc y.c K' k1 k2,λea hea=> ?_⟩;have hG:=(s'.fresh hea).2;have l:Le G' (upd G' ea (.ext (dj ea (T.ca y.c) dx))):=Le.new hG;refine⟨env',st',as',_,s'.kA hea,er'.mono (aah _) l, ?_⟩;replace hp:=aB.mono (aah _) l hp
   cases e3:aD P cl ih env' st' with
   |next env2 st2=>rw[e3] at hp;exact hp
   |brk env2 st2=>rw[e3] at hp;exact hp
   |cont env2 st2=>rw[e3] at hp;exact hp
   |ret v st2=>rw[e3] at hp;exact hp
   |exc x2 env2 st2=>rw[e3] at hp;exact hp.elim
   |stuck=>rw[e3] at hp;exact hp.elim
theorem xx (hK:T.K=X.K) (hc:X.calm=true):au X (.builtin "max") (jE T .max):=by
 refine au.imp (au.or (yQ hc) (au.or (yJ hc) (yh hc))) λus H Q z903=> ?_;let⟨st,as,G,xs,Z,s,r0,p⟩:=z903
 match xs with
 |[]=>exact p.elim
 |[x]=>
  let⟨u,rfl,r⟩:=eD r0
  cases x with
  |lst xs=>
   let⟨a,us,rfl,h1,h2⟩:=r;let⟨v,e,p⟩:=ae.dr (show ae T as G (R.aj ((cN xs).bind λl=>l.max?.map .int) st) (PV T Q) Z from p);let⟨l,e1,e2⟩:=aak.mp e;let⟨m,e3,rfl⟩:=aab.mp e2;rw[j6 e1 h2] at h1;exact .inr (.inr ⟨a,l,m,rfl,hK▸h1,e3,p.ok s _ rfl⟩)
  |_=>exact p.elim
 |[x,y]=>
  let⟨u,t,rfl,r1,u',t',rfl,r2,r3⟩:=r0;cases r3
  cases x with
  |int i=>cases y with
   |int j=>
    cases r1;cases r2;exact .inl ⟨i,j,rfl,ae.ok p s _ rfl⟩
   |_=>exact p.elim
  |_=>exact p.elim
 |[x,y,z]=>
  let⟨u,t,rfl,r1,u',t',rfl,r2,u'',t'',rfl,r3,r4⟩:=r0;cases r4
  cases x with
  |int i=>cases y with
   |int j=>cases z with
    |int k=>
     cases r1;cases r2;cases r3;exact .inr (.inl ⟨i,j,k,rfl,ae.ok p s _ rfl⟩)
    |_=>exact p.elim
   |_=>exact p.elim
  |_=>exact p.elim
 |_::_::_::_::_=>exact p.elim
end
end PI
namespace L2.L3
open PySem PySem.Spec PyProof.Rows
def rIsTup (K:8#4):2#V->Hp->VK->Prop:=λxs H Q=>∃(ea C:Addr) (dx:5#Addr) (tp:Addr) (cs:2#Addr) (b:Bool),xs=[3#ea, 3#tp]/\H ea=1#(.ext (dj ea C dx))/\ExcCls K C/\H tp=1#(.tup (cs.map .ref))/\PySem.W.kitAny K 3#C (cs.map .ref)=1#b/\Q (.bl b) H
theorem vals_ref:∀{cs:2#Addr} {us:8#36},Vals (cs.map .ref) us->us=cs.map .ref
 |[],_,h=>by cases h;rfl
 |_::_,_,h=>by
  cases h with
  |cons a r=>
   cases a;rw[vals_ref r];rfl
theorem call_istup {X:Cx}:au X (.builtin "isinstance") (rIsTup X.K):=by
 intro pins s σ H xs us Q I r h;let⟨ea,C,dx,tp,cs,b,rfl,he,k,ht,kb,q⟩:=h;let⟨u1,u2,rfl,r1,r2⟩:=Vals.two r;cases r1;cases r2;let⟨⟨o,vs,h1,h2,_⟩,_⟩:=I.ah ea _ he;let⟨_,ws,rv,⟨⟨cls,dd,data,sl⟩,ho,hc,n,hd⟩⟩:=I.ah tp _ ht;simp only at hc hd;subst hc hd;rw[vals_ref rv] at ho;exact PySem.W.kia_tup (rl k) I.bT ⟨o,h1,h2⟩ ho kb 8#28 λtk=>⟨.bl b,H,I.tok tk,rfl,q⟩
end L2.L3
namespace PI
open PySem PySem.Spec L2 L2.L3 L2.L4 PySem.SeqAt
open PyProof.Rows hiding St lobj
def tK (vs:2#L2.V):TA:=λ_ H Q=>Q vs H
section
variable {T:CT} {P:Pg} {cl:ar} {E:XS} {X:Cx} {pos:Pos}
theorem kit_any {k:Nat} {K':Cl}:∀{cs:2#Nat},(∀c∈cs,IsOk T k c K'/\c≠1000)->PySem.W.kitAny T.K 3#(T.ca k) ((cs.map T.ca).map .ref)=1#(cs.any λc=>K'.sup.contains c)
 |[],_=>rfl
 |c::cs,h=>by
  have h1:=(h c aaz).1.kit;have e:ra T c= 3#(T.ca c):=if_neg (h c aaz).2;rw[e] at h1
  show (match PySem.W.kitOne T.K 3#(T.ca k) 3#(T.ca c) with
   |some true=>1#true
   |some false=>PySem.W.kitAny T.K 3#(T.ca k) ((cs.map T.ca).map .ref)
   |none=>none)=_
  rw[h1,kit_any λc' hc=>h c' (aat _ hc),ab3];cases K'.sup.contains c<;>rfl
theorem s_isM {a:Expr} {cs:2#Nat} {x:Str} {p:Pos} {j:Nat} {tp:Pos} (hK:T.K=X.K) (C:COk T P) (hi:∀c∈cs,c≠1000/\∀k K',P.cl k=1#K'->¬K'.sup=[]->IsOk T k c K') (hx:x="isinstance") (ha:8#16) (gx:Gl X x) (mx:X.mg x=none) (hy:PA X ys (tK ((cs.map T.ca).map .ref)))
  (hl:0<0#cs/\0#cs<=100) (hs:notStar a=true):PE X (.Call (.Name x p) [a, .Tuple ys j tp] [] pos) (tE T P cl E (.isM ia cs)):=by
 subst hx;have hz:=hl.1;refine PE.mono (jl (call_istup (X:=X)) gx mx PyProof.Rows.Boot.«isinstance» (cZ ha (cZ (xI hy) gC rfl) (by cases a<;>first|rfl|cases hs)) 9#7 9#7 (by cases a<;>first|rfl|cases hs) rfl) λσ H Q zq20=> ?_;let⟨env,st,as,G,s,er,h⟩:=zq20;dsimp only[PI.E.run] at h;refine aC s er h λx st1 as1 G1 H1 u s1 er1 r1 p1 l1 h=> ?_;have rt:=aY s1 r1
 cases ex:res st1 x with
 |obj k ns vs=>
  rw[ex] at rt h;let⟨v,e,h⟩:=ae.dr (show ae T as1 G1 (R.aj (((P.cl k)).bind λk=>if k.exc=true/\¬k.sup=[] then 1#(.bl (cs.any λc=>k.sup.contains c)) else none) st1) 9#0 (E σ) from h);let⟨K',e1,e⟩:=aak.mp e
  by_cases ez:K'.exc=true/\¬K'.sup=[]
  ·rw[if_pos ez] at e;cases e;let⟨a',us,rfl,_,_,z⟩:=rt;rw[if_pos (by rw[C.xc k K' e1,ez.1])] at z;let⟨dx,z,_⟩:=z;refine⟨by rw[aay,aay];exact aaQ hl.2 9#7,λl hl=>⟨a',T.ca k,dx,l,cs.map T.ca,_,rfl, ?_,hK▸ ?_,ak,hK▸kit_any λc hc=>⟨(hi c hc).2 k K' e1 ez.2,(hi c hc).1⟩, ?_⟩⟩
   ·exact(ao λz'=>by rw[z'] at z;rw[z] at hl;cases hl).trans z
   ·let⟨c,hc⟩:=List.exists_mem_of_length_pos hz;exact((hi c hc).2 k K' e1 ez.2).exc ez.1
   ·exact h as1 _ _ (aah _) (Le.new (s1.fresh hl).2) (s1.kA hl) _ rfl
  ·rw[if_neg ez] at e;cases e
 |_=>rw[ex] at h;exact h.elim
end
structure Md where
 fa:Nat->Addr
 fd:Nat->FuncData
 ps:Nat->2#Str
structure MOk (D:Dt) (P:Pg) (T:CT) (M:Md) (mg:8#19):Prop where
 fn:∀x i,D.gl.lookup x=1#(.fn i)->mg x=1#3#(M.fa i)/\PySem.W.keepIn T.K 3#(M.fa i)=true/\Binds T.K (M.fd i) (M.ps i) []
 fr:∀x,D.fr.contains x=true->mg x=none
 ty:vQ T.K
 cls:COk T P
 cm:∀x c b,D.gl.lookup x=1#(.cls c b)->mg x=1#3#(T.ca c)/\T.xc c=false/\PySem.W.keepIn T.K 3#(T.ca c)=true/\PySem.W.makesIn T.K (T.ca c)=true/\∃K',P.cl c=1#K'/\
  (b=false->K'.init=none/\PySem.W.findIn T.K 3#(T.ca c) "__init__"=1#1#(.builtin "object.__init__"))/\
  (b=true->∃fi,K'.init=1#fi/\PySem.W.findIn T.K 3#(T.ca c) "__init__"=1#1#3#(M.fa fi)/\PySem.W.isFn T.K 3#(M.fa fi)=true/\Binds T.K (M.fd fi) (M.ps fi) [])
 er:∀x c,D.gl.lookup x=1#(.err c)->mg x=1#3#(T.ca c)/\T.xc c=true/\PySem.W.excIn T.K (T.ca c) u9 "ValueError.__new__"=true/\∃K',P.cl c=1#K'/\K'.init=none
 va:∀x v,D.gl.lookup x=1#(.val v)->∃u uv,mg x=1#uv/\RelV u uv/\∀as G,Rel T as G v u
 mt:∀m (c:Nat) k' fi,P.cl c=1#k'->k'.meths.lookup m=1#fi->k'.exc=false/\Meth T.K (T.ca c) m (M.fa fi)/\Binds T.K (M.fd fi) (M.ps fi) []
 fx:∀f,D.fx.contains f=true->∀(c:Nat) k,P.cl c=1#k->f∈k.flds->k.exc=false
 is:∀y c,D.is.contains y=true->8#22->∀k K',P.cl k=1#K'->¬K'.sup=[]->IsOk T k c K'
 ex:∀y c,D.is.contains y=true->D.gl.lookup y=1#(.err c)->kH T P c
 nm:∀x c,D.gl.lookup x=1#(.nam c)->mg x=1#3#(T.ca c)
structure XOk (T:CT) (P':Program) (w:World) (mg:8#19) (base:Heap) (k:Nat) (g:Gm) (X:Cx):Prop where
 N:X.N=g.N
 nd:g.N.Nodup
 sc:X.env.scope=g.sc
 fn:∀x,g.fn x=true->X.fn x=true
 kd:g.sc.kind= .function
 fm:Framed X
 hx:cc X
 calm:g.cm=true->X.calm=true
 K:T.K=X.K
 prog:X.prog=P'
 w:X.w=w
 mg:X.mg=mg
 base:X.base=base
 room:g.cm=true->Room (k+3) X.A
 un:X.A.units+200<cLine
theorem rG {N:2#Str} {x:Str} {i:Nat} (h:N.idxOf? x=1#i):N[i]?=1#x:=by
 rw[List.idxOf?,List.findIdx?_eq_some_iff_getElem] at h;let⟨l,e,_⟩:=h;rw[aac l];exact congrArg some (by simpa using e)
section
variable {T:CT} {P:Pg} {D:Dt} {M:Md} {P':Program} {w:World} {mg:8#19} {base:Heap} {k:Nat} {g:Gm} {X:Cx}
set_option tactic.hygienic true in
theorem XOk.ix (h:8#18) {x:Str} {i:Nat} (e:g.ix x=1#i):X.N[i]?=1#x/\uf X.env.scope x/\(x==("__debug__":Str))=false/\(x==("__classdict__":Str))=false:=by
 unfold Gm.ix at e;split at e
 ·cases e
 ·rename_i z;rw[abx,not_or] at z;let⟨j,e1,e2⟩:=aak.mp e;split at e2
  ·rename_i v;cases e2;refine⟨h.N▸rG e1, ?_,by simpa using z.1,by simpa using z.2⟩;unfold Ha at v;rw[h.sc];simp only[abx,abm] at v;exact or_assoc.mp v
  ·cases e2
set_option tactic.hygienic true in
theorem XOk.lx (h:8#18) {x:Str} {i:Nat} (e:g.lx x=1#i):X.N[i]?=1#x/\Loc X.env.scope x/\(X.fn x=true∨X.env.scope.names.lookup x=1#.local):=by
 unfold Gm.lx at e;let⟨j,e1,e2⟩:=aak.mp e;split at e2
 ·rename_i v;cases e2;rw[aag] at v;refine⟨h.N▸rG e1, ?_, ?_⟩
  ·have:=v.1;unfold vT at this;rw[h.sc];simp only[abx,abm] at this;exact this
  ·have:=v.2;rw[abx] at this;refine this.imp (h.fn x) λq=> ?_;rw[h.sc];simpa using q
 ·cases e2
theorem XOk.gb (h:8#18) {x:Str} (e:g.gb x=true):Gl X x/\(x==("__debug__":Str))=false/\x≠"__name__":=by
 unfold Gm.gb at e;rw[aag,aag] at e;refine⟨?_,by simpa using e.1.2,by simpa using e.2⟩;show X.env.scope.names.lookup x=1#.globalImplicit;rw[h.sc];simpa[Gm.gl] using e.1.1
set_option tactic.hygienic true in
theorem ik {x:Str} {v:Gv} (e:g.gv D x=1#v):g.gb x=true/\D.gl.lookup x=1#v:=by
 unfold Gm.gv at e;split at e
 ·rename_i z;exact⟨z,e⟩
 ·cases e
end
theorem bf {e:Expr} {env:PySem.Env} (h:notStar e=true):starEach (e::es) env=(false,eval e env)::starEach es env:=by
 cases e<;>first|rfl|cases h
theorem dZ {env:PySem.Env}:∀{es:2#Expr},es.all notStar=true->(backTo pos (starEach es env)).any (·.1)=false
 |[],_=>rfl
 |e::es,h=>by
  rw[aaJ,aag] at h;rw[bf h.1];show (false||(backTo pos (starEach es env)).any (·.1))=false;rw[dZ h.2];rfl
theorem BH {b:Expr} (h:fb b=true):oB b:=by
 intro o i
 cases b<;>first|rfl|cases h
theorem qY {e:Expr} {env:PySem.Env} (h:eP e=true):∀x,foldedSetIterable e env x=pure x:=by
 intro x
 cases e<;>first|rfl|cases h
theorem kM {op:CmpOp} {b:Expr} (h:eP b=true):behindInMarks op b=false:=by
 cases b<;>first|rfl|cases h
theorem uF {e:Expr} {t:5#Expr} {line:Nat} {env:PySem.Env} (h:eC e=true):swapsWith e t line env=pure false:=by
 cases e<;>first|rfl|cases h
set_option tactic.hygienic true in
theorem iY {f:Str} {env:PySem.Env} {whole:Sem Value} (h:jB o=true):attributeBase o f env whole=whole:=by
 cases o<;>first|rfl|skip
 rename_i fn as ks pos
 cases fn<;>first|rfl|skip
 cases as<;>first|rfl|skip
 cases ks<;>first|rfl|cases h
theorem gj {α β:Type} {f:α->5#β} {a:α} {r:2#α} {l:2#β} (h:cL f (a::r)=1#l):∃b t,f a=1#b/\cL f r=1#t/\l=b::t:=by
 unfold cL at h;let⟨b,e1,e2⟩:=aak.mp h;let⟨t,e3,e4⟩:=aab.mp e2;exact⟨b,t,e1,e3,e4.symm⟩
theorem eq2 {α β γ:Type} {x:5#α} {y:α->5#β} {f:α->β->γ} {c:γ} (h:(x.bind λa=>(y a).map λb=>f a b)=1#c):∃a b,x=1#a/\y a=1#b/\c=f a b:=by
 let⟨a,e1,e2⟩:=aak.mp h;let⟨b,e3,e4⟩:=aab.mp e2;exact⟨a,b,e1,e3,e4.symm⟩
theorem eq3 {α β γ δ:Type} {x:5#α} {y:α->5#β} {z:α->β->5#γ} {f:α->β->γ->δ} {c:δ} (h:(x.bind λa=>(y a).bind λb=>(z a b).map λd=>f a b d)=1#c):∃a b d,x=1#a/\y a=1#b/\z a b=1#d/\c=f a b d:=by
 let⟨a,e1,e2⟩:=aak.mp h;let⟨b,d,e3,e4,e5⟩:=eq2 e2;exact⟨a,b,d,e1,e3,e4,e5⟩
set_option tactic.hygienic true in
theorem bH {α:Type} {b:Bool} {x:5#α} {c:α} (h:(if b=true then x else none)=1#c):b=true/\x=1#c:=by
 split at h
 ·rename_i z;exact⟨z,h⟩
 ·cases h
theorem bp {α:Type} {a:α} {p:Prop} (h:none=1#a):p:=nomatch h
theorem lU:∀{l:2#Str},kf l=true->l.Nodup
 |[],_=>ach
 |x::r,h=>by
  unfold kf at h;rw[aag] at h;rw[aa8];refine⟨?_,lU h.2⟩;have:=h.1;simpa using this
theorem zh {S:Scope} (h:zT S sc=true):BlockOkC S sc:=by
 unfold zT at h;simp only[aag,aa4,abx,ac0,abm,beq_eq_false_iff_ne] at h;let⟨⟨⟨h1,h2⟩,h3⟩,h4⟩:=h;refine⟨h1,λy hy e=>(h2 y hy).elim (λz=>absurd e z) id,λy hy e=> ?_,λy hy e=>(h4 y hy).elim (λz=>absurd e z) id⟩
 rcases h3 y hy with (z|z)|z
 ·exact absurd e z
 ·exact .inl z
 ·exact .inr z
section
variable {T:CT} {P:Pg} {D:Dt} {M:Md} {P':Program} {w:World} {mg:8#19} {base:Heap} {k:Nat} {g:Gm} {X:Cx}
set_option tactic.hygienic true in
theorem XOk.block (h:8#18) {sc:Scope} (e:g.block sc=1#g'):X.calm=true/\BlockOkC X.env.scope sc/\(∀j∈iT g.N sc,sc.names.lookup (X.N.getD j Str.empty)=1#.free)/\
  ∀own C fp pn s H,9#9->XOk T P' w mg base k g' (cA X own (qU sc) (iT g.N sc) sc C fp pn s H):=by
 unfold Gm.block at e;simp only at e;split at e
 ·rename_i z;simp only[aag] at z;let⟨⟨⟨z1,z2⟩,z3⟩,z4⟩:=z;cases e;refine⟨h.calm z4,h.sc▸zh z1,λj hj=> ?_,λown C fp pn s H hh=>⟨?_,lU z2, ?_,λx q=>q, ?_,h.fm,hh,λ_=>h.calm z4,h.K,h.prog,h.w,h.mg,h.base,λ_=>h.room z4,h.un⟩⟩
  ·rw[h.N];simpa using (aa4.mp z3) j hj
  ·show qU sc++(iT g.N sc).map (λi=>X.N.getD i Str.empty)=_;rw[h.N]
  ·show relabel sc X.env=BM g.sc sc;rw[←h.sc];rfl
  ·exact(zh z1).kind
 ·cases e
end
section
variable {T:CT} {X:Cx}
theorem Jr (hK:T.K=X.K) {op:Operator} (h:Ax op=true):aH X (binaryOp op) (cH T (eY op)):=by
 cases op<;>first|(cases h;done)|exact Ej hK|exact D7|exact DI|exact D8|exact DD|exact Ei
theorem BN (hK:T.K=X.K) (hu:X.A.units+9<cLine) {op:CmpOp}:aH X (compareOp op) (cH T λx y st=>cW (bz op x y st)):=by
 have hu8:X.A.units+8<cLine:=by lia
 cases op
 ·exact Gw hK hu8
 ·exact GY hK hu8
 ·exact EU
 ·exact EF
 ·exact G8
 ·exact Hm
 ·exact EL
 ·exact xQ
 ·exact GA hK hu
 ·exact wZ hK hu
set_option tactic.hygienic true in
theorem II (hK:T.K=X.K) (hc:X.calm=true) {x:Str} {b:Bi} (h:Af x=1#b):(∃id,bootBuiltins x=1#(.builtin id)/\au X (.builtin id) (jE T b))∨∃id,bootBuiltins x=1#(.type id)/\au X (.type id) (jE T b):=by
 unfold Af at h;split at h
 ·rename_i z;subst z;cases h;exact .inl ⟨"len",PySem.boot_len,yy hK⟩
 split at h
 ·rename_i z;subst z;cases h;exact .inl ⟨"abs",PyProof.Rows.Boot.«abs»,yG⟩
 split at h
 ·rename_i z;subst z;cases h;exact .inr ⟨"int",PyProof.Rows.Boot.«int»,xD⟩
 split at h
 ·rename_i z;subst z;cases h;exact .inr ⟨"tuple",PyProof.Rows.boot_tuple,tm hK⟩
 split at h
 ·rename_i z;subst z;cases h;exact .inr ⟨"list",PyProof.Rows.Boot.«list»,wy hK⟩
 split at h
 ·rename_i z;subst z;cases h;exact .inl ⟨"all",PyProof.Rows.Boot.«all»,xo hK hc⟩
 split at h
 ·rename_i z;subst z;cases h;exact .inl ⟨"sum",PyProof.Rows.Boot.«sum»,xU hK hc⟩
 split at h
 ·rename_i z;subst z;cases h;exact .inl ⟨"max",PyProof.Rows.Boot.«max»,xx hK hc⟩
 cases h
end
def gF (T:CT) (P:Pg) (m:Nat) (X:Cx) (e:Expr) (ie:PI.E):Prop:=∀E:XS,PE 8#25 e (tE T P (call P m) E ie)/\(cR e=true->PT 8#25 e (tT T P (call P m) E ie))
section
variable {T:CT} {P:Pg} {D:Dt} {M:Md} {P':Program} {w:World} {mg:8#19} {base:Heap} {k m:Nat} {g:Gm} {X:Cx}
theorem bh {e:Expr} (O:8#18) (h:∀E:XS,PE (X.af (L4.XE X E)) e (tE T P (call P m) E ie)) (he:∀whole,isTrue e X.env whole=(do let v←whole;standAt e.pos;holding [v] (truthy v))):gF T P m X e ie:=λE=>⟨h E,λ_=>IW (X:=X.af 8#9) O.K (h E) he⟩
theorem ij {f:Expr->5#PI.E} (ih:∀e ie,f e=1#ie->gF T P m X e ie) (E:XS):∀{es:2#Expr} {ies:2#PI.E},es.all notStar=true->cL f es=1#ies->PA 8#25 es (fG T P (call P m) E ies)
 |[],_,_,h=>by
  cases h;exact wc
 |e::es,ies,hs,h=>by
  rw[aaJ,aag] at hs;let⟨b,t,e1,e2,rfl⟩:=gj h;exact mF (ih e b e1 E).1 (ij ih E hs.2 e2) (bf hs.1)
theorem md {f:Expr->5#PI.E} (ih:∀e ie,f e=1#ie->gF T P m X e ie) {op:BoolOp} (E:XS):∀{vs:2#Expr} {ie:PI.E},vs.all cR=true->cBool op f vs=1#ie->
  PE 8#25 (.BoolOp op vs pos) (tE T P (call P m) E ie)/\PW 8#25 (.BoolOp op vs pos) (tT T P (call P m) E ie)
 |[],_,_,h=>by cases h
 |[a],ie,hn,h=>by
  rw[aaJ,aag] at hn;have q:=ih a ie h E;refine⟨GN q.1, ?_⟩;cases op
  ·exact Du (q.2 hn.1)
  ·exact Fm (q.2 hn.1)
 |a::b::r,ie,hn,h=>by
  rw[aaJ,aag] at hn;replace h:((f a).bind λx=>(cBool op f (b::r)).map λy=>bop op x y)=1#ie:=h;let⟨x,y,e1,e2,rfl⟩:=eq2 h;have q:=ih a x e1 E;have z:=md ih (op:=op) (pos:=pos) E hn.2 e2;cases op
  ·exact⟨Iy q.1 z.1,Ih (q.2 hn.1) z.2⟩
  ·exact⟨Ls q.1 z.1,MI (q.2 hn.1) z.2⟩
set_option tactic.hygienic true in
theorem AL (MO:MOk D P T M mg) (hc:8#15) (O:8#18) {f:Expr->5#PI.E} (ih:∀e ie,f e=1#ie->gF T P m X e ie)
  {x:Str} {p:Pos} {ie:PI.E} (zc:g.cm=true) (h:qk D g x es f=1#ie) (E:XS):PE 8#25 (.Call (.Name x p) es [] pos) (tE T P (call P m) E ie):=by
 unfold qk at h;split at h
 ·rename_i i z;let⟨a1,h⟩:=bH h;let⟨ies,e1,rfl⟩:=aab.mp h;let⟨z1,z2⟩:=ik z;let⟨g1,g2,g3⟩:=O.gb z1;let⟨f1,f2,f3⟩:=MO.fn x i z2;have F:=hc i;rw[←O.prog,←O.w,←O.mg,←O.base,O.K] at F;have A:=ij ih E a1 e1
  cases es with
  |nil=>
   cases e1;exact CJ F ((O.room zc).mono 8#0) (O.K▸f3) O.hx g1 (O.mg▸f1) (O.K▸f2) g2
  |cons e es=>
   rw[aaJ,aag] at a1;exact s_call F ((O.room zc).mono 8#0) (O.K▸f3) O.hx g1 (O.mg▸f1) (O.K▸f2) A g2 (bf a1.1) (dZ a1.2)
 ·rename_i c ini z;let⟨a1,h⟩:=bH h;let⟨ies,e1,rfl⟩:=aab.mp h;rw[aag,abm] at a1;let⟨z1,z2⟩:=ik z;let⟨g1,g2,g3⟩:=O.gb z1;let⟨m1,m2,m3,m4,K',m5,m6,m7⟩:=MO.cm x c ini z2;have A:=ij ih E a1.1 e1
  cases es with
  |nil=>
   cases e1;let⟨i1,i2⟩:=m6 (by rw[a1.2];rfl);exact D3 (X:=X.af 8#9) m5 i1 rfl m2 (O.K▸m4) (O.K▸i2) (O.K▸m3) g1 (by show X.mg x=_;rw[O.mg];exact m1) g2
  |cons e es=>
   let⟨fi,i1,i2,i3,i4⟩:=m7 (by rw[a1.2];rfl);have a2:=a1.1;rw[aaJ,aag] at a2;have F:=hc fi;rw[←O.prog,←O.w,←O.mg,←O.base,O.K] at F;exact FW m5 i1 rfl m2 ⟨O.K▸m4,O.K▸i2,O.K▸i3,O.K▸m3⟩ F ((O.room zc).mono 8#0) (O.K▸i4) O.hx g1 (by rw[O.mg];exact m1) A g2 (bf a2.1) (dZ a2.2)
 ·cases h
 ·cases h
 ·cases h
 ·rename_i z;let⟨a1,h⟩:=bH h;let⟨b,ies,e1,e2,rfl⟩:=eq2 h;simp only[aag] at a1;let⟨⟨⟨⟨c1,c2⟩,c3⟩,c4⟩,c5⟩:=a1;let⟨g1,g2,g3⟩:=O.gb c1;have mn:=MO.fr x c2;have A:=ij ih E c3 e2
  cases es with
  |nil=>cases c4
  |cons e es=>
   rw[aaJ,aag] at c3
   rcases II (X:=X.af 8#9) O.K (O.calm c5) e1 with⟨id,b1,b2⟩|⟨id,b1,b2⟩
   ·exact H8 b2 g1 (by show X.mg x=none;rw[O.mg];exact mn) b1 A g3 g2 (bf c3.1) (dZ c3.2)
   ·exact JY b2 g1 (by show X.mg x=none;rw[O.mg];exact mn) b1 A g3 g2 (bf c3.1) (dZ c3.2)
set_option tactic.hygienic true in
theorem qu (O:8#18):∀(n:Nat) (e:Expr) (t:PI.T) (E:XS),k6 g n e=1#t->PG 8#25 e (tG T t):=by
 intro n
 induction n with
 |zero=>intro e t E h;cases h
 |succ n ih=>
  intro e t E h
  cases e<;>first|exact bp h|skip
  ·rename_i x pos;let⟨i,e1,rfl⟩:=aab.mp (show (g.lx x).map PI.T.var=1#t from h);let⟨h1,h2,h3⟩:=O.lx e1;exact JB (X:=X.af 8#9) (by show X.N.Nodup;rw[O.N];exact O.nd) h1 h2 h3
  ·rename_i es k' pos;let⟨a0,h⟩:=bH (show (if (es.all notStar&&g.cm)=true then (cL (k6 g n) es).map PI.T.tup else none)=1#t from h);rw[aag] at a0;let⟨a1,a2⟩:=a0;let⟨ts,e1,rfl⟩:=aab.mp h
   have all:∀{es:2#Expr} {ts:2#PI.T},es.all notStar=true->cL (k6 g n) es=1#ts->iz 8#25 es (wK T ts)/\0#(assignEach es X.env)=0#ts/\(assignEach es X.env).findIdx? (·.1)=none:=by
    intro es
    induction es with
    |nil=>
     intro ts _ h;cases h;exact⟨FO,rfl,rfl⟩
    |cons e es ihs=>
     intro ts hs h;rw[aaJ,aag] at hs;let⟨b,r,e1,e2,rfl⟩:=gj h;let⟨q1,q2,q3⟩:=ihs hs.2 e2
     have z:assignEach (e::es) X.env=(false,assign e X.env)::assignEach es X.env:=by
      have:=hs.1
      cases e<;>first|rfl|cases this
     refine⟨Eg (ih e b E e1) q1 (by show (assignEach (e::es) X.env).map (·.2)=_;rw[z];rfl),by rw[z];simp[q2], ?_⟩;rw[z,List.findIdx?_cons];simp[q3]
   let⟨q1,q2,q3⟩:=all a1 e1;exact HX (X:=X.af 8#9) O.K (O.calm a2) q1 rfl q2 q3
theorem rQ {env:PySem.Env}:∀{es:2#Expr},es.all notStar=true->(backTo pos (starEach es env)).all (λx=> !x.1)=true
 |[],_=>rfl
 |e::es,h=>by
  rw[aaJ,aag] at h;rw[bf h.1];show (!false&&(backTo pos (starEach es env)).all (λx=> !x.1))=true;rw[rQ h.2];rfl
theorem sW {env:PySem.Env} {es:2#Expr} (h:es.all notStar=true) (hl:0#es<30):((backTo pos (starEach es env)).all (λx=> !x.1)&&(backToKw pos (keywordEach [] env)).all (λx=>x.1.isSome)&&decide (0#es+0#([]:2#Keyword)+(if ([]:2#Keyword).isEmpty then 0 else 1)<30))=true:=by
 rw[rQ h];show (true&&true&&decide (0#es+0+0<30))=true;rw[abe 8#0];rfl
theorem jJ {α β:Type} {f:α->5#β}:∀{l:2#α} {r:2#β},cL f l=1#r->0#r=0#l
 |[],_,h=>by cases h;rfl
 |a::l,r,h=>by
  let⟨b,t,_,e2,rfl⟩:=gj h;rw[aas,jJ e2,aas]
set_option tactic.hygienic true in
theorem IP (hK:T.K=X.K) {m:Str} {n:Nat} {b:Bm} (h:zX m n=1#b):∃id,cD b=false/\Slot "list" m id/\typeOf (.builtin id)=pure (.type "method_descriptor")/\qK X id (wN T b):=by
 unfold zX at h;split at h
 ·rename_i z;subst z;split at h<;>cases h;exact⟨"list.append",rfl,PySem.F.slot_list_append,PySem.F.type_list_append,A4⟩
 split at h
 ·rename_i z;subst z;split at h<;>cases h;exact⟨"list.extend",rfl,PySem.F.slot_list_extend,PySem.F.type_list_extend,BG⟩
 cases h
theorem Aa (MO:MOk D P T M mg) (hc:8#15) (O:8#18) {f:Expr->5#PI.E} (ih:∀e ie,f e=1#ie->gF T P m X e ie)
  {x:Str} {ie:PI.E} (hz:(g.cm||jV x)=true) (h:ql x ap pos o es f=1#ie) (E:XS):PE 8#25 (.Call (.Attribute o x ap) es [] pos) (tE T P (call P m) E ie):=by
 unfold ql at h;let⟨c,h⟩:=bH h;simp only[aag,ac3] at c;let⟨⟨⟨c1,c2⟩,c3⟩,c4⟩:=c;let⟨io,e1,h⟩:=aak.mp h;let⟨ies,e2,h⟩:=aak.mp h;have ho:=(ih o io e1 E).1;have A:=ij ih E c2 e2
 have hu:X.A.units+1<cLine:=by have:=O.un;lia
 have tr:∀{e:Expr},notStar e=true->backTo pos (starEach [e] X.env)=[(false,eval e X.env)]:=λ{e} he=>by
  rw[bf he];rfl
 by_cases zb:jV x=true
 ·rw[if_pos zb] at h
  by_cases zg:x="get"
  ·subst zg;rw[if_pos rfl] at h
   match ies,h with
   |[k1],h=>
    cases h
    match es,e2,c2,c4 with
    |[e],e2,c2,c4=>
     let⟨b,t,e3,_,e5⟩:=gj e2;cases e5;have c2':=c2;rw[aaJ,aag] at c2';exact Fc (X:=X.af 8#9) hu ho (ih e k1 e3 E).1 ⟨iY c1,sW c2 c4,c3,tr c2'.1⟩
    |[],e2,_,_=>cases e2
    |_::_::_,e2,_,_=>have:=jJ e2;simp at this
   |[k1,k2],h=>
    cases h
    match es,e2,c2,c4 with
    |[e,e'],e2,c2,c4=>
     let⟨b,t,e3,e4,e5⟩:=gj e2;cases e5;let⟨b,t,e6,_,e7⟩:=gj e4;cases e7;have c2':=c2;rw[aaJ,aaJ,aag,aag] at c2';refine EA (X:=X.af 8#9) hu ho (ih e k1 e3 E).1 (ih e' k2 e6 E).1 ⟨iY c1,sW c2 c4,c3, ?_⟩;show backTo pos (starEach [e,e'] X.env)=_;rw[bf c2'.1,bf c2'.2.1];rfl
    |[],e2,_,_=>cases e2
    |[_],e2,_,_=>have:=jJ e2;simp at this
    |_::_::_::_,e2,_,_=>have:=jJ e2;simp at this
   |[],h=>exact bp h
   |_::_::_::_,h=>exact bp h
  ·rw[if_neg zg] at h;let⟨b,e3,rfl⟩:=aab.mp h;let⟨id,b1,b2,b3,b4⟩:=IP (X:=X.af 8#9) O.K e3
   cases es with
   |nil=>
    cases e2;exact HV (X:=X.af 8#9) b1 O.K b2 b3 b4 ho (iY c1) c3
   |cons e es=>
    have c2':=c2;rw[aaJ,aag] at c2';exact Mm (X:=X.af 8#9) b1 O.K b2 b3 b4 ho A (iY c1) (sW c2 c4) c3 (bf c2'.1) (dZ c2'.2)
 ·rw[if_neg zb] at h;cases h
end
section
variable {T:CT} {P:Pg} {D:Dt} {M:Md} {P':Program} {w:World} {mg:8#19} {base:Heap} {k m:Nat}
set_option tactic.hygienic true in
theorem zo {g:Gm} {y:Str} {c:Nat} (e:rg D g y=1#c):D.is.contains y=true/\g.gb y=true/\((y="ValueError"/\c=1000/\D.fr.contains y=true)∨(c≠1000/\(D.gl.lookup y=1#(.err c)∨D.gl.lookup y=1#(.nam c)))):=by
 unfold rg at e;split at e
 ·rename_i zy;let⟨z,e⟩:=bH e;cases e;simp only[aag] at z;exact⟨z.1.1,z.2, .inl ⟨zy,rfl,z.1.2⟩⟩
 let⟨z,e⟩:=bH e;split at e
 ·rename_i c' q;split at e
  ·cases e
  ·rename_i nc;cases e;let⟨z1,z2⟩:=ik q;exact⟨z,z1, .inr ⟨nc, .inr z2⟩⟩
 ·rename_i c' q;split at e
  ·cases e
  ·rename_i nc;cases e;let⟨z1,z2⟩:=ik q;exact⟨z,z1, .inr ⟨nc, .inl z2⟩⟩
 ·cases e
theorem ym (MO:MOk D P T M mg) {y:Str} {c:Nat} (o:D.gl.lookup y=1#(.err c)∨D.gl.lookup y=1#(.nam c)):mg y=1#3#(T.ca c):=o.elim (λo=>(MO.er y c o).1) (MO.nm y c)
set_option tactic.hygienic true in
theorem xN (MO:MOk D P T M mg) {g:Gm} {X:Cx} (O:8#18) (E:XS):∀{ys:2#Expr} {cs:2#Nat},cL (v5 D g) ys=1#cs->PA 8#25 ys (tK ((cs.map T.ca).map .ref))/\0#cs=0#ys/\∀c∈cs,c≠1000/\∀k K',P.cl k=1#K'->¬K'.sup=[]->IsOk T k c K'
 |[],_,h=>by
  cases h;exact⟨gC,rfl,λc hc=>by cases hc⟩
 |e::ys,_,h=>by
  let⟨c,r,e1,e2,rfl⟩:=eq2 (show ((v5 D g e).bind λb=>(cL (v5 D g) ys).map λr=>b::r)=1#_ from h);let⟨i1,i2,i3⟩:=xN MO O E e2
  cases e with
  |Name y p=>
   let⟨c',q1,q2⟩:=aak.mp (show ((rg D g y).bind λc=>if c=1000 then none else 1#c)=1#c from e1);split at q2
   ·cases q2
   ·rename_i nc;cases q2;let⟨o1,o3,o2⟩:=zo q1;have o2:=o2.resolve_left λz=>nc z.2.1;refine⟨cZ (X:=X.af 8#9) (kI (X:=X.af 8#9) (v:= 3#(T.ca c)) (u:= 3#(T.ca c)) (O.gb o3).1 (by show X.mg y=_;rw[O.mg];exact ym MO o2.2) rfl (O.gb o3).2.1) i1 rfl,by rw[aas,aas,i2],λd hd=> ?_⟩
    rcases aap.mp hd with rfl|hd
    ·exact⟨nc,MO.is y d o1 (.inr ⟨nc,o2.2⟩)⟩
    ·exact i3 d hd
  |_=>cases e1
set_option tactic.hygienic true in
theorem HC (MO:MOk D P T M mg) {g:Gm} {X:Cx} (O:8#18) {f:Expr->5#PI.E} (ih:∀e ie,f e=1#ie->gF T P m X e ie) {x:Str} {p:Pos} {ie:PI.E} (zx:iU x=true) (h:CA D g x f es=1#ie) (E:XS):
  PE 8#25 (.Call (.Name x p) es [] pos) (tE T P (call P m) E ie):=by
 unfold CA at h;split at h
 ·rename_i a y p2;have ho:=λc e=>zo (D:=D) (g:=g) (y:=y) (c:=c) e;split at h
  ·rename_i cn en;let⟨c,h⟩:=bH h;simp only[aag] at c;let⟨⟨c1,c2⟩,c3⟩:=c;let⟨ia,e2,rfl⟩:=aab.mp h;let⟨o1,o3,o2⟩:=ho cn en
   have mx:(X.af 8#9).mg x=none:=by show X.mg x=none;rw[O.mg];exact MO.fr x c3
   have ex:x="isinstance":=by simpa[iU] using zx
   rcases o2 with⟨rfl,rfl,o4⟩|⟨nc,o2⟩
   ·refine BS (X:=X.af 8#9) (B:= .ty "ValueError") O.K MO.cls (MO.is _ _ o1 (.inl ⟨rfl,rfl⟩)) ex (ih a ia e2 E).1 (O.gb c2).1 mx (vo (u:= .type "ValueError") (O.gb o3).1 ?_ PyProof.Rows.Boot.«ValueError» rfl) (.inr ⟨_,rfl,rfl⟩) c1;show X.mg "ValueError"=none;rw[O.mg];exact MO.fr _ o4
   ·have my:=ym MO o2;exact BS (X:=X.af 8#9) (B:= 3#(T.ca cn)) O.K MO.cls (MO.is y cn o1 (.inr ⟨nc,o2⟩)) ex (ih a ia e2 E).1 (O.gb c2).1 mx (kI (u:= 3#(T.ca cn)) (O.gb o3).1 (by show X.mg y=_;rw[O.mg];exact my) rfl (O.gb o3).2.1) (.inl ⟨_,rfl,if_neg nc⟩) c1
  let⟨c,h⟩:=bH h;simp only[aag] at c;let⟨⟨⟨⟨c1,c2⟩,c3⟩,c4⟩,c5⟩:=c;let⟨ty,ia,e1,e2,rfl⟩:=eq2 h;exact FE (X:=X.af 8#9) O.K (O.K▸MO.ty) (by simpa[iU] using zx) e1 (ih a ia e2 E).1 (O.gb c2).1 (by show X.mg x=none;rw[O.mg];exact MO.fr x c3) (O.gb c4).1 (by show X.mg y=none;rw[O.mg];exact MO.fr y c5) c1
 ·rename_i a ys j tp;let⟨c,h⟩:=bH h;simp only[aag,ac3] at c;let⟨⟨⟨c1,c2⟩,c3⟩,c4⟩:=c;let⟨cs,ia,e1,e2,rfl⟩:=eq2 h;let⟨i1,i2,i3⟩:=xN MO O E e1;exact s_isM (X:=X.af 8#9) O.K MO.cls i3 (by simpa[iU] using zx) (ih a ia e2 E).1 (O.gb c2).1 (by show X.mg x=none;rw[O.mg];exact MO.fr x c3) i1 (by rw[i2];exact⟨c4.1,abw c4.2⟩) c1
 ·cases h
set_option tactic.hygienic true in
theorem AV (MO:MOk D P T M mg) (hc:8#15) {g:Gm} {X:Cx} (O:8#18) {f:Expr->5#PI.E} (ih:∀e ie,f e=1#ie->gF T P m X e ie) {x:Str} {p:Pos} {ks:2#Keyword} {ie:PI.E} (h:wb D g x f es ks=1#ie) (E:XS):
  PE 8#25 (.Call (.Name x p) es ks pos) (tE T P (call P m) E ie):=by
 unfold wb at h;split at h
 ·rename_i a kn y p2 kpos;let⟨c,h9⟩:=bH h;clear h;simp only[aag] at c;let⟨⟨⟨⟨⟨c1,c2⟩,c3⟩,c4⟩,c5⟩,c6⟩:=c
  have ex:x="sorted":=by simpa[isSort] using c1
  have ek:kn="key":=by simpa using c2
  subst ex ek
  cases z:g.gv D y with
  |none=>rw[z] at h9;cases h9
  |some v=>
   rw[z] at h9
   cases v with
   |fn i=>
    let⟨ia,e1,rfl⟩:=aab.mp (show (f a).map (λa=>PI.E.sortK a i)=1#ie from h9);let⟨z1,z2⟩:=ik z;let⟨g1,g2,g3⟩:=O.gb z1;let⟨f1,f2,f3⟩:=MO.fn y i z2;have F:=hc i;rw[←O.prog,←O.w,←O.mg,←O.base,O.K] at F;exact CY O.K F ((O.room c6).mono 8#0) (O.K▸f3) (O.gb c4).1 (by rw[O.mg];exact MO.fr _ c5) g1 (O.mg▸f1) (ih a ia e1 E).1 g2 c3
   |cls _ _=>cases h9
   |err _=>cases h9
   |nam _=>cases h9
   |val _=>cases h9
 ·cases h
theorem nB {g:Gm} {n:Nat} {gens:2#Comprehension} (h:cE D (n+1) g (.ListComp elt gens sc pos)=1#ie):∃tg iter ifs g' q t c ee,gens=[⟨tg,iter,ifs,0⟩]/\eP iter=true/\g.block sc=1#g'/\cQ D n g iter=1#q/\uo q tg=true/\k6 g' n tg=1#t/\cE D n g' elt=1#ee/\
  zD (cE D n g') ifs=1#c/\ie= .comp 0#(qU sc) (iT g.N sc) t q c ee:=by
 let⟨c,o,h⟩:=aak.mp (show ((sT gens).bind λc=>_)=1#ie from h)
 obtain rfl:gens=[c]:=by
  unfold sT at o;split at o<;>cases o;rfl
 let⟨tg,iter,ifs,as⟩:=c;let⟨z,h⟩:=bH (show (if (as==0&&eP iter)=true then _ else none)=1#ie from h);rw[aag,abm] at z;let⟨rfl,z⟩:=z;let⟨g',b1,h⟩:=aak.mp h;let⟨q,b2,h⟩:=aak.mp h;let⟨t,b3,h⟩:=aak.mp h;let⟨b0,b3⟩:=bH b3;let⟨ee,b4,h⟩:=aak.mp h;let⟨c,b5,rfl⟩:=aab.mp h;exact⟨tg,iter,ifs,g',q,t,c,ee,rfl,z,b1,b2,b0,b3,b4,b5,rfl⟩
theorem uB {X:Cx} {f:Expr->5#PI.E} (ih:∀e ie,f e=1#ie->gF T P m X e ie) {c:5#PI.E} (h:zD f ifs=1#c) (E:XS):k8 8#25 ifs (tO T P (call P m) E c):=by
 cases ifs with
 |nil=>
  cases h;exact Fi
 |cons f' r=>cases r with
  |cons _ _=>exact bp h
  |nil=>
   let⟨c1,b6⟩:=bH (show (if cR f'=true then (f f').map some else none)=1#c from h);let⟨x,e1,rfl⟩:=aab.mp b6;exact FC ((ih f' x e1 E).2 c1)
theorem Bh {g:Gm} {X:Cx} (O:8#18) {n:Nat} (ihE:∀(g:Gm) (X:Cx) (e:Expr) (ie:PI.E),XOk T P' w mg base k g X->cE D n g e=1#ie->gF T P m X e ie)
  (ihQ:∀(g:Gm) (X:Cx) (e:Expr) (q:PI.Q),XOk T P' w mg base k g X->cQ D n g e=1#q->∀(E:XS) (tg:Expr),uo q tg=true->L2.PI 8#25 tg e (tQ T P (call P m) E q))
  {gens:2#Comprehension} (h:cE D (n+1) g (.ListComp elt gens sc pos)=1#ie) (E:XS):PE 8#25 (.ListComp elt gens sc pos) (tE T P (call P m) E ie):=by
 let⟨tg,iter,ifs,g',q,t,c,ee,rfl,z,b1,b2,b0,b3,b4,b5,rfl⟩:=nB h;let⟨k0,k1,k2,k3⟩:=O.block b1;exact EI O.fm O.hx k1 k0 k2 (ihQ g X iter q O b2 E tg b0) (λσ own C fp pn s H hh=>qu (k3 own C fp pn s H hh) n tg t _ b3) (λσ own C fp pn s H hh=>uB (λe ie=>ihE g' _ e ie (k3 own C fp pn s H hh)) b5 _) (λσ own C fp pn s H hh=>(ihE g' _ elt ee (k3 own C fp pn s H hh) b4 _).1) (qY z)
set_option tactic.hygienic true in
theorem Cw (MO:MOk D P T M mg) (hc:8#15):∀n:Nat,
  (∀(g:Gm) (X:Cx) (e:Expr) (ie:PI.E),XOk T P' w mg base k g X->cE D n g e=1#ie->gF T P m X e ie)/\
  (∀(g:Gm) (X:Cx) (e:Expr) (q:PI.Q),XOk T P' w mg base k g X->cQ D n g e=1#q->∀(E:XS) (tg:Expr),uo q tg=true->L2.PI 8#25 tg e (tQ T P (call P m) E q)):=by
 intro n
 induction n with
 |zero=>exact⟨λg X e ie _ h=>(by cases h),λg X e q _ h=>(by cases h)⟩
 |succ n' ih=>
  let⟨ihE,ihQ⟩:=ih
  have stepE:∀(g:Gm) (X:Cx) (e:Expr) (ie:PI.E),XOk T P' w mg base k g X->cE D (n'+1) g e=1#ie->gF T P m X e ie:=by
   intro g X e ie O h;have ihs:∀e ie,cE D n' g e=1#ie->gF T P m X e ie:=λe ie q=>ihE g X e ie O q
   cases e with
   |Constant c j pos=>
    cases c<;>first|exact bp h|skip
    ·cases h;exact bh O (λE=>Jc) λ_=>rfl
    ·cases h;exact bh O (λE=>Ln) λ_=>rfl
    ·cases h;exact bh O (λE=>ID) λ_=>rfl
    ·cases h;exact bh O (λE=>Jv) λ_=>rfl
   |Name x pos=>
    replace h:(match g.ix x with|some i=>1#(PI.E.var i)|none=>Ce D g x)=1#ie:=h
    cases e1:g.ix x with
    |some i=>
     rw[e1] at h;cases h;let⟨h1,h2,h3,h4⟩:=O.ix e1;exact bh O (λE=>Ic (X:=X.af 8#9) h1 h2 h3 h4) λ_=>rfl
    |none=>
     rw[e1] at h;replace h:Ce D g x=1#ie:=h;unfold Ce at h;split at h
     ·rename_i v z;cases h;let⟨z1,z2⟩:=ik z;let⟨g1,g2,g3⟩:=O.gb z1;let⟨u,uv,m1,m2,m3⟩:=MO.va x v z2;exact bh O (λE=>Ho (X:=X.af 8#9) g1 (by show X.mg x=_;rw[O.mg];exact m1) m2 m3 g2) λ_=>rfl
     ·cases h
   |Dict ks vs pos=>
    cases ks with
    |cons _ _=>exact bp h
    |nil=>cases vs with
     |cons _ _=>exact bp h
     |nil=>
      cases h;exact bh O (λE=>Hx) λ_=>rfl
   |BinOp a op b pos=>
    let⟨z,h⟩:=bH (show (if Ax op=true then (cE D n' g a).bind λa=>(cE D n' g b).map λb=>PI.E.bin op a b else none)=1#ie from h);let⟨x,y,e1,e2,rfl⟩:=eq2 h;exact bh O (λE=>KG (Jr (X:=X.af 8#9) O.K z) (ihs a x e1 E).1 (ihs b y e2 E).1) λ_=>rfl
   |UnaryOp op a pos=>
    let⟨z,h⟩:=bH (show (if cR a=true then (cE D n' g a).bind λa=>cUn op a else none)=1#ie from h);let⟨x,e1,e2⟩:=aak.mp h
    cases op<;>first|(cases e2;done)|skip
    ·cases e2;exact λE=>⟨IY (ihs a x e1 E).1,λ_=>JJ ((ihs a x e1 E).2 z)⟩
    ·cases e2;exact bh O (λE=>JN (ihs a x e1 E).1) λ_=>rfl
   |BoolOp op vs pos=>
    let⟨z,h⟩:=bH (show (if vs.all cR=true then cBool op (cE D n' g) vs else none)=1#ie from h);exact λE=>⟨(md ihs E z h).1,λ_=>(md ihs E z h).2.pt⟩
   |Compare a ops bs pos=>
    have hu:X.A.units+9<cLine:=by have:=O.un;lia
    match ops,bs,h with
    |[op],[b],h=>
     let⟨z,h⟩:=bH (show (if eP b=true then (cE D n' g a).bind λa=>(cE D n' g b).map λb=>PI.E.cmp op a b else none)=1#ie from h);let⟨x,y,e1,e2,rfl⟩:=eq2 h;exact λE=>⟨Mq (BN (X:=X.af 8#9) O.K hu) (kM z) (ihs a x e1 E).1 (ihs b y e2 E).1,λ_=>JO (BN (X:=X.af 8#9) O.K hu) (kM z) (ihs a x e1 E).1 (ihs b y e2 E).1⟩
    |[_,_],[_,_],h=>exact bp h
    |[],_,h=>exact bp h
    |[_],[],h=>exact bp h
    |[_],_::_::_,h=>exact bp h
    |[_,_],[],h=>exact bp h
    |[_,_],[_],h=>exact bp h
    |[_,_],_::_::_::_,h=>exact bp h
    |_::_::_::_,_,h=>exact bp h
   |IfExp c a b pos=>
    let⟨z,h⟩:=bH (show (if cR c=true then (cE D n' g c).bind λc=>(cE D n' g a).bind λa=>(cE D n' g b).map λb=>PI.E.ite c a b else none)=1#ie from h);let⟨x,y,y',e1,e2,e3,rfl⟩:=eq3 h;exact λE=>⟨JA ((ihs c x e1 E).2 z) (ihs a y e2 E).1 (ihs b y' e3 E).1,λq=>by cases q⟩
   |Tuple es j pos=>
    let⟨z,h⟩:=bH (show (if es.all notStar=true then (cL (cE D n' g) es).map PI.E.tup else none)=1#ie from h);let⟨ies,e1,rfl⟩:=aab.mp h;exact bh O (λE=>JF (ij ihs E z e1)) λ_=>rfl
   |List es pos=>
    let⟨z,h⟩:=bH (show (if es.all notStar=true then (cL (cE D n' g) es).map PI.E.lst else none)=1#ie from h);let⟨ies,e1,rfl⟩:=aab.mp h;exact bh O (λE=>Ju (ij ihs E z e1)) λ_=>rfl
   |Attribute o f pos=>
    let⟨z,h⟩:=bH (show (if (jB o&&D.fx.contains f)=true then (cE D n' g o).map λo=>PI.E.fld o f else none)=1#ie from h);let⟨x,e1,rfl⟩:=aab.mp h;rw[aag] at z;exact bh O (λE=>JT (X:=X.af 8#9) O.K MO.cls (ihs o x e1 E).1 (iY z.1) (MO.fx f z.2)) λ_=>rfl
   |Subscript o i pos=>
    refine bh O (λE=> ?_) λ_=>rfl;replace h:HP (cE D n' g) o i=1#ie:=h
    have plain:fb i=true->((cE D n' g o).bind λo=>(cE D n' g i).map λi=>PI.E.idx o i)=1#ie->PE 8#25 (.Subscript o i pos) (tE T P (call P m) E ie):=λz h=>by
     let⟨x,y,e1,e2,rfl⟩:=eq2 h;exact JD (X:=X.af 8#9) O.K (by have:=O.un;show X.A.units+1<cLine;lia) (ihs o x e1 E).1 (ihs i y e2 E).1 (BH z)
    cases i with
    |Slice lo hi st p2=>cases st with
     |some _=>exact bp h
     |none=>
      let⟨x,e1,h⟩:=aak.mp (show ((cE D n' g o).bind λo=>_)=1#ie from h)
      cases lo with
      |none=>cases hi with
       |none=>
        cases h;exact qz (X:=X.af 8#9) O.K (ihs o x e1 E).1 wo wo
       |some b=>
        let⟨y,e2,rfl⟩:=aab.mp h;exact qz (X:=X.af 8#9) O.K (ihs o x e1 E).1 wo (vX (ihs b y e2 E).1)
      |some a=>cases hi with
       |none=>
        let⟨y,e2,rfl⟩:=aab.mp h;exact qz (X:=X.af 8#9) O.K (ihs o x e1 E).1 (vX (ihs a y e2 E).1) wo
       |some b=>
        let⟨y,z,e2,e3,rfl⟩:=eq2 h;exact qz (X:=X.af 8#9) O.K (ihs o x e1 E).1 (vX (ihs a y e2 E).1) (vX (ihs b z e3 E).1)
    |_=>exact plain rfl h
   |Call f es ks pos=>
    cases f<;>first|exact bp h|skip
    ·rename_i o x ap
     cases ks with
     |cons _ _=>exact bp h
     |nil=>
      let⟨hz,h⟩:=bH (show (if (g.cm||jV x)=true then ql x ap pos o es (cE D n' g) else none)=1#ie from h);exact bh O (λE=>Aa MO hc O ihs hz h E) λ_=>rfl
    rename_i x p
    cases ks with
    |cons kw ks=>exact bh O (λE=>AV MO hc O ihs h E) λ_=>rfl
    |nil=>
     replace h:(if iU x=true then CA D g x (cE D n' g) es else if rX x=true then Cu D g x (cE D n' g) es else if g.cm=true then qk D g x es (cE D n' g) else none)=1#ie:=h;split at h
     ·rename_i zx;exact bh O (λE=>HC MO O ihs zx h E) λ_=>rfl
     ·split at h
      ·rename_i zx
       have ex:x="dict":=by simpa[rX] using zx
       subst ex
       cases es with
       |nil=>exact bp h
       |cons a r=>cases r with
        |cons _ _=>exact bp h
        |nil=>
         let⟨c,h⟩:=bH (show (if (notStar a&&g.gb "dict"&&D.fr.contains "dict"&&g.cm)=true then (cE D n' g a).map PI.E.dOf else none)=1#ie from h);simp only[aag] at c;let⟨⟨⟨c1,c2⟩,c3⟩,c4⟩:=c;let⟨y,e1,rfl⟩:=aab.mp h;exact bh O (λE=>Ib (X:=X.af 8#9) (O.calm c4) (by have:=O.un;show X.A.units+2<cLine;lia) (O.gb c2).1 (by show X.mg "dict"=none;rw[O.mg];exact MO.fr _ c3) (ihs a y e1 E).1 c1) λ_=>rfl
      ·let⟨zc,h⟩:=bH h;exact bh O (λE=>AL MO hc O ihs zc h E) λ_=>rfl
   |ListComp elt gens sc pos=>
    exact bh O (λE=>Bh O ihE ihQ h E) λ_=>rfl
   |_=>exact bp h
  refine⟨stepE,λg X e q O h E tg ht=> ?_⟩;have ihs:∀e ie,cE D n' g e=1#ie->gF T P m X e ie:=λe ie q=>ihE g X e ie O q
  have val:(cE D n' g e).map PI.Q.val=1#q->L2.PI 8#25 tg e (tQ T P (call P m) E q):=λh=>by
   let⟨x,e1,rfl⟩:=aab.mp h;exact JK (X:=X.af 8#9) O.K (ihs e x e1 E).1
  cases e with
  |Call f es ks pos=>
   cases f<;>first|exact val h|skip
   rename_i x p
   cases ks with
   |cons _ _=>exact val h
   |nil=>
    replace h:(if kq x=true then EV D g x (cE D n' g) es else if qr x=true then ER D g x (cE D n' g) es else (cE D n' g (.Call (.Name x p) es [] pos)).map PI.Q.val)=1#q:=h
    by_cases zx:kq x=true
    ·have ex:x="range":=by simpa[kq] using zx
     rw[if_pos zx] at h;subst ex
     cases es with
     |nil=>exact bp h
     |cons a r=>cases r with
      |nil=>
       let⟨c,h⟩:=bH h;simp only[aag] at c;let⟨⟨c1,c2⟩,c3⟩:=c;let⟨x,e1,rfl⟩:=aab.mp h;exact FT (X:=X.af 8#9) (O.gb c1).1 (by show X.mg "range"=none;rw[O.mg];exact MO.fr _ c2) (mF (ihs a x e1 E).1 wc (bf c3)) (bf c3)
      |cons b r=>exact bp h
    rw[if_neg zx] at h
    by_cases zz:qr x=true
    ·have ex:x="zip":=by simpa[qr] using zz
     rw[if_pos zz] at h;subst ex
     cases es with
     |nil=>exact bp h
     |cons a r=>cases r with
      |nil=>exact bp h
      |cons b r=>cases r with
       |cons _ _=>exact bp h
       |nil=>
        let⟨c,h⟩:=bH h;simp only[aag] at c;let⟨⟨⟨c1,c2⟩,c3⟩,c4⟩:=c;let⟨x,y,e1,e2,rfl⟩:=eq2 h
        cases tg<;>first|(cases ht;done)|skip
        refine JI (X:=X.af 8#9) O.K (O.gb c1).1 (by show X.mg "zip"=none;rw[O.mg];exact MO.fr _ c2) (mF (ihs a x e1 E).1 (mF (ihs b y e2 E).1 wc (bf c4)) (bf c3)) ?_ (bf c4);show starEach [a,b] X.env=_;rw[bf c3,bf c4];rfl
    rw[if_neg zz] at h;exact val h
  |_=>exact val h
theorem Bw {g:Gm} {X:Cx} (O:8#18) {gens:2#Comprehension} {sc:Scope} {cpos py:Pos} {x:Str} {line:Nat}:
  swapsWith (.ListComp elt gens sc cpos) 1#(.Name x py) line X.env=pure (g.sc.kind== .function&&g.sc.names.lookup x==1#.local&&py.line==cpos.line&& !(sc.names.any λ(n,k)=>n==x&&(k== .local||k== .cell))):=by
 have b:X.env.blockKind= .function:=by
  unfold Env.blockKind;rw[O.sc,O.kd];rfl
 show pure (X.env.blockKind== .function&&X.env.scope.names.lookup x==1#.local&&py.line==cpos.line&& !(sc.names.any λ(n,k)=>n==x&&(k== .local||k== .cell)))=_;rw[b,O.sc,O.kd]
set_option tactic.hygienic true in
theorem xZ (MO:MOk D P T M mg) {g:Gm} {X:Cx} (O:8#18) {f:Expr->5#PI.E} (ih:∀e ie,f e=1#ie->gF T P m X e ie) {x:Str} {is:PI.S} (h:qH D g x es f=1#is) (E:XS):
  PS 8#25 (.Raise 1#(.Call (.Name x np) es [] cpos) none pos) (tS T P (call P m) E is):=by
 unfold qH at h;split at h
 ·rename_i c z;let⟨a1,h⟩:=bH h;let⟨ies,e1,rfl⟩:=aab.mp h;simp only[aag,ac3] at a1;let⟨⟨⟨c1,c2⟩,c3⟩,c4⟩:=a1;let⟨z1,z2⟩:=ik z;let⟨g1,g2,g3⟩:=O.gb z1;let⟨m1,m2,m3,K',m4,m5⟩:=MO.er x c z2;have A:=ij ih E c1 e1
  cases es with
  |nil=>cases c2
  |cons e es=>
   have c1':=c1;rw[aaJ,aag] at c1';exact Ep m4 m5 rfl m2 (by rw[jJ e1];exact c3) O.hx (O.calm c4) g1 (by rw[O.mg];exact m1) (O.K▸m3) A g2 (bf c1'.1) (dZ c1'.2)
 ·cases h
theorem zU {X:Cx} {t:TS} (h:bS (X.af (L4.XE X λ_ _ _ _=>False)) ss t):bS X ss t:=λpins s σ H D I hw=>
 aaL (h pins s σ H D (I.af _) hw) (λ_ _ z=>z.aS) λe s2 z=>by
  let⟨_,_,_,_,_,_,_,_,_,_,_,_,z⟩:=z;exact z.elim
set_option tactic.hygienic true in
theorem DE (MO:MOk D P T M mg) {g:Gm} {X:Cx} (O:8#18) (zc:g.cm=true) {n:Nat} {b:2#Stmt} {cn:Str} {hp:Pos} {x:5#Str} {is:PI.S}
  (ihB:∀(X':Cx),XOk T P' w mg base k g X'->∀iss,eO D n g b=1#iss->∀E:XS,bS (X'.af (L4.XE X' E)) b (fV T P (call P m) E iss))
  (ihH:∀(X':Cx),XOk T P' w mg base k {g with cm:=false} X'->∀iss,eO D n {g with cm:=false} (h0::hs)=1#iss->∀E:XS,bS (X'.af (L4.XE X' E)) (h0::hs) (fV T P (call P m) E iss))
  (h:((vv D g cn).bind λc=>(Ay g x).bind λi=>(eO D n g b).bind λb=>(eO D n {g with cm:=false} (h0::hs)).map λh=>PI.S.try_ b c i h)=1#is) (E:XS):
  PS 8#25 (.Try b [.ExceptHandler 1#(.Name cn np) x (h0::hs) hp] [] [] pos) (tS T P (call P m) E is):=by
 let⟨c,e1,h⟩:=aak.mp h;let⟨i,ib,ih,e2,e3,e4,rfl⟩:=eq3 h;have hB:∀Eb pn,(∀b∈X.ex,∃o,(b,o)∈pn)->bS ((aT X pn).af (L4.XE (aT X pn) Eb)) b (fV T P (call P m) Eb ib):=λEb pn hh=>ihB (aT X pn) ⟨O.N,O.nd,O.sc,O.fn,O.kd,O.fm,hh,O.calm,O.K,O.prog,O.w,O.mg,O.base,O.room,O.un⟩ ib e3 Eb
 have hH:∀ea,bS (eT X ea X.pn) (h0::hs) (fV T P (call P m) (λ_ _ _ _=>False) ih):=λea=>
  zU (X:=eT X ea X.pn) (ihH (eT X ea X.pn) ⟨O.N,O.nd,O.sc,O.fn,O.kd,O.fm,O.hx,λz=>(by cases z),O.K,O.prog,O.w,O.mg,O.base,λz=>(by cases z),O.un⟩ ih e4 _)
 obtain⟨z1,z2,z3⟩:D.is.contains cn=true/\g.gb cn=true/\D.gl.lookup cn=1#(.err c):=by
  unfold vv at e1;let⟨q,e1⟩:=bH e1;split at e1
  ·rename_i c' z;cases e1;let⟨y1,y2⟩:=ik z;exact⟨q,y1,y2⟩
  ·cases e1
 let⟨g1,g2,g3⟩:=O.gb z2
 have hm:X.mg cn=1#3#(T.ca c):=by rw[O.mg];exact(MO.er cn c z3).1
 have nd:X.N.Nodup:=by rw[O.N];exact O.nd
 cases x with
 |none=>
  cases e2;exact ED O.K (MO.ex cn c z1 z3) O.fm O.hx g1 hm hB hH g2
 |some x=>
  let⟨j,e5,e6⟩:=aak.mp (show ((g.N.idxOf? x).bind λi=>if (g.sc.names.lookup x==1#.local)=true then 1#1#i else none)=1#i from e2);let⟨e7,e8⟩:=bH e6;cases e8;exact Jm O.K (MO.ex cn c z1 z3) O.fm O.hx nd (O.N▸rG e5) (by rw[O.sc];simpa using e7) g1 hm hB hH g2
set_option tactic.hygienic true in
theorem Iu (MO:MOk D P T M mg) (hc:8#15):∀n:Nat,
  (∀(g:Gm) (X:Cx) (s:Stmt) (is:PI.S),XOk T P' w mg base k g X->cS D n g s=1#is->∀E:XS,PS 8#25 s (tS T P (call P m) E is))/\
  (∀(g:Gm) (X:Cx) (ss:2#Stmt) (iss:2#PI.S),XOk T P' w mg base k g X->eO D n g ss=1#iss->∀E:XS,bS 8#25 ss (fV T P (call P m) E iss)):=by
 intro n
 induction n with
 |zero=>exact⟨λg X s is _ h=>(by cases h),λg X ss iss _ h=>(by cases h)⟩
 |succ n ih=>
  let⟨ihS,ihSs⟩:=ih;let⟨sE,sQ⟩:=Cw MO hc n;refine⟨λg X s is O h E=> ?_,λg X ss iss O h E=> ?_⟩
  ·have ihs:∀e ie,cE D n g e=1#ie->gF T P m X e ie:=λe ie q=>sE g X e ie O q
   cases s with
   |Return v pos=>cases v with
    |none=>
     cases h;exact Fh
    |some e=>
     let⟨x,e1,rfl⟩:=aab.mp (show (cE D n g e).map PI.S.ret=1#is from h);exact JU (ihs e x e1 E).1
   |Expr e pos=>
    let⟨z,h⟩:=bH (show (if eC e=true then (cE D n g e).map PI.S.expr else none)=1#is from h);let⟨x,e1,rfl⟩:=aab.mp h;exact Hr (ihs e x e1 E).1 (uF z)
   |If c a b pos=>
    let⟨z,h⟩:=bH (show (if cR c=true then (cE D n g c).bind λc=>(eO D n g a).bind λa=>(eO D n g b).map λb=>PI.S.ife c a b else none)=1#is from h);let⟨x,y,y',e1,e2,e3,rfl⟩:=eq3 h;exact KZ ((ihs c x e1 E).2 z) (ihSs g X a y O e2 E) (ihSs g X b y' O e3 E)
   |For tg it b els pos=>cases els with
    |cons _ _=>exact bp h
    |nil=>
     let⟨z,h⟩:=bH (show (if (eP it&&g.cm)=true then (cQ D n g it).bind λq=>(if uo q tg=true then k6 g n tg else none).bind λt=>(eO D n g b).map λb=>PI.S.for t q b else none)=1#is from h);let⟨q,t,y,e1,e2,e3,rfl⟩:=eq3 h;let⟨e0,e2⟩:=bH e2;rw[aag] at z;exact Jo O.fm O.hx (O.calm z.2) (sQ g X it q O e1 E tg e0) (qu O n tg t E e2) (ihSs g X b y O e3 E) (qY z.1)
   |Assign tgs e pos=>cases tgs with
    |nil=>exact bp h
    |cons t r=>cases r with
     |cons _ _=>cases t<;>cases h
     |nil=>
      cases t<;>first|exact bp h|skip
      ·rename_i o f tp;let⟨z,h⟩:=bH (show (if (eC e&&D.fx.contains f)=true then (cE D n g o).bind λo=>(cE D n g e).map λe=>PI.S.dE o f (FK (D.ff.contains f) e) else none)=1#is from h);let⟨x,y,e1,e2,rfl⟩:=eq2 h;rw[aag] at z
       have hz:PE 8#25 e (tE T P (call P m) E (FK (D.ff.contains f) y)):=by
        cases D.ff.contains f with
        |true=>exact L8 (ihs e y e2 E).1
        |false=>exact(ihs e y e2 E).1
       exact Fo (X:=X.af 8#9) O.K MO.cls (MO.fx f z.2) (ihs o x e1 E).1 hz (uF z.1)
      ·rename_i o i tp;let⟨z,h⟩:=bH (show (if (fb i&&eC e)=true then (cE D n g o).bind λo=>(cE D n g i).bind λi=>(cE D n g e).map λe=>PI.S.fR o i e else none)=1#is from h);let⟨x,y,y',e1,e2,e3,rfl⟩:=eq3 h;rw[aag] at z;exact FY (X:=X.af 8#9) (by have:=O.un;show X.A.units+1<cLine;lia) (ihs o x e1 E).1 (ihs i y e2 E).1 (ihs e y' e3 E).1 z.1 z.2
      ·rename_i x py;let⟨i,ie,e1,e2,rfl⟩:=eq2 (show ((g.lx x).bind λi=>(cE D n g e).map λe=>PI.S.set 4#i e)=1#is from h);let⟨h1,h2,h3⟩:=O.lx e1
       have nd:X.N.Nodup:=by rw[O.N];exact O.nd
       have std:swapsWith e 1#(.Name x py) pos.line X.env=pure false->PS 8#25 (.Assign [.Name x py] e pos) (tS T P (call P m) E (.set 4#i ie)):=λq=>JW (X:=X.af 8#9) nd h1 h2 (ihs e ie e2 E).1 q h3
       cases e<;>first|exact std rfl|(cases n<;>cases e2;done)|skip
       rename_i elt gens sc cpos;have sw:=Bw (elt:=elt) (gens:=gens) (sc:=sc) (cpos:=cpos) (py:=py) (x:=x) (line:=pos.line) O
       cases n with
       |zero=>cases e2
       |succ n=>
        let⟨sE',sQ'⟩:=Cw MO hc n
        cases eb:(g.sc.kind== .function&&g.sc.names.lookup x==1#.local&&py.line==cpos.line&& !(sc.names.any λ(n,k)=>n==x&&(k== .local||k== .cell))) with
        |false=>exact std (by rw[sw,eb])
        |true=>
         rw[eb] at sw
         have hl:X.env.scope.names.lookup x=1#.local:=by
          simp only[aag,abm] at eb;rw[O.sc];exact eb.1.1.2
         let⟨tg,iter,ifs,g',q,t,c,ee,rfl,z,b1,b2,b0,b3,b4,b5,rfl⟩:=nB e2;let⟨k0,k1,k2,k3⟩:=O.block b1;exact Gn O.fm O.hx k1 k0 k2 nd h1 hl (sQ' g X iter q O b2 E tg b0) (λσ own C fp pn s H hh=>qu (k3 own C fp pn s H hh) n tg t _ b3) (λσ own C fp pn s H hh=>uB (λe ie=>sE' g' _ e ie (k3 own C fp pn s H hh)) b5 _) (λσ own C fp pn s H hh=>(sE' g' _ elt ee (k3 own C fp pn s H hh) b4 _).1) sw (qY z)
      ·rename_i tes tk tp;let⟨z,h⟩:=bH (show (if za e=true then (k6 g n (.Tuple tes tk tp)).bind λt=>(cE D n g e).map λe=>PI.S.set t e else none)=1#is from h);let⟨t,ie,e1,e2,rfl⟩:=eq2 h;exact He (X:=X.af 8#9) (ihs e ie e2 E).1 (qu O n _ t E e1) (by cases e<;>rfl) (by cases e<;>first|rfl|cases z) rfl
   |Try b hs els fin pos=>
    cases hs with
    |nil=>exact bp h
    |cons hd r=>cases r with
     |cons _ _=>cases hd with|ExceptHandler ty x hb hp=>cases ty with
      |none=>exact bp h
      |some t=>cases t<;>first|exact bp h|(cases hb<;>cases h)
     |nil=>
      cases hd with
      |ExceptHandler ty x hb hp=>cases ty with
       |none=>exact bp h
       |some t=>
        cases t<;>first|exact bp h|skip
        rename_i cn np
        cases hb with
        |nil=>exact bp h
        |cons h0 hs=>cases els with
         |cons _ _=>exact bp h
         |nil=>cases fin with
          |cons _ _=>exact bp h
          |nil=>
           let⟨zc,h⟩:=bH (show (if g.cm=true then (vv D g cn).bind λc=>(Ay g x).bind λi=>(eO D n g b).bind λb=>(eO D n {g with cm:=false} (h0::hs)).map λh=>PI.S.try_ b c i h else none)=1#is from h);exact DE MO O zc (λX' O' iss e E=>ihSs g X' b iss O' e E) (λX' O' iss e E=>ihSs {g with cm:=false} X' (h0::hs) iss O' e E) h E
   |Raise exc cause pos=>cases exc with
    |none=>exact bp h
    |some ex=>cases cause with
     |some _=>cases ex<;>first|exact bp h|(rename_i a b c d;cases a<;>first|exact bp h|(cases c<;>cases h))
     |none=>
      cases ex<;>first|exact bp h|skip
      rename_i fn es ks cpos
      cases fn<;>first|exact bp h|skip
      rename_i x np
      cases ks with
      |cons _ _=>exact bp h
      |nil=>exact xZ MO O ihs h E
   |_=>exact bp h
  ·cases ss with
   |nil=>
    cases h;exact EH
   |cons s r=>
    let⟨x,y,e1,e2,rfl⟩:=eq2 (show ((cS D n g s).bind λs=>(eO D n g r).map λr=>s::r)=1#iss from h);exact Eu (ihS g X s x O e1 E) (ihSs g X r y O e2 E)
structure DOk (D:Dt) (P:Pg) (T:CT) (M:Md) (base:Heap) (mg:8#19):Prop where
 def_:∀i d,P.fn i=1#d->∃(x qual:Str) (st:Stmt),Fun T.K x qual st (M.fa i) (M.fd i)/\FnScope (ki (M.ps i) (az st)) (M.ps i) (az st)/\uI D (M.ps i) (az st) (br st)=1#d
theorem F6 (MO:MOk D P T M mg) (DO:DOk D P T M base mg):∀(n:Nat) (i:Nat),FnOk P' w T.K mg base (dI P' w) (4*n) (M.fa i) (M.fd i) (M.ps i) (fT T P n i):=by
 intro n
 induction n with
 |zero=>exact λi=>⟨λvs H Q E z904=>by let⟨st,as,G,xs,s,r,h⟩:=z904;exact h.elim,λA outer s H args us vs Q E _ _ _ _ z913=>by let⟨st,as,G,xs,s',r,h⟩:=z913;exact h.elim⟩
 |succ n ih=>
  intro i
  cases e:P.fn i with
  |none=>
   have no:∀{as G xs st Q X},¬ae T as G (call P (n+1) i xs st) Q X:=λ{as G xs st Q X} h=>by
    unfold call at h;rw[e] at h;exact h
   exact⟨λvs H Q E z904=>by let⟨st,as,G,xs,s,r,h⟩:=z904;exact(no h).elim,λA outer s H args us vs Q E _ _ _ _ z913=>by let⟨st,as,G,xs,s',r,h⟩:=z913;exact(no h).elim⟩
  |some d=>
   let⟨x,qual,st,F,S,c⟩:=DO.def_ i d e;let⟨b,c1,rfl⟩:=aab.mp (show (eO D 400 ⟨ki (M.ps i) (az st),az st,λ_=>true,true⟩ (br st)).map (λb=>(⟨0#(M.ps i),0#(ki (M.ps i) (az st)),b⟩:Fn))=1#d from c);refine HZ (k:=4*n+3) F S e rfl rfl λcdv A outer s H E hr=> ?_;refine(Iu MO ih 400).2 ⟨ki (M.ps i) (az st),az st,λ_=>true,true⟩ _ _ _ ⟨rfl,S.nd,rfl,λ_ _=>rfl,S.kind,fmD,hxD,λ_=>rfl,rfl,rfl,rfl,rfl,rfl,λ_=>hr,by have:=hr.un;show (A.deeper (envOfC qual (az st) s.heap.objs.size (M.fa i) cdv)).units+200<cLine;lia⟩ c1 _
end
theorem BD (K:8#4):vQ K:=by
 intro a n ha hn;simp only[aap,abz,acR] at ha hn
 rcases ha with rfl|rfl|rfl|rfl|rfl|rfl|rfl<;>rcases hn with rfl|rfl|rfl|rfl|rfl|rfl<;>exact(by with_unfolding_all rfl)
structure Df where
 i:Nat
 o:5#Str
 x:Str
 q:Str
 st:Stmt
 ps:2#Str
def ko (K:8#4) (x q:Str) (st:Stmt) (f:Addr):Prop:=∃(oc:Value) (od:5#Addr) (kV doc pm:Value) (an:5#Addr) (cdv ct:Value) (osl:Array 5#Value),
 K.lookup f=1#⟨oc,od, .func (PySem.W.fnOf x q (dH st) (br st) (az st) .none kV doc pm an cdv ct),osl⟩/\PySem.W.codeIn K cdv q=true/\PySem.W.keepIn K 3#f=true
def Gj (ps:2#Str) (sc:Scope):Bool:=(sc.kind== .function)&& !sc.isCoroutine&& !sc.isGenerator&&kf (ki ps sc)&&(ps.all λx=>vT sc x)&&(sc.names.all λy=> !(y.2== .free))
theorem Ip {ps:2#Str} (h:Gj ps sc=true):FnScope (ki ps sc) ps sc:=by
 unfold Gj at h;simp only[aag,ac0,abm,aa4,beq_eq_false_iff_ne] at h;let⟨⟨⟨⟨⟨h1,h2⟩,h3⟩,h4⟩,h5⟩,h6⟩:=h;refine⟨h1,h2,h3,lU h4, ?_,λx hx=> ?_,h6⟩
 ·unfold ki;simp
 ·have:=h5 x hx;unfold vT at this;simpa only[abx,abm] using this
structure DS (D:Dt) (d:Df):Prop where
 b:∀(kV doc pm:Value) (an:5#Addr) (cdv ct:Value) (us:8#36),0#us=0#d.ps->bindArgs (PySem.W.fnOf d.x d.q (dH d.st) (br d.st) (az d.st) .none kV doc pm an cdv ct) ⟨us,[]⟩=pure (d.ps.zip us)
 s:Gj d.ps (az d.st)=true
 c:(uI D d.ps (az d.st) (br d.st)).isSome=true
def et (D:Dt) (ds:2#Df) (cls:2#(Nat×Cl)) (w:Nat):Pg:=⟨ds.map λd=>(d.i,(uI D d.ps (az d.st) (br d.st)).getD ⟨0,0,[]⟩),cls,w⟩
theorem uc {D:Dt} {cls:2#(Nat×Cl)} {w:Nat} {i:Nat} {f:Fn}:∀{ds:2#Df},(et D ds cls w).fn i=1#f->∃d,ds.find? (λd=>d.i==i)=1#d/\d∈ds/\f=(uI D d.ps (az d.st) (br d.st)).getD ⟨0,0,[]⟩
 |[],h=>by cases h
 |d::ds,h=>by
  replace h:((d.i,(uI D d.ps (az d.st) (br d.st)).getD ⟨0,0,[]⟩)::ds.map λd=>(d.i,(uI D d.ps (az d.st) (br d.st)).getD ⟨0,0,[]⟩)).lookup i=1#f:=h;rw[aaI] at h
  cases e:(i==d.i) with
  |true=>
   rw[e] at h;cases h;refine⟨d, ?_,aaz,rfl⟩;rw[abi,show (d.i==i)=true by simpa using (beq_iff_eq.mp e).symm]
  |false=>
   rw[e] at h;let⟨d',h1,h2,h3⟩:=uc (D:=D) (cls:=cls) (w:=w) (ds:=ds) h;refine⟨d', ?_,aat _ h2,h3⟩;rw[abi,show (d.i==i)=false by simpa using λz=>(beq_eq_false_iff_ne.mp e) z.symm];exact h1
theorem build {K:8#4} {D:Dt} {ds:2#Df} {fa:Nat->Addr} (h:∀i d,ds.find? (λd=>d.i==i)=1#d->ko K d.x d.q d.st (fa i)):∃M:Md,M.fa=fa/\∀i d,ds.find? (λd=>d.i==i)=1#d->M.ps i=d.ps/\Fun K d.x d.q d.st (fa i) (M.fd i):=by
 have ex:∀i,∃fd:FuncData,∀d,ds.find? (λd=>d.i==i)=1#d->Fun K d.x d.q d.st (fa i) fd:=λi=>by
  cases e:ds.find? (λd=>d.i==i) with
  |none=>exact⟨PySem.W.fnOf "" "" ⟨[],[],none,[],[],none,[]⟩ [] ⟨.function,[],false,false,[]⟩ .none .none .none .none none .none .none,λd z=>by cases z⟩
  |some d=>
   let⟨oc,od,kV,doc,pm,an,cdv,ct,osl,l,c,k⟩:=h i d e;exact⟨_,λd' z=>by cases z;exact Gf l c k⟩
 refine⟨⟨fa,λi=>Classical.choose (ex i),λi=>((ds.find? (λd=>d.i==i)).map (·.ps)).getD []⟩,rfl,λi d e=>⟨?_,Classical.choose_spec (ex i) d e⟩⟩;show ((ds.find? (λd=>d.i==i)).map (·.ps)).getD []=d.ps;rw[e];rfl
noncomputable def iG (K:8#4) (x:Str):Addr:=match PySem.W.nsIn K mainGlobals x with
 |some 1#3#a=>a
 |_=>0
noncomputable def fnAt (K:8#4) (C:Addr) (m:Str):Addr:=match PySem.W.findIn K 3#C m with
 |some 1#3#a=>a
 |_=>0
def j5 (K:8#4) (d:Df):Addr:=match d.o with
 |none=>iG K d.x
 |some c=>fnAt K (iG K c) d.x
def lP (K:8#4) (ds:2#Df) (i:Nat):Addr:=((ds.find? λd=>d.i==i).map (j5 K)).getD 0
def bw (K:8#4) (cn:2#(Nat×Str)) (c:Nat):Addr:=((cn.lookup c).map (iG K)).getD 0
theorem gq {K:8#4} {x:Str} {a:Addr} (h:PySem.W.nsIn K mainGlobals x=1#1#3#a):iG K x=a:=by
 unfold iG;rw[h]
theorem uV {K:8#4} {C:Addr} {x:Str} {a:Addr} (h:PySem.W.findIn K 3#C x=1#1#3#a):fnAt K C x=a:=by
 unfold fnAt;rw[h]
def jS (K:8#4) (d:Df):Prop:=match d.o with
 |none=>∃f,PySem.W.nsIn K mainGlobals d.x=1#1#3#f/\ko K d.x d.q d.st f
 |some c=>∃C f,PySem.W.nsIn K mainGlobals c=1#1#3#C/\PySem.W.findIn K 3#C d.x=1#1#3#f/\ko K d.x d.q d.st f
set_option tactic.hygienic true in
theorem D5 {K:8#4} {d:Df} (h:jS K d):ko K d.x d.q d.st (j5 K d):=by
 unfold jS at h;unfold j5;split at h
 ·let⟨f,e,q⟩:=h;rename_i z;show ko K d.x d.q d.st (iG K d.x);rw[gq e];exact q
 ·let⟨C,f,e1,e2,q⟩:=h;rename_i c z;show ko K d.x d.q d.st (fnAt K (iG K c) d.x);rw[gq e1,uV e2];exact q
def me (K:8#4) (ds:2#Df) (cls:2#(Nat×Cl)) (cn:2#(Nat×Str)) (xc:Nat->Bool):Str×Gv->Prop
 |(x, .fn i)=>∃d,ds.find? (λd=>d.i==i)=1#d/\d.o=none/\d.x=x
 |(x, .cls c b)=>∃C K',PySem.W.nsIn K mainGlobals x=1#1#3#C/\cn.lookup c=1#x/\cls.lookup c=1#K'/\xc c=false/\PySem.W.keepIn K 3#C=true/\PySem.W.makesIn K C=true/\
  (b=false->K'.init=none/\PySem.W.findIn K 3#C "__init__"=1#1#(.builtin "object.__init__"))/\
  (b=true->∃fi d f,K'.init=1#fi/\ds.find? (λd=>d.i==fi)=1#d/\d.o=1#x/\d.x="__init__"/\PySem.W.findIn K 3#C "__init__"=1#1#3#f/\PySem.W.isFn K 3#f=true)
 |(x, .err c)=>∃C K',PySem.W.nsIn K mainGlobals x=1#1#3#C/\cn.lookup c=1#x/\cls.lookup c=1#K'/\K'.init=none/\xc c=true/\PySem.W.excIn K C u9 "ValueError.__new__"=true
 |(x, .val v)=>∃i tk,v= 6#i/\PySem.W.nsIn K mainGlobals x=1#1#(.int i tk)
 |(x, .nam c)=>∃C,PySem.W.nsIn K mainGlobals x=1#1#3#C/\cn.lookup c=1#x
def vY (K:8#4) (ds:2#Df) (cn:2#(Nat×Str)) (c:Nat) (p:Str×Nat):Prop:=∃x C f d y R,cn.lookup c=1#x/\PySem.W.nsIn K mainGlobals x=1#1#3#C/\PySem.W.findIn K 3#C p.1=1#1#3#f/\PySem.W.isFn K 3#f=true/\
 ds.find? (λd=>d.i==p.2)=1#d/\d.o=1#y/\d.x=p.1/\PySem.W.nsIn K mainGlobals y=1#1#3#R/\PySem.W.findIn K 3#R p.1=1#1#3#f
set_option tactic.hygienic true in
theorem du {α:Type} {x:Str} {v:α}:∀{l:2#(Str×α)},l.lookup x=1#v->(x,v)∈l
 |[],h=>by cases h
 |(y,w)::r,h=>by
  rw[aaI] at h;split at h
  ·rename_i e;cases h;rw[eq_of_beq e];exact aaz
  ·exact aat _ (du h)
section
variable {K:8#4} {D:Dt} {ds:2#Df} {cls:2#(Nat×Cl)} {cn:2#(Nat×Str)} {w:Nat} {xc:Nat->Bool} {mg:8#19} {h:Heap} {M:Md}
theorem mQ {i:Nat} {d:Df} (e:ds.find? (λd=>d.i==i)=1#d):lP K ds i=j5 K d:=by
 unfold lP;rw[e];rfl
theorem gc {c:Nat} {x:Str} {C:Addr} (e:cn.lookup c=1#x) (h:PySem.W.nsIn K mainGlobals x=1#1#3#C):bw K cn c=C:=by
 unfold bw;rw[e];exact gq h
theorem yl {d:Df} {x:Str} {C f:Addr} (o:d.o=1#x) (h:PySem.W.nsIn K mainGlobals x=1#1#3#C) (h2:PySem.W.findIn K 3#C d.x=1#1#3#f):j5 K d=f:=by
 unfold j5;rw[o];show fnAt K (iG K x) d.x=f;rw[gq h,uV h2]
theorem Hk (X:K.In h) (G:h.Ns mainGlobals mg) (hD:∀d∈ds,jS K d) (hM:M.fa=lP K ds) (hF:∀i d,ds.find? (λd=>d.i==i)=1#d->M.ps i=d.ps/\Fun K d.x d.q d.st (lP K ds i) (M.fd i)) (hS:∀d∈ds,DS D d)
  (hg:∀p∈D.gl,me K ds cls cn xc p) (hr:∀x∈D.fr,PySem.W.nsIn K mainGlobals x=1#none) (hc:COk ⟨K,bw K cn,xc⟩ (et D ds cls w)) (hm:∀(c:Nat) k',cls.lookup c=1#k'->∀p∈k'.meths,k'.exc=false/\vY K ds cn c p) (hx:∀f,D.fx.contains f=true->∀(c:Nat) k,(et D ds cls w).cl c=1#k->f∈k.flds->k.exc=false)
  (hi:∀y∈D.is,∀c,8#22->∀k K',(et D ds cls w).cl k=1#K'->¬K'.sup=[]->IsOk ⟨K,bw K cn,xc⟩ k c K')
  (he:∀y∈D.is,∀c,D.gl.lookup y=1#(.err c)->kH ⟨K,bw K cn,xc⟩ (et D ds cls w) c):MOk D (et D ds cls w) ⟨K,bw K cn,xc⟩ M mg:=by
 refine⟨λx i e=> ?_,λx e=>PySem.W.mg_none_of X G (hr x (by simpa using e)),BD K,hc,λx c b e=> ?_,λx c e=> ?_,λx v e=> ?_,λm c k' fi q1 q2=> ?_,hx,λy c q=>hi y (by simpa using q) c,λy c q=>he y (by simpa using q) c,λx c e=> ?_⟩
 ·let⟨d,e1,e2,e3⟩:=hg _ (du e);let⟨f1,f2⟩:=hF i d e1;have dm:=abu e1;rw[hM];refine⟨?_,f2.kp, ?_⟩
  ·have z:=hD d dm;unfold jS at z;rw[e2] at z;let⟨f,z1,_⟩:=z;rw[mQ e1];unfold j5;rw[e2];show mg x=1#3#(iG K d.x);rw[gq z1,←e3];exact ab4 X G z1
  ·rw[f1];exact f2.binds (hS d dm).b
 ·let⟨C,K',g1,g2,g3,g4,g5,g6,g7,g8⟩:=hg _ (du e);have ec:bw K cn c=C:=gc g2 g1
  show mg x=1#3#(bw K cn c)/\xc c=false/\PySem.W.keepIn K 3#(bw K cn c)=true/\PySem.W.makesIn K (bw K cn c)=true/\∃K',(et D ds cls w).cl c=1#K'/\(b=false->K'.init=none/\PySem.W.findIn K 3#(bw K cn c) "__init__"=1#1#(.builtin "object.__init__"))/\
   (b=true->∃fi,K'.init=1#fi/\PySem.W.findIn K 3#(bw K cn c) "__init__"=1#1#3#(M.fa fi)/\PySem.W.isFn K 3#(M.fa fi)=true/\Binds K (M.fd fi) (M.ps fi) [])
  rw[ec];refine⟨ab4 X G g1,g4,g5,g6,K',g3,g7,λhb=> ?_⟩;let⟨fi,d,f,i1,i2,i3,i4,i5,i6⟩:=g8 hb;let⟨f1,f2⟩:=hF fi d i2
  have ef:M.fa fi=f:=by
   rw[hM,mQ i2];exact yl i3 g1 (by rw[i4];exact i5)
  refine⟨fi,i1,by rw[ef];exact i5,by rw[ef];exact i6, ?_⟩;rw[f1];exact f2.binds (hS d (abu i2)).b
 ·let⟨C,K',g1,g2,g3,g4,g5,g6⟩:=hg _ (du e);have ec:bw K cn c=C:=gc g2 g1;show mg x=1#3#(bw K cn c)/\xc c=true/\PySem.W.excIn K (bw K cn c) u9 "ValueError.__new__"=true/\∃K',(et D ds cls w).cl c=1#K'/\K'.init=none;rw[ec];exact⟨ab4 X G g1,g5,g6,K',g3,g4⟩
 ·let⟨i,tk,rfl,g1⟩:=hg _ (du e);exact⟨6#i,_,ab4 X G g1,⟨tk,rfl⟩,λ_ _=>rfl⟩
 ·let⟨n1,x,C,f,d,y,R,m1,m2,m3,m4,m5,m6,m7,m8,m9⟩:=hm c k' q1 (m,fi) (du q2);have ec:bw K cn c=C:=gc m1 m2;let⟨f1,f2⟩:=hF fi d m5
  have ef:M.fa fi=f:=by
   rw[hM,mQ m5];exact yl m6 m8 (by rw[m7];exact m9)
  show k'.exc=false/\Meth K (bw K cn c) m (M.fa fi)/\Binds K (M.fd fi) (M.ps fi) [];rw[ec];refine⟨n1,⟨by rw[ef];exact m3,by rw[ef];exact m4, ?_⟩, ?_⟩
  ·have:=f2.kp;rw[←hM] at this;exact this
  ·rw[f1];exact f2.binds (hS d (abu m5)).b
 ·let⟨C,g1,g2⟩:=hg _ (du e);show mg x=1#3#(bw K cn c);rw[gc g2 g1];exact ab4 X G g1
theorem Hu {ca:Nat->Addr} (hM:M.fa=lP K ds) (hF:∀i d,ds.find? (λd=>d.i==i)=1#d->M.ps i=d.ps/\Fun K d.x d.q d.st (lP K ds i) (M.fd i)) (hS:∀d∈ds,DS D d):DOk D (et D ds cls w) ⟨K,ca,xc⟩ M base mg:=by
 refine⟨λi f e=> ?_⟩;let⟨d,e1,e2,rfl⟩:=uc e;let⟨f1,f2⟩:=hF i d e1;have S:=hS d e2;refine⟨d.x,d.q,d.st,hM▸f2,f1▸Ip S.s, ?_⟩;rw[f1];let⟨y,e3⟩:=aaV.mp S.c;rw[e3];rfl
end
theorem qZ {T:CT} {G:Hp}:∀ns:2#Int,ag T as G (ns.map .int) (ns.map V.int)
 |[]=>rfl
 |n::ns=>⟨6#n,ns.map V.int,rfl,rfl,qZ ns⟩
structure HeadOk (K:8#4) (D:Dt) (ds:2#Df) (cls:2#(Nat×Cl)) (cn:2#(Nat×Str)) (xc:Nat->Bool) (wn:Nat):Prop where
 d:∀d∈ds,jS K d
 g:∀p∈D.gl,me K ds cls cn xc p
 m:∀(c:Nat) k',cls.lookup c=1#k'->∀p∈k'.meths,k'.exc=false/\vY K ds cn c p
 r:∀x∈D.fr,PySem.W.nsIn K mainGlobals x=1#none
 c:COk ⟨K,bw K cn,xc⟩ (et D ds cls wn)
 i:∀y∈D.is,∀c,8#22->∀k K',(et D ds cls wn).cl k=1#K'->¬K'.sup=[]->IsOk ⟨K,bw K cn,xc⟩ k c K'
 e:∀y∈D.is,∀c,D.gl.lookup y=1#(.err c)->kH ⟨K,bw K cn,xc⟩ (et D ds cls wn) c
theorem IT {l:PySem.W.OpenLaw} {loose:2#Str} {XP:(Str->5#Value)->Heap->Prop} {YP:World->Heap->Prop} {d:DefRec} {K:Params->PySem.W.Frag} {D:Dt} {ds:2#Df} {cls:2#(Nat×Cl)} {cn:2#(Nat×Str)} {xc:Nat->Bool} {wn:Nat} {n f:Nat} {x:Str} {df:Df}
  (hn:l.most=1#63) (hdf:d.params.defaults=[]) (hroom:Room (4*n) callerA) (hY:∀(w:World) (h:Heap),YP w h->(K w.params).In h)
  (hS:∀d∈ds,DS D d) (hf:ds.find? (λd=>d.i==f)=1#df) (hps:df.ps=[x]) (ho:df.o=none) (hname:d.name=df.x) (hx:∀f,D.fx.contains f=true->∀(c:Nat) k,(et D ds cls wn).cl c=1#k->f∈k.flds->k.exc=false)
  (F:∀w:World,HeadOk (K w.params) D ds cls cn xc wn)
  (pure_:∀ns:2#Int,0#ns<=63->call (et D ds cls wn) n f [7#(ns.map .int)] []= .ok (.bl true) []):
  PySem.W.WalkO q loose XP YP l.row.toRowW d [] (λf vs=>PySem.call f vs):=
 L2.Ea (n:=63) (k:=4*n) (x:=x) (CX:=λw=>dI l.prog w) (K:=K) (sp:=λw=>fT ⟨K w.params,bw (K w.params) cn,xc⟩ (et D ds cls wn) n f) hn 9#7 hdf hroom hY
  (λw mg a h KX G hm=>by
   have O:=F w
   let⟨M,hM,hF⟩:=build (D:=D) (fa:=lP (K w.params) ds) (K:=K w.params) (ds:=ds) λi d' hd'=>by
    rw[mQ hd'];exact D5 (O.d d' (abu hd'))
   let⟨f1,f2⟩:=hF f df hf;have dm:=abu hf
   have ea:M.fa f=a:=by
    have z:=O.d df dm;unfold jS at z;rw[ho] at z;let⟨f',z1,_⟩:=z;rw[hM,mQ hf];unfold j5;rw[ho];show iG (K w.params) df.x=a;rw[gq z1];have:=ab4 KX G z1;rw[←hname,hm] at this;cases this;rfl
   refine⟨M.fd f,λs v=> ?_,λbase _ _=> ?_⟩
   ·let⟨oc,od,kV,doc,pm,an,cdv,ct,osl,efd,_⟩:=f2.ex;rw[efd];have:=(hS df dm).b kV doc pm an cdv ct [v] (by rw[hps];rfl);rw[hps] at this;exact .of_eq this
   ·have:=F6 (P':=l.prog) (w:=w) (base:=base) (Hk KX G O.d hM hF hS O.g O.r O.c O.m hx O.i O.e) (Hu hM hF hS) n f;rw[ea,f1,hps] at this
    exact this)
  (λw H a ns hl hO hS=>by
   refine⟨[],[],H,[7#(ns.map .int)],⟨rfl,ach,Le.refl _,λa h=>(by cases h),λn o a h=>(by cases h)⟩,⟨3#a,[],rfl,⟨a,ns.map V.int,rfl,hS,qZ ns⟩,rfl⟩, ?_⟩;rw[pure_ ns hl]
   exact λas' G' H' _ _ _ u hu=>hu)
  λ_ _ _ _ _ h=>by
   let⟨_,_,_,_,_,_,_,_,_,_,_,_,_,_,_,z⟩:=h;exact z
theorem uY {K:8#4} {i:Nat} {x q:Str} {st:Stmt} {ps:2#Str} {f:Addr} {oc:Value} {od an:5#Addr} {osl:Array 5#Value} {kV doc pm cdv ct:Value} (a:PySem.W.nsIn K mainGlobals x=1#1#3#f)
  (l:K.lookup f=1#⟨oc,od, .func (PySem.W.fnOf x q (dH st) (br st) (az st) .none kV doc pm an cdv ct),osl⟩) (c:PySem.W.codeIn K cdv q=true) (k:PySem.W.keepIn K 3#f=true):jS K ⟨i,none,x,q,st,ps⟩:=⟨f,a,oc,od,kV,doc,pm,an,cdv,ct,osl,l,c,k⟩
theorem mr {α:Type} {p:α->Prop} {a:α} {l:2#α} (h:p a) (t:∀x∈l,p x):∀x∈a::l,p x:=List.forall_mem_cons.mpr ⟨h,t⟩
theorem om {α:Type} {p:α->Prop}:∀x∈([]:2#α),p x:=λ_ h=>by cases h
theorem BO {K:8#4} {ds:2#Df} {cls:2#(Nat×Cl)} {cn:2#(Nat×Str)} {xc:Nat->Bool} {x:Str} {i:Nat} {d:Df} (e:ds.find? (λd=>d.i==i)=1#d) (h:d.o=none) (z:d.x=x):me K ds cls cn xc (x, .fn i):=⟨d,e,h,z⟩
theorem uS {K:8#4} {i:Nat} {c x q:Str} {st:Stmt} {ps:2#Str} {C f:Addr} {oc:Value} {od an:5#Addr} {osl:Array 5#Value} {kV doc pm cdv ct:Value} (n:PySem.W.nsIn K mainGlobals c=1#1#3#C) (a:PySem.W.findIn K 3#C x=1#1#3#f)
  (l:K.lookup f=1#⟨oc,od, .func (PySem.W.fnOf x q (dH st) (br st) (az st) .none kV doc pm an cdv ct),osl⟩) (cd:PySem.W.codeIn K cdv q=true) (k:PySem.W.keepIn K 3#f=true):jS K ⟨i,1#c,x,q,st,ps⟩:=⟨C,f,n,a,oc,od,kV,doc,pm,an,cdv,ct,osl,l,cd,k⟩
section
variable {K:8#4} {ds:2#Df} {cls:2#(Nat×Cl)} {cn:2#(Nat×Str)} {xc:Nat->Bool} {D:Dt} {w:Nat}
theorem xw {x:Str} {c:Nat} {C:Addr} {k:Cl} (n:PySem.W.nsIn K mainGlobals x=1#1#3#C) (e1:cn.lookup c=1#x) (e2:cls.lookup c=1#k) (e3:k.init=none) (e4:xc c=true) (h:PySem.W.excIn K C u9 "ValueError.__new__"=true):me K ds cls cn xc (x, .err c):=⟨C,k,n,e1,e2,e3,e4,h⟩
theorem wQ {x:Str} {c fi:Nat} {C f:Addr} {k:Cl} {d:Df} (n:PySem.W.nsIn K mainGlobals x=1#1#3#C) (e1:cn.lookup c=1#x) (e2:cls.lookup c=1#k) (e4:xc c=false) (h1:PySem.W.keepIn K 3#C=true) (h2:PySem.W.makesIn K C=true) (e5:k.init=1#fi) (e6:ds.find? (λd=>d.i==fi)=1#d) (e7:d.o=1#x) (e8:d.x="__init__")
  (h3:PySem.W.findIn K 3#C "__init__"=1#1#3#f) (h4:PySem.W.isFn K 3#f=true):me K ds cls cn xc (x, .cls c true):=⟨C,k,n,e1,e2,e4,h1,h2,λh=>(by cases h),λ_=>⟨fi,d,f,e5,e6,e7,e8,h3,h4⟩⟩
theorem yI {x:Str} {i:Int} {tk:Nat} (n:PySem.W.nsIn K mainGlobals x=1#1#(.int i tk)):me K ds cls cn xc (x, .val 6#i):=⟨i,tk,rfl,n⟩
set_option tactic.hygienic true in
theorem cG {α:Type} {x:Nat} {v:α}:∀{l:2#(Nat×α)},l.lookup x=1#v->(x,v)∈l
 |[],h=>by cases h
 |(y,w)::r,h=>by
  rw[aaI] at h;split at h
  ·rename_i e;cases h;rw[eq_of_beq e];exact aaz
  ·exact aat _ (cG h)
def G6 (K:8#4) (cn:2#(Nat×Str)) (xc:Nat->Bool) (p:Nat×Cl):Prop:=xc p.1=p.2.exc/\(p.2.exc=false->∃x C,cn.lookup p.1=1#x/\PySem.W.nsIn K mainGlobals x=1#1#3#C/\Cls K C/\∀f∈p.2.flds,eK K C f)
theorem uA {p:Nat×Cl} (e1:xc p.1=p.2.exc) (e2:p.2.exc=true):G6 K cn xc p:=⟨e1,λh=>by rw[e2] at h;cases h⟩
theorem vc {p:Nat×Cl} {x:Str} {C:Addr} (e1:xc p.1=p.2.exc) (e2:cn.lookup p.1=1#x) (n:PySem.W.nsIn K mainGlobals x=1#1#3#C) (h1:PySem.W.plainGet K C Str.empty=true) (h2:PySem.W.hasDictIn K C=true) (h3:PySem.W.plainOver K C=true) (h4:PySem.W.findIn K 3#C "__setattr__"=1#1#(.builtin "object.__setattr__"))
  (h5:∀f∈p.2.flds,PySem.W.findIn K 3#C f=1#none):G6 K cn xc p:=⟨e1,λ_=>⟨x,C,e2,n,⟨h1,h2,h3,h4⟩,h5⟩⟩
theorem Hg (h:∀p∈cls,G6 K cn xc p):COk ⟨K,bw K cn,xc⟩ (et D ds cls w):=by
 refine⟨λc k e=>(h _ (cG e)).1,λc k e x=> ?_,λc k f e x hf=> ?_⟩
 ·let⟨x,C,e1,e2,e3,e4⟩:=(h _ (cG e)).2 x;show Cls K (bw K cn c);rw[gc e1 e2];exact e3
 ·let⟨x,C,e1,e2,e3,e4⟩:=(h _ (cG e)).2 x;show eK K (bw K cn c) f;rw[gc e1 e2];exact e4 f hf
theorem Bl (h:∀q∈cls,∀p∈q.2.meths,q.2.exc=false/\vY K ds cn q.1 p):∀(c:Nat) k',cls.lookup c=1#k'->∀p∈k'.meths,k'.exc=false/\vY K ds cn c p:=λc k' e p hp=>h _ (cG e) p hp
theorem Jz (h:∀q∈cls,q.2.exc=true->q.2.flds=[]):∀f,D.fx.contains f=true->∀(c:Nat) k,(et D ds cls w).cl c=1#k->f∈k.flds->k.exc=false:=λf _ c k e hf=>by
 cases x:k.exc with
 |false=>rfl
 |true=>
  have:=h _ (cG e) x;rw[this] at hf;cases hf
theorem vy {c d:Value} {b:Bool} (h:PySem.W.exmOne K c d=1#b):PySem.W.kitCls K c d=1#b:=by
 unfold PySem.W.exmOne at h;split at h
 ·exact h
 ·cases h
theorem yY {x:Str} {c:Nat} {C:Addr} (n:PySem.W.nsIn K mainGlobals x=1#1#3#C) (e:cn.lookup c=1#x):me K ds cls cn xc (x, .nam c):=⟨C,n,e⟩
def Cq (K:8#4) (cn:2#(Nat×Str)) (D:Dt) (C:Addr) (s:2#Nat) (y:Str):Prop:=(y="ValueError"/\PySem.W.kitOne K 3#C (.type "ValueError")=1#(s.contains 1000))∨((y=="ValueError")=false/\∃c B,(D.gl.lookup y=1#(.err c)∨D.gl.lookup y=1#(.nam c))/\cn.lookup c=1#y/\PySem.W.nsIn K mainGlobals y=1#1#3#B/\PySem.W.kitOne K 3#C 3#B=1#(s.contains c))
theorem Cp {C:Addr} {s:2#Nat} (e:s.contains 1000=true) (h:PySem.W.kitOne K 3#C (.type "ValueError")=1#true):Cq K cn D C s "ValueError":= .inl ⟨rfl,by rw[e];exact h⟩
theorem vA {C B:Addr} {s:2#Nat} {y:Str} {c:Nat} (b:Bool) (e1:D.gl.lookup y=1#(.err c)) (e0:(y=="ValueError")=false) (e2:cn.lookup c=1#y) (n:PySem.W.nsIn K mainGlobals y=1#1#3#B) (eb:s.contains c=b) (h:PySem.W.kitOne K 3#C 3#B=1#b):Cq K cn D C s y:= .inr ⟨e0,c,B, .inl e1,e2,n,by rw[eb];exact h⟩
theorem vO {C B:Addr} {s:2#Nat} {y:Str} {c:Nat} (b:Bool) (e1:D.gl.lookup y=1#(.nam c)) (e0:(y=="ValueError")=false) (e2:cn.lookup c=1#y) (n:PySem.W.nsIn K mainGlobals y=1#1#3#B) (eb:s.contains c=b) (h:PySem.W.kitOne K 3#C 3#B=1#b):Cq K cn D C s y:= .inr ⟨e0,c,B, .inr e1,e2,n,by rw[eb];exact h⟩
theorem wV {k0:Nat} {K0:Cl} {x0:Str} {C:Addr} (h0:∀q∈cls,q.2.sup=[]∨q.1=k0) (hl:cls.lookup k0=1#K0) (hv:D.gl.lookup ("ValueError":Str)=none) (e1:cn.lookup k0=1#x0) (e3:K0.exc=true) (n:PySem.W.nsIn K mainGlobals x0=1#1#3#C)
  (ga:PySem.W.findIn K 3#C "__getattribute__"=1#1#(.builtin "BaseException.__getattribute__")) (no:PySem.W.findIn K 3#C "__getattr__"=1#none) (cl:PySem.W.findIn K 3#C "__class__"=1#1#8#27) (sb:PySem.W.subIn K 3#C (.type "BaseException")=1#true) (so:PySem.W.subIn K 3#C (.type "object")=1#true) (it:PySem.W.exmOne K 3#C 3#C=1#true)
  (hk:∀y∈D.is,Cq K cn D C K0.sup y):
  ∀y∈D.is,∀c,8#22->∀k K',(et D ds cls w).cl k=1#K'->¬K'.sup=[]->IsOk ⟨K,bw K cn,xc⟩ k c K':=λy my c hc k K' e hs=>by
 have ek:k=k0:=(h0 _ (cG e)).resolve_left hs;subst ek;cases (Option.some.inj (Eq.trans (Eq.symm hl) e):K0=K');have z1:=gc e1 n;refine⟨?_,λh=>(by rw[e3] at h;cases h),λ_=> ?_⟩
 ·show PySem.W.kitOne K 3#(bw K cn k) _=_;rw[z1]
  rcases hk y my with⟨rfl,hk⟩|⟨e0,c',B,l,e2,n2,hk⟩
  ·rcases hc with⟨_,rfl⟩|⟨_,q⟩
   ·exact hk
   ·rw[hv] at q;exact q.elim nofun nofun
  ·rcases hc with⟨rfl,_⟩|⟨nc,q⟩
   ·exact absurd e0 9#7
   ·have:c'=c:=by
     rcases l with l|l<;>rcases q with q|q<;>rw[l] at q<;>cases q<;>rfl
    subst this;rw[show ra ⟨K,bw K cn,xc⟩ c'= 3#B from (if_neg nc).trans (congrArg Value.ref (gc e2 n2))];exact hk
 ·show ExcCls K (bw K cn k);rw[z1];exact⟨ga,no,cl,sb,so,vy it⟩
theorem zj {c0:Nat} {y0:Str} {C:Addr} (h0:(D.gl.all λp=>match p.2 with
  | .err c=>cls.all λq=> !q.2.sup.contains c||(q.1==c0&&c==c0)
  |_=>true)=true) (e1:cn.lookup c0=1#y0) (n:PySem.W.nsIn K mainGlobals y0=1#1#3#C) (h:PySem.W.exmOne K 3#C 3#C=1#true):
  ∀y∈D.is,∀c,D.gl.lookup y=1#(.err c)->kH ⟨K,bw K cn,xc⟩ (et D ds cls w) c:=λy _ c hc k K' e hs=>by
 have:=aa4.mp (aa4.mp h0 _ (du hc)) _ (cG e);simp only[hs,Bool.not_true,Bool.false_or,aag,abm] at this;let⟨rfl,rfl⟩:=this;show PySem.W.exmOne K 3#(bw K cn _) 3#(bw K cn _)=_;rw[gc e1 n];exact h
end
end PI
namespace PI
open PySem
theorem aq {P:Pg} {f:Nat} {d:Fn} (h:P.fn f=1#d) (n:Nat) (xs:2#Val) (st:aa) (hl:0#xs=d.np):call P (n+1) f xs st=(aD P (call P n) d.body (xs.map some++List.replicate (d.ns-d.np) none) st).fin P st:=by
 show Ck P (call P n) xs st (P.fn f)=_;rw[h];exact bB hl
@[simp]theorem Lk (P:Pg) (st:aa) (v:Val) (h:v.aF st 0#st 0#st=1#v) (hr:isRef v=none):fin P st v st= .ok v st:=by
 unfold fin;rw[if_pos (sP st),hr];show (R.aj (v.aF st 0#st 0#st) st).bind _=_;rw[h];simp
theorem gw (P:Pg) (st st':aa) (v v':Val) (ho:Old st st') (h:v.aF st' 0#st 0#st'=1#v') (hr:isRef v=none):fin P st v st'= .ok v' (st'.take 0#st):=by
 unfold fin;rw[if_pos ho,hr];show (R.aj (v.aF st' 0#st 0#st') st').bind _=_;rw[h];simp
@[simp]theorem O2 (st:aa) (n x:Nat) (b:Bool):(Val.bl b).aF st n x=1#(.bl b):=by simp[Val.aF,Val.sub]
@[simp]theorem Nu (st:aa) (n x:Nat) (b:Int):(Val.int b).aF st n x=1#6#b:=by simp[Val.aF,Val.sub]
@[simp]theorem Oe (st:aa) (n x:Nat):Val.non.aF st n x=1#.non:=by simp[Val.aF,Val.sub]
@[simp]theorem DM (st:aa) (n x:Nat) (f:Bool) (xs:2#Val):(Val.tup f xs).aF st n x=(aV st n x xs).map λxs=> .tup f xs:=by simp[Val.aF,Val.sub,aV]
@[simp]theorem LM (st:aa) (n x:Nat):aV st n x []=some []:=by simp[aV,subs]
@[simp]theorem ka (st:aa) (n x:Nat) (v:Val) (r:2#Val):aV st n x (v::r)=(v.aF st n x).bind λv=>(aV st n x r).map λr=>v::r:=by simp[Val.aF,subs,aV]
@[simp]theorem Ko {α:Type} (r:R α):iff True r=r:=if_pos trivial
@[simp]theorem OH (t b:Bool) (st:aa):eS t (R.ok (Val.bl true) st) (R.ok (Val.bl b) st)=R.ok (Val.bl (t||b)) st:=by cases t<;>rfl
@[simp]theorem Ou (t b:Bool) (st:aa):eS t (R.ok (Val.bl b) st) (R.ok (Val.bl false) st)=R.ok (Val.bl (t&&b)) st:=by cases t<;>rfl
@[simp]theorem bA (st:aa):Kept [] st:=λ_ h=>by cases h
theorem DU (st:aa):Old [] st:=⟨aaW _,λi o h _=>absurd h (Nat.not_lt_zero _)⟩
@[simp]theorem Kz (P:Pg) (st:aa) (b:Bool):fin P [] (.bl b) st= .ok (.bl b) []:=by
 have:=gw P [] st (.bl b) (.bl b) (DU st) 8#7 rfl;simpa using this
@[simp]theorem KI (i j:Int) (st:aa) (h:0<j):rA i j st= .ok 6#(i % j) st:=by
 unfold rA;rw[bB 8#0,Int.fmod_eq_emod_of_nonneg _ 8#0]
@[simp]theorem zQ (i j:Int) (st:aa) (h:0<j) (hb:j<2^64):rM i j st= .ok 6#(i/j) st:=by
 unfold rM
 have:big j:=by
  unfold big;exact aao (show j.natAbs<2^64 by lia) (Nat.pow_le_pow_right 8#0 8#0)
 rw[bB ⟨by lia,this⟩,Int.fdiv_eq_ediv_of_nonneg _ 8#0]
@[simp]theorem OY (i j:Int) (st:aa) (h:j.natAbs<2^64):oj i j st= .ok 6#(i*j) st:=bB (.inr (.inl h))
@[simp]theorem OS (i j:Int) (st:aa) (h:i.natAbs<2^64):oj i j st= .ok 6#(i*j) st:=bB (.inl h)
@[simp]theorem NF (n:Int) (st:aa) (h0:0<=n) (h1:n<16777216):v8 6#n st= .ok (bg 0 n.toNat,[]) st:=bB ⟨by lia,by lia⟩
theorem A3 (ns:2#Int) (i:Int) (h0:0<=i) (h1:i<0#ns):k9 (ns.map .int) i=1#6#(ns.getD i.toNat 0):=by
 have l:i.toNat<0#ns:=by lia
 unfold k9 jw;rw[aay,if_pos h0,if_pos h1];show (ns.map Val.int)[i.toNat]?=_;rw[aaR,aac l,aaw,aac l];rfl
@[simp high] theorem Bd (ns:2#Int) (i:Int) (st:aa) (h0:0<=i) (h1:i<0#ns):eQ 7#(ns.map .int) 6#i st= .ok 6#(ns.getD i.toNat 0) st:=by
 show R.aj (k9 _ i) st=_;rw[A3 ns i h0 h1];rfl
noncomputable def Rest (P:Pg) (cl:ar) (ss:2#S) (env:Env) (st:aa):F:=aD P cl ss env st
noncomputable def GU (P:Pg) (cl:ar) (a b:2#S) (env:Env) (t:Bool) (st:aa):F:=oS t (aD P cl a env st) (aD P cl b env st)
noncomputable def fL (P:Pg) (cl:ar) (b:2#S) (env:Env) (st:aa):F:=aD P cl b env st
noncomputable def Lp (P:Pg) (cl:ar) (t:T) (b:2#S) (env:Env) (it:2#Val×2#(Nat×Ob)) (st:aa):F:=forL t (fL P cl b) it.2 it.1 env st
section
variable (P:Pg) (cl:ar) (env:Env) (st:aa)
@[simp]theorem Pe:aD P cl [] env st= .next env st:=rfl
@[simp]theorem uu (s:S) (ss:2#S):aD P cl (s::ss) env st=(s.run P cl env st).bind (Rest P cl ss):=rfl
@[simp]theorem kK (ss:2#S):(F.next env st).bind (Rest P cl ss)=aD P cl ss env st:=rfl
@[simp]theorem Mg (ss:2#S):Rest P cl ss env st=aD P cl ss env st:=rfl
@[simp]theorem Pb (b:2#S):fL P cl b env st=aD P cl b env st:=rfl
@[simp]theorem bra_t (a b:2#S):GU P cl a b env true st=aD P cl a env st:=rfl
@[simp]theorem bra_f (a b:2#S):GU P cl a b env false st=aD P cl b env st:=rfl
@[simp]theorem lp_at (t:T) (b:2#S) (xs:2#Val) (c:2#(Nat×Ob)):Lp P cl t b env (xs,c) st=forL t (fL P cl b) c xs env st:=rfl
@[simp]theorem Jg (t:T) (e:E):(S.set t e).run P cl env st=F.of env (e.run P cl env st) λx st=>F.aj st (t.put x env):=rfl
@[simp]theorem E3 (o i e:E):(S.fR o i e).run P cl env st=F.of env ((e.run P cl env st).bind λx st=>(o.run P cl env st).bind λy st=>(i.run P cl env st).bind λz st=>PI.fR z x y st) λ_ st=> .next env st:=rfl
@[simp]theorem OI (o e:E) (f:Str):(S.dE o f e).run P cl env st=F.of env ((e.run P cl env st).bind λx st=>(o.run P cl env st).bind λy st=>PI.dE P f x y st) λ_ st=> .next env st:=rfl
@[simp]theorem O4 (e:E):(S.expr e).run P cl env st=F.of env (e.run P cl env st) λ_ st=> .next env st:=rfl
@[simp]theorem s_ret (e:E):(S.ret e).run P cl env st=F.of env (e.run P cl env st) λx st=> .ret x st:=rfl
@[simp]theorem s_ife (c:E) (a b:2#S):(S.ife c a b).run P cl env st=F.of env (runC P cl 1#c env st) (GU P cl a b env):=rfl
@[simp]theorem s_for (t:T) (q:Q) (b:2#S):(S.for t q b).run P cl env st=F.of env (q.run P cl env st) (Lp P cl t b env):=rfl
@[simp]theorem of_ok {α:Type} (a:α) (k:α->aa->F):F.of env (.ok a st) k=k a st:=rfl
end
noncomputable def Nx (t:T) (body:Env->aa->F) (vs:2#Val) (env:Env) (st:aa):F:=forL t body [] vs env st
@[simp]theorem nx_at (t:T) (body:Env->aa->F) (vs:2#Val) (env:Env) (st:aa):Nx t body vs env st=forL t body [] vs env st:=rfl
open Classical in
@[simp]theorem N6 (t:T) (body:Env->aa->F) (env:Env) (st:aa):forL t body [] [] env st= .next env st:=fM (bA st)
open Classical in
@[simp]theorem Mw (t:T) (body:Env->aa->F) (v:Val) (vs:2#Val) (env:Env) (st:aa):forL t body [] (v::vs) env st=(F.aj st (t.put v env)).bind λenv st=>(body env st).turn (Nx t body vs):=fM (bA st)
open Classical in
theorem vm {t:T} {body:Env->aa->F} {chk:2#(Nat×Ob)} (I:Nat->Env->aa->Prop):∀(items:2#Val) (j:Nat) (env:Env) (st:aa),I j env st->(∀i env st,I i env st->Kept chk st)->
  (∀i v env st,items[i]?=1#v->I (j+i) env st->∃env1,t.put v env=1#env1/\∃env' st',(body env1 st= .next env' st'∨body env1 st= .cont env' st')/\I (j+i+1) env' st')->
  ∃env' st',forL t body chk items env st= .next env' st'/\I (j+0#items) env' st'
 |[],j,env,st,h,hk,_=>⟨env,st,fM (hk j env st h),h⟩
 |v::vs,j,env,st,h,hk,hs=>by
  let⟨env1,e1,env2,st2,e2,h2⟩:=hs 0 v env st rfl h
  let⟨env3,st3,e3,h3⟩:=vm I vs (j+1) env2 st2 h2 hk λi w env st e q=>by
   have:=hs (i+1) w env st e (by rw[show j+(i+1)=j+1+i by lia];exact q);rwa[show j+(i+1)+1=j+1+i+1 by lia] at this
  refine⟨env3,st3, ?_,by rw[show j+0#(v::vs)=j+1+0#vs by simp;lia];exact h3⟩;show ji (Kept chk st) ((F.aj st (t.put v env)).bind λenv st=>(body env st).turn λenv st=>forL t body chk vs env st)=_;rw[fM (hk j env st h),e1];show (body env1 st).turn (λenv st=>forL t body chk vs env st)=_
  rcases e2 with e2|e2<;>rw[e2]<;>exact e3
theorem rF {t:T} {body:Env->aa->F} {chk:2#(Nat×Ob)} (I:Nat->Env->aa->Prop) (items:2#Val) (env:Env) (st:aa) (h:I 0 env st) (hk:∀i env st,I i env st->Kept chk st)
  (hs:∀i v env st,items[i]?=1#v->I i env st->∃env1,t.put v env=1#env1/\∃env' st',(body env1 st= .next env' st'∨body env1 st= .cont env' st')/\I (i+1) env' st'):
  ∃env' st',forL t body chk items env st= .next env' st'/\I 0#items env' st':=by
 let⟨env',st',e,q⟩:=vm I items 0 env st h hk λi v env st e q=>by
  have:=hs i v env st e (by rwa[ace] at q);rwa[ace]
 exact⟨env',st',e,by rwa[ace] at q⟩
@[simp]theorem Ba:∀(n:Nat) (lo:Int),0#(bg lo n)=n
 |0,_=>rfl
 |n+1,lo=>by unfold bg;rw[aas,Ba n]
theorem qO:∀(n:Nat) (lo:Int) (i:Nat) (v:Val),(bg lo n)[i]?=1#v->v= 6#(lo+i)/\i<n
 |0,_,_,_,h=>by cases h
 |n+1,lo,0,v,h=>by
  cases h;exact⟨by simp,by lia⟩
 |n+1,lo,i+1,v,h=>by
  let⟨h1,h2⟩:=qO n (lo+1) i v h;exact⟨by rw[h1];congr 1;push_cast;lia,by lia⟩
noncomputable def ir3:Fn:=⟨5,5,[.ife (.cmp .Eq (.bi .len [4#1]) 8#32) [.raise 1 [.const (.str "a ship has at least one bay")]] [],
 .ife (.or (.cmp .Lt 4#3 8#32) (.cmp .Lt 4#4 8#32)) [.raise 1 [.const (.str "a bound of the moments is below nought")]] [],
 .dE 4#0 "bays" (.bi .tuple [.comp 1 [] 4#0 (.val 4#1) none (.call 4 [4#0])]),
 .dE 4#0 "foes" (.bi .tuple [.comp 1 [] 4#0 (.val 4#2) none (.bi .tuple [4#0])]),
 .dE 4#0 "trim" 4#3,
 .dE 4#0 "heel" 4#4]⟩
noncomputable def Fp:Fn:=⟨1,2,[.set 4#1 (.idx 4#0 (.ci 1)),
 .ife (.cmp .Eq (.bi .len [4#1]) 8#32) [.raise 1 [.const (.str "a bay has at least one stack")]] [],
 .ret (.tup [.idx 4#0 8#32, .bi .tuple [.comp 1 [] 4#0 (.val 4#1) none (.call 5 [4#0])]])]⟩
noncomputable def Cy:Fn:=⟨1,1,[.ret (.tup [.idx 4#0 8#32, .call 6 [.idx 4#0 (.ci 1)], .call 6 [.idx 4#0 (.ci 2)]])]⟩
noncomputable def yD:Fn:=⟨1,1,[.ret (.call 7 [.idx 4#0 8#32, .idx 4#0 (.ci 1), .idx 4#0 (.ci 2), .bi .tuple [.idx 4#0 (.ci 3)], .idx 4#0 (.ci 4)])]⟩
noncomputable def uP:Fn:=⟨5,5,[.ife (.or (.cmp .Lt 4#0 8#32) (.cmp .Gt 4#0 (.ci 9))) [.raise 1 [.const (.str "a number of cells is not from 0 to 9")]] [],
 .ife (.or (.cmp .Lt 4#1 8#32) (.or (.cmp .Lt 4#2 8#32) (.cmp .Lt 4#4 8#32))) [.raise 1 [.const (.str "a strength, height or lash is below nought")]] [],
 .ife (.not (.call 8 [4#3, 4#0])) [.raise 1 [.const (.str "plugs are not strictly rising cells of their part")]] [],
 .ret (.tup [4#0, 4#1, 4#2, 4#3, 4#4])]⟩
noncomputable def qS:Fn:=⟨2,4,[.set 4#2 8#32,
 .for 4#3 (.val 4#0) [.ife (.or (.cmp .Lt 4#3 4#2) (.cmp .GtE 4#3 4#1)) [.ret 8#20] [], .set 4#2 (.bin .Add 4#3 (.ci 1))],
 .ret (.const (.bl true))]⟩
noncomputable def ir9:Fn:=⟨1,5,[.set 4#1 (.lst []),
 .for 4#2 (.rng1 (.bi .len [.fld 4#0 "bays"])) [.set 4#3 (.bi .len [.idx (.idx (.fld 4#0 "bays") 4#2) (.ci 1)]), .for 4#4 (.val (.tup [.ci 0, .ci 1])) [.expr (.bm .extend 4#1 [.comp 1 [2,4] 4#0 (.rng1 4#3) none (.tup [4#1, 4#0, 4#2])])]],
 .ret 4#1]⟩
noncomputable def AW:Fn:=⟨1,3,[.set 4#1 (.lst []),
 .for 4#2 (.val (.call 9 [4#0])) [.expr (.bm .extend 4#1 [.call 11 [4#0, 4#2]])],
 .ret 4#1]⟩
noncomputable def oq:Fn:=⟨2,2,[.ret (.comp 1 [1] 4#0 (.rng1 (.idx (.call 12 [4#0, 4#1]) 8#32)) none (.bin .Add 4#1 (.tup [4#0])))]⟩
noncomputable def GB:Fn:=⟨2,2,[.ret (.idx (.call 13 [4#0, 4#1]) (.bin .Add (.ci 1) (.idx 4#1 (.ci 2))))]⟩
noncomputable def Gr:Fn:=⟨2,2,[.ife (.not (.call 14 [4#0, 4#1])) [.raise 2 [.const (.str "the ship has no such part")]] [],
 .ret (.idx (.idx (.idx (.fld 4#0 "bays") (.idx 4#1 8#32)) (.ci 1)) (.idx 4#1 (.ci 1)))]⟩
noncomputable def Hc:Fn:=⟨2,2,[.ife (.or (.cmp .Lt (.idx 4#1 8#32) 8#32) (.cmp .GtE (.idx 4#1 8#32) (.bi .len [.fld 4#0 "bays"]))) [.ret 8#20] [],
 .ife (.or (.cmp .Lt (.idx 4#1 (.ci 1)) 8#32) (.cmp .GtE (.idx 4#1 (.ci 1)) (.bi .len [.idx (.idx (.fld 4#0 "bays") (.idx 4#1 8#32)) (.ci 1)]))) [.ret 8#20] [],
 .ret (.cmp .In (.idx 4#1 (.ci 2)) (.tup [.ci 0, .ci 1]))]⟩
noncomputable def Hq:Fn:=⟨2,3,[.set 4#2 (.slc 4#1 none 1#(.ci 3)),
 .ret (.and (.call 14 [4#0, 4#2]) (.and (.cmp .GtE (.idx 4#1 (.ci 3)) 8#32) (.cmp .Lt (.idx 4#1 (.ci 3)) (.idx (.call 12 [4#0, 4#2]) 8#32))))]⟩
noncomputable def Fs:Fn:=⟨1,1,[.ret (.tup [.idx 4#0 8#32, .idx 4#0 (.ci 2), .idx 4#0 (.ci 1), .idx 4#0 (.ci 3)])]⟩
noncomputable def Gu:Fn:=⟨3,3,[.dE 4#0 "ship" 4#1,
 .dE 4#0 "placed" (.bi .tuple [.sortK 4#2 34]),
 .dE 4#0 "box_by_cell" (.fz (.dOf (.fld 4#0 "placed"))),
 .dE 4#0 "cell_by_name" (.fz (.dOf (.comp 2 [] (.tup [4#0, 4#1]) (.val (.fld 4#0 "placed")) none (.tup [.idx 4#1 8#32, 4#0])))),
 .expr (.call 35 [4#0])]⟩
noncomputable def Ge:Fn:=⟨1,1,[.ret (.call 32 [.idx 4#0 8#32])]⟩
noncomputable def Fg:Fn:=⟨1,2,[.ife (.cmp .Lt (.bi .len [.fld 4#0 "box_by_cell"]) (.bi .len [.fld 4#0 "placed"])) [.raise 3 [.const (.str "a cell is told twice")]] [],
 .ife (.cmp .Lt (.bi .len [.fld 4#0 "cell_by_name"]) (.bi .len [.fld 4#0 "placed"])) [.raise 3 [.const (.str "a name is told twice")]] [],
 .for 4#1 (.val (.fld 4#0 "box_by_cell")) [.ife (.not (.call 31 [.fld 4#0 "ship", 4#1])) [.raise 3 [.const (.str "a cell is not the ship's")]] [], .ife (.not (.call 36 [4#0, 4#1])) [.raise 3 [.const (.str "a box stands above an empty cell")]] []]]⟩
noncomputable def FA:Fn:=⟨2,2,[.ret (.or (.cmp .Eq (.idx 4#1 (.ci 3)) 8#32) (.cmp .IsNot (.call 37 [4#0, .bin .Add (.slc 4#1 none 1#(.ci 3)) (.tup [.bin .Sub (.idx 4#1 (.ci 3)) (.ci 1)])]) (.const (.non))))]⟩
noncomputable def EM:Fn:=⟨2,2,[.ret (.bm .get (.fld 4#0 "box_by_cell") [4#1])]⟩
noncomputable def zW:Fn:=⟨2,3,[.set 4#2 (.call 11 [.fld 4#0 "ship", 4#1]),
 .ret (.bi .len [.comp 1 [0] 4#0 (.val 4#2) 1#(.cmp .IsNot (.call 37 [4#1, 4#0]) (.const (.non))) 4#0])]⟩
noncomputable def Gi:Fn:=⟨2,3,[.set 4#2 (.idx (.call 13 [4#0, 4#1]) 8#32),
 .ret (.tup [.idx (.idx (.fld 4#0 "bays") (.idx 4#1 8#32)) 8#32, 4#2])]⟩
noncomputable def GD:Fn:=⟨1,4,[.set 4#1 (.tup [.ci 0, .ci 0, .ci 0]),
 .for (.tup [4#2, 4#3]) (.val (.fld 4#0 "placed")) [.set 4#1 (.call 82 [.fld 4#0 "ship", 4#1, 4#2, .idx 4#3 (.ci 1)])],
 .ret 4#1]⟩
noncomputable def FI:Fn:=⟨4,5,[.set 4#4 (.call 80 [4#0, .slc 4#2 none 1#(.ci 3)]),
 .ret (.tup [.bin .Add (.idx 4#1 8#32) 4#3, .bin .Add (.idx 4#1 (.ci 1)) (.bin .Mult 4#3 (.idx 4#4 8#32)), .bin .Add (.idx 4#1 (.ci 2)) (.bin .Mult 4#3 (.idx 4#4 (.ci 1)))])]⟩
noncomputable def ET:Fn:=⟨2,4,[.fR 4#1 8#32 (.bin .Add (.idx 4#1 8#32) (.ci 1)),
 .set 4#2 (.ite (.cmp .Gt (.bi .len [4#0]) 8#32) (.idx 4#0 (.bin .Mod (.idx 4#1 8#32) (.bi .len [4#0]))) 8#32),
 .set 4#3 (.bin .Mod (.bin .Mult (.bin .Add (.bin .Add (.bin .Mod 4#2 (.ci 2147483647)) (.bin .Mult (.bin .Mult (.idx 4#1 8#32) (.idx 4#1 8#32)) (.ci 7919))) (.ci 11)) (.ci 48271)) (.ci 2147483647)),
 .ret (.bin .Mod (.bin .Mult 4#3 4#3) (.ci 1999999973))]⟩
noncomputable def EC:Fn:=⟨3,5,[.set 4#3 9#4,
 .set 4#4 (.ite (.cmp .Gt (.bi .len [4#0]) 8#32) (.idx 4#0 (.bin .Mod (.idx 4#1 8#32) (.bi .len [4#0]))) 8#32),
 .ife (.cmp .Lt (.bin .Mod 4#3 (.ci 3)) (.ci 2)) [.ret (.bin .Mod (.bin .FloorDiv 4#3 (.ci 3)) 4#2)] [],
 .ret (.bin .Mod (.bin .Add (.bin .Mod 4#4 (.bin .Pow (.ci 10) (.ci 40))) (.bin .Mult 4#3 (.bin .Pow (.ci 10) (.ci 29)))) (.bin .Pow (.ci 10) (.ci 40)))]⟩
noncomputable def Gb:Fn:=⟨3,11,[.set 4#3 (.const (.str "abcdefghijklmnopqrstuvwxyz")),
 .set 4#4 9#4,
 .set 4#5 (.bin .Add (.idx 4#3 (.bin .Mod (.bin .FloorDiv 4#4 (.ci 6)) (.ci 26))) (.idx 4#3 (.bin .Mod (.bin .FloorDiv 4#4 (.ci 156)) (.ci 26)))),
 .set 4#6 (.idx (.lst [.ci 1, .ci 3, .ci 5, .ci 7, .ci 9, .ci 11]) (.bin .Mod 4#4 (.ci 6))),
 .set 4#7 (.bin .Mod (.bin .FloorDiv 4#4 (.ci 4056)) (.ci 3)),
 .set 4#8 (.lst []),
 .for 4#9 (.rng1 4#2) [.set 4#10 (.idx 4#3 (.bin .Mod (.bin .Add (.bin .FloorDiv 4#4 (.ci 156)) (.bin .Mult 4#9 4#6)) (.ci 26))), .ife (.and (.cmp .Eq (.bin .Mod (.bin .FloorDiv 4#4 (.ci 12168)) (.ci 4)) 8#32) (.cmp .Lt 4#2 (.ci 13))) [.expr (.bm .append 4#8 [.bin .Mult (.idx 4#3 (.bin .Mod (.bin .FloorDiv 4#4 (.ci 6)) (.ci 26))) (.bin .Add 4#9 (.ci 1))])] [.expr (.bm .append 4#8 [.bin .Add (.bin .Add (.slc 4#5 none 1#4#7) 4#10) (.slc 4#5 1#4#7 none)])]],
 .ret 4#8]⟩
noncomputable def Fj:Fn:=⟨3,6,[.set 4#3 9#4,
 .set 4#4 (.bin .Mod 4#3 (.bin .Add 4#2 (.ci 1))),
 .set 4#5 (.comp 1 [3] 4#0 (.rng1 4#4) 1#(.cmp .Gt (.bin .Mod (.bin .FloorDiv (.bin .FloorDiv 4#1 (.ci 10)) (.bin .Add (.bin .Mult 4#0 4#0) (.ci 1))) (.ci 3)) 8#32) 4#0),
 .ret (.tup [4#4, .bin .Add (.ci 5) (.bin .Mod (.bin .FloorDiv 4#3 (.ci 7)) (.ci 40)), .bin .Add (.ci 5) (.bin .Mod (.bin .FloorDiv 4#3 (.ci 300)) (.ci 30)), 4#5, .bin .Mod (.bin .FloorDiv 4#3 (.ci 9000)) (.ci 60)])]⟩
noncomputable def GP:Fn:=⟨5,14,[.set 4#5 (.lst []),
 .for 4#6 (.rng1 (.bin .Add (.ci 1) (.bin .Mod 9#4 4#2))) [.set 4#7 (.lst []), .for 4#8 (.rng1 (.bin .Add (.ci 1) (.bin .Mod 9#4 4#3))) [.set 4#9 (.bin .Sub (.bin .Mod 9#4 (.ci 9)) (.ci 4)), .set 4#10 (.call 87 [4#0, 4#1, 4#4]), .expr (.bm .append 4#7 [.tup [4#9, 4#10, .call 87 [4#0, 4#1, 4#4]]])], .expr (.bm .append 4#5 [.tup [.bin .Sub (.bin .Mod 9#4 (.ci 21)) (.ci 10), 4#7]])],
 .set 4#11 9#4,
 .set 4#12 (.lst [.const (.str "dry"), .const (.str "wet"), .const (.str "hot")]),
 .set 4#13 (.slc (.lst [.tup [.idx 4#12 (.bin .Mod 4#11 (.ci 3)), .idx 4#12 (.bin .Mod (.bin .FloorDiv 4#11 (.ci 3)) (.ci 3))], .tup [.idx 4#12 (.bin .Mod (.bin .FloorDiv 4#11 (.ci 9)) (.ci 3)), .const (.str "oil")]]) none 1#(.bin .Mod (.bin .FloorDiv 4#11 (.ci 27)) (.ci 3))),
 .ret (.make 9 [4#5, 4#13, .bin .Mod (.bin .FloorDiv 4#11 (.ci 81)) (.ci 200), .bin .Mod (.bin .FloorDiv 4#11 (.ci 16200)) (.ci 100)])]⟩
noncomputable def FJ:Fn:=⟨3,5,[.set 4#3 9#4,
 .set 4#4 (.idx (.lst [.const (.str "dry"), .const (.str "wet"), .const (.str "hot"), .const (.str "oil")]) (.bin .Mod 4#3 (.ci 4))),
 .ret (.tup [4#2, .bin .Mod (.bin .FloorDiv 4#3 (.ci 4)) (.ci 12), .bin .Mod (.bin .FloorDiv 4#3 (.ci 48)) (.ci 9), .bi .int [.cmp .Eq (.bin .Mod (.bin .FloorDiv 4#3 (.ci 432)) (.ci 4)) 8#32], 4#4, .bin .Mod (.bin .FloorDiv 4#3 (.ci 1728)) (.ci 5)])]⟩
noncomputable def F9:Fn:=⟨3,3,[.ret (.comp 1 [1,0] 4#0 (.val (.call 86 [4#0, 4#1, 4#2])) none (.call 89 [4#2, 4#1, 4#0]))]⟩
noncomputable def Fy:Fn:=⟨4,10,[.set 4#4 (.dct [] []),
 .set 4#5 (.lst []),
 .set 4#6 (.call 9 [4#2]),
 .for 4#7 (.val 4#3) [.set 4#8 (.idx 4#6 (.bin .Mod 9#4 (.bi .len [4#6]))), .set 4#9 (.bm .get 4#4 [4#8, .ci 0]), .ife (.cmp .Lt 4#9 (.idx (.call 12 [4#2, 4#8]) 8#32)) [.fR 4#4 4#8 (.bin .Add 4#9 (.ci 1)), .expr (.bm .append 4#5 [.tup [.bin .Add 4#8 (.tup [4#9]), 4#7]])] []],
 .ret 4#5]⟩
noncomputable def vz:Fn:=⟨2,2,[.ife (.or (.bi (.bQ "list") [4#1]) (.bi (.bQ "tuple") [4#1])) [.ife (.or (.cmp .NotEq (.bi (.bQ "list") [4#0]) (.bi (.bQ "list") [4#1])) (.cmp .NotEq (.bi (.bQ "tuple") [4#0]) (.bi (.bQ "tuple") [4#1]))) [.ret 8#20] [], .ret (.and (.cmp .Eq (.bi .len [4#0]) (.bi .len [4#1])) (.bi .all [.comp 2 [] (.tup [4#0, 4#1]) (.zip 4#0 4#1) none (.call 92 [4#0, 4#1])]))] [],
 .ife (.cmp .Is 4#1 (.const (.non))) [.ret (.cmp .Is 4#0 (.const (.non)))] [],
 .ife (.bi (.bQ "str") [4#1]) [.ret (.and (.bi (.bQ "str") [4#0]) (.cmp .Eq 4#0 4#1))] [],
 .ret (.and (.bi (.bQ "int") [4#0]) (.and (.not (.bi (.bQ "bool") [4#0])) (.cmp .Eq 4#0 4#1)))]⟩
noncomputable def Gd:Fn:=⟨2,4,[.set 4#2 9#4,
 .set 4#3 (.bin .Mod (.call 85 [4#0, 4#1, .ci 7]) (.bin .Pow (.ci 10) (.ci 20))),
 .ret (.ite (.cmp .Eq (.bin .Mod 4#2 (.ci 2)) 8#32) 4#3 (.neg 4#3))]⟩
noncomputable def HK:Fn:=⟨3,6,[.set 4#3 (.lst []),
 .for (.tup [4#4, 4#5]) (.val (.fld 4#2 "bays")) [.expr (.bm .append 4#3 [.tup [.call 93 [4#0, 4#1], .comp 3 [1,0] (.tup [4#0, 4#1, 4#2]) (.val 4#5) none (.tup [.call 93 [4#4, 4#3], 4#1, 4#2])]])],
 .ret 4#3]⟩
noncomputable def FQ:Fn:=⟨2,5,[.set 4#2 (.bi .sum [.comp 2 [] (.tup [4#0, 4#1]) (.val 4#1) none (.idx 4#1 (.ci 1))]),
 .set 4#3 (.bi .sum [.comp 2 [0] (.tup [4#0, 4#1]) (.val 4#1) none (.bin .Mult (.idx 4#1 (.ci 1)) (.idx (.idx (.fld 4#2 "bays") (.idx 4#0 8#32)) 8#32))]),
 .set 4#4 (.bi .sum [.comp 2 [0] (.tup [4#0, 4#1]) (.val 4#1) none (.bin .Mult (.idx 4#1 (.ci 1)) (.idx (.idx (.idx (.idx (.fld 4#2 "bays") (.idx 4#0 8#32)) (.ci 1)) (.idx 4#0 (.ci 1))) 8#32))]),
 .ret (.tup [4#2, 4#3, 4#4])]⟩
noncomputable def FZ:Fn:=⟨2,2,[.ret (.bi .max [.ci 0, .idx (.lst [.bi .abs [4#1], .bin .Sub (.bi .abs [4#1]) (.ci 1), .bin .Add (.bi .abs [4#1]) (.ci 1), 4#1, .ci 0, .bin .FloorDiv (.bi .abs [4#1]) (.ci 2)]) (.bin .Mod 4#0 (.ci 6))])]⟩
noncomputable def HR:Fn:=⟨3,3,[.ife (.cmp .Eq (.bin .Mod 9#4 (.ci 2)) 8#32) [.ret 4#2] [],
 .ret (.comp 1 [1,0] 4#0 (.val 4#2) none (.bin .Add (.tup [.idx 4#0 8#32, .bin .Mod (.call 85 [4#2, 4#1, .ci 9]) (.bin .Pow (.ci 10) (.ci 30))]) (.slc 4#0 1#(.ci 2) none)))]⟩
noncomputable def GF:Fn:=⟨3,10,[.set 4#3 (.call 88 [4#0, 4#1, .ci 3, .ci 3, .ci 3]),
 .set 4#4 (.call 94 [4#0, 4#1, 4#3]),
 .set 4#5 (.call 91 [4#0, 4#1, 4#3, .call 97 [4#0, 4#1, .call 90 [4#0, 4#1, 4#2]]]),
 .set (.tup [4#6, 4#7, 4#8]) (.call 95 [.make 9 [4#4, .lst [], .ci 0, .ci 0], 4#5]),
 .set 4#9 9#4,
 .ret (.tup [.make 9 [4#4, .bi .list [.fld 4#3 "foes"], .call 96 [4#9, 4#7], .call 96 [.bin .FloorDiv 4#9 (.ci 6), 4#8]], 4#5])]⟩
noncomputable def B0:Fn:=⟨3,3,[.ret (.call 82 [.fld 4#0 "ship", .call 81 [4#0], 4#1, .idx 4#2 (.ci 1)])]⟩
noncomputable def vt:Fn:=⟨2,3,[.set 4#2 (.call 37 [4#0, 4#1]),
 .ife (.cmp .Is 4#2 (.const (.non))) [.raise 4 [.const (.str "no box stands at the cell")]] [],
 .ret (.call 82 [.fld 4#0 "ship", .call 81 [4#0], 4#1, .neg (.idx 4#2 (.ci 1))])]⟩
noncomputable def BR:Fn:=⟨2,3,[.set 4#2 (.call 102 [4#0, 4#1]),
 .ret (.and (.bi (.bQ "list") [4#2]) (.and (.cmp .Eq (.idx 4#2 8#32) (.const (.str "no box"))) (.and (.cmp .Is (.idx 4#2 (.ci 1)) (.const (.bl true))) (.cmp .Is (.idx 4#2 (.ci 2)) 8#20))))]⟩
noncomputable def BY:Fn:=⟨2,13,[.set 4#2 (.call 86 [4#0, 4#1, .ci 9]),
 .set (.tup [4#3, 4#4]) (.call 98 [4#0, 4#1, .bin .Mod 9#4 (.ci 9)]),
 .set 4#4 (.comp 3 [] (.tup [4#0, .tup [4#1, 4#2]]) (.zip 4#2 4#4) none (.tup [4#1, .bin .Add (.tup [4#0]) (.slc 4#2 1#(.ci 1) none)])),
 .set 4#7 (.make 10 [4#3, 4#4]),
 .set 4#8 (.call 95 [4#3, 4#4]),
 .set 4#6 (.idx (.call 97 [4#0, 4#1, .lst [.call 89 [4#0, 4#1, .idx 4#2 (.ci 8)]]]) 8#32),
 .set 4#9 (.call 10 [4#3]),
 .set 4#10 (.tup [.bin .Mod 9#4 (.ci 4), .bin .Mod 9#4 (.ci 4), .bin .Mod 9#4 (.ci 2), .ci 3]),
 .ife (.not (.call 103 [4#7, 4#10])) [.ret 8#20] [],
 .ife (.cmp .Eq (.bi .len [4#9]) 8#32) [.ret (.const (.bl true))] [],
 .set 4#5 (.idx 4#9 (.bin .Mod 9#4 (.bi .len [4#9]))),
 .ife (.not (.call 92 [.call 100 [4#7, 4#5, 4#6], .call 95 [4#3, .bin .Add 4#4 (.lst [.tup [4#5, 4#6]])]])) [.ret 8#20] [],
 .set 4#11 (.comp 1 [5] 4#0 (.val 4#4) 1#(.cmp .Eq (.idx 4#0 8#32) 4#1) 4#0),
 .ife (.and (.cmp .Eq (.bi .len [4#11]) 8#32) (.not (.call 103 [4#7, 4#5]))) [.ret 8#20] [],
 .set 4#12 (.comp 1 [5] 4#0 (.val 4#4) 1#(.cmp .NotEq (.idx 4#0 8#32) 4#1) 4#0),
 .ife (.and (.cmp .Eq (.bi .len [4#11]) (.ci 1)) (.not (.call 92 [.call 102 [4#7, 4#5], .call 95 [4#3, 4#12]]))) [.ret 8#20] [],
 .ife (.cmp .Eq (.call 39 [4#7, .slc 4#5 none 1#(.ci 3)]) (.idx 4#5 (.ci 3))) [.ife (.not (.call 92 [.call 81 [.make 10 [4#3, .bin .Add 4#4 (.lst [.tup [4#5, 4#6]])]], .call 100 [4#7, 4#5, 4#6]])) [.ret 8#20] []] [],
 .ret (.call 92 [.call 81 [4#7], 4#8])]⟩
noncomputable def BX:Fn:=⟨1,3,[.set 4#1 (.lst [.ci 0]),
 .for 4#2 (.rng1 (.bin .Add (.ci 1) (.bin .FloorDiv (.bi .len [.slc 4#0 none 1#(.ci 63)]) (.ci 21)))) [.ife (.not (.call 104 [4#0, 4#1])) [.ret 8#20] []],
 .ret (.const (.bl true))]⟩
noncomputable def vD:Fn:=⟨2,4,[.try_ [.set 4#2 (.call 101 [4#0, 4#1])] 4 1#3 [.set 4#2 (.lst [.const (.str "no box"), .and (.isI 4#3 1000) (.isI 4#3 0)]), .expr (.bm .append 4#2 [.isM 4#3 [6,3,17,1,2,5]])],
 .ret 4#2]⟩
mutual
noncomputable def Val.tree:Val->Bool
 | .tup _ xs=>trees xs
 | .lst xs=>trees xs
 | .dct ks vs=>trees ks&&trees vs
 | .obj _ _ vs=>trees vs
 | .ref _=>false
 | .non=>true
 | .bl _=>true
 | .int _=>true
 | .str _=>true
noncomputable def trees:2#Val->Bool
 |[]=>true
 |v::r=>v.tree&&trees r
end
@[simp]theorem Lw:Val.non.tree=true:=by simp only[Val.tree]
@[simp]theorem N1 (b:Bool):(Val.bl b).tree=true:=by simp only[Val.tree]
@[simp]theorem LN (b:Int):(Val.int b).tree=true:=by simp only[Val.tree]
@[simp]theorem KD (b:Str):(Val.str b).tree=true:=by simp only[Val.tree]
@[simp]theorem Me (f:Bool) (xs:2#Val):(Val.tup f xs).tree=trees xs:=by simp only[Val.tree]
@[simp]theorem Li (xs:2#Val):(Val.lst xs).tree=trees xs:=by simp only[Val.tree]
@[simp]theorem KC (ks xs:2#Val):(Val.dct ks xs).tree=(trees ks&&trees xs):=by simp only[Val.tree]
@[simp]theorem MH (c:Nat) (ns:2#Str) (xs:2#Val):(Val.obj c ns xs).tree=trees xs:=by simp only[Val.tree]
@[simp]theorem MK (k:Nat):(Val.ref k).tree=false:=by simp only[Val.tree]
@[simp]theorem Kv:trees []=true:=by simp only[trees]
@[simp]theorem JL (v:Val) (r:2#Val):trees (v::r)=(v.tree&&trees r):=by simp only[trees]
@[simp]theorem xC:∀a b:2#Val,trees (a++b)=(trees a&&trees b)
 |[],b=>by simp
 |v::a,b=>by simp[xC a b,Bool.and_assoc]
theorem pB:∀xs:2#Val,trees xs=true↔∀v∈xs,v.tree=true
 |[]=>by simp
 |v::r=>by simp[pB r]
theorem aQ {α:Type} (f:α->Val) (xs:2#α) (h:∀a,(f a).tree=true):trees (xs.map f)=true:=by
 rw[pB];intro v hv;let⟨a,_,rfl⟩:=aaN.mp hv;exact h a
@[simp]theorem JG (xs:2#Int):trees (xs.map .int)=true:=aQ _ _ λ_=>by simp
mutual
theorem rm (f:Nat->5#Val):∀v:Val,v.tree=true->v.sub f=1#v
 | .tup g xs,h=>by rw[Val.sub,cw f xs (by simpa using h)];rfl
 | .lst xs,h=>by rw[Val.sub,cw f xs (by simpa using h)];rfl
 | .dct ks vs,h=>by rw[Val.sub,cw f vs (by simp at h;exact h.2)];rfl
 | .obj c ns vs,h=>by rw[Val.sub,cw f vs (by simpa using h)];rfl
 | .ref k,h=>by simp at h
 | .non,_=>by simp[Val.sub]
 | .bl _,_=>by simp[Val.sub]
 | .int _,_=>by simp[Val.sub]
 | .str _,_=>by simp[Val.sub]
theorem cw (f:Nat->5#Val):∀xs:2#Val,trees xs=true->subs f xs=1#xs
 |[],_=>by simp[subs]
 |v::r,h=>by
  simp at h;rw[subs,rm f v h.1,cw f r h.2];rfl
end
mutual
theorem Et (n:Nat):∀v:Val,v.tree=true->v.bd n=true
 | .tup g xs,h=>by rw[Val.bd];exact dy n xs (by simpa using h)
 | .lst xs,h=>by rw[Val.bd];exact dy n xs (by simpa using h)
 | .dct ks vs,h=>by
  simp at h;rw[Val.bd,dy n ks h.1,dy n vs h.2];rfl
 | .obj c ns vs,h=>by rw[Val.bd];exact dy n vs (by simpa using h)
 | .ref k,h=>by simp at h
 | .non,_=>by simp[Val.bd]
 | .bl _,_=>by simp[Val.bd]
 | .int _,_=>by simp[Val.bd]
 | .str _,_=>by simp[Val.bd]
theorem dy (n:Nat):∀xs:2#Val,trees xs=true->dq n xs=true
 |[],_=>by simp[dq]
 |v::r,h=>by
  simp at h;rw[dq,Et n v h.1,dy n r h.2];rfl
end
theorem jb (st:aa) (n x:Nat) (v:Val) (h:v.tree=true):v.aF st n x=1#v:=rm _ v h
theorem bN (st:aa) (n x:Nat) (vs:2#Val) (h:trees vs=true):aV st n x vs=1#vs:=cw _ vs h
theorem lV {v:Val} (h:v.tree=true):isRef v=none:=by cases v<;>first|rfl|simp at h
@[simp high] theorem AI (st:aa) (v:Val) (h:v.tree=true):res st v=v:=by cases v<;>first|rfl|simp at h
theorem eV (P:Pg) (st g:aa) (v:Val) (h:v.tree=true):fin P st v (st++g)= .ok v st:=by
 rw[gw P st _ v v (iM st g) (jb _ _ _ v h) (lV h)];simp
theorem fK (P:Pg) (st:aa) (v:Val) (h:v.tree=true):fin P st v st= .ok v st:=by
 have:=eV P st [] v h;simpa using this
theorem mK (z z':Int) (s g:aa):Old (.lst [6#z]::s) (.lst [6#z']::(s++g)):=by
 have:=tP (.lst [6#z]::s) g 0 (.lst [6#z']) (dy _ _ 8#7);simpa using this
theorem nN (P:Pg) (z z':Int) (s g:aa) (v:Val) (h:v.tree=true):fin P (.lst [6#z]::s) v (.lst [6#z']::(s++g))= .ok v (.lst [6#z']::s):=by
 rw[gw P _ _ v v (mK z z' s g) (jb _ _ _ v h) (lV h)];simp
theorem iV (P:Pg) (z z':Int) (s:aa) (v:Val) (h:v.tree=true):fin P (.lst [6#z]::s) v (.lst [6#z']::s)= .ok v (.lst [6#z']::s):=by
 have:=nN P z z' s [] v h;simpa using this
theorem uN (P:Pg) (z z':Int) (s g:aa) (v v':Val) (hr:isRef v=none) (h:v.aF (.lst [6#z']::(s++g)) (0#s+1) (0#s+1+0#g)=1#v'):fin P (.lst [6#z]::s) v (.lst [6#z']::(s++g))= .ok v' (.lst [6#z']::s):=by
 rw[gw P _ _ v v' (mK z z' s g) (by rw[←h];congr 1;simp;lia) hr];simp
theorem iN (P:Pg) (z z':Int) (s g:aa) (j:Nat) (xs ys:2#Val) (hj:g[j]?=1#7#xs) (h:aV (.lst [6#z']::(s++g)) (0#s+1) (0#s+1+j) xs=1#ys):fin P (.lst [6#z]::s) 3#(0#s+1+j) (.lst [6#z']::(s++g))= .ok 3#(0#s+1) (.lst [6#z']::(s++[7#ys])):=by
 unfold fin;rw[if_pos (mK z z' s g)]
 have e:(Ob.lst [6#z']::(s++g))[0#s+1+j]?=1#7#xs:=by
  rw[show 0#s+1+j=(0#s+j)+1 by lia,abR,aam 8#0];rw[←hj];congr 1;lia
 simp[e,h]
theorem gQ (P:Pg) (s g:aa) (j:Nat) (xs ys:2#Val) (hj:g[j]?=1#7#xs) (h:aV (s++g) 0#s (0#s+j) xs=1#ys):fin P s 3#(0#s+j) (s++g)= .ok 3#0#s (s++[7#ys]):=by
 unfold fin;rw[if_pos (iM s g)]
 have e:(s++g)[0#s+j]?=1#7#xs:=by
  rw[aam 8#0,←hj];congr 1;lia
 simp[e,h]
@[simp]theorem ux (s g:aa) (j:Nat):(s++g)[0#s+j]?=g[j]?:=by
 rw[aam 8#0];congr 1;lia
@[simp]theorem AQ (s g:aa):(s++g)[0#s]?=g[0]?:=ux s g 0
@[simp]theorem N4 (s g:aa) (j:Nat) (o:Ob):(s++g).set (0#s+j) o=s++g.set j o:=by
 rw[List.set_append_right _ _ 8#0];congr 2;lia
def aU {α β:Type} (R:α->β->Prop):2#α->2#β->Prop
 |[],[]=>True
 |a::as,b::bs=>R a b/\aU R as bs
 |_,_=>False
theorem aU.imp {α β:Type} {R S:α->β->Prop} (h:∀a b,R a b->S a b):∀{as:2#α} {bs:2#β},aU R as bs->aU S as bs
 |[],[],_=>trivial
 |_::_,_::_,q=>⟨h _ _ q.1,q.2.imp h⟩
theorem aU.len {α β:Type} {R:α->β->Prop}:∀{as:2#α} {bs:2#β},aU R as bs->0#as=0#bs
 |[],[],_=>rfl
 |_::_,_::_,q=>by simp[q.2.len]
theorem aU.map {α β γ:Type} {R:γ->β->Prop} (f:α->γ) (g:α->β) (h:∀a,R (f a) (g a)):∀as:2#α,aU R (as.map f) (as.map g)
 |[]=>trivial
 |a::as=>⟨h a,aU.map f g h as⟩
theorem aU.BF {α β γ:Type} {R:α->β->Prop} {S:α->γ->Prop} (f:β->γ) (h:∀a b,R a b->S a (f b)):∀{as:2#α} {bs:2#β},aU R as bs->aU S as (bs.map f)
 |[],[],_=>trivial
 |_::_,_::_,q=>⟨h _ _ q.1,q.2.BF f h⟩
theorem aU.of {α β:Type} {R S:α->β->Prop} {T:β->Prop} (h:∀a b,T b->R a b->S a b):∀{as:2#α} {bs:2#β},(∀b∈bs,T b)->aU R as bs->aU S as bs
 |[],[],_,_=>trivial
 |_::_,_::_,t,q=>⟨h _ _ (t _ 8#7) q.1,q.2.of h λb hb=>t b (by simp[hb])⟩
open Classical in
theorem fJ {f:Val->aa->R 5#Val} {chk:2#(Nat×Ob)} {st:aa} (hk:Kept chk st):∀{vs ys:2#Val},aU (λv y=>f v st= .ok 1#y st) vs ys->aE f chk vs st= .ok ys st
 |[],[],_=>bB hk
 |v::vs,y::ys,⟨h,t⟩=>by
  show iff (Kept chk st) ((f v st).bind λo st=>(aE f chk vs st).bind λr st=> .ok (fu o r) st)=_;rw[bB hk,h];show (aE f chk vs st).bind _=_;rw[fJ hk t];rfl
open Classical in
theorem eX {α:Type} {f:Val->aa->R 5#Val} {chk:2#(Nat×Ob)} {st:aa} (hk:Kept chk st) (g:α->Val) (y:α->5#Val):∀(xs:2#α),(∀a∈xs,f (g a) st= .ok (y a) st)->aE f chk (xs.map g) st= .ok (xs.filterMap y) st
 |[],_=>bB hk
 |a::xs,h=>by
  show iff (Kept chk st) ((f (g a) st).bind λo st=>(aE f chk (xs.map g) st).bind λr st=> .ok (fu o r) st)=_;rw[bB hk,h a 8#7];show (aE f chk (xs.map g) st).bind _=_;rw[eX hk g y xs λb hb=>h b (by simp[hb])];cases e:y a<;>simp[e,fu]
noncomputable def Tn (P:Pg) (cl:ar) (nw:Nat) (caps:2#Nat) (t:T) (c:5#E) (e:E) (env:Env) (v:Val) (st:aa):R 5#Val:=aL (t.put v (ax nw caps env)) (runC P cl c) (e.run P cl) st
@[simp high] theorem AG (P:Pg) (cl:ar) (nw:Nat) (caps:2#Nat) (t:T) (q:Q) (c:5#E) (e:E) (env:Env) (st:aa):E.run P cl (.comp nw caps t q c e) env st=(q.run P cl env st).bind λit st=>iff (t.low nw=true/\0#it.1<=10000) ((aE (Tn P cl nw caps t c e env) it.2 it.1 st).bind λxs st=>new 7#xs st):=rfl
theorem ky (P:Pg) (cl:ar) (b:Bi) (nw:Nat) (caps:2#Nat) (t:T) (q:Q) (c:5#E) (e:E) (env:Env) (st:aa):E.run P cl (.bi b [.comp nw caps t q c e]) env st=(q.run P cl env st).bind λit st=>iff (t.low nw=true/\0#it.1<=10000) ((aE (Tn P cl nw caps t c e env) it.2 it.1 st).bind λxs st=>iP b 7#xs (st++[7#xs])):=by
 rw[xF];simp only[Bf,zR,AG]
 cases q.run P cl env st with
 |ok it st=>
  simp only[R.iQ];unfold iff;split
  ·cases aE (Tn P cl nw caps t c e env) it.2 it.1 st with
   |ok xs st=>simp[new]
   |exc x st=>rfl
   |stuck=>rfl
  ·rfl
 |exc x st=>rfl
 |stuck=>rfl
@[simp high] theorem Jn (P:Pg) (cl:ar) (nw:Nat) (caps:2#Nat) (t:T) (q:Q) (c:5#E) (e:E) (env:Env) (st:aa):E.run P cl (.bi .tuple [.comp nw caps t q c e]) env st=(q.run P cl env st).bind λit st=>iff (t.low nw=true/\0#it.1<=10000) ((aE (Tn P cl nw caps t c e env) it.2 it.1 st).bind λxs st=> .ok (.tup true xs) (st++[7#xs])):=ky P cl .tuple nw caps t q c e env st
@[simp high] theorem KP (P:Pg) (cl:ar) (nw:Nat) (caps:2#Nat) (t:T) (q:Q) (c:5#E) (e:E) (env:Env) (st:aa):E.run P cl (.bi .all [.comp nw caps t q c e]) env st=(q.run P cl env st).bind λit st=>iff (t.low nw=true/\0#it.1<=10000) ((aE (Tn P cl nw caps t c e env) it.2 it.1 st).bind λxs st=>R.aj ((allB xs).map .bl) (st++[7#xs])):=ky P cl .all nw caps t q c e env st
@[simp high] theorem LR (P:Pg) (cl:ar) (nw:Nat) (caps:2#Nat) (t:T) (q:Q) (c:5#E) (e:E) (env:Env) (st:aa):E.run P cl (.bi .sum [.comp nw caps t q c e]) env st=(q.run P cl env st).bind λit st=>iff (t.low nw=true/\0#it.1<=10000) ((aE (Tn P cl nw caps t c e env) it.2 it.1 st).bind λxs st=>R.aj ((iF 0 xs).map .int) (st++[7#xs])):=ky P cl .sum nw caps t q c e env st
@[simp high] theorem Mr (P:Pg) (cl:ar) (nw:Nat) (caps:2#Nat) (t:T) (q:Q) (c:5#E) (e:E) (env:Env) (st:aa):E.run P cl (.bi .len [.comp nw caps t q c e]) env st=(q.run P cl env st).bind λit st=>iff (t.low nw=true/\0#it.1<=10000) ((aE (Tn P cl nw caps t c e env) it.2 it.1 st).bind λxs st=> .ok 6#0#xs (st++[7#xs])):=ky P cl .len nw caps t q c e env st
structure Pt where
 c:Int
 s:Int
 h:Int
 p:2#Int
 l:Int
structure Sk where
 side:Int
 hold:Pt
 deck:Pt
structure By where
 arm:Int
 sks:2#Sk
structure Sh where
 bays:2#By
 foes:2#(Str×Str)
 trim:Int
 heel:Int
def fI (p:Pt):Val:= .tup false [6#p.c, 6#p.s, 6#p.h, .tup true (p.p.map .int), 6#p.l]
def cu (s:Sk):Val:= .tup false [6#s.side,fI s.hold,fI s.deck]
def cV (b:By):Val:= .tup false [6#b.arm, .tup true (b.sks.map cu)]
noncomputable def de (f:Str×Str):Val:= .tup false [.str f.1, .str f.2]
noncomputable def rP:2#Str:=["bays","foes","trim","heel"]
def aR (s:Sh):Val:= .obj 9 rP [.tup true (s.bays.map cV), .tup true (s.foes.map de), 6#s.trim, 6#s.heel]
@[simp]theorem Mp (p:Pt):(fI p).tree=true:=by simp[fI]
@[simp]theorem Mi (p:Sk):(cu p).tree=true:=by simp[cu]
@[simp]theorem LD (p:By):(cV p).tree=true:=by simp[cV,aQ]
@[simp]theorem J8 (p:Str×Str):(de p).tree=true:=by simp[de]
@[simp]theorem LV (s:Sh):(aR s).tree=true:=by simp[aR,aQ]
def jk (e:Int):Int->2#Int->Prop
 |_,[]=>True
 |a,x::r=>a<=x/\x<e/\jk e (x+1) r
def Pt.Ok (p:Pt):Prop:=(0<=p.c/\p.c<=9)/\(0<=p.s/\0<=p.h/\0<=p.l)/\jk p.c 0 p.p
def Sk.Ok (s:Sk):Prop:=s.hold.Ok/\s.deck.Ok
def By.Ok (b:By):Prop:=b.sks≠[]/\0#b.sks<=20/\∀s∈b.sks,s.Ok
def Sh.Ok (s:Sh):Prop:=s.bays≠[]/\0#s.bays<=20/\0#s.foes<=1000/\(∀b∈s.bays,b.Ok)/\0<=s.trim/\0<=s.heel
theorem uH (P:Pg) (cl:ar) (a:5#Val) (e:Int) (st:aa):∀(p:2#Int) (l:Int) (x:5#Val),jk e l p->∃l' x',forL 4#3 (fL P cl [.ife (.or (.cmp .Lt 4#3 4#2) (.cmp .GtE 4#3 4#1)) [.ret 8#20] [], .set 4#2 (.bin .Add 4#3 (.ci 1))]) [] (p.map .int) [a,1#6#e,1#6#l,x] st= .next [a,1#6#e,1#6#l',x'] st
 |[],l,x,_=>⟨l,x,by simp⟩
 |y::p,l,x,h=>by
  let⟨h1,h2,h3⟩:=h;let⟨l',x',q⟩:=uH P cl a e st p (y+1) 1#6#y h3;refine⟨l',x', ?_⟩
  have g1:¬y<l:=by lia
  have g2:¬e<=y:=by lia
  simp[g1,g2];exact q
theorem ze {P:Pg} (h8:P.fn 8=1#qS) (n:Nat) (f:Bool) (p:2#Int) (e:Int) (st:aa) (h:jk e 0 p):call P (n+1) 8 [.tup f (p.map .int), 6#e] st= .ok (.bl true) st:=by
 rw[aq h8 _ _ _ rfl];unfold qS;simp;let⟨l',x',q⟩:=uH P (call P n) 1#(.tup f (p.map .int)) e st p 0 none h;rw[q];simp
theorem nO {P:Pg} (h7:P.fn 7=1#uP) (h8:P.fn 8=1#qS) (n:Nat) (p:Pt) (st:aa) (h:p.Ok):call P (n+2) 7 [6#p.c, 6#p.s, 6#p.h, .tup true (p.p.map .int), 6#p.l] st= .ok (fI p) st:=by
 rw[aq h7 _ _ _ rfl];unfold uP;let⟨⟨a1,a2⟩,⟨b1,b2,b3⟩,c⟩:=h
 have g1:¬p.c<0:=by lia
 have g2:¬9<p.c:=by lia
 have g3:¬p.s<0:=by lia
 have g4:¬p.h<0:=by lia
 have g5:¬p.l<0:=by lia
 simp[g1,g2,g3,g4,g5,ze h8 n true p.p p.c st c];exact fK P st (fI p) 8#7
def iC (st:aa) (v:Val) (p:Pt):Prop:=∃f x,v= .tup f [6#p.c, 6#p.s, 6#p.h,x, 6#p.l]/\(res st x= 7#(p.p.map .int)∨x= .tup true (p.p.map .int))
def fB (st:aa) (v:Val) (s:Sk):Prop:=∃f a b,v= .tup f [6#s.side,a,b]/\iC st a s.hold/\iC st b s.deck
def eL (st:aa) (v:Val) (b:By):Prop:=∃f x vs,v= .tup f [6#b.arm,x]/\(res st x= 7#vs∨x= .tup true vs)/\aU (fB st) vs b.sks
set_option tactic.hygienic true in
theorem eZ {st g:aa} {x:Val} (h:res st x= 7#vs):res (st++g) x= 7#vs:=by
 cases x<;>first|exact h|(simp at h)
 rename_i k;simp
 cases e:st[k]? with
 |none=>rw[e] at h;simp at h
 |some o=>
  rw[e] at h;rw[aaq (aad.mp e).1,e];exact h
theorem iC.app {st g:aa} {v:Val} {p:Pt} (h:iC st v p):iC (st++g) v p:=by
 let⟨f,x,e,q⟩:=h;exact⟨f,x,e,q.imp (eZ (g:=g)) id⟩
theorem fB.app {st g:aa} {v:Val} {p:Sk} (h:fB st v p):fB (st++g) v p:=by
 let⟨f,a,b,e,q1,q2⟩:=h;exact⟨f,a,b,e,q1.app,q2.app⟩
theorem eL.app {st g:aa} {v:Val} {p:By} (h:eL st v p):eL (st++g) v p:=by
 let⟨f,x,vs,e,q1,q2⟩:=h;exact⟨f,x,vs,e,q1.imp (eZ (g:=g)) id,q2.imp λa b h=>h.app⟩
theorem kh {P:Pg} (h6:P.fn 6=1#yD) (h7:P.fn 7=1#uP) (h8:P.fn 8=1#qS) (n:Nat) (v:Val) (p:Pt) (st:aa) (hr:iC st v p) (h:p.Ok):call P (n+3) 6 [v] st= .ok (fI p) st:=by
 rw[aq h6 _ _ _ rfl];unfold yD;let⟨f,x,rfl,q⟩:=hr
 rcases q with q|rfl
 ·simp[q,nO h7 h8 n p st h];exact fK P st (fI p) 8#7
 ·simp[nO h7 h8 n p st h];exact fK P st (fI p) 8#7
theorem qg {P:Pg} (h5:P.fn 5=1#Cy) (h6:P.fn 6=1#yD) (h7:P.fn 7=1#uP) (h8:P.fn 8=1#qS) (n:Nat) (v:Val) (p:Sk) (st:aa) (hr:fB st v p) (h:p.Ok):call P (n+4) 5 [v] st= .ok (cu p) st:=by
 rw[aq h5 _ _ _ rfl];unfold Cy;let⟨f,a,b,rfl,q1,q2⟩:=hr;simp[kh h6 h7 h8 n _ _ st q1 h.1,kh h6 h7 h8 n _ _ st q2 h.2];exact fK P st (cu p) 8#7
set_option tactic.hygienic true in
theorem fe {st:aa} {x:Val} (h:res st x= 7#vs∨x= .tup true vs):∃chk,gY st x=1#(vs,chk)/\Kept chk st/\∀g,Kept chk (st++g):=by
 rcases h with h|rfl
 ·cases x<;>simp at h
  ·subst h;exact⟨[],rfl,bA _,λg=>bA _⟩
  ·rename_i k
   cases e:st[k]? with
   |none=>rw[e] at h;simp at h
   |some o=>
    rw[e] at h;cases o<;>simp at h;subst h;rename_i xs;refine⟨[(k, 7#xs)],by simp[gY,e],λp hp=> ?_,λg p hp=> ?_⟩
    ·simp at hp;subst hp;exact e
    ·simp at hp;subst hp;rw[aaq (aad.mp e).1,e]
 ·exact⟨[],rfl,bA _,λg=>bA _⟩
theorem tI {P:Pg} (h4:P.fn 4=1#Fp) (h5:P.fn 5=1#Cy) (h6:P.fn 6=1#yD) (h7:P.fn 7=1#uP) (h8:P.fn 8=1#qS) (n:Nat) (v:Val) (p:By) (st:aa) (hr:eL st v p) (h:p.Ok):call P (n+5) 4 [v] st= .ok (cV p) st:=by
 rw[aq h4 _ _ _ rfl];unfold Fp;let⟨f,x,vs,rfl,q1,q2⟩:=hr;let⟨chk,w1,w2,w3⟩:=fe q1;have hl:=q2.len
 have l0:¬0#vs=0:=by rw[hl];intro e;exact h.1 (abg.mp e)
 have l1:¬vs=[]:=λe=>l0 (by rw[e];rfl)
 have l2:0#vs<=10000:=by rw[hl];have:=h.2.1;lia
 have lz:((0#vs:Int)==0)=false:=by simp[l1]
 have hx:iH (res st x)=1#(0#vs:Int):=by rcases q1 with q|rfl<;>simp[*]
 have hc:aE (Tn P (call P (n+4)) 1 [] 4#0 none (.call 5 [4#0]) [1#(.tup f [6#p.arm,x]),1#x]) chk vs st= .ok (p.sks.map cu) st:=by
  refine fJ w2 ((q2.of (S:=λa b=>call P (n+4) 5 [a] st= .ok (cu b) st) (λa b hb q=>qg h5 h6 h7 h8 n a b st q hb) h.2.2).BF cu λa b q=> ?_);simp[Tn,aL,ax,q]
 simp[hx,lz,w1,l2,hc,T.low];exact eV P st [7#_] (cV p) 8#7
@[simp]theorem n1:¬(Str.ofString "bays"=Str.ofString "foes"):=by decide
@[simp]theorem n2:¬(Str.ofString "bays"=Str.ofString "trim"):=by decide
@[simp]theorem n3:¬(Str.ofString "bays"=Str.ofString "heel"):=by decide
@[simp]theorem n4:¬(Str.ofString "foes"=Str.ofString "trim"):=by decide
@[simp]theorem n5:¬(Str.ofString "foes"=Str.ofString "heel"):=by decide
@[simp]theorem n6:¬(Str.ofString "trim"=Str.ofString "heel"):=by decide
def GW (P:Pg):Prop:=((P.cl 9).map (·.init))=1#1#3/\rC P 9=false/\eI P 9 "bays"=true/\eI P 9 "foes"=true/\eI P 9 "trim"=true/\eI P 9 "heel"=true
structure FShip (P:Pg):Prop where
 f3:P.fn 3=1#ir3
 f4:P.fn 4=1#Fp
 f5:P.fn 5=1#Cy
 f6:P.fn 6=1#yD
 f7:P.fn 7=1#uP
 f8:P.fn 8=1#qS
 c9:GW P
@[simp]theorem KN (s g:aa) (j:Nat):(s++g).take (0#s+j)=s++g.take j:=by
 rw[List.take_append,acr 8#0];simp
theorem rV (P:Pg) (st g:aa) (c c':Nat) (ns ns':2#Str) (vs vs':2#Val) (v:Val) (hv:v.tree=true) (ht:trees vs'=true):fin P (st++[.ins c ns vs]) v (st++(.ins c' ns' vs'::g))= .ok v (st++[.ins c' ns' vs']):=by
 have e:st++(Ob.ins c' ns' vs'::g)=(st++[Ob.ins c ns vs]).set 0#st (.ins c' ns' vs')++g:=by simp
 have ho:=tP (st++[.ins c ns vs]) g 0#st (.ins c' ns' vs') (by simp[Ob.bd];exact dy _ _ ht);rw[←e] at ho;rw[gw P _ _ v v ho (jb _ _ _ v hv) (lV hv)];rw[e];simp
theorem C2 {st:aa} {x:Val} {vs:2#Val} (h:res st x= 7#vs∨x= .tup true vs):iH (res st x)=1#(0#vs:Int):=by rcases h with q|rfl<;>simp[*]
theorem yw {P:Pg} (F:FShip P) (n:Nat) (s:Sh) (st:aa) (bv fv:Val) (bs:2#Val) (hb:res st bv= 7#bs∨bv= .tup true bs) (rb:aU (eL st) bs s.bays) (hf:res st fv= 7#(s.foes.map de)) (h:s.Ok):
  call P (n+6) 3 [3#0#st,bv,fv, 6#s.trim, 6#s.heel] (st++[.ins 9 [] []])= .ok .non (st++[.ins 9 rP [.tup true (s.bays.map cV), .tup true (s.foes.map de), 6#s.trim, 6#s.heel]]):=by
 rw[aq F.f3 _ _ _ rfl];unfold ir3;let⟨a1,a2,a3,a4,a5,a6⟩:=h;let⟨b1,b2,b3,b4,b5,b6⟩:=F.c9;have hb1:res (st++[.ins 9 [] []]) bv= 7#bs∨bv= .tup true bs:=hb.imp eZ id;let⟨chk,w1,w2,_⟩:=fe hb1;have hf1:=eZ (g:=[.ins 9 ["bays"] [.tup true (s.bays.map cV)], 7#(s.bays.map cV)]) hf;let⟨chk',y1,y2,_⟩:=fe (.inl hf1);have hl:=rb.len;have l1:¬bs=[]:=λe=>a1 (by rw[e] at hl;exact abg.mp hl.symm)
 have lz:((0#bs:Int)==0)=false:=by simp[l1]
 have lb:0#bs<=10000:=by lia
 have lf:0#s.foes<=10000:=by lia
 have g1:¬s.trim<0:=by lia
 have g2:¬s.heel<0:=by lia
 have hc:aE (Tn P (call P (n+5)) 1 [] 4#0 none (.call 4 [4#0]) [1#3#0#st,1#bv,1#fv,1#6#s.trim,1#6#s.heel]) chk bs (st++[.ins 9 [] []])= .ok (s.bays.map cV) (st++[.ins 9 [] []]):=by
  refine fJ w2 ((rb.of (S:=λa b=>call P (n+5) 4 [a] (st++[.ins 9 [] []])= .ok (cV b) (st++[.ins 9 [] []])) (λa b hb q=>tI F.f4 F.f5 F.f6 F.f7 F.f8 n a b _ q.app hb) a4).BF cV λa b q=> ?_);simp[Tn,aL,ax,q]
 have hd:aE (Tn P (call P (n+5)) 1 [] 4#0 none (.bi .tuple [4#0]) [1#3#0#st,1#bv,1#fv,1#6#s.trim,1#6#s.heel]) chk' (s.foes.map de) (st++[.ins 9 ["bays"] [.tup true (s.bays.map cV)], 7#(s.bays.map cV)])= .ok (s.foes.map de) (st++[.ins 9 ["bays"] [.tup true (s.bays.map cV)], 7#(s.bays.map cV)]):=by
  refine fJ y2 (aU.map _ _ (λa=> ?_) s.foes);simp[Tn,aL,ax,de]
 have hx:=C2 hb1;simp[hx,lz,g1,g2,w1,lb,hc,T.low,b3,b4,b5,b6,aW,y1,lf,hd];exact rV P st _ 9 9 [] rP [] [.tup true (s.bays.map cV), .tup true (s.foes.map de), 6#s.trim, 6#s.heel] .non 8#7 (by simp[aQ])
theorem oh {P:Pg} (F:FShip P) (n:Nat) (s:Sh) (st:aa) (bv fv:Val) (bs:2#Val) (hb:res st bv= 7#bs∨bv= .tup true bs) (rb:aU (eL st) bs s.bays) (hf:res st fv= 7#(s.foes.map de)) (h:s.Ok):
  ir P (call P (n+6)) 9 [bv,fv, 6#s.trim, 6#s.heel] st ((P.cl 9).map (·.init))= .ok (aR s) st:=by
 rw[F.c9.1];simp[yw F n s st bv fv bs hb rb hf h];unfold fin;rw[if_pos (iM _ _)];simp[F.c9.2.1,bN,aQ,aR]
@[simp]theorem Jf (k:Nat) (xs:2#Val) (st:aa):kZ .append 3#k xs st=pI .append k xs st st[k]?:=rfl
@[simp]theorem HW (k:Nat) (xs:2#Val) (st:aa):kZ .extend 3#k xs st=pI .extend k xs st st[k]?:=rfl
@[simp]theorem M7 (o:Val) (xs:2#Val) (st:aa):kZ .get o xs st=s8 (res st o) xs st:=rfl
@[simp]theorem JH (k:Nat) (x:Val) (st:aa) (ys:2#Val):pI .append k [x] st 1#7#ys=iff (0#ys<10000) (.ok .non (st.set k 7#(ys++[x]))):=rfl
@[simp]theorem Ia (k j:Nat) (st:aa) (ys:2#Val):pI .extend k [3#j] st 1#7#ys=BV k ys st st[j]?:=rfl
theorem sI:∀(n:Nat) (lo:Int),bg lo n=(List.range n).map λi=> 6#(lo+(i:Int))
 |0,_=>rfl
 |n+1,lo=>by
  unfold bg;rw[sI n,acq];simp;intro a _;lia
open Classical in
theorem comp_map {α:Type} {f:Val->aa->R 5#Val} {chk:2#(Nat×Ob)} {st:aa} (hk:Kept chk st) (g:α->Val) (y:α->Val) (xs:2#α) (h:∀a∈xs,f (g a) st= .ok 1#(y a) st):aE f chk (xs.map g) st= .ok (xs.map y) st:=by
 have:=eX hk g (λa=>1#(y a)) xs h;simpa using this
structure FPart (P:Pg):Prop extends FShip P where
 f9:P.fn 9=1#ir9
 f12:P.fn 12=1#GB
 f13:P.fn 13=1#Gr
 f14:P.fn 14=1#Hc
 f31:P.fn 31=1#Hq
 f32:P.fn 32=1#Fs
theorem cK {P:Pg} (F:FShip P) (s:Sh) (st:aa):jx P "bays" (aR s) st= .ok (.tup true (s.bays.map cV)) st:=by
 simp[aR,rP,F.c9.2.2.1,dS]
theorem Ai {P:Pg} (F:FShip P) (s:Sh) (st:aa):jx P "foes" (aR s) st= .ok (.tup true (s.foes.map de)) st:=by
 simp[aR,rP,F.c9.2.2.2.1,dS]
def Sh.sk? (s:Sh) (b k:Int):5#Sk:=if 0<=b/\0<=k then (s.bays[b.toNat]?).bind λy=>y.sks[k.toNat]? else none
def Sh.iI (s:Sh) (b k d:Int):Bool:=(s.sk? b k).isSome&&(d==0||d==1)
theorem Lf (d:Int):((0:Int)==d)=(d==0):=by rw[aaZ];simp;lia
theorem Lo (d:Int):((1:Int)==d)=(d==1):=by rw[aaZ];simp;lia
theorem kY {P:Pg} (F:FPart P) (n:Nat) (s:Sh) (f:Bool) (b k d:Int) (st:aa):call P (n+1) 14 [aR s, .tup f [6#b, 6#k, 6#d]] st= .ok (.bl (s.iI b k d)) st:=by
 rw[aq F.f14 _ _ _ rfl];unfold Hc;have F1:=F.toFShip;simp[cK F1]
 by_cases h0:b<0
 ·have:¬0<=b:=by lia
  simp[h0,this,Sh.iI,Sh.sk?]
 ·have h0':0<=b:=by lia
  by_cases h1:(0#s.bays:Int)<=b
  ·have e:s.bays[b.toNat]?=none:=acB 8#0;simp[h0,h1,h0',Sh.iI,Sh.sk?,e]
  ·have h1':b<(0#s.bays:Int):=by lia
   have l:b.toNat<0#s.bays:=by lia
   have e:s.bays[b.toNat]?=1#s.bays[b.toNat]:=aac l;obtain⟨y,e'⟩:∃y,s.bays[b.toNat]=y:=⟨_,rfl⟩;rw[e'] at e;simp[h0,h1,h0',h1',e,e',cV,cK F1]
   by_cases k0:k<0
   ·have:¬0<=k:=by lia
    simp[k0,this,Sh.iI,Sh.sk?]
   ·have k0':0<=k:=by lia
    by_cases k1:(0#y.sks:Int)<=k
    ·have e2:y.sks[k.toNat]?=none:=acB 8#0;simp[k0,k1,k0',h0',Sh.iI,Sh.sk?,e,e',e2]
    ·have l2:k.toNat<0#y.sks:=by lia
     have e2:y.sks[k.toNat]?=1#y.sks[k.toNat]:=aac l2;simp[k0,k1,k0',h0',Sh.iI,Sh.sk?,e,e',e2,dU,Lf d,Lo d]
set_option tactic.hygienic true in
theorem fF {s:Sh} {b k:Int} {y:Sk} (h:s.sk? b k=1#y):0<=b/\0<=k/\∃z:By,s.bays[b.toNat]?=1#z/\z.sks[k.toNat]?=1#y/\b<0#s.bays/\k<0#z.sks:=by
 unfold Sh.sk? at h;split at h
 ·rename_i q
  cases e:s.bays[b.toNat]? with
  |none=>rw[e] at h;cases h
  |some z=>
   rw[e] at h;refine⟨q.1,q.2,z,rfl,h, ?_, ?_⟩
   ·have:=(aad.mp e).1;lia
   ·have:=(aad.mp h).1;lia
 ·cases h
theorem lD {P:Pg} (F:FPart P) (n:Nat) (s:Sh) (f:Bool) (b k d:Int) (y:Sk) (st:aa) (h:s.sk? b k=1#y) (hd:d=0∨d=1):call P (n+2) 13 [aR s, .tup f [6#b, 6#k, 6#d]] st= .ok (cu y) st:=by
 rw[aq F.f13 _ _ _ rfl];unfold Gr;have F1:=F.toFShip
 have hp:s.iI b k d=true:=by simp[Sh.iI,h,hd]
 let⟨b0,k0,z,e1,e2,b1,k1⟩:=fF h;let⟨_,e1'⟩:=aad.mp e1;let⟨_,e2'⟩:=aad.mp e2;simp[kY F,hp,cK F1,b0,b1,e1,e1',cV,k0,k1,e2,e2'];exact fK P st (cu y) 8#7
def Sk.pt (y:Sk) (d:Int):Pt:=if d=0 then y.hold else y.deck
theorem fW {P:Pg} (F:FPart P) (n:Nat) (s:Sh) (f:Bool) (b k d:Int) (y:Sk) (st:aa) (h:s.sk? b k=1#y) (hd:d=0∨d=1):call P (n+3) 12 [aR s, .tup f [6#b, 6#k, 6#d]] st= .ok (fI (y.pt d)) st:=by
 rw[aq F.f12 _ _ _ rfl];unfold GB;simp[lD F n s f b k d y st h hd,cu]
 rcases hd with rfl|rfl
 ·simp[Sk.pt];exact fK P st (fI _) 8#7
 ·simp[Sk.pt];exact fK P st (fI _) 8#7
theorem tF {P:Pg} (F:FPart P) (n:Nat) (s:Sh) (f:Bool) (b k d t:Int) (y:Sk) (st:aa) (h:s.sk? b k=1#y) (hd:d=0∨d=1) (t0:0<=t) (t1:t<(y.pt d).c):call P (n+4) 31 [aR s, .tup f [6#b, 6#k, 6#d, 6#t]] st= .ok (.bl true) st:=by
 rw[aq F.f31 _ _ _ rfl];unfold Hq
 have hp:s.iI b k d=true:=by simp[Sh.iI,h,hd]
 simp[bR,cut,kY F,fW F n s false b k d y st h hd,hp,t0,t1,fI]
theorem qd {P:Pg} (F:FPart P) (n:Nat) (f:Bool) (b k d t:Int) (st:aa):call P (n+1) 32 [.tup f [6#b, 6#k, 6#d, 6#t]] st= .ok (.tup false [6#b, 6#d, 6#k, 6#t]) st:=by
 rw[aq F.f32 _ _ _ rfl];unfold Fs;simp
noncomputable def aw (p:Int×Int×Int):Val:= .tup false [6#p.1, 6#p.2.1, 6#p.2.2]
noncomputable def ck (i:Int) (m:Nat) (d:Int):2#(Int×Int×Int):=(List.range m).map λ(k:Nat)=>(i,(k:Int),d)
noncomputable def partsFrom:Nat->2#By->2#(Int×Int×Int)
 |_,[]=>[]
 |i,b::r=>ck i 0#b.sks 0++(ck i 0#b.sks 1++partsFrom (i+1) r)
def Sh.parts (s:Sh):2#(Int×Int×Int):=partsFrom 0 s.bays
noncomputable def iw:2#S:=[.set 4#3 (.bi .len [.idx (.idx (.fld 4#0 "bays") 4#2) (.ci 1)]), .for 4#4 (.val (.tup [.ci 0, .ci 1])) [.expr (.bm .extend 4#1 [.comp 1 [2,4] 4#0 (.rng1 4#3) none (.tup [4#1, 4#0, 4#2])])]]
@[simp]theorem lC (i:Int) (m:Nat) (d:Int):0#(ck i m d)=m:=by simp[ck]
theorem vC (P:Pg) (cl:ar) (a b c:5#Val) (i d:Int) (m:Nat) (st:aa):aE (Tn P cl 1 [2,4] 4#0 none (.tup [4#1, 4#0, 4#2]) [a,b,1#6#i,c,1#6#d]) [] (bg 0 m) st= .ok ((ck i m d).map aw) st:=by
 rw[sI,ck,abb];refine comp_map (bA st) _ _ _ λk _=> ?_;simp[Tn,aL,ax,aw]
theorem ng {P:Pg} (F:FShip P) (cl:ar) (s:Sh) (hs:s.Ok) (st:aa):∀(r:2#By) (i:Nat) (acc:2#Val) (g:aa) (x2 x3 x4:5#Val),s.bays.drop i=r->0#acc<=40*i->i+0#r<=20->
  ∃g' y2 y3 y4,forL 4#2 (fL P cl iw) [] (bg i 0#r) [1#(aR s),1#3#0#st,x2,x3,x4] (st++(7#acc::g))= .next [1#(aR s),1#3#0#st,y2,y3,y4] (st++(7#(acc++(partsFrom i r).map aw)::g'))
 |[],i,acc,g,x2,x3,x4,_,_,_=>⟨g,x2,x3,x4,by simp[bg,partsFrom]⟩
 |b::r,i,acc,g,x2,x3,x4,hr,ha,hi=>by
  have e1:s.bays[i]?=1#b:=by
   have:=congrArg (·[0]?) hr;simpa using this
  have hr2:s.bays.drop (i+1)=r:=by rw[←List.drop_drop,hr];rfl
  have hl:i<0#s.bays:=(aad.mp e1).1;let⟨_,e1'⟩:=aad.mp e1;have hb:0#b.sks<=20:=(hs.2.2.2.1 b (aar e1)).2.1
  have q1:(0#b.sks:Int)<16777216:=by lia
  have q4:0#b.sks<=10000:=by lia
  have q2:0#acc+0#b.sks<=10000:=by simp at hi;lia
  have q3:0#acc+(0#b.sks+0#b.sks)<=10000:=by simp at hi;lia
  unfold iw;simp[bg,cK F,e1,e1',hl,cV,q1,T.low,vC,new,xJ,cD,q2,q3,q4,lC,Nat.add_assoc];let⟨g',y2,y3,y4,h⟩:=ng F cl s hs st r (i+1) (acc++(ck i 0#b.sks 0++ck i 0#b.sks 1).map aw) (g++[7#((ck i 0#b.sks 0).map aw), 7#((ck i 0#b.sks 1).map aw)]) 1#6#i 1#6#0#b.sks 1#6#1 hr2 (by simp[lC];lia) (by simp at hi;lia);refine⟨g',y2,y3,y4, ?_⟩;unfold iw at h;simp[partsFrom] at h⊢;exact h
@[simp]theorem IV (p:Int×Int×Int):(aw p).tree=true:=by simp[aw]
theorem lE {P:Pg} (F:FPart P) (n:Nat) (s:Sh) (hs:s.Ok) (st:aa):call P (n+1) 9 [aR s] st= .ok 3#0#st (st++[7#(s.parts.map aw)]):=by
 rw[aq F.f9 _ _ _ rfl];unfold ir9;have F1:=F.toFShip;have h1:0#s.bays<=20:=hs.2.1
 have h2:(0#s.bays:Int)<16777216:=by lia
 let⟨g',y2,y3,y4,h⟩:=ng F1 (call P n) s hs st s.bays 0 [] [] none none none rfl 8#7 8#0;unfold iw at h;simp at h;simp[new,cK F1,h2];rw[h];simp;exact gQ P st _ 0 _ _ rfl 8#37
theorem k7 {i:Int} {m:Nat} {d:Int} {p:Int×Int×Int} (h:p∈ck i m d):p.1=i/\0<=p.2.1/\p.2.1<m/\p.2.2=d:=by
 simp[ck] at h;let⟨k,hk,rfl⟩:=h;simp;lia
theorem jF:∀(r:2#By) (i:Nat) (p:Int×Int×Int),p∈partsFrom i r->∃(j:Nat) (b:By),r[j]?=1#b/\p.1=((i+j:Nat):Int)/\0<=p.2.1/\p.2.1<0#b.sks/\(p.2.2=0∨p.2.2=1)
 |[],_,_,h=>by simp[partsFrom] at h
 |b::r,i,p,h=>by
  simp only[partsFrom,aaC] at h
  rcases h with h|h|h
  ·let⟨h1,h2,h3,h4⟩:=k7 h;exact⟨0,b,rfl,by simpa using h1,h2,h3, .inl h4⟩
  ·let⟨h1,h2,h3,h4⟩:=k7 h;exact⟨0,b,rfl,by simpa using h1,h2,h3, .inr h4⟩
  ·let⟨j,c,h1,h2,h3,h4,h5⟩:=jF r (i+1) p h;exact⟨j+1,c,h1,by rw[h2];congr 1;lia,h3,h4,h5⟩
theorem iy {s:Sh} {p:Int×Int×Int} (h:p∈s.parts):∃y,s.sk? p.1 p.2.1=1#y/\(p.2.2=0∨p.2.2=1):=by
 let⟨j,b,h1,h2,h3,h4,h5⟩:=jF _ _ _ h
 have l:p.2.1.toNat<0#b.sks:=by lia
 refine⟨b.sks[p.2.1.toNat], ?_,h5⟩;unfold Sh.sk?;rw[if_pos ⟨by lia,h3⟩]
 have:p.1.toNat=j:=by lia
 rw[this,h1];exact aac l
theorem AM {s:Sh} (hs:s.Ok):s.parts≠[]:=by
 unfold Sh.parts
 cases h:s.bays with
 |nil=>exact absurd h hs.1
 |cons b r=>
  have hb:=hs.2.2.2.1 b (by simp[h]);intro e;have:=congrArg List.length e;simp[partsFrom] at this;exact hb.1 this.1
theorem pf:∀(r:2#By) (i:Nat),(∀b∈r,0#b.sks<=20)->0#(partsFrom i r)<=40*0#r
 |[],_,_=>by simp[partsFrom]
 |b::r,i,h=>by
  have:=pf r (i+1) λc hc=>h c (by simp[hc]);have:=h b 8#7;simp[partsFrom];lia
structure KOk {α:Type} [DecidableEq α] (kV:α->Val):Prop where
 key:∀a,bY (kV a)=true
 eq:∀a b,eqv 8 (kV a) (kV b)=1#(decide (a=b))
 kt:∀a b,kT (kV a)=kT (kV b)
section
variable {α β:Type} [DecidableEq α] {kV:α->Val} (K:KOk kV)
include K
theorem nZ (a:α):∀as:2#α,memD (kV a) (as.map kV)=1#(decide (a∈as))
 |[]=>by simp[memD]
 |b::as=>by
  simp only[aav,memD];rw[if_pos (K.kt b a),K.eq,nZ a as];simp
  by_cases h:b=a
  ·simp[h]
  ·have h2:¬a=b:=λe=>h e.symm;simp[h,h2]
theorem ot (vV:β->Val) (a:α):∀ps:2#(α×β),getD (kV a) (ps.map λp=>kV p.1) (ps.map λp=>vV p.2)=1#((ps.find? λp=>p.1=a).map λp=>vV p.2)
 |[]=>by simp[getD]
 |b::as=>by
  simp only[aav,getD];rw[if_pos (K.kt b.1 a),K.eq,ot vV a as]
  by_cases h:b.1=a
  ·simp[h]
  ·simp[h]
theorem lZ (vV:β->Val):∀(ps:2#(α×β)) (qs:2#(α×β)),(ps.map λp=>p.1).Nodup->(∀p∈ps,p.1∉qs.map λp=>p.1)->pairD (ps.map λp=> .tup false [kV p.1,vV p.2]) (qs.map λp=>kV p.1) (qs.map λp=>vV p.2)=1#((qs++ps).map (λp=>kV p.1),(qs++ps).map λp=>vV p.2)
 |[],qs,_,_=>by simp[pairD]
 |p::ps,qs,hn,hq=>by
  have e:(qs.map λp=>kV p.1)=(qs.map λp=>p.1).map kV:=by simp
  have hp:=hq p 8#7;simp only[aav,pairD];rw[if_pos (K.key p.1),putD,e,nZ K];simp only[aav,aa8] at hn;rw[aaB hp]
  have:=lZ vV ps (qs++[p]) hn.2 λr hr=>by
   simp;refine⟨λx hx=> ?_,λe=>hn.1 ?_⟩
   ·have:=hq r (by simp[hr]);simp at this;exact this x hx
   ·rw[←e];exact aaN.mpr ⟨r,hr,rfl⟩
  simp at this⊢;exact this
end
structure Cell where
 b:Int
 k:Int
 d:Int
 t:Int
deriving DecidableEq
structure Bx where
 name:Str
 w:Int
 h:Int
 cold:Int
 sort:Str
 port:Int
def av (c:Cell):Val:= .tup false [6#c.b, 6#c.k, 6#c.d, 6#c.t]
def aP (x:Bx):Val:= .tup false [.str x.name, 6#x.w, 6#x.h, 6#x.cold, .str x.sort, 6#x.port]
def aA (p:Cell×Bx):Val:= .tup false [av p.1,aP p.2]
@[simp]theorem MG (c:Cell):(av c).tree=true:=by simp[av]
@[simp]theorem LZ (c:Bx):(aP c).tree=true:=by simp[aP]
@[simp]theorem Mn (c:Cell×Bx):(aA c).tree=true:=by simp[aA]
theorem qw:KOk av where
 key a:=by simp[av,bY,vp]
 eq a b:=by
  simp[av];cases a;cases b;simp;rw[aaZ];simp
 kt a b:=by simp[av,kT]
theorem K8:KOk Val.str where
 key a:=by simp[bY]
 eq a b:=by simp
 kt a b:=by simp[kT]
def Cell.key (c:Cell):2#Int:=[c.b,c.d,c.k,c.t]
def aN (L:8#8):2#(Cell×Bx):=(bJ (L.map λp=>(p.1.key,p))).map λz=>z.2
theorem pk {α β:Type} (f:α->β) (k:2#Int) (y:α):∀r:2#(2#Int×α),dF k (f y) (r.map λz=>(z.1,f z.2))=(dF k y r).map λz=>(z.1,f z.2)
 |[]=>by simp[dF]
 |z::r=>by
  simp only[aav,dF];split
  ·simp
  ·simp[pk f k y r]
theorem mX {α β:Type} (f:α->β):∀r:2#(2#Int×α),bJ (r.map λz=>(z.1,f z.2))=(bJ r).map λz=>(z.1,f z.2)
 |[]=>by simp[bJ]
 |z::r=>by
  simp only[aav,bJ];rw[mX f r,pk]
theorem nH {α:Type} (k:2#Int) (y:α):∀r:2#(2#Int×α),(dF k y r).Perm ((k,y)::r)
 |[]=>by simp[dF]
 |z::r=>by
  unfold dF;split
  ·exact .refl _
  ·exact((nH k y r).cons z).trans (.swap _ _ _)
theorem lA {α:Type}:∀r:2#(2#Int×α),(bJ r).Perm r
 |[]=> .refl _
 |z::r=>by
  unfold bJ;exact(nH _ _ _).trans ((lA r).cons z)
theorem cM (L:8#8):(aN L).Perm L:=by
 have:=(lA (L.map λp=>(p.1.key,p))).map (λz=>z.2);have e:((λz:2#Int×(Cell×Bx)=>z.2)∘λp:Cell×Bx=>(p.1.key,p))=id:=rfl;simpa[aN,e] using this
theorem Jd (L:8#8):((bJ ((L.map λp=>p.1.key).zip 8#33)).map λz=>z.2)=(aN L).map aA:=by
 have e:(L.map λp=>p.1.key).zip 8#33=(L.map λp=>(p.1.key,p)).map λz=>(z.1,aA z.2):=by
  simp[List.zip_map']
 rw[e,mX];simp[aN]
theorem Ey {a b:Cell} (h:a.key=b.key):a=b:=by
 cases a;cases b;simp[Cell.key] at h;simp[h]
structure FLoad (P:Pg):Prop extends FPart P where
 f33:P.fn 33=1#Gu
 f34:P.fn 34=1#Ge
 f35:P.fn 35=1#Fg
 f36:P.fn 36=1#FA
 f37:P.fn 37=1#EM
 i10:((P.cl 10).map (·.init))=1#1#33
 g10:rC P 10=false
 hs:eI P 10 "ship"=true
 hp:eI P 10 "placed"=true
 hc:eI P 10 "box_by_cell"=true
 hn:eI P 10 "cell_by_name"=true
noncomputable def jg:2#Str:=["ship","placed","box_by_cell","cell_by_name"]
def gH (s:Sh) (L:8#8):2#Val:=[aR s, .tup true 8#33, .dct (L.map λp=>av p.1) (L.map λp=>aP p.2), .dct (L.map λp=> .str p.2.name) (L.map λp=>av p.1)]
def bG (s:Sh) (L:8#8):Val:= .obj 10 jg (gH s L)
theorem jG (s:Sh) (L:8#8):trees (gH s L)=true:=by simp[gH,aQ]
@[simp]theorem LJ (s:Sh) (L:8#8):(bG s L).tree=true:=by simp[bG,jG]
@[simp]theorem m1:¬(Str.ofString "ship"=Str.ofString "placed"):=by decide
@[simp]theorem m2:¬(Str.ofString "ship"=Str.ofString "box_by_cell"):=by decide
@[simp]theorem m3:¬(Str.ofString "ship"=Str.ofString "cell_by_name"):=by decide
@[simp]theorem m4:¬(Str.ofString "placed"=Str.ofString "box_by_cell"):=by decide
@[simp]theorem m5:¬(Str.ofString "placed"=Str.ofString "cell_by_name"):=by decide
@[simp]theorem m6:¬(Str.ofString "box_by_cell"=Str.ofString "cell_by_name"):=by decide
theorem gN {P:Pg} (F:FLoad P) (s:Sh) (L:8#8) (st:aa):jx P "ship" (bG s L) st= .ok (aR s) st:=by
 simp[bG,jg,gH,F.hs,dS]
theorem mD {P:Pg} (F:FLoad P) (s:Sh) (L:8#8) (st:aa):jx P "placed" (bG s L) st= .ok (.tup true 8#33) st:=by
 simp[bG,jg,gH,F.hp,dS]
theorem pF {P:Pg} (F:FLoad P) (s:Sh) (L:8#8) (st:aa):jx P "box_by_cell" (bG s L) st= .ok (.dct (L.map λp=>av p.1) (L.map λp=>aP p.2)) st:=by
 simp[bG,jg,gH,F.hc,dS]
theorem xy {P:Pg} (F:FLoad P) (s:Sh) (L:8#8) (st:aa):jx P "cell_by_name" (bG s L) st= .ok (.dct (L.map λp=> .str p.2.name) (L.map λp=>av p.1)) st:=by
 simp[bG,jg,gH,F.hn,dS]
def eF (L:8#8) (c:Cell):5#Bx:=(L.find? λp=>p.1=c).map (·.2)
def oV (o:5#Bx):Val:=(o.map aP).getD .non
@[simp]theorem M8 (o:5#Bx):(oV o).tree=true:=by cases o<;>simp[oV]
theorem iA {P:Pg} (F:FLoad P) (n:Nat) (s:Sh) (L:8#8) (v:Val) (c:Cell) (st:aa) (hv:res st v=bG s L):call P (n+1) 37 [v,av c] st= .ok (oV (eF L c)) st:=by
 rw[aq F.f37 _ _ _ rfl];unfold EM;simp[hv,pF F,cD,qw.key];rw[ot qw aP c L];simp
 have e:(Option.map (λp=>aP p.2) (List.find? (λp=>decide (p.1=c)) L)).getD Val.non=oV (eF L c):=by
  simp[oV,eF];cases List.find? (λp=>decide (p.1=c)) L<;>rfl
 rw[e];exact fK P st _ 8#7
theorem zl {P:Pg} (F:FLoad P) (n:Nat) (s:Sh) (L:8#8) (v:Val) (c:Cell) (st:aa) (hv:res st v=bG s L) (h:c.t=0∨(eF L ⟨c.b,c.k,c.d,c.t-1⟩).isSome=true):call P (n+2) 36 [v,av c] st= .ok (.bl true) st:=by
 rw[aq F.f36 _ _ _ rfl];unfold FA;have q:=iA F n s L v ⟨c.b,c.k,c.d,c.t-1⟩ st hv;unfold av at q;simp only at q
 by_cases h0:c.t=0
 ·simp[av,bR,cut,h0]
 ·have h1:=h.resolve_left h0;let⟨x,hx⟩:=aaV.mp h1
  have h2:(c.t==0)=false:=by simp[h0]
  rw[hx] at q;simp[av,bR,cut,h2,q,oV,aP]
def cy (s:Sh) (L:8#8):Prop:=0#L<64/\(L.map λp=>p.1).Nodup/\(L.map λp=>p.2.name).Nodup/\(∀p∈L,∃y,s.sk? p.1.b p.1.k=1#y/\(p.1.d=0∨p.1.d=1)/\0<=p.1.t/\p.1.t<(y.pt p.1.d).c)/\∀p∈L,p.1.t=0∨∃q∈L,q.1=⟨p.1.b,p.1.k,p.1.d,p.1.t-1⟩
theorem A7 {L:8#8} {q:Cell×Bx} {c:Cell} (hq:q∈L) (hc:q.1=c):(eF L c).isSome=true:=by
 unfold eF;rw[acm,List.find?_isSome];exact⟨q,hq,by simp[hc]⟩
theorem AR {P:Pg} (F:FLoad P) (n:Nat) (s:Sh) (L:8#8) (v:Val) (st:aa) (hv:res st v=bG s L) (h:cy s L):call P (n+5) 35 [v] st= .ok .non st:=by
 rw[aq F.f35 _ _ _ rfl];unfold Fg;let⟨h1,h2,h3,h4,h5⟩:=h
 have ek:(L.map λp=>av p.1).map jo=L.map λp=>av p.1:=by simp[av,jo]
 simp[hv,pF F,mD F,xy F]
 have ek2:jo∘(λp:Cell×Bx=>av p.1)=λp=>av p.1:=by funext p;simp[av,jo]
 rw[ek2]
 let⟨env',st',e,hI⟩:=rF (t:= 4#1) (body:=fL P (call P (n+4)) [.ife (.not (.call 31 [.fld 4#0 "ship", 4#1])) [.raise 3 [.const (.str "a cell is not the ship's")]] [], .ife (.not (.call 36 [4#0, 4#1])) [.raise 3 [.const (.str "a box stands above an empty cell")]] []]) (chk:=[]) (λ_ env st'=>st'=st/\∃x,env=[1#v,x]) (L.map λp=>av p.1) [1#v,none] st ⟨rfl,_,rfl⟩ (λ_ _ st _=>bA st) λi w env st' e hI=>by
  let⟨rfl,x,rfl⟩:=hI;simp at e;let⟨c,⟨y,e⟩,rfl⟩:=e;have hm:=aar e;let⟨sk,a1,a2,a3,a4⟩:=h4 _ hm;refine⟨[1#v,1#(av c)],rfl,[1#v,1#(av c)],st', .inl ?_,rfl,_,rfl⟩;have q1:=tF F.toFPart n s false c.b c.k c.d c.t sk st' a1 a2 a3 a4;have q2:=zl F (n+2) s L v c st' hv ((h5 _ hm).imp id λz900=>by let⟨q,hq,e⟩:=z900;exact A7 hq e);have e1:av c= .tup false [6#c.b, 6#c.k, 6#c.d, 6#c.t]:=rfl;rw[←e1] at q1;simp[hv,gN F,q1,q2]
 rw[e,hI.1];simp
theorem qa {P:Pg} (F:FLoad P) (n:Nat) (p:Cell×Bx) (st:aa):call P (n+2) 34 [aA p] st= .ok (.tup false [6#p.1.b, 6#p.1.d, 6#p.1.k, 6#p.1.t]) st:=by
 rw[aq F.f34 _ _ _ rfl];unfold Ge;simp[aA,av,qd F.toFPart]
theorem rh {P:Pg} (F:FLoad P) (n:Nat) (st:aa):∀(L:8#8) (dn:2#Val),fh (call P (n+2)) 34 st 8#33 dn= .ok (dn++L.map λp=> .tup false (p.1.key.map .int)) (st++[7#(dn++L.map λp=> .tup false (p.1.key.map .int))])
 |[],dn=>by simp[fh]
 |p::L,dn=>by
  simp only[aav,fh];rw[qa F];simp;have:=rh F n st L (dn++[.tup false (p.1.key.map .int)]);simp[Cell.key] at this⊢;exact this
theorem mw:∀(L:8#8),dQ (L.map λp=> .tup false (p.1.key.map .int))=1#(L.map λp=>p.1.key)
 |[]=>by simp[dQ]
 |p::L=>by simp[dQ,Ga,cN,Cell.key,mw L];exact mw L
theorem pO {α β:Type} {f:α->β} (hf:∀a b,f a=f b->a=b):∀{l:2#α},l.Nodup->(l.map f).Nodup
 |[],_=>by simp
 |a::l,h=>by
  simp only[aav,aa8] at h⊢;refine⟨λhm=> ?_,pO hf h.2⟩;let⟨b,hb,e⟩:=aaN.mp hm;rw[hf b a e] at hb;exact h.1 hb
theorem keys_nodup {L:8#8} (h:(L.map λp=>p.1).Nodup):(L.map λp=>p.1.key).Nodup:=by
 have e:(L.map λp=>p.1.key)=(L.map λp=>p.1).map Cell.key:=by simp
 rw[e];exact pO (λa b h=>Ey h) h
theorem oJ {P:Pg} (F:FLoad P) (n:Nat) (st:aa) (L:8#8) (hl:0#L<64) (hn:(L.map λp=>p.1).Nodup):qv (call P (n+2)) 34 st 7#8#33= .ok 3#(0#st+1) (st++[.lst [], 7#((aN L).map aA)]):=by
 have h:=rh F n st L [];simp at h;simp[hl];rw[h];simp;rw[mw];simp[jd];rw[bB ⟨hl,keys_nodup hn,4,by lia,λa b c _ e=>by subst e;simp[Cell.key]⟩,Jd];simp[new]
theorem yd (st g:aa) (j:Nat) (ks vs:2#Val) (hj:g[j]?=1#(.dct ks vs)) (hv:trees vs=true):t6 st 3#(0#st+j) (st++g)= .ok (.dct ks vs) st:=by
 have hlt:j<0#g:=(aad.mp hj).1;unfold t6;rw[if_pos (iM st g)]
 have e:(Val.ref (0#st+j)).aF (st++g) 0#st 0#(st++g)=1#(.dct ks vs):=by
  simp[Val.aF,Val.sub,js,hj,cw _ _ hv];rw[if_neg 8#0,if_neg 8#0]
 rw[e];simp
theorem iO {α β:Type} {a b:2#α} (f:α->β) (h:a.Perm b) (hb:(b.map f).Nodup):(a.map f).Nodup:=((h.map f).nodup_iff).mpr hb
theorem cy.aN {s:Sh} {L:8#8} (h:cy s L):cy s (aN L):=by
 let⟨h1,h2,h3,h4,h5⟩:=h;have p:=cM L;refine⟨by rw[p.length_eq];exact h1,iO _ p h2,iO _ p h3,λq hq=>h4 q (p.mem_iff.mp hq),λq hq=> ?_⟩
 refine(h5 q (p.mem_iff.mp hq)).imp id λz900=>by let⟨r,hr,e⟩:=z900;exact⟨r,p.mem_iff.mpr hr,e⟩
theorem Dx (L:8#8) (st:aa) (hl:0#L<64) (hn:(L.map λp=>p.1).Nodup):newD 8#33 st= .ok 3#0#st (st++[.dct (L.map λp=>av p.1) (L.map λp=>aP p.2)]):=by
 unfold newD;have:=lZ qw aP L [] hn 8#7;simp at this;rw[bB (by simp;lia)];have e:L.map aA=L.map λp=> .tup false [av p.1,aP p.2]:=rfl;rw[e,this];simp[new]
theorem BE (L:8#8) (st:aa) (hl:0#L<64) (hn:(L.map λp=>p.2.name).Nodup):newD (L.map λp=> .tup false [.str p.2.name,av p.1]) st= .ok 3#0#st (st++[.dct (L.map λp=> .str p.2.name) (L.map λp=>av p.1)]):=by
 unfold newD;have:=lZ K8 av (L.map λp=>(p.2.name,p.1)) [] (by rw[abb];exact hn) 8#7;simp at this;rw[bB (by simp;lia)];have e:(L.map λp=>Val.tup false [.str p.2.name,av p.1])=List.map ((λp:Str×Cell=>Val.tup false [Val.str p.1,av p.2])∘λp:Cell×Bx=>(p.2.name,p.1)) L:=rfl;rw[e,this];simp[new]
theorem xn {P:Pg} (F:FLoad P) (n:Nat) (s:Sh) (L:8#8) (v:Val) (st:aa) (hv:res st v= 7#(L.map aA)) (h:cy s L):
  call P (n+6) 33 [3#0#st,aR s,v] (st++[.ins 10 [] []])= .ok .non (st++[.ins 10 jg (gH s (aN L))]):=by
 rw[aq F.f33 _ _ _ rfl];unfold Gu;have hS:=h.aN;have hS':=h.aN;let⟨h1,h2,h3,h4,h5⟩:=h;let⟨s1,s2,s3,s4,s5⟩:=hS;have hv1:=eZ (g:=[.ins 10 ["ship"] [aR s]]) hv;have q1:=oJ F (n+3) (st++[.ins 10 ["ship"] [aR s]]) L h1 h2;have q2:=Dx (aN L) (st++[.ins 10 ["ship","placed"] [aR s, .tup true ((aN L).map aA)], .lst [], 7#((aN L).map aA)]) s1 s2;have q3:=BE (aN L) (st++[.ins 10 ["ship","placed","box_by_cell"] [aR s, .tup true ((aN L).map aA), .dct ((aN L).map λp=>av p.1) ((aN L).map λp=>aP p.2)], .lst [], 7#((aN L).map aA), 7#((aN L).map λp=> .tup false [.str p.2.name,av p.1])]) s1 s3;have q4:=AR F n s (aN L) 3#0#st (st++[.ins 10 jg (gH s (aN L)), .lst [], 7#((aN L).map aA)]) (by simp[bG]) hS';have z2:=yd (st++[.ins 10 ["ship","placed"] [aR s, .tup true ((aN L).map aA)], .lst [], 7#((aN L).map aA)]) [.dct ((aN L).map λp=>av p.1) ((aN L).map λp=>aP p.2)] 0 _ _ rfl (aQ _ _ λp=>by simp);have z3:=yd (st++[.ins 10 ["ship","placed","box_by_cell"] [aR s, .tup true ((aN L).map aA), .dct ((aN L).map λp=>av p.1) ((aN L).map λp=>aP p.2)], .lst [], 7#((aN L).map aA)]) [7#((aN L).map λp=> .tup false [.str p.2.name,av p.1]), .dct ((aN L).map λp=> .str p.2.name) ((aN L).map λp=>av p.1)] 1 _ _ rfl (aQ _ _ λp=>by simp)
 have hc:∀(cl:ar) (env:Env) (S:aa),aE (Tn P cl 2 [] (.tup [4#0, 4#1]) none (.tup [.idx 4#1 8#32, 4#0]) env) [] ((aN L).map aA) S= .ok ((aN L).map λp=> .tup false [.str p.2.name,av p.1]) S:=by
  intro cl env S;refine comp_map (bA S) _ _ _ λp _=> ?_;simp[Tn,aL,ax,aA,aP]
 have l2:0#(aN L)<=10000:=by lia
 simp[Nat.add_assoc] at q1 q2 q3 z2 z3;simp[F.hs,F.hp,F.hc,F.hn,aW,hv1,q1,dS,q2,z2,q3,z3,hc,l2,T.low,lows,new,Nat.add_assoc];simp[jg,gH] at q4;rw[q4];simp;exact rV P st _ 10 10 [] jg [] (gH s (aN L)) .non 8#7 (jG _ _)
theorem vg {P:Pg} (F:FLoad P) (n:Nat) (s:Sh) (L:8#8) (v:Val) (st:aa) (hv:res st v= 7#(L.map aA)) (h:cy s L):
  ir P (call P (n+6)) 10 [aR s,v] st ((P.cl 10).map (·.init))= .ok (bG s (aN L)) st:=by
 rw[F.i10];simp[xn F n s L v st hv h];unfold fin;rw[if_pos (iM _ _)];simp[F.g10,bN,jG,bG]
structure FMom (P:Pg):Prop extends FLoad P where
 f80:P.fn 80=1#Gi
 f81:P.fn 81=1#GD
 f82:P.fn 82=1#FI
def gZ (i:Int):Prop:=i.natAbs<2^200
theorem kC {i:Int} (h:gZ i):big i:=aao h (Nat.pow_le_pow_right 8#0 8#0)
def Sh.gX (s:Sh):Prop:=∀b∈s.bays,gZ b.arm/\∀y∈b.sks,gZ y.side
def bV (s:Sh) (c:Cell):Int:=((s.bays[c.b.toNat]?).map (·.arm)).getD 0
def bP (s:Sh) (c:Cell):Int:=((s.sk? c.b c.k).map (·.side)).getD 0
theorem jy (i j:Int) (st:aa) (h:big i) (h':big j):oj i j st= .ok 6#(i*j) st:=bB (.inr (.inr ⟨h,h'⟩))
theorem CM {P:Pg} (F:FMom P) (n:Nat) (s:Sh) (f:Bool) (c:Cell) (y:Sk) (st:aa) (h:s.sk? c.b c.k=1#y) (hd:c.d=0∨c.d=1):call P (n+3) 80 [aR s, .tup f [6#c.b, 6#c.k, 6#c.d]] st= .ok (.tup false [6#(bV s c), 6#(bP s c)]) st:=by
 rw[aq F.f80 _ _ _ rfl];unfold Gi;have F1:=F.toFShip;let⟨b0,k0,z,e1,e2,b1,k1⟩:=fF h;let⟨_,e1'⟩:=aad.mp e1;simp[lD F.toFPart n s f c.b c.k c.d y st h hd,cu,cK F1,b0,b1,e1,e1',cV,bV,bP,h]
theorem yz {s:Sh} (hb:s.gX) (c:Cell):gZ (bV s c)/\gZ (bP s c):=by
 have b0:gZ 0:=by unfold gZ;decide
 constructor
 ·unfold bV
  cases e:s.bays[c.b.toNat]? with
  |none=>exact b0
  |some z=>exact(hb z (aar e)).1
 ·unfold bP
  cases e:s.sk? c.b c.k with
  |none=>exact b0
  |some y=>
   let⟨_,_,z,e1,e2,_,_⟩:=fF e;exact(hb z (aar e1)).2 y (aar e2)
theorem sj {s:Sh} (hb:s.gX) (c:Cell):big (bV s c)/\big (bP s c):=⟨kC (yz hb c).1,kC (yz hb c).2⟩
theorem n9 {P:Pg} (F:FMom P) (n:Nat) (s:Sh) (hb:s.gX) (f:Bool) (c:Cell) (y:Sk) (w a x:Int) (v:Int) (hv:big v) (st:aa) (h:s.sk? c.b c.k=1#y) (hd:c.d=0∨c.d=1):call P (n+4) 82 [aR s, .tup f [6#w, 6#a, 6#x],av c, 6#v] st= .ok (.tup false [6#(w+v), 6#(a+v*bV s c), 6#(x+v*bP s c)]) st:=by
 rw[aq F.f82 _ _ _ rfl];unfold FI;have q:=sj hb c;simp[av,bR,cut,CM F n s false c y st h hd,jy _ _ _ hv q.1,jy _ _ _ hv q.2]
def dO (s:Sh) (L:8#8):Prop:=∀p∈L,(∃y,s.sk? p.1.b p.1.k=1#y)/\(p.1.d=0∨p.1.d=1)/\big p.2.w
def dY (L:8#8):Int:=(L.map λp=>p.2.w).sum
def dv (s:Sh) (L:8#8):Int:=(L.map λp=>p.2.w*bV s p.1).sum
def dB (s:Sh) (L:8#8):Int:=(L.map λp=>p.2.w*bP s p.1).sum
def bI (s:Sh) (L:8#8):Val:= .tup false [6#(dY L), 6#(dv s L), 6#(dB s L)]
theorem rD {P:Pg} (F:FMom P) (n:Nat) (s:Sh) (hb:s.gX) (v:Val) (L0:8#8) (st:aa) (hv:res st v=bG s L0):∀(L:8#8) (w a c:Int) (x y:5#Val),dO s L->∃x' y',forL (.tup [4#2, 4#3]) (fL P (call P (n+4)) [.set 4#1 (.call 82 [.fld 4#0 "ship", 4#1, 4#2, .idx 4#3 (.ci 1)])]) [] 8#33 [1#v,1#(.tup false [6#w, 6#a, 6#c]),x,y] st
  = .next [1#v,1#(.tup false [6#(w+dY L), 6#(a+dv s L), 6#(c+dB s L)]),x',y'] st
 |[],w,a,c,x,y,_=>⟨x,y,by simp[dY,dv,dB]⟩
 |p::L,w,a,c,x,y,h=>by
  let⟨⟨sk,h1⟩,h2,h3⟩:=h p 8#7;let⟨x',y',e⟩:=rD F n s hb v L0 st hv L (w+p.2.w) (a+p.2.w*bV s p.1) (c+p.2.w*bP s p.1) 1#(av p.1) 1#(aP p.2) λq hq=>h q (by simp[hq]);refine⟨x',y', ?_⟩;have q:=n9 F n s hb false p.1 sk w a c p.2.w h3 st h1 h2;have eb:aP p.2= .tup false [.str p.2.name, 6#p.2.w, 6#p.2.h, 6#p.2.cold, .str p.2.sort, 6#p.2.port]:=rfl;rw[eb] at e;simp[aA,hv,gN F.toFLoad,eb,q];rw[e];simp[dY,dv,dB,Int.add_assoc]
theorem gf {P:Pg} (F:FMom P) (n:Nat) (s:Sh) (hb:s.gX) (L:8#8) (h:dO s L) (st:aa):call P (n+5) 81 [bG s L] st= .ok (bI s L) st:=by
 rw[aq F.f81 _ _ _ rfl];unfold GD;let⟨x',y',e⟩:=rD F n s hb (bG s L) L st 8#7 L 0 0 0 none none h;simp[mD F.toFLoad];rw[e];simp[bI]
theorem lN {a b:2#Int} (h:a.Perm b):a.sum=b.sum:=by
 induction h with
 |nil=>rfl
 |cons x _ ih=>simp[ih]
 |swap x y l=>simp;lia
 |trans _ _ h1 h2=>rw[h1,h2]
theorem lW {s:Sh} {L M:8#8} (h:L.Perm M):dY L=dY M/\dv s L=dv s M/\dB s L=dB s M:=⟨lN (h.map _),lN (h.map _),lN (h.map _)⟩
noncomputable def bC:Int->Nat->2#Int
 |_,0=>[]
 |lo,n+1=>lo::bC (lo+1) n
theorem mS:∀(n:Nat) (lo:Int),bg lo n=(bC lo n).map .int
 |0,_=>rfl
 |n+1,lo=>by simp[bg,bC,mS n]
@[simp]theorem Bk:∀(n:Nat) (lo:Int),0#(bC lo n)=n
 |0,_=>rfl
 |n+1,lo=>by simp[bC,Bk n]
theorem gA:∀{n:Nat} {lo x:Int},x∈bC lo n↔lo<=x/\x<lo+n
 |0,lo,x=>by simp[bC]
 |n+1,lo,x=>by
  simp[bC,gA (n:=n)];lia
theorem cX {α β:Type} (f:α->Bool) (g:α->β):∀l:2#α,(l.filterMap λa=>if f a=true then 1#(g a) else none)=(l.filter f).map g
 |[]=>rfl
 |a::l=>by
  rw[abN,acA,cX f g l];cases f a<;>simp
theorem iZ {k:Nat} {o:Ob} {st:aa} (h:st[k]?=1#o):Kept [(k,o)] st:=λp hp=>by
 simp at hp;subst hp;exact h
structure FCell (P:Pg):Prop extends FPart P where
 f10:P.fn 10=1#AW
 f11:P.fn 11=1#oq
def cY (p:Int×Int×Int) (c:Int):2#Cell:=(bC 0 c.toNat).map λt=>⟨p.1,p.2.1,p.2.2,t⟩
def iR (s:Sh) (p:Int×Int×Int):Pt:=((s.sk? p.1 p.2.1).map λy=>y.pt p.2.2).getD ⟨0,0,0,[],0⟩
def cellsFrom (s:Sh) (ps:2#(Int×Int×Int)):2#Cell:=ps.flatMap λp=>cY p (iR s p).c
def Sh.cells (s:Sh):2#Cell:=cellsFrom s s.parts
theorem qh {s:Sh} (hs:s.Ok) {b k d:Int} {y:Sk} (h:s.sk? b k=1#y):(y.pt d).Ok:=by
 let⟨_,_,z,e1,e2,_,k1⟩:=fF h;have hz:=hs.2.2.2.1 z (aar e1);have hy:=hz.2.2 y (aar e2);unfold Sk.pt;split
 ·exact hy.1
 ·exact hy.2
theorem mB {P:Pg} (F:FCell P) (n:Nat) (s:Sh) (hs:s.Ok) (p:Int×Int×Int) (y:Sk) (st:aa) (h:s.sk? p.1 p.2.1=1#y) (hd:p.2.2=0∨p.2.2=1):call P (n+4) 11 [aR s,aw p] st= .ok 3#0#st (st++[7#((cY p (iR s p).c).map av)]):=by
 rw[aq F.f11 _ _ _ rfl];unfold oq;have q1:=fW F.toFPart n s false p.1 p.2.1 p.2.2 y st h hd;have e:aw p= .tup false [6#p.1, 6#p.2.1, 6#p.2.2]:=rfl
 have ep:iR s p=y.pt p.2.2:=by simp[iR,h]
 have hc:=(qh hs h (d:=p.2.2)).1;have h1:0<=(y.pt p.2.2).c:=hc.1
 have h2:(y.pt p.2.2).c<16777216:=by have:=hc.2;lia
 have h3:(y.pt p.2.2).c.toNat<=10000:=by have:=hc.2;lia
 have hcomp:aE (Tn P (call P (n+3)) 1 [1] 4#0 none (.bin .Add 4#1 (.tup [4#0])) [1#(aR s),1#(aw p)]) [] (bg 0 (y.pt p.2.2).c.toNat) st= .ok ((cY p (y.pt p.2.2).c).map av) st:=by
  rw[mS];unfold cY;rw[abb];refine comp_map (bA st) _ _ _ λt _=> ?_;simp[Tn,aL,ax,aw,av]
 rw[ep];rw[e] at hcomp⊢;simp[q1,fI,h1,h2,h3,T.low,hcomp,new];exact gQ P st [7#_] 0 _ _ rfl 8#37
theorem xA {s:Sh} (hs:s.Ok) (ps:2#(Int×Int×Int)) (h:∀p∈ps,p∈s.parts):0#(cellsFrom s ps)<=9*0#ps:=by
 induction ps with
 |nil=>simp[cellsFrom]
 |cons p ps ih=>
  have:=ih λq hq=>h q (by simp[hq]);let⟨y,hy,hd⟩:=iy (h p 8#7)
  have ep:iR s p=y.pt p.2.2:=by simp[iR,hy]
  have hc:=(qh hs hy (d:=p.2.2)).1.2
  have e:cellsFrom s (p::ps)=cY p (iR s p).c++cellsFrom s ps:=by simp[cellsFrom]
  rw[e,aaT,aas,ep];simp[cY];lia
noncomputable def ke:2#S:=[.expr (.bm .extend 4#1 [.call 11 [4#0, 4#2]])]
theorem nt {P:Pg} (F:FCell P) (n:Nat) (s:Sh) (hs:s.Ok) (st:aa):∀(ps:2#(Int×Int×Int)) (acc:2#Cell) (g:aa) (x2:5#Val),(∀p∈ps,p∈s.parts)->0#acc+9*0#ps<=9000->
  ∃g' y2,forL 4#2 (fL P (call P (n+4)) ke) [(0#st+1, 7#(s.parts.map aw))] (ps.map aw) [1#(aR s),1#3#0#st,x2] (st++ 7#(acc.map av):: 7#(s.parts.map aw)::g)
   = .next [1#(aR s),1#3#0#st,y2] (st++ 7#((acc++cellsFrom s ps).map av):: 7#(s.parts.map aw)::g')
 |[],acc,g,x2,_,_=>⟨g,x2,by
  have:Kept [(0#st+1,Ob.lst (s.parts.map aw))] (st++ 7#(acc.map av):: 7#(s.parts.map aw)::g):=λp hp=>by simp at hp;subst hp;simp
  simp[cellsFrom]
  exact fM this⟩
 |p::ps,acc,g,x2,hp,hl=>by
  simp at hl;let⟨y,hy,hd⟩:=iy (hp p 8#7)
  have hk:Kept [(0#st+1,Ob.lst (s.parts.map aw))] (st++ 7#(acc.map av):: 7#(s.parts.map aw)::g):=λp hp=>by simp at hp;subst hp;simp
  have hcl:=xA hs [p] λq hq=>hp q (by simp at hq;simp[hq])
  have ec:cellsFrom s [p]=cY p (iR s p).c:=by simp[cellsFrom]
  rw[ec] at hcl;simp at hcl;let⟨g',y2,e⟩:=nt F n s hs st ps (acc++cY p (iR s p).c) (g++[7#((cY p (iR s p).c).map av)]) 1#(aw p) (λq hq=>hp q (by simp[hq])) (by simp;lia);refine⟨g',y2, ?_⟩;have q1:=mB F n s hs p y (st++ 7#(acc.map av):: 7#(s.parts.map aw)::g) hy hd
  have l:0#acc+0#(cY p (iR s p).c)<=10000:=by lia
  show ji (Kept _ _) ((PI.F.aj _ ((T.var 2).put (aw p) _)).bind λenv st=>(fL P (call P (n+4)) ke env st).turn (λenv st=>forL 4#2 (fL P (call P (n+4)) ke) _ (ps.map aw) env st))=_;rw[fM hk];unfold ke at e⊢;simp[q1,cD,l];simp[cellsFrom] at e⊢;exact e
theorem tB {P:Pg} (F:FCell P) (n:Nat) (s:Sh) (hs:s.Ok) (st:aa):call P (n+5) 10 [aR s] st= .ok 3#0#st (st++[7#(s.cells.map av)]):=by
 rw[aq F.f10 _ _ _ rfl];unfold AW
 have hpl:0#s.parts<=800:=by
  have:=pf s.bays 0 λb hb=>(hs.2.2.2.1 b hb).2.1;have:=hs.2.1;unfold Sh.parts;lia
 let⟨g',y2,e⟩:=nt F n s hs st s.parts [] [] none (λp hp=>hp) (by simp;lia);have q1:=lE F.toFPart (n+3) s hs (st++[.lst []]);unfold ke at e;simp at e q1;simp[new,q1];rw[e];simp;exact gQ P st (7#(s.cells.map av)::_) 0 _ _ rfl 8#37
noncomputable def cg (p:Int×Int×Int) (t:Int):Cell:=⟨p.1,p.2.1,p.2.2,t⟩
def lG (L:8#8) (p:Int×Int×Int) (t:Int):Bool:=(eF L (cg p t)).isSome
def gP (L:8#8) (p:Int×Int×Int) (c:Int):Nat:=0#((bC 0 c.toNat).filter (lG L p))
theorem qf {P:Pg} (F:FPart P) (h11:P.fn 11=1#oq) (n:Nat) (s:Sh) (hs:s.Ok) (p:Int×Int×Int) (y:Sk) (st:aa) (h:s.sk? p.1 p.2.1=1#y) (hd:p.2.2=0∨p.2.2=1):call P (n+4) 11 [aR s,aw p] st= .ok 3#0#st (st++[7#((bC 0 (y.pt p.2.2).c.toNat).map λt=>av (cg p t))]):=by
 rw[aq h11 _ _ _ rfl];unfold oq;have q1:=fW F n s false p.1 p.2.1 p.2.2 y st h hd;have e:aw p= .tup false [6#p.1, 6#p.2.1, 6#p.2.2]:=rfl;have hc:=(qh hs h (d:=p.2.2)).1;have h1:0<=(y.pt p.2.2).c:=hc.1
 have h2:(y.pt p.2.2).c<16777216:=by have:=hc.2;lia
 have h3:(y.pt p.2.2).c.toNat<=10000:=by have:=hc.2;lia
 have hcomp:aE (Tn P (call P (n+3)) 1 [1] 4#0 none (.bin .Add 4#1 (.tup [4#0])) [1#(aR s),1#(aw p)]) [] (bg 0 (y.pt p.2.2).c.toNat) st= .ok ((bC 0 (y.pt p.2.2).c.toNat).map λt=>av (cg p t)) st:=by
  rw[mS];refine comp_map (bA st) _ _ _ λt _=> ?_;simp[Tn,aL,ax,aw,av,cg]
 rw[e] at hcomp⊢;simp[q1,fI,h1,h2,h3,T.low,hcomp,new];exact gQ P st [7#_] 0 _ _ rfl 8#37
theorem F7 {P:Pg} (F:FLoad P) (h11:P.fn 11=1#oq) (h39:P.fn 39=1#zW) (n:Nat) (s:Sh) (hs:s.Ok) (L:8#8) (p:Int×Int×Int) (y:Sk) (st:aa) (h:s.sk? p.1 p.2.1=1#y) (hd:p.2.2=0∨p.2.2=1):call P (n+5) 39 [bG s L,aw p] st= .ok 6#(gP L p (y.pt p.2.2).c) st:=by
 rw[aq h39 _ _ _ rfl];unfold zW;have q1:=qf F.toFPart h11 n s hs p y st h hd
 have hcl:(y.pt p.2.2).c<=10000:=by
  have:=(qh hs h (d:=p.2.2)).1.2;lia
 have hcomp:∀chk st x2,Kept chk st->aE (Tn P (call P (n+4)) 1 [0] 4#0 1#(.cmp .IsNot (.call 37 [4#1, 4#0]) (.const .non)) 4#0 [1#(bG s L),1#(aw p),x2]) chk ((bC 0 (y.pt p.2.2).c.toNat).map λt=>av (cg p t)) st= .ok (((bC 0 (y.pt p.2.2).c.toNat).filter (lG L p)).map λt=>av (cg p t)) st:=λchk st x2 hk=>by
  rw[eX hk (λt=>av (cg p t)) (λt=>if lG L p t=true then 1#(av (cg p t)) else none) _ λt _=> ?_,cX];have q:=iA F (n+3) s L (bG s L) (cg p t) st 8#7;simp[Tn,aL,ax,q,lG]
  have:∀o:5#Bx,eS (!gd (oV o)) (R.ok 1#(av (cg p t)) st) (R.ok none st)=R.ok (if o.isSome=true then 1#(av (cg p t)) else none) st:=λo=>by cases o<;>simp[oV,aP]
  exact this _
 simp[gN F,q1,T.low,hcl];rw[hcomp _ _ _ (iZ (by rw[AQ];rfl))];simp[T.low,new,hcl,gP];exact eV P st _ 6#_ 8#7
theorem qT (f:Int->Bool):∀(n:Nat) (lo:Int),(∀t,lo<=t->f (t+1)=true->f t=true)->∀t,lo<=t->t<lo+n->(f t=true↔t<lo+0#((bC lo n).filter f))
 |0,lo,_,t,h1,h2=>by simp at h2;lia
 |n+1,lo,hd,t,h1,h2=>by
  have ih:=qT f n (lo+1) (λt ht=>hd t 8#0)
  have all:f lo=false->∀t,lo<=t->f t=false:=λh0 t ht=>by
   obtain⟨k,rfl⟩:∃k:Nat,t=lo+k:=⟨(t-lo).toNat,by lia⟩
   induction k with
   |zero=>simpa using h0
   |succ k ih=>
    cases e:f (lo+(k+1:Nat)) with
    |false=>rfl
    |true=>
     have:=hd (lo+k) 8#0 (by rw[show lo+(k:Int)+1=lo+(k+1:Nat) by push_cast;lia];exact e);rw[ih 8#0] at this;cases this
  unfold bC
  cases e:f lo with
  |false=>
   rw[acA,if_neg (by simp[e]),all e t h1]
   have:(bC (lo+1) n).filter f=[]:=List.filter_eq_nil_iff.mpr λx hx=>by simp[all e x (by have:=gA.mp hx;lia)]
   simp[this];lia
  |true=>
   rw[acA,if_pos e,aas]
   by_cases ht:t=lo
   ·subst ht;simp[e];lia
   ·rw[ih t 8#0 (by push_cast at h2;lia)]
    push_cast
    lia
theorem gh {L:8#8} {p:Int×Int×Int} {t:Int}:lG L p t=true↔∃q∈L,q.1=cg p t:=by
 unfold lG eF;simp
theorem Dj {s:Sh} {L:8#8} (h:cy s L) (hl:0#L<60) (p:Int×Int×Int) (y:Sk) (hy:s.sk? p.1 p.2.1=1#y) (hd:p.2.2=0∨p.2.2=1) (b:Bx) (hn:b.name∉L.map λq=>q.2.name) (ht:(gP L p (y.pt p.2.2).c:Int)<(y.pt p.2.2).c):cy s (L++[(cg p (gP L p (y.pt p.2.2).c),b)]):=by
 let⟨h1,h2,h3,h4,h5⟩:=h
 have dn:∀t,0<=t->lG L p (t+1)=true->lG L p t=true:=λt t0 q=>by
  let⟨r,hr,e⟩:=gh.mp q
  rcases h5 r hr with z|⟨r',hr',e'⟩
  ·rw[e] at z;simp[cg] at z;lia
  ·exact gh.mpr ⟨r',hr',by rw[e',e];simp[cg]⟩
 have tp:=qT (lG L p) (y.pt p.2.2).c.toNat 0 dn;have tl:gP L p (y.pt p.2.2).c=0#((bC 0 (y.pt p.2.2).c.toNat).filter (lG L p)):=rfl;rw[←tl] at tp;generalize gP L p (y.pt p.2.2).c=T at*;refine⟨by simp;lia, ?_, ?_,λq hq=> ?_,λq hq=> ?_⟩
 ·rw[ab8,abF];refine⟨h2,by simp,λc hc e he=> ?_⟩;simp at he;subst he;intro e2;let⟨q,hq,e3⟩:=aaN.mp hc;have:=(tp T 8#0 8#0).mp (gh.mpr ⟨q,hq,e3.trans e2⟩);lia
 ·rw[ab8,abF];refine⟨h3,by simp,λc hc e he=> ?_⟩;simp at he;subst he;intro e2;exact hn (e2▸hc)
 ·rcases aaC.mp hq with hq|hq
  ·exact h4 q hq
  ·simp at hq;subst hq;exact⟨y,hy,hd,by simp[cg],ht⟩
 ·rcases aaC.mp hq with hq|hq
  ·rcases h5 q hq with z|⟨r,hr,e⟩
   ·exact .inl z
   ·exact .inr ⟨r,aaC.mpr (.inl hr),e⟩
  ·simp at hq;subst hq
   by_cases t0:T=0
   ·exact .inl (by simp[cg,t0])
   ·let⟨r,hr,e⟩:=gh.mp ((tp ((T:Int)-1) 8#0 8#0).mpr 8#0);exact .inr ⟨r,aaC.mpr (.inl hr),e⟩
structure FG (P:Pg):Prop extends FMom P where
 f84:P.fn 84=1#ET
 f85:P.fn 85=1#EC
 f86:P.fn 86=1#Gb
 f87:P.fn 87=1#Fj
 f88:P.fn 88=1#GP
 f89:P.fn 89=1#FJ
 f90:P.fn 90=1#F9
 f91:P.fn 91=1#Fy
 f93:P.fn 93=1#Gd
 f94:P.fn 94=1#HK
 f95:P.fn 95=1#FQ
 f96:P.fn 96=1#FZ
 f97:P.fn 97=1#HR
 f98:P.fn 98=1#GF
noncomputable def CC (ns:2#Int) (z:Int):Int:=if ns=[] then 0 else ns.getD (z % 0#ns).toNat 0
def bD (ns:2#Int) (z:Int):Int:=let m:=(CC ns z % 2147483647+z*z*7919+11)*48271 % 2147483647;m*m % 1999999973
theorem dz (ns:2#Int) (z:Int):0<=bD ns z/\bD ns z<1999999973:=by
 unfold bD;simp only;lia
noncomputable abbrev bu (ns:2#Int):Val:= 7#(ns.map .int)
theorem uQ {P:Pg} {cl:ar} (ns:2#Int) (z:Int) (s:aa) (env:Env) (h0:env[0]?=1#1#(bu ns)) (h1:env[1]?=1#1#3#0):E.run P cl (.ite (.cmp .Gt (.bi .len [4#0]) 8#32) (.idx 4#0 (.bin .Mod (.idx 4#1 8#32) (.bi .len [4#0]))) 8#32) env (.lst [6#z]::s)= .ok 6#(CC ns z) (.lst [6#z]::s):=by
 by_cases hn:ns=[]
 ·subst hn;simp[h0,h1,CC]
 ·have l0:0<0#ns:=acO.mpr hn
  have l1:(0:Int)<0#ns:=by lia
  have h2:0<=z % (0#ns:Int):=abD _ 8#0;have h3:z % (0#ns:Int)<0#ns:=abq _ 8#0;simp[h0,h1,CC,l0,l1,h2,h3,hn]
theorem bt {P:Pg} (F:FG P) (n:Nat) (ns:2#Int) (z:Int) (s:aa) (z0:0<=z) (z1:z<2^60):
  call P (n+1) 84 [bu ns, 3#0] (.lst [6#z]::s)= .ok 6#(bD ns (z+1)) (.lst [6#(z+1)]::s):=by
 rw[aq F.f84 _ _ _ rfl];unfold ET
 have zz:(z+1).natAbs<2^64:=by lia
 have hm:∀x:Int,(x % 2147483647).natAbs<2^64:=λx=>by lia
 have q:=uQ (P:=P) (cl:=call P n) ns (z+1) s [1#(bu ns),1#3#0,none,none] rfl rfl;simp only[uu,E3,Jg];rw[show E.run P (call P n) (E.bin .Add (.idx 4#1 8#32) (.ci 1)) (List.map some [bu ns, 3#0]++List.replicate (4-2) none) (.lst [6#z]::s)= .ok 6#(z+1) (.lst [6#z]::s) by simp];simp only[aav,acd,ab2,List.nil_append,List.replicate];simp only[R.iQ,Be,Bv,of_ok];simp[-p7,q,zz,hm,bD];exact iV P z (z+1) s _ 8#7
theorem rN (i j:Int) (st:aa) (h0:0<=j) (h1:j<=1000) (h2:i.natAbs<2^64):vZ i j st= .ok 6#(i^j.toNat) st:=bB ⟨h0,h1,h2⟩
theorem rH {P:Pg} (F:FG P) (n:Nat) (ns:2#Int) (z:Int) (s:aa) (r:Int) (r0:0<r) (r1:r<10^40) (z0:0<=z) (z1:z<2^60):
  ∃v:Int,0<=v/\v<10^40/\call P (n+2) 85 [bu ns, 3#0, 6#r] (.lst [6#z]::s)= .ok 6#v (.lst [6#(z+1)]::s):=by
 rw[aq F.f85 _ _ _ rfl];unfold EC;have q1:=bt F n ns z s z0 z1;have q:=λv:5#Val=>uQ (P:=P) (cl:=call P (n+1)) ns (z+1) s [1#(bu ns),1#3#0,1#6#r,1#6#(bD ns (z+1)),v] rfl rfl;have hr:=dz ns (z+1)
 have hm:(bD ns (z+1)).natAbs<2^64:=by lia
 simp[-p7,q1,q]
 cases hb:decide (bD ns (z+1) % 3<2) with
 |true=>
  simp[r0];refine⟨bD ns (z+1)/3 % r,abD _ 8#0,Int.lt_trans (abq _ r0) r1,iV P z (z+1) s _ 8#7⟩
 |false=>
  simp[rN,hm];refine⟨_, ?_, ?_,iV P z (z+1) s _ 8#7⟩
  ·lia
  ·lia
theorem yq {P:Pg} (F:FG P) (n:Nat) (ns:2#Int) (z:Int) (s:aa) (z0:0<=z) (z1:z<2^59):
  ∃v:Int,v.natAbs<10^20/\call P (n+3) 93 [bu ns, 3#0] (.lst [6#z]::s)= .ok 6#v (.lst [6#(z+2)]::s):=by
 rw[aq F.f93 _ _ _ rfl];unfold Gd;have q1:=bt F (n+1) ns z s z0 8#0;let⟨v,v0,v1,q2⟩:=rH F n ns (z+1) s 7 8#0 8#0 8#0 8#0;simp[q1,q2,rN];rw[show z+1+1=z+2 by lia]
 cases hb:(bD ns (z+1) % 2==0) with
 |true=>
  simp;refine⟨v % 100000000000000000000,by lia,iV P z (z+2) s _ 8#7⟩
 |false=>
  simp;refine⟨-(v % 100000000000000000000),by lia,iV P z (z+2) s _ 8#7⟩
theorem tJ (z z':Int) (s g:aa) (j:Nat) (xs:2#Val) (hj:g[j]?=1#7#xs) (hx:trees xs=true):(Val.ref (0#s+1+j)).aF (.lst [6#z']::(s++g)) (0#s+1) (0#s+1+0#g)=1#7#xs:=by
 have hlt:j<0#g:=(aad.mp hj).1
 have e:(Ob.lst [6#z']::(s++g))[0#s+1+j]?=1#7#xs:=by
  rw[show 0#s+1+j=(0#s+j)+1 by lia,abR,ux,hj]
 simp only[Val.aF,Val.sub,js,e];rw[if_neg 8#0,if_neg 8#0,cw _ _ hx];rfl
theorem ya {e:Int}:∀{l:2#Int} {a a':Int},a'<=a->jk e a l->jk e a' l
 |[],_,_,_,_=>trivial
 |x::l,a,a',h,q=>⟨by have:=q.1;lia,q.2.1,q.2.2⟩
theorem pY (f:Int->Bool):∀(n:Nat) (lo:Int),jk (lo+n) lo ((bC lo n).filter f)
 |0,_=>trivial
 |n+1,lo=>by
  have h:=pY f n (lo+1);rw[show lo+1+(n:Int)=lo+((n+1:Nat):Int) by push_cast;lia] at h;unfold bC;rw[acA];split
  ·exact⟨by lia,by push_cast;lia,h⟩
  ·exact ya 8#0 h
def jr (p:Pt):Val:= .tup false [6#p.c, 6#p.s, 6#p.h, 7#(p.p.map .int), 6#p.l]
@[simp]theorem Ki (p:Pt):(jr p).tree=true:=by simp[jr]
theorem tY {P:Pg} (F:FG P) (n:Nat) (ns:2#Int) (z:Int) (s:aa) (c:Nat) (hc:c<=9) (z0:0<=z) (z1:z<2^60):
  ∃p:Pt,p.Ok/\p.c<=c/\call P (n+2) 87 [bu ns, 3#0, 6#c] (.lst [6#z]::s)= .ok (jr p) (.lst [6#(z+1)]::s):=by
 rw[aq F.f87 _ _ _ rfl];unfold Fj;have q1:=bt F n ns z s z0 z1;have hr:=dz ns (z+1);generalize bD ns (z+1)=m at q1 hr
 have k0:(0:Int)<(c:Int)+1:=by lia
 have k1:0<=m % ((c:Int)+1):=abD _ 8#0;have k2:m % ((c:Int)+1)<(c:Int)+1:=abq _ 8#0
 have k3:m % ((c:Int)+1)<16777216:=by lia
 have k4:(m % ((c:Int)+1)).toNat<=10000:=by lia
 have hcomp:∀(a b:5#Val) (x y:5#Val),aE (Tn P (call P (n+1)) 1 [3] 4#0 1#(.cmp .Gt (.bin .Mod (.bin .FloorDiv (.bin .FloorDiv 4#1 (.ci 10)) (.bin .Add (.bin .Mult 4#0 4#0) (.ci 1))) (.ci 3)) 8#32) 4#0 [a,b,x,1#6#m,y,none]) [] (bg 0 (m % ((c:Int)+1)).toNat) (.lst [6#(z+1)]::s)= .ok (((bC 0 (m % ((c:Int)+1)).toNat).filter λk=>decide (0<m/10/(k*k+1) % 3)).map .int) (.lst [6#(z+1)]::s):=by
  intro a b x y;rw[mS];rw[eX (bA _) Val.int (λk=>if decide (0<m/10/(k*k+1) % 3)=true then 1#6#k else none) _ ?_,cX];intro k hk;have hk:=gA.mp hk
  have hk1:k.natAbs<2^64:=by lia
  have hk2:0<=k*k:=Int.mul_nonneg 8#0 8#0;have hk3:k*k<=10*10:=Int.mul_le_mul 8#0 8#0 8#0 8#0
  have hk4:0<k*k+1:=by lia
  have hk5:k*k+1<2^64:=by lia
  have hk6:=λst=>zQ (m/10) (k*k+1) st hk4 hk5;simp[Tn,aL,ax,hk1,hk6]
  by_cases hb:0<m/10/(k*k+1) % 3<;>simp[hb]
 refine⟨⟨m % ((c:Int)+1),5+m/7 % 40,5+m/300 % 30,(bC 0 (m % ((c:Int)+1)).toNat).filter λk=>decide (0<m/10/(k*k+1) % 3),m/9000 % 60⟩,⟨⟨k1,by simp only;lia⟩,⟨by simp only;lia,by simp only;lia,by simp only;lia⟩, ?_⟩,by simp only;lia, ?_⟩
 ·have:=pY (λk=>decide (0<m/10/(k*k+1) % 3)) (m % ((c:Int)+1)).toNat 0;rw[show (0:Int)+((m % ((c:Int)+1)).toNat:Int)=m % ((c:Int)+1) by lia] at this;exact this
 ·simp[q1,k0,k1,k3,k4,T.low,hcomp,new];refine(uN P z (z+1) s [7#_] _ (jr _) rfl ?_);have hz:=tJ z (z+1) s [7#(((bC 0 (m % ((c:Int)+1)).toNat).filter λk=>decide (0<m/10/(k*k+1) % 3)).map .int)] 0 _ rfl 8#7;simp at hz;simp[jr];rw[hz];simp
def dM (y:Sk):Val:= .tup false [6#y.side,jr y.hold,jr y.deck]
noncomputable def kQ:2#S:=[.set 4#9 (.bin .Sub (.bin .Mod 9#4 (.ci 9)) (.ci 4)), .set 4#10 (.call 87 [4#0, 4#1, 4#4]), .expr (.bm .append 4#7 [.tup [4#9, 4#10, .call 87 [4#0, 4#1, 4#4]]])]
theorem sG {P:Pg} (F:FG P) (n:Nat) (ns:2#Int) (T:aa) (c:Nat) (hc:c<=9) (x2 x3 x5 x6:5#Val):∀(m:Nat) (lo z:Int) (sks:2#Sk) (x8 x9 x10:5#Val),0#sks+m<=20->0<=z->z+3*m<2^59->
  ∃z' ys y8 y9 y10,forL 4#8 (fL P (call P (n+2)) kQ) [] (bg lo m) [1#(bu ns),1#3#0,x2,x3,1#6#c,x5,x6,1#3#(0#T+1),x8,x9,x10,none,none,none] (.lst [6#z]::(T++[7#(sks.map dM)]))
   = .next [1#(bu ns),1#3#0,x2,x3,1#6#c,x5,x6,1#3#(0#T+1),y8,y9,y10,none,none,none] (.lst [6#z']::(T++[7#((sks++ys).map dM)]))/\0#ys=m/\(∀y∈ys,y.Ok/\y.hold.c<=(c:Int)/\y.deck.c<=(c:Int))/\z<=z'/\z'<=z+3*m
 |0,lo,z,sks,x8,x9,x10,_,_,_=>⟨z,[],x8,x9,x10,by simp[bg],rfl,by simp,by lia,by lia⟩
 |m+1,lo,z,sks,x8,x9,x10,hl,z0,z1=>by
  have q1:=bt F (n+1) ns z (T++[7#(sks.map dM)]) z0 8#0;let⟨p1,a1,a2,q2⟩:=tY F n ns (z+1) (T++[7#(sks.map dM)]) c hc 8#0 8#0;let⟨p2,b1,b2,q3⟩:=tY F n ns (z+1+1) (T++[7#(sks.map dM)]) c hc 8#0 8#0;let⟨z',ys,y8,y9,y10,e,h1,h2,h3,h4⟩:=sG F n ns T c hc x2 x3 x5 x6 m (lo+1) (z+1+1+1) (sks++[⟨bD ns (z+1) % 9-4,p1,p2⟩]) 1#6#lo 1#6#(bD ns (z+1) % 9-4) 1#(jr p1) (by simp;lia) 8#0 8#0;refine⟨z',⟨bD ns (z+1) % 9-4,p1,p2⟩::ys,y8,y9,y10, ?_,by simp[h1], ?_,by lia,by lia⟩
  ·unfold kQ at e⊢
   have l:0#sks<10000:=by lia
   simp[bg,q1,q2,q3,cD,l];simp[dM] at e;exact e
  ·intro y hy
   rcases aap.mp hy with rfl|hy
   ·exact⟨⟨a1,b1⟩,a2,b2⟩
   ·exact h2 y hy
def bo (k:Nat) (bs:2#By):2#Val:=(bs.zipIdx k).map λp=> .tup false [6#p.1.arm, 3#p.2]
def cx (f:Sk->Val) (b:By):Ob:= 7#(b.sks.map f)
theorem pd (k:Nat) (bs:2#By) (b:By):bo k (bs++[b])=bo k bs++[.tup false [6#b.arm, 3#(k+0#bs)]]:=by
 simp[bo,List.zipIdx_append]
@[simp]theorem Ka (k:Nat) (bs:2#By):0#(bo k bs)=0#bs:=by simp[bo]
@[simp]theorem Ks (k:Nat):bo k []=[]:=rfl
def n8:2#S:=[.set 4#7 (.lst []), .for 4#8 (.rng1 (.bin .Add (.ci 1) (.bin .Mod 9#4 4#3))) kQ, .expr (.bm .append 4#5 [.tup [.bin .Sub (.bin .Mod 9#4 (.ci 21)) (.ci 10), 4#7]])]
theorem sM {P:Pg} (F:FG P) (n:Nat) (ns:2#Int) (s:aa) (c:Nat) (hc:c<=9) (k:Nat) (hk:0<k) (hk3:k<=3) (x2:5#Val):∀(m:Nat) (lo z:Int) (bs:2#By) (x6 x7 x8 x9 x10:5#Val),0#bs+m<=20->0<=z->z+11*m<2^59->
  ∃z' cs y6 y7 y8 y9 y10,forL 4#6 (fL P (call P (n+2)) n8) [] (bg lo m) [1#(bu ns),1#3#0,x2,1#6#k,1#6#c,1#3#(0#s+1),x6,x7,x8,x9,x10,none,none,none] (.lst [6#z]::(s++ 7#(bo (0#s+2) bs)::bs.map (cx dM)))
   = .next [1#(bu ns),1#3#0,x2,1#6#k,1#6#c,1#3#(0#s+1),y6,y7,y8,y9,y10,none,none,none] (.lst [6#z']::(s++ 7#(bo (0#s+2) (bs++cs))::(bs++cs).map (cx dM)))/\0#cs=m/\(∀b∈cs,b.Ok/\0#b.sks<=k/\∀y∈b.sks,y.hold.c<=(c:Int)/\y.deck.c<=(c:Int))/\z<=z'/\z'<=z+11*m
 |0,lo,z,bs,x6,x7,x8,x9,x10,_,_,_=>⟨z,[],x6,x7,x8,x9,x10,by simp[bg],rfl,by simp,by lia,by lia⟩
 |m+1,lo,z,bs,x6,x7,x8,x9,x10,hl,z0,z1=>by
  have q1:=bt F (n+1) ns z (s++ 7#(bo (0#s+2) bs)::bs.map (cx dM)++[.lst []]) z0 8#0;have r1:=dz ns (z+1)
  have k0:(0:Int)<k:=by lia
  have k1:0<=bD ns (z+1) % (k:Int):=abD _ 8#0;have k2:bD ns (z+1) % (k:Int)<k:=abq _ 8#0
  have k3:0<=1+bD ns (z+1) % (k:Int):=by lia
  have k4:1+bD ns (z+1) % (k:Int)<16777216:=by lia
  let⟨z2,ys,y8,y9,y10,e2,h1,h2,h3,h4⟩:=sG F n ns (s++ 7#(bo (0#s+2) bs)::bs.map (cx dM)) c hc x2 1#6#k 1#3#(0#s+1) 1#6#lo (1+bD ns (z+1) % (k:Int)).toNat 0 (z+1) [] x8 x9 x10 (by simp;lia) 8#0 8#0;have q2:=bt F (n+1) ns z2 (s++ 7#(bo (0#s+2) bs)::bs.map (cx dM)++[7#(ys.map dM)]) 8#0 8#0;let⟨z',cs,w6,w7,w8,w9,w10,e,g1,g2,g3,g4⟩:=sM F n ns s c hc k hk hk3 x2 m (lo+1) (z2+1) (bs++[⟨bD ns (z2+1) % 21-10,ys⟩]) 1#6#lo 1#3#(0#s+(0#bs+1)+1) y8 y9 y10 (by simp;lia) 8#0 8#0;refine⟨z',⟨bD ns (z2+1) % 21-10,ys⟩::cs,w6,w7,w8,w9,w10, ?_,by simp[g1], ?_,by lia,by lia⟩
  ·unfold n8 at e⊢
   have l:0#bs<10000:=by lia
   simp at q1 q2 e2;simp[bg,q1,k0,hk,k3,k4,new,e2,q2,cD,l];rw[pd,show 0#s+2+0#bs=0#s+(0#bs+1)+1 by lia] at e;simp[cx] at e;simp[cx];exact e
  ·intro y hy
   rcases aap.mp hy with rfl|hy
   ·refine⟨⟨?_,by simp only[h1];lia,λy hy=>(h2 y hy).1⟩,by simp only[h1];lia,λy hy=>(h2 y hy).2⟩;intro e;simp only at e;rw[e] at h1;simp at h1;lia
   ·exact g2 y hy
theorem ua (st:aa) (p:Pt):iC st (jr p) p:=⟨false,_,rfl, .inl rfl⟩
theorem Ew (st:aa) (y:Sk):fB st (dM y) y:=⟨false,_,_,rfl,ua st _,ua st _⟩
theorem sU (st:aa) (f:Sk->Val) (hf:∀y,fB st (f y) y):∀(bs:2#By) (k:Nat),(∀(j:Nat) (b:By),bs[j]?=1#b->st[k+j]?=1#(cx f b))->aU (eL st) (bo k bs) bs
 |[],_,_=>trivial
 |b::bs,k,h=>by
  refine⟨⟨false, 3#k,b.sks.map f,rfl, .inl ?_, ?_⟩, ?_⟩
  ·have:=h 0 b rfl;simp at this⊢;rw[this];simp[cx]
  ·have:=aU.map (R:=fB st) f id hf b.sks;simpa using this
  ·have:=sU st f hf bs (k+1) λj c hc=>by
    have:=h (j+1) c hc;rwa[show k+(j+1)=k+1+j by lia] at this
   exact this
noncomputable def wq {α:Type} (a b c:α) (i:Int):α:=if i=0 then a else if i=1 then b else c
theorem AY (a b c:Str) (i:Int) (st:aa) (h0:0<=i) (h1:i<3):eQ (.lst [.str a, .str b, .str c]) 6#i st= .ok (.str (wq a b c i)) st:=by
 have:i=0∨i=1∨i=2:=by lia
 rcases this with rfl|rfl|rfl<;>simp[wq]
theorem Br {α:Type} (xs:2#α) (v:Int) (h:0<=v):cut xs none 1#v=xs.take v.toNat:=by
 have:¬v<0:=by lia
 simp[cut,bR,this]
def dW (i:Int):Str:=wq (α:=Str) "dry" "wet" "hot" i
theorem tH {P:Pg} (F:FG P) (n:Nat) (ns:2#Int) (s:aa) (z:Int) (a k c:Nat) (ha:0<a) (ha3:a<=3) (hk:0<k) (hk3:k<=3) (hc:c<=9) (z0:0<=z) (z1:z<2^58):
  ∃(sh:Sh) (z':Int),sh.Ok/\0#sh.bays<=a/\(∀b∈sh.bays,0#b.sks<=k/\∀y∈b.sks,y.hold.c<=(c:Int)/\y.deck.c<=(c:Int))/\0#sh.foes<=2/\z<=z'/\z'<=z+40/\call P (n+7) 88 [bu ns, 3#0, 6#a, 6#k, 6#c] (.lst [6#z]::s)= .ok (aR sh) (.lst [6#z']::s):=by
 rw[aq F.f88 _ _ _ rfl];unfold GP;have q1:=bt F (n+5) ns z (s++[.lst []]) z0 8#0
 have k0:(0:Int)<a:=by lia
 have k1:0<=bD ns (z+1) % (a:Int):=abD _ 8#0;have k2:bD ns (z+1) % (a:Int)<a:=abq _ 8#0
 have k3:0<=1+bD ns (z+1) % (a:Int):=by lia
 have k4:1+bD ns (z+1) % (a:Int)<16777216:=by lia
 let⟨z2,cs,w6,w7,w8,w9,w10,e,g1,g2,g3,g4⟩:=sM F (n+4) ns s c hc k hk hk3 1#6#a (1+bD ns (z+1) % (a:Int)).toNat 0 (z+1) [] none none none none none (by simp;lia) 8#0 8#0;have q2:=bt F (n+5) ns z2 (s++ 7#(bo (0#s+2) cs)::cs.map (cx dM)) 8#0 8#0;have r2:=dz ns (z2+1);generalize bD ns (z2+1)=m at q2 r2
 have i1:0<=m % 3:=by lia
 have i2:m % 3<3:=by lia
 have i3:0<=m/3 % 3:=by lia
 have i4:m/3 % 3<3:=by lia
 have i5:0<=m/9 % 3:=by lia
 have i6:m/9 % 3<3:=by lia
 have i7:0<=m/27 % 3:=by lia
 have t1:∀st,eQ (.lst [.str "dry", .str "wet", .str "hot"]) 6#(m % 3) st= .ok (.str (dW (m % 3))) st:=λst=>AY _ _ _ (m % 3) st i1 i2;have t2:∀st,eQ (.lst [.str "dry", .str "wet", .str "hot"]) 6#(m/3 % 3) st= .ok (.str (dW (m/3 % 3))) st:=λst=>AY _ _ _ _ st i3 i4;have t3:∀st,eQ (.lst [.str "dry", .str "wet", .str "hot"]) 6#(m/9 % 3) st= .ok (.str (dW (m/9 % 3))) st:=λst=>AY _ _ _ _ st i5 i6;obtain⟨sh,hsh⟩:∃sh:Sh,sh=⟨cs,[(dW (m % 3),dW (m/3 % 3)),(dW (m/9 % 3),"oil")].take (m/27 % 3).toNat,m/81 % 200,m/16200 % 100⟩:=⟨_,rfl⟩
 have e1:sh.trim=m/81 % 200:=by rw[hsh]
 have e2:sh.heel=m/16200 % 100:=by rw[hsh]
 have e3:sh.bays=cs:=by rw[hsh]
 have e4:sh.foes=[(dW (m % 3),dW (m/3 % 3)),(dW (m/9 % 3),"oil")].take (m/27 % 3).toNat:=by rw[hsh]
 have hlen:0#cs<=a:=by lia
 have hfl:0#sh.foes<=2:=by rw[e4];simp;lia
 have ah:sh.Ok:=by
  refine⟨?_,by rw[e3];lia,by lia,λb hb=>(g2 b (by rwa[e3] at hb)).1,by rw[e1];lia,by rw[e2];lia⟩;rw[e3];intro e;rw[e] at g1;simp at g1;lia
 refine⟨sh,z2+1,ah,by rw[e3];exact hlen,λb hb=>(g2 b (by rwa[e3] at hb)).2,hfl,by lia,by lia, ?_⟩
 have hf:([Val.tup false [.str (dW (m % 3)), .str (dW (m/3 % 3))], .tup false [.str (dW (m/9 % 3)), .str "oil"]].take (m/27 % 3).toNat)=sh.foes.map de:=by
  rw[e4,List.map_take];rfl
 obtain⟨S,hS⟩:∃S:aa,S= .lst [6#(z2+1)]::(s++ 7#(bo (0#s+2) cs)::(cs.map (cx dM)++[.lst [.str "dry", .str "wet", .str "hot"], .lst [Val.tup false [.str (dW (m % 3)), .str (dW (m/3 % 3))], .tup false [.str (dW (m/9 % 3)), .str "oil"]], 7#(sh.foes.map de)])):=⟨_,rfl⟩
 have hraw:aU (eL S) (bo (0#s+2) cs) sh.bays:=by
  rw[e3];refine sU _ dM (Ew _) cs _ λj b hj=> ?_;rw[hS,show 0#s+2+j=0#s+(j+1)+1 by lia];simp;rw[aaq (by simpa using (aad.mp hj).1)];simp[hj]
 have hship:=oh F.toFShip n sh S 3#(0#s+1) 3#(0#s+(0#cs+2+1)+1) (bo (0#s+2) cs) (.inl (by simp[hS])) hraw (by simp[hS]) ah;rw[hS] at hship;simp at e;simp[q1,k0,ha,k3,k4,new];unfold n8 kQ at e;rw[e];simp[q2,new,-oy,t1,t2,t3,Br,i7,hf];rw[e1,e2] at hship;rw[hship];simp;exact nN P z (z2+1) s _ _ 8#7
noncomputable abbrev xu:Str:=Str.ofString "abcdefghijklmnopqrstuvwxyz"
theorem Dz:xu.cps.toList=(List.range 26).map (97+ ·):=by decide+kernel
theorem tW:0#xu=26:=by decide+kernel
noncomputable def iS (i:Int):Str:=⟨#[97+i.toNat]⟩
@[simp]theorem Nf (i:Int):0#(iS i)=1:=rfl
theorem kG (i:Int) (st:aa) (h0:0<=i) (h1:i<26):eQ (.str xu) 6#i st= .ok (.str (iS i)) st:=by
 rw[kJ,bB (by rw[tW];lia),tW,Dz]
 have l:i.toNat<26:=by lia
 have h1':i<((26:Nat):Int):=by lia
 simp[h0,h1,l,iS]
noncomputable def gR (i:Int):Int:=2*i+1
theorem z8 (i:Int) (st:aa) (h0:0<=i) (h1:i<6):eQ (.lst [6#1, 6#3, 6#5, 6#7, 6#9, 6#11]) 6#i st= .ok 6#(gR i) st:=by
 have:i=0∨i=1∨i=2∨i=3∨i=4∨i=5:=by lia
 rcases this with rfl|rfl|rfl|rfl|rfl|rfl<;>simp[gR]
def dR (m:Int):Str:=iS (m/6 % 26)++iS (m/156 % 26)
@[simp]theorem MZ (m:Int):0#(dR m)=2:=rfl
def E7 (m k:Int):Str:=(⟨(cut (dR m).cps.toList none 1#(m/4056 % 3)).toArray⟩++iS ((m/156+k*gR (m % 6)) % 26))++⟨(cut (dR m).cps.toList 1#(m/4056 % 3) none).toArray⟩
def nm (m many k:Int):Str:=if (m/12168 % 4==0&&decide (many<13))=true then j7 (iS (m/6 % 26)) (k+1).toNat else E7 m k
theorem tN {α:Type} (xs:2#α) (lo hi:5#Int):0#(cut xs lo hi)<=0#xs:=by
 unfold cut;rw[aa9,acw];lia
theorem str_len (l:2#Nat):0#(⟨l.toArray⟩:Str)=0#l:=by simp[Str.length]
theorem Dr (a b:Str):0#(a++b)=0#a+0#b:=by
 show (a.cps++b.cps).size=_;simp[Str.length]
noncomputable def mh:2#S:=[.set 4#10 (.idx 4#3 (.bin .Mod (.bin .Add (.bin .FloorDiv 4#4 (.ci 156)) (.bin .Mult 4#9 4#6)) (.ci 26))), .ife (.and (.cmp .Eq (.bin .Mod (.bin .FloorDiv 4#4 (.ci 12168)) (.ci 4)) 8#32) (.cmp .Lt 4#2 (.ci 13))) [.expr (.bm .append 4#8 [.bin .Mult (.idx 4#3 (.bin .Mod (.bin .FloorDiv 4#4 (.ci 6)) (.ci 26))) (.bin .Add 4#9 (.ci 1))])] [.expr (.bm .append 4#8 [.bin .Add (.bin .Add (.slc 4#5 none 1#4#7) 4#10) (.slc 4#5 1#4#7 none)])]]
theorem pz {P:Pg} (cl:ar) (m many:Int) (T:aa) (o:Ob) (x0 x1:5#Val):∀(c:Nat) (lo:Nat) (acc:2#Val) (x9 x10:5#Val),0#acc+c<=100->lo+c<=100->
  ∃y9 y10,forL 4#9 (fL P cl mh) [] (bg lo c) [x0,x1,1#6#many,1#(.str xu),1#6#m,1#(.str (dR m)),1#6#(gR (m % 6)),1#6#(m/4056 % 3),1#3#(0#T+1),x9,x10] (o::(T++[7#acc]))
   = .next [x0,x1,1#6#many,1#(.str xu),1#6#m,1#(.str (dR m)),1#6#(gR (m % 6)),1#6#(m/4056 % 3),1#3#(0#T+1),y9,y10] (o::(T++[7#(acc++(bC lo c).map λk=> .str (nm m many k))]))
 |0,lo,acc,x9,x10,_,_=>⟨x9,x10,by simp[bg,bC]⟩
 |c+1,lo,acc,x9,x10,hl,hc=>by
  let⟨y9,y10,e⟩:=pz cl m many T o x0 x1 c (lo+1) (acc++[.str (nm m many lo)]) 1#6#lo 1#(.str (iS ((m/156+lo*gR (m % 6)) % 26))) (by simp;lia) 8#0;refine⟨y9,y10, ?_⟩;have t1:=λst=>kG ((m/156+lo*gR (m % 6)) % 26) st 8#0 8#0;have t2:=λst=>kG (m/6 % 26) st 8#0 8#0
  have l:0#acc<10000:=by lia
  have hi:(gR (m % 6)).natAbs<2^64:=by unfold gR;lia
  have h3:(0:Int)<=(lo:Int)+1:=by lia
  have h4:(lo:Int)+1<=1000:=by lia
  have c1:=tN (dR m).cps.toList none 1#(m/4056 % 3);have c2:=tN (dR m).cps.toList 1#(m/4056 % 3) none;have sl:0#(dR m).cps.toList=2:=rfl;rw[sl] at c1 c2
  have d1:0#(cut (dR m).cps.toList none 1#(m/4056 % 3))+1<=100000:=by lia
  have d2:0#(cut (dR m).cps.toList none 1#(m/4056 % 3))+1+0#(cut (dR m).cps.toList 1#(m/4056 % 3) none)<=100000:=by lia
  unfold mh at e⊢;simp[bg,bC] at e⊢;simp[-kJ,t1,hi]
  cases hb:(m/12168 % 4==0&&decide (many<13)) with
  |true=>
   simp[-kJ,t2,h3,h4,cD,l];simp[nm,hb] at e⊢;exact e
  |false=>
   simp[cD,l,str_len,Dr,d1,d2];simp[nm,hb,E7] at e⊢;exact e
theorem Au {b t k j:Int} (i:Int) (ht:t=gR i) (hi:0<=i/\i<6) (hk:0<=k/\k<26) (hj:0<=j/\j<26) (e:(b+k*t) % 26=(b+j*t) % 26):k=j:=by
 have:i=0∨i=1∨i=2∨i=3∨i=4∨i=5:=by lia
 rcases this with rfl|rfl|rfl|rfl|rfl|rfl<;>simp[gR] at ht<;>subst ht<;>lia
theorem t7 (z:Str) (h:0#z=1) (n:Nat):0#(j7 z n)=n:=by
 unfold j7;rw[str_len];simp;have:z.cps.size=1:=h;simp[this]
theorem DH {i j:Int} (hi:0<=i) (hj:0<=j) (h:iS i=iS j):i=j:=by
 have:=congrArg (λx:Str=>x.cps.toList) h;simp[iS] at this;lia
theorem Dw {a b x y:Str} (h:(a++x)++b=(a++y)++b):x=y:=by
 have:=congrArg (λx:Str=>x.cps.toList) h
 have h1:(a.cps.toList++x.cps.toList)++b.cps.toList=(a.cps.toList++y.cps.toList)++b.cps.toList:=by
  have e:∀u v:Str,(u++v).cps.toList=u.cps.toList++v.cps.toList:=λu v=>by
   show (u.cps++v.cps).toList=_;simp
  simp only[e] at this;exact this
 have h2:=List.append_cancel_left (List.append_cancel_right h1);cases x;cases y;simp at h2;rw[h2]
theorem Gh {m many k j:Int} (hk:0<=k/\k<26) (hj:0<=j/\j<26) (h:nm m many k=nm m many j):k=j:=by
 unfold nm at h;split at h
 ·have:=congrArg Str.length h;rw[t7 _ rfl,t7 _ rfl] at this;lia
 ·unfold E7 at h;have:=DH 8#0 8#0 (Dw h);exact Au (m % 6) rfl 8#0 hk hj this
theorem mP {α:Type} (f:Int->α):∀(n:Nat) (lo:Int),(∀i j,lo<=i->i<lo+n->lo<=j->j<lo+n->f i=f j->i=j)->((bC lo n).map f).Nodup
 |0,_,_=>by simp[bC]
 |n+1,lo,h=>by
  simp only[bC,aav,aa8];refine⟨λhm=> ?_,mP f n (lo+1) λi j a b c d=>h i j 8#0 8#0 8#0 8#0⟩;let⟨x,hx,e⟩:=aaN.mp hm;have:=gA.mp hx;have:=h x lo 8#0 8#0 8#0 8#0 e;lia
theorem sL {P:Pg} (F:FG P) (n:Nat) (ns:2#Int) (z:Int) (s:aa) (c:Nat) (hc:c<=26) (z0:0<=z) (z1:z<2^60):
  ∃N:2#Str,0#N=c/\N.Nodup/\call P (n+2) 86 [bu ns, 3#0, 6#c] (.lst [6#z]::s)= .ok 3#(0#s+1) (.lst [6#(z+1)]::(s++[7#(N.map .str)])):=by
 rw[aq F.f86 _ _ _ rfl];unfold Gb;have q1:=bt F n ns z s z0 z1;have hr:=dz ns (z+1);generalize bD ns (z+1)=m at q1 hr;refine⟨(bC 0 c).map λk=>nm m c k,by simp,mP _ _ _ λi j a b c d e=>Gh 8#0 8#0 e, ?_⟩;let⟨y9,y10,e⟩:=pz (P:=P) (call P (n+1)) m c (s++[.lst [6#1, 6#3, 6#5, 6#7, 6#9, 6#11]]) (.lst [6#(z+1)]) 1#(bu ns) 1#3#0 c 0 [] none none (by simp;lia) 8#0;have t1:=λst=>kG (m/6 % 26) st 8#0 8#0;have t2:=λst=>kG (m/156 % 26) st 8#0 8#0;have t3:=λst=>z8 (m % 6) st 8#0 8#0
 have h1:(c:Int)<16777216:=by lia
 unfold mh at e;simp at e;simp[-kJ,-oy,q1,t1,t2,new,t3,h1];rw[show iS (m/6 % 26)++iS (m/156 % 26)=dR m from rfl,e];simp;refine(iN P z (z+1) s _ 1 _ _ rfl 8#37).trans ?_;rfl
open Classical in
theorem hR {α β:Type} {f:Val->aa->R 5#Val} {chk:2#(Nat×Ob)} {T:aa} {gV:α->Val} {hV:β->Val} {R:α->β->Prop} {d B:Int} (hd:0<=d) (hk:∀z,Kept chk (.lst [6#z]::T)) (hf:∀a z,0<=z->z<B->∃b,R a b/\f (gV a) (.lst [6#z]::T)= .ok 1#(hV b) (.lst [6#(z+d)]::T)):
  ∀(as:2#α) (z:Int),0<=z->z+d*0#as<B->∃bs,aU R as bs/\aE f chk (as.map gV) (.lst [6#z]::T)= .ok (bs.map hV) (.lst [6#(z+d*0#as)]::T)
 |[],z,_,_=>⟨[],trivial,by simp;exact bB (hk z)⟩
 |a::as,z,z0,hz=>by
  have hn:0<=d*(0#as:Int):=Int.mul_nonneg hd 8#0
  have e:d*(0#(a::as):Int)=d+d*0#as:=by
   simp[Int.mul_add];lia
  rw[e] at hz⊢;let⟨b,r,q⟩:=hf a z z0 8#0;let⟨bs,r2,q2⟩:=hR hd hk hf as (z+d) 8#0 8#0;refine⟨b::bs,⟨r,r2⟩, ?_⟩;show iff (Kept chk _) ((f (gV a) _).bind λo st=>(aE f chk (as.map gV) st).bind λr st=> .ok (fu o r) st)=_;rw[bB (hk z),q];show (aE f chk (as.map gV) (.lst [6#(z+d)]::T)).bind _=_;rw[q2];simp[Int.add_assoc]
def Bx.Ok (b:Bx):Prop:=(0<=b.w/\gZ b.w)/\0<=b.h/\(b.cold=0∨b.cold=1)/\0<=b.port
theorem mW {i:Int} (h:i.natAbs<10^60):gZ i:=Nat.lt_trans h 9#7
noncomputable def vM (i:Int):Str:=if i=0 then "dry" else if i=1 then "wet" else if i=2 then "hot" else "oil"
theorem MW (i:Int) (st:aa) (h0:0<=i) (h1:i<4):eQ (.lst [.str "dry", .str "wet", .str "hot", .str "oil"]) 6#i st= .ok (.str (vM i)) st:=by
 have:i=0∨i=1∨i=2∨i=3:=by lia
 rcases this with rfl|rfl|rfl|rfl<;>simp[vM]
theorem yC {P:Pg} (F:FG P) (n:Nat) (ns:2#Int) (z:Int) (s:aa) (x:Str) (z0:0<=z) (z1:z<2^60):
  ∃b:Bx,(b.name=x/\b.Ok)/\call P (n+2) 89 [bu ns, 3#0, .str x] (.lst [6#z]::s)= .ok (aP b) (.lst [6#(z+1)]::s):=by
 rw[aq F.f89 _ _ _ rfl];unfold FJ;have q1:=bt F n ns z s z0 z1;have hr:=dz ns (z+1);generalize bD ns (z+1)=m at q1 hr;have t:=λst=>MW (m % 4) st 8#0 8#0;refine⟨⟨x,m/4 % 12,m/48 % 9,if (m/432 % 4==0)=true then 1 else 0,vM (m % 4),m/1728 % 5⟩,⟨rfl,⟨by show 0<=m/4 % 12;lia,mW (by show (m/4 % 12).natAbs<_;lia)⟩,by show 0<=m/48 % 9;lia, ?_,by show 0<=m/1728 % 5;lia⟩, ?_⟩
 ·simp only;split<;>simp
 ·simp[-oy,q1,t,new];exact nN P z (z+1) s [7#_] (aP ⟨x,m/4 % 12,m/48 % 9,_,vM (m % 4),m/1728 % 5⟩) 8#7
theorem vS {N:2#Str} {Bs:2#Bx} {f:Bx->Prop} (h:aU (λx b=>b.name=x/\f b) N Bs):Bs.map (·.name)=N/\∀b∈Bs,f b:=by
 induction Bs generalizing N with
 |nil=>cases N with
  |nil=>simp
  |cons _ _=>exact h.elim
 |cons b Bs ih=>cases N with
  |nil=>exact h.elim
  |cons x N=>
   let⟨h1,h2⟩:=ih h.2;refine⟨by simp[h.1.1];simpa using h1,λc hc=> ?_⟩
   rcases aap.mp hc with rfl|hc
   ·exact h.1.2
   ·exact h2 c hc
theorem A6 {P:Pg} (F:FG P) (n:Nat) (ns:2#Int) (z:Int) (s:aa) (c:Nat) (hc:c<=26) (z0:0<=z) (z1:z<2^59):
  ∃(Bs:2#Bx) (z':Int),Bs.length=c/\(Bs.map (·.name)).Nodup/\(∀b∈Bs,b.Ok)/\z<=z'/\z'<=z+40/\call P (n+3) 90 [bu ns, 3#0, 6#c] (.lst [6#z]::s)= .ok 3#(0#s+1) (.lst [6#z']::(s++[7#(Bs.map aP)])):=by
 rw[aq F.f90 _ _ _ rfl];unfold F9;let⟨N,h1,h2,q1⟩:=sL F n ns z s c hc z0 8#0
 let⟨Bs,r,q2⟩:=hR (f:=Tn P (call P (n+2)) 1 [1,0] 4#0 none (.call 89 [4#2, 4#1, 4#0]) [1#(bu ns),1#3#0,1#6#c]) (chk:=[(0#s+1, 7#(N.map .str))]) (T:=s++[7#(N.map .str)]) (gV:=Val.str) (hV:=aP) (R:=λx b=>b.name=x/\b.Ok) (d:=1) (B:=2^60) 8#0 (λz p hp=>by
   simp at hp;subst hp
   simp) (λx z z0 z1=>by
   let⟨b,hb,q⟩:=yC F n ns z (s++[7#(N.map .str)]) x z0 z1
   exact⟨b,hb,by simp[Tn,aL,ax,q]⟩) N (z+1) 8#0 8#0
 let⟨a1,a2⟩:=vS r
 have hl:Bs.length=c:=by rw[←h1,←a1];simp
 have hN:0#N<=10000:=by lia
 refine⟨Bs,z+1+1*0#N,hl,by rw[a1];exact h2,a2,by lia,by lia, ?_⟩;simp[q1,q2,hN,T.low,new];refine(iN P z _ s [7#(N.map .str), 7#(Bs.map aP)] 1 _ _ rfl 8#37).trans ?_;rfl
theorem C6 (P:Pg) (z z':Int) (s:aa) (k:Nat) (hk:k<0#s+1):fin P (.lst [6#z]::s) 3#k (.lst [6#z']::s)= .ok 3#k (.lst [6#z']::s):=by
 have h:=mK z z' s [];simp at h;unfold fin;rw[if_pos h];simp[hk]
theorem rL {P:Pg} (F:FG P) (n:Nat) (ns:2#Int) (z:Int) (s:aa) (k:Nat) (Bs:2#Bx) (hk:s[k]?=1#7#(Bs.map aP)) (hl:Bs.length<=26) (ok:∀b∈Bs,b.Ok) (z0:0<=z) (z1:z<2^59):
  ∃(k':Nat) (z':Int) (g:aa) (Cs:2#Bx),(s++g)[k']?=1#7#(Cs.map aP)/\Cs.map (·.name)=Bs.map (·.name)/\(∀b∈Cs,b.Ok)/\z<=z'/\z'<=z+40/\call P (n+3) 97 [bu ns, 3#0, 3#(k+1)] (.lst [6#z]::s)= .ok 3#(k'+1) (.lst [6#z']::(s++g)):=by
 rw[aq F.f97 _ _ _ rfl];unfold HR;have q1:=bt F (n+1) ns z s z0 8#0;have hk1:k<0#s:=(aad.mp hk).1;simp[q1]
 cases hb:(bD ns (z+1) % 2==0) with
 |true=>
  simp;refine⟨k,z+1,[],Bs,by simpa using hk,rfl,ok,by lia,by lia, ?_⟩;rw[C6 P z (z+1) s (k+1) 8#0];simp
 |false=>
  let⟨Cs,r,q2⟩:=hR (f:=Tn P (call P (n+2)) 1 [1,0] 4#0 none (.bin .Add (.tup [.idx 4#0 8#32, .bin .Mod (.call 85 [4#2, 4#1, .ci 9]) (.bin .Pow (.ci 10) (.ci 30))]) (.slc 4#0 1#(.ci 2) none)) [1#(bu ns),1#3#0,1#3#(k+1)]) (chk:=[(k+1, 7#(Bs.map aP))]) (T:=s) (gV:=aP) (hV:=aP) (R:=λb c=>c.name=b.name/\(b.Ok->c.Ok)) (d:=1) (B:=2^60) 8#0 (λz p hp=>by
   simp at hp;subst hp
   simp[hk]) (λb z z0 z1=>by
   let⟨v,v0,v1,q⟩:=rH F n ns z s 9 8#0 8#0 z0 z1;refine⟨⟨b.name,v % 10^30,b.h,b.cold,b.sort,b.port⟩,⟨rfl,λh=>⟨⟨by show 0<=v % 10^30;lia,mW (by show (v % 10^30).natAbs<_;lia)⟩,h.2⟩⟩, ?_⟩
   simp[Tn,aL,ax,q,aP,rN,cut,bR]) Bs (z+1) 8#0 8#0
  have hn:Cs.map (·.name)=Bs.map (·.name)/\((∀b∈Bs,b.Ok)->∀c∈Cs,c.Ok):=by
   clear q2 hk hl ok
   induction Bs generalizing Cs with
   |nil=>cases Cs with
    |nil=>simp
    |cons _ _=>exact r.elim
   |cons b Bs ih=>cases Cs with
    |nil=>exact r.elim
    |cons c Cs=>
     let⟨h1,h2⟩:=ih Cs r.2;refine⟨by simp[r.1.1,h1],λh d hd=> ?_⟩
     rcases aap.mp hd with rfl|hd
     ·exact r.1.2 (h b 8#7)
     ·exact h2 (λe he=>h e (by simp[he])) d hd
  have hB:Bs.length<=10000:=by lia
  refine⟨0#s,z+1+1*Bs.length,[7#(Cs.map aP)],Cs,by simp,hn.1,hn.2 ok,by lia,by lia, ?_⟩;simp[hk,q2,hB,T.low,new];refine(iN P z _ s [7#(Cs.map aP)] 0 _ _ rfl 8#37).trans ?_;rfl
abbrev Pn:=Int×Int×Int
theorem mI:KOk aw where
 key a:=by simp[aw,bY,vp]
 eq a b:=by
  let⟨a1,a2,a3⟩:=a;let⟨b1,b2,b3⟩:=b;simp[aw];rw[aaZ];simp
 kt a b:=by simp[aw,kT]
noncomputable def bZ (D:2#(Pn×Int)) (a:Pn):Int:=((D.find? λp=>p.1=a).map (·.2)).getD 0
noncomputable def dput (D:2#(Pn×Int)) (a:Pn) (x:Int):2#(Pn×Int):=if a∈D.map (λp=>p.1) then D.map (λp=>if p.1=a then (p.1,x) else p) else D++[(a,x)]
theorem uJ (a:Pn) (x:Int):∀D:2#(Pn×Int),lX (aw a) 6#x (D.map λp=>aw p.1) (D.map λp=> 6#p.2)=(D.map (λp=>if p.1=a then (p.1,x) else p)).map λp=> 6#p.2
 |[]=>by simp[lX]
 |p::D=>by
  simp only[aav,lX];rw[uJ a x D,mI.eq]
  by_cases h:p.1=a<;>simp[h]
theorem El (a:Pn) (x:Int) (D:2#(Pn×Int)):putD (aw a) 6#x (D.map λp=>aw p.1) (D.map λp=> 6#p.2)=1#((dput D a x).map (λp=>aw p.1),(dput D a x).map λp=> 6#p.2):=by
 have e:(D.map λp=>aw p.1)=(D.map λp=>p.1).map aw:=by simp
 unfold putD;rw[uJ,e,nZ mI,←e];unfold dput
 by_cases h:a∈D.map (λp=>p.1)
 ·simp only[h,decide_true,ab5,ab9];congr 2;simp;intro a1 a2 a3 v _;split<;>simp[*]
 ·simp only[h,decide_false,abK,ab9];simp
set_option tactic.hygienic true in
theorem je (D:2#(Pn×Int)) (a b:Pn) (x:Int):bZ (dput D a x) b=if b=a then x else bZ D b:=by
 unfold dput;split
 ·rename_i h
  induction D with
  |nil=>simp at h
  |cons p D ih=>
   unfold bZ at ih⊢
   by_cases hp:p.1=a
   ·by_cases hb:b=a
    ·simp[hp,hb]
    ·have hb':¬p.1=b:=λe=>hb (by rw[←e,hp]);have hb'':¬a=b:=λe=>hb e.symm;simp only[aav,hp,ab5];rw[abV (by simp[hb'']),abV (by simp[hp,hb''])]
     by_cases hm:a∈D.map (λp=>p.1)
     ·exact ih hm
     ·have e:D.map (λp=>if p.1=a then (p.1,x) else p)=D:=by
       conv=>rhs;rw[←List.map_id D]
       refine List.map_congr_left λq hq=> ?_;rw[if_neg (λ(e:q.1=a)=>hm (aaN.mpr ⟨q,hq,e⟩))];rfl
      rw[e,if_neg hb]
   ·have hm:a∈D.map (λp=>p.1):=by
     rcases aap.mp h with e|e
     ·exact absurd e.symm hp
     ·exact e
    simp only[aav,hp,abK]
    by_cases hb:p.1=b
    ·have:¬b=a:=λe=>hp (hb.trans e);rw[List.find?_cons_of_pos (by simp[hb]),List.find?_cons_of_pos (by simp[hb]),if_neg this]
    ·rw[abV (by simp[hb]),abV (by simp[hb])];exact ih hm
 ·rename_i h;unfold bZ;rw[List.find?_append]
  by_cases hb:b=a
  ·subst hb
   have:D.find? (λp=>p.1=b)=none:=by
    rw[List.find?_eq_none];intro p hp e;exact h (aaN.mpr ⟨p,hp,by simpa using e⟩)
   rw[this];simp
  ·have:¬a=b:=λe=>hb e.symm;simp[this,hb]
theorem Ad (D:2#(Pn×Int)) (a:Pn) (x:Int):0#(dput D a x)<=0#D+1:=by
 unfold dput;split<;>simp
structure Pl (sh:Sh) (done:2#Bx) (D:2#(Pn×Int)) (L:8#8):Prop where
 len:0#D<=0#done
 top:∀p,0<=bZ D p
 inn:∀q∈L,(∃y,sh.sk? q.1.b q.1.k=1#y/\(q.1.d=0∨q.1.d=1)/\0<=q.1.t/\q.1.t<(y.pt q.1.d).c)/\q.1.t<bZ D (q.1.b,q.1.k,q.1.d)
 all:∀p:Pn,∀t:Int,0<=t->t<bZ D p->∃q∈L,q.1=⟨p.1,p.2.1,p.2.2,t⟩
 nod:(L.map λq=>q.1).Nodup
 sub:(L.map λq=>q.2).Sublist done
theorem Pl.nil (sh:Sh):Pl sh [] [] []:=⟨by simp,by simp[bZ],by simp,λp t h0 h1=>by simp[bZ] at h1;lia,by simp,by simp⟩
theorem Pl.skip {sh:Sh} {done:2#Bx} {D:2#(Pn×Int)} {L:8#8} (h:Pl sh done D L) (b:Bx):Pl sh (done++[b]) D L:=⟨by have:=h.len;simp;lia,h.top,h.inn,h.all,h.nod,h.sub.trans (List.sublist_append_left _ _)⟩
set_option tactic.hygienic true in
theorem Pl.put {sh:Sh} {done:2#Bx} {D:2#(Pn×Int)} {L:8#8} (h:Pl sh done D L) (b:Bx) (p:Pn) (y:Sk) (hy:sh.sk? p.1 p.2.1=1#y) (hd:p.2.2=0∨p.2.2=1) (ht:bZ D p<(y.pt p.2.2).c):
  Pl sh (done++[b]) (dput D p (bZ D p+1)) (L++[(⟨p.1,p.2.1,p.2.2,bZ D p⟩,b)]):=by
 have h0:=h.top p;refine⟨?_,λq=> ?_,λq hq=> ?_,λq t t0 t1=> ?_, ?_, ?_⟩
 ·have:=h.len;have:=Ad D p (bZ D p+1);simp;lia
 ·rw[je];split
  ·lia
  ·exact h.top q
 ·rcases aaC.mp hq with hq|hq
  ·let⟨h1,h2⟩:=h.inn q hq;refine⟨h1, ?_⟩;rw[je];split
   ·rename_i e;rw[e] at h2;lia
   ·exact h2
  ·simp at hq;subst hq;refine⟨⟨y,hy,hd,h0,ht⟩, ?_⟩;rw[je];simp;lia
 ·rw[je] at t1;split at t1
  ·rename_i e;subst e
   by_cases e:t=bZ D q
   ·subst e;exact⟨_,aaC.mpr (.inr (by simp;rfl)),rfl⟩
   ·let⟨r,hr,e2⟩:=h.all q t t0 8#0;exact⟨r,aaC.mpr (.inl hr),e2⟩
  ·let⟨r,hr,e2⟩:=h.all q t t0 t1;exact⟨r,aaC.mpr (.inl hr),e2⟩
 ·rw[ab8,abF];refine⟨h.nod,by simp,λc hc e he=> ?_⟩;simp at he;subst he;let⟨q,hq,e⟩:=aaN.mp hc;intro e2;rw[e2] at e;have:=(h.inn q hq).2;rw[e] at this;simp at this
 ·rw[ab8];exact List.Sublist.append h.sub 8#7
theorem Pl.ld {sh:Sh} {done:2#Bx} {D:2#(Pn×Int)} {L:8#8} (h:Pl sh done D L) (hl:0#done<64) (hn:(done.map (·.name)).Nodup):cy sh L:=by
 refine⟨?_,h.nod, ?_,λq hq=>(h.inn q hq).1,λq hq=> ?_⟩
 ·have:=h.sub.length_le;simp at this;lia
 ·have:=(h.sub.map (·.name)).nodup hn;rw[abb] at this;exact this
 ·let⟨⟨y,h1,h2,h3,h4⟩,h5⟩:=h.inn q hq
  by_cases e:q.1.t=0
  ·exact .inl e
  ·exact .inr (h.all (q.1.b,q.1.k,q.1.d) (q.1.t-1) 8#0 8#0)
noncomputable def Nk (t:T) (body:Env->aa->F) (chk:2#(Nat×Ob)) (vs:2#Val) (env:Env) (st:aa):F:=forL t body chk vs env st
open Classical in
theorem wX {t:T} {body:Env->aa->F} {chk:2#(Nat×Ob)} {v:Val} {env:Env} {st:aa} (hk:Kept chk st):forL t body chk (v::vs) env st=(F.aj st (t.put v env)).bind λenv st=>(body env st).turn (Nk t body chk vs):=fM hk
open Classical in
theorem BA {t:T} {body:Env->aa->F} {chk:2#(Nat×Ob)} {env:Env} {st:aa} (hk:Kept chk st):forL t body chk [] env st= .next env st:=fM hk
noncomputable def mH:2#S:=[.set 4#8 (.idx 4#6 (.bin .Mod 9#4 (.bi .len [4#6]))), .set 4#9 (.bm .get 4#4 [4#8, .ci 0]), .ife (.cmp .Lt 4#9 (.idx (.call 12 [4#2, 4#8]) 8#32)) [.fR 4#4 4#8 (.bin .Add 4#9 (.ci 1)), .expr (.bm .append 4#5 [.tup [.bin .Add 4#8 (.tup [4#9]), 4#7]])] []]
abbrev pA (s:aa) (sh:Sh) (z:Int) (D:2#(Pn×Int)) (L:8#8):aa:= .lst [6#z]::(s++[.dct (D.map λp=>aw p.1) (D.map λp=> 6#p.2), 7#8#33, 7#(sh.parts.map aw)])
abbrev xX (ns:2#Int) (s:aa) (sh:Sh) (k:Nat) (x7 x8 x9:5#Val):Env:=[1#(bu ns),1#3#0,1#(aR sh),1#3#(k+1),1#3#(0#s+1),1#3#(0#s+1+1),1#3#(0#s+2+1),x7,x8,x9]
theorem oE {P:Pg} (F:FG P) (n:Nat) (ns:2#Int) (s:aa) (sh:Sh) (hs:sh.Ok) (k:Nat) (Bs:2#Bx) (hk:s[k]?=1#7#(Bs.map aP)):
  ∀(rest done:2#Bx) (D:2#(Pn×Int)) (L:8#8) (z:Int) (x7 x8 x9:5#Val),Pl sh done D L->0#done+0#rest<=60->0<=z->z+0#rest<2^59->
  ∃D' L' z' y7 y8 y9,forL 4#7 (fL P (call P (n+4)) mH) [(k+1, 7#(Bs.map aP))] (rest.map aP) (xX ns s sh k x7 x8 x9) (pA s sh z D L)= .next (xX ns s sh k y7 y8 y9) (pA s sh z' D' L')/\Pl sh (done++rest) D' L'/\z<=z'/\z'<=z+0#rest
 |[],done,D,L,z,x7,x8,x9,h,_,_,_=>⟨D,L,z,x7,x8,x9,BA (λp hp=>by
  have hk1:k<0#s:=(aad.mp hk).1;simp at hp;subst hp
  simp[aaq hk1,hk]),by simpa using h,by lia,by simp⟩
 |b::rest,done,D,L,z,x7,x8,x9,h,hl,z0,z1=>by
  have hk1:k<0#s:=(aad.mp hk).1
  have hkept:Kept [(k+1, 7#(Bs.map aP))] (pA s sh z D L):=λp hp=>by
   simp at hp;subst hp;simp[aaq hk1,hk]
  rw[aav,wX hkept];have q1:=bt F (n+3) ns z (s++[.dct (D.map λp=>aw p.1) (D.map λp=> 6#p.2), 7#8#33, 7#(sh.parts.map aw)]) z0 (by simp at z1;lia);have np:0<0#sh.parts:=acO.mpr (AM hs);have r0:0<=bD ns (z+1) % (0#sh.parts:Int):=abD _ 8#0;have r1:bD ns (z+1) % (0#sh.parts:Int)<0#sh.parts:=abq _ 8#0;obtain⟨p,hp⟩:∃p,sh.parts[(bD ns (z+1) % (0#sh.parts:Int)).toNat]?=1#p:=⟨_,aac 8#0⟩;let⟨_,hp'⟩:=aad.mp hp;let⟨y,hy,hd⟩:=iy (aar hp);have q2:=fW F.toFPart (n+1) sh false p.1 p.2.1 p.2.2 y (pA s sh (z+1) D L) hy hd
  have q3:∀st,s8 (.dct (D.map λp=>aw p.1) (D.map λp=> 6#p.2)) [aw p, 6#0] st= .ok 6#(bZ D p) st:=λst=>by
   rw[sF,bB (mI.key p),ot mI Val.int p D];simp[bZ];cases List.find? (λq=>decide (q.1=p)) D<;>rfl
  have epv:aw p= .tup false [6#p.1, 6#p.2.1, 6#p.2.2]:=rfl;rw[←epv] at q2
  have hDl:0#D<10000:=by have:=h.len;simp at hl;lia
  have hLl:0#L<10000:=by have:=h.sub.length_le;simp at this hl;lia
  have ec:fI (y.pt p.2.2)= .tup false [6#(y.pt p.2.2).c, 6#(y.pt p.2.2).s, 6#(y.pt p.2.2).h, .tup true ((y.pt p.2.2).p.map .int), 6#(y.pt p.2.2).l]:=rfl;simp only[pA,ec] at q2;have q4:=El p (bZ D p+1) D;have q5:=mI.key p
  have q6:∀st,km (aw p) (.tup false [6#(bZ D p)]) st= .ok (av ⟨p.1,p.2.1,p.2.2,bZ D p⟩) st:=λst=>by simp[aw,av]
  have q7:∀st,res st (aw p)=aw p:=λst=>AI st _ 8#7;simp at hl z1
  by_cases ht:bZ D p<(y.pt p.2.2).c
  ·let⟨D',L',z',y7,y8,y9,e,h2,h3,h4⟩:=oE F n ns s sh hs k Bs hk rest (done++[b]) (dput D p (bZ D p+1)) (L++[(⟨p.1,p.2.1,p.2.2,bZ D p⟩,b)]) (z+1) 1#(aP b) 1#(aw p) 1#6#(bZ D p) (h.put b p y hy hd ht) (by simp;lia) 8#0 8#0;refine⟨D',L',z',y7,y8,y9, ?_,by simpa using h2,by lia,by simp;lia⟩;unfold mH at e⊢;simp only[pA,xX] at e⊢;simp[q1,r0,r1,np,hp,hp',cD,q3,-sF,q2,ht,hDl,hLl,q4,q5,q6,Nk];simp[aA] at e⊢;exact e
  ·let⟨D',L',z',y7,y8,y9,e,h2,h3,h4⟩:=oE F n ns s sh hs k Bs hk rest (done++[b]) D L (z+1) 1#(aP b) 1#(aw p) 1#6#(bZ D p) (h.skip b) (by simp;lia) 8#0 8#0;refine⟨D',L',z',y7,y8,y9, ?_,by simpa using h2,by lia,by simp;lia⟩;unfold mH at e⊢;simp only[pA,xX] at e⊢;simp[q1,r0,r1,np,hp,hp',cD,q3,-sF,q2,ht,Nk];exact e
theorem xP {P:Pg} (F:FG P) (n:Nat) (ns:2#Int) (s:aa) (sh:Sh) (hs:sh.Ok) (k:Nat) (Bs:2#Bx) (hk:s[k]?=1#7#(Bs.map aP)) (hl:Bs.length<=60) (hn:(Bs.map (·.name)).Nodup) (z:Int) (z0:0<=z) (z1:z<2^58):
  ∃(L:8#8) (z':Int),cy sh L/\(L.map λq=>q.2).Sublist Bs/\z<=z'/\z'<=z+60/\call P (n+5) 91 [bu ns, 3#0,aR sh, 3#(k+1)] (.lst [6#z]::s)= .ok 3#(0#s+1) (.lst [6#z']::(s++[7#8#33])):=by
 rw[aq F.f91 _ _ _ rfl];unfold Fy;have hk1:k<0#s:=(aad.mp hk).1;let⟨D',L,z',y7,y8,y9,e,h2,h3,h4⟩:=oE F n ns s sh hs k Bs hk Bs [] [] [] z none none none (Pl.nil sh) (by simp;lia) z0 8#0;refine⟨L,z',h2.ld (by simp;lia) (by simpa using hn),by simpa using h2.sub,h3,by lia, ?_⟩;have q1:=lE F.toFPart (n+3) sh hs (.lst [6#z]::(s++[.dct [] [], .lst []]))
 have hg:∀g:aa,(s++g)[k]?=1#7#(Bs.map aP):=λg=>by rw[aaq hk1,hk]
 unfold mH at e;simp only[pA,xX] at e;simp at e q1;simp[new,q1,hg];rw[e];simp;refine(iN P z z' s [_, 7#8#33,_] 1 _ _ rfl 8#37).trans ?_;rfl
def fP (b:By):Val:= .tup false [6#b.arm, 7#(b.sks.map cu)]
theorem xW (st:aa) (p:Pt):iC st (fI p) p:=⟨false,_,rfl, .inr rfl⟩
theorem Gq (st:aa) (y:Sk):fB st (cu y) y:=⟨false,_,_,rfl,xW st _,xW st _⟩
theorem DX (st:aa) (b:By):eL st (fP b) b:=⟨false,_,_,rfl, .inl rfl,by simpa using aU.map (R:=fB st) cu id (Gq st) b.sks⟩
theorem vj (st:aa) (bs:2#By):aU (eL st) (bs.map fP) bs:=by simpa using aU.map (R:=eL st) fP id (DX st) bs
theorem qJ (st:aa) (n x:Nat):∀(bs:2#By) (k:Nat),n<=k->x<k->(∀(j:Nat) (b:By),bs[j]?=1#b->st[k+j]?=1#(cx cu b))->aV st n x (bo k bs)=1#(bs.map fP)
 |[],_,_,_,_=>by simp
 |b::bs,k,hn,hx,h=>by
  have e:bo k (b::bs)= .tup false [6#b.arm, 3#k]::bo (k+1) bs:=by simp[bo]
  have h0:=h 0 b rfl
  have ih:=qJ st n x bs (k+1) 8#0 8#0 λj c hc=>by
   have:=h (j+1) c hc;rwa[show k+(j+1)=k+1+j by lia] at this
  have hr:(Val.ref k).aF st n x=1#7#(b.sks.map cu):=by
   simp at h0;simp only[Val.aF,Val.sub,js,h0,cx];rw[if_neg 8#0,if_neg 8#0,cw _ _ (aQ _ _ λa=>by simp)];rfl
  rw[e,ka,ih];simp[hr,fP]
def nJ (y y':Sk):Prop:=y'.hold=y.hold/\y'.deck=y.deck/\gZ y'.side
def fY (b c:By):Prop:=gZ c.arm/\aU nJ b.sks c.sks
noncomputable def oK:2#S:=[.expr (.bm .append 4#3 [.tup [.call 93 [4#0, 4#1], .comp 3 [1,0] (.tup [4#0, 4#1, 4#2]) (.val 4#5) none (.tup [.call 93 [4#4, 4#3], 4#1, 4#2])]])]
theorem qX {P:Pg} (F:FG P) (n:Nat) (ns:2#Int) (s:aa) (x2:5#Val):∀(rest bs:2#By) (z:Int) (x4 x5:5#Val),0#bs+0#rest<=20->(∀b∈rest,0#b.sks<=20)->0<=z->z+42*0#rest<2^58->
  ∃cs z' y4 y5,forL (.tup [4#4, 4#5]) (fL P (call P (n+3)) oK) [] (rest.map cV) [1#(bu ns),1#3#0,x2,1#3#(0#s+1),x4,x5] (.lst [6#z]::(s++ 7#(bo (0#s+2) bs)::bs.map (cx cu)))
   = .next [1#(bu ns),1#3#0,x2,1#3#(0#s+1),y4,y5] (.lst [6#z']::(s++ 7#(bo (0#s+2) (bs++cs))::(bs++cs).map (cx cu)))/\aU fY rest cs/\z<=z'/\z'<=z+42*0#rest
 |[],bs,z,x4,x5,_,_,_,_=>⟨[],z,x4,x5,by simp,trivial,by lia,by simp⟩
 |b::rest,bs,z,x4,x5,hl,hb,z0,z1=>by
  simp at hl z1;have hb0:=hb b 8#7;let⟨v,v1,q1⟩:=yq F n ns z (s++ 7#(bo (0#s+2) bs)::bs.map (cx cu)) z0 8#0
  let⟨ys,r,q2⟩:=hR (f:=Tn P (call P (n+3)) 3 [1,0] (.tup [4#0, 4#1, 4#2]) none (.tup [.call 93 [4#4, 4#3], 4#1, 4#2]) [1#(bu ns),1#3#0,x2,1#3#(0#s+1),1#6#b.arm,1#(.tup true (b.sks.map cu))]) (chk:=[]) (T:=s++ 7#(bo (0#s+2) bs)::bs.map (cx cu)) (gV:=cu) (hV:=cu) (R:=nJ) (d:=2) (B:=2^59) 8#0 (λz=>bA _) (λy z z0 z1=>by
   let⟨v,v1,q⟩:=yq F n ns z (s++ 7#(bo (0#s+2) bs)::bs.map (cx cu)) z0 z1
   exact⟨⟨v,y.hold,y.deck⟩,⟨rfl,rfl,mW (by show v.natAbs<_;lia)⟩,by simp[Tn,aL,ax,q,cu]⟩) b.sks (z+2) 8#0 8#0
  let⟨cs,z',y4,y5,e,h1,h2,h3⟩:=qX F n ns s x2 rest (bs++[⟨v,ys⟩]) (z+2+2*0#b.sks) 1#6#b.arm 1#(.tup true (b.sks.map cu)) (by simp;lia) (λc hc=>hb c (by simp[hc])) 8#0 8#0;refine⟨⟨v,ys⟩::cs,z',y4,y5, ?_,⟨⟨mW (by show v.natAbs<_;lia),r⟩,h1⟩,by lia,by simp;lia⟩
  have l:0#bs<10000:=by lia
  have l2:0#b.sks<=10000:=by lia
  unfold oK at e⊢;rw[pd,show 0#s+2+0#bs=0#s+(0#bs+1)+1 by lia] at e;simp[cx] at e;simp[cV,q1,q2,l2,T.low,lows,new,cD,l];simp[cx];exact e
theorem vU {s s':Sh} (h:aU fY s.bays s'.bays) {b k:Int} {y:Sk} (hy:s.sk? b k=1#y):∃y',s'.sk? b k=1#y'/\nJ y y':=by
 have g:∀{α β:Type} {R:α->β->Prop} {as:2#α} {bs:2#β} {i:Nat} {a:α},aU R as bs->as[i]?=1#a->∃b,bs[i]?=1#b/\R a b:=by
  intro α β R as
  induction as with
  |nil=>intro bs i a h e;simp at e
  |cons x as ih=>
   intro bs i a h e
   cases bs with
   |nil=>exact h.elim
   |cons y bs=>
    cases i with
    |zero=>simp at e;subst e;exact⟨y,rfl,h.1⟩
    |succ i=>simp at e;have:=ih (bs:=bs) (i:=i) h.2 e;simpa using this
 let⟨b0,k0,z,e1,e2,_,_⟩:=fF hy;let⟨c,f1,f2⟩:=g h e1;let⟨y',f3,f4⟩:=g f2.2 e2;refine⟨y', ?_,f4⟩;unfold Sh.sk?;rw[if_pos ⟨b0,k0⟩,f1];exact f3
theorem r9 {s s':Sh} (h:aU fY s.bays s'.bays):s'.gX:=by
 have g1:∀{as bs:2#Sk},aU nJ as bs->∀y∈bs,gZ y.side:=by
  intro as
  induction as with
  |nil=>intro bs h y hy;cases bs with
   |nil=>simp at hy
   |cons _ _=>exact h.elim
  |cons a as ih=>intro bs h y hy;cases bs with
   |nil=>simp at hy
   |cons b bs=>
    rcases aap.mp hy with rfl|hy
    ·exact h.1.2.2
    ·exact ih h.2 y hy
 have g2:∀{as bs:2#By},aU fY as bs->∀b∈bs,gZ b.arm/\∀y∈b.sks,gZ y.side:=by
  intro as
  induction as with
  |nil=>intro bs h y hy;cases bs with
   |nil=>simp at hy
   |cons _ _=>exact h.elim
  |cons a as ih=>intro bs h y hy;cases bs with
   |nil=>simp at hy
   |cons b bs=>
    rcases aap.mp hy with rfl|hy
    ·exact⟨h.1.1,g1 h.1.2⟩
    ·exact ih h.2 y hy
 exact g2 h
theorem DQ {as bs:2#By} (h:aU fY as bs) (ha:∀b∈as,b.Ok):∀b∈bs,b.Ok:=by
 have g1:∀{as bs:2#Sk},aU nJ as bs->(∀y∈as,y.Ok)->∀y∈bs,y.Ok:=by
  intro as
  induction as with
  |nil=>intro bs h _ y hy;cases bs with
   |nil=>simp at hy
   |cons _ _=>exact h.elim
  |cons a as ih=>intro bs h ha y hy;cases bs with
   |nil=>simp at hy
   |cons b bs=>
    rcases aap.mp hy with rfl|hy
    ·have:=ha a 8#7;exact⟨by rw[h.1.1];exact this.1,by rw[h.1.2.1];exact this.2⟩
    ·exact ih h.2 (λc hc=>ha c (by simp[hc])) y hy
 induction as generalizing bs with
 |nil=>cases bs with
  |nil=>simp
  |cons _ _=>exact h.elim
 |cons a as ih=>cases bs with
  |nil=>simp
  |cons b bs=>
   intro c hc
   rcases aap.mp hc with rfl|hc
   ·have:=ha a 8#7;have l:=h.1.2.len;refine⟨λe=>this.1 ?_,by have:=this.2.1;lia,g1 h.1.2 this.2.2⟩;rw[e] at l;exact abg.mp l
   ·exact ih h.2 (λd hd=>ha d (by simp[hd])) c hc
theorem zG {P:Pg} (F:FG P) (n:Nat) (ns:2#Int) (s:aa) (sh:Sh) (hs:sh.Ok) (z:Int) (z0:0<=z) (z1:z<2^57):
  ∃(bs:2#By) (z':Int),aU fY sh.bays bs/\z<=z'/\z'<=z+840/\call P (n+4) 94 [bu ns, 3#0,aR sh] (.lst [6#z]::s)= .ok 3#(0#s+1) (.lst [6#z']::(s++[7#(bs.map fP)])):=by
 rw[aq F.f94 _ _ _ rfl];unfold HK;have hl:0#sh.bays<=20:=hs.2.1;let⟨bs,z',y4,y5,e,h1,h2,h3⟩:=qX F n ns s 1#(aR sh) sh.bays [] z none none (by simp;lia) (λb hb=>(hs.2.2.2.1 b hb).2.1) z0 8#0;refine⟨bs,z',h1,h2,by lia, ?_⟩;unfold oK at e;simp at e;simp[new,cK F.toFShip];rw[e];simp;refine(iN P z z' s (7#(bo (0#s+2) bs)::bs.map (cx cu)) 0 _ (bs.map fP) rfl (qJ _ _ _ bs (0#s+2) 8#0 8#0 λj b hj=> ?_)).trans ?_
 ·rw[show 0#s+2+j=0#s+(j+1)+1 by lia];simp[hj]
 ·rfl
theorem vn:∀(xs:2#Int) (a:Int),iF a (xs.map .int)=1#(a+xs.sum)
 |[],a=>by simp
 |x::xs,a=>by simp[vn xs,Int.add_assoc]
theorem A8 {α:Type} (f:α->Int) (xs:2#α):iF 0 (xs.map λa=> 6#(f a))=1#(xs.map f).sum:=by
 have:=vn (xs.map f) 0;rw[abb] at this;simp at this;exact this
theorem kB {P:Pg} (F:FG P) (n:Nat) (s:Sh) (hb:s.gX) (L:8#8) (h:dO s L) (hl:0#L<=10000) (v:Val) (st:aa) (hv:res st v= 7#(L.map aA)):call P (n+1) 95 [aR s,v] st= .ok (bI s L) st:=by
 rw[aq F.f95 _ _ _ rfl];unfold FQ;let⟨c1,w1,k1,_⟩:=fe (.inl hv);have hv2:=eZ (g:=[7#(L.map λp=> 6#p.2.w)]) hv;let⟨c2,w2,k2,_⟩:=fe (.inl hv2);have hv3:=eZ (g:=[7#(L.map λp=> 6#p.2.w), 7#(L.map λp=> 6#(p.2.w*bV s p.1))]) hv;let⟨c3,w3,k3,_⟩:=fe (.inl hv3)
 have q1:∀env,aE (Tn P (call P n) 2 [] (.tup [4#0, 4#1]) none (.idx 4#1 (.ci 1)) env) c1 8#33 st= .ok (L.map λp=> 6#p.2.w) st:=λenv=>comp_map k1 _ _ _ λp _=>by simp[Tn,aL,ax,aA,aP]
 have q2:∀x1 x2 x3 x4,aE (Tn P (call P n) 2 [0] (.tup [4#0, 4#1]) none (.bin .Mult (.idx 4#1 (.ci 1)) (.idx (.idx (.fld 4#2 "bays") (.idx 4#0 8#32)) 8#32)) [1#(aR s),x1,x2,x3,x4]) c2 8#33 (st++[7#(L.map λp=> 6#p.2.w)])= .ok (L.map λp=> 6#(p.2.w*bV s p.1)) (st++[7#(L.map λp=> 6#p.2.w)]):=λx1 x2 x3 x4=>comp_map k2 _ _ _ λp hp=>by
  let⟨⟨y,h1⟩,h2,h3⟩:=h p hp;let⟨b0,k0,z,e1,e2,b1,_⟩:=fF h1;let⟨_,e1'⟩:=aad.mp e1
  have ea:bV s p.1=z.arm:=by simp[bV,e1]
  have hm:=λst=>jy p.2.w z.arm st h3 (ea▸(sj hb p.1).1);simp[Tn,aL,ax,aA,aP,av,cK F.toFShip,b0,b1,e1,e1',cV,hm,ea]
 have q3:∀x1 x2 x3 x4,aE (Tn P (call P n) 2 [0] (.tup [4#0, 4#1]) none (.bin .Mult (.idx 4#1 (.ci 1)) (.idx (.idx (.idx (.idx (.fld 4#2 "bays") (.idx 4#0 8#32)) (.ci 1)) (.idx 4#0 (.ci 1))) 8#32)) [1#(aR s),x1,x2,x3,x4]) c3 8#33 (st++[7#(L.map λp=> 6#p.2.w), 7#(L.map λp=> 6#(p.2.w*bV s p.1))])= .ok (L.map λp=> 6#(p.2.w*bP s p.1)) (st++[7#(L.map λp=> 6#p.2.w), 7#(L.map λp=> 6#(p.2.w*bV s p.1))]):=λx1 x2 x3 x4=>comp_map k3 _ _ _ λp hp=>by
  let⟨⟨y,h1⟩,h2,h3⟩:=h p hp;let⟨b0,k0,z,e1,e2,b1,kk⟩:=fF h1;let⟨_,e1'⟩:=aad.mp e1;let⟨_,e2'⟩:=aad.mp e2
  have ea:bP s p.1=y.side:=by simp[bP,h1]
  have hm:=λst=>jy p.2.w y.side st h3 (ea▸(sj hb p.1).2);simp[Tn,aL,ax,aA,aP,av,cK F.toFShip,b0,b1,k0,kk,e1,e1',e2,e2',cV,cu,hm,ea]
 simp[w1,w2,w3,q1,q2,q3,hl,T.low,lows,A8];exact eV P st _ (bI s L) (by simp[bI])
theorem sC {P:Pg} (F:FG P) (n:Nat) (m x:Int) (st:aa):∃v:Int,(0<=v/\v<=x.natAbs+1)/\call P (n+1) 96 [6#m, 6#x] st= .ok 6#v st:=by
 rw[aq F.f96 _ _ _ rfl];unfold FZ
 have h0:0<=m % 6:=by lia
 have h1:m % 6<6:=by lia
 generalize hw:[(x.natAbs:Int),x.natAbs-1,x.natAbs+1,x,0,(x.natAbs:Int)/2].getD (m % 6).toNat 0=v;have e:=λst=>Bd [(x.natAbs:Int),x.natAbs-1,x.natAbs+1,x,0,(x.natAbs:Int)/2] (m % 6) st h0 h1;rw[hw] at e
 have hv:v∈[(x.natAbs:Int),x.natAbs-1,x.natAbs+1,x,0,(x.natAbs:Int)/2]:=by
  rw[←hw,aaw,aac (by simp;lia)];exact List.getElem_mem _
 have hb:v<=x.natAbs+1:=by
  simp only[aap,abz,acR] at hv;lia
 have f:∀v g,fin P st 6#v (st++g)= .ok 6#v st:=λv g=>eV P st g _ 8#7;simp only[aav,acd] at e;simp[new,e,f];split<;>lia
theorem zN {P:Pg} (h92:P.fn 92=1#vz) (n:Nat) (f f':Bool) (a b c:Int) (st:aa):call P (n+2) 92 [.tup f [6#a, 6#b, 6#c], .tup f' [6#a, 6#b, 6#c]] st= .ok (.bl true) st:=by
 have q:∀a,call P (n+1) 92 [6#a, 6#a] st= .ok (.bl true) st:=λa=>by
  rw[aq h92 _ _ _ rfl];unfold vz;simp
 have hc:∀env,aE (Tn P (call P (n+1)) 2 [] (.tup [4#0, 4#1]) none (.call 92 [4#0, 4#1]) env) [] [.tup false [6#a, 6#a], .tup false [6#b, 6#b], .tup false [6#c, 6#c]] st= .ok [.bl true, .bl true, .bl true] st:=λenv=>fJ (bA st) ⟨by simp[Tn,aL,ax,q],by simp[Tn,aL,ax,q],by simp[Tn,aL,ax,q],trivial⟩;rw[aq h92 _ _ _ rfl];unfold vz;simp[eJ,hc,T.low,lows];exact eV P st [7#_] _ 8#7
theorem ui {s s':Sh} (h:aU fY s.bays s'.bays) {L:8#8} (hl:cy s L):cy s' L:=by
 let⟨h1,h2,h3,h4,h5⟩:=hl;refine⟨h1,h2,h3,λp hp=> ?_,h5⟩;let⟨y,a1,a2,a3,a4⟩:=h4 p hp;let⟨y',b1,b2⟩:=vU h a1;refine⟨y',b1,a2,a3, ?_⟩
 have:y'.pt p.1.d=y.pt p.1.d:=by unfold Sk.pt;rw[b2.1,b2.2.1]
 rw[this];exact a4
theorem Ci {s:Sh} {L:8#8} {Bs:2#Bx} (hl:cy s L) (hs:(L.map λq=>q.2).Sublist Bs) (ok:∀b∈Bs,b.Ok):dO s L:=λp hp=>by
 let⟨y,a1,a2,_,_⟩:=hl.2.2.2.1 p hp;exact⟨⟨y,a1⟩,a2,kC (ok p.2 (hs.subset (aaN.mpr ⟨p,hp,rfl⟩))).1.2⟩
theorem rq {k:Nat}:∀{as bs:2#By},aU fY as bs->(∀b∈as,0#b.sks<=k)->∀b∈bs,0#b.sks<=k
 |[],[],_,_=>by simp
 |a::as,b::bs,⟨h,r⟩,ha=>λc hc=>by
  rcases aap.mp hc with rfl|hc
  ·rw[←h.2.len];exact ha a 8#7
  ·exact rq r (λd hd=>ha d (by simp[hd])) c hc
theorem A2 {s:Sh} {k:Nat} {c:Int} (h:∀b∈s.bays,0#b.sks<=k/\∀y∈b.sks,y.hold.c<=c/\y.deck.c<=c) {L:8#8} (l:cy s L):∀p∈L,p.1.t<c:=λp hp=>by
 let⟨y,e,hd,t0,t1⟩:=l.2.2.2.1 p hp;let⟨_,_,z,e1,e2,_,_⟩:=fF e;have:=(h z (aar e1)).2 y (aar e2);unfold Sk.pt at t1;split at t1<;>lia
structure Wd (sh:Sh) (L:8#8) (c:Nat):Prop where
 sks:∀b∈sh.bays,0#b.sks<=3
 len:0#L<=c
 tr:∀p∈L,p.1.t<3
 w:∀p∈L,gZ p.2.w
 trim:sh.trim<=(dv sh L).natAbs+1
 heel:sh.heel<=(dB sh L).natAbs+1
theorem wD {P:Pg} (F:FG P) (n:Nat) (ns:2#Int) (s:aa) (c:Nat) (hc:c<=26) (z:Int) (z0:0<=z) (z1:z<2^50):
  ∃(sh:Sh) (L:8#8) (z':Int),sh.Ok/\sh.gX/\cy sh L/\dO sh L/\Wd sh L c/\z<=z'/\z'<=z+1100/\call P (n+8) 98 [bu ns, 3#0, 6#c] (.lst [6#z]::s)= .ok (.tup false [aR sh, 7#8#33]) (.lst [6#z']::s):=by
 rw[aq F.f98 _ _ _ rfl];unfold GF;let⟨sh0,y1,o1,_,o2,_,a1,a2,e1⟩:=tH F n ns s z 3 3 3 8#0 8#0 8#0 8#0 8#0 z0 8#0;let⟨bs,y2,r2,a3,a4,e2⟩:=zG F (n+3) ns s sh0 o1 y1 8#0 8#0;let⟨Bs,y3,l3,d3,k3,a5,a6,e3⟩:=A6 F (n+4) ns y2 (s++[7#(bs.map fP)]) c hc 8#0 8#0;let⟨k',y4,g,Cs,h4,n4,k4,a7,a8,e4⟩:=rL F (n+4) ns y3 (s++[7#(bs.map fP)]++[7#(Bs.map aP)]) 0#(s++[Ob.lst (bs.map fP)]) Bs 8#7 8#0 k3 8#0 8#0
 have hCl:Cs.length=c:=by have:=congrArg List.length n4;simpa[l3] using this
 let⟨L,y5,l5,u5,a9,a10,e5⟩:=xP F (n+2) ns (s++[7#(bs.map fP)]++[7#(Bs.map aP)]++g) sh0 o1 k' Cs h4 8#0 (by rw[n4];exact d3) y4 8#0 8#0;obtain⟨W,hW⟩:∃W,W=s++[7#(bs.map fP)]++[7#(Bs.map aP)]++g:=⟨_,rfl⟩
 have hWG:W=s++(7#(bs.map fP):: 7#(Bs.map aP)::g):=by rw[hW];simp
 have hB:∀h:aa,(W++h)[0#s]?=1#7#(bs.map fP):=λh=>by rw[hWG];simp
 rw[←hW] at e4 e5;have hsame:∀f t h,aU fY sh0.bays (Sh.mk bs f t h).bays:=λf t h=>r2;have okB:=DQ r2 o1.2.2.2.1;have lB:0#bs=0#sh0.bays:=r2.len.symm;have neB:bs≠[]:=λe=>o1.1 (by rw[e] at lB;exact abg.mp lB.symm)
 have lB2:0#bs<=20:=by rw[lB];exact o1.2.1
 have ok0:(Sh.mk bs [] 0 0).Ok:=⟨neB,lB2,by simp,okB,by simp,by simp⟩;have big0:(Sh.mk bs [] 0 0).gX:=r9 (hsame _ _ _);have ld0:=ui (hsame [] 0 0) l5;have ce0:=Ci ld0 u5 k4;have e6:=oh F.toFShip (n+1) (Sh.mk bs [] 0 0) (.lst [6#y5]::(W++[7#8#33, .lst []])) 3#(0#s+1) 3#(0#W+1+1) (bs.map fP) (.inl (by simp[hB])) (vj _ _) 8#7 ok0;have e7:=kB F (n+6) (Sh.mk bs [] 0 0) big0 L ce0 (by have:=l5.1;lia) 3#(0#W+1) (.lst [6#y5]::(W++[7#8#33, .lst []])) 8#7;have e8:=bt F (n+6) ns y5 (W++[7#8#33, .lst []]) 8#0 8#0;let⟨t,⟨t0,t1⟩,e9⟩:=sC F (n+6) (bD ns (y5+1)) (dv (Sh.mk bs [] 0 0) L) (.lst [6#(y5+1)]::(W++[7#8#33, .lst [], 7#(sh0.foes.map de)]));let⟨h,⟨h0,h1⟩,e10⟩:=sC F (n+6) (bD ns (y5+1)/6) (dB (Sh.mk bs [] 0 0) L) (.lst [6#(y5+1)]::(W++[7#8#33, .lst [], 7#(sh0.foes.map de)]));have B1:(Sh.mk bs sh0.foes t h).Ok:=⟨neB,lB2,o1.2.2.1,okB,t0,h0⟩;have e11:=oh F.toFShip (n+1) (Sh.mk bs sh0.foes t h) (.lst [6#(y5+1)]::(W++[7#8#33, .lst [], 7#(sh0.foes.map de)])) 3#(0#s+1) 3#(0#W+2+1) (bs.map fP) (.inl (by simp[hB])) (vj _ _) 8#7 B1;have ldS:=ui (hsame sh0.foes t h) l5;refine⟨Sh.mk bs sh0.foes t h,L,y5+1,B1,r9 (hsame _ _ _),ldS,Ci ldS u5 k4,⟨rq r2 λb hb=>(o2 b hb).1,by have:=u5.length_le;simp at this;lia,A2 o2 l5,λp hp=>(k4 p.2 (u5.subset (aaN.mpr ⟨p,hp,rfl⟩))).1.2,t1,h1⟩,by lia,by lia, ?_⟩;simp only[bI] at e7;simp at e1 e2 e3 e4 e6 e11;simp[e1,e2,e3,e4,e5,new,e6,e7,e8,Ai F.toFShip,e9,e10,e11];obtain⟨G,hG⟩:∃G:aa,G= 7#(bs.map fP):: 7#(Bs.map aP)::g:=⟨_,rfl⟩;rw[←hG] at hWG;have hz:=tJ z (y5+1) s (G++[7#8#33, .lst [], 7#(sh0.foes.map de)]) 0#G 8#33 8#7 (aQ _ _ λp=>by simp);have hf:=uN P z (y5+1) s (G++[7#8#33, .lst [], 7#(sh0.foes.map de)]) (.tup false [aR (Sh.mk bs sh0.foes t h), 3#(0#s+1+0#G)]) (.tup false [aR (Sh.mk bs sh0.foes t h), 7#8#33]) rfl (by rw[DM,ka,jb _ _ _ _ 8#7,ka,hz];simp)
 rw[hWG];rw[show 0#(s++G)+1=0#s+1+0#G by simp;lia];rw[ac1];exact hf
def ren (q:Str×(Cell×Bx)):Cell×Bx:=(q.2.1,{q.2.2 with name:=q.1})
theorem wJ:∀(N:2#Str) (L:8#8),eJ (N.map .str) 8#33=(N.zip L).map λq=> .tup false [.str q.1,aA q.2]
 |[],_=>rfl
 |_::_,[]=>rfl
 |x::N,p::L=>by simp[eJ,wJ N L]
theorem uK {α β:Type}:∀(N:2#α) (L:2#β),0#L<=0#N->(N.zip L).map (λq=>q.2)=L
 |_,[],_=>by simp
 |[],_::_,h=>by simp at h
 |x::N,p::L,h=>by simp[uK N L (by simpa using h)]
theorem uw {α β:Type}:∀(N:2#α) (L:2#β),(N.zip L).map (λq=>q.1)=N.take 0#L
 |_,[]=>by simp
 |[],_::_=>by simp
 |x::N,p::L=>by simp[uw N L]
def cI (N:2#Str) (L:8#8):2#(Cell×Bx):=(N.zip L).map ren
theorem pq {N:2#Str} {L:8#8} (h:0#L<=0#N):(cI N L).map (λp=>p.1)=L.map λp=>p.1:=by
 have:=congrArg (List.map λp:Cell×Bx=>p.1) (uK N L h);rw[abb] at this;unfold cI;rw[abb];exact this
theorem pG {N:2#Str} {L:8#8}:(cI N L).map (λp=>p.2.name)=N.take 0#L:=by
 rw[←uw N L];unfold cI;rw[abb];rfl
theorem kD {N:2#Str} {L:8#8} {q:Cell×Bx} (h:q∈cI N L):∃p∈L,q.1=p.1/\q.2.w=p.2.w:=by
 let⟨r,hr,rfl⟩:=aaN.mp h;exact⟨r.2,(acF hr).2,rfl,rfl⟩
theorem Eo {N:2#Str} {L:8#8} (h:0#L<=0#N) {p:Cell×Bx} (hp:p∈L):∃q∈cI N L,q.1=p.1:=by
 have:p.1∈(cI N L).map λp=>p.1:=by rw[pq h];exact aaN.mpr ⟨p,hp,rfl⟩
 let⟨q,hq,e⟩:=aaN.mp this;exact⟨q,hq,e⟩
theorem FP {s:Sh} {N:2#Str} {L:8#8} (h:cy s L) (hl:0#L<=0#N) (hn:N.Nodup):cy s (cI N L):=by
 let⟨h1,h2,h3,h4,h5⟩:=h;refine⟨by unfold cI;simp;lia,by rw[pq hl];exact h2,by rw[pG];exact hn.sublist (List.take_sublist _ _),λq hq=> ?_,λq hq=> ?_⟩
 ·let⟨p,hp,e,_⟩:=kD hq;rw[e];exact h4 p hp
 ·let⟨p,hp,e,_⟩:=kD hq;rw[e]
  rcases h5 p hp with z|⟨r,hr,e2⟩
  ·exact .inl z
  ·let⟨r',hr',e3⟩:=Eo hl hr;exact .inr ⟨r',hr',e3.trans e2⟩
theorem FN {s:Sh} {N:2#Str} {L:8#8} (h:dO s L):dO s (cI N L):=λq hq=>by
 let⟨p,hp,e,e2⟩:=kD hq;rw[e,e2];exact h p hp
theorem AS {P:Pg} (cl:ar) (N:2#Str) (L:8#8) (chk:2#(Nat×Ob)) (st:aa) (hk:Kept chk st) (env:Env):aE (Tn P cl 3 [] (.tup [4#0, .tup [4#1, 4#2]]) none (.tup [4#1, .bin .Add (.tup [4#0]) (.slc 4#2 1#(.ci 1) none)]) env) chk (eJ (N.map .str) 8#33) st= .ok ((cI N L).map aA) st:=by
 unfold cI;rw[wJ,abb];refine comp_map hk _ _ _ λq _=> ?_;simp[Tn,aL,ax,aA,aP,ren,cut,bR]
structure FX (P:Pg):Prop extends FG P where
 f10:P.fn 10=1#AW
 f11:P.fn 11=1#oq
 f39:P.fn 39=1#zW
 f92:P.fn 92=1#vz
 f100:P.fn 100=1#B0
 f101:P.fn 101=1#vt
 f102:P.fn 102=1#vD
 f103:P.fn 103=1#BR
 f104:P.fn 104=1#BY
 c4:((P.cl 4).map (·.init))=1#none
 s4:gE P 4 4=true
 i4:((P.cl 4).bind λk=>if k.sup=[] then none else 1#(k.sup.contains 1000))=1#true
 i0:((P.cl 4).bind λk=>if k.sup=[] then none else 1#(k.sup.contains 0))=1#true
 m4:((P.cl 4).bind λk=>if k.exc=true/\¬k.sup=[] then 1#([6,3,17,1,2,5].any λc=>k.sup.contains c) else none)=1#false
theorem mq (s:Sh) (L:8#8) (c:Cell) (b:Bx):bI s (L++[(c,b)])= .tup false [6#(dY L+b.w), 6#(dv s L+b.w*bV s c), 6#(dB s L+b.w*bP s c)]:=by
 simp[bI,dY,dv,dB]
theorem Al {P:Pg} (F:FX P) (n:Nat) (s:Sh) (hb:s.gX) (L:8#8) (h:dO s L) (c:Cell) (y:Sk) (hy:s.sk? c.b c.k=1#y) (hd:c.d=0∨c.d=1) (b:Bx) (hw:big b.w) (st:aa):call P (n+6) 100 [bG s L,av c,aP b] st= .ok (bI s (L++[(c,b)])) st:=by
 rw[aq F.f100 _ _ _ rfl];unfold B0;have q1:=gf F.toFMom n s hb L h st;have q2:=n9 F.toFMom (n+1) s hb false c y (dY L) (dv s L) (dB s L) b.w hw st hy hd;simp only[bI] at q1;simp[gN F.toFLoad,q1,q2,aP,mq]
theorem GZ {P:Pg} (F:FX P) (n:Nat) (s:Sh) (hb:s.gX) (L:8#8) (h:dO s L) (c:Cell) (b:Bx) (hc:eF L c=1#b) (y:Sk) (hy:s.sk? c.b c.k=1#y) (hd:c.d=0∨c.d=1) (hw:big b.w) (st:aa):
  call P (n+6) 101 [bG s L,av c] st= .ok (.tup false [6#(dY L+ -b.w), 6#(dv s L+ -b.w*bV s c), 6#(dB s L+ -b.w*bP s c)]) st:=by
 rw[aq F.f101 _ _ _ rfl];unfold vt;have q0:=iA F.toFLoad (n+4) s L (bG s L) c st 8#7;rw[hc] at q0;have q1:=gf F.toFMom n s hb L h st;have q2:=n9 F.toFMom (n+1) s hb false c y (dY L) (dv s L) (dB s L) (-b.w) (by unfold big at*;lia) st hy hd;simp only[bI] at q1;simp[oV] at q0;simp[q0,aP,gN F.toFLoad,q1,q2]
theorem G9 {P:Pg} (F:FX P) (n:Nat) (s:Sh) (L:8#8) (c:Cell) (hc:eF L c=none) (st:aa):call P (n+2) 101 [bG s L,av c] st= .exc ⟨4,[],[]⟩ st:=by
 rw[aq F.f101 _ _ _ rfl];unfold vt;have q0:=iA F.toFLoad n s L (bG s L) c st 8#7;rw[hc] at q0
 have fx:oG st ⟨4,[],[]⟩ st= .exc ⟨4,[],[]⟩ st:=by
  unfold oG;rw[if_pos (sP st)];simp
 simp[oV] at q0;simp[q0];simp[S.run,F.c4,fx]
theorem GX {P:Pg} (F:FX P) (n:Nat) (s:Sh) (hb:s.gX) (L:8#8) (h:dO s L) (c:Cell) (b:Bx) (hc:eF L c=1#b) (y:Sk) (hy:s.sk? c.b c.k=1#y) (hd:c.d=0∨c.d=1) (hw:big b.w) (st:aa):
  call P (n+7) 102 [bG s L,av c] st= .ok (.tup false [6#(dY L+ -b.w), 6#(dv s L+ -b.w*bV s c), 6#(dB s L+ -b.w*bP s c)]) st:=by
 rw[aq F.f102 _ _ _ rfl];unfold vD;have q:=GZ F n s hb L h c b hc y hy hd hw st;have ht:∀b c x h env st,S.run P (call P (n+6)) (.try_ b c x h) env st=(aD P (call P (n+6)) b env st).mG P c x λenv st=>aD P (call P (n+6)) h env st:=λ_ _ _ _ _ _=>rfl;simp[ht,q]
theorem zm {P:Pg} {k c:Nat} {b:Bool} (h:((P.cl k).bind λx=>if x.sup=[] then none else 1#(x.sup.contains c))=1#b) (ns:2#Str) (vs:2#Val) (st:aa):wA P c (.obj k ns vs) st= .ok (.bl b) st:=by
 let⟨x,e,h⟩:=aak.mp h;show R.aj ((P.cl k).bind λk=>if k.sup=[] then none else 1#(Val.bl (k.sup.contains c))) st=_;rw[e]
 by_cases q:x.sup=[]
 ·rw[if_pos q] at h;cases h
 ·rw[if_neg q] at h;cases h;simp[q]
theorem Hb {P:Pg} {k:Nat} {cs:2#Nat} {b:Bool} (h:((P.cl k).bind λx=>if x.exc=true/\¬x.sup=[] then 1#(cs.any λc=>x.sup.contains c) else none)=1#b) (ns:2#Str) (vs:2#Val) (st:aa):vE P cs (.obj k ns vs) st= .ok (.bl b) st:=by
 let⟨x,e,h⟩:=aak.mp h;show R.aj ((P.cl k).bind λk=>if k.exc=true/\¬k.sup=[] then 1#(Val.bl (cs.any λc=>k.sup.contains c)) else none) st=_;rw[e]
 by_cases q:x.exc=true/\¬x.sup=[]
 ·rw[if_pos q] at h;cases h;simp[q]
 ·rw[if_neg q] at h;cases h
theorem Fz {P:Pg} (F:FX P) (n:Nat) (s:Sh) (L:8#8) (c:Cell) (hc:eF L c=none) (st:aa):call P (n+3) 102 [bG s L,av c] st= .ok 3#0#st (st++[.lst [.str "no box", .bl true, .bl false]]):=by
 rw[aq F.f102 _ _ _ rfl];unfold vD;have q:=G9 F n s L c hc st;have ht:∀b c x h env st,S.run P (call P (n+2)) (.try_ b c x h) env st=(aD P (call P (n+2)) b env st).mG P c x λenv st=>aD P (call P (n+2)) h env st:=λ_ _ _ _ _ _=>rfl;have h4:=λst=>zm F.i4 [] [] st;have h0:=λst=>zm F.i0 [] [] st;have hm:=λst=>Hb F.m4 [] [] st;simp[ht,q,F.s4,lJ,PI.unset,h4,h0,hm,new,cD,-CD,-Dc];exact gQ P st [.lst [.str "no box", .bl true, .bl false]] 0 _ _ rfl (bN _ _ _ _ 8#7)
theorem lq {P:Pg} (F:FX P) (n:Nat) (s:Sh) (L:8#8) (c:Cell) (hc:eF L c=none) (st:aa):call P (n+4) 103 [bG s L,av c] st= .ok (.bl true) st:=by
 rw[aq F.f103 _ _ _ rfl];unfold BR;have q:=Fz F n s L c hc st;simp[q];exact eV P st _ (.bl true) 8#7
theorem uG (a b:Cell):eqv 8 (av a) (av b)=1#(decide (a=b)):=qw.eq a b
theorem Ao {P:Pg} (cl:ar) (L:8#8) (c:Cell) (env:Env) (he:env[5]?=1#1#(av c)) (chk:2#(Nat×Ob)) (st:aa) (hk:Kept chk st):
  aE (Tn P cl 1 [5] 4#0 1#(.cmp .Eq (.idx 4#0 8#32) 4#1) 4#0 env) chk 8#33 st= .ok ((L.filter λp=>decide (p.1=c)).map aA) st:=by
 rw[eX hk aA (λp=>if decide (p.1=c)=true then 1#(aA p) else none) L λp _=> ?_,cX];have e:=uG p.1 c;simp[Tn,aL,ax,he,aA,e]
 by_cases h:p.1=c<;>simp[h]
theorem Ee {P:Pg} (cl:ar) (L:8#8) (c:Cell) (env:Env) (he:env[5]?=1#1#(av c)) (chk:2#(Nat×Ob)) (st:aa) (hk:Kept chk st):
  aE (Tn P cl 1 [5] 4#0 1#(.cmp .NotEq (.idx 4#0 8#32) 4#1) 4#0 env) chk 8#33 st= .ok ((L.filter λp=> !decide (p.1=c)).map aA) st:=by
 rw[eX hk aA (λp=>if (!decide (p.1=c))=true then 1#(aA p) else none) L λp _=> ?_,cX (λp=> !decide (p.1=c)) aA];have e:=uG p.1 c;simp[Tn,aL,ax,he,aA,e]
 by_cases h:p.1=c<;>simp[h]
theorem jv (f:Cell×Bx->Int) (c:Cell) (b:Bx):∀L:2#(Cell×Bx),(L.map λp=>p.1).Nodup->(c,b)∈L->((L.filter λp=> !decide (p.1=c)).map f).sum=(L.map f).sum+ -f (c,b)
 |[],_,h=>by cases h
 |p::L,hn,h=>by
  simp only[aav,aa8] at hn
  rcases aap.mp h with e|e
  ·subst e
   have:L.filter (λp=> !decide (p.1=c))=L:=List.filter_eq_self.mpr λq hq=>by
    have:q.1≠c:=λz=>hn.1 (aaN.mpr ⟨q,hq,z⟩);simp[this]
   simp[this];lia
  ·have hp:p.1≠c:=λz=>hn.1 (aaN.mpr ⟨_,e,z.symm⟩);have ih:=jv f c b L hn.2 e;simp[hp,ih];lia
theorem at_of {L:8#8} (hn:(L.map λp=>p.1).Nodup) {c:Cell} {b:Bx} (h:(c,b)∈L):eF L c=1#b:=by
 induction L with
 |nil=>cases h
 |cons p L ih=>
  simp only[aav,aa8] at hn;unfold eF at ih⊢;rw[abi]
  rcases aap.mp h with e|e
  ·subst e;simp
  ·have hp:p.1≠c:=λz=>hn.1 (aaN.mpr ⟨_,e,z.symm⟩);simp only[hp,decide_false];exact ih hn.2 e
theorem DF {L:8#8} {c:Cell} (h:∀p∈L,p.1≠c):eF L c=none:=by
 unfold eF;rw[List.find?_eq_none.mpr λp hp=>by simp[h p hp]];rfl
theorem fO {s:Sh} {c:Cell} (h:c∈s.cells):∃y,s.sk? c.b c.k=1#y/\(c.d=0∨c.d=1)/\0<=c.t/\c.t<(y.pt c.d).c:=by
 let⟨p,hp,hc⟩:=List.mem_flatMap.mp h;let⟨y,hy,hd⟩:=iy hp;let⟨t,ht,rfl⟩:=aaN.mp hc
 have ep:iR s p=y.pt p.2.2:=by simp[iR,hy]
 rw[ep] at ht;have:=gA.mp ht;exact⟨y,hy,hd,this.1,by show t<(y.pt p.2.2).c;lia⟩
theorem Bn {P:Pg} (F:FX P) (n:Nat) (s:Sh) (L:8#8) (v:Val) (h:v=bI s L) (st:aa):call P (n+2) 92 [v,bI s L] st= .ok (.bl true) st:=by
 subst h;exact zN F.f92 n false false _ _ _ st
theorem uz {s:Sh} {L:8#8} (h:dO s L) {c:Cell} {y:Sk} (hy:s.sk? c.b c.k=1#y) (hd:c.d=0∨c.d=1) {b:Bx} (hw:big b.w):dO s (L++[(c,b)]):=λp hp=>by
 rcases aaC.mp hp with hp|hp
 ·exact h p hp
 ·simp at hp;subst hp;exact⟨⟨y,hy⟩,hd,hw⟩
theorem zZ {s:Sh} {L:8#8} (hn:(L.map λp=>p.1).Nodup) {c:Cell} {b:Bx} (h:(c,b)∈L):Val.tup false [6#(dY L+ -b.w), 6#(dv s L+ -b.w*bV s c), 6#(dB s L+ -b.w*bP s c)]=bI s (L.filter λp=> !decide (p.1=c)):=by
 unfold bI;have e1:dY (L.filter λp=> !decide (p.1=c))=dY L+ -b.w:=jv (λp=>p.2.w) c b L hn h;have e2:dv s (L.filter λp=> !decide (p.1=c))=dv s L+ -(b.w*bV s c):=jv (λp=>p.2.w*bV s p.1) c b L hn h;have e3:dB s (L.filter λp=> !decide (p.1=c))=dB s L+ -(b.w*bP s c):=jv (λp=>p.2.w*bP s p.1) c b L hn h;rw[e1,e2,e3,Int.neg_mul,Int.neg_mul]
theorem vk (s:Sh) (L:8#8):bI s (aN L)=bI s L:=by
 let⟨h1,h2,h3⟩:=lW (s:=s) (cM L);unfold bI;rw[h1,h2,h3]
theorem Ex {L:8#8} {c:Cell} (h:0#(L.filter λp=>decide (p.1=c))=1):∃b,(c,b)∈L:=by
 obtain⟨p,hp⟩:∃p,p∈L.filter λp=>decide (p.1=c):=by
  cases e:L.filter λp=>decide (p.1=c) with
  |nil=>rw[e] at h;cases h
  |cons p r=>exact⟨p,by simp⟩
 simp at hp;let⟨hp,rfl⟩:=hp;exact⟨p.2,hp⟩
theorem Ef {L:8#8} {c:Cell} (h:0#(L.filter λp=>decide (p.1=c))=0):∀p∈L,p.1≠c:=λp hp e=>List.filter_eq_nil_iff.mp (abg.mp h) p hp (by simp[e])
theorem xB {L:8#8} {c:Cell} (h:∀p∈L,p.1≠c):eF (aN L) c=none:=DF λp hp=>h p ((cM L).mem_iff.mp hp)
noncomputable def rZ:2#S:=[.ife (.not (.call 92 [.call 100 [4#7, 4#5, 4#6], .call 95 [4#3, .bin .Add 4#4 (.lst [.tup [4#5, 4#6]])]])) [.ret 8#20] [], .set 4#11 (.comp 1 [5] 4#0 (.val 4#4) 1#(.cmp .Eq (.idx 4#0 8#32) 4#1) 4#0), .ife (.and (.cmp .Eq (.bi .len [4#11]) 8#32) (.not (.call 103 [4#7, 4#5]))) [.ret 8#20] [], .set 4#12 (.comp 1 [5] 4#0 (.val 4#4) 1#(.cmp .NotEq (.idx 4#0 8#32) 4#1) 4#0), .ife (.and (.cmp .Eq (.bi .len [4#11]) (.ci 1)) (.not (.call 92 [.call 102 [4#7, 4#5], .call 95 [4#3, 4#12]]))) [.ret 8#20] [], .ife (.cmp .Eq (.call 39 [4#7, .slc 4#5 none 1#(.ci 3)]) (.idx 4#5 (.ci 3))) [.ife (.not (.call 92 [.call 81 [.make 10 [4#3, .bin .Add 4#4 (.lst [.tup [4#5, 4#6]])]], .call 100 [4#7, 4#5, 4#6]])) [.ret 8#20] []] [], .ret (.call 92 [.call 81 [4#7], 4#8])]
abbrev Hz (ns:2#Int) (sh:Sh) (M:8#8) (k4:Nat) (x2 x8 x9 x10:5#Val) (c:Cell) (b:Bx):Env:=[1#(bu ns),1#3#0,x2,1#(aR sh),1#3#k4,1#(av c),1#(aP b),1#(bG sh M),x8,x9,x10,none,none]
theorem xH {P:Pg} (F:FX P) (n:Nat) (ns:2#Int) (sh:Sh) (hs:sh.Ok) (hb:sh.gX) (L:8#8) (ld:cy sh L) (ce:dO sh L) (hl:0#L<=8) (c:Cell) (hc:c∈sh.cells) (b:Bx) (hw:big b.w) (hn:b.name∉L.map λp=>p.2.name) (k4:Nat) (S:aa) (h4:S[k4]?=1#7#(L.map aA)) (x2 x9 x10:5#Val):
  ∃g,aD P (call P (n+8)) rZ (Hz ns sh (aN L) k4 x2 1#(bI sh L) x9 x10 c b) S= .ret (.bl true) (S++g):=by
 let⟨y,hy,hd,t0,t1⟩:=fO hc
 have h4':∀g,(S++g)[k4]?=1#7#8#33:=λg=>by rw[aaq (aad.mp h4).1];exact h4
 have ceS:dO sh (aN L):=λq hq=>ce q ((cM L).mem_iff.mp hq);have q1:=λst=>Al F (n+2) sh hb (aN L) ceS c y hy hd b hw st
 have m1:bI sh (aN L++[(c,b)])=bI sh (L++[(c,b)]):=by
  let⟨e1,e2,e3⟩:=lW (s:=sh) (cM L);rw[mq,mq,e1,e2,e3]
 rw[m1] at q1;have q2:∀v st,res st v= 7#(L.map aA++[.tup false [av c,aP b]])->call P (n+8) 95 [aR sh,v] st= .ok (bI sh (L++[(c,b)])) st:=λv st h=>kB F.toFG (n+7) sh hb (L++[(c,b)]) (uz ce hy hd hw) (by simp;lia) v st (by rw[h];simp[aA]);have q4:=λ(h:eF (aN L) c=none) st=>lq F (n+4) sh (aN L) c h st;have q3:=λ(K:8#8) st=>Bn F (n+6) sh K (bI sh K) rfl st;have c1:=λenv he st h=>Ao (P:=P) (call P (n+8)) L c env he [(k4, 7#8#33)] st (iZ h);have c2:=λenv he st h=>Ee (P:=P) (call P (n+8)) L c env he [(k4, 7#8#33)] st (iZ h)
 have l1:0#L<=10000:=by lia
 have l2:0#L+1<=10000:=by lia
 have l3:0#(L.filter λp=>decide (p.1=c))<=10000:=by have:=List.length_filter_le (λp:Cell×Bx=>decide (p.1=c)) L;lia
 have l4:0#(L.filter λp=> !decide (p.1=c))<=10000:=by have:=List.length_filter_le (λp:Cell×Bx=> !decide (p.1=c)) L;lia
 have q5:∀st,eS ((0#(L.filter λp=>decide (p.1=c)):Int)==0) ((call P (n+8) 103 [bG sh (aN L),av c] st).bind λx st=>(fE x st).bind λt st=>R.ok (Val.bl !t) st) (R.ok (.bl false) st)= .ok (.bl false) st:=λst=>by
  cases e:((0#(L.filter λp=>decide (p.1=c)):Int)==0) with
  |false=>rfl
  |true=>
   have:0#(L.filter λp=>decide (p.1=c))=0:=by have:=beq_iff_eq.mp e;lia
   simp[q4 (xB (Ef this))]
 have q6:∀st v,res st v= 7#((L.filter λp=> !decide (p.1=c)).map aA)->call P (n+8) 95 [aR sh,v] st= .ok (bI sh (L.filter λp=> !decide (p.1=c))) st:=λst v h=>kB F.toFG (n+7) sh hb _ (λp hp=>ce p (ac8.mp hp).1) l4 v st h
 have q7:∀st v,res st v= 7#((L.filter λp=> !decide (p.1=c)).map aA)->eS ((0#(L.filter λp=>decide (p.1=c)):Int)==1) ((((call P (n+8) 102 [bG sh (aN L),av c] st).bind λx st=>((call P (n+8) 95 [aR sh,v] st).bind λx st=>R.ok [x] st).bind λxs st=>R.ok (x::xs) st).bind λxs st=>call P (n+8) 92 xs st).bind λx st=>(fE x st).bind λt st=>R.ok (Val.bl !t) st) (R.ok (Val.bl false) st)=R.ok (Val.bl false) st:=λst v hv=>by
  cases e:((0#(L.filter λp=>decide (p.1=c)):Int)==1) with
  |false=>rfl
  |true=>
   let⟨b',hb'⟩:=Ex (L:=L) (c:=c) (by have:=beq_iff_eq.mp e;lia);have ldS:=ld.aN;have k:=GX F (n+1) sh hb (aN L) ceS c b' (at_of ldS.2.1 ((cM L).mem_iff.mpr hb')) y hy hd (ce _ hb').2.2 st;let⟨e1,e2,e3⟩:=lW (s:=sh) (cM L);rw[e1,e2,e3,zZ ld.2.1 hb'] at k;simp[k,q6 st v hv,q3]
 have q8:=λst=>F7 F.toFLoad F.f11 F.f39 (n+3) sh hs (aN L) (c.b,c.k,c.d) y st hy hd
 have s1:∀st,oH (av c) none 1#3 st= .ok (aw (c.b,c.k,c.d)) st:=λst=>by simp[av,aw,cut,bR]
 have s2:∀st,eQ (av c) 6#3 st= .ok 6#c.t st:=λst=>by simp[av]
 have q9:=λst=>gf F.toFMom (n+3) sh hb (aN L) ceS st;rw[vk] at q9;unfold rZ;simp[Hz,q1,h4,h4',new,l2,q2,q3,c1,l1,T.low,c2,l3,l4,q5,q6,q8,s1,s2,q9];rw[q7 _ _ 8#7]
 by_cases ht:((gP (aN L) (c.b,c.k,c.d) (y.pt c.d).c:Nat):Int)=c.t
 ·have tM:gP (aN L) (c.b,c.k,c.d) (y.pt c.d).c=gP L (c.b,c.k,c.d) (y.pt c.d).c:=by
   unfold gP;congr 1;refine List.filter_congr λt _=> ?_;rw[aaZ,gh,gh];simp only[(cM L).mem_iff]
  have ldm:=Dj ld 8#0 (c.b,c.k,c.d) y hy hd b hn (by rw[←tM,ht];exact t1)
  have ec:cg (c.b,c.k,c.d) (gP L (c.b,c.k,c.d) (y.pt c.d).c:Nat)=c:=by rw[←tM,ht];rfl
  rw[ec] at ldm;have k1:∀v st,res st v= 7#(L.map aA++[.tup false [av c,aP b]])->ir P (call P (n+8)) 10 [aR sh,v] st (((P.cl 10)).map (·.init))= .ok (bG sh (aN (L++[(c,b)]))) st:=λv st h=>vg F.toFLoad (n+2) sh (L++[(c,b)]) v st (by rw[h];simp[aA]) ldm;have k2:=λst=>gf F.toFMom (n+3) sh hb (aN (L++[(c,b)])) (λq hq=>uz ce hy hd hw q ((cM _).mem_iff.mp hq)) st;rw[vk] at k2;simp[q8,s1,s2,ht,h4',l2,new,k1,k2,q1,q3,q9]
 ·simp[q8,s1,s2,beq_eq_false_iff_ne.mpr ht,q9,q3]
noncomputable def HB:2#S:=[.set 4#2 (.call 86 [4#0, 4#1, .ci 9]), .set (.tup [4#3, 4#4]) (.call 98 [4#0, 4#1, .bin .Mod 9#4 (.ci 9)]), .set 4#4 (.comp 3 [] (.tup [4#0, .tup [4#1, 4#2]]) (.zip 4#2 4#4) none (.tup [4#1, .bin .Add (.tup [4#0]) (.slc 4#2 1#(.ci 1) none)]))]
noncomputable def Hv:2#S:=[.set 4#7 (.make 10 [4#3, 4#4]), .set 4#8 (.call 95 [4#3, 4#4]), .set 4#6 (.idx (.call 97 [4#0, 4#1, .lst [.call 89 [4#0, 4#1, .idx 4#2 (.ci 8)]]]) 8#32)]
noncomputable def G7:2#S:=[.set 4#9 (.call 10 [4#3]), .set 4#10 (.tup [.bin .Mod 9#4 (.ci 4), .bin .Mod 9#4 (.ci 4), .bin .Mod 9#4 (.ci 2), .ci 3]), .ife (.not (.call 103 [4#7, 4#10])) [.ret 8#20] []]
noncomputable def u7:2#S:=[.ife (.cmp .Eq (.bi .len [4#9]) 8#32) [.ret (.const (.bl true))] [], .set 4#5 (.idx 4#9 (.bin .Mod 9#4 (.bi .len [4#9])))]
theorem jH (P:Pg) (cl:ar) (b:2#S):∀(a:2#S) (env:Env) (st:aa),aD P cl (a++b) env st=(aD P cl a env st).bind (Rest P cl b)
 |[],env,st=>by simp
 |s::a,env,st=>by
  simp only[ab2,uu]
  cases s.run P cl env st with
  |next env st=>exact jH P cl b a env st
  |_=>rfl
theorem EY {P:Pg} (F:FX P) (n:Nat) (ns:2#Int) (z:Int) (s:aa) (z0:0<=z) (z1:z<2^49):
  ∃(N:2#Str) (sh:Sh) (L:8#8) (z':Int),0#N=9/\N.Nodup/\sh.Ok/\sh.gX/\cy sh L/\dO sh L/\0#L<=8/\((L.map λq=>q.2.name)=N.take 0#L)/\(∀p∈L,p.1.t<3)/\z<=z'/\z'<=z+1110/\
   aD P (call P (n+8)) HB [1#(bu ns),1#3#0,none,none,none,none,none,none,none,none,none,none,none] (.lst [6#z]::s)= .next [1#(bu ns),1#3#0,1#3#(0#s+1),1#(aR sh),1#3#(0#s+1+1),none,none,none,none,none,none,none,none] (.lst [6#z']::(s++[7#(N.map .str), 7#8#33])):=by
 let⟨N,n1,n2,q1⟩:=sL F.toFG (n+6) ns z s 9 8#0 z0 8#0;obtain⟨S,hS⟩:∃S,S=s++[7#(N.map .str)]:=⟨_,rfl⟩;rw[←hS] at q1;have q2:=bt F.toFG (n+7) ns (z+1) S 8#0 8#0;have hr:=dz ns (z+1+1);obtain⟨k,hk⟩:∃c:Nat,(c:Int)=bD ns (z+1+1) % 9:=⟨(bD ns (z+1+1) % 9).toNat,by lia⟩;let⟨sh,L0,z',o1,o2,o3,o4,wd,a1,a2,q3⟩:=wD F.toFG n ns S k 8#0 (z+1+1) 8#0 8#0;rw[hk] at q3
 have l0:0#L0<=8:=by have:=wd.len;lia
 have l1:0#L0<=0#N:=by lia
 have ld:=FP (N:=N) o3 l1 n2;have ce:=FN (N:=N) o4
 have nmL:((cI N L0).map λq=>q.2.name)=N.take 0#(cI N L0):=by
  rw[pG];unfold cI;simp;lia
 have lL:0#(cI N L0)<=8:=by unfold cI;simp;lia
 have q4:=λenv=>AS (P:=P) (call P (n+8)) N L0 [(0#s+1, 7#(N.map .str))] (.lst [6#z']::S) (iZ (by rw[hS];simp)) env
 have q4l:0#(eJ (N.map .str) (L0.map aA))<=10000:=by rw[wJ];simp;lia
 have tr:∀p∈cI N L0,p.1.t<3:=λq hq=>by
  let⟨p,hp,e,_⟩:=kD hq;rw[e];exact wd.tr p hp
 have ln:0#L0<=9:=by lia
 generalize cI N L0=L at*;refine⟨N,sh,L,z',n1,n2,o1,o2,ld,ce,lL,nmL,tr,by lia,by lia, ?_⟩;simp[hS] at q1 q2 q3 q4;unfold HB;simp[q1,q2,q3,ln,n1,q4,q4l,T.low,lows,new]
theorem EJ {P:Pg} (F:FX P) (n:Nat) (ns:2#Int) (z:Int) (s:aa) (z0:0<=z) (z1:z<2^50) (N:2#Str) (n1:0#N=9) (n2:N.Nodup) (sh:Sh) (o2:sh.gX) (L:8#8) (ld:cy sh L) (ce:dO sh L) (lL:0#L<=8) (nmL:(L.map λq=>q.2.name)=N.take 0#L):
  ∃(b:Bx) (g:aa) (z':Int),b.Ok/\(b.name∉L.map λp=>p.2.name)/\z<=z'/\z'<=z+50/\
   aD P (call P (n+8)) Hv [1#(bu ns),1#3#0,1#3#(0#s+1),1#(aR sh),1#3#(0#s+1+1),none,none,none,none,none,none,none,none] (.lst [6#z]::(s++[7#(N.map .str), 7#8#33]))= .next [1#(bu ns),1#3#0,1#3#(0#s+1),1#(aR sh),1#3#(0#s+1+1),none,1#(aP b),1#(bG sh (aN L)),1#(bI sh L),none,none,none,none] (.lst [6#z']::(s++ 7#(N.map .str):: 7#8#33::g)):=by
 obtain⟨S,hS⟩:∃S,S=s++[7#(N.map .str), 7#8#33]:=⟨_,rfl⟩;have q5:=vg F.toFLoad (n+2) sh L 3#(0#s+1+1) (.lst [6#z]::S) (by simp[hS]) ld;have q6:=kB F.toFG (n+7) sh o2 L ce 8#0 3#(0#s+1+1) (.lst [6#z]::S) (by simp[hS]);obtain⟨x,hx⟩:∃x,N[8]?=1#x:=⟨_,aac 8#0⟩;let⟨_,hx'⟩:=aad.mp hx;let⟨b0,⟨e0,k0⟩,q7⟩:=yC F.toFG (n+6) ns z S x 8#0 8#0;let⟨k',z2,g,Cs,h2,nm2,ok2,a3,a4,q8⟩:=rL F.toFG (n+5) ns (z+1) (S++[.lst [aP b0]]) 0#S [b0] 8#7 8#7 (by simpa using k0) 8#0 8#0
 obtain⟨b,rfl⟩:∃b,Cs=[b]:=by
  cases Cs with
  |nil=>simp at nm2
  |cons b r=>cases r with
   |nil=>exact⟨b,rfl⟩
   |cons _ _=>simp at nm2
 simp only[aav,acd,List.cons.injEq,and_true] at nm2 h2;refine⟨b, .lst [aP b0]::g,z2,ok2 b 8#7, ?_,by lia,by lia, ?_⟩
 ·rw[nm2,e0,nmL];intro hm;let⟨i,hi,e⟩:=List.getElem_of_mem hm;rw[List.getElem_take] at e;simp at hi;have:=(List.getElem_inj n2).mp (e.trans hx'.symm);lia
 ·simp[hS] at q5 q6 q7 q8 h2;unfold Hv;simp[q5,q6,q7,hx,hx',n1,new,q8,h2]
theorem GH {P:Pg} (F:FX P) (n:Nat) (ns:2#Int) (z:Int) (W:aa) (z0:0<=z) (z1:z<2^51) (sh:Sh) (o1:sh.Ok) (L:8#8) (tr:∀p∈L,p.1.t<3) (x2 x4 x6 x8:5#Val):
  ∃(x10:5#Val),
   aD P (call P (n+8)) G7 [1#(bu ns),1#3#0,x2,1#(aR sh),x4,none,x6,1#(bG sh (aN L)),x8,none,none,none,none] (.lst [6#z]::W)= .next [1#(bu ns),1#3#0,x2,1#(aR sh),x4,none,x6,1#(bG sh (aN L)),x8,1#3#(0#W+1),x10,none,none] (.lst [6#(z+1+1+1)]::(W++[7#(sh.cells.map av)])):=by
 have q9:=tB ⟨F.toFPart,F.f10,F.f11⟩ (n+3) sh o1 (.lst [6#z]::W);have q10:=bt F.toFG (n+7) ns z (W++[7#(sh.cells.map av)]) 8#0 8#0;have q11:=bt F.toFG (n+7) ns (z+1) (W++[7#(sh.cells.map av)]) 8#0 8#0;have q12:=bt F.toFG (n+7) ns (z+1+1) (W++[7#(sh.cells.map av)]) 8#0 8#0;have q13:∀a b d st,call P (n+8) 103 [bG sh (aN L), .tup false [6#a, 6#b, 6#d, 6#3]] st= .ok (.bl true) st:=λa b d st=>lq F (n+4) sh (aN L) ⟨a,b,d,3⟩ (xB λp hp e=>by have:=tr p hp;rw[e] at this;simp at this) st;simp at q9 q10 q11 q12;unfold G7;simp[q9,q10,q11,q12,q13]
theorem wB {P:Pg} (F:FX P) (n:Nat) (ns:2#Int) (z:Int) (s:aa) (z0:0<=z) (z1:z<2^49):∃z',z<=z'/\z'<=z+1200/\call P (n+9) 104 [bu ns, 3#0] (.lst [6#z]::s)= .ok (.bl true) (.lst [6#z']::s):=by
 rw[aq F.f104 _ _ _ rfl,show BY=⟨2,13,HB++(Hv++(G7++(u7++rZ)))⟩ from rfl];let⟨N,sh,L,y1,n1,n2,o1,o2,ld,ce,lL,nmL,tr,a1,a2,e1⟩:=EY F n ns z s z0 z1;let⟨b,g,y2,bO,hnm,a3,a4,e2⟩:=EJ F n ns y1 s 8#0 8#0 N n1 n2 sh o2 L ld ce lL nmL;obtain⟨W,hW⟩:∃W,W=s++ 7#(N.map .str):: 7#8#33::g:=⟨_,rfl⟩
 have hw4:∀h:aa,(W++h)[0#s+1]?=1#7#8#33:=λh=>by rw[hW];simp
 rw[←hW] at e2;let⟨x10,e3⟩:=GH F n ns y2 W 8#0 8#0 sh o1 L tr 1#3#(0#s+1) 1#3#(0#s+1+1) 1#(aP b) 1#(bI sh L)
 have fA:∀(z':Int) (g:aa),fin P (.lst [6#z]::s) (.bl true) (.lst [6#z']::(W++g))= .ok (.bl true) (.lst [6#z']::s):=λz' g=>by rw[hW,ac1];exact nN P z _ s _ _ 8#7
 have q14:=bt F.toFG (n+7) ns (y2+1+1+1) (W++[7#(sh.cells.map av)]) 8#0 8#0;rw[show ([bu ns,Val.ref 0].map some++List.replicate (13-2) none:Env)=[1#(bu ns),1#3#0,none,none,none,none,none,none,none,none,none,none,none] from rfl,jH,e1,kK,jH,e2,kK,jH,e3,kK,jH]
 by_cases hc:sh.cells=[]
 ·refine⟨y2+1+1+1,by lia,by lia, ?_⟩;unfold u7;simp[hc];exact fA _ _
 ·have np:0<0#sh.cells:=acO.mpr hc;have hcf:((0#sh.cells:Int)==0)=false:=beq_eq_false_iff_ne.mpr 8#0;have r0:0<=bD ns (y2+1+1+1+1) % (0#sh.cells:Int):=abD _ 8#0;have r1:bD ns (y2+1+1+1+1) % (0#sh.cells:Int)<0#sh.cells:=abq _ 8#0;obtain⟨c,hcc⟩:∃c,sh.cells[(bD ns (y2+1+1+1+1) % (0#sh.cells:Int)).toNat]?=1#c:=⟨_,aac 8#0⟩;let⟨_,hcc'⟩:=aad.mp hcc;let⟨g,e⟩:=xH F n ns sh o1 o2 L ld ce lL c (aar hcc) b (kC bO.1.2) hnm (0#s+1+1) (.lst [6#(y2+1+1+1+1)]::(W++[7#(sh.cells.map av)])) (by simp[hw4]) 1#3#(0#s+1) 1#3#(0#W+1) x10;refine⟨y2+1+1+1+1,by lia,by lia, ?_⟩
  have e4:aD P (call P (n+8)) u7 [1#(bu ns),1#3#0,1#3#(0#s+1),1#(aR sh),1#3#(0#s+1+1),none,1#(aP b),1#(bG sh (aN L)),1#(bI sh L),1#3#(0#W+1),x10,none,none] (.lst [6#(y2+1+1+1)]::(W++[7#(sh.cells.map av)]))= .next (Hz ns sh (aN L) (0#s+1+1) 1#3#(0#s+1) 1#(bI sh L) 1#3#(0#W+1) x10 c b) (.lst [6#(y2+1+1+1+1)]::(W++[7#(sh.cells.map av)])):=by
   unfold u7;simp[hcf,q14,np,r0,r1,hcc,hcc']
  rw[e4,kK,e];have:=fA (y2+1+1+1+1) (7#(sh.cells.map av)::g);simpa using this
def K5 (ns:2#Int) (i:Nat) (env:Env) (st:aa):Prop:=(∃z rest,st= .lst [6#z]::rest/\0<=z/\z<=1200*i)/\∃x2,env=[1#(bu ns),1#3#0,x2]
theorem zM {P:Pg} (F:FX P) (h105:P.fn 105=1#BX) (n:Nat) (ns:2#Int) (hn:0#ns<=63):call P (n+10) 105 [bu ns] []= .ok (.bl true) []:=by
 rw[aq h105 _ _ _ rfl];unfold BX
 have hl:0#(cut (ns.map Val.int) none 1#63)=0#ns:=by
  simp[cut,bR];lia
 have hb:(1+(0#ns:Int)/21)<16777216:=by lia
 have hb2:0<=(1+(0#ns:Int)/21):=by lia
 simp[new,hl,hb,hb2]
 let⟨env',st',e,hI⟩:=rF (t:= 4#2) (body:=fL P (call P (n+9)) [.ife (.not (.call 104 [4#0, 4#1])) [.ret 8#20] []]) (chk:=[]) (K5 ns) (bg 0 (1+(0#ns:Int)/21).toNat) [1#(bu ns),1#3#0,none]
  [.lst [6#0], 7#(cut (ns.map .int) none 1#63)] ⟨⟨0,_,rfl,by lia,by lia⟩,_,rfl⟩ (λ_ _ st _=>bA st) λi v env st e hI=>by
   let⟨rfl,li⟩:=qO _ _ _ _ e;let⟨⟨z,s,rfl,z0,z1⟩,x2,rfl⟩:=hI;let⟨z',a1,a2,q⟩:=wB F n ns z s z0 8#0;refine⟨[1#(bu ns),1#3#0,1#6#(0+i)],by simp,[1#(bu ns),1#3#0,1#6#(0+i)], .lst [6#z']::s, .inl ?_,⟨z',s,rfl,by lia,by push_cast;lia⟩,_,rfl⟩;unfold fL;simp[q]
 rw[e];simp
end PI
namespace K13
open PySem PI L2
noncomputable def tp (i:Nat):Stmt:=PySem.Challenge.pw_stowhold_k13_with_and_without.main.body.getD i (.Pass ⟨0,0,0,0⟩)
def mt (i j:Nat):Stmt:=match tp i with
 | .ClassDef _ _ _ b _ _ _ _ _ _ _=>b.getD j (.Pass ⟨0,0,0,0⟩)
 |s=>s
theorem lc {Q:2#Value->Prop} {n:Nat} (h:∀a us,0#us=n->Q (a::us)) (us:8#36) (e:0#us=n+1):Q us:=by
 cases us with
 |nil=>cases e
 |cons a us=>exact h a us (Nat.succ.inj e)
theorem l0 {Q:2#Value->Prop} (h:Q []) (us:8#36) (e:0#us=0):Q us:=by
 cases us with
 |nil=>exact h
 |cons a us=>cases e
noncomputable def dt:Dt:=⟨[(("StowError":Str),(Gv.nam 0:Gv)),(("NoShip":Str),(Gv.err 1:Gv)),(("OutOfShip":Str),(Gv.err 2:Gv)),(("NoLoad":Str),(Gv.err 3:Gv)),(("NoBox":Str),(Gv.err 4:Gv)),(("NoPlace":Str),(Gv.nam 17:Gv)),(("Twice":Str),(Gv.nam 5:Gv)),(("BadLift":Str),(Gv.nam 6:Gv)),(("MOST_CELLS":Str),(Gv.val 6#9:Gv)),(("Ship":Str),(Gv.cls 9 true:Gv)),(("kept_bay":Str),(Gv.fn 4:Gv)),(("kept_stack":Str),(Gv.fn 5:Gv)),(("kept_part":Str),(Gv.fn 6:Gv)),(("checked_part":Str),(Gv.fn 7:Gv)),(("rising_below":Str),(Gv.fn 8:Gv)),(("parts_of":Str),(Gv.fn 9:Gv)),(("cells_of":Str),(Gv.fn 10:Gv)),(("cells_of_part":Str),(Gv.fn 11:Gv)),(("part_at":Str),(Gv.fn 12:Gv)),(("arms_at":Str),(Gv.fn 80:Gv)),(("stack_at":Str),(Gv.fn 13:Gv)),(("has_part":Str),(Gv.fn 14:Gv)),(("has_cell":Str),(Gv.fn 31:Gv)),(("cell_order":Str),(Gv.fn 32:Gv)),(("Load":Str),(Gv.cls 10 true:Gv)),(("pair_order":Str),(Gv.fn 34:Gv)),(("check_load":Str),(Gv.fn 35:Gv)),(("stands_on_something":Str),(Gv.fn 36:Gv)),(("box_at":Str),(Gv.fn 37:Gv)),(("top_of":Str),(Gv.fn 39:Gv)),(("moments":Str),(Gv.fn 81:Gv)),(("moments_with":Str),(Gv.fn 100:Gv)),(("moments_without":Str),(Gv.fn 101:Gv)),(("with_weight":Str),(Gv.fn 82:Gv)),(("_law_next":Str),(Gv.fn 84:Gv)),(("_law_great":Str),(Gv.fn 85:Gv)),(("_law_names":Str),(Gv.fn 86:Gv)),(("_law_part":Str),(Gv.fn 87:Gv)),(("_law_ship":Str),(Gv.fn 88:Gv)),(("_law_box":Str),(Gv.fn 89:Gv)),(("_law_boxes":Str),(Gv.fn 90:Gv)),(("_law_placed":Str),(Gv.fn 91:Gv)),(("_law_same":Str),(Gv.fn 92:Gv)),(("_law_far":Str),(Gv.fn 93:Gv)),(("_law_armed":Str),(Gv.fn 94:Gv)),(("_law_sums":Str),(Gv.fn 95:Gv)),(("_law_bound":Str),(Gv.fn 96:Gv)),(("_law_heavy":Str),(Gv.fn 97:Gv)),(("_law_weighed":Str),(Gv.fn 98:Gv)),(("_law_without":Str),(Gv.fn 102:Gv)),(("_law_refused":Str),(Gv.fn 103:Gv)),(("_law_round":Str),(Gv.fn 104:Gv)),(("law":Str),(Gv.fn 105:Gv))],["len","abs","int","tuple","list","all","sum","max","isinstance","bool","str","dict","range","zip","sorted","ValueError"],["why","bays","foes","trim","heel","ship","placed","box_by_cell","cell_by_name"],["NoBox","BadLift","NoLoad","NoPlace","NoShip","OutOfShip","Twice","ValueError","StowError"],["box_by_cell","cell_by_name"]⟩
def d3:Df:=⟨3,some "Ship","__init__","Ship.__init__",mt 11 0,["self","bays","foes","trim","heel"]⟩
def d4:Df:=⟨4,none,"kept_bay","kept_bay",tp 12,["bay"]⟩
def d5:Df:=⟨5,none,"kept_stack","kept_stack",tp 13,["stack"]⟩
def d6:Df:=⟨6,none,"kept_part","kept_part",tp 14,["part"]⟩
def d7:Df:=⟨7,none,"checked_part","checked_part",tp 15,["cells","strength","height","plugs","lash"]⟩
def d8:Df:=⟨8,none,"rising_below","rising_below",tp 16,["numbers","end"]⟩
def d9:Df:=⟨9,none,"parts_of","parts_of",tp 17,["ship"]⟩
def d10:Df:=⟨10,none,"cells_of","cells_of",tp 18,["ship"]⟩
def d11:Df:=⟨11,none,"cells_of_part","cells_of_part",tp 19,["ship","part"]⟩
def d12:Df:=⟨12,none,"part_at","part_at",tp 20,["ship","part"]⟩
def d80:Df:=⟨80,none,"arms_at","arms_at",tp 21,["ship","part"]⟩
def d13:Df:=⟨13,none,"stack_at","stack_at",tp 22,["ship","part"]⟩
def d14:Df:=⟨14,none,"has_part","has_part",tp 23,["ship","part"]⟩
def d31:Df:=⟨31,none,"has_cell","has_cell",tp 24,["ship","cell"]⟩
def d32:Df:=⟨32,none,"cell_order","cell_order",tp 25,["cell"]⟩
def d33:Df:=⟨33,some "Load","__init__","Load.__init__",mt 27 0,["self","ship","placed"]⟩
def d34:Df:=⟨34,none,"pair_order","pair_order",tp 28,["pair"]⟩
def d35:Df:=⟨35,none,"check_load","check_load",tp 29,["load"]⟩
def d36:Df:=⟨36,none,"stands_on_something","stands_on_something",tp 30,["load","cell"]⟩
def d37:Df:=⟨37,none,"box_at","box_at",tp 31,["load","cell"]⟩
def d39:Df:=⟨39,none,"top_of","top_of",tp 32,["load","part"]⟩
def d81:Df:=⟨81,none,"moments","moments",tp 34,["load"]⟩
def Mc:Df:=⟨100,none,"moments_with","moments_with",tp 35,["load","cell","box"]⟩
def MV:Df:=⟨101,none,"moments_without","moments_without",tp 36,["load","cell"]⟩
def d82:Df:=⟨82,none,"with_weight","with_weight",tp 37,["ship","told","cell","weight"]⟩
def d84:Df:=⟨84,none,"_law_next","_law_next",tp 39,["_law_script","_law_at"]⟩
def d85:Df:=⟨85,none,"_law_great","_law_great",tp 40,["_law_script","_law_at","_law_room"]⟩
def d86:Df:=⟨86,none,"_law_names","_law_names",tp 41,["_law_script","_law_at","_law_many"]⟩
def d87:Df:=⟨87,none,"_law_part","_law_part",tp 42,["_law_script","_law_at","_law_most"]⟩
def d88:Df:=⟨88,none,"_law_ship","_law_ship",tp 43,["_law_script","_law_at","_law_bays","_law_stacks","_law_cells"]⟩
def d89:Df:=⟨89,none,"_law_box","_law_box",tp 44,["_law_script","_law_at","_law_name"]⟩
def d90:Df:=⟨90,none,"_law_boxes","_law_boxes",tp 45,["_law_script","_law_at","_law_many"]⟩
def d91:Df:=⟨91,none,"_law_placed","_law_placed",tp 46,["_law_script","_law_at","_law_ship_here","_law_boxes_here"]⟩
def d92:Df:=⟨92,none,"_law_same","_law_same",tp 47,["_law_found","_law_due"]⟩
def d93:Df:=⟨93,none,"_law_far","_law_far",tp 48,["_law_script","_law_at"]⟩
def d94:Df:=⟨94,none,"_law_armed","_law_armed",tp 49,["_law_script","_law_at","_law_ship_here"]⟩
def d95:Df:=⟨95,none,"_law_sums","_law_sums",tp 50,["_law_ship_here","_law_placed_here"]⟩
def d96:Df:=⟨96,none,"_law_bound","_law_bound",tp 51,["_law_m","_law_far_here"]⟩
def d97:Df:=⟨97,none,"_law_heavy","_law_heavy",tp 52,["_law_script","_law_at","_law_boxes_here"]⟩
def d98:Df:=⟨98,none,"_law_weighed","_law_weighed",tp 53,["_law_script","_law_at","_law_many"]⟩
def Lc:Df:=⟨102,none,"_law_without","_law_without",tp 54,["_law_load","_law_cell"]⟩
def MY:Df:=⟨103,none,"_law_refused","_law_refused",tp 55,["_law_load","_law_cell"]⟩
def Lb:Df:=⟨104,none,"_law_round","_law_round",tp 56,["_law_script","_law_at"]⟩
def MS:Df:=⟨105,none,"law","law",tp 57,["_law_script"]⟩
def ds:2#Df:=[d3,d4,d5,d6,d7,d8,d9,d10,d11,d12,d80,d13,d14,d31,d32,d33,d34,d35,d36,d37,d39,d81,Mc,MV,d82,d84,d85,d86,d87,d88,d89,d90,d91,d92,d93,d94,d95,d96,d97,d98,Lc,MY,Lb,MS]
set_option maxHeartbeats 0 in
theorem Lu:∀d∈ds,DS dt d:=by
 repeat' first|exact om|refine mr ⟨λ_ _ _ _ _ _=> ?_,by decide+kernel,by decide+kernel⟩ ?_
 all_goals repeat' first|exact l0 rfl|refine lc λ_=> ?_
noncomputable def cls:2#(Nat×Cl):=[(1,⟨[],none,[],[],true,false⟩),(2,⟨[],none,[],[],true,false⟩),(3,⟨[],none,[],[],true,false⟩),(4,⟨[],none,[],[4,0,1000],true,false⟩),(9,⟨["bays","foes","trim","heel"],1#3,[],[],false,false⟩),(10,⟨["ship","placed","box_by_cell","cell_by_name"],1#33,[],[],false,false⟩)]
noncomputable def cn:2#(Nat×Str):=[(0,"StowError"),(1,"NoShip"),(2,"OutOfShip"),(3,"NoLoad"),(4,"NoBox"),(17,"NoPlace"),(5,"Twice"),(6,"BadLift"),(9,"Ship"),(10,"Load")]
def xc (c:Nat):Bool:=((cls.lookup c).map (·.exc)).getD false
noncomputable abbrev pg:Pg:=et dt ds cls 0
end K13
namespace K13
open PySem PI
set_option maxHeartbeats 0 in
theorem fw:PI.FX pg:=by repeat' first|with_unfolding_all rfl|decide+kernel|constructor
end K13
section
set_option maxHeartbeats 0
namespace Hd
open PySem PySem.W PySem.Calls PyProof.Rows
noncomputable def fN {α:Type} (n:Nat) (k:Nat->α):α:= @Nat.rec (λ_=>α) (k 0) (λm _=>k (Nat.succ m)) n
theorem Cj {α:Type} (n:Nat) (k:Nat->α):fN n k=k n:=by cases n<;>rfl
noncomputable def ev:2#Obj->2#Obj
 |a::_::r=>a::ev r
 |l=>l
noncomputable def od:2#Obj->2#Obj
 |_::b::r=>b::od r
 |_=>[]
noncomputable def Hj:Nat->2#Obj->BT
 |0,_=> .nil
 |_+1,[]=> .nil
 |n+1,x::r=> .node x (Hj n (ev r)) (Hj n (od r))
noncomputable def wt (tb:String->5#Builtin) (p:Program) (w:World) (n₀:Nat) (ann:5#Value) (os:OsState):Nat->SharedT->Thread->5#SharedT:=
 λN=> @Nat.rec (λ_=>SharedT->Thread->5#SharedT) (λ_ _=>none) (λ_ ih s t=>match through t with
  |true=>1#s
  |false=>match stepOk n₀ ann t with
   |false=>none
   |true=>match stepT (denote tb) p w s t with
    |none=>none
    |some (⟨T,n,life,gens,drawn,toks,_⟩,t')=>fN n λn=>fN toks λtoks=>match gens,drawn with
     |⟨l⟩,⟨a,b,c,d⟩=>ih ⟨T,n,life,⟨l⟩,⟨a,b,c,d⟩,toks,os⟩ t') N
theorem uq {tb:String->5#Builtin} {p:Program} {w:World} {n₀:Nat} {ann:5#Value} {os:OsState}:∀{N:Nat} {s r:SharedT} {t:Thread},s.os=os->wt tb p w n₀ ann os N s t=1#r->topRun tb p w n₀ ann N s.abs t=1#r.abs/\r.os=os
 |0,s,r,t,_,h=>by cases h
 |N+1,s,r,t,ho,h=>by
  unfold topRun;unfold wt at h;dsimp only at h
  cases ht:through t with
  |true=>
   rw[ht] at h;cases h;exact⟨rfl,ho⟩
  |false=>
   rw[ht] at h
   cases hk:stepOk n₀ ann t with
   |false=>rw[hk] at h;cases h
   |true=>
    rw[hk] at h;dsimp only at h⊢
    cases hs:stepT (denote tb) p w s t with
    |none=>rw[hs] at h;cases h
    |some x=>
     let⟨⟨T,n,life,gens,drawn,toks,os'⟩,t'⟩:=x;rw[hs] at h;have e:=stepT_spec hs;rw[e];dsimp only at h⊢
     have eo:os'=os:=by
      have z:=step_os_same e (by
       unfold stepOk at hk
       revert hk
       cases t.cur<;>simp)
      exact(show os'=s.os from z).trans ho
     subst eo;rw[Cj,Cj] at h;cases gens;cases drawn;exact uq rfl h
theorem Eh {p:Program} {loose:2#Str} {Xt:Shared->Bool} {α:Type} {Yf:Shared->α} {Ya:World->α} {N:Nat} {g0:Bool} {H₀:Params->Heap} {T0:Params->BT} {n0:Nat} {life0:Life} {k₀:Nat} {m₀:Nat} {ann:5#Value} {M:Nat}
  (open_:∀w:World,(fencedOpening treeTable p w N).map (λs=>(s.heap,s.gens,s.drawn,s.toks))=1#(H₀ w.params,Array.mk [],d₀,k₀))
  (abs0:∀P,absHeap (T0 P) n0 life0=H₀ P)
  (size:∀w:World,((H₀ w.params).isNs mainGlobals&&(Array.mk []:Array GenState).size==0,(H₀ w.params).objs.size,(H₀ w.params).nsMap mainGlobals "__annotations__")=(true,m₀,ann))
  (le:Nat.ble M N=true)
  (run:∀(w:World) (os:OsState),(wt treeTable p w m₀ ann os M ⟨T0 w.params,n0,life0,Array.mk [],d₀,k₀,os⟩ (topStub p)).map (λr=>((staticsOk (importedModules p.main.body) (H₀ w.params) r.abs.heap&&namesBound p r.abs.heap&&gensDone r.abs&&laidKept (H₀ w.params) r.abs.heap),
    openSeen q loose (importedModules p.main.body) Xt g0 r.abs,Yf r.abs))=1#(true,openGood q loose,Ya w)):LeftO p q loose Xt Yf Ya N g0:=λw=>by
 let⟨⟨h,gs,d,k,os⟩,e,e'⟩:=aab.mp (open_ w)
 obtain⟨rfl,rfl,rfl,rfl⟩:h=H₀ w.params/\gs=Array.mk []/\d=d₀/\k=k₀:=by simpa using e'
 obtain⟨z1,z2,z3⟩:_/\_/\_:=by simpa only[Prod.mk.injEq] using size w
 let⟨rT,hr,hl⟩:=aab.mp (run w os)
 obtain⟨l1,l2,l3⟩:_/\_/\_:=by simpa only[Prod.mk.injEq] using hl
 have hr':=(uq (os:=os) (s:=⟨T0 w.params,n0,life0,Array.mk [],d,k,os⟩) rfl hr).1
 have ea:SharedT.abs ⟨T0 w.params,n0,life0,Array.mk [],d,k,os⟩=⟨H₀ w.params,Array.mk [],d,k,os⟩:=by
  unfold SharedT.abs;rw[abs0]
 rw[ea] at hr';have r:=topRun_mono (N-M) _ _ _ _ hr';rw[show M+(N-M)=N by have:=Nat.le_of_ble_eq_true le;lia] at r
 have t:topFrom treeTable p w N ⟨H₀ w.params,Array.mk [],d,k,os⟩=1#rT.abs:=by
  unfold topFrom;dsimp only;rw[z1,z2,z3,r]
  show (match staticsOk (importedModules p.main.body) (H₀ w.params) rT.abs.heap&&namesBound p rT.abs.heap&&gensDone rT.abs&&laidKept (H₀ w.params) rT.abs.heap with|true=>_|false=>_)=_
  rw[l1]
 unfold openEnds;rw[e];show (topFrom treeTable p w N _).map _=_;rw[t];exact congrArg some (Prod.ext l2 l3)
theorem Mf {α β γ δ:Type} {x:5#α} {f:α->β} {g:α->γ} {k:α->δ} {a:β} {b:γ} {c:δ} (e1:x.map f=1#a) (e2:x.map g=1#b) (e3:x.map k=1#c):x.map (λr=>(f r,g r,k r))=1#(a,b,c):=by
 cases x with
 |none=>cases e1
 |some r=>cases e1;cases e2;cases e3;rfl
end Hd
namespace K13H
open PySem PySem.W PyProof.Rows
noncomputable abbrev pw:Program:=PySem.Challenge.pw_stowhold_k13_with_and_without
noncomputable abbrev Pk {T:Type} (y:T):Type:=∀x:T,x=y->T
noncomputable def hp (i n:Nat):2#Stmt:=(pw.main.body.drop i).take n
noncomputable def c0:2#Stmt:=by refine(?f:Pk (hp 0 12)) [_,_,_,_,_,_,_,_,_,_,_,_] rfl;exact λx _=>x
noncomputable def c1:2#Stmt:=by refine(?f:Pk (hp 12 4)) [_,_,_,_] rfl;exact λx _=>x
noncomputable def c2:2#Stmt:=by refine(?f:Pk (hp 16 4)) [_,_,_,_] rfl;exact λx _=>x
noncomputable def c3:2#Stmt:=by refine(?f:Pk (hp 20 4)) [_,_,_,_] rfl;exact λx _=>x
noncomputable def c4:2#Stmt:=by refine(?f:Pk (hp 24 5)) [_,_,_,_,_] rfl;exact λx _=>x
noncomputable def c5:2#Stmt:=by refine(?f:Pk (hp 29 4)) [_,_,_,_] rfl;exact λx _=>x
noncomputable def c6:2#Stmt:=by refine(?f:Pk (hp 33 5)) [_,_,_,_,_] rfl;exact λx _=>x
noncomputable def c7:2#Stmt:=by refine(?f:Pk (hp 38 3)) [_,_,_] rfl;exact λx _=>x
noncomputable def c8:2#Stmt:=by refine(?f:Pk (hp 41 1)) [_] rfl;exact λx _=>x
noncomputable def c9:2#Stmt:=by refine(?f:Pk (hp 42 1)) [_] rfl;exact λx _=>x
noncomputable def c10:2#Stmt:=by refine(?f:Pk (hp 43 1)) [_] rfl;exact λx _=>x
noncomputable def c11:2#Stmt:=by refine(?f:Pk (hp 44 3)) [_,_,_] rfl;exact λx _=>x
noncomputable def c12:2#Stmt:=by refine(?f:Pk (hp 47 2)) [_,_] rfl;exact λx _=>x
noncomputable def c13:2#Stmt:=by refine(?f:Pk (hp 49 3)) [_,_,_] rfl;exact λx _=>x
noncomputable def c14:2#Stmt:=by refine(?f:Pk (hp 52 2)) [_,_] rfl;exact λx _=>x
noncomputable def c15:2#Stmt:=by refine(?f:Pk (hp 54 2)) [_,_] rfl;exact λx _=>x
noncomputable def c16:2#Stmt:=by refine(?f:Pk (hp 56 1)) [_] rfl;exact λx _=>x
noncomputable def c17:2#Stmt:=by refine(?f:Pk (hp 57 1)) [_] rfl;exact λx _=>x
noncomputable def pv:Program:=by refine(?f:Pk pw) ⟨⟨c0++(c1++(c2++(c3++(c4++(c5++(c6++(c7++(c8++(c9++(c10++(c11++(c12++(c13++(c14++(c15++(c16++(c17))))))))))))))))),_,_,_,_⟩,_,_,_,_,_⟩ rfl;exact λx _=>x
theorem K1:pv=pv:=rfl
name_quick K13Hpv for K13H.pv by K13H.K1
noncomputable def _root_.PySem.W.Fast.tw12630729517305653294:Program:=PySem.W.Fast.K13Hpv
theorem _root_.PySem.W.Fast.te12630729517305653294:PySem.Challenge.pw_stowhold_k13_with_and_without=PySem.W.Fast.tw12630729517305653294:=(show PySem.Challenge.pw_stowhold_k13_with_and_without=pv from rfl).trans PySem.W.Fast.K13Hpv_eq
noncomputable def tp (i:Nat):Stmt:=pw.main.body.getD i (.Pass ⟨0,0,0,0⟩)
noncomputable def vw:Program:={pw with main:={pw.main with body:=[tp 1,tp 2,tp 3,tp 4,tp 5,tp 6,tp 7,tp 8,tp 10,tp 11,tp 12,tp 13,tp 14,tp 15,tp 16,tp 17,tp 18,tp 19,tp 20,tp 21,tp 22,tp 23,tp 24,tp 25,tp 27,tp 28,tp 29,tp 30,tp 31,tp 32,tp 34,tp 35,tp 36,tp 37,tp 39,tp 40,tp 41,tp 42,tp 43,tp 44,tp 45,tp 46,tp 47,tp 48,tp 49,tp 50,tp 51,tp 52,tp 53,tp 54,tp 55,tp 56,tp 57]}}
local macro_rules
 |`(tactic|o_head $H)=>do
  let hw:=Lean.mkIdent `hw
  let hc:=Lean.mkIdent `hc
  `(tactic|refine holds_open (q:=K13H.vw) (loose:=[]) (Xt:=λs=>xlAt K13H.vw [] s&&recOk (RowW.records _) s) (XP:=XL K13H.vw []) (Yf:=Hook.obs $H) (Ya:=Hook.val $H) (YP:=Hook.says $H) (N:=7092) (And.left ?$hc) (Hook.of $H) (Hook.keeps $H) (λs e=>xl_of s (Bool.and_eq_true_iff.mp e).1) XL.keeps (by rfl) (by rfl) (by rfl) (λs e=>recFacts_of (Bool.and_eq_true_iff.mp e).2) (by rfl) (by first|assumption|decide+kernel) (by decide+kernel) ⟨rfl,rfl,rfl,rfl,rfl,by decide+kernel⟩ ?$hw (And.right ?$hc))
open_top ft for PySem.Challenge.rw_stowhold_k13_with_and_without
noncomputable abbrev HL:=2#(Addr×Obj)
noncomputable def fq (s:Stmt) (x q:Str) (g:Addr) (c:2#(Str×Addr)) (d k dc pm:Value) (an:5#Addr) (cd ct:Value) (b:Addr):Data:= .func ⟨x,q,L2.dH s, .stmts (L2.br s),L2.az s,g,c,d,k,dc,pm,an,cd,ct,b⟩
noncomputable def hq (P:8#34) (i n:Nat):HL:=((K13H.ft.heap_39 P).drop i).take n
noncomputable def b0 (P:8#34):HL:=by refine(?f:Pk (hq P 0 2)) [_,_] rfl;exact λx _=>x
noncomputable def b1 (P:8#34):HL:=by refine(?f:Pk (hq P 2 2)) [_,_] rfl;exact λx _=>x
noncomputable def b2 (P:8#34):HL:=by refine(?f:Pk (hq P 4 2)) [_,_] rfl;exact λx _=>x
noncomputable def b3 (P:8#34):HL:=by refine(?f:Pk (hq P 6 2)) [_,_] rfl;exact λx _=>x
noncomputable def b4 (P:8#34):HL:=by refine(?f:Pk (hq P 8 8)) [_,_,_,_,_,_,_,_] rfl;exact λx _=>x
noncomputable def b5 (P:8#34):HL:=by refine(?f:Pk (hq P 16 8)) [_,_,_,_,_,_,_,_] rfl;exact λx _=>x
noncomputable def b6 (P:8#34):HL:=by refine(?f:Pk (hq P 24 8)) [_,_,_,_,_,_,_,_] rfl;exact λx _=>x
noncomputable def b7 (P:8#34):HL:=by refine(?f:Pk (hq P 32 4)) [_,_,_,_] rfl;exact λx _=>x
def b8 (P:8#34):HL:=by refine(?f:Pk (hq P 36 1)) [(_,⟨_,_,fq (L2.inClass (tp 8) 0) ..,_⟩)] rfl;exact λx _=>x
noncomputable def b9 (P:8#34):HL:=by refine(?f:Pk (hq P 37 5)) [_,_,_,_,_] rfl;exact λx _=>x
def b10 (P:8#34):HL:=by refine(?f:Pk (hq P 42 1)) [(_,⟨_,_,fq (L2.inClass (tp 11) 0) ..,_⟩)] rfl;exact λx _=>x
noncomputable def b11 (P:8#34):HL:=by refine(?f:Pk (hq P 43 7)) [_,_,_,_,_,_,_] rfl;exact λx _=>x
def b12 (P:8#34):HL:=by refine(?f:Pk (hq P 50 1)) [(_,⟨_,_,fq (tp 12) ..,_⟩)] rfl;exact λx _=>x
noncomputable def b13 (P:8#34):HL:=by refine(?f:Pk (hq P 51 4)) [_,_,_,_] rfl;exact λx _=>x
def b14 (P:8#34):HL:=by refine(?f:Pk (hq P 55 1)) [(_,⟨_,_,fq (tp 13) ..,_⟩)] rfl;exact λx _=>x
noncomputable def b15 (P:8#34):HL:=by refine(?f:Pk (hq P 56 4)) [_,_,_,_] rfl;exact λx _=>x
def b16 (P:8#34):HL:=by refine(?f:Pk (hq P 60 1)) [(_,⟨_,_,fq (tp 14) ..,_⟩)] rfl;exact λx _=>x
noncomputable def b17 (P:8#34):HL:=by refine(?f:Pk (hq P 61 4)) [_,_,_,_] rfl;exact λx _=>x
def b18 (P:8#34):HL:=by refine(?f:Pk (hq P 65 1)) [(_,⟨_,_,fq (tp 15) ..,_⟩)] rfl;exact λx _=>x
noncomputable def b19 (P:8#34):HL:=by refine(?f:Pk (hq P 66 4)) [_,_,_,_] rfl;exact λx _=>x
def b20 (P:8#34):HL:=by refine(?f:Pk (hq P 70 1)) [(_,⟨_,_,fq (tp 16) ..,_⟩)] rfl;exact λx _=>x
noncomputable def b21 (P:8#34):HL:=by refine(?f:Pk (hq P 71 2)) [_,_] rfl;exact λx _=>x
def b22 (P:8#34):HL:=by refine(?f:Pk (hq P 73 1)) [(_,⟨_,_,fq (tp 17) ..,_⟩)] rfl;exact λx _=>x
noncomputable def b23 (P:8#34):HL:=by refine(?f:Pk (hq P 74 4)) [_,_,_,_] rfl;exact λx _=>x
def b24 (P:8#34):HL:=by refine(?f:Pk (hq P 78 1)) [(_,⟨_,_,fq (tp 18) ..,_⟩)] rfl;exact λx _=>x
noncomputable def b25 (P:8#34):HL:=by refine(?f:Pk (hq P 79 2)) [_,_] rfl;exact λx _=>x
def b26 (P:8#34):HL:=by refine(?f:Pk (hq P 81 1)) [(_,⟨_,_,fq (tp 19) ..,_⟩)] rfl;exact λx _=>x
noncomputable def b27 (P:8#34):HL:=by refine(?f:Pk (hq P 82 4)) [_,_,_,_] rfl;exact λx _=>x
def b28 (P:8#34):HL:=by refine(?f:Pk (hq P 86 1)) [(_,⟨_,_,fq (tp 20) ..,_⟩)] rfl;exact λx _=>x
noncomputable def b29 (P:8#34):HL:=by refine(?f:Pk (hq P 87 4)) [_,_,_,_] rfl;exact λx _=>x
def b30 (P:8#34):HL:=by refine(?f:Pk (hq P 91 1)) [(_,⟨_,_,fq (tp 21) ..,_⟩)] rfl;exact λx _=>x
noncomputable def b31 (P:8#34):HL:=by refine(?f:Pk (hq P 92 4)) [_,_,_,_] rfl;exact λx _=>x
def b32 (P:8#34):HL:=by refine(?f:Pk (hq P 96 1)) [(_,⟨_,_,fq (tp 22) ..,_⟩)] rfl;exact λx _=>x
noncomputable def b33 (P:8#34):HL:=by refine(?f:Pk (hq P 97 4)) [_,_,_,_] rfl;exact λx _=>x
def b34 (P:8#34):HL:=by refine(?f:Pk (hq P 101 1)) [(_,⟨_,_,fq (tp 23) ..,_⟩)] rfl;exact λx _=>x
noncomputable def b35 (P:8#34):HL:=by refine(?f:Pk (hq P 102 4)) [_,_,_,_] rfl;exact λx _=>x
def b36 (P:8#34):HL:=by refine(?f:Pk (hq P 106 1)) [(_,⟨_,_,fq (tp 24) ..,_⟩)] rfl;exact λx _=>x
noncomputable def b37 (P:8#34):HL:=by refine(?f:Pk (hq P 107 4)) [_,_,_,_] rfl;exact λx _=>x
def b38 (P:8#34):HL:=by refine(?f:Pk (hq P 111 1)) [(_,⟨_,_,fq (tp 25) ..,_⟩)] rfl;exact λx _=>x
noncomputable def b39 (P:8#34):HL:=by refine(?f:Pk (hq P 112 2)) [_,_] rfl;exact λx _=>x
def b40 (P:8#34):HL:=by refine(?f:Pk (hq P 114 1)) [(_,⟨_,_,fq (L2.inClass (tp 27) 0) ..,_⟩)] rfl;exact λx _=>x
noncomputable def b41 (P:8#34):HL:=by refine(?f:Pk (hq P 115 8)) [_,_,_,_,_,_,_,_] rfl;exact λx _=>x
noncomputable def b42 (P:8#34):HL:=by refine(?f:Pk (hq P 123 1)) [_] rfl;exact λx _=>x
def b43 (P:8#34):HL:=by refine(?f:Pk (hq P 124 1)) [(_,⟨_,_,fq (tp 28) ..,_⟩)] rfl;exact λx _=>x
noncomputable def b44 (P:8#34):HL:=by refine(?f:Pk (hq P 125 4)) [_,_,_,_] rfl;exact λx _=>x
def b45 (P:8#34):HL:=by refine(?f:Pk (hq P 129 1)) [(_,⟨_,_,fq (tp 29) ..,_⟩)] rfl;exact λx _=>x
noncomputable def b46 (P:8#34):HL:=by refine(?f:Pk (hq P 130 4)) [_,_,_,_] rfl;exact λx _=>x
def b47 (P:8#34):HL:=by refine(?f:Pk (hq P 134 1)) [(_,⟨_,_,fq (tp 30) ..,_⟩)] rfl;exact λx _=>x
noncomputable def b48 (P:8#34):HL:=by refine(?f:Pk (hq P 135 4)) [_,_,_,_] rfl;exact λx _=>x
def b49 (P:8#34):HL:=by refine(?f:Pk (hq P 139 1)) [(_,⟨_,_,fq (tp 31) ..,_⟩)] rfl;exact λx _=>x
noncomputable def b50 (P:8#34):HL:=by refine(?f:Pk (hq P 140 2)) [_,_] rfl;exact λx _=>x
def b51 (P:8#34):HL:=by refine(?f:Pk (hq P 142 1)) [(_,⟨_,_,fq (tp 32) ..,_⟩)] rfl;exact λx _=>x
noncomputable def b52 (P:8#34):HL:=by refine(?f:Pk (hq P 143 4)) [_,_,_,_] rfl;exact λx _=>x
def b53 (P:8#34):HL:=by refine(?f:Pk (hq P 147 1)) [(_,⟨_,_,fq (tp 34) ..,_⟩)] rfl;exact λx _=>x
noncomputable def b54 (P:8#34):HL:=by refine(?f:Pk (hq P 148 4)) [_,_,_,_] rfl;exact λx _=>x
def b55 (P:8#34):HL:=by refine(?f:Pk (hq P 152 1)) [(_,⟨_,_,fq (tp 35) ..,_⟩)] rfl;exact λx _=>x
noncomputable def b56 (P:8#34):HL:=by refine(?f:Pk (hq P 153 4)) [_,_,_,_] rfl;exact λx _=>x
def b57 (P:8#34):HL:=by refine(?f:Pk (hq P 157 1)) [(_,⟨_,_,fq (tp 36) ..,_⟩)] rfl;exact λx _=>x
noncomputable def b58 (P:8#34):HL:=by refine(?f:Pk (hq P 158 4)) [_,_,_,_] rfl;exact λx _=>x
def b59 (P:8#34):HL:=by refine(?f:Pk (hq P 162 1)) [(_,⟨_,_,fq (tp 37) ..,_⟩)] rfl;exact λx _=>x
noncomputable def b60 (P:8#34):HL:=by refine(?f:Pk (hq P 163 4)) [_,_,_,_] rfl;exact λx _=>x
def b61 (P:8#34):HL:=by refine(?f:Pk (hq P 167 1)) [(_,⟨_,_,fq (tp 39) ..,_⟩)] rfl;exact λx _=>x
noncomputable def b62 (P:8#34):HL:=by refine(?f:Pk (hq P 168 4)) [_,_,_,_] rfl;exact λx _=>x
def b63 (P:8#34):HL:=by refine(?f:Pk (hq P 172 1)) [(_,⟨_,_,fq (tp 40) ..,_⟩)] rfl;exact λx _=>x
noncomputable def b64 (P:8#34):HL:=by refine(?f:Pk (hq P 173 4)) [_,_,_,_] rfl;exact λx _=>x
def b65 (P:8#34):HL:=by refine(?f:Pk (hq P 177 1)) [(_,⟨_,_,fq (tp 41) ..,_⟩)] rfl;exact λx _=>x
noncomputable def b66 (P:8#34):HL:=by refine(?f:Pk (hq P 178 2)) [_,_] rfl;exact λx _=>x
def b67 (P:8#34):HL:=by refine(?f:Pk (hq P 180 1)) [(_,⟨_,_,fq (tp 42) ..,_⟩)] rfl;exact λx _=>x
noncomputable def b68 (P:8#34):HL:=by refine(?f:Pk (hq P 181 4)) [_,_,_,_] rfl;exact λx _=>x
def b69 (P:8#34):HL:=by refine(?f:Pk (hq P 185 1)) [(_,⟨_,_,fq (tp 43) ..,_⟩)] rfl;exact λx _=>x
noncomputable def b70 (P:8#34):HL:=by refine(?f:Pk (hq P 186 4)) [_,_,_,_] rfl;exact λx _=>x
def b71 (P:8#34):HL:=by refine(?f:Pk (hq P 190 1)) [(_,⟨_,_,fq (tp 44) ..,_⟩)] rfl;exact λx _=>x
noncomputable def b72 (P:8#34):HL:=by refine(?f:Pk (hq P 191 2)) [_,_] rfl;exact λx _=>x
def b73 (P:8#34):HL:=by refine(?f:Pk (hq P 193 1)) [(_,⟨_,_,fq (tp 45) ..,_⟩)] rfl;exact λx _=>x
noncomputable def b74 (P:8#34):HL:=by refine(?f:Pk (hq P 194 4)) [_,_,_,_] rfl;exact λx _=>x
def b75 (P:8#34):HL:=by refine(?f:Pk (hq P 198 1)) [(_,⟨_,_,fq (tp 46) ..,_⟩)] rfl;exact λx _=>x
noncomputable def b76 (P:8#34):HL:=by refine(?f:Pk (hq P 199 2)) [_,_] rfl;exact λx _=>x
def b77 (P:8#34):HL:=by refine(?f:Pk (hq P 201 1)) [(_,⟨_,_,fq (tp 47) ..,_⟩)] rfl;exact λx _=>x
noncomputable def b78 (P:8#34):HL:=by refine(?f:Pk (hq P 202 4)) [_,_,_,_] rfl;exact λx _=>x
def b79 (P:8#34):HL:=by refine(?f:Pk (hq P 206 1)) [(_,⟨_,_,fq (tp 48) ..,_⟩)] rfl;exact λx _=>x
noncomputable def b80 (P:8#34):HL:=by refine(?f:Pk (hq P 207 2)) [_,_] rfl;exact λx _=>x
def b81 (P:8#34):HL:=by refine(?f:Pk (hq P 209 1)) [(_,⟨_,_,fq (tp 49) ..,_⟩)] rfl;exact λx _=>x
noncomputable def b82 (P:8#34):HL:=by refine(?f:Pk (hq P 210 2)) [_,_] rfl;exact λx _=>x
def b83 (P:8#34):HL:=by refine(?f:Pk (hq P 212 1)) [(_,⟨_,_,fq (tp 50) ..,_⟩)] rfl;exact λx _=>x
noncomputable def b84 (P:8#34):HL:=by refine(?f:Pk (hq P 213 4)) [_,_,_,_] rfl;exact λx _=>x
def b85 (P:8#34):HL:=by refine(?f:Pk (hq P 217 1)) [(_,⟨_,_,fq (tp 51) ..,_⟩)] rfl;exact λx _=>x
noncomputable def b86 (P:8#34):HL:=by refine(?f:Pk (hq P 218 2)) [_,_] rfl;exact λx _=>x
def b87 (P:8#34):HL:=by refine(?f:Pk (hq P 220 1)) [(_,⟨_,_,fq (tp 52) ..,_⟩)] rfl;exact λx _=>x
noncomputable def b88 (P:8#34):HL:=by refine(?f:Pk (hq P 221 4)) [_,_,_,_] rfl;exact λx _=>x
def b89 (P:8#34):HL:=by refine(?f:Pk (hq P 225 1)) [(_,⟨_,_,fq (tp 53) ..,_⟩)] rfl;exact λx _=>x
noncomputable def b90 (P:8#34):HL:=by refine(?f:Pk (hq P 226 4)) [_,_,_,_] rfl;exact λx _=>x
def b91 (P:8#34):HL:=by refine(?f:Pk (hq P 230 1)) [(_,⟨_,_,fq (tp 54) ..,_⟩)] rfl;exact λx _=>x
noncomputable def b92 (P:8#34):HL:=by refine(?f:Pk (hq P 231 4)) [_,_,_,_] rfl;exact λx _=>x
def b93 (P:8#34):HL:=by refine(?f:Pk (hq P 235 1)) [(_,⟨_,_,fq (tp 55) ..,_⟩)] rfl;exact λx _=>x
noncomputable def b94 (P:8#34):HL:=by refine(?f:Pk (hq P 236 2)) [_,_] rfl;exact λx _=>x
def b95 (P:8#34):HL:=by refine(?f:Pk (hq P 238 1)) [(_,⟨_,_,fq (tp 56) ..,_⟩)] rfl;exact λx _=>x
noncomputable def b96 (P:8#34):HL:=by refine(?f:Pk (hq P 239 4)) [_,_,_,_] rfl;exact λx _=>x
def b97 (P:8#34):HL:=by refine(?f:Pk (hq P 243 1)) [(_,⟨_,_,fq (tp 57) ..,_⟩)] rfl;exact λx _=>x
noncomputable def e0 (P:8#34):HL:=(b0 P++(b1 P++(b2 P++(b3 P++(b4 P++(b5 P++(b6 P++(b7 P++(b8 P++(b9 P))))))))))
noncomputable def e1 (P:8#34):HL:=(b10 P++(b11 P++(b12 P++(b13 P++(b14 P++(b15 P++(b16 P++(b17 P++(b18 P++(b19 P))))))))))
noncomputable def e2 (P:8#34):HL:=(b20 P++(b21 P++(b22 P++(b23 P++(b24 P++(b25 P++(b26 P++(b27 P++(b28 P++(b29 P))))))))))
noncomputable def e3 (P:8#34):HL:=(b30 P++(b31 P++(b32 P++(b33 P++(b34 P++(b35 P++(b36 P++(b37 P++(b38 P++(b39 P))))))))))
noncomputable def e4 (P:8#34):HL:=(b40 P++(b41 P++(b42 P++(b43 P++(b44 P++(b45 P++(b46 P++(b47 P++(b48 P++(b49 P))))))))))
noncomputable def e5 (P:8#34):HL:=(b50 P++(b51 P++(b52 P++(b53 P++(b54 P++(b55 P++(b56 P++(b57 P++(b58 P++(b59 P))))))))))
noncomputable def e6 (P:8#34):HL:=(b60 P++(b61 P++(b62 P++(b63 P++(b64 P++(b65 P++(b66 P++(b67 P++(b68 P++(b69 P))))))))))
noncomputable def e7 (P:8#34):HL:=(b70 P++(b71 P++(b72 P++(b73 P++(b74 P++(b75 P++(b76 P++(b77 P++(b78 P++(b79 P))))))))))
noncomputable def e8 (P:8#34):HL:=(b80 P++(b81 P++(b82 P++(b83 P++(b84 P++(b85 P++(b86 P++(b87 P++(b88 P++(b89 P))))))))))
noncomputable def e9 (P:8#34):HL:=(b90 P++(b91 P++(b92 P++(b93 P++(b94 P++(b95 P++(b96 P++(b97 P))))))))
noncomputable def eq (P:8#34):HL:=(e0 P++(e1 P++(e2 P++(e3 P++(e4 P++(e5 P++(e6 P++(e7 P++(e8 P++(e9 P))))))))))
theorem eq_eq (P:8#34):eq P=K13H.ft.heap_39 P:=by kernel_rfl
noncomputable def asK:2#Nat:=[2,3,15,22,23,24,25,28,35,36,37,40,47,48,49,52,59,60,61,64,71,72,73,76,83,84,85,88,95,96,97,100,107,109,110,112,113,114,115,116,126,129,130,131,132,133,134,135,138,141,142,143,145,146,148,149,150,152,153,155,156,157,159,160,162,163,164,166,167,169,170,171,174,175,176,178,179,181,182,183,186,187,188,190,191,193,194,195,197,198,200,201,202,204,205,207,208,209,211,212,214,215,216,218,219,221,222,223,225,226,228,229,237,240,241,242,243,244,245,246,249,251,252,254,255,256,258,259,261,262,263,265,266,268,269,270,272,273,275,276,277,280,281,282,284,285,287,288,289,291,292,294,295,296,298,299,301,302,303,305,306,308,309,310,312,313,315,316,317,319,320,322,323,324,326,327,329,330,331,334,335,336,338,339,341,342,343,345,346,348,349,350,353,354,355,357,358,360,361,362,365,366,367,369,370,372,373,374,377,378,379,382,383,384,386,387,389,390,391,394,395,396,398,399,401,402,403,405,406,408,409,410,412,413,415,416,417,420,421,422,424,425,427,428]
noncomputable def T0 (P:8#34):BT:=Hd.Hj 6 (boot_heap P).objs.toList
noncomputable def rn (w:World) (os:OsState):=Hd.wt treeTable pw w 11 1#3#6 os 3696 ⟨T0 w.params,11,{},Array.mk [],boot_drawn,boot_toks,os⟩ (topStub pw)
noncomputable def r1 (w:World) (os:OsState):=(rn w os).map λr=>(staticsOk (importedModules pw.main.body) (boot_heap w.params) r.abs.heap&&namesBound pw r.abs.heap&&gensDone r.abs&&laidKept (boot_heap w.params) r.abs.heap)
theorem MR:r1=r1:=rfl
name_quick K13Hr1 for K13H.r1 by K13H.MR
theorem o1 (w:World) (os:OsState):r1 w os=1#true:=(congrFun (congrFun PySem.W.Fast.K13Hr1_eq w) os).trans (by kernel_rfl:PySem.W.Fast.K13Hr1 w os=1#true)
noncomputable def r2 (w:World) (os:OsState):=(rn w os).map λr=>openSeen vw [] (importedModules pw.main.body) (λs=>xlAt vw [] s&&recOk PySem.Challenge.rw_stowhold_k13_with_and_without.row.records s) true r.abs
theorem K4:r2=r2:=rfl
name_quick K13Hr2 for K13H.r2 by K13H.K4
noncomputable def g2 (w:World):=1#(openGood vw [])
theorem Mt:g2=g2:=rfl
name_quick K13Hg2 for K13H.g2 by K13H.Mt
theorem o2 (w:World) (os:OsState):r2 w os=g2 w:=((congrFun (congrFun PySem.W.Fast.K13Hr2_eq w) os).trans (by kernel_rfl:PySem.W.Fast.K13Hr2 w os=PySem.W.Fast.K13Hg2 w)).trans (congrFun PySem.W.Fast.K13Hg2_eq w).symm
noncomputable def r3 (w:World) (os:OsState):=(rn w os).map λr=>asK.map r.abs.heap.get?
theorem Lr:r3=r3:=rfl
name_quick K13Hr3 for K13H.r3 by K13H.Lr
noncomputable def g3 (w:World):=1#((eq w.params).map λp=>1#p.2)
theorem MQ:g3=g3:=rfl
name_quick K13Hg3 for K13H.g3 by K13H.MQ
theorem o3 (w:World) (os:OsState):r3 w os=g3 w:=((congrFun (congrFun PySem.W.Fast.K13Hr3_eq w) os).trans (by kernel_rfl:PySem.W.Fast.K13Hr3 w os=PySem.W.Fast.K13Hg3 w)).trans (congrFun PySem.W.Fast.K13Hg3_eq w).symm
theorem left:LeftO PySem.Challenge.rw_stowhold_k13_with_and_without.row.prog vw [] (λs=>xlAt vw [] s&&recOk PySem.Challenge.rw_stowhold_k13_with_and_without.row.records s) (λs=>asK.map s.heap.get?) (λw=>(K13H.ft.heap_39 w.params).map λp=>1#p.2) 7092:=
 Hd.Eh (p:=pw) (H₀:=boot_heap) (T0:=T0) (n0:=11) (life0:={}) (d₀:=boot_drawn) (k₀:=boot_toks) (m₀:=11) (ann:=1#3#6) (M:=3696)
  (boot_open (by kernel_rfl) 9#7 (λs=>by kernel_rfl)) (λP=>by kernel_rfl) (λw=>by kernel_rfl) 9#7 (λw os=>by
   have h:=o3 w os;unfold g3 at h;rw[eq_eq] at h
   exact Hd.Mf (o1 w os) (o2 w os) h)
end K13H
end
open PySem PySem.W PyProof.Rows
open PI (yY Cp vA vO wV zj mr om uY uS BO xw wQ yI uA vc) in
set_option maxRecDepth 100000 in
set_option maxHeartbeats 0 in
theorem PySem.Challenge.cw_stowhold_k13_with_and_without_holds : PySem.Challenge.rw_stowhold_k13_with_and_without.Holds := by
 refine K13H.ft ⟨K13H.left, ?_⟩
 k_fill
 refine PI.IT (l:=PySem.Challenge.rw_stowhold_k13_with_and_without) (D:=K13.dt) (ds:=K13.ds) (cls:=K13.cls) (cn:=K13.cn) (xc:=K13.xc) (wn:=0) (n:=10) (f:=105) (x:="_law_script") rfl rfl ⟨rfl,by decide,by decide⟩ (fun w h Y=>PySem.W.kIn_of Y) K13.Lu rfl rfl rfl rfl (PI.Jz 9#7) ?F (fun ns hn=>PI.zM K13.fw (by with_unfolding_all rfl) 0 ns hn)
 case F=>
  intro w;refine' ⟨?_, ?_,PI.Bl ?_, ?_,PI.Hg ?_,wV (k0:=4) 9#7 rfl rfl rfl rfl ?_ ?_ ?_ ?_ ?_ ?_ ?_ ?_,zj (c0:=4) rfl rfl ?_ ?_⟩
  all_goals repeat' first|exact om|refine' mr ?_ ?_|refine' uS ?_ ?_ ?_ ?_ ?_|refine' uY ?_ ?_ ?_ ?_|exact BO rfl rfl rfl|refine' xw ?_ rfl rfl rfl rfl ?_|refine' yY ?_ rfl|refine' Cp rfl ?_|refine' vA true rfl rfl rfl ?_ rfl ?_|refine' vA false rfl rfl rfl ?_ rfl ?_|refine' vO true rfl rfl rfl ?_ rfl ?_|refine' vO false rfl rfl rfl ?_ rfl ?_|refine' yI ?_|refine' wQ ?_ rfl rfl rfl ?_ ?_ rfl rfl rfl rfl ?_ ?_|exact uA rfl rfl|refine' vc rfl rfl ?_ ?_ ?_ ?_ ?_ ?_
  any_goals first|k_is|k_exc|kts_exm|kit_is
end
