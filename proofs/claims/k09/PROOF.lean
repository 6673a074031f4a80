import PyProof.Rows.All
import Wide.All
import OpenK.AllK
import Wide.FinOn
import Lean
import PyProof.EqAt
import PyProof.EqKinds
import PyProof.TupleCall
import KE.KSortTup
import PySem.Challenge.RW_stowhold_k09_fewer_boxes
set_option autoImplicit true
set_option relaxedAutoImplicit true
set_option genSizeOfSpec false
set_option Elab.async false
set_option linter.all false
set_option maxRecDepth 100000
noncomputable section
namespace L2
open PySem PySem.Spec PyProof.Rows
noncomputable abbrev Key:=Sum Int Str
noncomputable def gc:Key->Value->Bool
 | .inl k,v=>Value.isInt k v
 | .inr x,v=>Value.isStrOf x v
noncomputable def Ig (w:World):Key->Int
 | .inl k=>hashInt k
 | .inr x=>hashStr w x
theorem bE:∀{k:Key} {v:Value},gc k v=true->(∃i t,k=Sum.inl i/\v=Value.int i t)∨(∃x t,k=Sum.inr x/\v=Value.str x t)
 | .inl i,v,h=>by
  obtain ⟨t,e⟩:=Value.isInt_shape (k:=i) (v:=v) h
  exact .inl ⟨i,t,rfl,e⟩
 | .inr x,v,h=>by
  obtain ⟨t,e⟩:=Value.isStrOf_shape (x:=x) (v:=v) h
  exact .inr ⟨x,t,rfl,e⟩
theorem we (i:Int) (t:Tok):gc (.inl i) (.int i t)=true:=by simp [gc,Value.isInt]
theorem vT (x:Str) (t:Tok):gc (.inr x) (.str x t)=true:=by simp [gc,Value.isStrOf]
theorem wy (a b:Int):decide ((Sum.inl a:Key)=Sum.inl b)=(a==b):=by
 by_cases e:a=b
 ·subst e;simp
 ·have h:¬(Sum.inl a:Key)=Sum.inl b:=fun q=>e (Sum.inl.inj q)
  rw [decide_eq_false h]
  exact (beq_eq_false_iff_ne.mpr e).symm
theorem uJ (a b:Str):decide ((Sum.inr a:Key)=Sum.inr b)=decide (a=b):=by
 by_cases e:a=b
 ·subst e;simp
 ·have h:¬(Sum.inr a:Key)=Sum.inr b:=fun q=>e (Sum.inr.inj q)
  rw [decide_eq_false h,decide_eq_false e]
theorem B8 (a:Int) (b:Str):decide ((Sum.inl a:Key)=Sum.inr b)=false:=decide_eq_false (fun q=>nomatch q)
theorem Du (a:Str) (b:Int):decide ((Sum.inr a:Key)=Sum.inl b)=false:=decide_eq_false (fun q=>nomatch q)
noncomputable def aG (prog:Program) (w:World):PySem.KeyKind prog w Key where
 is:=gc
 hash:=Ig w
 inj:=fun v a b ha hb=>by
  rcases bE ha with ⟨i,t,rfl,rfl⟩|⟨x,t,rfl,rfl⟩
  ·rcases bE hb with ⟨j,u,rfl,e⟩|⟨y,u,rfl,e⟩
   ·injection e with e1 _;rw [e1]
   ·exact nomatch e
  ·rcases bE hb with ⟨j,u,rfl,e⟩|⟨y,u,rfl,e⟩
   ·exact nomatch e
   ·injection e with e1 _;rw [e1]
 byValue:=fun k v h=>by
  rcases bE h with ⟨i,t,rfl,rfl⟩|⟨x,t,rfl,rfl⟩<;>rfl
 pyHash:=fun hv h=>by
  rcases bE hv with ⟨i,t,rfl,rfl⟩|⟨x,t,rfl,rfl⟩
  ·exact wpAny_pyHash_int h
  ·exact wpAny_pyHash_str h
 eqBool:=fun hu hv h=>by
  rcases bE hu with ⟨i,t,rfl,rfl⟩|⟨x,t,rfl,rfl⟩
  ·rcases bE hv with ⟨j,u,rfl,rfl⟩|⟨y,u,rfl,rfl⟩
   ·rw [wy] at h;exact wpAny_eqBool_int h
   ·rw [B8] at h;exact SeqAt.EqAt.int_str i t y u _ _ _ _ h
  ·rcases bE hv with ⟨j,u,rfl,rfl⟩|⟨y,u,rfl,rfl⟩
   ·rw [Du] at h;exact SeqAt.EqAt.str_int x t j u _ _ _ _ h
   ·rw [uJ] at h;exact wpAny_eqBool_str h
 «strs»:=fun k x t v h=>by
  rcases bE h with ⟨i,u,rfl,e⟩|⟨y,u,rfl,e⟩
  ·exact nomatch e
  ·injection e with e1 _
   subst e1
   cases v<;>rfl
theorem qX (prog:Program) (w:World) (i:Int) (t:Tok):(aG prog w).is (.inl i) (.int i t)=true:=we i t
theorem qV (prog:Program) (w:World) (x:Str) (t:Tok):(aG prog w).is (.inr x) (.str x t)=true:=vT x t
end L2
namespace L2
open PySem PySem.Spec PyProof.Rows
inductive V where
 |non|bl (b:Bool)|int (i:Int)|str (x:Str)|byt (b:Array UInt8)|flt (b:UInt64)|ref (a:Addr)|ty (n:String)
 deriving DecidableEq
noncomputable def RelV:V->Value->Prop
 | .non,u=>u=Value.none
 | .bl b,u=>u=Value.bool b
 | .int i,u=>∃t,u=Value.int i t
 | .str x,u=>∃t,u=Value.str x t
 | .byt b,u=>∃t,u=Value.bytes b t
 | .flt b,u=>∃t,u=Value.float b t
 | .ref a,u=>u=Value.ref a
 | .ty n,u=>u=Value.type n
noncomputable abbrev Vals:List V->List Value->Prop:=Paired RelV
theorem Vals.length {xs:List V} {us:List Value} (r:Vals xs us):xs.length=us.length:=Paired.length r
theorem Vals.get:∀{xs:List V} {us:List Value} {i:Nat} {x:V},Vals xs us->xs[i]?=some x->∃u,us[i]?=some u/\RelV x u
 |_,_,_,_, .nil,e=>by simp at e
 |_,_,0,_, .cons r _,e=>by simp at e;subst e;exact ⟨_,rfl,r⟩
 |_,_,i+1,x, .cons _ t,e=>by
  obtain ⟨u,h1,h2⟩:=Vals.get (i:=i) (x:=x) t (by simpa using e)
  exact ⟨u,by simpa using h1,h2⟩
theorem Vals.set {x:V} {u:Value} (r:RelV x u):∀{xs:List V} {us:List Value} (i:Nat),Vals xs us->Vals (xs.set i x) (us.set i u)
 |_,_,_, .nil=> .nil
 |_,_,0, .cons _ t=> .cons r t
 |_,_,i+1, .cons q t=> .cons q (Vals.set r i t)
theorem Vals.append:∀{xs ys:List V} {us ws:List Value},Vals xs us->Vals ys ws->Vals (xs++ys) (us++ws)
 |_,_,_,_, .nil,s=>s
 |_,_,_,_, .cons r t,s=> .cons r (Vals.append t s)
theorem Vals.take:∀{xs:List V} {us:List Value} (n:Nat),Vals xs us->Vals (xs.take n) (us.take n)
 |_,_,0,_=> .nil
 |_,_,_+1, .nil=> .nil
 |_,_,n+1, .cons r t=> .cons r (Vals.take n t)
theorem Vals.drop:∀{xs:List V} {us:List Value} (n:Nat),Vals xs us->Vals (xs.drop n) (us.drop n)
 |_,_,0,r=>r
 |_,_,_+1, .nil=> .nil
 |_,_,n+1, .cons _ t=>Vals.drop n t
noncomputable def cF:Option V->Option Value->Prop
 |some v,some u=>RelV v u
 |none,none=>True
 |_,_=>False
noncomputable def KV {κ:Type}:List (κ×V)->List (κ×Value)->Prop:=Paired fun (p:κ×V) (q:κ×Value)=>p.1=q.1/\RelV p.2 q.2
noncomputable def kV:Key->V
 | .inl i=> .int i
 | .inr x=> .str x
inductive HO where
 |lst (xs:List V)
 |tup (xs:List V)
 |dK (kvs:List (Key×V))|dT (kvs:List (List Key×V))
 |set (S:Int->Bool) (n:Nat)
 |ins (C dx:Addr) (fs:List (Str×V))
 |own (x:Addr)
 |xd (fs:List (Str×V))
 |met (f x:Addr)
 |rng (lo hi:Int)
 |aC (o:Obj) (u:HO)
 |tbl (ps:Array Value)
 |ext (φ:Heap->Prop)
noncomputable abbrev Hp:=Addr->Option HO
noncomputable def upd (H:Hp) (a:Addr) (o:HO):Hp:=fun b=>if b=a then some o else H b
theorem aj {H:Hp} {a:Addr} {o:HO}:upd H a o a=some o:=by unfold upd;rw [if_pos rfl]
theorem ao {H:Hp} {a b:Addr} {o:HO} (h:b≠a):upd H a o b=H b:=by unfold upd;rw [if_neg h]
theorem gL {H:Hp} {a:Addr} {o u:HO}:upd (upd H a o) a u=upd H a u:=by
 funext b;unfold upd;split<;>rfl
theorem oJ {H:Hp} {a b:Addr} {o u:HO} (h:H a=some o) (h':H b=some u) (d:o≠u):a≠b:=by
 intro e;subst e;rw [h] at h';exact d (Option.some.inj h')
theorem bj {H:Hp} {a b:Addr} {o:HO} (h:H a=some o) (h':H b=none):a≠b:=by
 intro e;subst e;rw [h] at h';cases h'
section
variable (P:Program) (w:World)
noncomputable def aN (H:Hp) (h:Heap) (a:Addr):HO->Prop
 | .lst xs=>xs.length<=sizeLine/\∃(its:List Value) (n:Nat),Vals xs its/\h.get? a=some {cls:= .type "list",data:= .seq its.toArray n}
 | .tup xs=>xs.length<=sizeLine/\∃its:List Value,Vals xs its/\IsTup h a its.toArray
 | .dK kvs=>kvs.length<=sizeLine/\(a==sysModules)=false/\∃vs,KV kvs vs/\h.DictOf (aG P w) a vs
 | .dT kvs=>kvs.length<=sizeLine/\(a==sysModules)=false/\∃xs:List (List Key×Addr×Value),
   Paired (fun (p:List Key×V) (q:List Key×Addr×Value)=>p.1=q.1/\H q.2.1=some (.tup (p.1.map kV))/\RelV p.2 q.2.2) kvs xs/\
   ∃o es ep,h.get? a=some o/\o.ExactDict/\o.data= .dict es ep/\es.toList=xs.map (entryOfKey (tupleKind (aG P w)))/\(xs.map (·.1)).Nodup
 | .set S n=>h.SetOf (intKind P w) a S n
 | .ins C dx fs=>H dx=some (.own a)/\fs.length<=1000/\dx≠a/\h.get? a=some (PySem.W.instObj C dx)/\
   ∃mA,h.Ns1 dx mA/\(∀f,cF (fs.lookup f) (mA f))/\PySem.Within mA (fs.map (·.1))
 | .own _=>∃o,h.get? a=some o
 | .xd fs=>∃mA,h.Ns1 a mA/\∀f,cF (fs.lookup f) (mA f)
 | .rng lo hi=>∃t u v,h.get? a=some {cls:= .type "range",data:= .fields #[.int lo t, .int hi u, .int 1 v]}
 | .aC o u=>h.get? a=some o/\aN H h a u
 | .tbl ps=>h.get? a=some {cls:= .none,data:= .fields ps}
 | .met f x=>h.get? a=some (PySem.W.methodObj (.ref f) (.ref x))
 | .ext φ=>φ h/\(∃o,h.get? a=some o)/\∀h1 h2:Heap,φ h1->(∀o,h1.get? a=some o->h2.get? a=some o)->φ h2
noncomputable def bq (H:Hp) (h:Heap):Prop:=∀a o,H a=some o->aN P w H h a o
end
section
variable {P:Program} {w:World} {H H':Hp} {h h':Heap} {a:Addr} {o:HO}
theorem aN.lt (x:aN P w H h a o):a<h.objs.size:=by
 cases o with
 |lst xs=>obtain ⟨_,_,_,_,e⟩:=x;exact Heap.lt_size e
 |tup xs=>obtain ⟨_,_,_,p⟩:=x;exact p.lt
 |dK kvs=>obtain ⟨_,_,_,_,o,_,_,e,_⟩:=x;exact Heap.lt_size e
 |dT kvs=>obtain ⟨_,_,_,_,o,_,_,e,_⟩:=x;exact Heap.lt_size e
 |set S n=>obtain ⟨o,_,_,_,e,_⟩:=x;exact Heap.lt_size e
 |ins C dx fs=>obtain ⟨_,_,_,e,_⟩:=x;exact Heap.lt_size e
 |own y=>obtain ⟨_,e⟩:=x;exact Heap.lt_size e
 |xd fs=>obtain ⟨_,⟨_,_,_,e,_⟩,_⟩:=x;exact Heap.lt_size e
 |rng lo hi=>obtain ⟨_,_,_,e⟩:=x;exact Heap.lt_size e
 |aC ob u=>obtain ⟨e,_⟩:=x;exact Heap.lt_size e
 |tbl ps=>exact Heap.lt_size (show h.get? a=some _ from x)
 |met f y=>exact Heap.lt_size (show h.get? a=some _ from x)
 |ext φ=>obtain ⟨_,⟨_,e⟩,_⟩:=x;exact Heap.lt_size e
theorem Paired.tM {α β:Type} {F G:α->β->Prop}:∀{l₁:List α} {l₂:List β},Paired F l₁ l₂->(∀a b,F a b->G a b)->Paired G l₁ l₂
 |_,_, .nil,_=> .nil
 |_,_, .cons r t,f=> .cons (f _ _ r) (Paired.tM t f)
theorem aN.ij (x:aN P w H h a o) (k:∀b u,(b=a∨H b=some (.own a))->h.get? b=some u->h'.get? b=some u)
  (ho:∀b,H b=some (.own a)->H' b=some (.own a)) (ht:∀b xs,H b=some (.tup xs)->H' b=some (.tup xs)):aN P w H' h' a o:=by
 induction o with
 |lst xs=>obtain ⟨z,its,n,r,e⟩:=x;exact ⟨z,its,n,r,k _ _ (.inl rfl) e⟩
 |tup xs=>obtain ⟨z,its,r,ob,e,c⟩:=x;exact ⟨z,its,r,ob,k _ _ (.inl rfl) e,c⟩
 |dK kvs=>obtain ⟨z,y,vs,r,ob,es,ep,e,c⟩:=x;exact ⟨z,y,vs,r,ob,es,ep,k _ _ (.inl rfl) e,c⟩
 |dT kvs=>
  obtain ⟨z,y,xs,r,ob,es,ep,e,c⟩:=x
  exact ⟨z,y,xs,Paired.tM r fun p q z=>⟨z.1,ht _ _ z.2.1,z.2.2⟩,ob,es,ep,k _ _ (.inl rfl) e,c⟩
 |set S n=>obtain ⟨ob,es,ep,t,e,c⟩:=x;exact ⟨ob,es,ep,t,k _ _ (.inl rfl) e,c⟩
 |ins C dx fs=>
  obtain ⟨d,z,ne,e,mA,⟨od,es,ep,e2,c⟩,r⟩:=x
  exact ⟨ho _ d,z,ne,k _ _ (.inl rfl) e,mA,⟨od,es,ep,k _ _ (.inr d) e2,c⟩,r⟩
 |own y=>obtain ⟨ob,e⟩:=x;exact ⟨ob,k _ _ (.inl rfl) e⟩
 |xd fs=>obtain ⟨mA,⟨od,es,ep,e,c⟩,r⟩:=x;exact ⟨mA,⟨od,es,ep,k _ _ (.inl rfl) e,c⟩,r⟩
 |rng lo hi=>obtain ⟨t,u,v,e⟩:=x;exact ⟨t,u,v,k _ _ (.inl rfl) e⟩
 |aC ob u ih=>obtain ⟨e,q⟩:=x;exact ⟨k _ _ (.inl rfl) e,ih q⟩
 |tbl ps=>
  have e:h.get? a=some {cls:= .none,data:= .fields ps}:=x
  show h'.get? a=some {cls:= .none,data:= .fields ps}
  exact k a _ (.inl rfl) e
 |met f y=>
  have e:h.get? a=some (PySem.W.methodObj (.ref f) (.ref y)):=x
  show h'.get? a=some (PySem.W.methodObj (.ref f) (.ref y))
  exact k a _ (.inl rfl) e
 |ext φ=>obtain ⟨p,⟨o,e⟩,st⟩:=x;exact ⟨st _ _ p fun o q=>k _ _ (.inl rfl) q,⟨o,k _ _ (.inl rfl) e⟩,st⟩
theorem bq.lt (x:bq P w H h) (e:H a=some o):a<h.objs.size:=(x a o e).lt
theorem bq.fresh (x:bq P w H h) (e:h.objs.size<=a):H a=none:=by
 cases q:H a with
 |none=>rfl
 |some u=>exact absurd (Nat.lt_of_lt_of_le (x.lt q) e) (Nat.lt_irrefl _)
theorem bq.kept (x:bq P w H h) (k:∀b u,h.get? b=some u->h'.get? b=some u):bq P w H h':=fun a o e=>
 (x a o e).ij (fun b u _ q=>k b u q) (fun _ q=>q) fun _ _ q=>q
theorem bq.laid (x:bq P w H h) (k:∀b u,h.get? b=some u->h'.get? b=some u) (hp:h.objs.size<=a) (new:aN P w (upd H a o) h' a o):bq P w (upd H a o) h':=fun b u e=>by
 have hn:=x.fresh hp
 by_cases hb:b=a
 ·subst hb;rw [aj] at e;cases e;exact new
 ·rw [ao hb] at e
  exact (x b u e).ij (fun c v _ q=>k c v q) (fun c q=>by rw [ao (bj q hn)];exact q) fun c xs q=>by rw [ao (bj q hn)];exact q
end
noncomputable def Rd (H:Hp) (a:Addr) (u:HO):Prop:=H a=some u∨∃o,H a=some (.aC o u)
theorem Rd.ok {P:Program} {w:World} {H:Hp} {a:Addr} {u:HO} (r:Rd H a u) (x:bq P w H h):aN P w H h a u:=by
 rcases r with r|⟨o,r⟩
 ·exact x a u r
 ·obtain ⟨_,q⟩:=x a _ r
  exact q
noncomputable def vf:Option HO->Prop
 |some (.lst _)=>True
 |some (.dK _)=>True
 |some (.dT _)=>True
 |some (.set _ _)=>True
 |some (.ins _ _ _)=>True
 |some (.ext _)=>True
 |_=>False
section
variable {P:Program} {w:World} {H:Hp} {h h':Heap} {x e:Addr} {o':HO}
theorem bq.write (ok:bq P w H h) (mu:vf (H x)) (he:e=x∨H e=some (.own x)) (k:∀b u,b≠e->h.get? b=some u->h'.get? b=some u) (heo:∃u,h'.get? e=some u)
  (new:aN P w (upd H x o') h' x o'):bq P w (upd H x o') h':=fun b u q=>by
 have nown:∀c y,H c=some (.own y)->c≠x:=fun c y r z=>by subst z;rw [r] at mu;exact mu
 have ntup:∀c xs,H c=some (.tup xs)->c≠x:=fun c xs r z=>by subst z;rw [r] at mu;exact mu
 by_cases hb:b=x
 ·subst hb;rw [aj] at q;cases q;exact new
 ·rw [ao hb] at q
  by_cases hbe:b=e
  ·have q':H b=some (.own x):=by
    rcases he with z|z
    ·exact absurd (hbe.trans z) hb
    ·rw [hbe];exact z
   rw [q] at q';cases q'
   obtain ⟨v,hv⟩:=heo
   exact ⟨v,by rw [hbe];exact hv⟩
  ·refine (ok b u q).ij (fun c v hc r=>k c v ?_ r) (fun c r=>by rw [ao (nown c b r)];exact r) fun c xs r=>by rw [ao (ntup c xs r)];exact r
   rcases hc with rfl|hc
   ·exact hbe
   ·rintro rfl
    rcases he with z|z
    ·exact nown c b hc z
    ·rw [hc] at z;cases z;exact hb rfl
end
structure Un (fs ex:List Addr) (H H':Hp) (h h':Heap):Prop where
 keep:∀b o,h.get? b=some o->H b=none->b∉fs->b∉ex->h'.get? b=some o
 slot:∀b o,h.get? b=some o->H b=none->b∈fs->b∉ex->∃sl,h'.get? b=some {o with slots:=sl}
 free:∀b o,h.get? b=some o->H b=none->b∉ex->H' b=none
 there:∀b o,h.get? b=some o->b∉ex->∃o',h'.get? b=some o'
 tups:∀b xs,H b=some (.tup xs)->H' b=some (.tup xs)
 aV:∀b o u,H b=some (.aC o u)->H' b=some (.aC o u)
 tbls:∀b ps,H b=some (.tbl ps)->∃more,H' b=some (.tbl (ps++more))
section
variable {fs fs' ex ex':List Addr} {H H1 H2:Hp} {h h1 h2 h':Heap} {a x e:Addr} {o:HO}
theorem Un.any (u:Un fs ex H H1 h h1) {b:Addr} (q:h.get? b=some ob) (n:H b=none) (hx:b∉ex):∃sl,h1.get? b=some {ob with slots:=sl}:=by
 by_cases hb:b∈fs
 ·exact u.slot b ob q n hb hx
 ·exact ⟨ob.slots,u.keep b ob q n hb hx⟩
theorem Un.kept (k:∀b u,h.get? b=some u->h'.get? b=some u):Un fs ex H H h h':=
 ⟨fun b ob q _ _ _=>k b ob q,fun b ob q _ _ _=>⟨ob.slots,k b ob q⟩,fun _ _ _ n _=>n,fun b ob q _=>⟨ob,k b ob q⟩,fun _ _ q=>q,fun _ _ _ q=>q,fun _ ps q=>⟨#[],by rw [q];simp⟩⟩
theorem Un.refl:Un fs ex H H h h:=Un.kept fun _ _ q=>q
theorem Un.laid (k:∀b u,h.get? b=some u->h'.get? b=some u) (hp:h.objs.size<=a) (hn:H a=none):Un fs ex H (upd H a o) h h' where
 keep:=fun b u q _ _ _=>k b u q
 slot:=fun b u q _ _ _=>⟨u.slots,k b u q⟩
 free:=fun b u q n _=>by rw [ao (Nat.ne_of_lt (Nat.lt_of_lt_of_le (Heap.lt_size q) hp))];exact n
 there:=fun b u q _=>⟨u,k b u q⟩
 tups:=fun b xs q=>by rw [ao (bj q hn)];exact q
 aV:=fun b u xs q=>by rw [ao (bj q hn)];exact q
 tbls:=fun b ps q=>⟨#[],by rw [ao (bj q hn),q];simp⟩
theorem Un.write (mu:vf (H x)) (he:e=x∨H e=some (.own x)) (k:∀b u,b≠e->h.get? b=some u->h'.get? b=some u) (heo:∃u,h'.get? e=some u):Un fs ex H (upd H x o) h h':=by
 have hx:∀b,H b=none->b≠x:=fun b n z=>by subst z;rw [n] at mu;exact mu
 have hb:∀b,H b=none->b≠e:=fun b n z=>by
  subst z
  rcases he with r|r
  ·exact hx b n r
  ·rw [n] at r;cases r
 have hm:∀b u,H b=some u->¬vf (some u)->b≠x:=fun b u q nm z=>by subst z;rw [q] at mu;exact nm mu
 refine ⟨fun b u q n _ _=>k b u (hb b n) q,fun b u q n _ _=>⟨u.slots,k b u (hb b n) q⟩,fun b u q n _=>by rw [ao (hx b n)];exact n,fun b u q _=> ?_,
  fun b xs q=>by rw [ao (hm b _ q fun z=>z)];exact q,fun b u xs q=>by rw [ao (hm b _ q fun z=>z)];exact q,fun b ps q=>⟨#[],by rw [ao (hm b _ q fun z=>z),q];simp⟩⟩
 by_cases hbe:b=e
 ·subst hbe;exact heo
 ·exact ⟨u,k b u hbe q⟩
theorem Un.mono (u:Un fs ex H H1 h h1) (hs:∀b∈fs,b∈fs') (hx:∀b∈ex,b∈ex'):Un fs' ex' H H1 h h1:=
 ⟨fun b ob q n hb he=>u.keep b ob q n (fun z=>hb (hs b z)) fun z=>he (hx b z),fun _ _ q n _ he=>u.any q n fun z=>he (hx _ z),fun b ob q n he=>u.free b ob q n fun z=>he (hx b z),fun b ob q he=>u.there b ob q fun z=>he (hx b z),u.tups,u.aV,u.tbls⟩
end
noncomputable def zN (h:Heap) (H:Hp):List Addr:=(List.range h.objs.size).filter fun a=>(H a).isSome
noncomputable def iA (h:Heap) (H:Hp):Heap:=PySem.W.hideAll h (zN h H)
theorem uO (h:Heap) (H:Hp):(iA h H).objs.size=h.objs.size:=PySem.W.hideAll_size _ _
theorem xo {h:Heap} {H:Hp} {b:Addr} (e:h.get? b=some o) (n:H b=none):(iA h H).get? b=some o:=
 PySem.W.hideAll_get _ e fun hm=>by
  have q:(H b).isSome=true:=(List.mem_filter.mp hm).2
  rw [n] at q;simp at q
theorem Ay {h:Heap} {H:Hp} {b:Addr} (e:(iA h H).get? b=some o):h.get? b=some o/\H b=none:=by
 have e':h.get? b=some o:=PySem.W.of_hideAll (zN h H) e
 refine ⟨e', ?_⟩
 cases q:H b with
 |none=>rfl
 |some x=>
  have hm:b∈zN h H:=List.mem_filter.mpr ⟨List.mem_range.mpr (Heap.lt_size e'),by simp [q]⟩
  have z:(iA h H).get? b=none:=PySem.W.hideAll_none (zN h H) hm
  rw [z] at e;cases e
noncomputable def Ar (g h:Heap) (L:Addr):List (Addr×Obj):=(List.range h.objs.size).filterMap fun a=>if a=L∨(g.get? a).isSome=true then none else (h.get? a).map fun o=>(a,o)
noncomputable def rest (g h:Heap) (L d:Addr):List (Addr×Obj):=(Ar g h L).filter fun p=>decide (p.1≠d)
end L2
namespace L2
open PySem PySem.Spec PyProof.Rows
structure Mod (K:PySem.W.Frag) (mg:Str->Option Value) (base:Heap):Prop where
 kin:K.In base
 glob:base.Ns mainGlobals mg
 blt:∃mb,base.Ns builtinsNs mb/\∀x:Str,x≠"__name__"->mb x=bootBuiltins x
 nolimit:base.NoLimit
structure Cx where
 prog:Program
 w:World
 K:PySem.W.Frag
 mg:Str->Option Value
 base:Heap
 A:Around
 N:List Str
 s₀:Shared
 H₀:Hp
 env:Env
 outer:List Env
 stack:List Env
 ex:List Addr
 fn:Str->Bool
 calm:Bool
 pn:List (Addr×Obj)
 xe:Value->Shared->Prop
noncomputable def cA (l:List Env):List Addr:=l.filterMap (·.frame)
noncomputable abbrev Cx.fs (X:Cx):List Addr:=cA X.outer
noncomputable def uH (sc:Scope) (x:Str):Prop:=sc.names.lookup x=some .local∨sc.names.lookup x=some .cell∨sc.names.lookup x=some .free
noncomputable def Loc (sc:Scope) (x:Str):Prop:=sc.names.lookup x=some .local∨sc.names.lookup x=some .cell
noncomputable def Look (env:Env) (h:Heap) (m:Str->Option Value) (x:Str) (u:Value):Prop:=
 (env.kindOf x=some .local/\m x=some u)∨((env.kindOf x=some .cell∨env.kindOf x=some .free)/\∃c,env.cells.lookup x=some c/\h.IsCell c (some u))
structure Cx.Ok (X:Cx):Prop where
 mod:Mod X.K X.mg X.base
 kind:X.env.scope.kind= .function
 glob:X.env.globals=mainGlobals
 blt:X.env.builtins=builtinsNs
 above:X.s₀.heap.objs.size<=X.env.locals
 inj:∀x y c,X.env.cells.lookup x=some c->X.env.cells.lookup y=some c->x=y
 has:∀x,(X.env.kindOf x=some .cell∨X.env.kindOf x=some .free)->∃c,X.env.cells.lookup x=some c
 cab:∀x c,X.fn x=true->X.env.cells.lookup x=some c->X.s₀.heap.objs.size<=c
 hd:X.calm=true->X.A.handled=none
 frames:X.A.frames=some X.stack
 stk:X.stack=X.outer∨(X.stack=X.env::X.outer/\X.env.frame=some X.env.locals)
 exf:∀b∈X.ex,b≠X.env.locals/\∀x c,X.env.cells.lookup x=some c->c≠b
 bs:∀b o,X.base.get? b=some o->X.s₀.heap.get? b=some o/\X.H₀ b=none
 bsz:X.base.objs.size<=X.s₀.heap.objs.size
 noex:∀b o,X.base.get? b=some o->b∉X.ex
 exfs:∀b∈X.ex,b∉X.fs
 cO:X.s₀.heap.FunFrames X.base X.outer
 frf:∀b∈X.fs,X.H₀ b=none
structure Inv (X:Cx) (pins:List (Addr×Obj)) (σ:List (Option V)) (H:Hp) (s:Shared):Prop where
 ok:X.Ok
 os:s.os=X.s₀.os
 bare:AllBare s.gens
 base:Un X.fs X.ex X.H₀ H X.s₀.heap s.heap
 loc:∃m,s.heap.Ns X.env.locals m/\∀(i:Nat) (x:Str) (v:V),X.N[i]?=some x->σ[i]?=some (some v)->uH X.env.scope x->∃u,RelV v u/\Look X.env s.heap m x u
 cell:∀x c,X.env.cells.lookup x=some c->∃v,s.heap.IsCell c v
 free:H X.env.locals=none
 freeC:∀x c,X.env.cells.lookup x=some c->H c=none
 pin:∀p∈X.pn++pins,s.heap.get? p.1=some p.2/\H p.1=none/\p.1≠X.env.locals/\p.1∉X.fs/\∀v,p.2.data≠ .cell v
 ah:bq X.prog X.w H s.heap
 len:σ.length=X.N.length
section
variable {X:Cx} {pins:List (Addr×Obj)} {σ:List (Option V)} {H H':Hp} {s:Shared} {h':Heap}
theorem Cx.Ok.JU (ok:X.Ok) {b:Addr} (e:X.base.get? b=some o):b∉X.fs:=fun hb=>by
 have:=(ok.cO.mem hb).1
 rw [e] at this;cases this
theorem Inv.bs (I:Inv X pins σ H s):∀b o,X.base.get? b=some o->s.heap.get? b=some o/\H b=none:=fun b o e=>
 ⟨I.base.keep b o (I.ok.bs b o e).1 (I.ok.bs b o e).2 (I.ok.JU e) (I.ok.noex b o e),I.base.free b o (I.ok.bs b o e).1 (I.ok.bs b o e).2 (I.ok.noex b o e)⟩
theorem Inv.bk (I:Inv X pins σ H s):∀b o,X.base.get? b=some o->s.heap.get? b=some o:=fun b o e=>(I.bs b o e).1
theorem Inv.mod (I:Inv X pins σ H s):Mod X.K X.mg X.base:=I.ok.mod
theorem Inv.dO (I:Inv X pins σ H s):X.K.In s.heap:=I.ok.mod.kin.keeps I.bk
theorem Inv.lt (I:Inv X pins σ H s):X.env.locals<s.heap.objs.size:=let ⟨_,hn,_⟩:=I.loc;hn.lt
theorem Inv.sz (I:Inv X pins σ H s):X.s₀.heap.objs.size<=s.heap.objs.size:=Nat.le_trans I.ok.above (Nat.le_of_lt I.lt)
theorem Inv.Cy (I:Inv X pins σ H s) {a:Addr} (h:s.heap.objs.size<=a):a∉X.fs:=fun hb=>by
 obtain ⟨_,o,ho,_⟩:=I.ok.cO.mem hb
 exact absurd (Nat.lt_of_lt_of_le (Heap.lt_size ho) (Nat.le_trans I.sz h)) (Nat.lt_irrefl _)
theorem Inv.qD (I:Inv X pins σ H s):∀x c,X.env.cells.lookup x=some c->c≠X.env.locals:=fun x c e z=>by
 obtain ⟨v,o,ho,hd⟩:=I.cell x c e
 obtain ⟨m,⟨o',es,ep,ho',hd',_⟩,_⟩:=I.loc
 rw [z,ho'] at ho;cases ho;rw [hd'] at hd;cases hd
theorem Inv.cO (I:Inv X pins σ H s):s.heap.FunFrames X.base X.outer:=by
 have all:∀(l:List Env),(∀b∈cA l,b∈X.fs)->X.s₀.heap.FunFrames X.base l->s.heap.FunFrames X.base l:=by
  intro l
  induction l with
  |nil=>intro _ _;trivial
  |cons env r ih=>
   intro hs hl
   obtain ⟨hk,⟨L,o,hf,hn,ho,hd⟩,hr⟩:=hl
   have hL:L∈X.fs:=hs L (by unfold cA;rw [List.filterMap_cons,hf];exact List.mem_cons_self)
   obtain ⟨sl,e⟩:=I.base.slot L o ho (I.ok.frf L hL) hL fun z=>I.ok.exfs L z hL
   exact ⟨hk,⟨L,_,hf,hn,e,hd⟩,ih (fun b hb=>hs b (by unfold cA;rw [List.filterMap_cons,hf];exact List.mem_cons_of_mem _ hb)) hr⟩
 exact all X.outer (fun _ hb=>hb) I.ok.cO
theorem Inv.stack (I:Inv X pins σ H s):s.heap.FunFrames X.base X.stack:=by
 rcases I.ok.stk with e|⟨e,hf⟩
 ·rw [e];exact I.cO
 ·rw [e]
  obtain ⟨m,hn,_⟩:=I.loc
  refine .cons (by rw [I.ok.kind];decide) hf hn ?_ I.cO
  exact Heap.get?_none_of_le (Nat.le_trans I.ok.bsz I.ok.above)
theorem Inv.qA (I:Inv X pins σ H s):∀b∈cA X.stack,b∈X.env.locals::X.fs:=fun b hb=>by
 rcases I.ok.stk with e|⟨e,hf⟩
 ·rw [e] at hb;exact List.mem_cons_of_mem _ hb
 ·rw [e] at hb
  unfold cA at hb
  rw [List.filterMap_cons,hf] at hb
  exact hb
theorem Inv.jD (I:Inv X pins σ H s):∀b∈cA X.stack,H b=none:=fun b hb=>by
 rcases List.mem_cons.mp (I.qA b hb) with e|hb
 ·rw [e];exact I.free
 ·obtain ⟨_,o,ho,_⟩:=I.ok.cO.mem hb
  exact I.base.free b o ho (I.ok.frf b hb) fun z=>I.ok.exfs b z hb
theorem Inv.step {t':Nat} {ch:List Addr} (I:Inv X pins σ H s)
  (hch:∀b∈ch,(b∈X.ex∨X.s₀.heap.objs.size<=b)/\b≠X.env.locals/\(∀x c,X.env.cells.lookup x=some c->c≠b)/\∀p∈X.pn++pins,p.1≠b)
  (keep:∀b o,b≠X.env.locals->b∉X.fs->b∉ch->s.heap.get? b=some o->H b=none->h'.get? b=some o)
  (slot:∀b o,b≠X.env.locals->b∈X.fs->b∉ch->s.heap.get? b=some o->H b=none->∃sl,h'.get? b=some {o with slots:=sl}) (free:∀b o,b∉ch->s.heap.get? b=some o->H b=none->H' b=none)
  (there:∀b o,b∉ch->s.heap.get? b=some o->∃o',h'.get? b=some o')
  (tups:∀b xs,H b=some (.tup xs)->H' b=some (.tup xs)) (aV:∀b o u,H b=some (.aC o u)->H' b=some (.aC o u)) (tbls:∀b ps,H b=some (.tbl ps)->∃more,H' b=some (.tbl (ps++more)))
  (ns:∀m,s.heap.Ns X.env.locals m->h'.Ns X.env.locals m) (ah:bq X.prog X.w H' h') (hg:AllBare g'):
  Inv X pins σ H' {s with heap:=h',gens:=g',drawn:=d',toks:=t'}:=by
 have neL:∀b o,X.s₀.heap.get? b=some o->b≠X.env.locals:=fun b o e=>Nat.ne_of_lt (Nat.lt_of_lt_of_le (Heap.lt_size e) I.ok.above)
 have neC:∀b o,X.s₀.heap.get? b=some o->b∉X.ex->b∉ch:=fun b o e hx hb=>by
  rcases (hch b hb).1 with z|z
  ·exact hx z
  ·exact absurd (Nat.lt_of_lt_of_le (Heap.lt_size e) z) (Nat.lt_irrefl _)
 have cellK:∀x c,X.env.cells.lookup x=some c->∀v,s.heap.IsCell c v->h'.IsCell c v:=fun x c e v z904=>by
  obtain ⟨o,ho,hd⟩:=z904
  have nch:c∉ch:=fun z=>(hch c z).2.2.1 x c e rfl
  by_cases hc:c∈X.fs
  ·obtain ⟨sl,q⟩:=slot c o (I.qD x c e) hc nch ho (I.freeC x c e)
   exact ⟨_,q,hd⟩
  ·exact ⟨o,keep c o (I.qD x c e) hc nch ho (I.freeC x c e),hd⟩
 refine ⟨I.ok,I.os,hg,⟨fun b o e n hb hx=> ?_,fun b o e n hb hx=> ?_,fun b o e n hx=> ?_,fun b o e hx=> ?_,fun b xs e=>tups b xs (I.base.tups b xs e),fun b o xs e=>aV b o xs (I.base.aV b o xs e),fun b ps e=> ?_⟩, ?_,fun x c e=> ?_, ?_,fun x c e=> ?_,fun p hp=> ?_,ah,I.len⟩
 ·exact keep b o (neL b o e) hb (neC b o e hx) (I.base.keep b o e n hb hx) (I.base.free b o e n hx)
 ·obtain ⟨sl,e1⟩:=I.base.slot b o e n hb hx
  obtain ⟨sl',e2⟩:=slot b _ (neL b o e) hb (neC b o e hx) e1 (I.base.free b o e n hx)
  exact ⟨sl',e2⟩
 ·obtain ⟨o',e1⟩:=I.base.there b o e hx
  exact free b o' (neC b o e hx) e1 (I.base.free b o e n hx)
 ·obtain ⟨o',e1⟩:=I.base.there b o e hx
  exact there b o' (neC b o e hx) e1
 ·obtain ⟨m1,e1⟩:=I.base.tbls b ps e
  obtain ⟨m2,e2⟩:=tbls b _ e1
  exact ⟨m1++m2,by rw [e2,Array.append_assoc]⟩
 ·obtain ⟨m,hn,hl⟩:=I.loc
  refine ⟨m,ns m hn,fun i x v e1 e2 e3=> ?_⟩
  obtain ⟨u,r,l⟩:=hl i x v e1 e2 e3
  refine ⟨u,r, ?_⟩
  rcases l with l|⟨k,c,e,z⟩
  ·exact .inl l
  ·exact .inr ⟨k,c,e,cellK x c e _ z⟩
 ·obtain ⟨v,z⟩:=I.cell x c e
  exact ⟨v,cellK x c e v z⟩
 ·obtain ⟨m,⟨o,_,_,ho,_⟩,_⟩:=I.loc
  exact free _ o (fun z=>(hch _ z).2.1 rfl) ho I.free
 ·obtain ⟨v,o,ho,hd⟩:=I.cell x c e
  exact free c o (fun z=>(hch c z).2.2.1 x c e rfl) ho (I.freeC x c e)
 ·obtain ⟨e,n,ne,nf,d⟩:=I.pin p hp
  have nch:p.1∉ch:=fun z=>(hch p.1 z).2.2.2 p hp rfl
  exact ⟨keep p.1 p.2 ne nf nch e n,free p.1 p.2 nch e n,ne,nf,d⟩
theorem Inv.un {t':Nat} (I:Inv X pins σ H s) (u:Un X.fs [] H H' s.heap h') (ah:bq X.prog X.w H' h'):Inv X pins σ H' {s with heap:=h',toks:=t'}:=by
 obtain ⟨m,⟨o,es,ep,ho,r⟩,_⟩:=id I.loc
 obtain ⟨sl,hL⟩:=u.any ho I.free (by simp)
 exact I.step (g':=s.gens) (d':=s.drawn) (ch:=[]) (fun _ z=>nomatch z) (fun b o _ hb _ e n=>u.keep b o e n hb (by simp)) (fun b o _ hb _ e n=>u.slot b o e n hb (by simp)) (fun b o _ e n=>u.free b o e n (by simp)) (fun b o _ e=>u.there b o e (by simp)) u.tups u.aV u.tbls (fun m' hm=>by
  obtain ⟨o',es',ep',ho',r'⟩:=hm
  rw [ho] at ho';cases ho'
  exact ⟨_,es',ep',hL,r'⟩) ah I.bare
theorem Inv.call {t':Nat} {ch:List Addr} (I:Inv X pins σ H s) (u:Un (cA X.stack) ch H H' s.heap h') (ah:bq X.prog X.w H' h') (hg:AllBare g')
  (hch:∀b∈ch,(b∈X.ex∨X.s₀.heap.objs.size<=b)/\b≠X.env.locals/\(∀x c,X.env.cells.lookup x=some c->c≠b)/\∀p∈X.pn++pins,p.1≠b):
  Inv X pins σ H' {s with heap:=h',gens:=g',drawn:=d',toks:=t'}:=by
 obtain ⟨m,⟨o,es,ep,ho,r⟩,_⟩:=id I.loc
 obtain ⟨sl,hL⟩:=u.any ho I.free fun z=>(hch _ z).2.1 rfl
 exact I.step (ch:=ch) hch (fun b o hL hb hc e n=>u.keep b o e n (fun z=>(List.mem_cons.mp (I.qA b z)).elim hL hb) hc) (fun b o _ _ hc e n=>u.any e n hc) (fun b o hc e n=>u.free b o e n hc) (fun b o hc e=>u.there b o e hc) u.tups u.aV u.tbls (fun m' hm=>by
  obtain ⟨o',es',ep',ho',r'⟩:=hm
  rw [ho] at ho';cases ho'
  exact ⟨_,es',ep',hL,r'⟩) ah hg
theorem Inv.turned {t':Nat} (I:Inv X pins σ H s) (k:∀b o,b≠it->s.heap.get? b=some o->h'.get? b=some o) (hn:H it=none) (hL:it≠X.env.locals)
  (h1:it∈X.ex∨X.s₀.heap.objs.size<=it) (h2:∀x c,X.env.cells.lookup x=some c->c≠it) (h3:∀p∈X.pn++pins,p.1≠it):Inv X pins σ H {s with heap:=h',toks:=t'}:=by
 have nit:∀b u,H b=some u->b≠it:=fun b u e z=>by rw [z,hn] at e;cases e
 refine I.step (g':=s.gens) (d':=s.drawn) (ch:=[it]) (fun b hb=> ?_) (fun b o _ _ hc e _=>k b o (fun z=>hc (by simp [z])) e) (fun b o _ _ hc e _=>⟨o.slots,k b o (fun z=>hc (by simp [z])) e⟩) (fun _ _ _ _ n=>n)
  (fun b o hc e=>⟨o,k b o (fun z=>hc (by simp [z])) e⟩) (fun _ _ e=>e) (fun _ _ _ e=>e) (fun b ps e=>⟨#[],by rw [e];simp⟩) (fun m hm=> ?_) (fun b u e=> ?_) I.bare
 ·have e:b=it:=by simpa using hb
  subst e
  exact ⟨h1,hL,h2,h3⟩
 ·obtain ⟨o,es,ep,ho,r⟩:=hm
  exact ⟨o,es,ep,k _ o (Ne.symm hL) ho,r⟩
 ·refine (I.ah b u e).ij (fun c v hc q=>k c v ?_ q) (fun _ q=>q) fun _ _ q=>q
  rcases hc with z|z
  ·rw [z];exact nit b u e
  ·exact nit c _ z
theorem Inv.tok (I:Inv X pins σ H s) (t:Nat):Inv X pins σ H {s with toks:=t}:=I.un (h':=s.heap) (t':=t) Un.refl I.ah
theorem Inv.kept {t':Nat} (I:Inv X pins σ H s) (k:∀b u,s.heap.get? b=some u->h'.get? b=some u):Inv X pins σ H {s with heap:=h',toks:=t'}:=I.un (Un.kept k) (I.ah.kept k)
theorem Inv.laid {a:Addr} {o:HO} {t':Nat} (I:Inv X pins σ H s) (k:∀b u,s.heap.get? b=some u->h'.get? b=some u) (hp:s.heap.objs.size<=a) (new:aN X.prog X.w (upd H a o) h' a o):
  Inv X pins σ (upd H a o) {s with heap:=h',toks:=t'}:=I.un (Un.laid k hp (I.ah.fresh hp)) (I.ah.laid k hp new)
theorem Inv.write {x e:Addr} {o:HO} {t':Nat} (I:Inv X pins σ H s) (mu:vf (H x)) (he:e=x∨H e=some (.own x)) (k:∀b u,b≠e->s.heap.get? b=some u->h'.get? b=some u) (heo:∃u,h'.get? e=some u)
  (new:aN X.prog X.w (upd H x o) h' x o):Inv X pins σ (upd H x o) {s with heap:=h',toks:=t'}:=I.un (Un.write mu he k heo) (I.ah.write mu he k heo new)
theorem Inv.cB (I:Inv X pins σ H s) (h:∀p∈pins',s.heap.get? p.1=some p.2/\H p.1=none/\p.1≠X.env.locals/\p.1∉X.fs/\∀v,p.2.data≠ .cell v):Inv X pins' σ H s:=
 ⟨I.ok,I.os,I.bare,I.base,I.loc,I.cell,I.free,I.freeC,fun p hp=>(List.mem_append.mp hp).elim (fun z=>I.pin p (List.mem_append_left _ z)) (h p),I.ah,I.len⟩
theorem qH {N:List Str} (hN:N.Nodup) {i j:Nat} {x:Str} (a:N[i]?=some x) (b:N[j]?=some x):i=j:=by
 obtain ⟨h1,e1⟩:=List.getElem?_eq_some_iff.mp a
 obtain ⟨h2,e2⟩:=List.getElem?_eq_some_iff.mp b
 exact (List.getElem_inj hN).mp (e1.trans e2.symm)
theorem nE {M:Model} {A:Around} {E:Value->Shared->Prop} {i:Nat} {x:Str} {v:V} {u:Value} {Q:Unit->Shared->Prop} (I:Inv X pins σ H s) (hN:X.N.Nodup) (hi:X.N[i]?=some x) (hx:Loc X.env.scope x) (r:RelV v u)
  (h:∀s',Inv X pins (σ.set i (some v)) H s'->(∃a,Heap.SameBut a s.heap s'.heap/\(a=X.env.locals∨X.env.cells.lookup x=some a))->Q () s') (hf:X.fn x=true∨X.env.scope.names.lookup x=some .local:=by first|exact .inl rfl|exact .inr rfl|assumption):wpAny M A (storeName X.env x u) Q E s:=by
 obtain ⟨m,hn,hl⟩:=id I.loc
 have hcls:(X.env.scope.kind== .class||(X.env.scope.kind== .module&&X.env.locals !=X.env.globals))=false:=by rw [I.ok.kind];rfl
 have hiσ:i<σ.length:=by rw [I.len];exact (List.getElem?_eq_some_iff.mp hi).1
 have qD:=I.qD
 have tracked:∀{a:Addr} {h':Heap},(∃o,s.heap.get? a=some o/\H a=none)->Heap.SameBut a s.heap h'->bq X.prog X.w H h':=fun {a h'} ha hs b ob e=>by
  obtain ⟨_,_,hfree⟩:=ha
  refine (I.ah b ob e).ij (fun c w' hc q=>(hs.2 c ?_).trans q) (fun _ q=>q) fun _ _ q=>q
  rintro rfl
  rcases hc with rfl|hc
  ·rw [hfree] at e;cases e
  ·rw [hfree] at hc;cases hc
 rcases hx with hk|hk
 ·refine wpAny_storeName_local hk hn (fun h' hn' hs=> ?_) hcls
  obtain ⟨oL,_,_,hoL,_⟩:=id hn
  refine h _ ⟨I.ok,I.os,I.bare,⟨fun b o e n hb hx=> ?_,fun b o e n hb hx=> ?_,I.base.free,fun b o e hx=> ?_,I.base.tups,I.base.aV,I.base.tbls⟩,⟨_,hn',fun j y v' e1 e2 e3=> ?_⟩,fun y c e=> ?_,I.free,I.freeC,fun p hp=> ?_,tracked ⟨oL,hoL,I.free⟩ hs,by simpa using I.len⟩ ⟨_,hs, .inl rfl⟩
  ·exact (hs.2 b (Nat.ne_of_lt (Nat.lt_of_lt_of_le (Heap.lt_size e) I.ok.above))).trans (I.base.keep b o e n hb hx)
  ·obtain ⟨sl,e1⟩:=I.base.slot b o e n hb hx
   exact ⟨sl,(hs.2 b (Nat.ne_of_lt (Nat.lt_of_lt_of_le (Heap.lt_size e) I.ok.above))).trans e1⟩
  ·obtain ⟨o',e1⟩:=I.base.there b o e hx
   exact ⟨o',(hs.2 b (Nat.ne_of_lt (Nat.lt_of_lt_of_le (Heap.lt_size e) I.ok.above))).trans e1⟩
  ·by_cases hj:j=i
   ·subst hj
    rw [hi] at e1;cases e1
    rw [List.getElem?_set_self hiσ] at e2
    cases e2
    exact ⟨u,r, .inl ⟨hk,by simp⟩⟩
   ·rw [List.getElem?_set_ne (Ne.symm hj)] at e2
    obtain ⟨u',r',q⟩:=hl j y v' e1 e2 e3
    refine ⟨u',r', ?_⟩
    rcases q with ⟨k,e⟩|⟨k,c,e,z⟩
    ·refine .inl ⟨k, ?_⟩
     have:y≠x:=fun e=>hj (qH hN e1 (e▸hi))
     simp [this,e]
    ·exact .inr ⟨k,c,e,z.sameBut hs (qD y c e)⟩
  ·obtain ⟨w',z⟩:=I.cell y c e
   exact ⟨w',z.sameBut hs (qD y c e)⟩
  ·obtain ⟨e,n,ne,nf,d⟩:=I.pin p hp
   exact ⟨(hs.2 p.1 ne).trans e,n,ne,nf,d⟩
 ·have hfn:X.fn x=true:=by
   rcases hf with z|z
   ·exact z
   ·rw [z] at hk;cases hk
  obtain ⟨c,hc⟩:=I.ok.has x (.inl hk)
  obtain ⟨w',z⟩:=I.cell x c hc
  refine wpAny_storeName_cell I.ok.kind hk hc z (fun h' hc' hs=> ?_)
  obtain ⟨oc,hoc,hocd⟩:=id z
  refine h {s with heap:=h'} ⟨I.ok,I.os,I.bare,⟨fun b o e n hb hx=> ?_,fun b o e n hb hx=> ?_,I.base.free,fun b o e hx=> ?_,I.base.tups,I.base.aV,I.base.tbls⟩,⟨m,hn.sameBut hs (Ne.symm (qD x c hc)),fun j y v' e1 e2 e3=> ?_⟩,fun y c' e=> ?_,I.free,I.freeC,fun p hp=> ?_,tracked ⟨oc,hoc,I.freeC x c hc⟩ hs,by simpa using I.len⟩ ⟨c,hs, .inr hc⟩
  ·exact (hs.2 b (Nat.ne_of_lt (Nat.lt_of_lt_of_le (Heap.lt_size e) (I.ok.cab x c hfn hc)))).trans (I.base.keep b o e n hb hx)
  ·obtain ⟨sl,e1⟩:=I.base.slot b o e n hb hx
   exact ⟨sl,(hs.2 b (Nat.ne_of_lt (Nat.lt_of_lt_of_le (Heap.lt_size e) (I.ok.cab x c hfn hc)))).trans e1⟩
  ·obtain ⟨o',e1⟩:=I.base.there b o e hx
   exact ⟨o',(hs.2 b (Nat.ne_of_lt (Nat.lt_of_lt_of_le (Heap.lt_size e) (I.ok.cab x c hfn hc)))).trans e1⟩
  ·by_cases hj:j=i
   ·subst hj
    rw [hi] at e1;cases e1
    rw [List.getElem?_set_self hiσ] at e2
    cases e2
    exact ⟨u,r, .inr ⟨.inl hk,c,hc,hc'⟩⟩
   ·rw [List.getElem?_set_ne (Ne.symm hj)] at e2
    obtain ⟨u',r',q⟩:=hl j y v' e1 e2 e3
    refine ⟨u',r', ?_⟩
    rcases q with q|⟨k,c',e,z'⟩
    ·exact .inl q
    ·refine .inr ⟨k,c',e,z'.sameBut hs ?_⟩
     rintro rfl
     exact hj (qH hN e1 (I.ok.inj _ _ _ e hc▸hi))
  ·by_cases hcc:c'=c
   ·subst hcc;exact ⟨_,hc'⟩
   ·obtain ⟨w2,z2⟩:=I.cell y c' e
    exact ⟨w2,z2.sameBut hs hcc⟩
  ·obtain ⟨e,n,ne,nf,d⟩:=I.pin p hp
   refine ⟨(hs.2 p.1 ?_).trans e,n,ne,nf,d⟩
   intro q
   rw [q,hoc] at e
   have q':oc=p.2:=Option.some.inj e
   exact d w' (by rw [←q'];exact hocd)
theorem pL {M:Model} {A:Around} {E:Value->Shared->Prop} {i:Nat} {x:Str} {v:V} {u:Value} {Q:Unit->Shared->Prop} (I:Inv X pins σ H s) (hN:X.N.Nodup) (hi:X.N[i]?=some x) (hx:Loc X.env.scope x) (r:RelV v u)
  (h:∀s',Inv X pins (σ.set i (some v)) H s'->Q () s') (hf:X.fn x=true∨X.env.scope.names.lookup x=some .local:=by first|exact .inl rfl|exact .inr rfl|assumption):wpAny M A (storeName X.env x u) Q E s:=
 nE I hN hi hx r (fun s' I' _=>h s' I') hf
theorem Inv.tj {s':Shared} {ch:List Addr} (I:Inv X pins σ H s) (ho:s'.os=s.os) (u:Un (cA X.stack) ch H H' s.heap s'.heap) (ah:bq X.prog X.w H' s'.heap) (hg:AllBare s'.gens)
  (hch:∀b∈ch,(b∈X.ex∨X.s₀.heap.objs.size<=b)/\b≠X.env.locals/\(∀x c,X.env.cells.lookup x=some c->c≠b)/\∀p∈X.pn++pins,p.1≠b):Inv X pins σ H' s':=by
 obtain ⟨h',g',d',t',o'⟩:=s'
 have e:o'=s.os:=ho
 subst e
 exact I.call (g':=g') (t':=t') (d':=d') u ah hg hch
end
noncomputable abbrev XK:=Value->Option Addr->Hp->Prop
noncomputable abbrev St:=List (Option V)
noncomputable abbrev VK:=V->Hp->Prop
noncomputable abbrev TE:=St->Hp->VK->Prop
noncomputable abbrev TT:=St->Hp->(Bool->Hp->Prop)->Prop
noncomputable abbrev TA:=St->Hp->(List V->Hp->Prop)->Prop
structure Ends where
 nx:St->Hp->Prop
 rt:VK
 bk:St->Hp->Prop:=fun _ _=>False
 ct:St->Hp->Prop:=fun _ _=>False
noncomputable abbrev TS:=Ends->St->Hp->Prop
noncomputable def EP (X:Cx) (pins:List (Addr×Obj)) (σ:St) (Q:VK) (u:Value) (s':Shared):Prop:=∃v H',Inv X pins σ H' s'/\RelV v u/\Q v H'
noncomputable def TP (X:Cx) (pins:List (Addr×Obj)) (σ:St) (Q:Bool->Hp->Prop) (b:Bool) (s':Shared):Prop:=∃H',Inv X pins σ H' s'/\Q b H'
noncomputable def AP (X:Cx) (pins:List (Addr×Obj)) (σ:St) (Q:List V->Hp->Prop) (us:List Value) (s':Shared):Prop:=∃vs H',Inv X pins σ H' s'/\Vals vs us/\Q vs H'
noncomputable def SP (X:Cx) (pins:List (Addr×Obj)) (D:Ends) (f:Flow) (s':Shared):Prop:=
 match f with
 | .next=>∃σ' H',Inv X pins σ' H' s'/\D.nx σ' H'
 | .brk=>∃σ' H',Inv X pins σ' H' s'/\D.bk σ' H'
 | .cont=>∃σ' H',Inv X pins σ' H' s'/\D.ct σ' H'
 | .ret u=>∃v σ' H',Inv X pins σ' H' s'/\RelV v u/\D.rt v H'
noncomputable def PE (X:Cx) (e:Expr) (t:TE):Prop:=
 ∀(pins:List (Addr×Obj)) (s:Shared) (σ:St) (H:Hp) (Q:VK),Inv X pins σ H s->t σ H Q->wpAny (model X.prog X.w) X.A (eval e X.env) (EP X pins σ Q) X.xe s
noncomputable def PT (X:Cx) (e:Expr) (t:TT):Prop:=
 ∀(pins:List (Addr×Obj)) (s:Shared) (σ:St) (H:Hp) (Q:Bool->Hp->Prop),Inv X pins σ H s->t σ H Q->wpAny (model X.prog X.w) X.A (isTrue e X.env (eval e X.env)) (TP X pins σ Q) X.xe s
noncomputable def PW (X:Cx) (e:Expr) (t:TT):Prop:=
 ∀(whole:Sem Value) (pins:List (Addr×Obj)) (s:Shared) (σ:St) (H:Hp) (Q:Bool->Hp->Prop),Inv X pins σ H s->t σ H Q->wpAny (model X.prog X.w) X.A (isTrue e X.env whole) (TP X pins σ Q) X.xe s
theorem PW.pt {X:Cx} {e:Expr} {t:TT} (h:PW X e t):PT X e t:=h _
noncomputable def PA (X:Cx) (es:List Expr) (t:TA):Prop:=
 ∀(pos:Pos) (pins:List (Addr×Obj)) (s:Shared) (σ:St) (H:Hp) (Q:List V->Hp->Prop),Inv X pins σ H s->t σ H Q->wpAny (model X.prog X.w) X.A (spliced (backTo pos (starEach es X.env))) (AP X pins σ Q) X.xe s
noncomputable def PS (X:Cx) (st:Stmt) (t:TS):Prop:=
 ∀(pins:List (Addr×Obj)) (s:Shared) (σ:St) (H:Hp) (D:Ends),Inv X pins σ H s->t D σ H->wpAny (model X.prog X.w) X.A (exec st X.env) (SP X pins D) X.xe s
noncomputable def di (X:Cx) (st:List Stmt) (t:TS):Prop:=
 ∀(pins:List (Addr×Obj)) (s:Shared) (σ:St) (H:Hp) (D:Ends),Inv X pins σ H s->t D σ H->wpAny (model X.prog X.w) X.A (execs st X.env) (SP X pins D) X.xe s
theorem ay {α:Type} {t:Sem α} {Q Q':α->Shared->Prop} {M:Model} {A:Around} {E:Value->Shared->Prop} {s:Shared} (h:wpAny M A t Q E s) (hQ:∀a s,Q a s->Q' a s):wpAny M A t Q' E s:=wpAny_mono h hQ fun _ _ x=>x
end L2
namespace L2
open PySem PySem.Spec PyProof.Rows
section
variable {X:Cx}
noncomputable def Hb (i:Nat):TE:=fun σ H Q=>∃v,σ[i]?=some (some v)/\Q v H
noncomputable def tC (v:V):TE:=fun _ H Q=>Q v H
theorem C1 {i:Nat} {x:Str} (hN:X.N[i]?=some x) (hv:uH X.env.scope x) (hd:(x==("__debug__":Str))=false:=by decide) (hcd:(x==("__classdict__":Str))=false:=by decide):PE X (.Name x pos) (Hb i):=by
 intro pins s σ H Q I h
 obtain ⟨v,e,h⟩:=h
 obtain ⟨m,hn,hl⟩:=I.loc
 obtain ⟨u,r,l⟩:=hl i x v hN e hv
 have fin:EP X pins σ Q u s:=⟨v,H,I,r,h⟩
 rcases l with ⟨hk,hm⟩|⟨hk,c,hc,hcell⟩
 ·exact wpAny_Name (wpAny_loadName_local I.ok.kind hk hn hm fin) hd
 ·rcases hk with hk|hk
  ·exact wpAny_Name (wpAny_loadName_cell I.ok.kind hk hc hcell fin) hd
  ·exact wpAny_Name (wpAny_loadName_free I.ok.kind hk hc hcell fin hcd) hd
theorem DR {i j pos}:PE X (.Constant (.int i) j pos) (tC (.int i)):=fun _ _ _ H _ I h=>wpAny_Constant_int ⟨.int i,H,I.tok _,⟨_,rfl⟩,h⟩
theorem E2 {b j pos}:PE X (.Constant (.bool b) j pos) (tC (.bl b)):=fun _ _ _ H _ I h=>Constant_bool ⟨.bl b,H,I,rfl,h⟩
theorem Ct {j pos}:PE X (.Constant .none j pos) (tC .non):=fun _ _ _ H _ I h=>Constant_none ⟨.non,H,I,rfl,h⟩
theorem Cz {x j pos}:PE X (.Constant (.str x) j pos) (tC (.str x)):=fun _ _ _ H _ I h=>Calls.Constant_str ⟨.str x,H,I.tok _,⟨_,rfl⟩,h⟩
noncomputable def Gl (X:Cx) (x:Str):Prop:=X.env.kindOf x=some .globalImplicit
theorem gz {E:Value->Shared->Prop} {s:Shared} {σ:St} {H:Hp} {x:Str} {u:Value} {Q:Value->Shared->Prop} (I:Inv X pins σ H s) (hg:Gl X x) (hm:X.mg x=some u) (h:Q u s)
  (hd:(x==("__debug__":Str))=false:=by decide):wpAny (model X.prog X.w) X.A (eval (.Name x pos) X.env) Q E s:=
 Calls.Name_function_global I.ok.kind hg (Calls.loadGlobal_global (by rw [I.ok.glob];exact I.mod.glob.keeps I.bk) hm h) hd
theorem gE {E:Value->Shared->Prop} {s:Shared} {σ:St} {H:Hp} {x:Str} {u:Value} {Q:Value->Shared->Prop} (I:Inv X pins σ H s) (hg:Gl X x) (hm:X.mg x=none) (hv:bootBuiltins x=some u) (h:Q u s)
  (hn:x≠"__name__":=by decide) (hd:(x==("__debug__":Str))=false:=by decide):wpAny (model X.prog X.w) X.A (eval (.Name x pos) X.env) Q E s:=by
 obtain ⟨mb,h1,h2⟩:=I.mod.blt
 exact Calls.Name_function_global I.ok.kind hg (Calls.loadGlobal_builtin (by rw [I.ok.glob];exact I.mod.glob.keeps I.bk) hm (by rw [I.ok.blt];exact h1.keeps I.bk) ((h2 x hn).trans hv) h) hd
theorem rY {x:Str} {v:V} {u:Value} (hg:Gl X x) (hm:X.mg x=some u) (r:RelV v u) (hd:(x==("__debug__":Str))=false:=by decide):PE X (.Name x pos) (tC v):=
 fun _ _ _ H _ I h=>gz I hg hm ⟨v,H,I,r,h⟩ hd
variable {a b:Expr} {ta tb:TE} {pos:Pos}
variable {tA tB':TT} {rest:List Expr}
noncomputable def J8 (t u:TT):TT:=fun σ H Q=>t σ H fun c H1=>if c=true then u σ H1 Q else Q false H1
noncomputable def tOr (t u:TT):TT:=fun σ H Q=>t σ H fun c H1=>if c=true then Q true H1 else u σ H1 Q
noncomputable def HB (t:TT):TT:=fun σ H Q=>t σ H fun c H1=>Q (!c) H1
theorem BK (ha:PT X a tA):PW X (.BoolOp .And [a] pos) tA:=by
 intro wh pins s σ H Q I h
 refine isTrue_and (ay (ha pins s σ H Q I h) fun c s1 e=> ?_)
 cases c with
 |true=>exact isTrue_and_nil e
 |false=>exact e
theorem Dz (ha:PT X a tA):PW X (.BoolOp .Or [a] pos) tA:=by
 intro wh pins s σ H Q I h
 refine isTrue_or (ay (ha pins s σ H Q I h) fun c s1 e=> ?_)
 cases c with
 |false=>exact isTrue_or_nil e
 |true=>exact e
theorem Ed (ha:PT X a tA) (hb:PW X (.BoolOp .And (b::rest) pos) tB'):PW X (.BoolOp .And (a::b::rest) pos) (J8 tA tB'):=by
 intro wh pins s σ H Q I h
 refine isTrue_and (ay (ha pins s σ H _ I h) fun c s1 z902=> ?_);obtain ⟨H1,I1,q1⟩:=z902
 cases c with
 |true=>exact hb wh pins s1 σ H1 Q I1 q1
 |false=>exact ⟨H1,I1,q1⟩
theorem FN (ha:PT X a tA) (hb:PW X (.BoolOp .Or (b::rest) pos) tB'):PW X (.BoolOp .Or (a::b::rest) pos) (tOr tA tB'):=by
 intro wh pins s σ H Q I h
 refine isTrue_or (ay (ha pins s σ H _ I h) fun c s1 z902=> ?_);obtain ⟨H1,I1,q1⟩:=z902
 cases c with
 |true=>exact ⟨H1,I1,q1⟩
 |false=>exact hb wh pins s1 σ H1 Q I1 q1
theorem D2 (ha:PT X a tA):PT X (.UnaryOp .Not a pos) (HB tA):=by
 intro pins s σ H Q I h
 exact isTrue_not (ha pins s σ H (fun c H1=>Q (!c) H1) I h)
noncomputable def Fx (ta tb:TE):TE:=fun σ H Q=>ta σ H fun x H1=>∃c,x= .bl c/\if c=true then tb σ H1 Q else Q (.bl false) H1
noncomputable def HR (ta tb:TE):TE:=fun σ H Q=>ta σ H fun x H1=>∃c,x= .bl c/\if c=true then Q (.bl true) H1 else tb σ H1 Q
noncomputable def FQ (ta:TE):TE:=fun σ H Q=>ta σ H fun x H1=>∃c,x= .bl c/\Q (.bl (!c)) H1
theorem Es {op} {t:TE} (h:PE X a t):PE X (.BoolOp op [a] pos) t:=fun pins s σ H Q I hw=>BoolOp_one (h pins s σ H Q I hw)
theorem D4 (ha:PE X a ta) (hb:PE X (.BoolOp .And (b::rest) pos) tb):PE X (.BoolOp .And (a::b::rest) pos) (Fx ta tb):=by
 intro pins s σ H Q I h
 refine BoolOp_and (ay (ha pins s σ H _ I h) fun v s1 z902=> ?_);obtain ⟨x,H1,I1,r1,q1⟩:=z902
 obtain ⟨c,rfl,q1⟩:=q1
 cases r1
 refine wpAny_truthy_bool ?_
 cases c with
 |true=>exact hb pins s1 σ H1 Q I1 q1
 |false=>exact ⟨.bl false,H1,I1,rfl,q1⟩
theorem F9 (ha:PE X a ta) (hb:PE X (.BoolOp .Or (b::rest) pos) tb):PE X (.BoolOp .Or (a::b::rest) pos) (HR ta tb):=by
 intro pins s σ H Q I h
 refine BoolOp_or (ay (ha pins s σ H _ I h) fun v s1 z902=> ?_);obtain ⟨x,H1,I1,r1,q1⟩:=z902
 obtain ⟨c,rfl,q1⟩:=q1
 cases r1
 refine wpAny_truthy_bool ?_
 cases c with
 |false=>exact hb pins s1 σ H1 Q I1 q1
 |true=>exact ⟨.bl true,H1,I1,rfl,q1⟩
theorem CJ (ha:PE X a ta):PE X (.UnaryOp .Not a pos) (FQ ta):=by
 intro pins s σ H Q I h
 refine UnaryOp_ (ay (ha pins s σ H _ I h) fun v s1 z902=> ?_);obtain ⟨x,H1,I1,r1,q1⟩:=z902
 obtain ⟨c,rfl,q1⟩:=q1
 cases r1
 exact not_of (wpAny_truthy_bool ⟨.bl (!c),H1,I1,rfl,q1⟩)
end
end L2
namespace L2
open PySem PySem.Spec PyProof.Rows
noncomputable def bH (K:PySem.W.Frag) (H:Hp) (a:Addr) (xs:List V):Prop:=
 Rd H a (.lst xs)∨
  ∃(o:Obj) (its:Array Value) (n:Nat),K.lookup a=some o/\o.cls= .type "list"/\o.dict=none/\o.data= .seq its n/\its.size<=sizeLine/\Vals xs its.toList
noncomputable def cH (K:PySem.W.Frag) (H:Hp) (a:Addr) (xs:List V):Prop:=
 Rd H a (.tup xs)∨
  ∃(o:Obj) (its:Array Value) (n:Nat),K.lookup a=some o/\o.cls= .type "tuple"/\o.data= .seq its n/\its.size<=sizeLine/\Vals xs its.toList
noncomputable def H8:Value->Option V
 | .none=>some .non
 | .bool b=>some (.bl b)
 | .int i _=>some (.int i)
 | .str x _=>some (.str x)
 | .bytes b _=>some (.byt b)
 | .float b _=>some (.flt b)
 | .ref a=>some (.ref a)
 | .type n=>some (.ty n)
 |_=>none
theorem RelV.abs {x:V} {u:Value} (r:RelV x u):H8 u=some x:=by
 cases x with
 |non=>cases r;rfl
 |bl _=>cases r;rfl
 |int _=>obtain ⟨t,rfl⟩:=r;rfl
 |str _=>obtain ⟨t,rfl⟩:=r;rfl
 |byt _=>obtain ⟨t,rfl⟩:=r;rfl
 |flt _=>obtain ⟨t,rfl⟩:=r;rfl
 |ref _=>cases r;rfl
 |ty _=>cases r;rfl
theorem RelV.inj {x y:V} {u:Value} (r:RelV x u) (q:RelV y u):x=y:=Option.some.inj (r.abs.symm.trans q.abs)
theorem Vals.inj:∀{xs ys:List V} {us:List Value},Vals xs us->Vals ys us->xs=ys
 |_,_,_, .nil, .nil=>rfl
 |_,_,_, .cons r t, .cons r' t'=>by rw [r.inj r',Vals.inj t t']
section
variable {X:Cx} {pins:List (Addr×Obj)} {σ:St} {H:Hp} {s:Shared} {a:Addr} {xs ys:List V}
theorem Inv.list (I:Inv X pins σ H s) (h:bH X.K H a xs):∃its:List Value,Vals xs its/\PlainL s.heap a its.toArray/\xs.length<=sizeLine:=by
 rcases h with h|⟨o,its,n,hk,hc,hd,hs,hz,r⟩
 ·obtain ⟨z,its,n,r,e⟩:=h.ok I.ah
  exact ⟨its,r,⟨_,n,e,rfl,rfl,rfl⟩,z⟩
 ·refine ⟨its.toList,r,⟨o,n,I.dO a o hk,hc,hd,by simpa using hs⟩, ?_⟩
  have e:=r.length
  simp only [Array.length_toList] at e
  lia
theorem Inv.tuple (I:Inv X pins σ H s) (h:cH X.K H a xs):∃its:List Value,Vals xs its/\IsTup s.heap a its.toArray/\xs.length<=sizeLine:=by
 rcases h with h|⟨o,its,n,hk,hc,hs,hz,r⟩
 ·obtain ⟨z,its,r,p⟩:=h.ok I.ah
  exact ⟨its,r,p,z⟩
 ·refine ⟨its.toList,r,⟨o,I.dO a o hk,hc,n,by simpa using hs⟩, ?_⟩
  have e:=r.length
  simp only [Array.length_toList] at e
  lia
theorem Inv.hG (I:Inv X pins σ H s) (h:bH X.K H a xs) (h':bH X.K H a ys):xs=ys:=by
 obtain ⟨its,r,⟨o,n,e,_,_,d⟩,_⟩:=I.list h
 obtain ⟨its',r',⟨o',n',e',_,_,d'⟩,_⟩:=I.list h'
 rw [e] at e';cases e'
 rw [d] at d'
 injection d' with d1 _
 have:its=its':=by simpa using congrArg Array.toList d1
 subst this
 exact r.inj r'
theorem Inv.fS (I:Inv X pins σ H s) (h:cH X.K H a xs) (h':cH X.K H a ys):xs=ys:=by
 obtain ⟨its,r,⟨o,e,_,n,d⟩,_⟩:=I.tuple h
 obtain ⟨its',r',⟨o',e',_,n',d'⟩,_⟩:=I.tuple h'
 rw [e] at e';cases e'
 rw [d] at d'
 injection d' with d1 _
 have:its=its':=by simpa using congrArg Array.toList d1
 subst this
 exact r.inj r'
end
noncomputable abbrev Cx.ag (X:Cx) (E:Value->Shared->Prop):Cx:={X with xe:=E}
noncomputable abbrev Cx.nR (X:Cx):Cx:=X.ag fun _ _=>False
theorem Cx.Ok.ag {X:Cx} (ok:X.Ok) (E:Value->Shared->Prop):(X.ag E).Ok:=
 ⟨ok.mod,ok.kind,ok.glob,ok.blt,ok.above,ok.inj,ok.has,ok.cab,ok.hd,ok.frames,ok.stk,ok.exf,ok.bs,ok.bsz,ok.noex,ok.exfs,ok.cO,ok.frf⟩
theorem Cx.Ok.br {X:Cx} {E:Value->Shared->Prop} (ok:(X.ag E).Ok):X.Ok:=
 ⟨ok.mod,ok.kind,ok.glob,ok.blt,ok.above,ok.inj,ok.has,ok.cab,ok.hd,ok.frames,ok.stk,ok.exf,ok.bs,ok.bsz,ok.noex,ok.exfs,ok.cO,ok.frf⟩
section
variable {X:Cx} {pins:List (Addr×Obj)} {σ:St} {H:Hp} {s:Shared} {E:Value->Shared->Prop}
theorem Inv.ag (I:Inv X pins σ H s) (E:Value->Shared->Prop):Inv (X.ag E) pins σ H s:=⟨I.ok.ag E,I.os,I.bare,I.base,I.loc,I.cell,I.free,I.freeC,I.pin,I.ah,I.len⟩
theorem Inv.br (I:Inv (X.ag E) pins σ H s):Inv X pins σ H s:=⟨I.ok.br,I.os,I.bare,I.base,I.loc,I.cell,I.free,I.freeC,I.pin,I.ah,I.len⟩
theorem SP.br {D:Ends} {f:Flow} (h:SP (X.ag E) pins D f s'):SP X pins D f s':=by
 cases f with
 |next=>obtain ⟨σ',H',I,q⟩:=h;exact ⟨σ',H',I.br,q⟩
 |brk=>obtain ⟨σ',H',I,q⟩:=h;exact ⟨σ',H',I.br,q⟩
 |cont=>obtain ⟨σ',H',I,q⟩:=h;exact ⟨σ',H',I.br,q⟩
 |ret u=>obtain ⟨v,σ',H',I,r,q⟩:=h;exact ⟨v,σ',H',I.br,r,q⟩
end
section
variable {X:Cx} {st:Stmt} {rest:List Stmt} {t u:TS} {e:Expr} {te:TE} {pos:Pos}
noncomputable def FD:TS:=fun D σ H=>D.nx σ H
noncomputable def Kb (t u:TS):TS:=fun D σ H=>t {D with nx:=u D} σ H
theorem AG:di X [] FD:=fun _ _ σ H _ I h=>wpAny_execs_nil ⟨σ,H,I,h⟩
theorem zi (h1:PS X st t) (h2:di X rest u):di X (st::rest) (Kb t u):=by
 intro pins s σ H D I h
 refine wpAny_execs_cons (ay (h1 pins s σ H {D with nx:=u D} I h) fun f s1 q=> ?_)
 cases f with
 |next=>
  obtain ⟨σ',H',I',q⟩:=q
  exact h2 pins s1 σ' H' D I' q
 |ret v=>exact q
 |brk=>exact q
 |cont=>exact q
theorem Inv.quiet {σ:St} {H:Hp} {s:Shared} (I:Inv X pins σ H s):interactive X.env=false:=by simp [interactive,I.ok.kind]
noncomputable def Gz (te:TE):TS:=fun D σ H=>te σ H fun _ H1=>D.nx σ H1
theorem Bq (he:PE X e te) (hs:swapsWith e none pos.line X.env=pure false:=by rfl):PS X (.Expr e pos) (Gz te):=by
 intro pins s σ H D I h
 exact wpAny_Expr_any (ay (he pins s σ H _ I h) fun v s1 z902=>by obtain ⟨x,H1,I1,r1,q1⟩:=z902;exact ⟨σ,H1,I1,q1⟩) I.quiet hs
noncomputable def JY (te:TE):TS:=fun D σ H=>te σ H D.rt
theorem D7 (he:PE X e te):PS X (.Return (some e) pos) (JY te):=by
 intro pins s σ H D I h
 exact wpAny_Return_some (ay (he pins s σ H _ I h) fun v s1 z902=>by obtain ⟨x,H1,I1,r1,q1⟩:=z902;exact ⟨x,σ,H1,I1,r1,q1⟩)
noncomputable def Gw:TS:=fun D _ H=>D.rt .non H
theorem BF:PS X (.Return none pos) Gw:=fun _ _ σ H _ I h=>wpAny_Return_none ⟨.non,σ,H,I,rfl,h⟩
noncomputable def JR (c:TT) (t u:TS):TS:=fun D σ H=>c σ H fun b H1=>if b=true then t D σ H1 else u D σ H1
theorem Fz {c:Expr} {a b:List Stmt} {tc:TT} (hc:PT X c tc) (ha:di X a t) (hb:di X b u):PS X (.If c a b pos) (JR tc t u):=by
 intro pins s σ H D I h
 refine wpAny_If (ay (hc pins s σ H _ I h) fun d s1 z902=> ?_);obtain ⟨H1,I1,q1⟩:=z902
 cases d with
 |true=>exact ha pins s1 σ H1 D I1 q1
 |false=>exact hb pins s1 σ H1 D I1 q1
end
noncomputable abbrev TG:=V->St->Hp->(St->Hp->Prop)->Prop
noncomputable abbrev kM:=List V->St->Hp->(St->Hp->Prop)->Prop
noncomputable def PG (X:Cx) (target:Expr) (t:TG):Prop:=
 ∀(pins:List (Addr×Obj)) (s:Shared) (σ:St) (H:Hp) (v:V) (u:Value) (Q:St->Hp->Prop),Inv X pins σ H s->RelV v u->t v σ H Q->
  wpAny (model X.prog X.w) X.A (assign target X.env u) (fun _ s'=>∃σ' H',Inv X pins σ' H' s'/\Q σ' H') X.xe s
noncomputable def gf (X:Cx) (ts:List Expr) (t:kM):Prop:=
 ∀(pins:List (Addr×Obj)) (s:Shared) (σ:St) (H:Hp) (vs:List V) (us:List Value) (Q:St->Hp->Prop),Inv X pins σ H s->Vals vs us->t vs σ H Q->
  wpAny (model X.prog X.w) X.A (assignInOrder ((assignEach ts X.env).map (·.2)) us) (fun _ s'=>∃σ' H',Inv X pins σ' H' s'/\Q σ' H') X.xe s
noncomputable abbrev tm:=V->V->V->Hp->(Hp->Prop)->Prop
noncomputable def ji (X:Cx) (t:tm):Prop:=
 ∀(pins:List (Addr×Obj)) (s:Shared) (σ:St) (H:Hp) (o i v:V) (ov iv u:Value) (Q:Hp->Prop),Inv X pins σ H s->RelV o ov->RelV i iv->RelV v u->t o i v H Q->
  wpAny (model X.prog X.w) X.A (setItem ov iv u) (fun _ s'=>∃H',Inv X pins σ H' s'/\Q H') X.xe s
section
variable {X:Cx} {pos:Pos}
noncomputable def Ak (i:Nat):TG:=fun v σ H Q=>Q (σ.set i (some v)) H
theorem B3 {i:Nat} {x:Str} (hN:X.N.Nodup) (hi:X.N[i]?=some x) (hx:Loc X.env.scope x) (hf:X.fn x=true∨X.env.scope.names.lookup x=some .local:=by first|exact .inl rfl|exact .inr rfl|assumption):PG X (.Name x pos) (Ak i):=by
 intro pins s σ H v u Q I r h
 exact wpAny_assign_Name (pL I hN hi hx r (fun s' I'=>⟨_,H,I',h⟩) hf)
noncomputable def IS:kM:=fun vs σ H Q=>vs=[]/\Q σ H
noncomputable def FF (t:TG) (u:kM):kM:=fun vs σ H Q=>∃v r,vs=v::r/\t v σ H fun σ' H'=>u r σ' H' Q
theorem A6:gf X [] IS:=by
 intro pins s σ H vs us Q I r h
 obtain ⟨e,h⟩:=h
 subst e
 cases r
 exact assignInOrder_nil ⟨σ,H,I,h⟩
theorem xQ {e:Expr} {t:TG} {u:kM} (h1:PG X e t) (h2:gf X es u)
  (hs:(assignEach (e::es) X.env).map (·.2)=assign e X.env::(assignEach es X.env).map (·.2):=by rfl):gf X (e::es) (FF t u):=by
 intro pins s σ H vs us Q I r h
 obtain ⟨v,vr,e1,h⟩:=h
 subst e1
 cases r with
 |cons r rr=>
  rw [hs]
  refine assignInOrder_cons (ay (h1 pins s σ H _ _ _ I r h) fun _ s1 z902=> ?_);obtain ⟨σ1,H1,I1,q1⟩:=z902
  exact h2 pins s1 σ1 H1 _ _ Q I1 rr q1
noncomputable def JT (K:PySem.W.Frag) (n:Nat) (t:kM):TG:=fun v σ H Q=>∃a xs,v= .ref a/\cH K H a xs/\xs.length=n/\t xs σ H Q
theorem Dn {k:Nat} {t:kM} {n:Nat} (hc:X.calm=true) (h:gf X es t)
  (hn:(assignEach es X.env).length=n:=by rfl) (hst:(assignEach es X.env).findIdx? (·.1)=none:=by rfl):PG X (.Tuple es k pos) (JT X.K n t):=by
 intro pins s σ H v u Q I r hw
 obtain ⟨a,xs,e1,hq,hl,hw⟩:=hw
 subst e1
 cases r
 obtain ⟨its,rv,ht,hz⟩:=I.tuple hq
 refine assign_Tuple_tuple (I.ok.hd hc) ht (by simp [hn,←hl,rv.length]) hst fun h' hx=> ?_
 have I1:Inv X pins σ H {s with heap:=h'}:=I.kept (t':=s.toks) fun b o e=>hx b o (Nat.ne_of_lt (Heap.lt_size e)) e
 exact h pins _ σ H xs _ Q I1 (by simpa using rv) hw
noncomputable def JM (to ti:TE) (t:tm):TG:=fun v σ H Q=>to σ H fun o H1=>ti σ H1 fun i H2=>t o i v H2 fun H3=>Q σ H3
theorem DE {i:Expr} {to ti:TE} {t:tm} (ho:PE X o to) (hi:PE X i ti) (hs:ji X t)
  (ha:∀v,assign (.Subscript o i pos) X.env v=(do
   let ov←holding [v] (eval o X.env)
   let iv←holding [v,ov] (eval i X.env)
   standAt pos
   holding [v,ov,iv] (setItem ov iv v)
   release [v,ov,iv] []):=by intro _;rfl):PG X (.Subscript o i pos) (JM to ti t):=by
 intro pins s σ H v u Q I r h
 rw [ha]
 refine wpAny_bind (wpAny_holding (ay (ho pins s σ H _ I h) fun ov s1 z902=> ?_));obtain ⟨x,H1,I1,r1,q1⟩:=z902
 refine wpAny_bind (wpAny_holding (ay (hi pins s1 σ H1 _ I1 q1) fun iv s2 z902=> ?_));obtain ⟨y,H2,I2,r2,q2⟩:=z902
 refine wpAny_bind (wpAny_standAt (wpAny_bind (wpAny_holding (ay (hs pins s2 σ H2 x y v ov iv u _ I2 r1 r2 r q2) fun _ s3 z902=> ?_))));obtain ⟨H3,I3,q3⟩:=z902
 exact wpAny_release ⟨σ,H3,I3,q3⟩
noncomputable def CN (te:TE) (g:TG):TS:=fun D σ H=>te σ H fun x H1=>g x σ H1 D.nx
theorem wK {e:Expr} {te:TE} {g:TG} (he:PE X e te) (hg:PG X tg g) (hs:swapsWithSole [tg] e pos.line X.env=pure false:=by rfl) (hw:swappedStores [tg] e X.env=pure none:=by rfl)
  (h1:(assignEach [tg] X.env).map (·.2)=[assign tg X.env]:=by rfl):PS X (.Assign [tg] e pos) (CN te g):=by
 intro pins s σ H D I h
 refine wpAny_Assign_stores (ay (he pins s σ H _ I h) fun v s1 z902=> ?_) hs hw;obtain ⟨x,H1,I1,r1,q1⟩:=z902
 rw [h1]
 exact ay (hg pins s1 σ H1 x v _ I1 r1 q1) fun _ s2 q=>q
theorem DD {i:Nat} {x:Str} {e:Expr} {te:TE} (hN:X.N.Nodup) (hi:X.N[i]?=some x) (hx:Loc X.env.scope x) (he:PE X e te) (hs:swapsWith e (some (.Name x pos')) pos.line X.env=pure false:=by rfl) (hf:X.fn x=true∨X.env.scope.names.lookup x=some .local:=by first|exact .inl rfl|exact .inr rfl|assumption):
  PS X (.Assign [.Name x pos'] e pos) (CN te (Ak i)):=by
 intro pins s σ H D I h
 refine wpAny_Assign_Name (ay (he pins s σ H _ I h) fun v s1 z902=> ?_) hs;obtain ⟨y,H1,I1,r1,q1⟩:=z902
 exact pL I1 hN hi hx r1 (fun s2 I2=>⟨_,H1,I2,q1⟩) hf
end
section
variable {X:Cx} {pos:Pos}
end
structure It where
 go:Nat->Hp->Prop
 yld:Nat->Hp->V->Hp->Prop
 stop:Nat->Hp->Prop
noncomputable def ck (X:Cx) (pins:List (Addr×Obj)) (H:Hp) (b:Addr):Prop:=
 H b=none/\b≠X.env.locals/\b∉X.fs/\(b∈X.ex∨X.s₀.heap.objs.size<=b)/\(∀x c,X.env.cells.lookup x=some c->c≠b)/\∀p∈X.pn++pins,p.1≠b
theorem Inv.kj {X:Cx} {σ:St} {H H':Hp} {s:Shared} {b:Addr} (I:Inv X pins σ H s) (hb:s.heap.objs.size<=b) (hn:H' b=none):ck X pins H' b:=by
 refine ⟨hn,Nat.ne_of_gt (Nat.lt_of_lt_of_le I.lt hb),I.Cy hb, .inr (Nat.le_trans I.sz hb),fun x c e z=> ?_,fun p hp z=> ?_⟩
 ·obtain ⟨v,q⟩:=I.cell x c e
  exact absurd (Nat.lt_of_lt_of_le q.lt (by rw [z];exact hb)) (Nat.lt_irrefl _)
 ·exact absurd (Nat.lt_of_lt_of_le (Heap.lt_size (I.pin p hp).1) (by rw [z];exact hb)) (Nat.lt_irrefl _)
structure Turn (P:Program) (w:World) (K:PySem.W.Frag) (tg:Expr) (J:It) (fp:List Addr) (it:Addr) (tn:Nat->Heap->Prop):Prop where
 mem:it∈fp
 obj:∀i h,tn i h->∀b∈fp,∃o,h.get? b=some o/\∀v,o.data≠ .cell v
 keep:∀i h h',tn i h->(∀b∈fp,∀o,h.get? b=some o->h'.get? b=some o)->tn i h'
 item:∀(X:Cx),X.prog=P->X.w=w->X.K=K->X.calm=true->∀(i:Nat) (pins:List (Addr×Obj)) (s:Shared) (σ:St) (H:Hp) (E:Value->Shared->Prop),Inv X pins σ H s->(∀b∈fp,ck X pins H b)->tn i s.heap->J.go i H->
  wpAny (model P w) X.A (pyNext (.ref it)) (fun r s1=>∃u,r=some u/\
   wpAny (model P w) X.A (letOwnedTupleGo tg (.ref it) u) (fun _ s2=>∃x H',Inv X pins σ H' s2/\RelV x u/\J.yld i H x H'/\tn (i+1) s2.heap/\∀b∈fp,H' b=none) E s1) E s
 done:∀(X:Cx),X.prog=P->X.w=w->X.K=K->X.calm=true->∀(i:Nat) (pins:List (Addr×Obj)) (s:Shared) (σ:St) (H:Hp) (E:Value->Shared->Prop),Inv X pins σ H s->(∀b∈fp,ck X pins H b)->tn i s.heap->J.stop i H->
  wpAny (model P w) X.A (pyNext (.ref it)) (fun r s1=>r=none/\Inv X pins σ H s1) E s
 self:∀(A:Around) (i:Nat) (s:Shared) (Q:Value->Shared->Prop) (E:Value->Shared->Prop),tn i s.heap->Q (.ref it) s->wpAny (model P w) A (pyIter (.ref it)) Q E s
noncomputable abbrev TI:=St->Hp->(It->Hp->Prop)->Prop
noncomputable def PIE (X:Cx) (pins:List (Addr×Obj)) (σ:St) (tg:Expr) (R:It->Hp->Prop) (itv:Value) (s2:Shared):Prop:=
 ∃(it:Addr) (fp:List Addr) (tn:Nat->Heap->Prop) (J:It) (H':Hp),itv= .ref it/\Inv X pins σ H' s2/\Turn X.prog X.w X.K tg J fp it tn/\tn 0 s2.heap/\(∀b∈fp,ck X pins H' b)/\R J H'
noncomputable def PI (X:Cx) (tg iter:Expr) (wi:TI):Prop:=
 ∀(pins:List (Addr×Obj)) (s:Shared) (σ:St) (H:Hp) (R:It->Hp->Prop),Inv X pins σ H s->wi σ H R->
  wpAny (model X.prog X.w) X.A (eval iter X.env) (fun v s1=>wpAny (model X.prog X.w) X.A (pyIter v) (PIE X pins σ tg R) X.xe s1) X.xe s
theorem lh {M:Model} {A:Around} {E:Value->Shared->Prop} {s:Shared} {u:Value} {o:Obj} {n:String} {vs:Array Value} {Q:Unit->Shared->Prop} (ho:s.heap.get? it=some o) (hc:o.cls= .type n) (hd:o.data= .fields vs)
  (hn:["enumerate","zip","dict_itemiterator","dict_reverseitemiterator","odict_iterator","itertools.zip_longest","itertools.pairwise"].contains n=false) (hQ:Q () s):wpAny M A (letOwnedTupleGo tg (.ref it) u) Q E s:=by
 unfold letOwnedTupleGo
 cases tg<;>first
  |exact wpAny_pure hQ
  |(cases u<;>first
   |exact wpAny_pure hQ
   |(refine wpAny_bind (wpAny_load ho ?_)
     rw [hc,hd]
     show wpAny M A (if (["enumerate","zip","dict_itemiterator","dict_reverseitemiterator","odict_iterator","itertools.zip_longest","itertools.pairwise"].contains n&&vs[0]?==some (rawInt _))=true then _ else _) Q E s
     rw [if_neg (by intro h;rw [hn,Bool.false_and] at h;cases h)]
     exact wpAny_pure hQ))
noncomputable def El (K:PySem.W.Frag) (a:Addr):It:=
 ⟨fun i H=>∃xs x,bH K H a xs/\xs[i]?=some x,fun i H x H'=>H'=H/\∀xs,bH K H a xs->xs[i]?=some x,fun i H=>∃xs,bH K H a xs/\xs.length<=i⟩
noncomputable def DU (K:PySem.W.Frag) (a:Addr):It:=
 ⟨fun i H=>∃xs x,cH K H a xs/\xs[i]?=some x,fun i H x H'=>H'=H/\∀xs,cH K H a xs->xs[i]?=some x,fun i H=>∃xs,cH K H a xs/\xs.length<=i⟩
noncomputable def wD (lo:Int) (n:Nat):It:=⟨fun i _=>i<n,fun i H x H'=>H'=H/\x= .int (lo+i),fun i _=>n<=i⟩
theorem wz {P:Program} {w:World} {K:PySem.W.Frag} (a it:Addr):Turn P w K tg (El K a) [it] it (fun i h=>h.IsListIter it a i) where
 mem:=by simp
 obj:=fun i h st b hb=>by
  have e:b=it:=by simpa using hb
  subst e
  obtain ⟨o,e,c,d⟩:=st
  exact ⟨o,e,fun v z=>by rw [d] at z;cases z⟩
 keep:=fun i h h' st k=>st.at fun o e=>k it (by simp) o e
 item:=by
  intro X hP hw hK hc i pins s σ H E I hf st hg
  subst hP hw hK
  obtain ⟨xs,x,hq,hx⟩:=hg
  obtain ⟨its,rv,p,hz⟩:=I.list hq
  obtain ⟨u,hu,ru⟩:=rv.get hx
  obtain ⟨f0,f1,f2,f3,f4,f5⟩:=hf it (by simp)
  refine wpAny_pyNext_list_item st p.isList (x:=u) (by simpa using hu) fun h' st' sb=> ?_
  have I1:Inv X pins σ H {s with heap:=h'}:=I.turned (t':=s.toks) (fun b o hb e=>(sb.2 b hb).trans e) f0 f1 f3 f4 f5
  obtain ⟨o,e,c,d⟩:=id st'
  exact ⟨u,rfl,lh (s:={s with heap:=h'}) e c d (by decide) ⟨x,H,I1,ru,⟨rfl,fun ys hy=>by rw [I.hG hy hq];exact hx⟩,st',fun b hb=>(hf b hb).1⟩⟩
 done:=by
  intro X hP hw hK hc i pins s σ H E I hf st hg
  subst hP hw hK
  obtain ⟨xs,hq,hx⟩:=hg
  obtain ⟨its,rv,p,hz⟩:=I.list hq
  obtain ⟨f0,f1,f2,f3,f4,f5⟩:=hf it (by simp)
  have hl:=rv.length
  exact wpAny_pyNext_list_end (I.ok.hd hc) st p.isList (by simp;lia) fun h' eb=>⟨rfl,I.turned (t':=s.toks) (fun b o hb e=>eb b o hb e) f0 f1 f3 f4 f5⟩
 self:=fun _ _ _ _ _ st h=>wpAny_pyIter_listiter st h
theorem ui {P:Program} {w:World} {K:PySem.W.Frag} (a it:Addr):Turn P w K tg (DU K a) [it] it (fun i h=>h.IsTupleIter it a i) where
 mem:=by simp
 obj:=fun i h st b hb=>by
  have e:b=it:=by simpa using hb
  subst e
  obtain ⟨o,e,c,d⟩:=st
  exact ⟨o,e,fun v z=>by rw [d] at z;cases z⟩
 keep:=fun i h h' st k=>st.at fun o e=>k it (by simp) o e
 item:=by
  intro X hP hw hK hc i pins s σ H E I hf st hg
  subst hP hw hK
  obtain ⟨xs,x,hq,hx⟩:=hg
  obtain ⟨its,rv,p,hz⟩:=I.tuple hq
  obtain ⟨u,hu,ru⟩:=rv.get hx
  obtain ⟨f0,f1,f2,f3,f4,f5⟩:=hf it (by simp)
  refine wpAny_pyNext_tuple_item st (show s.heap.IsTuple a its.toArray from p) (x:=u) (by simpa using hu) fun h' st' sb=> ?_
  have I1:Inv X pins σ H {s with heap:=h'}:=I.turned (t':=s.toks) (fun b o hb e=>(sb.2 b hb).trans e) f0 f1 f3 f4 f5
  obtain ⟨o,e,c,d⟩:=id st'
  exact ⟨u,rfl,lh (s:={s with heap:=h'}) e c d (by decide) ⟨x,H,I1,ru,⟨rfl,fun ys hy=>by rw [I.fS hy hq];exact hx⟩,st',fun b hb=>(hf b hb).1⟩⟩
 done:=by
  intro X hP hw hK hc i pins s σ H E I hf st hg
  subst hP hw hK
  obtain ⟨xs,hq,hx⟩:=hg
  obtain ⟨its,rv,p,hz⟩:=I.tuple hq
  obtain ⟨f0,f1,f2,f3,f4,f5⟩:=hf it (by simp)
  have hl:=rv.length
  exact wpAny_pyNext_tuple_end (I.ok.hd hc) st (show s.heap.IsTuple a its.toArray from p) (by simp;lia) fun h' eb=>⟨rfl,I.turned (t':=s.toks) (fun b o hb e=>eb b o hb e) f0 f1 f3 f4 f5⟩
 self:=fun _ _ _ _ _ st h=>wpAny_pyIter_tupleiter st h
theorem tW {P:Program} {w:World} {K:PySem.W.Frag} (it:Addr) (lo:Int) (n:Nat):Turn P w K tg (wD lo n) [it] it (fun i h=>IsRangeIter h it (lo+(i:Nat)*1) ((n:Int)-(i:Nat)) 1) where
 mem:=by simp
 obj:=fun i h st b hb=>by
  have e:b=it:=by simpa using hb
  subst e
  exact ⟨_,st,fun v z=>by
   have z':Data.fields _=Data.cell v:=z
   cases z'⟩
 keep:=fun i h h' st k=>k it (by simp) _ st
 item:=by
  intro X hP hw hK hc i pins s σ H E I hf st hg
  subst hP hw hK
  obtain ⟨f0,f1,f2,f3,f4,f5⟩:=hf it (by simp)
  have W:=Walks.range (prog:=X.prog) (w:=X.w) (I.ok.hd hc) it lo 1 n
  refine W.item i s _ _ hg st fun v h' tk hv st' kk=> ?_
  obtain ⟨t,rfl⟩:=hv
  have I1:Inv X pins σ H {s with heap:=h',toks:=tk}:=I.turned (fun b o hb e=>kk b o (by simpa using hb) e) f0 f1 f3 f4 f5
  refine ⟨_,rfl,lh (s:={s with heap:=h',toks:=tk}) (n:="range_iterator") st' rfl rfl (by decide) ⟨.int (lo+i),H,I1,⟨t, ?_⟩,⟨rfl,rfl⟩,st',fun b hb=>(hf b hb).1⟩⟩
  rw [Int.mul_one]
 done:=by
  intro X hP hw hK hc i pins s σ H E I hf st hg
  subst hP hw hK
  obtain ⟨f0,f1,f2,f3,f4,f5⟩:=hf it (by simp)
  exact wpAny_pyNext_range_end (I.ok.hd hc) st (by have:n<=i:=hg;lia) fun h' eb=>⟨rfl,I.turned (t':=s.toks) (fun b o hb e=>eb b o hb e) f0 f1 f3 f4 f5⟩
 self:=fun _ _ _ _ _ st h=>wpAny_pyIter_rangeiter st h
end L2
namespace L2
open PySem PySem.Spec PyProof.Rows
section
variable {X:Cx} {tg:Expr}
theorem qB {σ:St} {H:Hp} {s:Shared} {R:It->Hp->Prop} {E:Value->Shared->Prop} {lo hi:Int} {t u v:Tok} {tk:Nat} (I:Inv X pins σ H s) (h1: -(2^62)<=lo) (h2:lo<2^62) (h3: -(2^62)<=hi) (h4:hi<2^62)
  (q:R (wD lo (hi-lo).toNat) H):wpAny (model X.prog X.w) X.A (pyIter (.ref s.heap.objs.size)) (PIE X pins σ tg R) E {s with heap:=s.heap.push {cls:= .type "range",data:= .fields #[.int lo t, .int hi u, .int 1 v]},toks:=tk}:=by
 refine wpAny_pyIter_range (IsRange.new ..) (small_one h1 h2 h3 h4) ?_
 have I1:Inv X pins σ H {s with heap:=s.heap.push {cls:= .type "range",data:= .fields #[.int lo t, .int hi u, .int 1 v]},toks:=tk}:=I.kept fun b o e=>Heap.get?_push_of_some _ e
 refine ⟨(s.heap.push {cls:= .type "range",data:= .fields #[.int lo t, .int hi u, .int 1 v]}).objs.size,[(s.heap.push {cls:= .type "range",data:= .fields #[.int lo t, .int hi u, .int 1 v]}).objs.size],_,_,H,rfl,
  I1.kept (t':=tk) fun b o e=>Heap.get?_push_of_some _ e,tW _ lo (hi-lo).toNat, ?_,fun b hb=> ?_,q⟩
 ·have e1:lo+((0:Nat):Int)*1=lo:=by simp
  have e2:(((hi-lo).toNat:Nat):Int)-((0:Nat):Int)=Builtin.Range.rangeSize lo hi 1:=by rw [rangeSize_one];split<;>lia
  show IsRangeIter _ _ (lo+((0:Nat):Int)*1) ((((hi-lo).toNat:Nat):Int)-((0:Nat):Int)) 1
  rw [e1,e2]
  exact Heap.get?_push_size _ rfl
 ·have e:b=(s.heap.push {cls:= .type "range",data:= .fields #[.int lo t, .int hi u, .int 1 v]}).objs.size:=by simpa using hb
  subst e
  exact I1.kj (Nat.le_refl _) (I1.ah.fresh (Nat.le_refl _))
noncomputable def Gi (ta:TA):TI:=fun σ H R=>ta σ H fun vs H1=>∃j:Int,vs=[.int j]/\ -(2^62)<=j/\j<2^62/\R (wD 0 j.toNat) H1
noncomputable def Fw (ta:TA):TI:=fun σ H R=>ta σ H fun vs H1=>∃i j:Int,vs=[.int i, .int j]/\(-(2^62)<=i/\i<2^62/\ -(2^62)<=j/\j<2^62)/\R (wD i (j-i).toNat) H1
theorem vq {a:Expr} {ta:TA} {p:Pos} (hg:Gl X "range") (hm:X.mg "range"=none) (ha:PA X [a] ta) (hs:starEach [a] X.env=[(false,eval a X.env)]:=by rfl):PI X tg (.Call (.Name "range" p) [a] [] pos) (Gi ta):=by
 intro pins s σ H R I h
 refine Call_ (gE I hg hm boot_range (PyProof.Rows.callWith_type1 (ay (ha pos pins s σ H _ I h) fun us s1 z902=> ?_) hs rfl));obtain ⟨vs,H1,I1,r1,q1⟩:=z902
 obtain ⟨j,e,q1,q2,q⟩:=q1
 subst e
 cases r1 with
 |cons r rr=>
  cases rr
  obtain ⟨t,rfl⟩:=r
  exact call_range_1 (qB I1 (by lia) (by lia) q1 q2 (by simpa using q))
theorem wu {a b:Expr} {ta:TA} {p:Pos} (hg:Gl X "range") (hm:X.mg "range"=none) (ha:PA X [a,b] ta) (hs:starEach [a,b] X.env=[(false,eval a X.env),(false,eval b X.env)]:=by rfl) (hs2:starEach [b] X.env=[(false,eval b X.env)]:=by rfl):
  PI X tg (.Call (.Name "range" p) [a,b] [] pos) (Fw ta):=by
 intro pins s σ H R I h
 refine Call_ (gE I hg hm boot_range (PyProof.Rows.callWith_type1 (ay (ha pos pins s σ H _ I h) fun us s1 z902=> ?_) (by rw [hs,hs2]) (by rw [hs2];rfl)));obtain ⟨vs,H1,I1,r1,q1⟩:=z902
 obtain ⟨i,j,e,⟨q1,q2,q3,q4⟩,q⟩:=q1
 subst e
 cases r1 with
 |cons r rr=>
  cases rr with
  |cons r' rr=>
   cases rr
   obtain ⟨t,rfl⟩:=r
   obtain ⟨t',rfl⟩:=r'
   exact call_range_2 (qB I1 q1 q2 q3 q4 q)
noncomputable def HQ (wi:TI) (g:TG) (tb:TS):TS:=fun D σ H=>wi σ H fun J H1=>∃W:Nat->Nat->St->Hp->Prop,(∃m,W 0 m σ H1)/\∀i m σ H,W i m σ H->
 (J.stop i H/\D.nx σ H)∨(J.go i H/\∃N:St->Hp->Prop,(∀σ' H',N σ' H'->∃m',m'<m/\W (i+1) m' σ' H')/\∀x H',J.yld i H x H'->g x σ H' fun σ2 H2=>tb {D with nx:=N,ct:=N,bk:=D.nx} σ2 H2)
noncomputable def bC (fp:List Addr) (h:Heap):List (Addr×Obj):=fp.filterMap fun b=>(h.get? b).map fun o=>(b,o)
theorem cX {h:Heap} {b:Addr} (hb:b∈fp) (e:h.get? b=some o):(b,o)∈bC fp h:=List.mem_filterMap.mpr ⟨b,hb,by rw [e];rfl⟩
theorem oh {h:Heap} {p:Addr×Obj} (hp:p∈bC fp h):p.1∈fp/\h.get? p.1=some p.2:=by
 obtain ⟨b,hb,e⟩:=List.mem_filterMap.mp hp
 cases q:h.get? b with
 |none=>rw [q] at e;cases e
 |some o=>
  rw [q] at e
  have e':(b,o)=p:=Option.some.inj e
  subst e'
  exact ⟨hb,q⟩
theorem Inv.pinned {σ:St} {H:Hp} {s:Shared} {fp:List Addr} (I:Inv X pins σ H s) (hf:∀b∈fp,ck X pins H b) (ho:∀b∈fp,∃o,s.heap.get? b=some o/\∀v,o.data≠ .cell v):Inv X (pins++bC fp s.heap) σ H s:=
 I.cB fun p hp=>(List.mem_append.mp hp).elim (fun z=>I.pin p (List.mem_append_right _ z)) fun z=>by
  obtain ⟨hb,e⟩:=oh z
  obtain ⟨f0,f1,f2,_⟩:=hf p.1 hb
  obtain ⟨o,e',d⟩:=ho p.1 hb
  rw [e] at e';cases e'
  exact ⟨e,f0,f1,f2,d⟩
theorem Inv.gU {σ:St} {H:Hp} {s:Shared} (I:Inv X (pins++pl) σ H s):Inv X pins σ H s:=I.cB fun p hp=>I.pin p (List.mem_append_right _ (List.mem_append_left _ hp))
theorem CF {wi:TI} {g:TG} {tb:TS} (hp:PassesOwn (model X.prog X.w) X.A X.env X.xe) (hc:X.calm=true) (hi:PI X tg iter wi) (hg:PG X tg g) (hb:di X body tb)
  (hs:∀x,foldedSetIterable iter X.env x=pure x:=by intro _;rfl):PS X (.For tg iter body [] pos) (HQ wi g tb):=by
 intro pins s σ H D I h
 refine wpAny_For (ay (hi pins s σ H _ I h) fun v s1 h1=>ay h1 fun itv s2 h2=> ?_) hs
 obtain ⟨it,fp,tn,J,H2,e,I2,T,st2,f2,W,⟨m0,w0⟩,turn⟩:=h2
 subst e
 have stat:∀{H':Hp},(∀b∈fp,H' b=none)->∀b∈fp,ck X pins H' b:=fun hn b hb=>⟨hn b hb,(f2 b hb).2⟩
 refine codeAny_forLoop_any (fun n s'=>∃i σ' H',Inv X pins σ' H' s'/\tn i s'.heap/\(∀b∈fp,H' b=none)/\W i n σ' H') ?_ m0 ⟨0,σ,H2,I2,st2,fun b hb=>(f2 b hb).1,w0⟩
 rintro n s3 ⟨i,σ3,H3,I3,st3,fr3,w3⟩
 rcases turn i n σ3 H3 w3 with ⟨stop,qn⟩|⟨go,N,hN,step⟩
 ·refine wpAny_passesOwn hp (ay (T.done X rfl rfl rfl hc i pins s3 σ3 H3 X.xe I3 (stat fr3) st3 stop) fun r s4 z902=> ?_);obtain ⟨hr,I4⟩:=z902
  subst hr
  exact wpAny_execs_nil ⟨σ3,H3,I4,qn⟩
 ·refine wpAny_passesOwn hp (ay (T.item X rfl rfl rfl hc i pins s3 σ3 H3 X.xe I3 (stat fr3) st3 go) fun r s4 z902=> ?_);obtain ⟨u,hr,h4⟩:=z902
  subst hr
  refine wpAny_passesOwn hp (ay h4 fun _ s5 z902=> ?_);obtain ⟨x,H5,I5,r5,y5,st5,fr5⟩:=z902
  have I5':=I5.pinned (stat fr5) (T.obj _ _ st5)
  refine wpAny_passesOwn hp (ay (hg _ s5 σ3 H5 x u _ I5' r5 (step x H5 y5)) fun _ s6 z902=> ?_);obtain ⟨σ6,H6,I6,q6⟩:=z902
  refine wpAny_passesOwn hp (ay (hb _ s6 σ6 H6 _ I6 q6) fun f s7 q7=> ?_)
  have again:∀{σ7:St} {H7:Hp},Inv X (pins++bC fp s5.heap) σ7 H7 s7->N σ7 H7->∃m,m<n/\∃i σ' H',Inv X pins σ' H' s7/\tn i s7.heap/\(∀b∈fp,H' b=none)/\W i m σ' H':=fun {σ7 H7} I7 n7=>by
   obtain ⟨m',hm,w7⟩:=hN σ7 H7 n7
   refine ⟨m',hm,i+1,σ7,H7,I7.gU,T.keep _ _ _ st5 fun b hb o e=>(I7.pin (b,o) (List.mem_append_right _ (List.mem_append_right _ (cX hb e)))).1,fun b hb=> ?_,w7⟩
   obtain ⟨o,e,d⟩:=T.obj _ _ st5 b hb
   exact (I7.pin (b,o) (List.mem_append_right _ (List.mem_append_right _ (cX hb e)))).2.1
  cases f with
  |next=>obtain ⟨σ7,H7,I7,n7⟩:=q7;exact again I7 n7
  |cont=>obtain ⟨σ7,H7,I7,n7⟩:=q7;exact again I7 n7
  |brk=>obtain ⟨σ7,H7,I7,q7⟩:=q7;exact ⟨σ7,H7,I7.gU,q7⟩
  |ret v=>obtain ⟨x7,σ7,H7,I7,r7,q7⟩:=q7;exact ⟨x7,σ7,H7,I7.gU,r7,q7⟩
end
end L2
namespace L2
open PySem PySem.Spec PyProof.Rows
noncomputable abbrev R2:=V->V->Hp->VK->Prop
noncomputable def aK (X:Cx) (f:Value->Value->Sem Value) (r:R2):Prop:=
 ∀(pins:List (Addr×Obj)) (s:Shared) (σ:St) (H:Hp) (x y:V) (v u:Value) (Q:VK),Inv X pins σ H s->RelV x v->RelV y u->r x y H Q->
  wpAny (model X.prog X.w) X.A (f v u) (EP X pins σ Q) X.xe s
noncomputable def aA (X:Cx) (f:Value) (r:List V->Hp->VK->Prop):Prop:=
 ∀(pins:List (Addr×Obj)) (s:Shared) (σ:St) (H:Hp) (xs:List V) (us:List Value) (Q:VK),Inv X pins σ H s->Vals xs us->r xs H Q->
  wpAny (model X.prog X.w) X.A (call f us) (EP X pins σ Q) X.xe s
noncomputable def Hs (X:Cx) (r:V->Hp->(Bool->Hp->Prop)->Prop):Prop:=
 ∀(pins:List (Addr×Obj)) (s:Shared) (σ:St) (H:Hp) (x:V) (v:Value) (Q:Bool->Hp->Prop),Inv X pins σ H s->RelV x v->r x H Q->
  wpAny (model X.prog X.w) X.A (truthy v) (TP X pins σ Q) X.xe s
noncomputable def zX (r:R2) (ta tb:TE):TE:=fun σ H Q=>ta σ H fun x H1=>tb σ H1 fun y H2=>r x y H2 Q
noncomputable def rI (C:Int->Int->Prop) (g:Int->Int->V):R2:=fun x y H Q=>∃i j,x= .int i/\y= .int j/\C i j/\Q (g i j) H
noncomputable def jN (g:Int->Int->V):R2:=fun x y H Q=>∃i j,x= .int i/\y= .int j/\Q (g i j) H
section
variable {X:Cx} {a b c:Expr} {ta tb tc:TE} {pos:Pos}
theorem xP (ha:PE X a ta) (hb:PE X b tb) {s:Shared} {σ:St} {H:Hp} {R:V->V->Hp->Prop} (I:Inv X pins σ H s)
  (h:ta σ H fun x H1=>tb σ H1 fun y H2=>R x y H2) {Q:Value->Shared->Prop} {f:Value->Value->Sem Value}
  (hf:∀v u s2 x y H2,Inv X pins σ H2 s2->RelV x v->RelV y u->R x y H2->wpAny (model X.prog X.w) X.A (f v u) Q X.xe s2):
  wpAny (model X.prog X.w) X.A (eval a X.env) (fun v s₁=>wpAny (model X.prog X.w) X.A (eval b X.env) (fun u s₂=>wpAny (model X.prog X.w) X.A (f v u) Q X.xe s₂) X.xe s₁) X.xe s:=by
 refine ay (ha pins s σ H _ I h) fun v s1 z902=> ?_;obtain ⟨x,H1,I1,r1,q1⟩:=z902
 refine ay (hb pins s1 σ H1 _ I1 q1) fun u s2 z902=> ?_;obtain ⟨y,H2,I2,r2,q2⟩:=z902
 exact hf v u s2 x y H2 I2 r1 r2 q2
theorem Fc {op:Operator} {r:R2} (ho:aK X (binaryOp op) r) (ha:PE X a ta) (hb:PE X b tb):PE X (.BinOp a op b pos) (zX r ta tb):=by
 intro pins s σ H Q I h
 exact wpAny_BinOp (xP ha hb I h fun v u s2 x y H2 I2 rx ry q=>ho pins s2 σ H2 x y v u Q I2 rx ry q)
theorem Aa {f:Value->Value->Sem Value} {C:Int->Int->Prop} {g:Int->Int->Int}
  (rule:∀(i j:Int) (t u:Tok) (s:Shared) (Q:Value->Shared->Prop) (E:Value->Shared->Prop),C i j->Q (.int (g i j) s.toks) {s with toks:=s.toks+1}->wpAny (model X.prog X.w) X.A (f (.int i t) (.int j u)) Q E s):
  aK X f (rI C fun i j=> .int (g i j)):=by
 intro pins s σ H x y v u Q I rx ry h
 obtain ⟨i,j,rfl,rfl,hc,q⟩:=h
 obtain ⟨t,rfl⟩:=rx
 obtain ⟨t',rfl⟩:=ry
 exact rule i j t t' s _ _ hc ⟨.int (g i j),H,I.tok _,⟨_,rfl⟩,q⟩
theorem DV {f:Value->Value->Sem Value} {g:Int->Int->Int}
  (rule:∀(i j:Int) (t u:Tok) (s:Shared) (Q:Value->Shared->Prop) (E:Value->Shared->Prop),Q (.int (g i j) s.toks) {s with toks:=s.toks+1}->wpAny (model X.prog X.w) X.A (f (.int i t) (.int j u)) Q E s):
  aK X f (jN fun i j=> .int (g i j)):=by
 intro pins s σ H x y v u Q I rx ry h
 obtain ⟨i,j,rfl,rfl,q⟩:=h
 obtain ⟨t,rfl⟩:=rx
 obtain ⟨t',rfl⟩:=ry
 exact rule i j t t' s _ _ ⟨.int (g i j),H,I.tok _,⟨_,rfl⟩,q⟩
theorem tK {f:Value->Value->Sem Value} {g:Int->Int->Bool}
  (rule:∀(i j:Int) (t u:Tok) (s:Shared) (Q:Value->Shared->Prop) (E:Value->Shared->Prop),Q (.bool (g i j)) s->wpAny (model X.prog X.w) X.A (f (.int i t) (.int j u)) Q E s):
  aK X f (jN fun i j=> .bl (g i j)):=by
 intro pins s σ H x y v u Q I rx ry h
 obtain ⟨i,j,rfl,rfl,q⟩:=h
 obtain ⟨t,rfl⟩:=rx
 obtain ⟨t',rfl⟩:=ry
 exact rule i j t t' s _ _ ⟨.bl (g i j),H,I,rfl,q⟩
noncomputable def JA (i j:Int):Prop:=0<=j/\j<=1000000/\i.natAbs<2^64
theorem Eo:aK X (binaryOp .Add) (jN fun i j=> .int (i+j)):=DV fun _ _ _ _ _ _ _ q=>add_int q
theorem Cv:aK X (binaryOp .Sub) (jN fun i j=> .int (i-j)):=DV fun _ _ _ _ _ _ _ q=>sub_int q
theorem AF:aK X (binaryOp .Mod) (rI (fun _ j=>j≠0) fun i j=> .int (i.fmod j)):=Aa fun _ _ _ _ _ _ _ hc q=>mod_int' hc q
theorem DA:aK X (binaryOp .Pow) (rI JA fun i j=> .int (i^j.toNat)):=Aa fun _ _ _ _ _ _ _ hc q=>pow_int_small hc.1 hc.2.1 hc.2.2 q
end
section
variable {X:Cx} {a b c:Expr} {ta tb tc:TE} {pos:Pos}
theorem vB {σ:St} {H:Hp} {s:Shared} {Q:VK} {k k':Bool} (I:Inv X pins σ H s) (q:Q (.bl k) H) (e:k=k'):EP X pins σ Q (.bool k') s:=by
 subst e
 exact ⟨.bl k,H,I,rfl,q⟩
theorem Gx:aK X (compareOp .Lt) (jN fun i j=> .bl (decide (i<j))):=tK fun _ _ _ _ _ _ _ q=>lt_int q
theorem Gg:aK X (compareOp .LtE) (jN fun i j=> .bl (decide (i<=j))):=tK fun _ _ _ _ _ _ _ q=>le_int q
theorem Gb:aK X (compareOp .Gt) (jN fun i j=> .bl (decide (j<i))):=tK fun _ _ _ _ _ _ _ q=>gt_int q
theorem ES:aK X (compareOp .GtE) (jN fun i j=> .bl (decide (j<=i))):=tK fun _ _ _ _ _ _ _ q=>ge_int q
theorem D1:aK X (compareOp .Is) (fun x y H Q=>y= .non/\Q (.bl (decide (x= .non))) H):=by
 intro pins s σ H x y v u Q I rx ry h
 obtain ⟨rfl,q⟩:=h
 cases ry
 refine is_none_gen (vB I q ?_)
 cases x<;>first
  |(cases rx;rfl)
  |(obtain ⟨t,rfl⟩:=rx;rfl)
theorem BL:aK X (compareOp .IsNot) (fun x y H Q=>y= .non/\Q (.bl (!decide (x= .non))) H):=by
 intro pins s σ H x y v u Q I rx ry h
 obtain ⟨rfl,q⟩:=h
 cases ry
 refine isnot_none_gen (vB I q ?_)
 cases x<;>first
  |(cases rx;rfl)
  |(obtain ⟨t,rfl⟩:=rx;rfl)
theorem aK.or {f:Value->Value->Sem Value} {r r':R2} (h:aK X f r) (h':aK X f r'):aK X f (fun x y H Q=>r x y H Q∨r' x y H Q):=by
 intro pins s σ H x y v u Q I rx ry q
 rcases q with q|q
 ·exact h pins s σ H x y v u Q I rx ry q
 ·exact h' pins s σ H x y v u Q I rx ry q
theorem B6 {op:CmpOp} {r:R2} (ho:aK X (compareOp op) r) (ha:PE X a ta) (hb:PE X b tb) (hm:behindInMarks op b=false):PE X (.Compare a [op] [b] pos) (zX r ta tb):=by
 intro pins s σ H Q I h
 exact wpAny_Compare1 (xP ha hb I h fun v u s2 x y H2 I2 rx ry q=>ho pins s2 σ H2 x y v u Q I2 rx ry q) hm
noncomputable def F0 (t:TE):TT:=fun σ H Q=>t σ H fun x H'=>∃k,x= .bl k/\Q k H'
theorem BE {op:CmpOp} {r:R2} (ho:aK X (compareOp op) r) (ha:PE X a ta) (hb:PE X b tb) (hm:behindInMarks op b=false):PT X (.Compare a [op] [b] pos) (F0 (zX r ta tb)):=by
 intro pins s σ H Q I h
 refine wpAny_isTrue_Compare1 (ay (ha pins s σ H _ I h) fun v s1 ⟨x,H1,I1,r1,q1⟩=>ay (hb pins s1 σ H1 _ I1 q1) fun u s2 ⟨y,H2,I2,r2,q2⟩=>
  ay (ho pins s2 σ H2 x y v u _ I2 r1 r2 q2) fun c s3 ⟨z,H3,I3,r3,k,e,q3⟩=> ?_) hm
 subst e
 cases r3
 exact wpAny_truthy_bool ⟨H3,I3,q3⟩
noncomputable def yw (K:PySem.W.Frag) (x:V) (H:Hp) (k:Bool):Prop:=
 match x with
 | .non=>k=false
 | .bl b=>k=b
 | .int i=>k=(i !=0)
 | .str y=>y.length<=sizeLine/\k=((y.length:Int) !=0)
 | .byt y=>y.size<=sizeLine/\k=((y.size:Int) !=0)
 | .ref p=>(∃xs,bH K H p xs/\k= !xs.isEmpty)∨(∃xs,cH K H p xs/\k= !xs.isEmpty)∨∃kvs,H p=some (.dK kvs)/\k= !kvs.isEmpty
 |_=>False
theorem t8 {κ:Type} {kvs:List (κ×V)} {vs:List (κ×Value)} (r:KV kvs vs):(!vs.isEmpty)= !kvs.isEmpty:=by
 cases r<;>rfl
theorem lD {xs:List V} {its:List Value} (r:Vals xs its):(!its.toArray.isEmpty)= !xs.isEmpty:=by
 cases r<;>simp
theorem fO:(sizeLine:Nat)<2^63:=by rw [sizeLine_eq];decide
theorem C8:Hs X (fun x H Q=>∃k,yw X.K x H k/\Q k H):=by
 intro pins s σ H x v Q I rx h
 obtain ⟨k,e,q⟩:=h
 have hl:=fO
 have hs:sizeLine=16777216:=sizeLine_eq
 cases x with
 |non=>
  cases rx
  have e':k=false:=e
  subst e'
  exact truthy_none ⟨H,I,q⟩
 |bl b=>
  cases rx
  have e':k=b:=e
  subst e'
  exact wpAny_truthy_bool ⟨H,I,q⟩
 |int i=>
  obtain ⟨t,rfl⟩:=rx
  have e':k=(i !=0):=e
  subst e'
  exact PySem.P.truthy_int ⟨H,I,q⟩
 |str y=>
  obtain ⟨t,rfl⟩:=rx
  obtain ⟨hy,e'⟩:y.length<=sizeLine/\k=((y.length:Int) !=0):=e
  subst e'
  exact PySem.P.truthy_str (by lia) ⟨H,I.tok _,q⟩
 |byt y=>
  obtain ⟨t,rfl⟩:=rx
  obtain ⟨hy,e'⟩:y.size<=sizeLine/\k=((y.size:Int) !=0):=e
  subst e'
  exact PySem.W.truthy_bytes (by lia) ⟨H,I.tok _,q⟩
 |ref p=>
  cases rx
  have e':(∃xs,bH X.K H p xs/\k= !xs.isEmpty)∨(∃xs,cH X.K H p xs/\k= !xs.isEmpty)∨∃kvs,H p=some (.dK kvs)/\k= !kvs.isEmpty:=e
  rcases e' with ⟨xs,hx,e'⟩|⟨xs,hx,e'⟩|⟨kvs,hx,e'⟩
  ·subst e'
   obtain ⟨its,r,pl,hz⟩:=I.list hx
   have hlen:=r.length
   exact wpAny_truthy_list pl.isList (by simp only [List.size_toArray];lia) ⟨H,I.tok _,by rw [lD r];exact q⟩
  ·subst e'
   obtain ⟨its,r,pl,hz⟩:=I.tuple hx
   have hlen:=r.length
   exact truthy_tuple pl (by simp only [List.size_toArray];lia) ⟨H,I.tok _,by rw [lD r];exact q⟩
  ·subst e'
   obtain ⟨hz,hS,vs,r,m⟩:kvs.length<=sizeLine/\(p==sysModules)=false/\∃vs,KV kvs vs/\s.heap.DictOf (aG X.prog X.w) p vs:=I.ah p _ hx
   have hlen:kvs.length=vs.length:=Paired.length r
   exact wpAny_truthy_dict hS m (by lia) ⟨H,I.tok _,by rw [t8 r];exact q⟩
 |_=>exact (show False from e).elim
theorem xH (ha:PE X a ta) (he:∀whole,isTrue a X.env whole=(do let v←whole;standAt a.pos;holding [v] (truthy v))):
  PT X a (fun σ H Q=>ta σ H fun x H'=>∃k,yw X.K x H' k/\Q k H'):=by
 intro pins s σ H Q I h
 exact isTrue_plain (ay (ha pins s σ H _ I h) fun v s1 z902=>by obtain ⟨x,H1,I1,r1,q1⟩:=z902;exact C8 pins s1 σ H1 x v Q I1 r1 q1) (he _)
theorem uh:aK X (binaryOp .Add) (fun x y H Q=>∃i j,x= .str i/\y= .str j/\i.length+j.length<=sizeLine/\Q (.str (i++j)) H):=by
 intro pins s σ H x y v u Q I rx ry h
 obtain ⟨i,j,rfl,rfl,hz,q⟩:=h
 obtain ⟨t,rfl⟩:=rx
 obtain ⟨t',rfl⟩:=ry
 exact add_str (fun t' tk=>⟨.str (i++j),H,I.tok _,⟨_,rfl⟩,q⟩) hz
theorem vals1 {x:V} {us:List Value} (r:Vals [x] us):∃u,us=[u]/\RelV x u:=by
 cases r with
 |cons r1 r2=>cases r2;exact ⟨_,rfl,r1⟩
theorem ye:aA X (.builtin "abs") (fun xs H Q=>∃i,xs=[.int i]/\Q (.int (if i<0 then-i else i)) H):=by
 intro pins s σ H xs us Q I r h
 obtain ⟨i,rfl,q⟩:=h
 obtain ⟨u,rfl,t,rfl⟩:=vals1 r
 exact call_abs_int fun u tk=>⟨.int (if i<0 then-i else i),H,I.tok _,⟨_,rfl⟩,q⟩
theorem vc:aA X (.type "int") (fun xs H Q=>(∃i,xs=[.int i]/\Q (.int i) H)∨∃k,xs=[.bl k]/\Q (.int (if k then 1 else 0)) H):=by
 intro pins s σ H xs us Q I r h
 rcases h with ⟨i,rfl,q⟩|⟨k,rfl,q⟩
 ·obtain ⟨u,rfl,t,rfl⟩:=vals1 r
  exact call_int_int ⟨.int i,H,I,⟨_,rfl⟩,q⟩
 ·obtain ⟨u,rfl,r1⟩:=vals1 r
  cases r1
  exact call_int_bool ⟨.int (if k then 1 else 0),H,I.tok _,⟨_,rfl⟩,q⟩
end
end L2
namespace L2
open PySem PySem.Spec PyProof.Rows
structure ObjM (h:Heap) (x dx C:Addr) (mA:Str->Option Value):Prop where
 obj:h.get? x=some (PySem.W.instObj C dx)
 ns:h.Ns1 dx mA
 ne:dx≠x
theorem wm {h:Heap} {mA:Str->Option Value} (n:h.Ns1 dx mA):∃od,h.get? dx=some od/\∀name,PySem.W.lookIn name od=some (mA name):=by
 obtain ⟨o,es,ep,ho,hd,hk,_,hm⟩:=n
 refine ⟨o,ho,fun name=> ?_⟩
 have e:=hm name
 unfold nsFind findBy at e
 rw [←Array.find?_toList] at e
 unfold PySem.W.lookIn
 rw [hd]
 dsimp only
 split
 ·rename_i y q
  rw [q] at e
  exact congrArg some e
 ·rename_i q
  rw [q] at e
  have a:es.toList.any (·.refKey)=false:=by
   rw [List.any_eq_false]
   intro y hy
   obtain ⟨z,t,hkey⟩:=hk y (Array.mem_toList_iff.mp hy)
   simp [DictEntry.refKey,hkey]
  have a':¬es.toList.any (·.refKey)=true:=by rw [a];exact Bool.false_ne_true
  rw [if_neg a']
  exact congrArg some e
theorem ObjM.look {x C:Addr} {mA:Str->Option Value} (I:ObjM h x dx C mA):∃od,PySem.W.InstAt h x (PySem.W.instObj C dx) C (some od)/\∀name,PySem.W.lookIn name od=some (mA name):=
 let ⟨od,ho,hl⟩:=wm I.ns
 ⟨od,⟨I.obj,rfl,rfl,ho⟩,hl⟩
section
variable {prog:Program} {w:World} {A:Around} {E:Value->Shared->Prop} {s:Shared} {K:PySem.W.Frag} {x dx C f:Addr} {mA:Str->Option Value} {name:Str} {v:Value}
theorem get_map {expr:Bool} {Q:Value->Shared->Prop} (X:K.In s.heap) (I:ObjM s.heap x dx C mA) (hg:PySem.W.plainGet K C name=true) (hh:PySem.W.hasDictIn K C=true)
  (ha:PySem.W.findIn K (.ref C) name=some none) (hv:mA name=some v) (hv':PySem.W.handedIn v=true) (h:Q v {s with toks:=s.toks+1}):
  wpAny (model prog w) A (getAttr (.ref x) name expr) Q E s:=by
 obtain ⟨od,J,hl⟩:=I.look
 exact PySem.W.get_value X J (PySem.W.plainGet_of hg).1 (PySem.W.findObj_own hh ha rfl (by rw [hl,hv])) hv' h
theorem wY {pl:Sem Bool} {Q:Value×List Value->Shared->Prop} (X:K.In s.heap) (I:ObjM s.heap x dx C mA) (hg:PySem.W.plainGet K C name=true)
  (hf:PySem.W.findIn K (.ref C) name=some (some (.ref f))) (ht:PySem.W.isFn K (.ref f)=true) (hv:mA name=none) (h:Q (.ref f,[.ref x]) s):
  wpAny (model prog w) A (getMethod (.ref x) name pl) Q E s:=by
 obtain ⟨od,J,hl⟩:=I.look
 exact PySem.W.method_fn X J (PySem.W.plainGet_of hg).1 (PySem.W.plainGet_of hg).2 hf (beq_iff_eq.mp ht) (by show (PySem.W.lookIn name od).map (·.isSome)=some false;rw [hl,hv];rfl) h
theorem As {ns:List Str} {Q:Unit->Shared->Prop} (X:K.In s.heap) (I:ObjM s.heap x dx C mA)
  (hs:PySem.W.findIn K (.ref C) "__setattr__"=some (some (.builtin "object.__setattr__"))) (hp:PySem.W.plainOver K C=true) (ht:PySem.W.takerIn K C name=some none) (hh:PySem.W.hasDictIn K C=true)
  (hw:PySem.Within mA ns) (hsz:ns.length<=sizeLine)
  (h:∀h',ObjM h' x dx C (fun y=>if y=name then some v else mA y)->Heap.SameBut dx s.heap h'->Q () {s with heap:=h',toks:=s.toks+2}):
  wpAny (model prog w) A (setAttr (.ref x) name v) Q E s:=by
 obtain ⟨od,J,hl⟩:=I.look
 refine PySem.W.set_plain X J hs (PySem.W.osa_open (s:={s with toks:=s.toks+1}) (r:=none) X J hp ht fun b=> ?_)
 obtain ⟨cd,hc,hd'⟩:=PySem.W.any_some hh
 have hx:s.heap.get? x=some ⟨.ref C,some dx, .plain,#[]⟩:=I.obj
 refine wpAny_bind (wpAny_pure (wpAny_bind (wpAny_bind (wpAny_loadPart hx (wpAny_bind (PySem.W.Looks.here (s:={s with toks:=s.toks+1}) (PySem.W.looks_clsIn X hc) ?_))))))
 rw [hd']
 refine wpAny_pure (a:=some dx) (wpAny_bind (wpAny_pure (wpAny_bind ?_)))
 refine wpAny_nsSet1 (s:={s with toks:=s.toks+1}) I.ns fun h' hn2 hs2=> ?_
 obtain ⟨oD,esD,epD,hoD,hdD,hcD⟩:=hn2.count (PySem.Within.cons name v hw)
 refine wpAny_bind (wpAny_lookBehind hoD (by rw [hdD];exact pastItsLine_dict (Nat.le_trans hcD (by rw [List.length_cons];lia))) ?_)
 exact wpAny_pure (h _ ⟨(hs2.2 _ (Ne.symm I.ne)).trans I.obj,hn2,I.ne⟩ hs2)
theorem ym {R:Result->Shared->Prop} {vs:List Value} {kw:List (Str×Value)} (X:K.In s.heap) (hm:PySem.W.makesIn K C=true)
  (hi:PySem.W.findIn K (.ref C) "__init__"=some (some (.ref f))) (hf:PySem.W.typeIn K (.ref f)=some (.type "function"))
  (h:codeAny (model prog w) (A.under (.builtin "type.__call__" ⟨.ref C::vs,kw⟩)) (.call (.ref f) ⟨.ref (s.heap.objs.size+1)::vs,kw⟩) (PySem.W.InitBack (s.heap.objs.size+1) R)
   {s with heap:=(s.heap.push PySem.W.emptyDict).push (PySem.W.instObj C s.heap.objs.size)}):
  codeAny (model prog w) A (.call (.ref C) ⟨vs,kw⟩) R s:=by
 obtain ⟨hh,g,d,t,os⟩:=s
 exact PySem.W.make_core (PySem.W.makes_of X hm) (PySem.W.looks_findIn X hi) (fun self=>PySem.W.bind_fn X self hf) (.inl rfl) h
theorem vo {R:Result->Shared->Prop} (X:K.In s.heap) (hm:PySem.W.makesIn K C=true)
  (hi:PySem.W.findIn K (.ref C) "__init__"=some (some (.builtin "object.__init__")))
  (hb:∀self,PySem.W.Looks (model prog w) s.heap (bindSpecial (.builtin "object.__init__") self) (.builtin "object.__init__",[self]))
  (h:codeAny (model prog w) (A.under (.builtin "type.__call__" ⟨[.ref C],[]⟩)) (.call (.builtin "object.__init__") ⟨[.ref (s.heap.objs.size+1)],[]⟩) (PySem.W.InitBack (s.heap.objs.size+1) R)
   {s with heap:=(s.heap.push PySem.W.emptyDict).push (PySem.W.instObj C s.heap.objs.size)}):
  codeAny (model prog w) A (.call (.ref C) ⟨[],[]⟩) R s:=by
 obtain ⟨hh,g,d,t,os⟩:=s
 exact PySem.W.make_core (PySem.W.makes_of X hm) (PySem.W.looks_findIn X hi) hb (.inr ⟨rfl,rfl⟩) h
end
noncomputable def aQ (f:Str) (v:V):List (Str×V)->List (Str×V)
 |[]=>[(f,v)]
 |(g,x)::r=>if g=f then (g,v)::r else (g,x)::aQ f v r
theorem jM (f g:Str) (v:V):∀fs:List (Str×V),(aQ f v fs).lookup g=if g=f then some v else fs.lookup g
 |[]=>by
  show List.lookup g [(f,v)]=_
  by_cases h:g=f
  ·have hb:(g==f)=true:=beq_iff_eq.mpr h
   simp only [List.lookup,hb,if_pos h]
  ·have hb:(g==f)=false:=beq_eq_false_iff_ne.mpr h
   simp only [List.lookup,hb,if_neg h]
 |(k,x)::r=>by
  have ih:=jM f g v r
  rw [show aQ f v ((k,x)::r)=(if k=f then (k,v)::r else (k,x)::aQ f v r) from rfl]
  by_cases hk:k=f
  ·rw [if_pos hk]
   by_cases h:g=k
   ·have hb:(g==k)=true:=beq_iff_eq.mpr h
    simp only [List.lookup,hb,if_pos (h.trans hk)]
   ·have hb:(g==k)=false:=beq_eq_false_iff_ne.mpr h
    simp only [List.lookup,hb,if_neg (fun e:g=f=>h (e.trans hk.symm))]
  ·rw [if_neg hk]
   by_cases h:g=k
   ·have hb:(g==k)=true:=beq_iff_eq.mpr h
    simp only [List.lookup,hb,if_neg (fun e:g=f=>hk (h.symm.trans e))]
   ·have hb:(g==k)=false:=beq_eq_false_iff_ne.mpr h
    simp only [List.lookup,hb]
    exact ih
theorem iJ (f:Str) (v:V):∀fs:List (Str×V),f∈(aQ f v fs).map (·.1)/\∀g,g∈fs.map (·.1)->g∈(aQ f v fs).map (·.1)
 |[]=>⟨by simp [aQ],fun g h=>by simp at h⟩
 |(k,x)::r=>by
  obtain ⟨i1,i2⟩:=iJ f v r
  rw [show aQ f v ((k,x)::r)=(if k=f then (k,v)::r else (k,x)::aQ f v r) from rfl]
  by_cases hk:k=f
  ·rw [if_pos hk]
   subst hk
   exact ⟨by simp,fun g h=>by simpa using h⟩
  ·rw [if_neg hk]
   refine ⟨?_,fun g h=> ?_⟩
   ·rw [List.map_cons]
    exact List.mem_cons_of_mem _ i1
   ·rw [List.map_cons] at h⊢
    rcases List.mem_cons.mp h with e|e
    ·exact List.mem_cons.mpr (.inl e)
    ·exact List.mem_cons_of_mem _ (i2 g e)
theorem jS (f:Str) (v:V):∀fs:List (Str×V),(aQ f v fs).length<=fs.length+1
 |[]=>by simp [aQ]
 |(k,x)::r=>by
  have ih:=jS f v r
  rw [show aQ f v ((k,x)::r)=(if k=f then (k,v)::r else (k,x)::aQ f v r) from rfl]
  by_cases hk:k=f
  ·rw [if_pos hk,List.length_cons,List.length_cons];lia
  ·rw [if_neg hk,List.length_cons,List.length_cons];lia
theorem cF.some_of {v:V} {o:Option Value} (r:cF (some v) o):∃u,o=some u/\RelV v u:=by
 cases o with
 |none=>exact (show False from r).elim
 |some u=>exact ⟨u,rfl,r⟩
theorem cF.none_of {o:Option Value} (r:cF none o):o=none:=by
 cases o with
 |none=>rfl
 |some u=>exact (show False from r).elim
theorem wM {v:V} {u:Value} (r:RelV v u):PySem.W.handedIn u=true:=by
 cases v with
 |non=>cases (show u=Value.none from r);rfl
 |bl b=>cases (show u=Value.bool b from r);rfl
 |int i=>obtain ⟨t,e⟩:=(show∃t,u=Value.int i t from r);cases e;rfl
 |str x=>obtain ⟨t,e⟩:=(show∃t,u=Value.str x t from r);cases e;rfl
 |byt b=>obtain ⟨t,e⟩:=(show∃t,u=Value.bytes b t from r);cases e;rfl
 |flt b=>obtain ⟨t,e⟩:=(show∃t,u=Value.float b t from r);cases e;rfl
 |ref a=>cases (show u=Value.ref a from r);rfl
 |ty n=>cases (show u=Value.type n from r);rfl
section
variable {P:Program} {w:World} {H H':Hp} {h h':Heap} {a C dx:Addr} {fs fs':List (Str×V)}
theorem lY (ah:bq P w H h) (e:H a=some (.ins C dx fs)):∃mA,ObjM h a dx C mA/\(∀f,cF (fs.lookup f) (mA f))/\PySem.Within mA (fs.map (·.1))/\fs.length<=1000/\H dx=some (.own a):=by
 obtain ⟨d,z,ne,ob,mA,n,r,q⟩:=(show aN P w H h a (.ins C dx fs) from ah a _ e)
 exact ⟨mA,⟨ob,n,ne⟩,r,q,z,d⟩
end
structure Cls (K:PySem.W.Frag) (C:Addr):Prop where
 pg:PySem.W.plainGet K C Str.empty=true
 hd:PySem.W.hasDictIn K C=true
 po:PySem.W.plainOver K C=true
 sa:PySem.W.findIn K (.ref C) "__setattr__"=some (some (.builtin "object.__setattr__"))
theorem Cls.get {K:PySem.W.Frag} {C:Addr} (c:Cls K C) (f:Str):PySem.W.plainGet K C f=true:=c.pg
noncomputable def dI (K:PySem.W.Frag) (C:Addr) (f:Str):Prop:=PySem.W.findIn K (.ref C) f=some none
theorem dI.Fm {K:PySem.W.Frag} {C:Addr} {f:Str} (n:dI K C f):PySem.W.takerIn K C f=some none:=by
 unfold PySem.W.takerIn
 rw [show PySem.W.findIn K (.ref C) f=some none from n]
 rfl
structure Con (K:PySem.W.Frag) (C:Addr) (f:Str) (v:V) (u:Value):Prop where
 at_:PySem.W.findIn K (.ref C) f=some (some u)
 rel:RelV v u
 get:PySem.W.specialIn K u "__get__"=some none
 cp:PySem.W.copiedNames.contains f=false
structure Meth (K:PySem.W.Frag) (C:Addr) (m:Str) (f:Addr):Prop where
 at_:PySem.W.findIn K (.ref C) m=some (some (.ref f))
 fn:PySem.W.isFn K (.ref f)=true
 kp:PySem.W.keepIn K (.ref f)=true
section
variable {X:Cx} {pins:List (Addr×Obj)} {σ:St} {H:Hp} {s:Shared} {a C dx:Addr} {fs:List (Str×V)} {f:Str} {v:V} {A:Around} {E:Value->Shared->Prop}
theorem tR {b:Bool} {Q:Value->Shared->Prop} (I:Inv X pins σ H s) (e:H a=some (.ins C dx fs)) (c:Cls X.K C) (n:dI X.K C f) (l:fs.lookup f=some v)
  (h:∀u s',Inv X pins σ H s'->RelV v u->Q u s'):wpAny (model X.prog X.w) A (getAttr (.ref a) f b) Q E s:=by
 obtain ⟨mA,O,r,_,_,_⟩:=lY I.ah e
 obtain ⟨u,hu,ru⟩:=cF.some_of (v:=v) (o:=mA f) (by rw [←l];exact r f)
 exact get_map I.dO O (c.get f) c.hd n hu (wM ru) (h u _ (I.tok _) ru)
theorem lA {m:Str} {g:Addr} {pl:Sem Bool} {Q:Value×List Value->Shared->Prop} (I:Inv X pins σ H s) (e:H a=some (.ins C dx fs)) (c:Cls X.K C) (k:Meth X.K C m g) (l:fs.lookup m=none)
  (h:Q (.ref g,[.ref a]) s):wpAny (model X.prog X.w) A (getMethod (.ref a) m pl) Q E s:=by
 obtain ⟨mA,O,r,_,_,_⟩:=lY I.ah e
 have hn:mA m=none:=cF.none_of (by rw [←l];exact r m)
 exact wY I.dO O (c.get m) k.at_ k.fn hn h
theorem ud {y:V} {u:Value} {Q:Unit->Shared->Prop} (I:Inv X pins σ H s) (e:H a=some (.ins C dx fs)) (c:Cls X.K C) (n:dI X.K C f) (hl:fs.length<1000) (ry:RelV y u)
  (h:∀s',Inv X pins σ (upd H a (.ins C dx (aQ f y fs))) s'->Q () s'):wpAny (model X.prog X.w) A (setAttr (.ref a) f u) Q E s:=by
 obtain ⟨mA,O,r,wi,_,ho⟩:=lY I.ah e
 have hz:(fs.map (·.1)).length<=sizeLine:=by rw [List.length_map,sizeLine_eq];lia
 refine As I.dO O c.sa c.po n.Fm c.hd wi hz fun h' O' sb=>h _ ?_
 have hd:∃o,h'.get? dx=some o:=let ⟨o,_,_,e',_⟩:=O'.ns;⟨o,e'⟩
 refine I.write (x:=a) (e:=dx) (by rw [e];exact True.intro) (.inr ho) (fun b q hb z=>(sb.2 b hb).trans z) hd ?_
 refine ⟨by rw [ao O.ne];exact ho, ?_,O.ne,O'.obj,_,O'.ns,fun g=> ?_,fun g hg=> ?_⟩
 ·have:=jS f y fs;lia
 ·show cF ((aQ f y fs).lookup g) (if g=f then some u else mA g)
  rw [jM]
  by_cases q:g=f
  ·rw [if_pos q,if_pos q];exact ry
  ·rw [if_neg q,if_neg q];exact r g
 ·by_cases q:g=f
  ·rw [q];exact (iJ f y fs).1
  ·refine (iJ f y fs).2 g (wi g fun z=>hg ?_)
   show (if g=f then some u else mA g)=none
   rw [if_neg q];exact z
theorem Inv.made (I:Inv X pins σ H s):Inv X pins σ (upd (upd H s.heap.objs.size (.own (s.heap.objs.size+1))) (s.heap.objs.size+1) (.ins C s.heap.objs.size []))
  {s with heap:=(s.heap.push PySem.W.emptyDict).push (PySem.W.instObj C s.heap.objs.size)}:=by
 have e1:(s.heap.push PySem.W.emptyDict).get? s.heap.objs.size=some PySem.W.emptyDict:=Heap.get?_push_size s.heap rfl
 have e2:((s.heap.push PySem.W.emptyDict).push (PySem.W.instObj C s.heap.objs.size)).get? (s.heap.objs.size+1)=some (PySem.W.instObj C s.heap.objs.size):=by
  have:=Heap.get?_push_size (s.heap.push PySem.W.emptyDict) (o:=PySem.W.instObj C s.heap.objs.size) rfl
  rwa [Heap.size_push] at this
 have e3:(s.heap.push PySem.W.emptyDict).Ns s.heap.objs.size (fun _=>none):=⟨PySem.W.emptyDict,#[],_,e1,rfl,(fun e he=>absurd he (by simp)),fun _=>rfl⟩
 have I1:=I.laid (a:=s.heap.objs.size) (o:= .own (s.heap.objs.size+1)) (h':=s.heap.push PySem.W.emptyDict) (t':=s.toks) (fun b u q=>Heap.get?_push_of_some _ q) (Nat.le_refl _) ⟨_,e1⟩
 refine I1.laid (a:=s.heap.objs.size+1) (o:= .ins C s.heap.objs.size []) (t':=s.toks) (fun b u q=>Heap.get?_push_of_some _ q) (Nat.le_of_eq (Heap.size_push _ _)) ?_
 have ne:s.heap.objs.size≠s.heap.objs.size+1:=Nat.ne_of_lt (Nat.lt_succ_self _)
 refine ⟨by rw [ao ne,aj],Nat.zero_le _,ne,e2,fun _=>none,(Heap.Ns1.of_empty e3).at fun o q=>Heap.get?_push_of_some _ q,fun _=>True.intro,fun y hy=>absurd rfl hy⟩
theorem Bf {w:World} {env:Env} {e:Expr} {f:Str} {s:Shared} {Q:Value->Shared->Prop} (hb:attributeBase e f env (eval e env)=eval e env)
  (h:wpAny (model prog w) A (eval e env) (fun o s₁=>wpAny (model prog w) A (getAttr o f true) Q E s₁) E s):wpAny (model prog w) A (eval (.Attribute e f pos) env) Q E s:=
 Attribute_any_ h (by rw [arm_eval_Attribute,hb])
end
noncomputable def JP (K:PySem.W.Frag) (ta:TE) (f:Str):TE:=fun σ H Q=>ta σ H fun x H1=>∃a C dx fs v,x= .ref a/\H1 a=some (.ins C dx fs)/\Cls K C/\dI K C f/\fs.lookup f=some v/\Q v H1
noncomputable def Js (K:PySem.W.Frag) (ta tv:TE) (f:Str):TS:=fun D σ H=>tv σ H fun y H1=>ta σ H1 fun x H2=>∃a C dx fs,x= .ref a/\H2 a=some (.ins C dx fs)/\Cls K C/\dI K C f/\fs.length<1000/\
 D.nx σ (upd H2 a (.ins C dx (aQ f y fs)))
section
variable {X:Cx} {o e value:Expr} {f:Str} {pos pos' tpos:Pos} {ta tv:TE}
theorem Cj (he:PE X e ta) (hb:attributeBase e f X.env (eval e X.env)=eval e X.env):PE X (.Attribute e f pos) (JP X.K ta f):=by
 intro pins s σ H Q I h
 refine Bf hb (ay (he pins s σ H _ I h) fun u s1 z902=> ?_);obtain ⟨x,H1,I1,rx,a,C,dx,fs,v,ex,ea,c,n,l,q⟩:=z902
 subst ex
 obtain rfl:u=Value.ref a:=rx
 exact tR I1 ea c n l fun u' s2 I2 ru=>⟨v,H1,I2,ru,q⟩
theorem C4 (ha:PE X o ta) (hv:PE X value tv) (hs:swapsWith value (some (.Attribute o f pos')) pos.line X.env=pure false):PS X (.Assign [.Attribute o f pos'] value pos) (Js X.K ta tv f):=by
 intro pins s σ H D I h
 refine plainObj_wpAny_Assign_Attribute (ay (hv pins s σ H _ I h) fun u s1 ⟨y,H1,I1,ry,q⟩=>ay (ha pins s1 σ H1 _ I1 q) fun ov s2 ⟨x,H2,I2,rx,a,C,dx,fs,ex,ea,c,n,l,q2⟩=> ?_) hs
 subst ex
 obtain rfl:ov=Value.ref a:=rx
 exact ud I2 ea c n l ry fun s3 I3=>⟨σ,_,I3,q2⟩
end
section
variable {X:Cx} {pins:List (Addr×Obj)} {σ:St} {H:Hp} {s:Shared} {A:Around} {E:Value->Shared->Prop} {Q:Value->Shared->Prop} {c:Value} {b:Bool}
inductive fH (K:PySem.W.Frag) (H:Hp):V->Value->Prop where
 |non:fH K H .non (.type "NoneType")
 |bl (x:Bool):fH K H (.bl x) (.type "bool")
 |int (i:Int):fH K H (.int i) (.type "int")
 |str (x:Str):fH K H (.str x) (.type "str")
 |flt (x:UInt64):fH K H (.flt x) (.type "float")
 |lst {a:Addr} {xs:List V} (e:H a=some (.lst xs)):fH K H (.ref a) (.type "list")
 |aC {a:Addr} {o:Obj} {xs:List V} (e:H a=some (.aC o (.lst xs))):fH K H (.ref a) (.type "list")
 |tup {a:Addr} {xs:List V} (e:H a=some (.tup xs)):fH K H (.ref a) (.type "tuple")
 |dK {a:Addr} {kvs:List (Key×V)} (e:H a=some (.dK kvs)):fH K H (.ref a) (.type "dict")
 |dT {a:Addr} {kvs:List (List Key×V)} (e:H a=some (.dT kvs)):fH K H (.ref a) (.type "dict")
 |ins {a C dx:Addr} {fs:List (Str×V)} (e:H a=some (.ins C dx fs)) (cl:Cls K C) (ha:PySem.W.findIn K (.ref C) "__class__"=some (some (.builtin "object.__class__")))
  (hn:PySem.W.specialIn K (.builtin "object.__class__") "__get__"=some (some (.builtin "getset_descriptor.__get__"))) (htk:PySem.W.takesIn K (.builtin "object.__class__")=some true)
  (hm:PySem.W.mroIn K C (.type "object")=some true):fH K H (.ref a) (.ref C)
end
end L2
namespace L2
open PySem PySem.Spec PyProof.Rows
structure Room (k:Nat) (A:Around):Prop where
 hd:A.handled=none
 dp:A.depth+3*k+5<recursionLimit
 un:A.units+16*k+200<cLine
theorem Room.mono {j k:Nat} {A:Around} (r:Room k A) (h:j<=k):Room j A:=⟨r.hd,by have:=r.dp;lia,by have:=r.un;lia⟩
theorem Room.deeper {k:Nat} {A:Around} (r:Room (k+1) A) (env:Env):Room k (A.deeper env):=
 ⟨r.hd,by have:=r.dp;show A.depth+1+3*k+5<_;lia,by have:=r.un;show A.units+3+16*k+200<_;lia⟩
theorem Room.in1 {k:Nat} {A:Around} (r:Room (k+1) A):Room k A.in1:=
 ⟨r.hd,by have:=r.dp;show A.depth+3*k+5<_;lia,by have:=r.un;show A.units+1+16*k+200<_;lia⟩
theorem sY {A:Around} {C:Addr} {us:List Value} {kw:List (Str×Value)}:(A.under (.builtin "type.__call__" ⟨.ref C::us,kw⟩)).depth=A.depth+1:=by
 first|rfl|simp [Around.under,Code.weight,Code.isCreation,Code.isGuard,Code.isCaller,Code.frames,Code.isFrame,guardIds]
theorem tV {A:Around} {C:Addr} {us:List Value} {kw:List (Str×Value)}:(A.under (.builtin "type.__call__" ⟨.ref C::us,kw⟩)).units=A.units+1:=by
 first|rfl|simp [Around.under,Code.cUnits,Code.frames,Code.isFrame]
theorem Room.make {k:Nat} {A:Around} (r:Room (k+1) A) (C:Addr) (us:List Value) (kw:List (Str×Value)):Room k (A.under (.builtin "type.__call__" ⟨.ref C::us,kw⟩)):=
 ⟨r.hd,by have:=r.dp;rw [sY];lia,by have:=r.un;rw [tV];lia⟩
theorem Room.depth {k:Nat} {A:Around} (r:Room k A):A.depth<recursionLimit:=by have:=r.dp;lia
noncomputable def xp:TA:=fun _ H Q=>Q [] H
noncomputable def ub (ta:TE) (tr:TA):TA:=fun σ H Q=>ta σ H fun x H1=>tr σ H1 fun xs H2=>Q (x::xs) H2
section
variable {X:Cx} {e:Expr} {es:List Expr} {te:TE} {t:TA} {pos:Pos}
theorem o5:PA X [] xp:=fun _ _ _ _ H Q I h=>Calls.spliced_nil ⟨[],H,I, .nil,h⟩
theorem l6 (ha:PE X e te) (hr:PA X es t) (hs:starEach (e::es) X.env=(false,eval e X.env)::starEach es X.env:=by rfl):PA X (e::es) (ub te t):=by
 intro pos pins s σ H Q I h
 rw [hs]
 show wpAny _ _ (spliced ((false,eval e X.env)::backTo pos (starEach es X.env))) _ _ s
 refine Calls.spliced_cons (ay (ha pins s σ H _ I h) fun u s1 z902=> ?_);obtain ⟨x,H1,I1,r1,q1⟩:=z902
 exact ay (hr pos pins s1 σ H1 _ I1 q1) fun us s2 z902=>by obtain ⟨xs,H2,I2,r2,q2⟩:=z902;exact ⟨x::xs,H2,I2, .cons r1 r2,q2⟩
noncomputable def Ib (t:TA):TE:=fun σ H Q=>t σ H fun xs H1=>xs.length<=sizeLine/\∀p,H1 p=none->Q (.ref p) (upd H1 p (.tup xs))
noncomputable def IW (t:TA):TE:=fun σ H Q=>t σ H fun xs H1=>xs.length<=sizeLine/\∀p,H1 p=none->Q (.ref p) (upd H1 p (.lst xs))
theorem Ew {x1} (h:PA X es t):PE X (.Tuple es x1 pos) (Ib t):=by
 intro pins s σ H Q I hq
 refine wpAny_Tuple_spliced (ay (h pos pins s σ H _ I hq) fun us s1 ⟨xs,H1,I1,r,z,q⟩=>⟨by rw [←r.length];exact z, ?_⟩)
 have hf:H1 s1.heap.objs.size=none:=I1.ah.fresh (Nat.le_refl _)
 refine ⟨.ref s1.heap.objs.size,upd H1 s1.heap.objs.size (.tup xs),I1.laid (t':=s1.toks) (fun b u e=>Heap.get?_push_of_some _ e) (Nat.le_refl _) ?_,rfl,q _ hf⟩
 exact ⟨z,us,r,⟨_,Heap.get?_push_size _ rfl,rfl,_,rfl⟩⟩
theorem Ej (h:PA X es t):PE X (.List es pos) (IW t):=by
 intro pins s σ H Q I hq
 refine wpAny_List_spliced (ay (h pos pins s σ H _ I hq) fun us s1 ⟨xs,H1,I1,r,z,q⟩=>⟨by rw [←r.length];exact z, ?_⟩)
 have hf:H1 s1.heap.objs.size=none:=I1.ah.fresh (Nat.le_refl _)
 refine ⟨.ref s1.heap.objs.size,upd H1 s1.heap.objs.size (.lst xs),I1.laid (t':=s1.toks) (fun b u e=>Heap.get?_push_of_some _ e) (Nat.le_refl _) ?_,rfl,q _ hf⟩
 exact ⟨z,us,0,r,Heap.get?_push_size _ rfl⟩
end
noncomputable abbrev Sp:=List V->Hp->VK->XK->Prop
noncomputable abbrev jX:=List Env->Hp->Shared->XK->Value->Shared->Prop
structure Env0 (P:Program) (w:World) (K:PySem.W.Frag) (mg:Str->Option Value) (base:Heap) (A:Around) (outer:List Env) (s:Shared) (H:Hp):Prop where
 frames:A.frames=some outer
 mod:Mod K mg base
 bs:∀b o,base.get? b=some o->s.heap.get? b=some o/\H b=none
 bsz:base.objs.size<=s.heap.objs.size
 cO:s.heap.FunFrames base outer
 frf:∀b∈cA outer,H b=none
 ah:bq P w H s.heap
 bare:AllBare s.gens
noncomputable def CE (outer:List Env) (P:Program) (w:World) (H:Hp) (s:Shared) (Q:VK) (u:Value) (s':Shared):Prop:=
 ∃v H',s'.os=s.os/\AllBare s'.gens/\Un (cA outer) [] H H' s.heap s'.heap/\bq P w H' s'.heap/\RelV v u/\Q v H'
noncomputable def CR (CX:jX) (outer:List Env) (P:Program) (w:World) (H:Hp) (s:Shared) (Q:VK) (E:XK) (r:Result) (s':Shared):Prop:=
 match r with
 | .ok (.ret u)=>CE outer P w H s Q u s'
 | .ok _=>False
 | .error e=>CX outer H s E e s'
structure FnOk (P:Program) (w:World) (K:PySem.W.Frag) (mg:Str->Option Value) (base:Heap) (CX:jX) (k:Nat) (f:Addr) (fd:FuncData) (ps:List Str) (sp:Sp):Prop where
 len:∀vs H Q E,sp vs H Q E->vs.length=ps.length
 run:∀(A:Around) (outer:List Env) (s:Shared) (H:Hp) (args:Args) (us:List Value) (vs:List V) (Q:VK) (E:XK),Room k A->Env0 P w K mg base A outer s H->BindsTo s fd args (ps.zip us)->Vals vs us->sp vs H Q E->
  codeAny (model P w) A (.call (.ref f) args) (CR CX outer P w H s Q E) s
theorem Env0.make {P:Program} {w:World} {K:PySem.W.Frag} {mg:Str->Option Value} {A:Around} {outer:List Env} {s:Shared} {H:Hp} (e:Env0 P w K mg base A outer s H) (C:Addr) (us:List Value) (kw:List (Str×Value)):
  Env0 P w K mg base (A.under (.builtin "type.__call__" ⟨.ref C::us,kw⟩)) outer s H:=⟨by first|exact e.frames|(simpa [Around.under,Code.envs,Code.isFrame,pushEnvs] using e.frames),e.mod,e.bs,e.bsz,e.cO,e.frf,e.ah,e.bare⟩
theorem Env0.in1 {P:Program} {w:World} {K:PySem.W.Frag} {mg:Str->Option Value} {A:Around} {outer:List Env} {s:Shared} {H:Hp} (e:Env0 P w K mg base A outer s H):
  Env0 P w K mg base A.in1 outer s H:=⟨e.frames,e.mod,e.bs,e.bsz,e.cO,e.frf,e.ah,e.bare⟩
section
variable {X:Cx} {pins:List (Addr×Obj)} {σ:St} {H:Hp} {s s':Shared}
theorem Inv.zI (I:Inv X pins σ H s):Env0 X.prog X.w X.K X.mg X.base X.A X.stack s H:=
 ⟨I.ok.frames,I.ok.mod,I.bs,Nat.le_trans I.ok.bsz I.sz,I.stack,I.jD,I.ah,I.bare⟩
theorem Inv.after {Q:VK} {u:Value} (I:Inv X pins σ H s) (h:CE X.stack X.prog X.w H s Q u s'):EP X pins σ Q u s':=by
 obtain ⟨v,H',os,bare,un,ah,r,q⟩:=h
 obtain ⟨hh,g,d,t,os'⟩:=s'
 obtain rfl:os'=s.os:=os
 exact ⟨v,H',I.call (h':=hh) (g':=g) (d':=d) (t':=t) (ch:=[]) un ah bare (fun b z=>absurd z (by simp)),r,q⟩
end
noncomputable def Binds (K:PySem.W.Frag) (fd:FuncData) (ps:List Str) (ds:List Value):Prop:=
 ∀(s:Shared) (us:List Value),K.In s.heap->(us++ds).length=ps.length->BindsTo s fd ⟨us,[]⟩ (ps.zip (us++ds))
theorem Binds.all {K:PySem.W.Frag} {ps:List Str} (h:∀us:List Value,us.length=ps.length->bindArgs fd ⟨us,[]⟩=pure (ps.zip us)):Binds K fd ps []:=fun s us _ hl=>by
 rw [List.append_nil] at hl⊢
 exact .of_eq (h us hl)
section
variable {X:Cx} {CX:jX} {k:Nat} {f C:Addr} {fd:FuncData} {ps:List Str} {sp:Sp} {dvs:List V} {ds:List Value} {E:XK} {x m:Str} {p pos apos:Pos} {e o:Expr} {es:List Expr} {ta:TE} {t:TA}
structure Mk (K:PySem.W.Frag) (C f:Addr):Prop where
 makes:PySem.W.makesIn K C=true
 init:PySem.W.findIn K (.ref C) "__init__"=some (some (.ref f))
 fn:PySem.W.isFn K (.ref f)=true
 kp:PySem.W.keepIn K (.ref C)=true
end
noncomputable def PK (X:Cx) (kws:List Keyword) (t:TA):Prop:=
 ∀(pos:Pos) (pins:List (Addr×Obj)) (s:Shared) (σ:St) (H:Hp) (Q:List V->Hp->Prop),Inv X pins σ H s->t σ H Q->wpAny (model X.prog X.w) X.A (evalAll ((backToKw pos (keywordEach kws X.env)).map (·.2))) (AP X pins σ Q) X.xe s
section
variable {X:Cx} {CX:jX} {k:Nat} {f C:Addr} {fd:FuncData} {ps ks:List Str} {sp:Sp} {E:XK} {x m:Str} {p pos apos kpos:Pos} {e o:Expr} {es:List Expr} {kws:List Keyword} {te ta:TE} {t tk:TA} {nm:Option Str}
theorem CU:PK X [] xp:=fun _ _ _ _ H Q I h=>wpAny_evalAll_nil ⟨[],H,I, .nil,h⟩
theorem Au (ha:PE X e te) (hr:PK X kws t):PK X (⟨nm,e,kpos⟩::kws) (ub te t):=by
 intro pos pins s σ H Q I h
 show wpAny _ _ (evalAll ((do let v←eval e X.env;standAt pos;pure v)::(backToKw pos (keywordEach kws X.env)).map (·.2))) _ _ s
 refine wpAny_evalAll_cons (wpAny_bind (ay (ha pins s σ H _ I h) fun u s1 ⟨x,H1,I1,r1,q1⟩=>wpAny_bind (wpAny_standAt (wpAny_pure ?_))))
 exact ay (hr pos pins s1 σ H1 _ I1 q1) fun us s2 z902=>by obtain ⟨xs,H2,I2,r2,q2⟩:=z902;exact ⟨x::xs,H2,I2, .cons r1 r2,q2⟩
structure KBinds (K:PySem.W.Frag) (fd:FuncData) (ps ks:List Str) (g:List Value->List Value->List Value) (gV:List V->List V->List V):Prop where
 to:∀(s:Shared) (us ws:List Value),K.In s.heap->(g us ws).length=ps.length->BindsTo s fd ⟨us,ks.zip ws⟩ (ps.zip (g us ws))
 rel:∀{vs:List V} {us:List Value} {zs:List V} {ws:List Value},Vals vs us->Vals zs ws->Vals (gV vs zs) (g us ws)
variable {g:List Value->List Value->List Value} {gV:List V->List V->List V}
end
structure FnScope (N P:List Str) (sc:Scope):Prop where
 kind:sc.kind= .function
 co:sc.isCoroutine=false
 gen:sc.isGenerator=false
 nd:N.Nodup
 pre:N.take P.length=P
 par:∀x∈P,sc.names.lookup x=some .local∨sc.names.lookup x=some .cell
 nofree:∀y∈sc.names,y.2≠ .free
theorem nN {kindOf:Str->Option NameKind} {x:Str}:∀{binds:List (Str×Value)} {m:Str->Option Value},(∀v,(x,v)∉binds)->bindL kindOf binds m x=m x
 |[],_,_=>rfl
 |(n,v)::r,m,h=>by
  unfold bindL
  rw [nN fun w hw=>h w (List.mem_cons_of_mem _ hw)]
  split
  ·have:x≠n:=by rintro rfl;exact h v List.mem_cons_self
   simp [this]
  ·rfl
theorem ng {kindOf:Str->Option NameKind} {x:Str}:∀{binds:List (Str×Value)} {m:Str->Option Value},(∀v,(x,v)∉binds)->bindC kindOf binds m x=m x
 |[],_,_=>rfl
 |(n,v)::r,m,h=>by
  unfold bindC
  rw [ng fun w hw=>h w (List.mem_cons_of_mem _ hw)]
  split
  ·rfl
  ·have:x≠n:=by rintro rfl;exact h v List.mem_cons_self
   simp [this]
theorem nU {kindOf:Str->Option NameKind} {x:Str} {v:Value}:∀{P:List Str} {vs:List Value} {i:Nat} {m:Str->Option Value},P.Nodup->P[i]?=some x->vs[i]?=some v->kindOf x=some .local->
  bindL kindOf (P.zip vs) m x=some v
 |[],_,_,_,_,h,_,_=>by simp at h
 |_::_,[],_,_,_,_,h,_=>by simp at h
 |p::P,w::vs,0,m,nd,h1,h2,hk=>by
  simp at h1 h2;subst h1;subst h2
  show bindL kindOf ((p,w)::P.zip vs) m p=_
  unfold bindL
  rw [nN fun v hv=>(List.nodup_cons.mp nd).1 (List.of_mem_zip hv).1,if_pos hk]
  simp
 |p::P,w::vs,i+1,m,nd,h1,h2,hk=>by
  show bindL kindOf ((p,w)::P.zip vs) m x=_
  unfold bindL
  exact nU (i:=i) (List.nodup_cons.mp nd).2 (by simpa using h1) (by simpa using h2) hk
theorem n9 {kindOf:Str->Option NameKind} {x:Str} {v:Value}:∀{P:List Str} {vs:List Value} {i:Nat} {m:Str->Option Value},P.Nodup->P[i]?=some x->vs[i]?=some v->kindOf x≠some .local->
  bindC kindOf (P.zip vs) m x=some v
 |[],_,_,_,_,h,_,_=>by simp at h
 |_::_,[],_,_,_,_,h,_=>by simp at h
 |p::P,w::vs,0,m,nd,h1,h2,hk=>by
  simp at h1 h2;subst h1;subst h2
  show bindC kindOf ((p,w)::P.zip vs) m p=_
  unfold bindC
  rw [ng fun v hv=>(List.nodup_cons.mp nd).1 (List.of_mem_zip hv).1,if_neg hk]
  simp
 |p::P,w::vs,i+1,m,nd,h1,h2,hk=>by
  show bindC kindOf ((p,w)::P.zip vs) m x=_
  unfold bindC
  exact n9 (i:=i) (List.nodup_cons.mp nd).2 (by simpa using h1) (by simpa using h2) hk
noncomputable def start (N:List Str) (vs:List V):St:=vs.map some++List.replicate (N.length-vs.length) none
noncomputable def mr (CX:jX) (P:Program) (w:World) (K:PySem.W.Frag) (mg:Str->Option Value) (base:Heap) (N:List Str) (qual:Str) (scope:Scope) (f:Addr) (cd:Value) (A:Around) (outer:List Env) (s:Shared) (H:Hp) (E:XK):Cx where
 prog:=P
 w:=w
 K:=K
 mg:=mg
 base:=base
 A:=A.deeper (envOfC qual scope s.heap.objs.size f cd)
 N:=N
 s₀:=s
 H₀:=H
 env:=envOfC qual scope s.heap.objs.size f cd
 outer:=outer
 stack:=envOfC qual scope s.heap.objs.size f cd::outer
 ex:=[]
 calm:=true
 fn:=fun _=>true
 pn:=[]
 xe:=fun e s'=>wpAny (model P w) (A.deeper (envOfC qual scope s.heap.objs.size f cd)) (leaving (envOfC qual scope s.heap.objs.size f cd) e) (fun _ s''=>CX outer H s E e s'') (fun e' s''=>CX outer H s E e' s'') s'
theorem qm {sc:Scope} {n:Nat} {x:Str} (h:sc.names.lookup x=some .cell):∃c,(cellsFrom n sc.names []).lookup x=some c:=by
 have q:=PySem.W.cellsFrom_some sc.names n [] (.inl h)
 exact Option.isSome_iff_exists.mp q
theorem uA {CX:jX} {P:Program} {w:World} {K:PySem.W.Frag} {mg:Str->Option Value} {N ps:List Str} {qual:Str} {scope:Scope} {f:Addr} {cd:Value} {A:Around} {outer:List Env} {s:Shared} {H:Hp} {E:XK} {us:List Value} {vs:List V}
  (S:FnScope N ps scope) (hd:A.handled=none) (e0:Env0 P w K mg base A outer s H) (hl:vs.length=ps.length) (r:Vals vs us)
  (x:InCallC s s.heap.objs.size (bindL (envOfC qual scope s.heap.objs.size f cd).kindOf (ps.zip us) fun _=>none) (cellsFrom (s.heap.objs.size+1) scope.names []) (bindC (envOfC qual scope s.heap.objs.size f cd).kindOf (ps.zip us) fun _=>none) s1):
  Inv (mr CX P w K mg base N qual scope f cd A outer s H E) [] (start N vs) H s1:=by
 have hpl:ps.length<=N.length:=by have:=congrArg List.length S.pre;rw [List.length_take] at this;lia
 obtain ⟨h1,tk,rfl,hk⟩:=x.done
 have noA:∀b:Addr,b∉(mr CX P w K mg base N qual scope f cd A outer s H E).ex:=fun b z=>absurd (show b∈([]:List Addr) from z) (by simp)
 refine ⟨⟨e0.mod,S.kind,rfl,rfl,Nat.le_refl _,fun y z c h1 h2=> ?_,fun y hy=> ?_,fun y c _ h=> ?_,fun _=>hd,Around.frames_deeper e0.frames, .inr ⟨rfl,rfl⟩,fun b z=>absurd z (noA b),e0.bs,e0.bsz,fun b _ _=>noA b,fun b z=>absurd z (noA b),e0.cO,e0.frf⟩,
  rfl,e0.bare,Un.kept hk,⟨_,x.toInCall.ns,fun i y v h1 h2 h3=> ?_⟩,fun y c h=>⟨_,x.cell y c h⟩,e0.ah.fresh (Nat.le_refl _),fun y c h=> ?_,fun p hp=>absurd (show p∈([]:List (Addr×Obj)) from hp) (by simp),e0.ah.kept hk, ?_⟩
 ·exact name_of_addr x.apart (PySem.mem_of_lookup h1) (PySem.mem_of_lookup h2)
 ·have hy:scope.names.lookup y=some .cell∨scope.names.lookup y=some .free:=hy
  rcases hy with hy|hy
  ·exact qm hy
  ·exact absurd rfl (S.nofree _ (PySem.mem_of_lookup hy))
 ·exact Nat.le_of_lt (x.above y c (PySem.mem_of_lookup h))
 ·have hi:i<vs.length:=by
   unfold start at h2
   by_cases hi:i<vs.length
   ·exact hi
   ·rw [List.getElem?_append_right (by simpa using hi)] at h2
    rw [List.getElem?_replicate] at h2
    split at h2<;>cases h2
  have ha:vs[i]?=some v:=by
   unfold start at h2
   rw [List.getElem?_append_left (by simpa using hi),List.getElem?_map] at h2
   cases e:vs[i]? with
   |none=>rw [e] at h2;cases h2
   |some a=>rw [e] at h2;cases h2;rfl
  obtain ⟨u,hu,rv⟩:=r.get ha
  have hp:ps[i]?=some y:=by
   rw [←S.pre,List.getElem?_take_of_lt (by lia)];exact h1
  have ndP:ps.Nodup:=by rw [←S.pre];exact S.nd.sublist (List.take_sublist _ _)
  refine ⟨u,rv, ?_⟩
  rcases S.par y (List.mem_of_getElem? hp) with k|k
  ·exact .inl ⟨k,nU ndP hp hu k⟩
  ·obtain ⟨c,e⟩:=qm (n:=s.heap.objs.size+1) k
   refine .inr ⟨.inl k,c,e, ?_⟩
   have q:=x.cell y c e
   rw [n9 ndP hp hu (by show scope.names.lookup y≠_;rw [k];decide)] at q
   exact q
 ·exact e0.ah.fresh (Nat.le_of_lt (x.above y c (PySem.mem_of_lookup h)))
 ·unfold start
  show _=N.length
  rw [List.length_append,List.length_map,List.length_replicate]
  lia
theorem Gq {CX:jX} {P:Program} {w:World} {K:PySem.W.Frag} {mg:Str->Option Value} {k:Nat} {f:Addr} {name qual:Str} {params:Arguments} {dV kV doc pm cdv ct oc:Value} {an od:Option Addr}
  {osl:Array (Option Value)} {N ps:List Str} {sp:Sp} (lk:K.lookup f=some ⟨oc,od, .func (PySem.W.fnOf name qual params body scope dV kV doc pm an cdv ct),osl⟩) (hcd:PySem.W.codeIn K cdv qual=true) (S:FnScope N ps scope)
  (len:∀vs H Q E,sp vs H Q E->vs.length=ps.length)
  (hbody:∀(A:Around) (outer:List Env) (s:Shared) (H:Hp) (vs:List V) (Q:VK) (E:XK),Room k (A.deeper (envOfC qual scope s.heap.objs.size f cdv))->sp vs H Q E->
   ∃t,di (mr CX P w K mg base N qual scope f cdv A outer s H E) body t/\t {nx:=fun _ H'=>Q .non H',rt:=Q} (start N vs) H):
  FnOk P w K mg base CX (k+1) f (PySem.W.fnOf name qual params body scope dV kV doc pm an cdv ct) ps sp:=by
 refine ⟨len,fun A outer s H args us vs Q E hr e0 hb r hsp=> ?_⟩
 have hl:=len _ _ _ _ hsp
 have KX:K.In s.heap:=e0.mod.kin.keeps fun b o e=>(e0.bs b o e).1
 have lim:s.heap.NoLimit:=e0.mod.nolimit.keeps fun b o e=>(e0.bs b o e).1
 have hkind:∀y∈ps.zip us,scope.names.lookup y.1=some .local∨(scope.names.lookup y.1=some .cell/\((cellsFrom (s.heap.objs.size+1) scope.names []).lookup y.1).isSome=true):=fun z900 hy=>by
  obtain ⟨n,v⟩:=z900
  rcases S.par n (List.of_mem_zip hy).1 with q|q
  ·exact .inl q
  ·exact .inr ⟨q,PySem.W.cellsFrom_some _ _ _ (.inl q)⟩
 refine codeAny_call_function hr.depth (KX _ _ lk) rfl S.co S.gen rfl (PySem.W.codeRec_of KX hcd) (hb _ _ _ _ ?_)
 refine wpAny_newFunctionEnv_cells S.kind hkind fun env he s1 x=> ?_
 subst he
 refine ⟨lim.keeps x.toInCall.keep,codeAny_func ?_⟩
 obtain ⟨t,ht,hq⟩:=hbody A outer s H vs Q E (hr.deeper _) hsp
 have I:Inv (mr CX P w K mg base N qual scope f cdv A outer s H E) [] (start N vs) H s1:=uA S hr.hd e0 hl r x
 refine wpAny_mono (ht [] s1 (start N vs) H _ I hq) (fun fl s' hs=> ?_) fun e s' hs=>hs
 have fin:∀{σ':St} {H':Hp} {v:V} {u:Value},Inv (mr CX P w K mg base N qual scope f cdv A outer s H E) [] σ' H' s'->RelV v u->Q v H'->CE outer P w H s Q u s':=
  fun {σ' H' v u} J rv q=>⟨v,H',J.os,J.bare,J.base,J.ah,rv,q⟩
 cases fl with
 |ret u=>
  obtain ⟨v,σ',H',J,rv,q⟩:=hs
  exact fin J rv q
 |next=>
  obtain ⟨σ',H',J,q⟩:=hs
  exact fin (v:=V.non) (u:=Value.none) J rfl q
 |brk=>
  obtain ⟨_,_,_,q⟩:=hs
  exact False.elim q
 |cont=>
  obtain ⟨_,_,_,q⟩:=hs
  exact False.elim q
end L2
namespace L2
open PySem PySem.Spec PyProof.Rows
section
variable {X:Cx} {x:Str} {p pos:Pos} {e:Expr} {es:List Expr} {t:TA} {id T:String} {r:List V->Hp->VK->Prop}
noncomputable def tCB (r:List V->Hp->VK->Prop) (t:TA):TE:=fun σ H Q=>t σ H fun vs H1=>r vs H1 Q
theorem yN (hc:aA X (.builtin id) r) (hg:Gl X x) (hm:X.mg x=none) (hv:bootBuiltins x=some (.builtin id)) (ha:PA X (e::es) t) (hn:x≠"__name__":=by decide) (hdb:(x==("__debug__":Str))=false:=by decide)
  (he:starEach (e::es) X.env=(false,eval e X.env)::starEach es X.env:=by rfl) (hpl:(backTo pos (starEach es X.env)).any (·.1)=false:=by rfl):PE X (.Call (.Name x p) (e::es) [] pos) (tCB r t):=by
 intro pins s σ H Q I h
 refine wpAny_Call_Name_kw (gE I hg hm hv ?_ hn hdb)
 exact PyProof.Rows.callWith_builtin1 (ay (ha pos pins s σ H _ I h) fun us s1 z902=>by obtain ⟨vs,H1,I1,r1,q1⟩:=z902;exact hc pins s1 σ H1 vs us Q I1 r1 q1) he hpl
theorem nB (hc:aA X (.type T) r) (hg:Gl X x) (hm:X.mg x=none) (hv:bootBuiltins x=some (.type T)) (ha:PA X (e::es) t) (hn:x≠"__name__":=by decide) (hdb:(x==("__debug__":Str))=false:=by decide)
  (he:starEach (e::es) X.env=(false,eval e X.env)::starEach es X.env:=by rfl) (hpl:(backTo pos (starEach es X.env)).any (·.1)=false:=by rfl):PE X (.Call (.Name x p) (e::es) [] pos) (tCB r t):=by
 intro pins s σ H Q I h
 refine wpAny_Call_Name_kw (gE I hg hm hv ?_ hn hdb)
 exact PyProof.Rows.callWith_type1 (ay (ha pos pins s σ H _ I h) fun us s1 z902=>by obtain ⟨vs,H1,I1,r1,q1⟩:=z902;exact hc pins s1 σ H1 vs us Q I1 r1 q1) he hpl
end
end L2
namespace HT
open PySem PyProof.Rows
noncomputable def lexLt:List Int->List Int->Bool
 |[],[]=>false
 |[],_::_=>true
 |_::_,[]=>false
 |x::xs,y::ys=>if x=y then lexLt xs ys else decide (x<y)
theorem dM (x y:Int) (xs ys:List Int):lexLt (x::xs) (y::ys)=if x=y then lexLt xs ys else decide (x<y):=rfl
section
open PySem.SeqAt
open PySem.AutoSeq1 (wpAny_loadPart')
open PySem.MeetsSeq PySem.MeetsSeq2 PySem.MeetsSeq3
end
section
variable {prog:Program} {w:World} {A:Around} {E:Value->Shared->Prop} {s:Shared}
theorem AA {t b:Addr} {vs ws:List Value} {Q:Value->Shared->Prop} (ht:IsTup s.heap t vs.toArray) (hb:IsTup s.heap b ws.toArray) (hv:vs≠[])
  (h1:ws=[]->Q (.ref t) s) (h2:ws≠[]->Q (.ref s.heap.objs.size) {s with heap:=s.heap.push {cls:= .type "tuple",data:= .seq (vs++ws).toArray}})
  (hsz:vs.length+ws.length<=sizeLine):wpAny (model prog w) A (binaryOp .Add (.ref t) (.ref b)) Q E s:=by
 obtain ⟨⟨cls,dd,data,sl⟩,ho,hc,n,hd⟩:=id ht
 obtain ⟨⟨cls2,dd2,data2,sl2⟩,ho2,hc2,n2,hd2⟩:=id hb
 simp only at hc hd hc2 hd2
 subst hc hd hc2 hd2
 have e:vs.toArray++ws.toArray=(vs++ws).toArray:=by simp
 by_cases hw:ws=[]
 ·exact concat_meets ⟨_,ho,rfl⟩ ⟨_,ho2,rfl⟩ noFill_tuple_add seq_tuple_add PySem.F.slot_tuple_add PySem.F.entry_tuple_add (PySem.F.args_tuple_add_2 _ _)
   (tuple_addW1 t b vs.toArray ws.toArray n n2 dd dd2 sl sl2 (by simpa using hv) (by simp [hw])) ⟨ho,ho2,h1 hw⟩
 ·refine concat_meets ⟨_,ho,rfl⟩ ⟨_,ho2,rfl⟩ noFill_tuple_add seq_tuple_add PySem.F.slot_tuple_add PySem.F.entry_tuple_add (PySem.F.args_tuple_add_2 _ _)
   (tuple_addW2 t b vs.toArray ws.toArray n n2 dd dd2 sl sl2 (by simpa using hv) (by simpa using hw) (by rw [List.size_toArray,List.size_toArray];exact hsz)) ⟨ho,ho2, ?_⟩
  rw [e]
  exact h2 hw
noncomputable def aU (n d:Nat):Option Int->Nat
 |none=>d
 |some v=>if v<0 then (v+(n:Int)).toNat else min v.toNat n
theorem D6 (n d:Nat) (hd:d<=n) (o:Option Int):aU n d o<=n:=by
 cases o with
 |none=>exact hd
 |some v=>
  show (if v<0 then (v+(n:Int)).toNat else min v.toNat n)<=n
  by_cases hv:v<0
  ·rw [if_pos hv];lia
  ·rw [if_neg hv];exact Nat.min_le_right _ _
theorem rm (v:Int) (n d:Nat):(if v<0 then max (v+(n:Int)) 0 else min v (n:Int))=((aU n d (some v):Nat):Int):=by
 show (if v<0 then max (v+(n:Int)) 0 else min v (n:Int))=(((if v<0 then (v+(n:Int)).toNat else min v.toNat n):Nat):Int)
 by_cases hv:v<0
 ·simp only [if_pos hv];lia
 ·simp only [if_neg hv];lia
theorem ue (lo hi:Option Int) (n:Nat):Builtin.Slice.sliceAdjust lo hi 1 (n:Int)=(((aU n 0 lo:Nat):Int),((aU n n hi:Nat):Int)):=by
 have h1:¬((1:Int)<0):=by lia
 unfold Builtin.Slice.sliceAdjust
 simp only [h1,if_false]
 refine Prod.ext ?_ ?_
 ·cases lo with
  |none=>rfl
  |some v=>exact rm v n 0
 ·cases hi with
  |none=>rfl
  |some v=>exact rm v n n
theorem ua (i j:Nat):Builtin.Slice.slicePlaces (i:Int) (j:Int) 1=j-i:=by
 unfold Builtin.Slice.slicePlaces
 have h1:(1:Int)>0:=by lia
 simp only [h1,if_true,Int.ediv_one]
 split<;>lia
theorem lq {v:Value} {o:Option Int} {Q:Option Int->Shared->Prop} (p:IsPart v o) (h:Q o s):wpAny (model prog w) A (Builtin.Slice.slicePartIndex v) Q E s:=by
 cases p with
 |none=>exact slicePart_none h
 |int i t=>exact slicePart_int h
theorem j7 {vl vu:Value} {lo hi:Option Int} {n:Nat} {Q:Int×Int×Nat->Shared->Prop} (hs:s.heap.IsSliceOf sl vl vu .none) (pl:IsPart vl lo) (pu:IsPart vu hi)
  (h:Q (((aU n 0 lo:Nat):Int),1,aU n n hi-aU n 0 lo) s):wpAny (model prog w) A (Builtin.Slice.sliceApplied (.ref sl) (pure (n:Int))) Q E s:=by
 obtain ⟨os,hos,hcs,hds⟩:=id hs
 unfold Builtin.Slice.sliceApplied Builtin.Slice.sliceFields
 refine wpAny_bind (wpAny_bind (wpAny_field hos hds (x:=vl) rfl (wpAny_bind (wpAny_field hos hds (x:=vu) rfl (wpAny_bind (wpAny_field hos hds (x:= .none) rfl (wpAny_pure ?_)))))))
 refine wpAny_bind (slicePart_none ?_)
 show wpAny _ _ (if ((1:Int)==0)=true then _ else _) _ _ s
 rw [if_neg (by decide)]
 refine wpAny_bind (lq pl (wpAny_bind (lq pu (wpAny_bind (wpAny_pure ?_)))))
 show wpAny _ _ (match Builtin.Slice.sliceAdjust lo hi 1 (n:Int) with|(lo,hi)=>pure (lo,(1:Int),Builtin.Slice.slicePlaces lo hi 1)) _ _ s
 rw [ue lo hi n]
 show wpAny _ _ (pure (((aU n 0 lo:Nat):Int),(1:Int),Builtin.Slice.slicePlaces ((aU n 0 lo:Nat):Int) ((aU n n hi:Nat):Int) 1)) _ _ s
 rw [ua]
 exact wpAny_pure h
theorem zD (xs:Array Value) (i k:Nat):((List.range k).filterMap fun (m:Nat)=>xs[((i:Int)+(m:Int)*1).toNat]?).toArray=((xs.toList.drop i).take k).toArray:=by
 have e:(fun (m:Nat)=>xs[((i:Int)+(m:Int)*1).toNat]?)=fun m=>xs[i+m]?:=by
  funext m
  have:((i:Int)+(m:Int)*1).toNat=i+m:=by lia
  rw [this]
 rw [e]
 have:=pick_run xs i k
 rw [List.filterMap_map] at this
 have e2:((fun x=>xs[x]?)∘fun x=>i+x)=fun m=>xs[i+m]?:=rfl
 rw [e2] at this
 rw [this]
theorem jK {t:Addr} {items:Array Value} {vl vu:Value} {lo hi:Option Int} {Q:Value->Shared->Prop} (ht:IsTup s.heap t items) (hs:s.heap.IsSliceOf sl vl vu .none) (pl:IsPart vl lo) (pu:IsPart vu hi)
  (hw:¬(aU items.size 0 lo=0/\aU items.size items.size hi=items.size))
  (h:Q (.ref s.heap.objs.size) {s with heap:=s.heap.push {cls:= .type "tuple",data:= .seq ((items.toList.drop (aU items.size 0 lo)).take (aU items.size items.size hi-aU items.size 0 lo)).toArray}})
  (hsz:items.size<=sizeLine):wpAny (model prog w) A (getItem (.ref t) (.ref sl)) Q E s:=by
 have htake:sizeOk (.seq ((items.toList.drop (aU items.size 0 lo)).take (aU items.size items.size hi-aU items.size 0 lo)).toArray):=by
  show ((items.toList.drop (aU items.size 0 lo)).take (aU items.size items.size hi-aU items.size 0 lo)).toArray.size<=sizeLine
  rw [List.size_toArray,List.length_take,List.length_drop,Array.length_toList]
  lia
 have hj:aU items.size items.size hi<=items.size:=D6 _ _ (Nat.le_refl _) hi
 obtain ⟨os,hos,hcs,hds⟩:=id hs
 have hTs:s.TypeIs (.ref sl) "slice":=⟨os,hos,hcs⟩
 unfold getItem
 try with_reducible refine wpAny_holding ?_
 first|refine wpAny_bind (wpAny_pure ?_)|skip
 refine wpAny_bind (wpAny_sequenceKey ht.typeIs (by decide) ?_)
 refine wpAny_bind (wpAny_callSpecial?_slot (name:=Str.ofString "__getitem__") ht.typeIs PyProof.Rows.slot_tuple_getitem
  (wpAny_call_entry PyProof.Rows.slot_tuple_getitem ht.typeIs entry_tuple_getitem ?_ (args_tuple_getitem _ _)))
 show wpAny _ _ (Builtin.Tuple.tupleItemsOf (.ref t)>>=_) _ _ s
 refine wpAny_bind (tupleItemsOf_ ht ?_)
 refine wpAny_bind (wpAny_typeOf hTs ?_)
 rw [if_pos (by decide)]
 refine wpAny_bind (j7 hs pl pu ?_)
 have hno:¬((((aU items.size 0 lo:Nat):Int)==0&&(1:Int)==1&&(aU items.size items.size hi-aU items.size 0 lo)==items.size)=true):=by
  intro q
  rw [Bool.and_eq_true,Bool.and_eq_true] at q
  have q1:((aU items.size 0 lo:Nat):Int)=0:=eq_of_beq q.1.1
  have q2:aU items.size items.size hi-aU items.size 0 lo=items.size:=eq_of_beq q.2
  exact hw ⟨by lia,by lia⟩
 show wpAny _ _ (if (((aU items.size 0 lo:Nat):Int)==0&&(1:Int)==1&&(aU items.size items.size hi-aU items.size 0 lo)==items.size)=true then _ else _) _ _ s
 rw [if_neg hno,zD]
 first
  |exact wpAny_bind (m:=Builtin.Tuple.tupleExact _) (wpAny_newObj_type (wpAny_pure ⟨_,rfl,wpAny_pure h⟩) htake)
  |exact wpAny_bind (m:=Builtin.Tuple.tupleExact _) (wpAny_newObj_type (wpAny_bind (wpAny_pure (wpAny_pure ⟨_,rfl,wpAny_pure h⟩))) htake)
  |exact wpAny_bind (wpAny_bind (m:=Builtin.Tuple.tupleExact _) (wpAny_newObj_type (wpAny_pure (wpAny_pure ⟨_,rfl,wpAny_pure h⟩)) htake))
  |exact wpAny_bind (wpAny_bind (m:=Builtin.Tuple.tupleExact _) (wpAny_newObj_type (wpAny_pure ⟨_,rfl,wpAny_pure h⟩) htake))
end
end HT
namespace L2
open PySem PySem.Spec PyProof.Rows
noncomputable abbrev TO:=St->Hp->(Option Int->Hp->Prop)->Prop
noncomputable def PO (X:Cx) (e:Option Expr) (t:TO):Prop:=
 ∀(pins:List (Addr×Obj)) (s:Shared) (σ:St) (H:Hp) (Q:Option Int->Hp->Prop),Inv X pins σ H s->t σ H Q->
  wpAny (model X.prog X.w) X.A (evalPart e X.env) (fun u s'=>∃o H',Inv X pins σ H' s'/\IsPart u o/\Q o H') X.xe s
noncomputable def Bu:TO:=fun _ H Q=>Q none H
noncomputable def Gp (t:TE):TO:=fun σ H Q=>t σ H fun x H1=>∃i,x= .int i/\Q (some i) H1
theorem intsAre_of {ns:List Int}:∀{us:List Value},Vals (ns.map V.int) us->IntsAre us ns:=by
 induction ns with
 |nil=>intro us r;rw [List.map_nil] at r;cases r;exact .nil
 |cons n ns ih=>
  intro us r
  rw [List.map_cons] at r
  cases r with
  |cons r1 r2=>
   obtain ⟨t,e⟩:=r1
   subst e
   exact .cons n t (ih r2)
section
variable {X:Cx} {e:Expr} {te:TE} {lo hi:Option Expr} {tl th:TO} {pos p2:Pos}
theorem BS:PO X none Bu:=by
 intro pins s σ H Q I h
 rw [evalPart_none]
 exact wpAny_pure ⟨none,H,I, .none,h⟩
theorem BH (h:PE X e te):PO X (some e) (Gp te):=by
 intro pins s σ H Q I hw
 rw [evalPart_some]
 refine ay (h pins s σ H _ I hw) fun u s1 z902=> ?_;obtain ⟨x,H1,I1,r1,q1⟩:=z902
 obtain ⟨i,rfl,q⟩:=q1
 obtain ⟨t,rfl⟩:=r1
 exact ⟨some i,H1,I1, .int i t,q⟩
noncomputable def mS (X:Cx) (r:V->Option Int->Option Int->Hp->VK->Prop):Prop:=
 ∀(pins:List (Addr×Obj)) (s:Shared) (σ:St) (H:Hp) (x:V) (v vl vu:Value) (lo hi:Option Int) (sl:Addr) (Q:VK),Inv X pins σ H s->RelV x v->s.heap.IsSliceOf sl vl vu .none->IsPart vl lo->IsPart vu hi->r x lo hi H Q->
  ∃T id,typeLookup (.type T) "__getitem__"=pure (some (.builtin id))/\s.TypeIs v T/\wpAny (model X.prog X.w) X.A (getItem v (.ref sl)) (EP X pins σ Q) X.xe s
theorem mS.or {r r':V->Option Int->Option Int->Hp->VK->Prop} (h:mS X r) (h':mS X r'):mS X (fun x lo hi H Q=>r x lo hi H Q∨r' x lo hi H Q):=by
 intro pins s σ H x v vl vu lo hi sl Q I rx hs pl pu q
 rcases q with q|q
 ·exact h pins s σ H x v vl vu lo hi sl Q I rx hs pl pu q
 ·exact h' pins s σ H x v vl vu lo hi sl Q I rx hs pl pu q
noncomputable def tSl (r:V->Option Int->Option Int->Hp->VK->Prop) (te:TE) (tl th:TO):TE:=fun σ H Q=>te σ H fun x H1=>tl σ H1 fun l H2=>th σ H2 fun u H3=>r x l u H3 Q
theorem zy {r:V->Option Int->Option Int->Hp->VK->Prop} (hr:mS X r) (he:PE X e te) (hl:PO X lo tl) (hu:PO X hi th):PE X (.Subscript e (.Slice lo hi none p2) pos) (tSl r te tl th):=by
 intro pins s σ H Q I h
 refine Subscript_ (ay (he pins s σ H _ I h) fun v s1 z902=> ?_);obtain ⟨x,H1,I1,r1,q1⟩:=z902
 refine wpAny_Slice (ay (hl pins s1 σ H1 _ I1 q1) fun vl s2 ⟨l,H2,I2,pl,q2⟩=>ay (hu pins s2 σ H2 _ I2 q2) fun vu s3 ⟨u,H3,I3,pu,q3⟩=> ?_)
 rw [evalPart_none]
 refine wpAny_pure ?_
 have I4:Inv X pins σ H3 {s3 with heap:=s3.heap.push {cls:= .type "slice",data:= .fields #[vl,vu, .none]}}:=I3.kept (t':=s3.toks) fun b ob q=>Heap.get?_push_of_some _ q
 obtain ⟨T,id,hT,ht,hg⟩:=hr pins {s3 with heap:=s3.heap.push {cls:= .type "slice",data:= .fields #[vl,vu, .none]}} σ H3 x v vl vu l u s3.heap.objs.size Q I4 r1 (Heap.IsSliceOf.new ..) pl pu q3
 show wpAny (model X.prog X.w) X.A (subscriptTail e (.Slice lo hi none p2) v (.ref s3.heap.objs.size)) (EP X pins σ Q) X.xe {s3 with heap:=s3.heap.push {cls:= .type "slice",data:= .fields #[vl,vu, .none]}}
 exact tail_any (ops:=[.ref s3.heap.objs.size,v]) ht hT hg (by with_unfolding_all rfl)
noncomputable def jh (xs:List V) (lo hi:Option Int):List V:=(xs.drop (HT.aU xs.length 0 lo)).take (HT.aU xs.length xs.length hi-HT.aU xs.length 0 lo)
theorem jL (xs:List V) (lo hi:Option Int):(jh xs lo hi).length<=xs.length:=by
 unfold jh
 rw [List.length_take,List.length_drop]
 lia
noncomputable def IF (K:PySem.W.Frag):V->Option Int->Option Int->Hp->VK->Prop:=fun x lo hi H Q=>∃a xs,x= .ref a/\cH K H a xs/\
 ¬(HT.aU xs.length 0 lo=0/\HT.aU xs.length xs.length hi=xs.length)/\∀p,H p=none->Q (.ref p) (upd H p (.tup (jh xs lo hi)))
theorem CM:mS X (IF X.K):=by
 intro pins s σ H x v vl vu lo hi sl Q I rx hs pl pu h
 obtain ⟨a,xs,rfl,hx,hw,q⟩:=h
 cases rx
 obtain ⟨its,r,ht,hz⟩:=I.tuple hx
 have hlen:its.toArray.size=xs.length:=by rw [List.size_toArray];exact r.length.symm
 refine ⟨"tuple",_,PyProof.Rows.slot_tuple_getitem.lookup,ht.typeIs, ?_⟩
 refine HT.jK ht hs pl pu (by rw [hlen];exact hw) ?_ (by rw [hlen];exact hz)
 rw [hlen]
 refine ⟨.ref s.heap.objs.size,_,I.laid (t':=s.toks) (o:= .tup (jh xs lo hi)) (fun b ob q=>Heap.get?_push_of_some _ q) (Nat.le_refl _) ?_,rfl,q _ (I.ah.fresh (Nat.le_refl _))⟩
 exact ⟨Nat.le_trans (jL xs lo hi) hz,_,(r.drop (HT.aU xs.length 0 lo)).take (HT.aU xs.length xs.length hi-HT.aU xs.length 0 lo),IsTup.new _ _⟩
noncomputable def FY (K:PySem.W.Frag):R2:=fun x y H Q=>∃a b xs ys,x= .ref a/\y= .ref b/\cH K H a xs/\cH K H b ys/\xs≠[]/\xs.length+ys.length<=sizeLine/\
 (ys=[]->Q (.ref a) H)/\(ys≠[]->∀p,H p=none->Q (.ref p) (upd H p (.tup (xs++ys))))
theorem Vals.ml {xs:List V} {us:List Value} (r:Vals xs us):us=[]↔xs=[]:=by
 cases r with
 |nil=>simp
 |cons _ _=>simp
theorem BN:aK X (binaryOp .Add) (FY X.K):=by
 intro pins s σ H x y v u Q I rx ry h
 obtain ⟨a,b,xs,ys,rfl,rfl,ha,hb,hx,hz,q1,q2⟩:=h
 cases rx
 cases ry
 obtain ⟨its,r1,p1,_⟩:=I.tuple ha
 obtain ⟨its2,r2,p2,_⟩:=I.tuple hb
 refine HT.AA p1 p2 (fun z=>hx (r1.ml.mp z)) (fun z=>⟨.ref a,H,I,rfl,q1 (r2.ml.mp z)⟩) (fun z=> ?_) (by rw [←r1.length,←r2.length];exact hz)
 refine ⟨.ref s.heap.objs.size,_,I.laid (t':=s.toks) (o:= .tup (xs++ys)) (fun b ob q=>Heap.get?_push_of_some _ q) (Nat.le_refl _) ?_,rfl,q2 (fun w=>z (r2.ml.mpr w)) _ (I.ah.fresh (Nat.le_refl _))⟩
 exact ⟨by rw [List.length_append];exact hz,_,r1.append r2,IsTup.new _ _⟩
end
end L2
namespace L2
open PySem PySem.Spec PyProof.Rows
noncomputable def rC (n:Nat) (i:Int):Option Nat:=if 0<=i then (if i<n then some i.toNat else none) else if-(n:Int)<=i then some (i+n).toNat else none
noncomputable def mO {α:Type} (xs:List α) (i:Int):Option α:=(rC xs.length i).bind fun j=>xs[j]?
theorem rA {n:Nat} {i:Int} {j:Nat} (h:rC n i=some j):seqIndex? i n=some j/\j<n/\ -(n:Int)<=i/\i<n:=by
 unfold rC at h
 by_cases h0:0<=i
 ·rw [if_pos h0] at h
  by_cases h1:i<n
  ·rw [if_pos h1] at h
   have e:i.toNat=j:=Option.some.inj h
   exact ⟨by rw [seqIndex_of h0 h1,e],by lia,by lia,h1⟩
  ·rw [if_neg h1] at h;cases h
 ·rw [if_neg h0] at h
  by_cases h1: -(n:Int)<=i
  ·rw [if_pos h1] at h
   have e:(i+n).toNat=j:=Option.some.inj h
   exact ⟨by rw [seqIndex_neg (by lia) h1,e],by lia,h1,by lia⟩
  ·rw [if_neg h1] at h;cases h
theorem mw {α:Type} {xs:List α} {i:Int} {v:α} (h:mO xs i=some v):∃j,seqIndex? i xs.length=some j/\xs[j]?=some v/\j<xs.length/\ -(xs.length:Int)<=i/\i<xs.length:=by
 unfold mO at h
 cases e:rC xs.length i with
 |none=>rw [e] at h;cases h
 |some j=>
  rw [e] at h
  obtain ⟨h1,h2,h3,h4⟩:=rA e
  exact ⟨j,h1,h,h2,h3,h4⟩
noncomputable def mm (b:Expr):Prop:=∀o i,subscripted b false o i=operate [o,i] (getItem o i)
noncomputable def jO (X:Cx) (r:R2):Prop:=
 ∀(value slice:Expr) (pins:List (Addr×Obj)) (s:Shared) (σ:St) (H:Hp) (x y:V) (v u:Value) (Q:VK),Inv X pins σ H s->RelV x v->RelV y u->r x y H Q->
  subscripted slice false v u=operate [v,u] (getItem v u)->wpAny (model X.prog X.w) X.A (subscriptTail value slice v u) (EP X pins σ Q) X.xe s
noncomputable def qp (X:Cx) (id:String) (r:V->List V->Hp->VK->Prop):Prop:=
 ∀(pins:List (Addr×Obj)) (s:Shared) (σ:St) (H:Hp) (x:V) (xs:List V) (v:Value) (us:List Value) (Q:VK),Inv X pins σ H s->RelV x v->Vals xs us->r x xs H Q->
  wpAny (model X.prog X.w) X.A (call (.builtin id) (v::us)) (EP X pins σ Q) X.xe s
section
variable {X:Cx} {a b:Expr} {ta tb:TE} {pos:Pos}
theorem jO.or {r r':R2} (h:jO X r) (h':jO X r'):jO X (fun x y H Q=>r x y H Q∨r' x y H Q):=by
 intro value slice pins s σ H x y v u Q I rx ry q hs
 rcases q with q|q
 ·exact h value slice pins s σ H x y v u Q I rx ry q hs
 ·exact h' value slice pins s σ H x y v u Q I rx ry q hs
theorem FC {r:R2} (hr:jO X r) (ha:PE X a ta) (hb:PE X b tb) (hs:mm b):PE X (.Subscript a b pos) (zX r ta tb):=by
 intro pins s σ H Q I h
 exact Subscript_ (xP ha hb I h fun v u s2 x y H2 I2 rx ry q=>hr a b pins s2 σ H2 x y v u Q I2 rx ry q (hs _ _))
noncomputable def C0 (K:PySem.W.Frag):R2:=fun x y H Q=>∃p xs i v,x= .ref p/\y= .int i/\bH K H p xs/\mO xs i=some v/\Q v H
noncomputable def Cs (K:PySem.W.Frag):R2:=fun x y H Q=>∃p xs i v,x= .ref p/\y= .int i/\cH K H p xs/\mO xs i=some v/\Q v H
noncomputable def EG:R2:=fun x y H Q=>∃z i c,x= .str z/\y= .int i/\z.length<=sizeLine/\mO z.cps.toList i=some c/\Q (.str ⟨#[c]⟩) H
theorem Av:jO X (C0 X.K):=by
 intro value slice pins s σ H x y v u Q I rx ry h hs
 obtain ⟨p,xs,i,z,rfl,rfl,hq,he,q⟩:=h
 cases rx
 obtain ⟨t,rfl⟩:=ry
 obtain ⟨its,r,pl,hz⟩:=I.list hq
 obtain ⟨j,h1,h2,h3,h4,h5⟩:=mw he
 obtain ⟨w,ew,rw'⟩:=r.get h2
 have hl:=r.length
 have hn:=fO
 have fin:EP X pins σ Q w s:=⟨z,H,I,rw',q⟩
 by_cases h0:0<=i
 ·have hj:i.toNat=j:=by
   rw [seqIndex_of h0 h5] at h1
   exact Option.some.inj h1
  exact item_listR pl.isList h0 (by lia) (by rw [hj];simpa using ew) fin hs
 ·have hj:(i+(its.toArray.size:Int)).toNat=j:=by
   rw [seqIndex_neg (by lia) h4] at h1
   rw [List.size_toArray,←hl]
   exact Option.some.inj h1
  exact subscriptTail_builtinR (x:=w) pl.isList.typeIs slot_list_getitem.lookup
   (wpAny_getItem_list_neg (Q:=fun r s'=>r=w/\EP X pins σ Q r s') pl.isList (by lia) (by rw [List.size_toArray]<;>lia) (by lia) (by rw [hj];simpa using ew) ⟨rfl,fin⟩) hs
theorem EK:jO X (Cs X.K):=by
 intro value slice pins s σ H x y v u Q I rx ry h hs
 obtain ⟨p,xs,i,z,rfl,rfl,hq,he,q⟩:=h
 cases rx
 obtain ⟨t,rfl⟩:=ry
 obtain ⟨its,r,pl,hz⟩:=I.tuple hq
 obtain ⟨j,h1,h2,h3,h4,h5⟩:=mw he
 obtain ⟨w,ew,rw'⟩:=r.get h2
 have hl:=r.length
 have hn:=fO
 have fin:EP X pins σ Q w s:=⟨z,H,I,rw',q⟩
 exact subscriptTail_builtinR (x:=w) pl.typeIs slot_tuple_getitem.lookup
  (getItem_tuple (j:=j) (Q:=fun r s'=>r=w/\EP X pins σ Q r s') pl (by lia) (by lia) (by rw [List.size_toArray,←hl];exact h1) (by simpa using ew) ⟨rfl,fin⟩) hs
theorem Ek:jO X EG:=by
 intro value slice pins s σ H x y v u Q I rx ry h hs
 obtain ⟨z,i,c,rfl,rfl,hz,he,q⟩:=h
 obtain ⟨t,rfl⟩:=rx
 obtain ⟨t',rfl⟩:=ry
 obtain ⟨j,h1,h2,h3,h4,h5⟩:=mw he
 have hl:z.cps.toList.length=z.length:=by simp [Str.length]
 rw [hl] at h1 h4 h5
 have hn:=fO
 exact tail_any (typeIs_str s z t) slot_str_getitem.lookup (getItem_str (c:=c) (by
  have e1:decide (i< -(2^63:Int))=false:=decide_eq_false (by lia)
  have e2:decide (i≥2^63)=false:=decide_eq_false (by lia)
  rw [e1,e2,Bool.or_false]) (by rw [h1];simpa using h2) ⟨.str ⟨#[c]⟩,H,I.tok _,⟨_,rfl⟩,q⟩) hs
noncomputable def rIx (K:PySem.W.Frag):R2:=fun x y H Q=>C0 K x y H Q∨Cs K x y H Q∨EG x y H Q
theorem Dx:jO X (rIx X.K):=Av.or (EK.or Ek)
theorem tL (its:List Value) (n j:Nat) (u:Value):Obj.mapSeq (·.setIfInBounds j u) {cls:= .type "list",data:= .seq its.toArray n}={cls:= .type "list",data:= .seq (its.set j u).toArray n}:=by
 simp [Obj.mapSeq]
theorem Inv.lst {σ:St} {H:Hp} {s:Shared} {p:Addr} {xs:List V} (I:Inv X pins σ H s) (h:H p=some (.lst xs)):
  ∃(its:List Value) (n:Nat),Vals xs its/\s.heap.get? p=some {cls:= .type "list",data:= .seq its.toArray n}/\xs.length<=sizeLine:=by
 obtain ⟨z,its,n,r,e⟩:=I.ah p _ h
 exact ⟨its,n,r,e,z⟩
theorem Inv.Eb {σ:St} {H:Hp} {s:Shared} {p:Addr} {xs ys:List V} {its its':List Value} {n n':Nat} {f:Obj->Obj} (I:Inv X pins σ H s) (h:H p=some (.lst xs))
  (ho:s.heap.get? p=some {cls:= .type "list",data:= .seq its.toArray n}) (hf:f {cls:= .type "list",data:= .seq its.toArray n}={cls:= .type "list",data:= .seq its'.toArray n'}) (r:Vals ys its') (hz:ys.length<=sizeLine) (t:Nat):
  Inv X pins σ (upd H p (.lst ys)) {s with heap:=s.heap.update p f,toks:=t}:=by
 have e:(s.heap.update p f).get? p=some {cls:= .type "list",data:= .seq its'.toArray n'}:=by
  rw [Heap.get?_update_self f ho (by rw [hf]<;>rfl),hf]
 refine I.write (x:=p) (e:=p) (by rw [h];trivial) (.inl rfl) (fun b u hb q=>(Heap.get?_update_other _ _ (Ne.symm hb)).trans q) ⟨_,e⟩ ?_
 exact ⟨hz,its',n',r,e⟩
noncomputable def FW:V->V->V->Hp->(Hp->Prop)->Prop:=fun o i v H Q=>∃p xs k j,o= .ref p/\i= .int k/\H p=some (.lst xs)/\rC xs.length k=some j/\Q (upd H p (.lst (xs.set j v)))
theorem set_list:ji X FW:=by
 intro pins s σ H o i v ov iv u Q I ro ri rv h
 obtain ⟨p,xs,k,j,rfl,rfl,hp,hj,q⟩:=h
 cases ro
 obtain ⟨t,rfl⟩:=ri
 obtain ⟨its,n,r,ho,hz⟩:=I.lst hp
 obtain ⟨h1,h2,h3,h4⟩:=rA hj
 have hl:=r.length
 have hn:=fO
 have I':Inv X pins σ (upd H p (.lst (xs.set j v))) {s with heap:=s.heap.update p (Obj.mapSeq (·.setIfInBounds j u))}:=
  I.Eb hp ho (tL its n j u) (r.set rv j) (by rw [List.length_set];exact hz) s.toks
 by_cases h0:0<=k
 ·have hk:k.toNat=j:=by
   rw [seqIndex_of h0 h4] at h1
   exact Option.some.inj h1
  exact PySem.W.ki_setAt ho h0 (by lia) (by rw [List.size_toArray,←hl];exact h4) (by rw [hk];exact ⟨_,I',q⟩)
 ·have hk:(k+(its.toArray.size:Int)).toNat=j:=by
   rw [seqIndex_neg (by lia) h3] at h1
   rw [List.size_toArray,←hl]
   exact Option.some.inj h1
  exact PySem.W.ki_setBack ho (by lia) (by rw [List.size_toArray,←hl];exact h3) (by lia) (by rw [hk];exact ⟨_,I',q⟩)
theorem qr (lo hi:Option Int) (n:Nat):(sliceBounds lo hi none n).1=((HT.aU n 0 lo:Nat):Int)/\(sliceBounds lo hi none n).2.1=((HT.aU n n hi:Nat):Int)/\(sliceBounds lo hi none n).2.2=1:=by
 refine ⟨?_, ?_,rfl⟩
 ·cases lo with
  |none=>simp [sliceBounds,HT.aU]
  |some i=>
   simp only [sliceBounds,HT.aU,Option.getD_none,show (1:Int)>0 by decide,if_true]
   by_cases h:i<0
   ·simp only [h,if_true]<;>lia
   ·simp only [h,if_false]<;>lia
 ·cases hi with
  |none=>simp [sliceBounds,HT.aU]
  |some i=>
   simp only [sliceBounds,HT.aU,Option.getD_none,show (1:Int)>0 by decide,if_true]
   by_cases h:i<0
   ·simp only [h,if_true]<;>lia
   ·simp only [h,if_false]<;>lia
theorem om (its:List Value) (lo hi:Option Int):slicePick its.toArray lo hi none=((its.drop (HT.aU its.length 0 lo)).take (HT.aU its.length its.length hi-HT.aU its.length 0 lo)).toArray:=by
 obtain ⟨h1,h2,h3⟩:=qr lo hi its.toArray.size
 unfold slicePick
 rw [h1,h2,h3]
 simp only [sliceRange_one,pick_run,List.size_toArray]<;>rfl
noncomputable def Jw (K:PySem.W.Frag):V->Option Int->Option Int->Hp->VK->Prop:=fun x lo hi H Q=>∃a xs,x= .ref a/\bH K H a xs/\∀p,H p=none->Q (.ref p) (upd H p (.lst (jh xs lo hi)))
theorem Aw:mS X (Jw X.K):=by
 intro pins s σ H x v vl vu lo hi sl Q I rx hs pl pu h
 obtain ⟨a,xs,rfl,hx,q⟩:=h
 cases rx
 obtain ⟨its,r,ht,hz⟩:=I.list hx
 have hlen:=r.length
 refine ⟨"list",_,slot_list_getitem.lookup,ht.isList.typeIs, ?_⟩
 refine wpAny_getItem_list_slice ht.isList hs pl pu .none (by simp) ?_ (by rw [List.size_toArray]<;>lia)
 rw [om,←hlen]
 refine ⟨.ref s.heap.objs.size,_,I.laid (t':=s.toks) (o:= .lst (jh xs lo hi)) (fun b ob q=>Heap.get?_push_of_some _ q) (Nat.le_refl _) ?_,rfl,q _ (I.ah.fresh (Nat.le_refl _))⟩
 exact ⟨Nat.le_trans (jL xs lo hi) hz,_,0,(r.drop (HT.aU xs.length 0 lo)).take (HT.aU xs.length xs.length hi-HT.aU xs.length 0 lo),Heap.get?_push_size _ rfl⟩
noncomputable def Ae:V->Bool
 | .non=>true
 | .bl _=>true
 | .int _=>true
 | .str _=>true
 |_=>false
noncomputable def CC:V->V->Bool
 | .non, .non=>true
 | .bl a, .bl b=>a==b
 | .bl a, .int b=>(if a then 1 else 0)==b
 | .int a, .bl b=>a==(if b then 1 else 0)
 | .int a, .int b=>a==b
 | .str a, .str b=>a==b
 |_,_=>false
theorem iL {A:Around} {s:Shared} {y x:V} {u v:Value} (ry:RelV y u) (rx:RelV x v) (fy:Ae y=true) (fx:Ae x=true):SeqAt.EqAt A s u v (CC y x):=by
 cases y with
 |non=>
  cases ry
  cases x with
  |non=>cases rx;exact SeqAt.EqAt.same _
  |bl b=>cases rx;exact SeqAt.EqAt.none_bool b
  |int b=>obtain ⟨t,rfl⟩:=rx;exact SeqAt.EqAt.none_int b t
  |str b=>obtain ⟨t,rfl⟩:=rx;exact SeqAt.EqAt.none_str b t
  |_=>exact absurd (show false=true from fx) Bool.false_ne_true
 |bl a=>
  cases ry
  cases x with
  |non=>cases rx;exact SeqAt.EqAt.bool_none a
  |bl b=>cases rx;exact SeqAt.EqAt.bool_bool a b
  |int b=>obtain ⟨t,rfl⟩:=rx;exact SeqAt.EqAt.bool_int a b t
  |str b=>obtain ⟨t,rfl⟩:=rx;exact SeqAt.EqAt.bool_str a b t
  |_=>exact absurd (show false=true from fx) Bool.false_ne_true
 |int a=>
  obtain ⟨t',rfl⟩:=ry
  cases x with
  |non=>cases rx;exact SeqAt.EqAt.int_none a t'
  |bl b=>cases rx;exact SeqAt.EqAt.int_bool a t' b
  |int b=>obtain ⟨t,rfl⟩:=rx;exact SeqAt.EqAt.int_int a t' b t
  |str b=>obtain ⟨t,rfl⟩:=rx;exact SeqAt.EqAt.int_str a t' b t
  |_=>exact absurd (show false=true from fx) Bool.false_ne_true
 |str a=>
  obtain ⟨t',rfl⟩:=ry
  cases x with
  |non=>cases rx;exact SeqAt.EqAt.str_none a t'
  |bl b=>cases rx;exact SeqAt.EqAt.str_bool a t' b
  |int b=>obtain ⟨t,rfl⟩:=rx;exact SeqAt.EqAt.str_int a t' b t
  |str b=>obtain ⟨t,rfl⟩:=rx;exact SeqAt.EqAt.str_str a t' b t
  |_=>exact absurd (show false=true from fx) Bool.false_ne_true
 |_=>exact absurd (show false=true from fy) Bool.false_ne_true
noncomputable def qj (x:V) (xs:List V):Bool:=xs.any fun y=>CC y x
theorem o7:aA X (.builtin "len") (fun xs H Q=>∃p ys,xs=[.ref p]/\(bH X.K H p ys∨cH X.K H p ys)/\Q (.int ys.length) H):=by
 intro pins s σ H xs us Q I r h
 obtain ⟨p,ys,rfl,hq,q⟩:=h
 obtain ⟨u,rfl,rx⟩:=vals1 r
 cases rx
 have hn:=fO
 rcases hq with hq|hq
 ·obtain ⟨its,r',pl,hz⟩:=I.list hq
  have hlen:=r'.length
  exact Calls.call_len_list pl.isList (by simp only [List.size_toArray]<;>lia) ⟨.int ys.length,H,I.tok _,⟨s.toks+1,by rw [List.size_toArray,hlen]⟩,q⟩
 ·obtain ⟨its,r',pl,hz⟩:=I.tuple hq
  have hlen:=r'.length
  exact len_tuple pl (by simp only [List.size_toArray]<;>lia) ⟨.int ys.length,H,I.tok _,⟨s.toks+1,by rw [List.size_toArray,hlen]⟩,q⟩
theorem qu:aA X (.builtin "len") (fun xs H Q=>∃z,xs=[.str z]/\z.length<=sizeLine/\Q (.int z.length) H):=by
 intro pins s σ H xs us Q I r h
 obtain ⟨z,rfl,hz,q⟩:=h
 obtain ⟨u,rfl,t,rfl⟩:=vals1 r
 have hn:=fO
 exact len_str (by lia) ⟨.int z.length,H,I.tok _,⟨_,rfl⟩,q⟩
theorem aA.or {f:Value} {r r':List V->Hp->VK->Prop} (h:aA X f r) (h':aA X f r'):aA X f (fun xs H Q=>r xs H Q∨r' xs H Q):=by
 intro pins s σ H xs us Q I rs q
 rcases q with q|q
 ·exact h pins s σ H xs us Q I rs q
 ·exact h' pins s σ H xs us Q I rs q
theorem pM:aA X (.type "list") (fun xs H Q=>∃p ys,xs=[.ref p]/\(bH X.K H p ys∨cH X.K H p ys)/\∀l,H l=none->Q (.ref l) (upd H l (.lst ys))):=by
 intro pins s σ H xs us Q I r h
 obtain ⟨p,ys,rfl,hq,q⟩:=h
 obtain ⟨u,rfl,rx⟩:=vals1 r
 cases rx
 have fin:∀(its:List Value),Vals ys its->ys.length<=sizeLine->∀(h':Heap) (c':Nat),(∀b o',s.heap.get? b=some o'->h'.get? b=some o')->
   h'.get? s.heap.objs.size=some {cls:= .type "list",dict:=none,data:= .seq its.toArray c',slots:=#[]}->EP X pins σ Q (.ref s.heap.objs.size) {s with heap:=h'}:=fun its r' hz h' c' kp e=>
  ⟨.ref s.heap.objs.size,_,I.laid (t':=s.toks) kp (Nat.le_refl _) (show aN X.prog X.w _ h' _ (.lst ys) from ⟨hz,its,c',r',e⟩),rfl,q _ (I.ah.fresh (Nat.le_refl _))⟩
 rcases hq with hq|hq
 ·obtain ⟨its,r',pl,hz⟩:=I.list hq
  have hlen:=r'.length
  obtain ⟨o,ho,hc,n,hd⟩:=pl.isList
  exact call_list_seq p (.inl rfl) ho hc hd (fun h' c' kp e=>fin its r' hz h' c' kp e) (by simp only [List.size_toArray]<;>lia)
 ·obtain ⟨its,r',pl,hz⟩:=I.tuple hq
  have hlen:=r'.length
  obtain ⟨o,ho,hc,n,hd⟩:=pl
  exact call_list_seq p (.inr rfl) ho hc hd (fun h' c' kp e=>fin its r' hz h' c' kp e) (by simp only [List.size_toArray]<;>lia)
theorem oy:aA X (.type "tuple") (fun xs H Q=>∃p ys,xs=[.ref p]/\((bH X.K H p ys/\∀l,H l=none->Q (.ref l) (upd H l (.tup ys)))∨(cH X.K H p ys/\Q (.ref p) H))):=by
 intro pins s σ H xs us Q I r h
 obtain ⟨p,ys,rfl,h⟩:=h
 obtain ⟨u,rfl,rx⟩:=vals1 r
 cases rx
 rcases h with ⟨hq,q⟩|⟨hq,q⟩
 ·obtain ⟨its,r',pl,hz⟩:=I.list hq
  have hlen:=r'.length
  refine call_tuple_list pl.isList (fun h' kp=> ?_) (by simp only [List.size_toArray]<;>lia)
  have I1:Inv X pins σ H {s with heap:=h'}:=I.kept (t':=s.toks) kp
  have I2:Inv X pins σ (upd H h'.objs.size (.tup ys)) {s with heap:=h'.push {cls:= .type "tuple",data:= .seq its.toArray}}:=
   I1.laid (t':=s.toks) (fun b o e=>Heap.get?_push_of_some _ e) (Nat.le_refl _) (show aN X.prog X.w _ _ _ (.tup ys) from ⟨hz,its,r',IsTup.new _ _⟩)
  exact ⟨.ref h'.objs.size,_,I2,rfl,q _ (I1.ah.fresh (Nat.le_refl _))⟩
 ·obtain ⟨its,r',pl,hz⟩:=I.tuple hq
  exact call_tuple_same pl ⟨.ref p,H,I,rfl,q⟩
noncomputable def EH (K:PySem.W.Frag) (T:String) (x:V) (H:Hp):Prop:=match x with
 | .str _=>T="str"
 | .int _=>T="int"
 | .ref p=>(T="list"/\∃xs,bH K H p xs)∨(T="tuple"/\∃o,K.lookup p=some o/\o.cls= .type "tuple"/\o.dict=none)∨
   (T="dict"/\((∃kvs,H p=some (.dK kvs))∨∃kvs,H p=some (.dT kvs)))∨(T="set"/\∃S n,H p=some (.set S n))
 |_=>False
theorem vX {σ:St} {H:Hp} {s:Shared} {T:String} {x:V} {v:Value} (I:Inv X pins σ H s) (r:RelV x v) (ty:EH X.K T x H):
  s.TypeIs v T/\∀a,v= .ref a->∃ob,s.heap.get? a=some ob/\ob.dict=none:=by
 cases x with
 |str z=>
  obtain ⟨t,rfl⟩:=r
  cases (show T="str" from ty)
  exact ⟨typeIs_str s z t,fun _ e=>nomatch e⟩
 |int i=>
  obtain ⟨t,rfl⟩:=r
  cases (show T="int" from ty)
  exact ⟨typeIs_int s i t,fun _ e=>nomatch e⟩
 |ref p=>
  cases r
  rcases ty with ⟨rfl,xs,hq⟩|⟨rfl,o,hk,hc,hd⟩|⟨rfl,hk⟩|⟨rfl,S,n,hk⟩
  ·obtain ⟨its,_,pl,_⟩:=I.list hq
   refine ⟨pl.isList.typeIs,fun a e=> ?_⟩
   cases e
   obtain ⟨o,n,e,c,hd,_⟩:=pl
   exact ⟨o,e,hd⟩
  ·refine ⟨⟨o,I.dO p o hk,hc⟩,fun a e=> ?_⟩
   cases e
   exact ⟨o,I.dO _ o hk,hd⟩
  ·have z:∃o,s.heap.get? p=some o/\o.ExactDict:=by
    rcases hk with ⟨kvs,hk⟩|⟨kvs,hk⟩
    ·obtain ⟨_,_,_,_,o,_,_,e,ex,_⟩:=I.ah p _ hk
     exact ⟨o,e,ex⟩
    ·obtain ⟨_,_,_,_,o,_,_,e,ex,_⟩:=I.ah p _ hk
     exact ⟨o,e,ex⟩
   obtain ⟨o,e,ex⟩:=z
   refine ⟨⟨o,e,ex.1⟩,fun a e2=> ?_⟩
   cases e2
   exact ⟨o,e,ex.2.1⟩
  ·obtain ⟨o,_,_,_,e,ex,_⟩:=I.ah p _ hk
   refine ⟨⟨o,e,ex.1⟩,fun a e2=> ?_⟩
   cases e2
   exact ⟨o,e,ex.2.1⟩
 |_=>exact False.elim ty
noncomputable def Jr (K:PySem.W.Frag) (T:String) (r:V->List V->Hp->VK->Prop) (to:TE):TE:=fun σ H Q=>to σ H fun x H1=>EH K T x H1/\r x [] H1 Q
noncomputable def tBM (K:PySem.W.Frag) (T:String) (r:V->List V->Hp->VK->Prop) (to:TE) (t:TA):TE:=fun σ H Q=>to σ H fun x H1=>EH K T x H1/\t σ H1 fun xs H2=>r x xs H2 Q
variable {o e:Expr} {es:List Expr} {to:TE} {t:TA} {name:Str} {apos cpos:Pos} {T id:String} {r:V->List V->Hp->VK->Prop}
theorem Dg (pa:PlainAttrs T) (slot:Slot T name id) (hty:typeOf (.builtin id)=pure (.type "method_descriptor")) (hm:qp X id r) (ho:PE X o to)
  (hbase:attributeBase o name X.env (eval o X.env)=eval o X.env:=by rfl) (hline:(apos.endLine==cpos.line)=true:=by rfl):PE X (.Call (.Attribute o name apos) [] [] cpos) (Jr X.K T r to):=by
 intro pins s σ H Q I h
 refine wpAny_Call_method0_late hbase hline (ay (ho pins s σ H _ I h) fun v s1 z902=> ?_);obtain ⟨x,H1,I1,r1,ty,q1⟩:=z902
 obtain ⟨h1,h2⟩:=vX I1 r1 ty
 exact ⟨T,id,pa,slot,hty,h1,h2,Calls.callWith_builtin rfl (PySem.evalArgs_none (hm pins s1 σ H1 x [] v [] Q I1 r1 .nil q1))⟩
theorem F5 (pa:PlainAttrs T) (slot:Slot T name id) (hty:typeOf (.builtin id)=pure (.type "method_descriptor")) (hm:qp X id r) (ho:PE X o to) (ha:PA X (e::es) t)
  (hbase:attributeBase o name X.env (eval o X.env)=eval o X.env:=by rfl)
  (hfew:((backTo cpos (starEach (e::es) X.env)).all (fun x=> !x.1)&&(backToKw cpos (keywordEach [] X.env)).all (fun x=>x.1.isSome)
   &&decide ((e::es).length+([]:List Keyword).length+(if ([]:List Keyword).isEmpty then 0 else 1)<30))=true:=by rfl)
  (hline:(apos.endLine==cpos.line)=true:=by rfl) (hs:starEach (e::es) X.env=(false,eval e X.env)::starEach es X.env:=by rfl) (hplain:(backTo cpos (starEach es X.env)).any (·.1)=false:=by rfl):
  PE X (.Call (.Attribute o name apos) (e::es) [] cpos) (tBM X.K T r to t):=by
 intro pins s σ H Q I h
 refine wpAny_Call_method_late hbase hfew hline rfl (ay (ho pins s σ H _ I h) fun v s1 z902=> ?_);obtain ⟨x,H1,I1,r1,ty,q1⟩:=z902
 obtain ⟨h1,h2⟩:=vX I1 r1 ty
 refine ⟨T,id,pa,slot,hty,h1,h2, ?_⟩
 have hA:=ha cpos pins s1 σ H1 _ I1 q1
 rw [hs] at hA⊢
 refine Calls.callWith_builtin (by show (false||(backTo cpos (starEach es X.env)).any (·.1))=false;rw [hplain]<;>rfl) (Calls.evalArgs_plain ?_)
 exact ay hA fun us s2 z902=>by obtain ⟨vs,H2,I2,r2,q2⟩:=z902;exact hm pins s2 σ H2 x vs v us Q I2 r1 r2 q2
end
end L2
namespace L2
open PySem PySem.Spec PyProof.Rows
noncomputable def MtM (X:Cx) (id:String) (r:V->List V->Hp->VK->Prop):Prop:=
 ∀(pins:List (Addr×Obj)) (s:Shared) (σ:St) (H:Hp) (x:V) (xs:List V) (v:Value) (us:List Value) (Q:VK),Inv X pins σ H s->RelV x v->Vals xs us->r x xs H Q->
  wpAny (model X.prog X.w) X.A (call (.builtin id) (v::us)) (EP X pins σ Q) X.xe s
theorem Vals.one:∀{x:V} {us:List Value},Vals [x] us->∃u,us=[u]/\RelV x u:=fun h=>by
 cases h with|cons r t=>cases t;exact ⟨_,rfl,r⟩
theorem Vals.two:∀{x y:V} {us:List Value},Vals [x,y] us->∃u v,us=[u,v]/\RelV x u/\RelV y v:=fun h=>by
 cases h with|cons r t=>cases t with|cons q t=>cases t;exact ⟨_,_,rfl,r,q⟩
section
variable {X:Cx} {pins:List (Addr×Obj)} {σ:St} {H:Hp} {s:Shared} {l b:Addr} {xs ys zs:List V}
theorem Inv.uc {its its':List Value} {n:Nat} {f:Array Value->Array Value} {t':Nat} (I:Inv X pins σ H s) (hH:H l=some (.lst xs))
  (e:s.heap.get? l=some {cls:= .type "list",data:= .seq its.toArray n}) (hf:f its.toArray=its'.toArray) (hv:Vals ys its') (hz:ys.length<=sizeLine):
  Inv X pins σ (upd H l (.lst ys)) {s with heap:=s.heap.update l (Obj.mapSeq f),toks:=t'}:=by
 have q:=PySem.IsL.update e f
 rw [hf] at q
 refine I.write (x:=l) (e:=l) (by rw [hH];exact trivial) (.inl rfl) (fun b' u hb hu=>(Heap.get?_update_other s.heap (Obj.mapSeq f) (Ne.symm hb)).trans hu) ⟨_,q⟩ ?_
 exact ⟨hz,its',_,hv,q⟩
theorem Inv.JJ {its:List Value} {t':Nat} (I:Inv X pins σ H s) (hv:Vals ys its) (hz:ys.length<=sizeLine):
  Inv X pins σ (upd H s.heap.objs.size (.lst ys)) {s with heap:=s.heap.push {cls:= .type "list",data:= .seq its.toArray},toks:=t'}:=
 I.laid (fun _ _ q=>Heap.get?_push_of_some _ q) (Nat.le_refl _) ⟨hz,its,0,hv,Heap.get?_push_size _ rfl⟩
theorem Inv.fresh (I:Inv X pins σ H s):H s.heap.objs.size=none:=I.ah.fresh (Nat.le_refl _)
theorem Inv.kC (I:Inv X pins σ H s) (hH:H l=some (.lst xs)):xs.length<=sizeLine/\∃(its:List Value) (n:Nat),Vals xs its/\xs.length=its.length/\s.heap.get? l=some {cls:= .type "list",data:= .seq its.toArray n}:=by
 obtain ⟨z,its,n,r,e⟩:=I.ah l _ hH
 exact ⟨z,its,n,r,r.length,e⟩
theorem yk {n:Nat} (h:n<=sizeLine):Builtin.List.listTooLong n=false:=by
 unfold Builtin.List.listTooLong
 exact decide_eq_false (by lia)
end
section
variable {X:Cx}
noncomputable def BU:V->List V->Hp->VK->Prop:=fun x vs H Q=>∃l xs y,x= .ref l/\vs=[y]/\H l=some (.lst xs)/\xs.length<sizeLine/\Q .non (upd H l (.lst (xs++[y])))
theorem nM:MtM X "list.append" BU:=by
 intro pins s σ H x vs v us Q I rx rv h
 obtain ⟨l,xs,y,rfl,rfl,hH,hz,q⟩:=h
 cases rx
 obtain ⟨u,rfl,ru⟩:=rv.one
 obtain ⟨z,its,n,r,hl,e⟩:=I.kC hH
 refine call_meets F.slot_list_append ⟨_,e,rfl⟩ F.entry_list_append (F.args_list_append_2 _ _) (PySem.list_append l its.toArray n u (by rw [List.size_toArray];lia)) ⟨e, ?_⟩
 refine ⟨.non,_,I.uc (its':=its++[u]) hH e (by simp) (r.append (.cons ru .nil)) ?_,rfl,q⟩
 rw [List.length_append,List.length_singleton]
 lia
noncomputable def Bp:V->List V->Hp->VK->Prop:=fun x vs H Q=>∃l b xs zs,x= .ref l/\vs=[.ref b]/\H l=some (.lst xs)/\H b=some (.lst zs)/\xs.length+zs.length<=sizeLine/\Q .non (upd H l (.lst (xs++zs)))
theorem uX:MtM X "list.extend" Bp:=by
 intro pins s σ H x vs v us Q I rx rv h
 obtain ⟨l,b,xs,zs,rfl,rfl,hH,hB,hz,q⟩:=h
 cases rx
 obtain ⟨u,rfl,ru⟩:=rv.one
 cases ru
 obtain ⟨z,its,n,r,hl,e⟩:=I.kC hH
 obtain ⟨z2,its2,n2,r2,hl2,e2⟩:=I.kC hB
 have hsz:its.toArray.size+its2.toArray.size<=sizeLine:=by rw [List.size_toArray,List.size_toArray];lia
 have hlong:¬(!its.toArray.isEmpty&&Builtin.List.listTooLong (its.toArray.size+its2.toArray.size))=true:=by
  rw [yk hsz,Bool.and_false]
  exact Bool.false_ne_true
 refine call_meets F.slot_list_extend ⟨_,e,rfl⟩ F.entry_list_extend (F.args_list_extend_2 _ _)
  (AutoSeq1.list_extend_list_list_0 l its.toArray n b its2.toArray n2 hlong (by rw [List.size_toArray];lia) (by lia)) ⟨e,e2, ?_⟩
 refine ⟨.non,_,I.uc (its':=its++its2) hH e (by simp) (r.append r2) ?_,rfl,q⟩
 rw [List.length_append]
 lia
end
section
variable {prog:Program} {w:World} {A:Around} {E:Value->Shared->Prop} {s:Shared}
end
section
variable {X:Cx}
end
end L2
namespace Att
open PySem PySem.W PySem.Calls PyProof.Rows
theorem kQ {P:Params}:∀(ns:List Int) (vs:List Value),WellAll P h vs (ns.map WData.int)->IntsAre vs ns:=by
 intro ns
 induction ns with
 |nil=>
  intro vs w
  rw [List.map_nil] at w
  cases w
  exact .nil
 |cons n ns ih=>
  intro vs w
  rw [List.map_cons] at w
  cases w with
  |cons a b=>
   cases a
   exact .cons _ _ (ih _ b)
theorem vp {l:OpenLaw} {n:Nat} (hn:l.most=some n) {P:Params} {h:Heap} {args:List WData} {vals:List Value}
  (hpre:l.row.toRowW.claim.pre args=true) (hwl:WellAll P h vals args):
  ∃a vs ns,vals=[Value.ref a]/\args=[WData.list (ns.map WData.int)]/\h.get? a=some {cls:= .type "list",data:= .seq vs.toArray}/\IntsAre vs ns/\ns.length<=n:=by
 have hsh:WShape.hasAll [] args [.list .int]=true:=(pre_splitW hpre).1
 have hc:l.pre.holds [] {args:=args}=true:=(pre_splitW hpre).2
 obtain ⟨d,r,rfl,h1,h2⟩:=hasAllW_cons hsh
 obtain rfl:=hasAllW_nil h2
 obtain ⟨xs,rfl,h3⟩:=hasW_list h1
 obtain ⟨ns,rfl⟩:=items_int h3
 have hlen:ns.length<=n:=by
  unfold OpenLaw.pre at hc
  have h4:(WTm.not (.lt (.lit (.int (n:Int))) (.len (.arg 0)))).holds [] {args:=[.list (ns.map .int)]}=true:=by
   have h4:=(holds_andW hc).1
   rw [hn] at h4
   exact h4
  have h5:=condW_of h4 (w_not (w_lt w_lit (w_len_list (w_arg rfl))))
  rw [List.length_map] at h5
  refine Nat.le_of_not_lt fun q=> ?_
  have q':(n:Int)<((ns.length:Nat):Int):=by lia
  first
   |(rw [decide_eq_true q'] at h5;exact absurd h5 (by decide))
   |(simp at h5;lia)
 cases hwl with
 |cons w1 w2=>
  cases w2
  cases w1 with
  |list ho hall=>exact ⟨_,_,ns,rfl,rfl,ho,kQ ns _ hall,hlen⟩
theorem vN (l:OpenLaw) (args:List WData):l.row.toRowW.claim.post args (.bool true) args=true:=
 postW_of (r:=l.row.toRowW) (X:=(true==true))
  (show WShape.has [] (.bool true) .bool=true by first|rfl|decide|simp [WShape.has,WShape.arms,WShape.armsAll])
  (show (WTm.eq .res (.lit (.bool true))).value [] {args:=args,res:=some (.bool true),after:=args}=some (.bool (true==true)) from w_eq_bool (w_res rfl) w_lit) rfl
theorem qZ {l:OpenLaw} {n:Nat} {loose:List Str} {XP:(Str->Option Value)->Heap->Prop} {YP:World->Heap->Prop} {d:DefRec}
  (hn:l.most=some n) (hdf:d.params.defaults=[])
  (call:∀(w:World) (s₀ s₁:Shared) (mg mb:Str->Option Value) (fa:Addr) (o:Obj) (pm cd doc:Value) (a:Addr) (vs:List Value) (ns:List Int),
   Ground q loose [] XP w s₀ mg mb s₁.heap->YP w s₁.heap->
   s₁.heap.get? fa=some o->o.data= .func (docDef d.name d.params d.body d.scope pm cd doc)->s₁.heap.CodeRec cd d.name->mg d.name=some (.ref fa)->
   s₁.heap.get? a=some {cls:= .type "list",data:= .seq vs.toArray}->IntsAre vs ns->ns.length<=n->s₁.gens=#[]->
   codeAny (model l.prog w) callerA (.call (.ref fa) ⟨[.ref a],[]⟩) (fun r s'=>r= .ok (.ret (.bool true))/\OldK s₁.heap s'.heap/\s'.os=s₁.os/\AllBare s'.gens) s₁):
  WalkO q loose XP YP l.row.toRowW d [] (fun f vs=>PySem.call f vs):=by
 intro w s₀ s₁ mg mb G Y fa o pm cd doc dV kV ho hd hcd hD hmg hg args vals as hpre hlay hrd hwl hlo
 obtain rfl:dV= .none:=Dflts.none hD hdf
 obtain rfl:kV= .none:=Dflts.noKw hD
 obtain ⟨a,vs,ns,rfl,rfl,hobj,hints,hlen⟩:=vp hn hpre hwl
 refine enter_call (codeAny_mono (call w s₀ s₁ mg mb fa o pm cd doc a vs ns G Y ho (fd_plain hd) hcd hmg hobj hints hlen hg) fun r s' hq=> ?_)
 obtain ⟨rfl,h2,h3,h4⟩:=hq
 exact ⟨.inl ⟨.bool true, .bool true,[],rfl,fun _=>rfl, .bool true,vN l _,fun _=>⟨List.Pairwise.nil,fun _ hm=>(nomatch hm)⟩⟩,h2,h3,h4⟩
section
variable {prog:Program} {w:World} {A:Around} {E:Value->Shared->Prop} {s:Shared} {K:Frag}
end
end Att
namespace L2
open PySem PySem.Spec PyProof.Rows
theorem mL:∀{vs:List Value} {ns:List Int},IntsAre vs ns->Vals (ns.map V.int) vs
 |_,_, .nil=> .nil
 |_,_, .cons n t h=> .cons ⟨t,rfl⟩ (mL h)
noncomputable def yb (H:Hp):Prop:=∀b,H b=none∨∃o xs,H b=some (.aC o (.lst xs))
theorem xq {P:Program} {w:World} {K:PySem.W.Frag} {mg mb:Str->Option Value} {CX:jX} {k:Nat} {a:Addr} {x:Str} {sp:Sp} {s₁:Shared} {vs:List Value} {ns:List Int}
  (KX:K.In s₁.heap) (hns:s₁.heap.Ns mainGlobals mg) (hb:s₁.heap.Ns builtinsNs mb) (hbb:∀x:Str,x≠"__name__"->mb x=bootBuiltins x) (hlim:s₁.heap.NoLimit) (hg:s₁.gens=#[])
  (ha:s₁.heap.get? a=some {cls:= .type "list",data:= .seq vs.toArray}) (hi:IntsAre vs ns) (hl:ns.length<=sizeLine) (hr:Room k callerA)
  (F:∀base:Heap,K.In base->base.Ns mainGlobals mg->FnOk P w K mg base CX k fa fd [x] sp) (hbind:∀(s:Shared) (u:Value),BindsTo s fd ⟨[u],[]⟩ [(x,u)])
  (hsp:∀H:Hp,yb H->bH K H a (ns.map V.int)->sp [.ref a] H (fun v _=>v= .bl true) fun _ _ _=>False)
  (hCX:∀H e s',CX [] H s₁ (fun _ _ _=>False) e s'->False):
  codeAny (model P w) callerA (.call (.ref fa) ⟨[.ref a],[]⟩) (fun r s'=>r= .ok (.ret (.bool true))/\OldK s₁.heap s'.heap/\s'.os=s₁.os/\AllBare s'.gens) s₁:=by
 have rv:=mL hi
 have gq:=hi.length
 have core:∀H:Hp,yb H->bH K H a (ns.map V.int)->bq P w H s₁.heap->(∀b,H b≠none->b=a)->(H a≠none->K.lookup a=none)->
   codeAny (model P w) callerA (.call (.ref fa) ⟨[.ref a],[]⟩) (fun r s'=>r= .ok (.ret (.bool true))/\OldK s₁.heap s'.heap/\s'.os=s₁.os/\AllBare s'.gens) s₁:=by
  intro H hO hS ah hA hK
  have base_of:∀{b:Addr} {o:Obj},s₁.heap.get? b=some o->H b=none->(iA s₁.heap H).get? b=some o:=fun e n=>xo e n
  have noA:∀{b:Addr} {o:Obj} {es:Array DictEntry} {ep:Nat},s₁.heap.get? b=some o->o.data= .dict es ep->H b=none:=fun {b o es ep} e d=>by
   cases q:H b with
   |none=>rfl
   |some u=>
    have e':b=a:=hA b (by rw [q];simp)
    subst e'
    rw [ha] at e;cases e
    have d':Data.seq vs.toArray _=Data.dict es ep:=d
    cases d'
  have nsK:∀{b:Addr} {m:Str->Option Value},s₁.heap.Ns b m->(iA s₁.heap H).Ns b m:=fun {b m} z901=>by obtain ⟨o,es,ep,e,d,r⟩:=z901;exact ⟨o,es,ep,base_of e (noA e d),d,r⟩
  have hKb:K.In (iA s₁.heap H):=fun b o e=>base_of (KX b o e) (by
   cases q:H b with
   |none=>rfl
   |some u=>
    have e':b=a:=hA b (by rw [q];simp)
    subst e'
    rw [hK (by rw [q];simp)] at e;cases e)
  have hM:Mod K mg (iA s₁.heap H):=⟨hKb,nsK hns,⟨mb,nsK hb,hbb⟩,let ⟨mc,h1,h2⟩:=hlim;⟨mc,nsK h1,h2⟩⟩
  have e0:Env0 P w K mg (iA s₁.heap H) callerA [] s₁ H:=⟨rfl,hM,fun b o e=>Ay e,Nat.le_of_eq (uO _ _),trivial,fun b hb=>absurd (show b∈([]:List Addr) from hb) (by simp),ah, .of_eq hg⟩
  refine codeAny_mono ((F _ hKb (nsK hns)).run callerA [] s₁ H ⟨[.ref a],[]⟩ [.ref a] [.ref a] _ _ hr e0 (hbind s₁ (.ref a)) (.cons rfl .nil) (hsp H hO hS)) fun r s' h=> ?_
  cases r with
  |error e=>exact (hCX H e s' h).elim
  |ok fl=>
   cases fl with
   |next=>exact False.elim h
   |brk=>exact False.elim h
   |cont=>exact False.elim h
   |ret u=>
    obtain ⟨v,H',os,bare,un,hok',r',q⟩:=h
    have q':v= .bl true:=q
    subst q'
    obtain rfl:u=Value.bool true:=r'
    refine ⟨rfl,OldK.of_keep fun b o e=> ?_,os,bare⟩
    cases q:H b with
    |none=>exact un.keep b o e q (by intro z;exact absurd (show b∈([]:List Addr) from z) (by simp)) (by simp)
    |some u=>
     rcases hO b with z|⟨ob,xs,z⟩
     ·rw [q] at z;cases z
     ·have z2:=un.aV b ob _ z
      obtain ⟨e1,_⟩:=ah b _ z
      obtain ⟨e2,_⟩:=hok' b _ z2
      rw [e] at e1;cases e1
      exact e2
 cases hk:K.lookup a with
 |some o=>
  have e:=KX a o hk
  rw [ha] at e
  cases e
  refine core (fun _=>none) (fun _=> .inl rfl) (.inr ⟨_,vs.toArray,_,hk,rfl,rfl,rfl,by rw [List.size_toArray,gq];exact hl,by simpa using rv⟩) (fun b u z=>by have z':(none:Option HO)=some u:=z;cases z') (fun b z=>absurd rfl z) fun z=>absurd rfl z
 |none=>
  refine core (fun b=>if b=a then some (.aC {cls:= .type "list",data:= .seq vs.toArray} (.lst (ns.map V.int))) else none) (fun b=> ?_) (.inl (.inr ⟨{cls:= .type "list",data:= .seq vs.toArray},if_pos rfl⟩)) (fun b u z=> ?_) (fun b z=> ?_) fun _=>hk
  ·by_cases hb:b=a
   ·exact .inr ⟨_,_,if_pos hb⟩
   ·exact .inl (if_neg hb)
  ·by_cases hb:b=a
   ·have z':=(if_pos hb).symm.trans z
    cases z'
    subst hb
    exact ⟨ha,by rw [List.length_map];exact hl,vs,_,rv,ha⟩
   ·have z':=(if_neg hb).symm.trans z
    cases z'
  ·by_cases hb:b=a
   ·exact hb
   ·exact absurd (if_neg hb) z
end L2
namespace L2
open PySem PySem.Spec PyProof.Rows
theorem B1 {l:PySem.W.OpenLaw} {n k:Nat} {loose:List Str} {XP:(Str->Option Value)->Heap->Prop} {YP:World->Heap->Prop} {d:DefRec} {K:Params->PySem.W.Frag} {CX:World->jX} {sp:World->Sp} {x:Str}
  (hn:l.most=some n) (hn2:n<=sizeLine) (hdf:d.params.defaults=[]) (hr:Room k callerA)
  (hY:∀(w:World) (h:Heap),YP w h->(K w.params).In h)
  (F:∀(w:World) (mg:Str->Option Value) (fa:Addr) (h:Heap),(K w.params).In h->h.Ns mainGlobals mg->mg d.name=some (.ref fa)->
   ∃fd:FuncData,(∀(s:Shared) (u:Value),BindsTo s fd ⟨[u],[]⟩ [(x,u)])/\
    ∀base:Heap,(K w.params).In base->base.Ns mainGlobals mg->FnOk l.prog w (K w.params) mg base (CX w) k fa fd [x] (sp w))
  (hsp:∀(w:World) (H:Hp) (a:Addr) (ns:List Int),ns.length<=n->yb H->bH (K w.params) H a (ns.map V.int)->sp w [.ref a] H (fun v _=>v= .bl true) fun _ _ _=>False)
  (hCX:∀(w:World) (H:Hp) (s:Shared) (e:Value) (s':Shared),CX w [] H s (fun _ _ _=>False) e s'->False):
  PySem.W.WalkO q loose XP YP l.row.toRowW d [] (fun f vs=>PySem.call f vs):=by
 refine Att.qZ hn hdf fun w s₀ s₁ mg mb fa o pm cd doc a vs ns G Y ho hd hcd hmg hobj hints hlen hg=> ?_
 have KX:=hY w _ Y
 obtain ⟨fd,hb,hF⟩:=F w mg fa _ KX G.T.g hmg
 exact xq KX G.T.g G.T.b G.T.builtins G.T.nolimit hg hobj hints (Nat.le_trans hlen hn2) hr hF hb (fun H hO hS=>hsp w H a ns hlen hO hS) fun H e s'=>hCX w H s₁ e s'
end L2
namespace L2
open PySem PySem.Spec PyProof.Rows
noncomputable def inClass (s:Stmt) (j:Nat):Stmt:=match s with
 | .ClassDef _ _ _ body _ _ _ _ _ _ _=>body.getD j (.Pass ⟨0,0,0,0⟩)
 |_=> .Pass ⟨0,0,0,0⟩
noncomputable def cY (s:Stmt):Arguments:=match s with
 | .FunctionDef _ a _ _ _ _ _ _ _ _=>a
 |_=>{posonlyargs:=[],args:=[],vararg:=none,kwonlyargs:=[],kw_defaults:=[],kwarg:=none,defaults:=[]}
noncomputable def bg (s:Stmt):List Stmt:=match s with
 | .FunctionDef _ _ b _ _ _ _ _ _ _=>b
 |_=>[]
noncomputable def ax (s:Stmt):Scope:=match s with
 | .FunctionDef _ _ _ _ _ _ sc _ _ _=>sc
 |_=>{kind:= .function,names:=[],isGenerator:=false,isCoroutine:=false}
structure Fun (K:PySem.W.Frag) (x qual:Str) (st:Stmt) (f:Addr) (fd:FuncData):Prop where
 ex:∃(oc:Value) (od:Option Addr) (kV doc pm:Value) (an:Option Addr) (cdv ct:Value) (osl:Array (Option Value)),
  fd=PySem.W.fnOf x qual (cY st) (bg st) (ax st) .none kV doc pm an cdv ct/\K.lookup f=some ⟨oc,od, .func fd,osl⟩/\PySem.W.codeIn K cdv qual=true
 kp:PySem.W.keepIn K (.ref f)=true
section
variable {P:Program} {w:World} {K:PySem.W.Frag} {mg:Str->Option Value} {base:Heap}
theorem Fun.binds {x qual:Str} {st:Stmt} {f:Addr} {ps:List Str} (F:Fun K x qual st f fd)
  (h:∀(kV doc pm:Value) (an:Option Addr) (cdv ct:Value) (us:List Value),us.length=ps.length->bindArgs (PySem.W.fnOf x qual (cY st) (bg st) (ax st) .none kV doc pm an cdv ct) ⟨us,[]⟩=pure (ps.zip us)):Binds K fd ps []:=by
 obtain ⟨oc,od,kV,doc,pm,an,cdv,ct,osl,rfl,lk,hcd⟩:=F.ex
 exact .all (h kV doc pm an cdv ct)
theorem CZ {x qual:Str} {st:Stmt} {f:Addr} {oc:Value} {od an:Option Addr} {osl:Array (Option Value)} {kV doc pm cdv ct:Value} (l:K.lookup f=some ⟨oc,od, .func (PySem.W.fnOf x qual (cY st) (bg st) (ax st) .none kV doc pm an cdv ct),osl⟩)
  (c:PySem.W.codeIn K cdv qual=true) (k:PySem.W.keepIn K (.ref f)=true):Fun K x qual st f (PySem.W.fnOf x qual (cY st) (bg st) (ax st) .none kV doc pm an cdv ct):=⟨⟨oc,od,kV,doc,pm,an,cdv,ct,osl,rfl,l,c⟩,k⟩
end
theorem fZ {n:Nat} (h:n<=1000):n<sizeLine:=Nat.lt_of_le_of_lt h (by decide)
section
variable {X:Cx}
end
theorem mF {A B:Prop} (h:B):if false=true then A else B:=by
 rw [if_neg Bool.false_ne_true]
 exact h
theorem mD {A B:Prop} (h:A):if true=true then A else B:=by
 rw [if_pos rfl]
 exact h
end L2
namespace L2.L3
open PySem PySem.Spec PyProof.Rows
section
variable {P:Program} {w:World} {H:Hp} {h:Heap} {a:Addr} {o:HO}
theorem vZ (x:aN P w H h a o):∃ob,h.get? a=some ob:=by
 cases o with
 |lst xs=>exact let ⟨_,_,_,_,e⟩:=x;⟨_,e⟩
 |tup xs=>exact let ⟨_,_,_,ob,e,_⟩:=x;⟨ob,e⟩
 |dK kvs=>exact let ⟨_,_,_,_,ob,_,_,e,_⟩:=x;⟨ob,e⟩
 |dT kvs=>exact let ⟨_,_,_,_,ob,_,_,e,_⟩:=x;⟨ob,e⟩
 |set S n=>exact let ⟨ob,_,_,_,e,_⟩:=x;⟨ob,e⟩
 |ins C dx fs=>exact let ⟨_,_,_,e,_⟩:=x;⟨_,e⟩
 |own y=>exact x
 |xd fs=>exact let ⟨_,⟨ob,_,_,e,_⟩,_⟩:=x;⟨ob,e⟩
 |rng lo hi=>exact let ⟨_,_,_,e⟩:=x;⟨_,e⟩
 |aC ob u=>exact ⟨ob,x.1⟩
 |tbl ps=>exact ⟨_,(show h.get? a=some _ from x)⟩
 |met f y=>exact ⟨_,(show h.get? a=some _ from x)⟩
 |ext φ=>exact x.2.1
theorem xu (x:bq P w H h) (e:h.get? a=none):H a=none:=by
 cases q:H a with
 |none=>rfl
 |some u=>
  obtain ⟨ob,z⟩:=vZ (x a u q)
  rw [e] at z
  cases z
end
noncomputable def wide (X:Cx) (ch:List Addr):Cx:={X with ex:=ch++X.ex}
section
variable {X:Cx} {pins:List (Addr×Obj)} {σ:St} {H H':Hp} {s s':Shared} {ch:List Addr}
theorem widen (I:Inv X pins σ H s) (hc:∀b∈ch,X.s₀.heap.get? b=none/\b≠X.env.locals/\(∀x c,X.env.cells.lookup x=some c->c≠b)/\b∉X.fs):Inv (wide X ch) pins σ H s:=by
 have ok:(wide X ch).Ok:=by
  refine ⟨I.ok.mod,I.ok.kind,I.ok.glob,I.ok.blt,I.ok.above,I.ok.inj,I.ok.has,I.ok.cab,I.ok.hd,I.ok.frames,I.ok.stk, ?_,I.ok.bs,I.ok.bsz, ?_, ?_,I.ok.cO,I.ok.frf⟩
  ·intro b hb
   rcases List.mem_append.mp hb with z|z
   ·exact ⟨(hc b z).2.1,(hc b z).2.2.1⟩
   ·exact I.ok.exf b z
  ·intro b o e hb
   rcases List.mem_append.mp hb with z|z
   ·have q:=(I.ok.bs b o e).1
    rw [(hc b z).1] at q
    cases q
   ·exact I.ok.noex b o e z
  ·intro b hb
   rcases List.mem_append.mp hb with z|z
   ·exact (hc b z).2.2.2
   ·exact I.ok.exfs b z
 have un:Un X.fs (ch++X.ex) X.H₀ H X.s₀.heap s.heap:=I.base.mono (fun _ z=>z) fun _ z=>List.mem_append_right _ z
 exact ⟨ok,I.os,I.bare,un,I.loc,I.cell,I.free,I.freeC,I.pin,I.ah,I.len⟩
theorem narrow (I:Inv (wide X ch) pins σ H s) (ok:X.Ok) (hc:∀b∈ch,X.s₀.heap.get? b=none):Inv X pins σ H s:=by
 have nc:∀b o,X.s₀.heap.get? b=some o->b∉X.ex->b∉ch++X.ex:=fun b o e nx z=>by
  rcases List.mem_append.mp z with z|z
  ·rw [hc b z] at e
   cases e
  ·exact nx z
 have B:Un X.fs (ch++X.ex) X.H₀ H X.s₀.heap s.heap:=I.base
 have un:Un X.fs X.ex X.H₀ H X.s₀.heap s.heap:=
  ⟨fun b o e n f x=>B.keep b o e n f (nc b o e x),fun b o e n f x=>B.slot b o e n f (nc b o e x),fun b o e n x=>B.free b o e n (nc b o e x),fun b o e x=>B.there b o e (nc b o e x),B.tups,B.aV,B.tbls⟩
 exact ⟨ok,I.os,I.bare,un,I.loc,I.cell,I.free,I.freeC,I.pin,I.ah,I.len⟩
theorem Aq (I:Inv X pins σ H s) (ho:s'.os=s.os) (u:Un (cA X.stack) ch H H' s.heap s'.heap) (ah:bq X.prog X.w H' s'.heap) (hg:AllBare s'.gens)
  (hc:∀b∈ch,X.s₀.heap.get? b=none/\b≠X.env.locals/\(∀x c,X.env.cells.lookup x=some c->c≠b)/\b∉X.fs/\∀p∈X.pn++pins,p.1≠b):Inv X pins σ H' s':=by
 have J:Inv (wide X ch) pins σ H s:=widen I fun b hb=>⟨(hc b hb).1,(hc b hb).2.1,(hc b hb).2.2.1,(hc b hb).2.2.2.1⟩
 have J':Inv (wide X ch) pins σ H' s':=J.tj (ch:=ch) ho u ah hg fun b hb=>⟨.inl (List.mem_append_left _ hb),(hc b hb).2.1,(hc b hb).2.2.1,(hc b hb).2.2.2.2⟩
 exact narrow J' I.ok fun b hb=>(hc b hb).1
theorem lF {a:Addr} {o:HO} (I:Inv X pins σ H s) (hn:H a=none) (hy:X.s₀.heap.get? a=none) (h1:a≠X.env.locals) (h2:∀x c,X.env.cells.lookup x=some c->c≠a) (h3:∀p∈X.pn++pins,p.1≠a)
  (new:aN X.prog X.w (upd H a o) s.heap a o):Inv X pins σ (upd H a o) s:=by
 have ne:∀b u,X.s₀.heap.get? b=some u->b≠a:=fun b u e z=>by
  rw [z,hy] at e
  cases e
 have up:∀b u,H b=some u->upd H a o b=some u:=fun b u q=>by
  rw [ao (bj q hn)]
  exact q
 have un:Un X.fs X.ex X.H₀ (upd H a o) X.s₀.heap s.heap:=by
  refine ⟨I.base.keep,I.base.slot,fun b u e n x=> ?_,I.base.there,fun b xs q=>up _ _ (I.base.tups b xs q),fun b u v q=>up _ _ (I.base.aV b u v q),fun b ps q=> ?_⟩
  ·rw [ao (ne b u e)]
   exact I.base.free b u e n x
  ·obtain ⟨more,z⟩:=I.base.tbls b ps q
   exact ⟨more,up _ _ z⟩
 refine ⟨I.ok,I.os,I.bare,un,I.loc,I.cell, ?_,fun x c e=> ?_,fun p hp=> ?_,fun b u e=> ?_,I.len⟩
 ·rw [ao h1.symm]
  exact I.free
 ·rw [ao (h2 x c e)]
  exact I.freeC x c e
 ·obtain ⟨p1,p2,p3⟩:=I.pin p hp
  exact ⟨p1,by rw [ao (h3 p hp)];exact p2,p3⟩
 ·by_cases hb:b=a
  ·subst hb
   rw [aj] at e
   cases e
   exact new
  ·rw [ao hb] at e
   exact (I.ah b u e).ij (fun _ _ _ q=>q) (fun c q=>up _ _ q) fun c xs q=>up _ _ q
theorem qS {b:Addr} {o:Obj} {vs:Array Value} (I:Inv X pins σ H s) (e:s.heap.get? b=some o) (d:o.data= .fields vs):
  b≠X.env.locals/\(∀x c,X.env.cells.lookup x=some c->c≠b)/\b∉X.fs/\b∉cA X.stack:=by
 refine ⟨fun z=> ?_,fun x c q z=> ?_,fun z=> ?_,fun z=> ?_⟩
 ·obtain ⟨m,⟨o',es,ep,ho,hd,_⟩,_⟩:=I.loc
  rw [z,ho] at e
  cases e
  rw [hd] at d
  cases d
 ·obtain ⟨v,o',ho,hd⟩:=I.cell x c q
  rw [z,e] at ho
  cases ho
  rw [d] at hd
  cases hd
 ·obtain ⟨_,o',ho,hd⟩:=I.cO.mem z
  rw [e] at ho
  cases ho
  exact hd vs d
 ·obtain ⟨_,o',ho,hd⟩:=I.stack.mem z
  rw [e] at ho
  cases ho
  exact hd vs d
end
noncomputable def ExcAt (h:Heap) (e:Addr) (cls:Value) (dx:Option Addr) (tb:Option (Addr×Value)):Prop:=
 ∃oe vs,h.get? e=some oe/\oe.cls=cls/\oe.dict=dx/\oe.data= .fields vs/\1<vs.size/\
  match tb with
  |none=>vs[1]?=some .none
  |some p=>vs[1]?=some (.ref p.1)/\p.1≠e/\∃oT ts,h.get? p.1=some oT/\oT.data= .fields ts/\ts[3]?=some p.2
theorem me (o:Obj) (f:Array Value->Array Value):(o.mapFields f).dict=o.dict:=by
 obtain ⟨c,d,dt,sl⟩:=o
 cases dt<;>rfl
theorem oo {e:Value} {a b:Env} (q:a.frame=b.frame):noteFrame e a=noteFrame e b:=by
 unfold noteFrame PySem.frameOf
 rw [q]
structure Moved (fs ch:List Addr) (h h':Heap):Prop where
 keep:∀b o,b∉fs->b∉ch->h.get? b=some o->h'.get? b=some o
 slot:∀b o,b∉ch->h.get? b=some o->∃sl,h'.get? b=some {o with slots:=sl}
theorem Moved.refl {fs:List Addr} (h:Heap):Moved fs ch h h:=⟨fun _ _ _ _ e=>e,fun _ o _ e=>⟨o.slots,e⟩⟩
theorem Moved.trans {fs:List Addr} (x:Moved fs ch h h1) (y:Moved fs ch h1 h2):Moved fs ch h h2:=
 ⟨fun b o f c e=>y.keep b o f c (x.keep b o f c e),fun b o c e=>let ⟨_,e1⟩:=x.slot b o c e;let ⟨sl,e2⟩:=y.slot b _ c e1;⟨sl,e2⟩⟩
theorem Moved.mono {fs ch:List Addr} (x:Moved fs ch h h') (k:∀b∈ch,b∈ch'):Moved fs ch' h h':=
 ⟨fun b o f c e=>x.keep b o f (fun z=>c (k b z)) e,fun b o c e=>x.slot b o (fun z=>c (k b z)) e⟩
theorem Moved.un {fs:List Addr} {H:Hp} (x:Moved fs ch h h'):Un fs ch H H h h':=
 ⟨fun b o e _ f c=>x.keep b o f c e,fun b o e _ _ c=>x.slot b o c e,fun _ _ _ n _=>n,fun b o e c=>let ⟨sl,z⟩:=x.slot b o c e;⟨_,z⟩,fun _ _ q=>q,fun _ _ _ q=>q,fun _ ps q=>⟨#[],by rw [q];simp⟩⟩
theorem Moved.ah {fs ch:List Addr} {P:Program} {w:World} {H:Hp} (x:Moved fs ch h h') (k:bq P w H h) (hf:∀b∈fs,H b=none) (hc:∀b∈ch,H b=none):bq P w H h':=fun a o e=>by
 have nn:∀b u,H b=some u->b∉fs/\b∉ch:=fun b u q=>⟨fun z=>(by rw [hf b z] at q;cases q),fun z=>(by rw [hc b z] at q;cases q)⟩
 refine (k a o e).ij (fun b u hb q=> ?_) (fun _ q=>q) fun _ _ q=>q
 rcases hb with rfl|hb
 ·exact x.keep b u (nn b _ e).1 (nn b _ e).2 q
 ·exact x.keep b u (nn b _ hb).1 (nn b _ hb).2 q
section
variable {M:Model} {A:Around} {E:Value->Shared->Prop} {s:Shared} {F env:Env} {rest:List Env} {L e:Addr} {bs:Heap} {oe:Obj} {vs:Array Value} {head:Value} {Q:Unit->Shared->Prop}
theorem xk {had:Bool} (hA:A.frames=some (F::rest)) (hF:F.frame=some L) (hl:s.heap.FunFrames bs (F::rest)) (he:s.heap.get? e=some oe) (hd:oe.data= .fields vs) (hz:1<vs.size)
  (h:∀h' T,Moved (cA (F::rest)) [e] s.heap h'->s.heap.get? T=none->h'.get? e=some (oe.mapFields (·.setIfInBounds 1 (.ref T)))->
   (∃oT ts,h'.get? T=some oT/\oT.data= .fields ts/\ts[3]?=some (rawInt L))->Q () {s with heap:=h'}):
  wpAny M A (do let a←PySem.frameOf F;let pl←entryPlaceOf L had;let b←EntryCells.newEntry head a .none (rawInt L) .none pl;setField (.ref e) 1 b) Q E s:=by
 have ne:e∉cA (F::rest):=fun z=>by
  obtain ⟨_,o',q,nf⟩:=hl.mem z
  rw [he] at q
  cases q
  exact nf vs hd
 refine wpAny_bind (wpAny_frameOf_fun hA hl hF fun g1 so=> ?_)
 have e1:g1.get? e=some oe:=(so.2.1 e ne).trans he
 refine wpAny_bind (wpAny_entryPlaceOf fun pl ip=> ?_)
 unfold EntryCells.newEntry newFields
 refine wpAny_bind (wpAny_newObj_type ?_ (ip.sizeOk5 _ _ _ _ _))
 generalize hob:({cls:= .type "traceback",dict:=none,data:= .fields ([head, .ref L, .none,rawInt L, .none]++(if pl.isEmpty then List.replicate 6 Value.none else pl)).toArray}:Obj)=ob
 have obd:∃ts,ob.data= .fields ts/\ts[3]?=some (rawInt L):=by
  rw [←hob]
  exact ⟨_,rfl,by simp⟩
 obtain ⟨ts,od,o3⟩:=obd
 have e2:=Heap.get?_push_of_some (h:=g1) ob e1
 refine wpAny_setField e2 hd hz ?_
 have nT:g1.objs.size≠e:=Nat.ne_of_gt (Heap.lt_size e1)
 have dd:=Obj.data_mapFields hd (·.setIfInBounds 1 (Value.ref g1.objs.size))
 have oth:∀b o,b≠e->g1.get? b=some o->((g1.push ob).update e (Obj.mapFields (·.setIfInBounds 1 (Value.ref g1.objs.size)))).get? b=some o:=fun b o nb q=>by
  rw [Heap.get?_update_other _ _ (Ne.symm nb)]
  exact Heap.get?_push_of_some _ q
 refine h _ g1.objs.size ⟨fun b o f c q=> ?_,fun b o c q=> ?_⟩ (Heap.get?_none_of_le (by rw [so.1];exact Nat.le_refl _)) (Heap.get?_update_self _ e2 (Obj.isFreed_of_fields dd)) ⟨ob,ts, ?_,od,o3⟩
 ·exact oth b o (by simpa using c) ((so.2.1 b f).trans q)
 ·obtain ⟨sl,z⟩:=so.2.2 b o q
  exact ⟨sl,oth b _ (by simpa using c) z⟩
 ·rw [Heap.get?_update_other _ _ (Ne.symm nT)]
  refine Heap.get?_push_size g1 ?_
  rw [←hob]
  rfl
theorem BA {cls:Value} {dx:Option Addr} {tb:Option (Addr×Value)} (hA:A.frames=some (F::rest)) (hF:F.frame=some L) (hv:env.frame=some L) (hl:s.heap.FunFrames bs (F::rest)) (x:ExcAt s.heap e cls dx tb)
  (h:∀h' T,Moved (cA (F::rest)) (e::(tb.map (·.1)).toList) s.heap h'->(s.heap.get? T=none∨tb.map (·.1)=some T)->ExcAt h' e cls dx (some (T,rawInt L))->Q () {s with heap:=h'}):
  wpAny M A (noteFrame (.ref e) env) Q E s:=by
 rw [oo (hv.trans hF.symm)]
 obtain ⟨oe,vs,he,hc,hx,hd,hz,x⟩:=x
 have tail:∀(s1:Shared) (head:Value) (had:Bool),s1={s with heap:=s1.heap}->Moved (cA (F::rest)) (e::(tb.map (·.1)).toList) s.heap s1.heap->(∀b,s1.heap.get? b=none->s.heap.get? b=none)->s1.heap.FunFrames bs (F::rest)->s1.heap.get? e=some oe->
   wpAny M A (do let a←PySem.frameOf F;let pl←entryPlaceOf L had;let b←EntryCells.newEntry head a .none (rawInt L) .none pl;setField (.ref e) 1 b) Q E s1:=by
  intro s1 head had es mv new hl1 he1
  refine xk hA hF hl1 he1 hd hz fun h' T m1 nT e1 z905=> ?_;obtain ⟨oT,ts,q1,q2,q3⟩:=z905
  have dd:=Obj.data_mapFields hd (·.setIfInBounds 1 (Value.ref T))
  have r:Q () {s with heap:=h'}:=by
   refine h h' T (mv.trans (m1.mono fun b hb=>by simp only [List.mem_singleton] at hb;simp [hb])) (.inl (new T nT)) ⟨_,_,e1,(Obj.cls_mapFields _ _).trans hc,(me _ _).trans hx,dd,by simpa using hz,by simp [hz], ?_,oT,ts,q1,q2,q3⟩
   rintro rfl
   rw [he1] at nT
   cases nT
  rw [es]
  exact r
 unfold noteFrame
 simp only [hF]
 cases tb with
 |none=>
  refine wpAny_bind (wpAny_field he hd x ?_)
  rw [if_neg (by decide)]
  exact tail s .none _ rfl (Moved.refl _) (fun _ q=>q) hl he
 |some p=>
  obtain ⟨T,fl⟩:=p
  obtain ⟨x1,x2,oT,ts,x3,x4,x5⟩:=x
  refine wpAny_bind (wpAny_field he hd x1 ?_)
  rw [if_pos (show (Value.ref T !=Value.none)=true from by simp)]
  refine wpAny_bind (wpAny_field x3 x4 x5 ?_)
  by_cases z:(fl==rawInt L)=true
  rotate_left
  ·rw [if_neg z]
   refine wpAny_bind (wpAny_setField x3 x4 (Array.getElem?_eq_some_iff.mp x5).1 ?_)
   have oth:∀b,b≠T->(s.heap.update T (Obj.mapFields (·.setIfInBounds 3 Value.none))).get? b=s.heap.get? b:=fun b hb=>Heap.get?_update_other _ _ (Ne.symm hb)
   have tT:=Heap.get?_update_self (Obj.mapFields (·.setIfInBounds 3 Value.none)) x3 (Obj.isFreed_of_fields (Obj.data_mapFields x4 _))
   refine tail {s with heap:=s.heap.update T (Obj.mapFields (·.setIfInBounds 3 Value.none))} (.ref T) _ rfl ⟨fun b o f c q=> ?_,fun b o c q=> ?_⟩ (fun b q=> ?_) ?_ ((oth e (Ne.symm x2)).trans he)
   ·exact (oth b (fun z=>c (by simp [z]))).trans q
   ·exact ⟨o.slots,(oth b (fun z=>c (by simp [z]))).trans q⟩
   ·by_cases hb:b=T
    ·subst hb
     have q':(s.heap.update b (Obj.mapFields (·.setIfInBounds 3 Value.none))).get? b=none:=q
     rw [tT] at q'
     cases q'
    ·exact (oth b hb).symm.trans q
   ·refine hl.of_keeps fun b o q nf=>⟨o,(oth b fun z=> ?_).trans q,rfl⟩
    rw [z,x3] at q
    cases q
    exact nf ts x4
  ·obtain rfl:fl=rawInt L:=beq_iff_eq.mp z
   rw [if_pos (show (rawInt L==rawInt L)=true from beq_self_eq_true _)]
   exact wpAny_pure (h s.heap T (Moved.refl _) (.inr rfl) ⟨oe,vs,he,hc,hx,hd,hz,x1,x2,oT,ts,x3,x4,x5⟩)
theorem wx {cls:Value} {dx:Option Addr} {T:Addr} {fl:Value} {fr:Option Addr} (x:ExcAt s.heap e cls dx (some (T,fl)))
  (h:∀h',Moved [] [T] s.heap h'->ExcAt h' e cls dx (some (T,fr.elim .none fun f=>rawInt f))->Q () {s with heap:=h'}):wpAny M A (setFlight (.ref e) fr) Q E s:=by
 obtain ⟨oe,vs,he,hc,hx,hd,hz,x1,x2,oT,ts,x3,x4,x5⟩:=x
 have z3:=(Array.getElem?_eq_some_iff.mp x5).1
 unfold setFlight
 refine wpAny_bind (wpAny_field he hd x1 ?_)
 rw [if_pos (show (Value.ref T !=Value.none)=true from by simp)]
 refine wpAny_setField x3 x4 z3 ?_
 have oth:∀b,b≠T->(s.heap.update T (Obj.mapFields (·.setIfInBounds 3 (fr.elim Value.none fun f=>rawInt f)))).get? b=s.heap.get? b:=fun b hb=>Heap.get?_update_other _ _ (Ne.symm hb)
 have dd:=Obj.data_mapFields x4 (·.setIfInBounds 3 (fr.elim Value.none fun f=>rawInt f))
 refine h _ ⟨fun b o _ c q=>(oth b (by simpa using c)).trans q,fun b o c q=>⟨o.slots,(oth b (by simpa using c)).trans q⟩⟩ ⟨oe,vs,(oth e (Ne.symm x2)).trans he,hc,hx,hd,hz,x1,x2,_,_,Heap.get?_update_self _ x3 (Obj.isFreed_of_fields dd),dd,by simp [z3]⟩
end
end L2.L3
namespace L2.L3
open PySem PySem.Spec PyProof.Rows
structure Young (X:Cx) (H:Hp) (b:Addr):Prop where
 new:X.s₀.heap.get? b=none
 npn:∀p∈X.pn,p.1≠b
 free:H b=none
noncomputable def cc (X:Cx):Prop:=∀b∈X.ex,∃o,(b,o)∈X.pn
noncomputable def Framed (X:Cx):Prop:=∃(F:Env) (rest:List Env) (L:Addr),X.stack=F::rest/\F.frame=some L/\X.env.frame=some L
noncomputable def lR (X:Cx) (E:XK) (mk:Option (Addr×Value)->Prop):Value->Shared->Prop:=fun e s=>
 ∃(σ:St) (H:Hp) (ea:Addr) (cls:Value) (dx:Option Addr) (tb:Option (Addr×Value)),e= .ref ea/\Inv X.nR [] σ H s/\ExcAt s.heap ea cls dx tb/\Young X H ea/\
  (∀p,tb=some p->Young X H p.1)/\mk tb/\E cls dx H
noncomputable abbrev XE (X:Cx) (E:XK):Value->Shared->Prop:=lR X E fun _=>True
noncomputable abbrev XT (X:Cx) (E:XK):Value->Shared->Prop:=lR X E fun tb=>∃p,tb=some p
noncomputable abbrev XL (X:Cx) (E:XK):Value->Shared->Prop:=lR X E fun tb=>∃T,tb=some (T, .none)
section
variable {X:Cx} {pins:List (Addr×Obj)} {σ:St} {H:Hp} {s s':Shared} {E:XK} {e:Value}
theorem nQ {ch:List Addr} (I:Inv X pins σ H s) (m:Moved (cA X.stack) ch s.heap h')
  (hc:∀b∈ch,X.s₀.heap.get? b=none/\(∀p∈X.pn++pins,p.1≠b)/\H b=none/\∃o vs,s.heap.get? b=some o/\o.data= .fields vs):Inv X pins σ H {s with heap:=h'}:=by
 refine Aq (s':={s with heap:=h'}) I rfl m.un (m.ah I.ah I.jD fun b hb=>(hc b hb).2.2.1) I.bare fun b hb=> ?_
 obtain ⟨h1,h2,h3,o,vs,h4,h5⟩:=hc b hb
 obtain ⟨r1,r2,r3,_⟩:=qS I h4 h5
 exact ⟨h1,r1,r2,r3,h2⟩
theorem kR (hx:cc X) (I:Inv X pins σ H s) {T:Addr} (n:s.heap.get? T=none):X.s₀.heap.get? T=none/\(∀p∈X.pn,p.1≠T)/\H T=none:=by
 have pn:∀p∈X.pn,p.1≠T:=fun p hp z=>by
  have q:=(I.pin p (List.mem_append_left _ hp)).1
  rw [z,n] at q
  cases q
 refine ⟨?_,pn,xu I.ah n⟩
 cases q:X.s₀.heap.get? T with
 |none=>rfl
 |some o=>
  exfalso
  by_cases hb:T∈X.ex
  ·obtain ⟨o',m⟩:=hx T hb
   exact pn _ m rfl
  ·obtain ⟨o',z⟩:=I.base.there T o q hb
   rw [n] at z
   cases z
theorem gu {h:Heap} {cls:Value} {dx:Option Addr} {tb:Option (Addr×Value)} (x:ExcAt h ea cls dx tb):(∃o vs,h.get? ea=some o/\o.data= .fields vs)/\∀p,tb=some p->∃o vs,h.get? p.1=some o/\o.data= .fields vs:=by
 obtain ⟨oe,vs,he,_,_,hd,_,x⟩:=x
 refine ⟨⟨oe,vs,he,hd⟩,fun p hp=> ?_⟩
 subst hp
 obtain ⟨_,_,oT,ts,q1,q2,_⟩:=x
 exact ⟨oT,ts,q1,q2⟩
end
noncomputable def cJ (P:Program) (w:World):jX:=fun outer H s E e s'=>
 ∃(ea:Addr) (cls:Value) (dx:Option Addr) (T:Addr) (H':Hp),e= .ref ea/\s'.os=s.os/\AllBare s'.gens/\Un (cA outer) [] H H' s.heap s'.heap/\bq P w H' s'.heap/\ExcAt s'.heap ea cls dx (some (T, .none))/\
  s.heap.get? ea=none/\s.heap.get? T=none/\H' ea=none/\H' T=none/\E cls dx H'
end L2.L3
namespace L2.L3
open PySem PySem.Spec PyProof.Rows
noncomputable def a7 (env:Env):List (Str×NameKind)->List (Str×Addr)->List (Str×Addr)
 |[],cs=>cs
 |(n,k)::r,cs=>a7 env r (if k== .free then (n,(env.cells.lookup n).getD 0)::cs else cs)
theorem iD {scope:Scope} {env:Env} (h:∀x∈scope.names,x.2= .free->∃c,env.cells.lookup x.1=some c):closureFor scope env=pure (a7 env scope.names []):=by
 simp only [closureFor]
 generalize scope.names=l at h⊢
 generalize ([]:List (Str×Addr))=cs
 induction l generalizing cs with
 |nil=>rfl
 |cons x r ih=>
  obtain ⟨n,k⟩:=x
  rw [List.forIn_cons]
  have hr:=fun y hy=>h y (List.mem_cons_of_mem _ hy)
  by_cases hk:k= .free
  ·subst hk
   obtain ⟨c,hc⟩:=h (n, .free) List.mem_cons_self rfl
   have hc':List.lookup n env.cells=some c:=hc
   have e:cellOf env n=pure c:=by
    unfold cellOf
    rw [hc']
   have q:=ih hr ((n,c)::cs)
   show (((cellOf env n>>=fun d=>pure (ForInStep.yield ((n,d)::cs)))>>=_)>>=_)=pure (a7 env r ((n,(List.lookup n env.cells).getD 0)::cs))
   rw [e,hc']
   exact q
  ·have hb:(k==NameKind.free)=false:=by simpa using hk
   have q:=ih hr cs
   show ((((if (k==NameKind.free)=true then _ else _):Sem _)>>=_)>>=_)=pure (a7 env r (if (k==NameKind.free)=true then _ else cs))
   rw [hb]
   exact q
theorem lC {env:Env} {x:Str} {c:Addr}:∀(l:List (Str×NameKind)) (cs:List (Str×Addr)),(∀y∈l,y.2= .free->∃d,env.cells.lookup y.1=some d)->(∀y d,cs.lookup y=some d->env.cells.lookup y=some d)->(a7 env l cs).lookup x=some c->env.cells.lookup x=some c
 |[],cs,_,k,e=>k x c e
 |(n,q)::r,cs,h,k,e=>by
  refine lC r _ (fun y hy=>h y (List.mem_cons_of_mem _ hy)) (fun y d hd=> ?_) e
  split at hd
  ·rename_i hq
   rw [List.lookup_cons] at hd
   split at hd
   ·rename_i hy
    obtain ⟨d',hd'⟩:=h (n,q) List.mem_cons_self (by simpa using hq)
    have hd'':List.lookup n env.cells=some d':=hd'
    rw [hd''] at hd
    cases hd
    rw [beq_iff_eq.mp hy]
    exact hd''
   ·exact k y d hd
  ·exact k y d hd
theorem jc {env:Env} {x:Str}:∀(l:List (Str×NameKind)) (cs:List (Str×Addr)),((x,NameKind.free)∈l∨(cs.lookup x).isSome=true)->((a7 env l cs).lookup x).isSome=true
 |[],cs,h=>h.elim (fun z=>by cases z) fun z=>z
 |(n,q)::r,cs,h=>by
  refine jc r _ ?_
  rcases h with h|h
  ·rcases List.mem_cons.mp h with e|h
   ·cases e
    right
    simp
   ·exact .inl h
  ·right
   split
   ·rw [List.lookup_cons]
    split
    ·rfl
    ·exact h
   ·exact h
theorem fK {env:Env} {x:Str}:∀(l:List (Str×NameKind)),(l.map fun (n,k)=>if (k==NameKind.free&&env.scope.kind== .function&&env.kindOf n==some .cell) then (n,NameKind.cell) else (n,k)).lookup x=
  (l.lookup x).map fun k=>if (k==NameKind.free&&env.scope.kind== .function&&env.kindOf x==some .cell) then NameKind.cell else k
 |[]=>rfl
 |(n,k)::r=>by
  have ih:=fK (env:=env) (x:=x) r
  show List.lookup x ((if (k==NameKind.free&&env.scope.kind== .function&&env.kindOf n==some .cell)=true then (n,NameKind.cell) else (n,k))::_)=_
  cases hx:x==n with
  |true=>
   have e:x=n:=beq_iff_eq.mp hx
   subst e
   by_cases hc:(k==NameKind.free&&env.scope.kind== .function&&env.kindOf x==some .cell)=true
   ·rw [if_pos hc,List.lookup_cons,List.lookup_cons]
    simp only [hx]
    show some NameKind.cell=some (if (k==NameKind.free&&env.scope.kind== .function&&env.kindOf x==some .cell)=true then NameKind.cell else k)
    rw [if_pos hc]
   ·rw [if_neg hc,List.lookup_cons,List.lookup_cons]
    simp only [hx]
    show some k=some (if (k==NameKind.free&&env.scope.kind== .function&&env.kindOf x==some .cell)=true then NameKind.cell else k)
    rw [if_neg hc]
  |false=>
   by_cases hc:(k==NameKind.free&&env.scope.kind== .function&&env.kindOf n==some .cell)=true
   ·rw [if_pos hc]
    simp only [List.lookup_cons,hx]
    exact ih
   ·rw [if_neg hc]
    simp only [List.lookup_cons,hx]
    exact ih
structure BlockOk (S sc:Scope):Prop where
 kind:sc.kind= .function
 cell:∀y∈sc.names,y.2≠ .cell
 names:∀y∈sc.names,y.2= .local->sc.names.lookup y.1=some .local
 free:∀y∈sc.names,y.2= .free->S.names.lookup y.1=some .cell∨S.names.lookup y.1=some .free
noncomputable def zP (X:Cx) (ws:List Str) (caps:List Nat) (sc:Scope) (C:Addr) (fp:List Addr) (pn:List (Addr×Obj)) (s:Shared) (H:Hp):Cx:=
 {X with
  N:=ws++caps.map fun i=>X.N.getD i Str.empty
  s₀:=s
  H₀:=H
  env:=compEnvC sc (a7 X.env sc.names []) C X.env
  outer:=X.stack
  ex:=fp
  fn:=fun _=>false
  pn:=pn
  xe:=fun _ _=>False}
noncomputable def stC (ws:List Str) (caps:List Nat) (σ:St):St:=ws.map (fun _=>none)++caps.map fun i=>(σ[i]?).getD none
section
variable {X:Cx} {pins:List (Addr×Obj)} {σ:St} {H:Hp} {s:Shared} {ws:List Str} {caps:List Nat} {sc:Scope} {C:Addr} {fp:List Addr} {pn:List (Addr×Obj)}
theorem qC (I:Inv X pins σ H s) {b:Addr} (f:ck X pins H b):b∉cA X.stack:=fun z=>by
 obtain ⟨_,f1,f2,_⟩:=f
 rcases List.mem_cons.mp (I.qA b z) with q|q
 ·exact f1 q
 ·exact f2 q
end
end L2.L3
namespace L2.L3
open PySem PySem.Spec PyProof.Rows
noncomputable def jV (X:Cx) (ifs:List Expr) (t:TT):Prop:=
 ∀(pins:List (Addr×Obj)) (s:Shared) (σ:St) (H:Hp) (Q:Bool->Hp->Prop),Inv X pins σ H s->t σ H Q->
  wpAny (model X.prog X.w) X.A (forIn ifs true fun c r=>if r=true then do let ok←isTrue c X.env (eval c X.env);pure (ForInStep.yield ok) else pure (ForInStep.yield r)) (TP X pins σ Q) X.xe s
noncomputable def Hx:TT:=fun _ H Q=>Q true H
theorem Bo {X:Cx}:jV X [] Hx:=fun pins s σ H Q I h=>wpAny_pure (show TP X pins σ Q true s from ⟨H,I,h⟩)
theorem BI {X:Cx} {c:Expr} {t:TT} (hc:PT X c t):jV X [c] t:=fun pins s σ H Q I h=>wpAny_tests_one (hc pins s σ H Q I h)
section
variable {prog:Program} {w:World} {A:Around} {R:Result->Shared->Prop} {s:Shared}
theorem vJ {it acc:Value} {env:Env} (J:Nat->Shared->Prop)
  (turn:∀n s,J n s->wpAny (model prog w) A (pyNext it) (fun r s1=>match r with
   |none=>R (.ok .next) s1
   |some v=>wpAny (model prog w) A (letOwnedTupleGo tg it v) (fun _ s2=>wpAny (model prog w) A (assign tg env v) (fun _ s3=>
    wpAny (model prog w) A (forIn ifs true fun c r=>if r=true then do let ok←isTrue c env (eval c env);pure (ForInStep.yield ok) else pure (ForInStep.yield r)) (fun ok s4=>
     if ok=true then wpAny (model prog w) A (eval elt env) (fun x s5=>
      wpAny (model prog w) A (call (.builtin "list.append") [acc,x]) (fun _ s6=>∃m,m<n/\J m s6) (notedBy (model prog w) A env fun e s'=>R (.error e) s') s5) (notedBy (model prog w) A env fun e s'=>R (.error e) s') s4
     else∃m,m<n/\J m s4) (notedBy (model prog w) A env fun e s'=>R (.error e) s') s3) (notedBy (model prog w) A env fun e s'=>R (.error e) s') s2) (notedBy (model prog w) A env fun e s'=>R (.error e) s') s1)
   (notedBy (model prog w) A env fun e s'=>R (.error e) s') s)
  (n:Nat) (h:J n s):codeAny (model prog w) A (.compLoop (.ListComp elt [⟨tg,iter,ifs,0⟩] sc pos) 0 it acc env) R s:=by
 refine codeAny_loop rfl J (fun n s hJ=> ?_) n h
 show wpAny _ A ((compTurn (.ListComp elt [⟨tg,iter,ifs,0⟩] sc pos) 0 it acc env).onRaise (fun x=>do noteFrame x env;theTreesLotGoes x)) _ _ s
 refine wpAny_noted ?_
 rw [compTurn_list]
 refine wpAny_bind (wpAny_standAt (wpAny_bind (ay (turn n s hJ) fun r s1 q1=> ?_)))
 cases r with
 |none=>exact wpAny_pure q1
 |some v=>
  refine wpAny_bind (ay q1 fun _ s2 q2=>wpAny_bind (ay q2 fun _ s3 q3=>wpAny_bind (ay q3 fun ok s4 q4=> ?_)))
  cases ok with
  |false=>exact wpAny_pure ⟨rfl,q4⟩
  |true=>exact wpAny_bind (wpAny_bind (ay q4 fun x s5 q5=>wpAny_bind (ay q5 fun _ s6 q6=>wpAny_pure (wpAny_pure ⟨rfl,q6⟩))))
end
noncomputable def DP (X:Cx) (pn:List (Addr×Obj)):Cx:={X with pn:=pn}
section
variable {X:Cx} {pins:List (Addr×Obj)} {σ:St} {H:Hp} {s:Shared}
theorem B0 (ok:X.Ok) (pn:List (Addr×Obj)):(DP X pn).Ok:=
 ⟨ok.mod,ok.kind,ok.glob,ok.blt,ok.above,ok.inj,ok.has,ok.cab,ok.hd,ok.frames,ok.stk,ok.exf,ok.bs,ok.bsz,ok.noex,ok.exfs,ok.cO,ok.frf⟩
theorem qE {qn q:List (Addr×Obj)} (I:Inv X pins σ H s) (k:∀p∈qn++q,p∈X.pn++pins):Inv (DP X qn) q σ H s:=
 ⟨B0 I.ok qn,I.os,I.bare,I.base,I.loc,I.cell,I.free,I.freeC,fun p hp=>I.pin p (k p hp),I.ah,I.len⟩
theorem AN {a:Addr} {xs:List V} (I:Inv X pins σ (upd H a (.lst xs)) s) (hn:H a=none):Inv X pins σ H s:=by
 have dn:∀b u,upd H a (.lst xs) b=some u->(∀ys,u≠ .lst ys)->H b=some u:=fun b u q nl=>by
  by_cases hb:b=a
  ·subst hb
   rw [aj] at q
   cases q
   exact absurd rfl (nl xs)
  ·rw [ao hb] at q
   exact q
 have fn:∀b,upd H a (.lst xs) b=none->H b=none:=fun b q=>by
  by_cases hb:b=a
  ·rw [hb]
   exact hn
  ·rw [ao hb] at q
   exact q
 refine ⟨I.ok,I.os,I.bare,⟨I.base.keep,I.base.slot,fun b o e n x=>fn b (I.base.free b o e n x),I.base.there,fun b ys q=>dn b _ (I.base.tups b ys q) fun _ z=>(by cases z),fun b o u q=>dn b _ (I.base.aV b o u q) fun _ z=>(by cases z),fun b ps q=> ?_⟩,
  I.loc,I.cell,fn _ I.free,fun x c e=>fn c (I.freeC x c e),fun p hp=> ?_,fun b u e=> ?_,I.len⟩
 ·obtain ⟨more,z⟩:=I.base.tbls b ps q
  exact ⟨more,dn b _ z fun _ z=>by cases z⟩
 ·obtain ⟨p1,p2,p3⟩:=I.pin p hp
  exact ⟨p1,fn _ p2,p3⟩
 ·have hb:b≠a:=fun z=>by
   rw [z,hn] at e
   cases e
  have e':upd H a (.lst xs) b=some u:=by
   rw [ao hb]
   exact e
  exact (I.ah b u e').ij (fun _ _ _ q=>q) (fun c q=>dn c _ q fun _ z=>(by cases z)) fun c ys q=>dn c _ q fun _ z=>(by cases z)
end
noncomputable def runC (g:TG) (tt:TT) (te:TE) (J:It) (σ:St) (H:Hp) (Z:List V->Hp->Prop):Prop:=
 ∃W:Nat->Nat->List V->St->Hp->Prop,(∃m,W 0 m [] σ H)/\∀i m ys σ H,W i m ys σ H->
  (J.stop i H/\Z ys H)∨(J.go i H/\∃N:List V->St->Hp->Prop,(∀ys' σ' H',N ys' σ' H'->∃m',m'<m/\W (i+1) m' ys' σ' H')/\∀x H2,J.yld i H x H2->g x σ H2 fun σ3 H3=>tt σ3 H3 fun ok H4=>
   if ok=true then te σ3 H4 fun v H5=>ys.length<sizeLine/\N (ys++[v]) σ3 H5 else N ys σ3 H4)
noncomputable def lobj (its:List Value) (n:Nat):Obj:={cls:= .type "list",data:= .seq its.toArray n}
section
variable {X:Cx} {E:XK} {pins:List (Addr×Obj)} {σ:St} {H:Hp} {s:Shared} {ws:List Str} {caps:List Nat} {sc:Scope} {tg iter elt:Expr} {ifs:List Expr} {pos:Pos} {g:TG} {tt:TT} {te:TE} {it:Addr} {fp:List Addr} {tn:Nat->Heap->Prop} {J:It} {Z:List V->Hp->Prop}
 {RR:Value->Addr->Result->Shared->Prop} {E':Value->Shared->Prop}
end
section
variable {K:PySem.W.Frag} {a:Addr} {xs:List V} {g:TG} {tt:TT} {te:TE} {σ:St} {H:Hp} {Z:List V->Hp->Prop}
end
end L2.L3
namespace L2.L3
open PySem PySem.Spec PyProof.Rows
noncomputable def zQ (ws:List Str) (caps:List Nat) (wi:TI) (g:TG) (tt:TT) (te:TE):TE:=fun σ H Q=>wi σ H fun J H1=>runC g tt te J (stC ws caps σ) H1 fun ys H'=>∀D,H' D=none->Q (.ref D) (upd H' D (.lst ys))
noncomputable def z9 (i:Nat) (ws:List Str) (caps:List Nat) (wi:TI) (g:TG) (tt:TT) (te:TE):TS:=fun D σ H=>wi σ H fun J H1=>runC g tt te J (stC ws caps σ) H1 fun ys H'=>∀a,H' a=none->D.nx (σ.set i (some (.ref a))) (upd H' a (.lst ys))
section
variable {X:Cx} {E:XK} {ws:List Str} {caps:List Nat} {sc:Scope} {tg iter elt:Expr} {ifs:List Expr} {pos py spos:Pos} {wi:TI} {g:TG} {tt:TT} {te:TE}
end
noncomputable abbrev sF (P:Program) (w:World) (K:PySem.W.Frag) (mg:Str->Option Value) (base:Heap) (N:List Str) (qual:Str) (sc:Scope) (f:Addr) (cd:Value) (A:Around) (outer:List Env) (s:Shared) (H:Hp) (E:XK):Cx:=mr (cJ P w) P w K mg base N qual sc f cd A outer s H E
section
variable {P:Program} {w:World} {K:PySem.W.Frag} {mg:Str->Option Value} {base:Heap} {N:List Str} {qual:Str} {sc:Scope} {f:Addr} {cd:Value} {A:Around} {outer:List Env} {s:Shared} {H:Hp} {E:XK}
theorem fmD:Framed (sF P w K mg base N qual sc f cd A outer s H E):=⟨_,_,_,rfl,rfl,rfl⟩
theorem hxD:cc (sF P w K mg base N qual sc f cd A outer s H E):=fun b hb=>by cases hb
end
abbrev Ao:List Value:=[.type "ValueError", .type "Exception", .type "BaseException", .type "object"]
section
variable {X:Cx} {E:XK} {C:Addr} {x:Str} {np cpos pos:Pos} {e:Expr} {es:List Expr} {t:TA}
end
end L2.L3
namespace L2.L3
open PySem PySem.Spec PyProof.Rows
noncomputable def zR (ea C:Addr) (dx:Option Addr):Heap->Prop:=fun h=>∃o vs,h.get? ea=some o/\o.cls= .ref C/\o.dict=dx/\o.data= .fields vs
section
variable {X:Cx} {pins:List (Addr×Obj)} {σ:St} {H:Hp} {s:Shared} {ea:Addr}
end
section
variable {X:Cx} {E:XK} {B:Addr} {cn x:Str} {i:Nat} {np pos hpos:Pos} {body:List Stmt} {st:Stmt} {suite:List Stmt} {tb:XK->TS} {th:TS}
end
end L2.L3
namespace L2.L3
open PySem PySem.Spec PyProof.Rows
structure ExcCls (K:PySem.W.Frag) (C:Addr):Prop where
 ga:PySem.W.findIn K (.ref C) "__getattribute__"=some (some (.builtin "BaseException.__getattribute__"))
 no:PySem.W.findIn K (.ref C) "__getattr__"=some none
 cl:PySem.W.findIn K (.ref C) "__class__"=some (some (.builtin "object.__class__"))
 sb:PySem.W.subIn K (.ref C) (.type "BaseException")=some true
 so:PySem.W.subIn K (.ref C) (.type "object")=some true
 it:PySem.W.kitCls K (.ref C) (.ref C)=some true
section
variable {prog:Program} {w:World} {A:Around} {E:Value->Shared->Prop} {K:PySem.W.Frag} {h:Heap} {g:Array GenState} {d:Drawn} {t:Nat} {os:OsState} {a C:Addr} {o:Obj}
end
end L2.L3
namespace L2.L3
open PySem PySem.Spec PyProof.Rows
structure Mv (N:Addr->Prop) (H H':Hp):Prop where
 tup:∀b xs,H b=some (.tup xs)->H' b=some (.tup xs)
 lst:∀b xs,N b->H b=some (.lst xs)->H' b=some (.lst xs)
section
variable {N M:Addr->Prop} {H H' H2:Hp} {a:Addr} {xs:List V}
end
noncomputable def Kd (K:PySem.W.Frag):List V->Hp->VK->Prop:=fun xs H Q=>∃p ys,xs=[.ref p]/\((bH K H p ys/\∀l,H l=none->Q (.ref l) (upd H l (.tup ys)))∨(cH K H p ys/\Q (.ref p) H))
theorem yC {X:Cx}:aA X (.type "tuple") (Kd X.K):=oy
noncomputable def Ie (K:PySem.W.Frag):List V->Hp->VK->Prop:=fun xs H Q=>∃p ys,xs=[.ref p]/\(bH K H p ys∨cH K H p ys)/\∀l,H l=none->Q (.ref l) (upd H l (.lst ys))
theorem y0 {X:Cx}:aA X (.type "list") (Ie X.K):=pM
section
variable {N:Addr->Prop} {K:PySem.W.Frag} {a:Addr} {xs:List V} {σ:St} {H:Hp}
end
end L2.L3
namespace L2.L3
open PySem PySem.Spec PyProof.Rows
section
variable {prog:Program} {w:World} {A:Around} {E:Value->Shared->Prop} {s:Shared}
theorem xw {l:Addr} {k:Nat} {xs:Array Value} {x:Value} {Q:Value->Shared->Prop} (gi:s.heap.IsTupleIter it l k) (gl:s.heap.IsTuple l xs) (gx:xs[k]?=some x)
  (q:∀h1,h1.IsTupleIter it l (k+1)->Heap.SameBut it s.heap h1->Q x {s with heap:=h1}):wpAny (model prog w) A (Builtin.SmallTypes.nextOf (.ref it)) Q E s:=by
 obtain ⟨oi,goi,gci,gdi⟩:=id gi
 obtain ⟨ol,gol,_,nl,gdl⟩:=gl
 unfold Builtin.SmallTypes.nextOf
 refine wpAny_bind (wpAny_callSpecial?_slot (name:=Str.ofString "__next__") gi.typeIs F.slot_tuple_iterator_next (wpAny_call_entry F.slot_tuple_iterator_next gi.typeIs F.entry_tuple_iterator_next ?_ (F.args_tuple_iterator_next_1 _)))
 show wpAny _ _ (field (.ref it) 0>>=_) _ _ s;refine wpAny_bind (wpAny_field goi gdi (x:= .ref l) rfl ?_)
 show wpAny _ _ (if (Value.ref l==Value.none)=true then _ else _) _ _ s;rw [if_neg (show¬((Value.ref l==Value.none)=true) from Bool.false_ne_true)]
 show wpAny _ _ (field (.ref it) 1>>=_) _ _ s;refine wpAny_bind (wpAny_field goi gdi (x:= .int k 0) rfl ?_)
 show wpAny _ _ (seqItems? (.ref l)>>=_) _ _ s;refine wpAny_bind (wpAny_seqItems gol gdl ?_)
 simp only [Int.toNat_natCast,gx]
 refine wpAny_bind (wpAny_setField goi gdi (by simp) (wpAny_pure ⟨x,rfl,wpAny_pure (q _ ?_ (Heap.SameBut.update ..))⟩))
 refine ⟨_,Heap.get?_update_self _ goi (Obj.isFreed_of_fields (Obj.data_mapFields gdi _)),(Obj.cls_mapFields ..).trans gci, ?_⟩
 rw [Obj.data_mapFields gdi];simp [rawInt]
theorem AM {l:Addr} {k:Nat} {xs:Array Value} {Q:Value->Shared->Prop} (hh:A.handled=none) (gi:s.heap.IsTupleIter it l k) (gl:s.heap.IsTuple l xs) (gx:xs[k]?=none)
  (q:∀h1 e,Heap.ExtBut it s.heap h1->(∃o,h1.get? e=some o/\o.cls= .type "StopIteration")->E (.ref e) {s with heap:=h1}):wpAny (model prog w) A (Builtin.SmallTypes.nextOf (.ref it)) Q E s:=by
 obtain ⟨oi,goi,gci,gdi⟩:=id gi
 obtain ⟨ol,gol,_,nl,gdl⟩:=gl
 unfold Builtin.SmallTypes.nextOf
 refine wpAny_bind (wpAny_callSpecial?_slot (name:=Str.ofString "__next__") gi.typeIs F.slot_tuple_iterator_next (wpAny_call_entry F.slot_tuple_iterator_next gi.typeIs F.entry_tuple_iterator_next ?_ (F.args_tuple_iterator_next_1 _)))
 show wpAny _ _ (field (.ref it) 0>>=_) _ _ s;refine wpAny_bind (wpAny_field goi gdi (x:= .ref l) rfl ?_)
 show wpAny _ _ (if (Value.ref l==Value.none)=true then _ else _) _ _ s;rw [if_neg (show¬((Value.ref l==Value.none)=true) from Bool.false_ne_true)]
 show wpAny _ _ (field (.ref it) 1>>=_) _ _ s;refine wpAny_bind (wpAny_field goi gdi (x:= .int k 0) rfl ?_)
 show wpAny _ _ (seqItems? (.ref l)>>=_) _ _ s;refine wpAny_bind (wpAny_seqItems gol gdl ?_)
 simp only [Int.toNat_natCast,gx]
 refine wpAny_bind (wpAny_rule (wpAny_bind (wpAny_setField goi gdi (by simp) ?_)));show wpAny _ _ (newExc (.type "StopIteration") []>>=_) _ _ _
 refine wpAny_bind ?_;simp only [newExc,newTuple]
 refine wpAny_bind (wpAny_newObj_type ?_ (by size_fits));refine wpAny_bind (m:=firstArgMember _ _) (wpAny_of_eq (a:=Value.none) (by first|rfl|(simp only [firstArgMember];rfl)) ?_)
 refine wpAny_newObj_type ?_ (by size_fits);simp only [raiseNew]
 refine wpAny_bind (wpAny_handled ?_);first|rw [show A.in1.handled=none from hh]|rw [hh]
 refine wpAny_bind (wpAny_pure (wpAny_throw ?_));exact q _ _ (((Heap.SameBut.update ..).extBut.push _).push _) ⟨_,Heap.get?_push_size _ rfl,rfl⟩
end
noncomputable def gA (b:Bool) (h:Heap) (it a:Addr) (i:Nat):Prop:=cond b (h.IsListIter it a i) (h.IsTupleIter it a i)
noncomputable def gG (b:Bool) (h:Heap) (a:Addr) (xs:Array Value):Prop:=cond b (h.IsList a xs) (h.IsTuple a xs)
noncomputable def jq (b:Bool) (K:PySem.W.Frag) (H:Hp) (a:Addr) (xs:List V):Prop:=cond b (bH K H a xs) (cH K H a xs)
theorem gA.at {b:Bool} {h h1:Heap} {a:Addr} {i:Nat} (x:gA b h it a i) (k:∀o,h.get? it=some o->h1.get? it=some o):gA b h1 it a i:=by
 cases b
 ·obtain ⟨o,h0,r⟩:=(show h.IsTupleIter it a i from x)
  exact ⟨o,k o h0,r⟩
 ·obtain ⟨o,h0,r⟩:=(show h.IsListIter it a i from x)
  exact ⟨o,k o h0,r⟩
theorem gA.live {b:Bool} {h:Heap} {a:Addr} {i:Nat} (x:gA b h it a i):∃o,h.get? it=some o/\∀v,o.data≠ .cell v:=by
 cases b
 ·obtain ⟨o,h0,_,d⟩:=(show h.IsTupleIter it a i from x)
  exact ⟨o,h0,fun v z=>by rw [d] at z;cases z⟩
 ·obtain ⟨o,h0,_,d⟩:=(show h.IsListIter it a i from x)
  exact ⟨o,h0,fun v z=>by rw [d] at z;cases z⟩
theorem gG.at {b:Bool} {h h1:Heap} {a:Addr} {xs:Array Value} (x:gG b h a xs) (k:∀o,h.get? a=some o->h1.get? a=some o):gG b h1 a xs:=by
 cases b
 ·obtain ⟨o,h0,r⟩:=(show h.IsTuple a xs from x)
  exact ⟨o,k o h0,r⟩
 ·obtain ⟨o,h0,r⟩:=(show h.IsList a xs from x)
  exact ⟨o,k o h0,r⟩
theorem qd {b:Bool} {a:Addr} {i:Nat} {xs:Array Value} (hi:gA b h it a i) (p:gG b h a xs):a≠it:=fun z=>by
 cases b
 ·obtain ⟨o,e1,e2,_⟩:=(show h.IsTuple a xs from p)
  obtain ⟨o',e3,e4,_⟩:=(show h.IsTupleIter it a i from hi)
  rw [z,e3] at e1
  cases e1
  rw [e2] at e4
  exact absurd e4 (by decide)
 ·obtain ⟨o,e1,e2,_⟩:=(show h.IsList a xs from p)
  obtain ⟨o',e3,e4,_⟩:=(show h.IsListIter it a i from hi)
  rw [z,e3] at e1
  cases e1
  rw [e2] at e4
  exact absurd e4 (by decide)
theorem uw {b:Bool} {h:Heap} {e a:Addr} {o:Obj} {xs:Array Value} (he:h.get? e=some o) (n1:o.cls≠ .type "tuple") (n2:o.cls≠ .type "list") (p:gG b h a xs):e≠a:=fun z=>by
 cases b
 ·obtain ⟨o',e1,e2,_⟩:=(show h.IsTuple a xs from p)
  rw [←z,he] at e1
  cases e1
  exact n1 e2
 ·obtain ⟨o',e1,e2,_⟩:=(show h.IsList a xs from p)
  rw [←z,he] at e1
  cases e1
  exact n2 e2
theorem mM {w:World} {A:Around} (b:Bool) (hh:A.handled=none) (it l:Addr) (ne:l≠it) (xs:Array Value):
  Draws prog w A it [it,l] xs.size (fun i v=>xs[i]?=some v) (fun i h=>gA b h it l i/\gG b h l xs):=by
 cases b
 ·exact ⟨fun _ _ st=>let ⟨o,h0,_⟩:=st.1.live;⟨o,h0⟩,fun _ _ _ st hk=>⟨st.1.at fun o e=>hk it (by simp) o e,st.2.at fun o e=>hk l (by simp) o e⟩,
   fun i s Q E hi st hQ=>xw st.1 st.2 (x:=xs[i]) (by simp [hi]) fun h1 a1 a2=>hQ _ h1 s.toks (by simp [hi]) ⟨a1,st.2.at fun o e=>a2.extBut _ _ ne e⟩ a2,fun s Q E st hE=>AM hh st.1 st.2 (by simp) hE⟩
 ·exact Draws.list hh it l ne xs
theorem zE {w:World} {A:Around} {E:Value->Shared->Prop} {s:Shared} {b:Bool} {l:Addr} {xs:Array Value} {Q:Value->Shared->Prop} (hl:gG b s.heap l xs)
  (q:∀h1,gA b h1 s.heap.objs.size l 0->(∀c o,s.heap.get? c=some o->h1.get? c=some o)->h1.objs.size=s.heap.objs.size+1->Q (.ref s.heap.objs.size) {s with heap:=h1}):wpAny (model prog w) A (pyIter (.ref l)) Q E s:=by
 cases b
 ·exact wpAny_pyIter_tuple hl (q _ ⟨_,Heap.get?_push_size _ rfl,rfl,rfl⟩ (fun c o e=>Heap.get?_push_of_some _ e) (Heap.size_push ..))
 ·exact wpAny_pyIter_list hl (q _ ⟨_,Heap.get?_push_size _ rfl,rfl,rfl⟩ (fun c o e=>Heap.get?_push_of_some _ e) (Heap.size_push ..))
section
variable {X:Cx} {pins:List (Addr×Obj)} {σ:St} {H:Hp} {s:Shared} {a:Addr} {xs ys:List V} {b:Bool}
theorem aO (I:Inv X pins σ H s) (h:jq b X.K H a xs):∃its:List Value,Vals xs its/\gG b s.heap a its.toArray/\xs.length<=sizeLine:=by
 cases b
 ·exact I.tuple h
 ·obtain ⟨its,r,p,z⟩:=I.list h
  exact ⟨its,r,p.isList,z⟩
theorem Br (I:Inv X pins σ H s) (h:jq b X.K H a xs) (h':jq b X.K H a ys):xs=ys:=by
 cases b
 ·exact I.fS h h'
 ·exact I.hG h h'
theorem md {h':Heap} {t':Nat} {ch:List Addr} (I:Inv X pins σ H s) (hf:∀b∈ch,ck X pins H b) (k:∀b o,b∉ch->s.heap.get? b=some o->h'.get? b=some o):Inv X pins σ H {s with heap:=h',toks:=t'}:=by
 have nit:∀b u,H b=some u->b∉ch:=fun b u e z=>by
  rw [(hf b z).1] at e
  cases e
 refine I.step (g':=s.gens) (d':=s.drawn) (ch:=ch) (fun b hb=>⟨(hf b hb).2.2.2.1,(hf b hb).2.1,(hf b hb).2.2.2.2.1,(hf b hb).2.2.2.2.2⟩) (fun b o _ _ hc e _=>k b o hc e) (fun b o _ _ hc e _=>⟨o.slots,k b o hc e⟩) (fun _ _ _ _ n=>n)
  (fun b o hc e=>⟨o,k b o hc e⟩) (fun _ _ e=>e) (fun _ _ _ e=>e) (fun b ps e=>⟨#[],by rw [e];simp⟩) (fun m hm=> ?_) (fun b u e=> ?_) I.bare
 ·obtain ⟨o,es,ep,ho,r⟩:=hm
  exact ⟨o,es,ep,k _ o (fun z=>(hf _ z).2.1 rfl) ho,r⟩
 ·refine (I.ah b u e).ij (fun c v hc q=>k c v ?_ q) (fun _ q=>q) fun _ _ q=>q
  rcases hc with z|z
  ·rw [z]
   exact nit b u e
  ·exact nit c _ z
theorem uL {h':Heap} {t':Nat} {T:Addr} {ch:List Addr} {x y:V} {u v:Value} (I:Inv X pins σ H s) (hf:∀b∈ch,ck X pins H b) (k:∀b o,b∉ch->s.heap.get? b=some o->h'.get? b=some o) (hT:s.heap.objs.size<=T)
  (hp:h'.get? T=some {cls:= .type "tuple",data:= .seq #[u,v]}) (rx:RelV x u) (ry:RelV y v):Inv X pins σ (upd H T (.tup [x,y])) {s with heap:=h',toks:=t'}:=by
 have f:=I.kj hT (I.ah.fresh hT)
 exact lF (md (t':=t') I hf k) f.1 (Heap.get?_none_of_le (Nat.le_trans I.sz hT)) f.2.1 f.2.2.2.2.1 f.2.2.2.2.2 ⟨by show 2<=sizeLine;decide,[u,v], .cons rx (.cons ry .nil),⟨_,hp,rfl,_,rfl⟩⟩
end
noncomputable def Ai (K:PySem.W.Frag) (b:Bool) (a:Addr):It:=
 ⟨fun i H=>∃xs x,jq b K H a xs/\xs[i]?=some x,fun i H x H'=>∃T y,x= .ref T/\H T=none/\H'=upd H T (.tup [.int i,y])/\∀xs,jq b K H a xs->xs[i]?=some y,fun i H=>∃xs,jq b K H a xs/\xs.length=i⟩
theorem uI {P:Program} {w:World} {K:PySem.W.Frag} {x1} (b:Bool) (a e it:Addr) (hei:e≠it):
  Turn P w K (.Tuple elts x1 pos) (Ai K b a) [e,it] e (fun i h=>(∃old,IsEnum h e it i old)/\gA b h it a i) where
 mem:=by simp
 obj:=fun i h st c hc=>by
  obtain ⟨⟨old,he⟩,hi⟩:=st
  rcases List.mem_cons.mp hc with rfl|hc
  ·exact ⟨_,he,fun v z=>by cases z⟩
  ·rw [List.mem_singleton.mp hc]
   exact hi.live
 keep:=fun i h h' st k=>by
  obtain ⟨⟨old,he⟩,hi⟩:=st
  exact ⟨⟨old,k e (by simp) _ he⟩,hi.at fun o q=>k it (by simp) o q⟩
 item:=by
  intro X hP hw hK hc i pins s σ H E I hf st hg
  subst hP hw hK
  obtain ⟨⟨old,he⟩,hi⟩:=st
  obtain ⟨xs,x,hq,hx⟩:=hg
  obtain ⟨its,rv,p,hz⟩:=aO I hq
  obtain ⟨u,hu,ru⟩:=rv.get hx
  have ne:a≠it:=qd hi p
  have nea:e≠a:=uw he (by show Value.type "enumerate"≠Value.type "tuple";decide) (by show Value.type "enumerate"≠Value.type "list";decide) p
  have D:=mM (prog:=X.prog) (w:=X.w) (A:=X.A.in1) b (I.ok.hd hc) it a ne its.toArray
  have hlt:i<its.toArray.size:=by
   have:=(List.getElem?_eq_some_iff.mp hu).1
   simpa using this
  refine wpAny_pyNext_enum_itemD D he ⟨hi,p⟩ hlt hei (by simp [hei,nea]) fun v h1 tk hv ho hs hT hsz hk=> ?_
  have ev:v=u:=by
   have hv':its[i]?=some v:=by simpa using hv
   rw [hu] at hv'
   exact (Option.some.inj hv').symm
  subst ev
  refine ⟨_,rfl, ?_⟩
  refine wpAny_letOwnedTupleGo_enum (s:={s with heap:=h1,toks:=tk+1}) ho fun h2 he2 hs2=> ?_
  replace hs2:Heap.SameBut e h1 h2:=hs2
  have lte:e<s.heap.objs.size:=Heap.lt_size he
  have hT2:h2.get? s.heap.objs.size=some {cls:= .type "tuple",data:= .seq #[.int i tk,v]}:=(hs2.2 _ (Nat.ne_of_gt lte)).trans hT
  refine ⟨.ref s.heap.objs.size,upd H s.heap.objs.size (.tup [.int i,x]),uL (s:=s) (h':=h2) (t':=tk+1) I hf (fun c o hc q=> ?_) (Nat.le_refl _) hT2 ⟨tk,rfl⟩ ru,rfl,⟨_,x,rfl,I.fresh,rfl,fun ys hy=> ?_⟩,⟨⟨v, ?_⟩, ?_⟩,fun c hc=> ?_⟩
  ·have c1:c≠e:=fun z=>hc (by simp [z])
   have c2:c≠it:=fun z=>hc (by simp [z])
   exact (hs2.2 c c1).trans (hk c o c1 c2 q)
  ·rw [Br I hy hq]
   exact hx
  ·have:((i+1:Nat):Int)=(i:Int)+1:=by lia
   rw [this]
   exact he2
  ·exact hs.1.at fun o q=>(hs2.2 it hei.symm).trans q
  ·have lc:c<s.heap.objs.size:=by
    rcases List.mem_cons.mp hc with rfl|hc
    ·exact lte
    ·rw [List.mem_singleton.mp hc]
     obtain ⟨o,q,_⟩:=hi.live
     exact Heap.lt_size q
   rw [ao (Nat.ne_of_lt lc)]
   exact (hf c hc).1
 done:=by
  intro X hP hw hK hc i pins s σ H E I hf st hg
  subst hP hw hK
  obtain ⟨⟨old,he⟩,hi⟩:=st
  obtain ⟨xs,hq,hx⟩:=hg
  obtain ⟨its,rv,p,hz⟩:=aO I hq
  have ne:a≠it:=qd hi p
  have D:=mM (prog:=X.prog) (w:=X.w) (A:=X.A.in1) b (I.ok.hd hc) it a ne its.toArray
  have en:i=its.toArray.size:=by
   have:=rv.length
   simp
   lia
  refine wpAny_pyNext_enum_endD D he (by rw [←en];exact ⟨hi,p⟩) fun h1 hk=>⟨rfl,md (t':=s.toks) I hf fun c o hc q=>hk c o (fun z=>hc (by simp [z])) q⟩
 self:=fun _ _ _ _ _ st h=>by
  obtain ⟨⟨old,he⟩,_⟩:=st
  exact wpAny_pyIter_enum he h
end L2.L3
namespace L2.L3
open PySem PySem.Spec PyProof.Rows
noncomputable def JB (K:PySem.W.Frag) (ta:TA):TI:=fun σ H R=>ta σ H fun vs H1=>∃a,vs=[.ref a]/\(∃xs,bH K H1 a xs)/\R (Ai K true a) H1
theorem Bh {X:Cx} {a:Expr} {x1} {tp:Pos} {ta:TA} {p:Pos} (hg:Gl X "enumerate") (hm:X.mg "enumerate"=none) (ha:PA X [a] ta) (hs:starEach [a] X.env=[(false,eval a X.env)]:=by rfl):
  PI X (.Tuple elts x1 tp) (.Call (.Name "enumerate" p) [a] [] pos) (JB X.K ta):=by
 intro pins s σ H R I h
 refine Call_ (gE I hg hm PyProof.Rows.boot_enumerate (PyProof.Rows.callWith_type1 (ay (ha pos pins s σ H _ I h) fun us s1 z902=> ?_) hs rfl));obtain ⟨vs,H1,I1,r1,q1⟩:=z902
 obtain ⟨l,e,⟨xs,hq⟩,q⟩:=q1
 subst e
 cases r1 with
 |cons r rr=>
  cases rr
  cases r
  obtain ⟨its,rv,g,hz⟩:=I1.list hq
  refine call_enumerate_list g.isList fun h' he hi hsz hk=>wpAny_pyIter_enum (s:={s1 with heap:=h'}) he ?_
  refine ⟨s1.heap.objs.size+1,[s1.heap.objs.size+1,s1.heap.objs.size],_,_,H1,rfl,I1.kept (t':=s1.toks) hk,uI true l _ _ (Nat.succ_ne_self _),⟨⟨_,he⟩,hi⟩,fun b hb=> ?_,q⟩
  have le:s1.heap.objs.size<=b:=by
   rcases List.mem_cons.mp hb with rfl|hb
   ·exact Nat.le_succ _
   ·rw [List.mem_singleton.mp hb]
    exact Nat.le_refl _
  exact I1.kj le (I1.ah.fresh le)
structure ZApart (z TI TO i1 i2:Addr) (f1 f2:List Addr):Prop where
 TIz:TI≠z
 TOz:TO≠z
 i1z:i1≠z
 i2z:i2≠z
 TIO:TI≠TO
 TI1:TI≠i1
 TI2:TI≠i2
 TO1:TO≠i1
 TO2:TO≠i2
 i12:i1≠i2
 z1:z∉f1
 o1:TO∉f1
 j1:i2∉f1
 z2:z∉f2
 o2:TO∉f2
 j2:i1∉f2
section
variable {prog:Program} {w:World} {A:Around} {E:Value->Shared->Prop} {s:Shared} {z TI TO i1 i2:Addr} {f1 f2:List Addr} {n1 n2 k:Nat} {P1 P2:Nat->Value->Prop} {S1 S2:Nat->Heap->Prop} {a b:Value}
end
end L2.L3
namespace L2.L3
open PySem PySem.Spec PyProof.Rows
noncomputable def IZ (K:PySem.W.Frag):List V->Hp->VK->Prop:=fun xs H Q=>∃p,∃ys:List Bool,xs=[.ref p]/\bH K H p (ys.map V.bl)/\Q (.bl (ys.all id)) H
theorem range_all (ys:List Bool):(List.range ys.length).all (fun i=>(ys[i]?).getD true)=ys.all id:=by
 rw [Bool.eq_iff_iff,List.all_eq_true,List.all_eq_true]
 constructor
 ·intro h y hy
  obtain ⟨i,hi,e⟩:=List.getElem_of_mem hy
  have:=h i (List.mem_range.mpr hi)
  rw [List.getElem?_eq_getElem hi,e] at this
  exact this
 ·intro h i hi
  have hi':=List.mem_range.mp hi
  rw [List.getElem?_eq_getElem hi']
  exact h _ (List.getElem_mem hi')
theorem xF {X:Cx} (hc:X.calm=true):aA X (.builtin "all") (IZ X.K):=by
 intro pins s σ H xs us Q I r h
 obtain ⟨p,ys,rfl,hp,q⟩:=h
 obtain ⟨u,rfl,r1⟩:=Vals.one r
 cases r1
 obtain ⟨its,rv,g,hz⟩:=I.list hp
 have lt:p<s.heap.objs.size:=by
  obtain ⟨o,n,e,_⟩:=g
  exact Heap.lt_size e
 have hl:its.length=ys.length:=by rw [←rv.length,List.length_map]
 have hsz:its.toArray.size=ys.length:=by rw [List.size_toArray,hl]
 refine call_all_walk (wpAny_pyIter_list g.isList ⟨s.heap.objs.size,[s.heap.objs.size,p],[s.heap.objs.size],its.toArray.size,_,_,fun i=>(ys[i]?).getD true,rfl,Walks.list (A:=X.A.in1) (I.ok.hd hc) s.heap.objs.size p (Nat.ne_of_lt lt) its.toArray,
  ⟨⟨_,Heap.get?_push_size _ rfl,rfl,rfl⟩,g.isList.push _⟩,fun i v s1 Q1 E1 hv hq=> ?_,fun h' tk hk=> ?_⟩)
 ·have hv':its[i]?=some v:=by simpa using hv
  have hi:i<ys.length:=by
   have:=(List.getElem?_eq_some_iff.mp hv').1
   lia
  obtain ⟨w',hw,rw'⟩:=rv.get (i:=i) (x:=V.bl ys[i]) (by rw [List.getElem?_map,List.getElem?_eq_getElem hi];rfl)
  rw [hv'] at hw
  cases hw
  cases rw'
  replace hq:Q1 ((ys[i]?).getD true) s1:=hq
  rw [List.getElem?_eq_getElem hi] at hq
  exact wpAny_truthy_bool hq
 ·refine ⟨.bl (ys.all id),H,I.kept (t':=tk) fun b o e=>hk b o (fun z=> ?_) (Heap.get?_push_of_some _ e), ?_,q⟩
  ·rw [List.mem_singleton.mp z] at e
   exact absurd (Heap.lt_size e) (Nat.lt_irrefl _)
  ·show Value.bool _=_
   rw [hsz,range_all]
end L2.L3
namespace L2
open PySem PySem.Spec PyProof.Rows
section
variable {κ:Type} [DecidableEq κ]
noncomputable def eS (kvs:List (κ×V)) (k:κ):Option V:=(kvs.find? fun kv=>decide (kv.1=k)).map (·.2)
noncomputable def putK (kvs:List (κ×V)) (k:κ) (v:V):List (κ×V):=
 if (kvs.any fun kv=>decide (kv.1=k))=true then kvs.map (fun kv=>if kv.1=k then (kv.1,v) else kv) else kvs++[(k,v)]
theorem fQ {p:κ×V} {r:List (κ×V)} {k:κ} (e:p.1=k):eS (p::r) k=some p.2:=by simp [eS,List.find?_cons,e]
theorem fI {p:κ×V} {r:List (κ×V)} {k:κ} (e:¬p.1=k):eS (p::r) k=eS r k:=by simp [eS,List.find?_cons,e]
theorem qv (k:κ):∀kvs:List (κ×V),(kvs.any fun kv=>decide (kv.1=k))=(eS kvs k).isSome
 |[]=>rfl
 |p::r=>by
  rw [List.any_cons]
  by_cases e:p.1=k
  ·simp only [fQ e,decide_eq_true e,Bool.true_or,Option.isSome_some]
  ·rw [fI e,decide_eq_false e,Bool.false_or];exact qv k r
theorem eK (kvs:List (κ×V)) (k:κ) (v:V):(putK kvs k v).length<=kvs.length+1:=by
 unfold putK
 split
 ·rw [List.length_map];lia
 ·rw [List.length_append,List.length_cons,List.length_nil];lia
theorem cF.eO {o:Option V} {u:Option Value} (r:cF o u):o.isSome=u.isSome:=by
 cases o with
 |none=>cases u with
  |none=>rfl
  |some _=>exact (show False from r).elim
 |some _=>cases u with
  |none=>exact (show False from r).elim
  |some _=>rfl
theorem cF.getD {o:Option V} {u:Option Value} {d:V} {d':Value} (r:cF o u) (rd:RelV d d'):RelV (o.getD d) (u.getD d'):=by
 cases o with
 |none=>cases u with
  |none=>exact rd
  |some _=>exact (show False from r).elim
 |some _=>cases u with
  |none=>exact (show False from r).elim
  |some _=>exact r
theorem KV.val {kvs:List (κ×V)} {vs:List (κ×Value)} (r:KV kvs vs) (k:κ):cF (eS kvs k) (valueAt vs k):=by
 unfold KV at r
 induction r with
 |nil=>exact True.intro
 | @cons p q ps qs h t ih=>
  obtain ⟨h1,h2⟩:=h
  by_cases e:p.1=k
  ·have e':q.1=k:=h1.symm.trans e
   have b:valueAt (q::qs) k=some q.2:=by simp [valueAt,List.find?_cons,e']
   rw [fQ e,b];exact h2
  ·have e':¬q.1=k:=fun z=>e (h1.trans z)
   have b:valueAt (q::qs) k=valueAt qs k:=by simp [valueAt,List.find?_cons,e']
   rw [fI e,b];exact ih
theorem KV.any {kvs:List (κ×V)} {vs:List (κ×Value)} (r:KV kvs vs) (k:κ):(kvs.any fun kv=>decide (kv.1=k))=vs.any fun kv=>decide (kv.1=k):=by
 unfold KV at r
 induction r with
 |nil=>rfl
 |cons h t ih=>rw [List.any_cons,List.any_cons,ih,h.1]
theorem KV.xE {kvs:List (κ×V)} {vs:List (κ×Value)} (r:KV kvs vs) (k:κ) {y:V} {u:Value} (ry:RelV y u):
  KV (kvs.map fun kv=>if kv.1=k then (kv.1,y) else kv) (vs.map fun kv=>if kv.1=k then (kv.1,u) else kv):=by
 unfold KV at r⊢
 induction r with
 |nil=>exact .nil
 | @cons p q ps qs h t ih=>
  rw [List.map_cons,List.map_cons]
  refine .cons ?_ ih
  obtain ⟨h1,h2⟩:=h
  by_cases e:p.1=k
  ·rw [if_pos e,if_pos (h1.symm.trans e)];exact ⟨h1,ry⟩
  ·rw [if_neg e,if_neg (fun z=>e (h1.trans z))];exact ⟨h1,h2⟩
theorem KV.put {kvs:List (κ×V)} {vs:List (κ×Value)} (r:KV kvs vs) (k:κ) {y:V} {u:Value} (ry:RelV y u):KV (putK kvs k y) (stored vs k u):=by
 unfold putK stored
 rw [r.any k]
 by_cases e:(vs.any fun kv=>decide (kv.1=k))=true
 ·rw [if_pos e,if_pos e];exact r.xE k ry
 ·rw [if_neg e,if_neg e];exact Paired.snoc r ⟨rfl,ry⟩
theorem KV.length {kvs:List (κ×V)} {vs:List (κ×Value)} (r:KV kvs vs):kvs.length=vs.length:=Paired.length r
end
theorem dr {P:Program} {w:World} {k:Key} {u:Value} (r:RelV (kV k) u):(aG P w).is k u=true:=by
 cases k with
 |inl i=>obtain ⟨t,e⟩:=(show∃t,u=Value.int i t from r);subst e;exact qX P w i t
 |inr x=>obtain ⟨t,e⟩:=(show∃t,u=Value.str x t from r);subst e;exact qV P w x t
theorem nI {P:Program} {w:World}:∀{ks:List Key} {us:List Value},Vals (ks.map kV) us->ItemsAre (aG P w) ks us
 |[],_,r=>by rw [List.map_nil] at r;cases r;exact .nil
 |k::ks,_,r=>by
  rw [List.map_cons] at r
  cases r with
  |cons h t=>exact .cons (dr h) (nI t)
noncomputable abbrev KT (H:Hp):List (List Key×V)->List (List Key×Addr×Value)->Prop:=Paired fun p q=>p.1=q.1/\H q.2.1=some (.tup (p.1.map kV))/\RelV p.2 q.2.2
theorem KT.val {H:Hp} {kvs:List (List Key×V)} {xs:List (List Key×Addr×Value)} (r:KT H kvs xs) (k:List Key):cF (eS kvs k) ((atKey xs k).map (·.2)):=by
 induction r with
 |nil=>exact True.intro
 | @cons p q ps qs h t ih=>
  obtain ⟨h1,_,h2⟩:=h
  by_cases e:p.1=k
  ·have e':q.1=k:=h1.symm.trans e
   have b:atKey (q::qs) k=some q.2:=by simp [atKey,List.find?_cons,e']
   rw [fQ e,b];exact h2
  ·have e':¬q.1=k:=fun z=>e (h1.trans z)
   have b:atKey (q::qs) k=atKey qs k:=by simp [atKey,List.find?_cons,e']
   rw [fI e,b];exact ih
theorem KT.xE {H:Hp} {kvs:List (List Key×V)} {xs:List (List Key×Addr×Value)} (r:KT H kvs xs) (k:List Key) {y:V} {u:Value} (ry:RelV y u):
  KT H (kvs.map fun kv=>if kv.1=k then (kv.1,y) else kv) (xs.map (putAt k u)):=by
 induction r with
 |nil=>exact .nil
 | @cons p q ps qs h t ih=>
  rw [List.map_cons,List.map_cons]
  refine .cons ?_ ih
  obtain ⟨h1,h2,h3⟩:=h
  unfold putAt
  by_cases e:p.1=k
  ·rw [if_pos e,if_pos (h1.symm.trans e)];exact ⟨h1,h2,ry⟩
  ·rw [if_neg e,if_neg (fun z=>e (h1.trans z))];exact ⟨h1,h2,h3⟩
theorem KT.put {H:Hp} {kvs:List (List Key×V)} {xs:List (List Key×Addr×Value)} (r:KT H kvs xs) (k:List Key) {b:Addr} {y:V} {u:Value} (hb:H b=some (.tup (k.map kV))) (ry:RelV y u):
  KT H (putK kvs k y) (storedH xs k b u):=by
 have e:(kvs.any fun kv=>decide (kv.1=k))=(atKey xs k).isSome:=by
  rw [qv,(r.val k).eO,Option.isSome_map]
 unfold putK storedH
 rw [e]
 by_cases q:(atKey xs k).isSome=true
 ·rw [if_pos q,if_pos q];exact r.xE k ry
 ·rw [if_neg q,if_neg q];exact Paired.snoc r ⟨rfl,hb,ry⟩
theorem KT.keeps {H H':Hp} {kvs:List (List Key×V)} {xs:List (List Key×Addr×Value)} (r:KT H kvs xs) (ht:∀b ys,H b=some (.tup ys)->H' b=some (.tup ys)):KT H' kvs xs:=
 Paired.tM r fun _ _ z=>⟨z.1,ht _ _ z.2.1,z.2.2⟩
section
variable {P:Program} {w:World} {H:Hp} {h:Heap} {a:Addr}
theorem Ah {u:HO} (ok:bq P w H h) (e:Rd H a u):aN P w H h a u:=e.ok ok
theorem eI {kvs:List (Key×V)} (ok:bq P w H h) (e:Rd H a (.dK kvs)):kvs.length<=sizeLine/\(a==sysModules)=false/\∃vs,KV kvs vs/\h.DictOf (aG P w) a vs:=
 show aN P w H h a (.dK kvs) from Ah ok e
theorem An {kvs:List (Key×V)} (ok:bq P w H h) (e:H a=some (.dK kvs)):kvs.length<=sizeLine/\(a==sysModules)=false/\∃vs,KV kvs vs/\h.DictOf (aG P w) a vs:=eI ok (.inl e)
theorem cz {ks:List Key} (ok:bq P w H h) (e:H a=some (.tup (ks.map kV))):(tupleKind (aG P w)).is h ks a:=by
 obtain ⟨_,its,r,o,h1,h2,n,h3⟩:=(show aN P w H h a (.tup (ks.map kV)) from ok a _ e)
 exact ⟨o,its.toArray,n,h1,h2,h3,by simpa using nI r⟩
theorem eM {kvs:List (List Key×V)} (ok:bq P w H h) (e:Rd H a (.dT kvs)):kvs.length<=sizeLine/\(a==sysModules)=false/\
  ∃xs,KT H kvs xs/\h.DictOfH (tupleKind (aG P w)) a xs:=by
 obtain ⟨z,y,xs,r,o,es,ep,h1,h2,h3,h4,h5⟩:=(show aN P w H h a (.dT kvs) from Ah ok e)
 refine ⟨z,y,xs,r,o,es,ep,h1,h2,h3,h4,fun x hx=> ?_,h5⟩
 have all:∀{l:List (List Key×V)} {m:List (List Key×Addr×Value)},KT H l m->∀x∈m,(tupleKind (aG P w)).is h x.1 x.2.1:=by
  intro l m q
  induction q with
  |nil=>intro x hx;exact nomatch hx
  | @cons p q ps qs hq t ih=>
   intro x hx
   rcases List.mem_cons.mp hx with e|hx
   ·subst e
    exact cz ok (by rw [←hq.1];exact hq.2.1)
   ·exact ih x hx
 exact all r x hx
theorem Af {kvs:List (List Key×V)} (ok:bq P w H h) (e:H a=some (.dT kvs)):kvs.length<=sizeLine/\(a==sysModules)=false/\
  ∃xs,KT H kvs xs/\h.DictOfH (tupleKind (aG P w)) a xs:=eM ok (.inl e)
end
noncomputable def jl (H:Hp) (a:Addr) (y:V) (r:Option V):Prop:=
 (∃kvs k,Rd H a (.dK kvs)/\y=kV k/\r=eS kvs k)∨∃kvs k b,Rd H a (.dT kvs)/\y= .ref b/\H b=some (.tup (k.map kV))/\r=eS kvs k
noncomputable def eX (H:Hp) (a:Addr) (y v:V) (H':Hp):Prop:=
 (∃kvs k,H a=some (.dK kvs)/\y=kV k/\kvs.length<sizeLine/\H'=upd H a (.dK (putK kvs k v)))∨
 ∃kvs k b,H a=some (.dT kvs)/\y= .ref b/\H b=some (.tup (k.map kV))/\kvs.length<sizeLine/\H'=upd H a (.dT (putK kvs k v))
theorem eX.k {H:Hp} {a:Addr} {kvs:List (Key×V)} {k:Key} {v:V} (e:H a=some (.dK kvs)) (hl:kvs.length<sizeLine):eX H a (kV k) v (upd H a (.dK (putK kvs k v))):= .inl ⟨kvs,k,e,rfl,hl,rfl⟩
theorem eX.t {H:Hp} {a b:Addr} {kvs:List (List Key×V)} {k:List Key} {v:V} (e:H a=some (.dT kvs)) (eb:H b=some (.tup (k.map kV))) (hl:kvs.length<sizeLine):
  eX H a (.ref b) v (upd H a (.dT (putK kvs k v))):= .inr ⟨kvs,k,b,e,rfl,eb,hl,rfl⟩
section
variable {X:Cx} {pins:List (Addr×Obj)} {σ:St} {H:Hp} {s:Shared} {a:Addr} {y v:V} {u r:Value} {o:Option V} {A:Around} {E:Value->Shared->Prop}
theorem Inv.big (I:Inv X pins σ H s):sysModules<s.heap.objs.size:=by
 have h:mainGlobals<s.heap.objs.size:=(I.mod.glob.keeps I.bk).lt
 exact Nat.lt_trans (by decide) h
theorem uU {Q:Value->Shared->Prop} (hu:A.units+1<cLine) (I:Inv X pins σ H s) (g:jl H a y (some v)) (ry:RelV y u) (h:∀w' s',Inv X pins σ H s'->RelV v w'->Q w' s'):
  wpAny (model X.prog X.w) A (getItem (.ref a) u) Q E s:=by
 rcases g with ⟨kvs,k,e,ey,l⟩|⟨kvs,k,b,e,ey,eb,l⟩
 ·subst ey
  obtain ⟨z,hd,vs,rel,dd⟩:=eI I.ah e
  obtain ⟨w',hw,rw'⟩:=cF.some_of (v:=v) (o:=valueAt vs k) (by rw [l];exact rel.val k)
  exact wpAny_getItem_of (dr ry) dd.mapOf hw (h w' _ (I.tok _) rw')
 ·subst ey
  cases (show u=Value.ref b from ry)
  obtain ⟨z,hd,xs,rel,dd⟩:=eM I.ah e
  obtain ⟨w',hw,rw'⟩:=cF.some_of (v:=v) (o:=(atKey xs k).map (·.2)) (by rw [l];exact rel.val k)
  obtain ⟨p,hp,hp2⟩:=Option.map_eq_some_iff.mp hw
  refine wpAny_getItem_heap (tupleKind_room_in1 hu) (cz I.ah eb) dd hp ?_
  rw [hp2]
  exact h w' _ (I.tok _) rw'
theorem IC {Q:Value->Shared->Prop} (hu:A.units+1<cLine) (I:Inv X pins σ H s) (g:jl H a y o) (ry:RelV y u) (h:∀s',Inv X pins σ H s'->Q (.bool o.isSome) s'):
  wpAny (model X.prog X.w) A (compareOp .In u (.ref a)) Q E s:=by
 rcases g with ⟨kvs,k,e,ey,l⟩|⟨kvs,k,b,e,ey,eb,l⟩
 ·subst ey
  obtain ⟨z,hd,vs,rel,dd⟩:=eI I.ah e
  refine wpAny_in_of (dr ry) hd dd.mapOf ?_
  rw [←(rel.val k).eO,←l]
  exact h _ (I.tok _)
 ·subst ey
  cases (show u=Value.ref b from ry)
  obtain ⟨z,hd,xs,rel,dd⟩:=eM I.ah e
  refine wpAny_in_heap (tupleKind_room_in1 hu) (cz I.ah eb) hd dd ?_
  have q:=(rel.val k).eO
  rw [Option.isSome_map] at q
  rw [←q,←l]
  exact h _ (I.tok _)
theorem BB {Q:Value->Shared->Prop} (hu:A.units+1<cLine) (I:Inv X pins σ H s) (g:jl H a y o) (ry:RelV y u) (h:∀s',Inv X pins σ H s'->Q (.bool (!o.isSome)) s'):
  wpAny (model X.prog X.w) A (compareOp .NotIn u (.ref a)) Q E s:=by
 rcases g with ⟨kvs,k,e,ey,l⟩|⟨kvs,k,b,e,ey,eb,l⟩
 ·subst ey
  obtain ⟨z,hd,vs,rel,dd⟩:=eI I.ah e
  refine wpAny_notIn_of (dr ry) hd dd.mapOf ?_
  rw [←(rel.val k).eO,←l]
  exact h _ (I.tok _)
 ·subst ey
  cases (show u=Value.ref b from ry)
  obtain ⟨z,hd,xs,rel,dd⟩:=eM I.ah e
  refine wpAny_notIn_heap (tupleKind_room_in1 hu) (cz I.ah eb) hd dd ?_
  have q:=(rel.val k).eO
  rw [Option.isSome_map] at q
  rw [←q,←l]
  exact h _ (I.tok _)
theorem jE {h':Heap} {t':Nat} {ob:HO} (I:Inv X pins σ H s) (mu:vf (H a)) (hs:Heap.SameBut a s.heap h') (he:∃q,h'.get? a=some q) (new:aN X.prog X.w (upd H a ob) h' a ob):
  Inv X pins σ (upd H a ob) {s with heap:=h',toks:=t'}:=
 I.write (x:=a) (e:=a) mu (.inl rfl) (fun b q hb z=>(hs.2 b hb).trans z) he new
theorem uE {P:Program} {w:World} {H':Hp} {h':Heap} {kvs:List (Key×V)} {vs:List (Key×Value)} (z:kvs.length<=sizeLine) (hd:(a==sysModules)=false) (rel:KV kvs vs) (dd:h'.DictOf (aG P w) a vs):
  aN P w H' h' a (.dK kvs):=⟨z,hd,vs,rel,dd⟩
theorem iV {H':Hp} {Q:Unit->Shared->Prop} (hu:A.units+1<cLine) (I:Inv X pins σ H s) (g:eX H a y v H') (ry:RelV y u) (rv:RelV v r) (h:∀s',Inv X pins σ H' s'->Q () s'):
  wpAny (model X.prog X.w) A (setItem (.ref a) u r) Q E s:=by
 rcases g with ⟨kvs,k,e,ey,l,eH⟩|⟨kvs,k,b,e,ey,eb,l,eH⟩
 ·subst ey eH
  obtain ⟨z,hd,vs,rel,dd⟩:=An I.ah e
  have hz:vs.length<=sizeLine:=by rw [←rel.length];exact z
  have hl:(putK kvs k v).length<=sizeLine:=by have:=eK kvs k v;lia
  refine wpAny_setItem_pairs (hsz:=hz) (dr ry) dd fun h' dd' hs=>h _ ?_
  have he:∃q,h'.get? a=some q:=let ⟨q,_,_,hq,_⟩:=dd';⟨q,hq⟩
  exact jE I (by rw [e];exact True.intro) hs he (uE hl hd (rel.put k rv) dd')
 ·subst ey eH
  cases (show u=Value.ref b from ry)
  obtain ⟨z,hd,xs,rel,dd⟩:=Af I.ah e
  have hz:xs.length<=sizeLine:=by rw [←Paired.length rel];exact z
  have hl:(putK kvs k v).length<=sizeLine:=by have:=eK kvs k v;lia
  refine wpAny_setItem_heap (hsz:=hz) (tupleKind_room_in1 hu) (cz I.ah eb) dd fun h' dd' hs=>h _ ?_
  obtain ⟨q,es,ep,hq,h2,h3,h4,_,h5⟩:=dd'
  refine jE I (by rw [e];exact True.intro) hs ⟨q,hq⟩ ⟨hl,hd,_,(rel.put k eb rv).keeps fun c ys ec=> ?_,q,es,ep,hq,h2,h3,h4,h5⟩
  rw [ao (oJ ec e (fun z=>nomatch z))]
  exact ec
end
section
variable {X:Cx} {pins:List (Addr×Obj)} {σ:St} {H:Hp} {s:Shared} {a:Addr} {kvs:List (Key×V)} {k:Key} {u:Value} {A:Around} {E:Value->Shared->Prop}
theorem F7 {Q:Value->Shared->Prop} (I:Inv X pins σ H s) (e:Rd H a (.dK kvs)) (h:∀t s',Inv X pins σ H s'->Q (.int kvs.length t) s'):wpAny (model X.prog X.w) A (call (.builtin "len") [.ref a]) Q E s:=by
 obtain ⟨z,hd,vs,rel,dd⟩:=eI I.ah e
 refine call_len_dict hd dd (by rw [←rel.length];rw [sizeLine_eq] at z;lia) ?_
 rw [←rel.length]
 exact h _ _ (I.tok _)
end
theorem ra {X:Cx} {σ:St} {H:Hp} {s:Shared} {a:Addr} {y:V} {o:Option V} (I:Inv X pins σ H s) (g:jl H a y o):s.TypeIs (.ref a) "dict":=by
 rcases g with ⟨kvs,k,e,_,_⟩|⟨kvs,k,b,e,_,_,_⟩
 ·obtain ⟨_,_,vs,_,dd⟩:=eI I.ah e
  exact dd.typeIs
 ·obtain ⟨_,_,xs,_,dd⟩:=eM I.ah e
  exact dd.typeIs
section
variable {X:Cx} {o i e value:Expr} {pos pos' tpos:Pos} {td ty tv:TE}
end
theorem pz {P:Program} {w:World} {H:Hp} (h:Heap) (hb:sysModules<h.objs.size):aN P w H (h.push {cls:= .type "dict",data:= .dict #[]}) h.objs.size (.dK []):=
 ⟨Nat.zero_le _,beq_eq_false_iff_ne.mpr (Ne.symm (Nat.ne_of_lt hb)),[], .nil,Heap.DictOf.new h⟩
theorem yA {P:Program} {w:World} {H:Hp} (h:Heap) (hb:sysModules<h.objs.size):aN P w H (h.push {cls:= .type "dict",data:= .dict #[]}) h.objs.size (.dT []):=
 ⟨Nat.zero_le _,beq_eq_false_iff_ne.mpr (Ne.symm (Nat.ne_of_lt hb)),[], .nil,_,#[],0,Heap.get?_push_size _ rfl,⟨rfl,rfl,rfl⟩,rfl,rfl,List.nodup_nil⟩
noncomputable def CA:TE:=fun _ H Q=>∀p,H p=none->Q (.ref p) (upd H p (.dK []))
section
variable {X:Cx} {pos:Pos}
theorem yH:PE X (.Dict [] [] pos) CA:=fun pins s σ H Q I h=>
 wpAny_Dict_empty ⟨.ref s.heap.objs.size,_,I.laid (a:=s.heap.objs.size) (o:= .dK []) (t':=s.toks) (fun _ _ q=>Heap.get?_push_of_some _ q) (Nat.le_refl _) (pz s.heap I.big),rfl,h _ (I.ah.fresh (Nat.le_refl _))⟩
end
structure M1 (X:Cx) (o:Expr) (m:Str) (apos:Pos) (e:Expr) (cpos:Pos):Prop where
 base:attributeBase o m X.env (eval o X.env)=eval o X.env
 few:((backTo cpos (starEach [e] X.env)).all (fun x=> !x.1)&&(backToKw cpos (keywordEach [] X.env)).all (fun x=>x.1.isSome)
  &&decide (([e]:List Expr).length+([]:List Keyword).length+(if ([]:List Keyword).isEmpty then 0 else 1)<30))=true
 line:(apos.endLine==cpos.line)=true
 trees:backTo cpos (starEach [e] X.env)=[(false,eval e X.env)]
structure M2 (X:Cx) (o:Expr) (m:Str) (apos:Pos) (e f:Expr) (cpos:Pos):Prop where
 base:attributeBase o m X.env (eval o X.env)=eval o X.env
 few:((backTo cpos (starEach [e,f] X.env)).all (fun x=> !x.1)&&(backToKw cpos (keywordEach [] X.env)).all (fun x=>x.1.isSome)
  &&decide (([e,f]:List Expr).length+([]:List Keyword).length+(if ([]:List Keyword).isEmpty then 0 else 1)<30))=true
 line:(apos.endLine==cpos.line)=true
 trees:backTo cpos (starEach [e,f] X.env)=[(false,eval e X.env),(false,eval f X.env)]
noncomputable def Aj (H:Hp) (a:Addr):Prop:=(∃kvs,Rd H a (.dK kvs))∨∃kvs,Rd H a (.dT kvs)
theorem wo {X:Cx} {σ:St} {H:Hp} {s:Shared} {a:Addr} (I:Inv X pins σ H s) (d:Aj H a):
  s.TypeIs (.ref a) "dict"/\(∀b,Value.ref a= .ref b->∃ob,s.heap.get? b=some ob/\ob.dict=none)/\(a==sysModules)=false:=by
 rcases d with ⟨kvs,e⟩|⟨kvs,e⟩
 ·obtain ⟨_,hd,vs,_,dd⟩:=eI I.ah e
  refine ⟨dd.typeIs,fun b q=> ?_,hd⟩
  cases q
  obtain ⟨ob,_,_,h1,h2,_⟩:=dd
  exact ⟨ob,h1,h2.2.1⟩
 ·obtain ⟨_,hd,xs,_,dd⟩:=eM I.ah e
  refine ⟨dd.typeIs,fun b q=> ?_,hd⟩
  cases q
  obtain ⟨ob,_,_,h1,h2,_⟩:=dd
  exact ⟨ob,h1,h2.2.1⟩
section
variable {X:Cx} {pins:List (Addr×Obj)} {σ:St} {H:Hp} {s:Shared} {a:Addr} {y d:V} {u r:Value} {o:Option V} {A:Around} {E:Value->Shared->Prop}
theorem EF {Q:Value->Shared->Prop} (hu:A.units+1<cLine) (I:Inv X pins σ H s) (g:jl H a y o) (ry:RelV y u) (h:∀w' s',Inv X pins σ H s'->RelV (o.getD .non) w'->Q w' s'):
  wpAny (model X.prog X.w) A (call (.builtin "dict.get") [.ref a,u]) Q E s:=by
 rcases g with ⟨kvs,k,e,ey,l⟩|⟨kvs,k,b,e,ey,eb,l⟩
 ·subst ey
  obtain ⟨z,hd,vs,rel,dd⟩:=eI I.ah e
  refine call_meetsIn PySem.F.slot_dict_get dd.typeIs PySem.F.entry_dict_get (PySem.F.args_dict_get_2 _ _) (meets_dict_get (aG X.prog X.w) a (dr ry) hd) ⟨_,dd.mapOf,h _ _ (I.tok _) ?_⟩
  rw [l]
  exact (rel.val k).getD rfl
 ·subst ey
  cases (show u=Value.ref b from ry)
  obtain ⟨z,hd,xs,rel,dd⟩:=eM I.ah e
  refine call_meetsIn PySem.F.slot_dict_get dd.typeIs PySem.F.entry_dict_get (PySem.F.args_dict_get_2 _ _) (meetsH_dict_get (tupleKind (aG X.prog X.w)) a b hd) ⟨tupleKind_room_in1 hu,k,xs,cz I.ah eb,dd,h _ _ (I.tok _) ?_⟩
  rw [l]
  exact (rel.val k).getD rfl
theorem EB {Q:Value->Shared->Prop} (hu:A.units+1<cLine) (I:Inv X pins σ H s) (g:jl H a y o) (ry:RelV y u) (rd:RelV d r) (h:∀w' s',Inv X pins σ H s'->RelV (o.getD d) w'->Q w' s'):
  wpAny (model X.prog X.w) A (call (.builtin "dict.get") [.ref a,u,r]) Q E s:=by
 rcases g with ⟨kvs,k,e,ey,l⟩|⟨kvs,k,b,e,ey,eb,l⟩
 ·subst ey
  obtain ⟨z,hd,vs,rel,dd⟩:=eI I.ah e
  refine call_meetsIn PySem.F.slot_dict_get dd.typeIs PySem.F.entry_dict_get (PySem.F.args_dict_get_3 _ _ _) (meets_dict_get_default (aG X.prog X.w) a (dr ry) hd r) ⟨_,dd.mapOf,h _ _ (I.tok _) ?_⟩
  rw [l]
  exact (rel.val k).getD rd
 ·subst ey
  cases (show u=Value.ref b from ry)
  obtain ⟨z,hd,xs,rel,dd⟩:=eM I.ah e
  refine call_meetsIn PySem.F.slot_dict_get dd.typeIs PySem.F.entry_dict_get (PySem.F.args_dict_get_3 _ _ _) (meetsH_dict_get_default (tupleKind (aG X.prog X.w)) a b hd r) ⟨tupleKind_room_in1 hu,k,xs,cz I.ah eb,dd,h _ _ (I.tok _) ?_⟩
  rw [l]
  exact (rel.val k).getD rd
end
section
variable {X:Cx} {o e f:Expr} {apos cpos:Pos} {td ty tx:TE}
end
section
variable {X:Cx} {pins:List (Addr×Obj)} {σ:St} {H:Hp} {s:Shared} {a:Addr} {kvs:List (Key×V)} {A:Around} {E:Value->Shared->Prop}
end
section
variable {X:Cx} {pins:List (Addr×Obj)} {σ:St} {H:Hp} {s:Shared} {a:Addr} {y:V} {u:Value} {A:Around} {E:Value->Shared->Prop}
end
end L2
namespace SortT
open PySem PySem.W PyProof.Rows
noncomputable def ai {α:Type} (lt:Nat->Nat->Bool):KasT α->α
 | .ret a=>a
 | .ask i j k=>ai lt (k (lt i j))
theorem dA {α β:Type} (lt:Nat->Nat->Bool) (f:α->KasT β):∀t:KasT α,ai lt (t.bind f)=ai lt (f (ai lt t))
 | .ret _=>rfl
 | .ask i j k=>dA lt f (k (lt i j))
noncomputable def bu {α:Type} (lt:Nat->Nat->Bool) (n:Nat):KasT α->Prop
 | .ret _=>True
 | .ask i j k=>i<n/\j<n/\bu lt n (k (lt i j))
theorem bu.bind {α β:Type} {lt:Nat->Nat->Bool} {n:Nat} {f:α->KasT β}:∀{t:KasT α},bu lt n t->bu lt n (f (ai lt t))->bu lt n (t.bind f)
 | .ret a,_,hf=>hf
 | .ask i j k,h,hf=>⟨h.1,h.2.1,bu.bind h.2.2 hf⟩
theorem wp_run {α:Type} {n:Nat} {lt:Nat->Nat->Bool} {cmp:Nat->Nat->(Bool->Shared->Prop)->Shared->Prop} {s:Shared} (hc:∀i j C,i<n->j<n->C (lt i j) s->cmp i j C s) {Q:α->Shared->Prop}:∀{t:KasT α},bu lt n t->Q (ai lt t) s->t.kasWp cmp Q s
 | .ret _,_,q=>q
 | .ask i j k,h,q=>hc i j _ h.1 h.2.1 (wp_run hc h.2.2 q)
noncomputable abbrev g (p:Array Nat) (i:Nat):Nat:=p.getD i 0
theorem ik {p:Array Nat} {i:Nat}:g p i=(p[i]?).getD 0:=by
 unfold g
 rw [Array.getD_eq_getD_getElem?]
noncomputable def jk (N:Nat) (p:Array Nat):Prop:=∀i,g p i<N
theorem jk.of {N:Nat} {p:Array Nat} (h0:0<N) (h:∀x∈p,x<N):jk N p:=fun i=>by
 rw [ik]
 cases e:p[i]? with
 |none=>exact h0
 |some x=>exact h x (Array.mem_of_getElem? e)
theorem jk.perm {N:Nat} {p q:Array Nat} (h0:0<N) (h:∀x∈p,x<N) (pm:q.Perm p):jk N q:=jk.of h0 fun x hx=>h x (pm.mem_iff.mp hx)
theorem eL {p:Array Nat} {i j:Nat} (hj:j<=p.size) (k:Nat):g (kas_rev p i j) k=if i<=k/\k<j then g p (i+j-1-k) else g p k:=by
 rw [ik]
 unfold kas_rev
 rw [getElem?_mirror_all hj]
 split
 ·rw [ik]
 ·rw [ik]
theorem EW {p:Array Nat} {s d:Nat} (hs:s<p.size) (hd:d<=s) (k:Nat):g (bubble p s d) k=if k=s-d then g p s else if s-d<k/\k<=s then g p (k-1) else g p k:=by
 have e:(bubble p s d)[k]?=_:=getElem?_bubble hs d hd k
 have a1:g (bubble p s d) k=((bubble p s d)[k]?).getD 0:=ik
 have a2:g p s=(p[s]?).getD 0:=ik
 have a3:g p (k-1)=(p[k-1]?).getD 0:=ik
 have a4:g p k=(p[k]?).getD 0:=ik
 rw [a1,e,a2,a3,a4]
 by_cases c:k=s-d
 ·rw [if_pos c,if_pos c]
 ·rw [if_neg c,if_neg c]
  by_cases c2:s-d<k/\k<=s
  ·rw [if_pos c2,if_pos c2]
  ·rw [if_neg c2,if_neg c2]
theorem gW {p:Array Nat} {i j:Nat}:(kas_rev p i j).size=p.size:=mirror_size ..
theorem cT {p:Array Nat} {i j:Nat}:(kas_rev p i j).Perm p:=mirror_perm ..
structure Ord (lt:Nat->Nat->Bool):Prop where
 tr:∀a b c,lt b a=false->lt c b=false->lt c a=false
 as:∀a b,lt a b=true->lt b a=false
section
variable {lt:Nat->Nat->Bool} (O:Ord lt)
include O
theorem Ord.rf (a:Nat):lt a a=false:=by
 cases e:lt a a with
 |false=>rfl
 |true=>exact (O.as a a e).symm.trans e|>.symm▸rfl
omit O
noncomputable def dH (lt:Nat->Nat->Bool) (p:Array Nat) (m:Nat):Prop:=∀i j,i<=j->j<m->lt (g p j) (g p i)=false
noncomputable def c7 (lt:Nat->Nat->Bool) (p:Array Nat) (m:Nat):Prop:=∀i j,i<=j->j<m->lt (g p i) (g p j)=false
noncomputable def v9 (lt:Nat->Nat->Bool) (p:Array Nat) (a b:Nat):Prop:=∀i j,a<=i->i<b->a<=j->j<b->lt (g p i) (g p j)=false
include O
theorem dH.one {p:Array Nat}:dH lt p 1:=fun i j h1 h2=>by
 have:i=j:=by lia
 rw [this]
 exact O.rf _
theorem dH.up {p:Array Nat} {m:Nat} (h:dH lt p m) (hm:1<=m) (c:lt (g p m) (g p (m-1))=false):dH lt p (m+1):=fun i j h1 h2=>by
 by_cases e:j=m
 ·subst e
  by_cases e2:i=j
  ·rw [e2]
   exact O.rf _
  ·exact O.tr _ _ _ (h i (j-1) (by lia) (by lia)) c
 ·exact h i j h1 (by lia)
theorem pb {p:Array Nat}:∀(f n:Nat),1<=n->dH lt p n->n<=ai lt (kas_asc p f n)/\ai lt (kas_asc p f n)<=n+f/\dH lt p (ai lt (kas_asc p f n))/\(ai lt (kas_asc p f n)=n+f∨lt (g p (ai lt (kas_asc p f n))) (g p (ai lt (kas_asc p f n)-1))=true)
 |0,n,_,h=>⟨Nat.le_refl _,Nat.le_refl _,h, .inl rfl⟩
 |f+1,n,h1,h=>by
  have e:ai lt (kas_asc p (f+1) n)=ai lt (if lt (g p n) (g p (n-1))=true then .ret n else kas_asc p f (n+1)):=rfl
  rw [e]
  by_cases c:lt (g p n) (g p (n-1))=true
  ·rw [if_pos c]
   exact ⟨Nat.le_refl _,by show n<=n+(f+1);lia,h, .inr c⟩
  ·rw [if_neg c]
   obtain ⟨a1,a2,a3,a4⟩:=pb f (n+1) (by lia) (dH.up O h h1 (by simpa using c))
   exact ⟨by lia,by lia,a3,a4.imp (fun z=>by lia) id⟩
omit O in
theorem mB {p:Array Nat} {N:Nat} (b:jk N p):∀(f n:Nat),bu lt N (kas_asc p f n)
 |0,n=>trivial
 |f+1,n=>⟨b _,b _,by
  show bu lt N (if lt (g p n) (g p (n-1))=true then .ret n else kas_asc p f (n+1))
  split
  ·trivial
  ·exact mB b f (n+1)⟩
theorem c7.up {p:Array Nat} {m:Nat} (h:c7 lt p m) (hm:1<=m) (c:lt (g p (m-1)) (g p m)=false):c7 lt p (m+1):=fun i j h1 h2=>by
 by_cases e:j=m
 ·subst e
  by_cases e2:i=j
  ·rw [e2]
   exact O.rf _
  ·exact O.tr _ _ _ c (h i (j-1) (by lia) (by lia))
 ·exact h i j h1 (by lia)
theorem c7.turn {p:Array Nat} {a m:Nat} (hm:m<=p.size) (h:c7 lt p m) (q:v9 lt p a m):c7 lt (kas_rev p a m) m:=fun i j h1 h2=>by
 rw [eL hm,eL hm]
 by_cases ci:a<=i
 ·rw [if_pos ⟨ci,by lia⟩,if_pos ⟨by lia,h2⟩]
  exact q _ _ (by lia) (by lia) (by lia) (by lia)
 ·rw [if_neg (by lia)]
  by_cases cj:a<=j
  ·rw [if_pos ⟨cj,h2⟩]
   exact h _ _ (by lia) (by lia)
  ·rw [if_neg (by lia)]
   exact h _ _ h1 h2
theorem gy:∀(f:Nat) (p:Array Nat) (n q:Nat),n+f<=p.size->q+1<=n->c7 lt p n->v9 lt p (n-(q+1)) n->
  (ai lt (kas_desc f p n q)).1.Perm p/\n<=(ai lt (kas_desc f p n q)).2.1/\(ai lt (kas_desc f p n q)).2.1<=n+f/\(ai lt (kas_desc f p n q)).2.2+1<=(ai lt (kas_desc f p n q)).2.1/\c7 lt (ai lt (kas_desc f p n q)).1 (ai lt (kas_desc f p n q)).2.1/\
   v9 lt (ai lt (kas_desc f p n q)).1 ((ai lt (kas_desc f p n q)).2.1-((ai lt (kas_desc f p n q)).2.2+1)) (ai lt (kas_desc f p n q)).2.1
 |0,p,n,q,hz,hq,h,he=>⟨.refl _,Nat.le_refl _,Nat.le_refl _,hq,h,he⟩
 |f+1,p,n,q,hz,hq,h,he=>by
  have one:∀(p:Array Nat),v9 lt p (n+1-(0+1)) (n+1):=fun p i j a1 a2 a3 a4=>by
   have e1:i=n:=by lia
   have e2:j=n:=by lia
   rw [e1,e2]
   exact O.rf _
  have e:ai lt (kas_desc (f+1) p n q)=ai lt (if lt (g p n) (g p (n-1))=true then (if q>0 then kas_desc f (kas_rev p (n-(q+1)) n) (n+1) 0 else kas_desc f p (n+1) 0)
    else .ask (g p (n-1)) (g p n) fun d=>if d=true then .ret (p,n,q) else kas_desc f p (n+1) (q+1)):=rfl
  rw [e]
  by_cases c:lt (g p n) (g p (n-1))=true
  ·rw [if_pos c]
   have c':=O.as _ _ c
   by_cases c2:q>0
   ·rw [if_pos c2]
    have hn:n<=p.size:=by lia
    have d1:=c7.turn O hn h he
    have gn:g (kas_rev p (n-(q+1)) n) n=g p n:=by
     rw [eL hn,if_neg (by lia)]
    have gm:g (kas_rev p (n-(q+1)) n) (n-1)=g p (n-(q+1)):=by
     rw [eL hn,if_pos (by lia)]
     congr 1
     lia
    have d2:c7 lt (kas_rev p (n-(q+1)) n) (n+1):=c7.up O d1 (by lia) (by
     rw [gn,gm]
     exact O.tr _ _ _ c' (he _ _ (by lia) (by lia) (by lia) (by lia)))
    obtain ⟨a1,a2,a3,a4,a5,a6⟩:=gy f (kas_rev p (n-(q+1)) n) (n+1) 0 (by rw [gW];lia) (by lia) d2 (one _)
    exact ⟨a1.trans cT,by lia,by lia,a4,a5,a6⟩
   ·rw [if_neg c2]
    obtain ⟨a1,a2,a3,a4,a5,a6⟩:=gy f p (n+1) 0 (by lia) (by lia) (c7.up O h (by lia) c') (one _)
    exact ⟨a1,by lia,by lia,a4,a5,a6⟩
  ·rw [if_neg c]
   have c0:lt (g p n) (g p (n-1))=false:=by simpa using c
   show (ai lt (if lt (g p (n-1)) (g p n)=true then .ret (p,n,q) else kas_desc f p (n+1) (q+1))).1.Perm p/\_
   have e3:ai lt (KasT.ask (g p (n-1)) (g p n) fun d=>if d=true then KasT.ret (p,n,q) else kas_desc f p (n+1) (q+1))=ai lt (if lt (g p (n-1)) (g p n)=true then .ret (p,n,q) else kas_desc f p (n+1) (q+1)):=rfl
   rw [e3]
   by_cases d:lt (g p (n-1)) (g p n)=true
   ·rw [if_pos d]
    exact ⟨.refl _,Nat.le_refl _,by show n<=n+(f+1);lia,hq,h,he⟩
   ·rw [if_neg d]
    have d0:lt (g p (n-1)) (g p n)=false:=by simpa using d
    obtain ⟨a1,a2,a3,a4,a5,a6⟩:=gy f p (n+1) (q+1) (by lia) (by lia) (c7.up O h (by lia) d0) (fun i j b1 b2 b3 b4=>by
     by_cases ei:i=n
     ·by_cases ej:j=n
      ·rw [ei,ej]
       exact O.rf _
      ·rw [ei]
       exact O.tr _ _ _ (he j (n-1) (by lia) (by lia) (by lia) (by lia)|>fun _=>he (n-1) j (by lia) (by lia) (by lia) (by lia)) c0
     ·by_cases ej:j=n
      ·rw [ej]
       exact O.tr _ _ _ d0 (he i (n-1) (by lia) (by lia) (by lia) (by lia))
      ·exact he i j (by lia) (by lia) (by lia) (by lia))
    exact ⟨a1,by lia,by lia,a4,a5,a6⟩
omit O in
theorem gS {N:Nat} (h0:0<N):∀(f:Nat) (p:Array Nat) (n q:Nat),(∀x∈p,x<N)->bu lt N (kas_desc f p n q)
 |0,p,n,q,_=>trivial
 |f+1,p,n,q,hb=>by
  have b:=jk.of h0 hb
  refine ⟨b _,b _, ?_⟩
  show bu lt N (if lt (g p n) (g p (n-1))=true then (if q>0 then kas_desc f (kas_rev p (n-(q+1)) n) (n+1) 0 else kas_desc f p (n+1) 0)
    else .ask (g p (n-1)) (g p n) fun d=>if d=true then .ret (p,n,q) else kas_desc f p (n+1) (q+1))
  split
  ·split
   ·exact gS h0 f _ _ _ fun x hx=>hb x (cT.mem_iff.mp hx)
   ·exact gS h0 f _ _ _ hb
  ·refine ⟨b _,b _, ?_⟩
   show bu lt N (if lt (g p (n-1)) (g p n)=true then .ret (p,n,q) else kas_desc f p (n+1) (q+1))
   split
   ·trivial
   ·exact gS h0 f _ _ _ hb
theorem rR {p:Array Nat} {n nrem:Nat} (h1:1<=n) (hn:n<=nrem) (hz:nrem<=p.size) (h:c7 lt p n):(ai lt (kas_tail3 n nrem p)).2.Perm p/\1<=(ai lt (kas_tail3 n nrem p)).1/\(ai lt (kas_tail3 n nrem p)).1<=nrem/\dH lt (ai lt (kas_tail3 n nrem p)).2 (ai lt (kas_tail3 n nrem p)).1:=by
 unfold kas_tail3
 rw [dA]
 have s:dH lt (kas_rev p 0 n) n:=fun i j a1 a2=>by
  rw [eL (by lia),eL (by lia),if_pos ⟨by lia,a2⟩,if_pos ⟨by lia,by lia⟩]
  exact h _ _ (by lia) (by lia)
 obtain ⟨a1,a2,a3,_⟩:=pb O (p:=kas_rev p 0 n) (nrem-n) n h1 s
 exact ⟨cT,by show 1<=ai lt (kas_asc (kas_rev p 0 n) (nrem-n) n);lia,by show ai lt (kas_asc (kas_rev p 0 n) (nrem-n) n)<=nrem;lia,a3⟩
theorem jY {p:Array Nat} {n nrem:Nat} (h1:1<=n) (hn:n+1<=nrem) (hz:nrem<=p.size) (h:c7 lt p (n+1)):
  (ai lt (kas_descPart n nrem p)).2.Perm p/\1<=(ai lt (kas_descPart n nrem p)).1/\(ai lt (kas_descPart n nrem p)).1<=nrem/\dH lt (ai lt (kas_descPart n nrem p)).2 (ai lt (kas_descPart n nrem p)).1:=by
 unfold kas_descPart
 rw [dA]
 obtain ⟨a1,a2,a3,a4,a5,a6⟩:=gy O (nrem-(n+1)) p (n+1) 0 (by lia) (by lia) h (fun i j b1 b2 b3 b4=>by
  have e1:i=n:=by lia
  have e2:j=n:=by lia
  rw [e1,e2]
  exact O.rf _)
 generalize ai lt (kas_desc (nrem-(n+1)) p (n+1) 0)=r at a1 a2 a3 a4 a5 a6⊢
 have sz:r.1.size=p.size:=a1.size_eq
 split
 ·obtain ⟨c1,c2,c3,c4⟩:=rR O (p:=kas_rev r.1 (r.2.1-(r.2.2+1)) r.2.1) (n:=r.2.1) (nrem:=nrem) (by lia) (by lia) (by rw [gW];lia) (c7.turn O (by lia) a5 a6)
  exact ⟨c1.trans (cT.trans a1),c2,c3,c4⟩
 ·obtain ⟨c1,c2,c3,c4⟩:=rR O (p:=r.1) (n:=r.2.1) (nrem:=nrem) (by lia) (by lia) (by lia) a5
  exact ⟨c1.trans a1,c2,c3,c4⟩
omit O in
theorem pv {p:Array Nat} {n nrem N:Nat} (h0:0<N) (hb:∀x∈p,x<N):bu lt N (kas_tail3 n nrem p):=bu.bind (mB (jk.perm h0 hb cT) _ _) trivial
theorem iY {p:Array Nat} {n nrem N:Nat} (h0:0<N) (hb:∀x∈p,x<N) (h1:1<=n) (hn:n+1<=nrem) (hz:nrem<=p.size) (h:c7 lt p (n+1)):bu lt N (kas_descPart n nrem p):=by
 unfold kas_descPart
 refine bu.bind (gS h0 _ _ _ _ hb) ?_
 obtain ⟨a1,_⟩:=gy O (nrem-(n+1)) p (n+1) 0 (by lia) (by lia) h (fun i j b1 b2 b3 b4=>by
  have e1:i=n:=by lia
  have e2:j=n:=by lia
  rw [e1,e2]
  exact O.rf _)
 split
 ·exact pv h0 fun x hx=>hb x (a1.mem_iff.mp (cT.mem_iff.mp hx))
 ·exact pv h0 fun x hx=>hb x (a1.mem_iff.mp hx)
theorem yh {p:Array Nat} {nrem N:Nat} (h0:0<N) (hb:∀x∈p,x<N) (h1:1<=nrem) (hz:nrem<=p.size):bu lt N (kas_count nrem p)/\(ai lt (kas_count nrem p)).2.Perm p/\1<=(ai lt (kas_count nrem p)).1/\(ai lt (kas_count nrem p)).1<=nrem/\dH lt (ai lt (kas_count nrem p)).2 (ai lt (kas_count nrem p)).1:=by
 have b:=jk.of h0 hb
 obtain ⟨a1,a2,a3,a4⟩:=pb O (p:=p) (nrem-1) 1 (Nat.le_refl _) (dH.one O)
 have key:bu lt N (if (ai lt (kas_asc p (nrem-1) 1)==nrem)=true then KasT.ret (ai lt (kas_asc p (nrem-1) 1),p) else if ai lt (kas_asc p (nrem-1) 1)>1 then KasT.ask (g p 0) (g p (ai lt (kas_asc p (nrem-1) 1)-1)) fun c=>if c=true then .ret (ai lt (kas_asc p (nrem-1) 1),p) else kas_descPart (ai lt (kas_asc p (nrem-1) 1)) nrem (kas_rev p 0 (ai lt (kas_asc p (nrem-1) 1)))
   else kas_descPart (ai lt (kas_asc p (nrem-1) 1)) nrem p)/\∀r,r=ai lt (if (ai lt (kas_asc p (nrem-1) 1)==nrem)=true then KasT.ret (ai lt (kas_asc p (nrem-1) 1),p) else if ai lt (kas_asc p (nrem-1) 1)>1 then KasT.ask (g p 0) (g p (ai lt (kas_asc p (nrem-1) 1)-1)) fun c=>if c=true then .ret (ai lt (kas_asc p (nrem-1) 1),p) else kas_descPart (ai lt (kas_asc p (nrem-1) 1)) nrem (kas_rev p 0 (ai lt (kas_asc p (nrem-1) 1)))
   else kas_descPart (ai lt (kas_asc p (nrem-1) 1)) nrem p)->r.2.Perm p/\1<=r.1/\r.1<=nrem/\dH lt r.2 r.1:=by
  generalize ai lt (kas_asc p (nrem-1) 1)=m at a1 a2 a3 a4⊢
  split
  ·exact ⟨trivial,fun r hr=>by subst hr;exact ⟨.refl _,a1,by show m<=nrem;lia,a3⟩⟩
  ·rename_i hne
   have hm:m≠nrem:=fun e=>hne (by simpa using e)
   have hlt:lt (g p m) (g p (m-1))=true:=a4.resolve_left (by lia)
   split
   ·by_cases c:lt (g p 0) (g p (m-1))=true
    ·refine ⟨⟨b _,b _,by show bu lt N (if lt (g p 0) (g p (m-1))=true then _ else _);rw [if_pos c];trivial⟩,fun r hr=> ?_⟩
     have e:r=ai lt (if lt (g p 0) (g p (m-1))=true then KasT.ret (m,p) else kas_descPart m nrem (kas_rev p 0 m)):=hr
     rw [if_pos c] at e
     subst e
     exact ⟨.refl _,a1,by show m<=nrem;lia,a3⟩
    ·have c0:lt (g p 0) (g p (m-1))=false:=by simpa using c
     have hmz:m<=p.size:=by lia
     have eqs:v9 lt p 0 m:=fun i j _ b2 _ b4=>by
      have x1:lt (g p (m-1)) (g p i)=false:=a3 i (m-1) (by lia) (by lia)
      have x2:lt (g p j) (g p 0)=false:=a3 0 j (by lia) b4
      have y1:lt (g p 0) (g p j)=false:=O.tr _ _ _ (a3 j (m-1) (by lia) (by lia)) c0
      have y2:lt (g p i) (g p 0)=false:=a3 0 i (by lia) b2
      exact O.tr _ _ _ y1 y2
     have d1:c7 lt (kas_rev p 0 m) m:=fun i j b1 b2=>by
      rw [eL hmz,eL hmz,if_pos ⟨by lia,by lia⟩,if_pos ⟨by lia,b2⟩]
      exact eqs _ _ (by lia) (by lia) (by lia) (by lia)
     have d2:c7 lt (kas_rev p 0 m) (m+1):=c7.up O d1 (by lia) (by
      rw [eL hmz,eL hmz,if_pos ⟨by lia,by lia⟩,if_neg (by lia)]
      exact O.tr _ _ _ (O.as _ _ hlt) (eqs _ _ (by lia) (by lia) (by lia) (by lia)))
     have hb':∀x∈kas_rev p 0 m,x<N:=fun x hx=>hb x (cT.mem_iff.mp hx)
     refine ⟨⟨b _,b _,by show bu lt N (if lt (g p 0) (g p (m-1))=true then _ else _);rw [if_neg c];exact iY O h0 hb' (by lia) (by lia) (by rw [gW];lia) d2⟩,fun r hr=> ?_⟩
     have e:r=ai lt (if lt (g p 0) (g p (m-1))=true then KasT.ret (m,p) else kas_descPart m nrem (kas_rev p 0 m)):=hr
     rw [if_neg c] at e
     subst e
     obtain ⟨z1,z2,z3,z4⟩:=jY O (p:=kas_rev p 0 m) (n:=m) (nrem:=nrem) (by lia) (by lia) (by rw [gW];lia) d2
     exact ⟨z1.trans cT,z2,z3,z4⟩
   ·have m1:m=1:=by lia
    have d2:c7 lt p (m+1):=by
     subst m1
     exact c7.up O (fun i j b1 b2=>by
      have:i=j:=by lia
      rw [this]
      exact O.rf _) (Nat.le_refl _) (O.as _ _ hlt)
    refine ⟨iY O h0 hb (by lia) (by lia) hz d2,fun r hr=> ?_⟩
    subst hr
    exact jY O (by lia) (by lia) hz d2
 have e:ai lt (kas_count nrem p)=_:=dA lt _ (kas_asc p (nrem-1) 1)
 refine ⟨bu.bind (mB b _ _) key.1, ?_⟩
 rw [e]
 exact key.2 _ rfl
theorem j9 {p:Array Nat} {k N:Nat} (b:jk N p) (s:dH lt p k):∀(f l r:Nat),l<=r->r<=k->r-l<=f->(∀i,i<l->lt (g p k) (g p i)=false)->(∀i,r<=i->i<k->lt (g p k) (g p i)=true)->
  bu lt N (kas_place p k f l r)/\ai lt (kas_place p k f l r)<=k/\(∀i,i<ai lt (kas_place p k f l r)->lt (g p k) (g p i)=false)/\∀i,ai lt (kas_place p k f l r)<=i->i<k->lt (g p k) (g p i)=true
 |0,l,r,h1,h2,h3,h4,h5=>by
  have:l=r:=by lia
  subst this
  exact ⟨trivial,h2,h4,h5⟩
 |f+1,l,r,h1,h2,h3,h4,h5=>by
  unfold kas_place
  by_cases c:l≥r
  ·rw [if_pos c]
   have:l=r:=by lia
   subst this
   exact ⟨trivial,h2,h4,h5⟩
  ·rw [if_neg c]
   have e:ai lt (KasT.ask (g p k) (g p ((l+r)/2)) fun c=>if c=true then kas_place p k f l ((l+r)/2) else kas_place p k f ((l+r)/2+1) r)=ai lt (if lt (g p k) (g p ((l+r)/2))=true then kas_place p k f l ((l+r)/2) else kas_place p k f ((l+r)/2+1) r):=rfl
   have e2:bu lt N (KasT.ask (g p k) (g p ((l+r)/2)) fun c=>if c=true then kas_place p k f l ((l+r)/2) else kas_place p k f ((l+r)/2+1) r)=(g p k<N/\g p ((l+r)/2)<N/\bu lt N (if lt (g p k) (g p ((l+r)/2))=true then kas_place p k f l ((l+r)/2) else kas_place p k f ((l+r)/2+1) r)):=rfl
   rw [e,e2]
   by_cases d:lt (g p k) (g p ((l+r)/2))=true
   ·rw [if_pos d]
    obtain ⟨z1,z2,z3,z4⟩:=j9 b s f l ((l+r)/2) (by lia) (by lia) (by lia) h4 (fun i b1 b2=>by
     cases q:lt (g p k) (g p i) with
     |true=>rfl
     |false=>
      have x:=s ((l+r)/2) i b1 b2
      have y:=O.tr _ _ _ x q
      rw [d] at y
      cases y)
    exact ⟨⟨b _,b _,z1⟩,z2,z3,z4⟩
   ·rw [if_neg d]
    have d0:lt (g p k) (g p ((l+r)/2))=false:=by simpa using d
    obtain ⟨z1,z2,z3,z4⟩:=j9 b s f ((l+r)/2+1) r (by lia) h2 (by lia) (fun i b1=>O.tr _ _ _ (s i ((l+r)/2) (by lia) (by lia)) d0) h5
    exact ⟨⟨b _,b _,z1⟩,z2,z3,z4⟩
theorem vP {N:Nat} (h0:0<N):∀(f:Nat) (p:Array Nat) (k:Nat),(∀x∈p,x<N)->k+f<=p.size->dH lt p k->bu lt N (kas_bin f p k)/\(ai lt (kas_bin f p k)).Perm p/\dH lt (ai lt (kas_bin f p k)) (k+f)
 |0,p,k,_,_,h=>⟨trivial, .refl _,h⟩
 |f+1,p,k,hb,hz,h=>by
  obtain ⟨z1,z2,z3,z4⟩:=j9 O (jk.of h0 hb) h k 0 k (by lia) (Nat.le_refl _) (by lia) (fun i hi=>by lia) (fun i b1 b2=>by lia)
  generalize el:ai lt (kas_place p k k 0 k)=l at z2 z3 z4
  have ks:k<p.size:=by lia
  have kl:k-(k-l)=l:=by lia
  have gb:=EW (p:=p) (s:=k) (d:=k-l) ks (by lia)
  rw [kl] at gb
  have s2:dH lt (bubble p k (k-l)) (k+1):=fun i j b1 b2=>by
   rw [gb,gb]
   by_cases ej:j=l
   ·rw [if_pos ej]
    by_cases ei:i=l
    ·rw [if_pos ei]
     exact O.rf _
    ·rw [if_neg ei,if_neg (by lia)]
     exact z3 i (by lia)
   ·rw [if_neg ej]
    by_cases cj:l<j/\j<=k
    ·rw [if_pos cj]
     by_cases ei:i=l
     ·rw [if_pos ei]
      exact O.as _ _ (z4 (j-1) (by lia) (by lia))
     ·rw [if_neg ei]
      by_cases ci:l<i/\i<=k
      ·rw [if_pos ci]
       exact h _ _ (by lia) (by lia)
      ·rw [if_neg ci]
       exact h _ _ (by lia) (by lia)
    ·rw [if_neg cj,if_neg (by lia),if_neg (by lia)]
     exact h _ _ b1 (by lia)
  have hb':∀x∈bubble p k (k-l),x<N:=fun x hx=>hb x ((bubble_perm p k (k-l)).mem_iff.mp hx)
  obtain ⟨y1,y2,y3⟩:=vP h0 f (bubble p k (k-l)) (k+1) hb' (by rw [bubble_size];lia) s2
  have e:ai lt (kas_bin (f+1) p k)=ai lt (kas_bin f (bubble p k (k-l)) (k+1)):=by
   show ai lt ((kas_place p k k 0 k).bind fun l=>kas_bin f (bubble p k (k-l)) (k+1))=_
   rw [dA,el]
  refine ⟨bu.bind z1 (by rw [el];exact y1), ?_, ?_⟩
  ·rw [e]
   exact y2.trans (bubble_perm ..)
  ·rw [e,show k+(f+1)=k+1+f by lia]
   exact y3
theorem mH {n:Nat} (hn:1<=n):bu lt n (kas_sort n)/\(ai lt (kas_sort n)).toList.Perm (List.range n)/\dH lt (ai lt (kas_sort n)) n:=by
 have hb:∀x∈List.toArray (List.range n),x<n:=fun x hx=>by simpa using hx
 obtain ⟨a1,a2,a3,a4,a5⟩:=yh O (p:=List.toArray (List.range n)) (nrem:=n) hn hb hn (by simp)
 have key:bu lt n (if (ai lt (kas_count n (List.toArray (List.range n)))).1<n then kas_bin (n-max (ai lt (kas_count n (List.toArray (List.range n)))).1 1) (ai lt (kas_count n (List.toArray (List.range n)))).2 (max (ai lt (kas_count n (List.toArray (List.range n)))).1 1) else .ret (ai lt (kas_count n (List.toArray (List.range n)))).2)/\
   ∀q,q=ai lt (if (ai lt (kas_count n (List.toArray (List.range n)))).1<n then kas_bin (n-max (ai lt (kas_count n (List.toArray (List.range n)))).1 1) (ai lt (kas_count n (List.toArray (List.range n)))).2 (max (ai lt (kas_count n (List.toArray (List.range n)))).1 1) else .ret (ai lt (kas_count n (List.toArray (List.range n)))).2)->q.toList.Perm (List.range n)/\dH lt q n:=by
  generalize ai lt (kas_count n (List.toArray (List.range n)))=r at a2 a3 a4 a5⊢
  have hbr:∀x∈r.2,x<n:=fun x hx=>hb x (a2.mem_iff.mp hx)
  have sz:r.2.size=n:=by
   rw [a2.size_eq]
   simp
  have pm:r.2.toList.Perm (List.range n):=by
   have:=Array.perm_iff_toList_perm.mp a2
   simpa using this
  by_cases c:r.1<n
  ·rw [if_pos c]
   have e:max r.1 1=r.1:=by lia
   rw [e]
   obtain ⟨y1,y2,y3⟩:=vP O hn (n-r.1) r.2 r.1 hbr (by lia) a5
   refine ⟨y1,fun q hq=> ?_⟩
   subst hq
   have:r.1+(n-r.1)=n:=by lia
   rw [this] at y3
   exact ⟨(Array.perm_iff_toList_perm.mp y2).trans pm,y3⟩
  ·rw [if_neg c]
   have e:r.1=n:=by lia
   rw [e] at a5
   exact ⟨trivial,fun q hq=>by subst hq;exact ⟨pm,a5⟩⟩
 refine ⟨bu.bind a1 key.1, ?_⟩
 have e:ai lt (kas_sort n)=_:=dA lt _ (kas_count n (List.toArray (List.range n)))
 rw [e]
 exact key.2 _ rfl
end
end SortT
namespace L2.L3
open PySem PySem.Spec PyProof.Rows PySem.W
theorem lS:∀{x y:List Int},HT.lexLt x y=true->HT.lexLt y x=false
 |[],[],h=>rfl
 |[],_::_,h=>rfl
 |_::_,[],h=>by cases h
 |a::r,b::t,h=>by
  rw [HT.dM] at h⊢
  by_cases c:a=b
  ·rw [if_pos c] at h
   rw [if_pos c.symm]
   exact lS h
  ·rw [if_neg c] at h
   rw [if_neg (fun z=>c z.symm)]
   have:=of_decide_eq_true h
   exact decide_eq_false (by lia)
theorem pE:∀{x y z:List Int},HT.lexLt y x=false->HT.lexLt z y=false->HT.lexLt z x=false
 |[],[],z,_,h2=>h2
 |[],_::_,[],_,h2=>by cases h2
 |[],_::_,_::_,_,_=>rfl
 |_::_,[],z,h1,_=>by cases h1
 |a::r,b::t,[],_,h2=>by cases h2
 |a::r,b::t,c::u,h1,h2=>by
  rw [HT.dM] at h1 h2⊢
  by_cases e1:b=a
  ·rw [if_pos e1] at h1
   by_cases e2:c=b
   ·rw [if_pos e2] at h2
    rw [if_pos (e2.trans e1)]
    exact pE h1 h2
   ·rw [if_neg e2] at h2
    rw [if_neg (fun z=>e2 (z.trans e1.symm))]
    have:=of_decide_eq_false h2
    exact decide_eq_false (by lia)
  ·rw [if_neg e1] at h1
   have k1:=of_decide_eq_false h1
   by_cases e2:c=b
   ·rw [if_pos e2] at h2
    rw [if_neg (fun z=>e1 (e2.symm.trans z))]
    exact decide_eq_false (by lia)
   ·rw [if_neg e2] at h2
    have k2:=of_decide_eq_false h2
    rw [if_neg (by lia)]
    exact decide_eq_false (by lia)
section
variable {prog:Program} {w:World} {A:Around} {s:Shared}
theorem ql {b:Bool} {Q:Bool->Shared->Prop}:∀{xs ys:List Value} {ns ms:List Int} (i:Nat) {fin:Bool},Vals (ns.map V.int) xs->Vals (ms.map V.int) ys->ns.length=ms.length->fin=false->
  Q (HT.lexLt ns ms) s->KatLex prog w A b fin Q (xs.zip ys) i s
 |_,_,[],[],i,_, .nil, .nil,_,hf,q=>by
  rw [hf]
  exact q
 |_,_,[],_::_,i,_, .nil, .cons _ _,hl,_,_=>by simp at hl
 |_,_,_::_,[],i,_, .cons _ _, .nil,hl,_,_=>by simp at hl
 |u::us,v::vs,n::ns,m::ms,i,fin, .cons r1 h1, .cons r2 h2,hl,hf,q=>by
  obtain ⟨t,rfl⟩:=r1
  obtain ⟨t',rfl⟩:=r2
  refine kat_cons (wpAny_eqBool_int ?_)
  rw [HT.dM] at q
  by_cases c:n=m
  ·rw [if_pos c] at q
   have e:(n==m)=true:=by simpa using c
   rw [e]
   exact kat_yes (ql (i+1) h1 h2 (by simpa using hl) hf q)
  ·rw [if_neg c] at q
   have e:(n==m)=false:=by simpa using c
   rw [e]
   refine kat_no ?_
   cases hb':(b&&i==0) with
   |true=>exact oneLt_int q
   |false=>exact kat_one _ _ (lt_int (show PySem.W.BoolBack Q (.bool (decide (n<m))) s from q))
end
noncomputable def eZ (H:Hp) (v:V) (k:List Int):Prop:=∃p,v= .ref p/\H p=some (.tup (k.map V.int))
section
variable {X:Cx} {pins:List (Addr×Obj)} {σ:St} {H:Hp} {s:Shared} {k:Nat} {f:Addr} {fd:FuncData} {ps:List Str} {sp:Sp}
theorem yx {Q:VK} {v:V} {u:Value} (F:FnOk X.prog X.w X.K X.mg X.base (cJ X.prog X.w) k f fd ps sp) (hr:Room k X.A.in1.in1) (hb:Binds X.K fd ps []) (I:Inv X pins σ H s) (r:RelV v u) (h:sp [v] H Q (fun _ _ _=>False)):
  wpAny (model X.prog X.w) X.A.in1.in1 (call (.ref f) [u]) (EP X pins σ Q) (fun _ _=>False) s:=by
 have r2:Vals [v] [u]:= .cons r .nil
 have hl:([u]++([]:List Value)).length=ps.length:=F.len _ _ _ _ h
 refine wpAny_call (codeAny_mono (F.run X.A.in1.in1 X.stack s H ⟨[u],[]⟩ [u] [v] Q _ hr I.zI.in1.in1 (hb s [u] I.dO hl) r2 h) fun r s' hq=> ?_)
 cases r with
 |error e=>
  obtain ⟨_,_,_,_,_,_,_,_,_,_,_,_,_,_,_,z⟩:=hq
  exact z
 |ok fl=>
  cases fl with
  |ret u=>exact I.after hq
  |next=>exact False.elim hq
  |brk=>exact False.elim hq
  |cont=>exact False.elim hq
end
section
variable {X:Cx} {pins:List (Addr×Obj)} {σ:St} {H H1:Hp} {s:Shared} {D kS:Addr} {e1:Nat} {zs kv:List V} {ws:List Value} {E:Value->Shared->Prop} {A:Around}
structure Place (X:Cx) (pins:List (Addr×Obj)) (D:Addr):Prop where
 fp:∀H:Hp,H D=none->ck X pins H D
 nw:X.s₀.heap.get? D=none
end
theorem range_getD {α:Type} (l:List α) (d:α):(List.range l.length).map (fun i=>l.getD i d)=l:=by
 refine List.ext_getElem (by simp) fun i h1 h2=> ?_
 rw [List.getElem_map,List.getElem_range,List.getD_eq_getElem?_getD,List.getElem?_eq_getElem h2]
 rfl
theorem vW {ys:List V} {us:List Value} (h:Vals ys us):∀i,i<ys.length->RelV (ys.getD i .non) (us.getD i .none):=fun i hi=>by
 obtain ⟨u,hu,ru⟩:=h.get (List.getElem?_eq_getElem hi)
 rw [List.getD_eq_getElem?_getD,List.getElem?_eq_getElem hi,List.getD_eq_getElem?_getD,hu]
 exact ru
theorem nu {ys:List V} {us:List Value} (h:Vals ys us):∀{p:List Nat},(∀i∈p,i<ys.length)->Vals (p.map fun i=>ys.getD i .non) (p.map fun i=>us.getD i Value.none)
 |[],_=> .nil
 |i::r,hp=> .cons (vW h i (hp i List.mem_cons_self)) (nu h fun j hj=>hp j (List.mem_cons_of_mem _ hj))
section
variable {X:Cx} {pins:List (Addr×Obj)} {σ:St} {H H1:Hp} {s:Shared} {D kS:Addr} {e1 m:Nat} {ys kv:List V} {us its:List Value} {keys:List (List Int)} {E:Value->Shared->Prop} {A:Around}
theorem rH (I:Inv X pins σ H s) {v:V} {u:Value} {k:List Int} (r:RelV v u) (h:eZ H v k):∃a o xs n,u= .ref a/\s.heap.get? a=some o/\o.cls= .type "tuple"/\o.data= .seq xs n/\Vals (k.map V.int) xs.toList:=by
 obtain ⟨p,rfl,h⟩:=h
 cases r
 obtain ⟨_,its,rt,o,g1,g2,n,g3⟩:=I.ah p _ h
 exact ⟨p,o,_,n,rfl,g1,g2,g3,by simpa using rt⟩
theorem pK (I:Inv X pins σ H s) (hm:0<m):∀{kv:List V} {its:List Value} {keys:List (List Int)},Vals kv its->Paired (eZ H) kv keys->(∀k∈keys,k.length=m)->∃fs:List Value,fs.length=kv.length/\KatTups s.heap its fs/\∀v∈fs,∃i t,v= .int i t
 |_,_,_, .nil, .nil,_=>⟨[],rfl,KatTups.nil,fun v hv=>by cases hv⟩
 |_,_,_, .cons r rr, .cons (b:=k) q qq,hl=>by
  obtain ⟨fs,f1,f2,f3⟩:=pK I hm rr qq fun k hk=>hl k (List.mem_cons_of_mem _ hk)
  obtain ⟨a,o,xs,n,rfl,g1,g2,g3,g4⟩:=rH I r q
  have hk:=hl k List.mem_cons_self
  cases k with
  |nil=>
   rw [show ([]:List Int).length=0 from rfl] at hk
   lia
  |cons i kr=>
   have g4':Vals (V.int i::kr.map V.int) xs.toList:=g4
   cases ex:xs.toList with
   |nil=>
    rw [ex] at g4'
    cases g4'
   |cons u0 ur=>
    rw [ex] at g4'
    cases g4' with
    |cons h0 _=>
     obtain ⟨t,rfl⟩:=h0
     refine ⟨.int i t::fs,by rw [List.length_cons,List.length_cons,f1],KatTups.cons g1 g2 g3 ?_ f2,fun v hv=> ?_⟩
     ·rw [←Array.getElem?_toList,ex]
      rfl
     ·rcases List.mem_cons.mp hv with rfl|hv
      ·exact ⟨i,t,rfl⟩
      ·exact f3 v hv
theorem sW (I:Inv X pins σ H s) (hv:Vals kv its) (hk:Paired (eZ H) kv keys) {i:Nat} (hi:i<kv.length):∃a o xs n,its.getD i .none= .ref a/\s.heap.get? a=some o/\o.data= .seq xs n/\Vals ((keys.getD i []).map V.int) xs.toList/\keys.getD i []∈keys:=by
 obtain ⟨u,hu,ru⟩:=hv.get (List.getElem?_eq_getElem hi)
 have hl:=Paired.length hk
 obtain ⟨y,hy,q⟩:∃y,keys[i]?=some y/\eZ H kv[i] y:=by
  have:∀{l:List V} {r:List (List Int)} {i:Nat} {x:V},Paired (eZ H) l r->l[i]?=some x->∃y,r[i]?=some y/\eZ H x y:=fun {l r i x} h=>by
   induction h generalizing i with
   |nil=>intro e;simp at e
   |cons h _ ih=>
    intro e
    cases i with
    |zero=>
     simp at e
     subst e
     exact ⟨_,rfl,h⟩
    |succ i=>
     obtain ⟨y,h1,h2⟩:=ih (i:=i) (by simpa using e)
     exact ⟨y,by simpa using h1,h2⟩
  exact this hk (List.getElem?_eq_getElem hi)
 obtain ⟨a,o,xs,n,rfl,g1,g2,g3,g4⟩:=rH I ru q
 refine ⟨a,o,xs,n, ?_,g1,g3, ?_, ?_⟩
 ·rw [List.getD_eq_getElem?_getD,hu]
  rfl
 ·rw [List.getD_eq_getElem?_getD,hy]
  exact g4
 ·rw [List.getD_eq_getElem?_getD,hy]
  exact List.mem_of_getElem? hy
noncomputable def lK (keys:List (List Int)) (p:List Nat):Prop:=p.Pairwise fun i j=>HT.lexLt (keys.getD j []) (keys.getD i [])=false
end
section
variable {X:Cx} {pins:List (Addr×Obj)} {σ:St} {H:Hp} {s:Shared} {k m:Nat} {f a:Addr} {fd:FuncData} {ps:List Str} {sp:Sp} {ys:List V} {keys:List (List Int)} {Q:VK} {E:Value->Shared->Prop}
end
end L2.L3
namespace L2.L3
open PySem PySem.Spec PyProof.Rows PySem.W
section
variable {X:Cx} {pins:List (Addr×Obj)} {σ:St} {H:Hp} {s:Shared} {a:Addr} {y v:V} {u r:Value} {A:Around} {E:Value->Shared->Prop}
theorem EZ {H':Hp} {Q:Unit->Shared->Prop} (hu:A.units<cLine) (I:Inv X pins σ H s) (g:eX H a y v H') (ry:RelV y u) (rv:RelV v r) (h:∀s',Inv X pins σ H' s'->Q () s'):
  wpAny (model X.prog X.w) A (dictSet a u r) Q E s:=by
 rcases g with ⟨kvs,k,e,ey,l,eH⟩|⟨kvs,k,b,e,ey,eb,l,eH⟩
 ·subst ey eH
  obtain ⟨z,hd,vs,rel,dd⟩:=An I.ah e
  have hz:vs.length<=sizeLine:=by rw [←rel.length];exact z
  have hl:(putK kvs k v).length<=sizeLine:=by have:=eK kvs k v;lia
  refine wpAny_dictSet_pairs (hsz:=hz) (dr ry) dd fun h' dd' hs=>h _ ?_
  have he:∃q,h'.get? a=some q:=let ⟨q,_,_,hq,_⟩:=dd';⟨q,hq⟩
  exact jE I (by rw [e];exact True.intro) hs he (uE hl hd (rel.put k rv) dd')
 ·subst ey eH
  cases (show u=Value.ref b from ry)
  obtain ⟨z,hd,xs,rel,dd⟩:=Af I.ah e
  have hz:xs.length<=sizeLine:=by rw [←Paired.length rel];exact z
  have hl:(putK kvs k v).length<=sizeLine:=by have:=eK kvs k v;lia
  refine wpAny_dictSet_heap (hsz:=hz) (show (tupleKind (aG X.prog X.w)).room A from hu) (cz I.ah eb) dd fun h' dd' hs=>h _ ?_
  obtain ⟨q,es,ep,hq,h2,h3,h4,_,h5⟩:=dd'
  refine jE I (by rw [e];exact True.intro) hs ⟨q,hq⟩ ⟨hl,hd,_,(rel.put k eb rv).keeps fun c ys ec=> ?_,q,es,ep,hq,h2,h3,h4,h5⟩
  rw [ao (oJ ec e (fun z=>nomatch z))]
  exact ec
end
theorem gg:plainId "dict.update.loop"=true:=by decide+kernel
theorem nH:entryFor table "dict.update.loop"=some Builtin.«dict.update.loop»:=entryFor_of_fast (by kernel_rfl)
theorem BX {w:World} {A:Around} {E:Value->Shared->Prop} {s:Shared} {b:Bool} {l:Addr} {k:Nat} {xs:Array Value} {x:Value} {Q:Option Value->Shared->Prop} (gi:gA b s.heap it l k) (gl:gG b s.heap l xs) (gx:xs[k]?=some x)
  (q:∀h1,gA b h1 it l (k+1)->Heap.SameBut it s.heap h1->Q (some x) {s with heap:=h1}):wpAny (model prog w) A (pyNext (.ref it)) Q E s:=by
 cases b
 ·exact wpAny_pyNext_tuple_item gi gl gx fun h' a1 a2=>q h' a1 a2
 ·exact wpAny_pyNext_list_item gi gl gx fun h' a1 a2=>q h' a1 a2
theorem CK {w:World} {A:Around} {E:Value->Shared->Prop} {s:Shared} {b:Bool} {l:Addr} {k:Nat} {xs:Array Value} {Q:Option Value->Shared->Prop} (hh:A.handled=none) (gi:gA b s.heap it l k) (gl:gG b s.heap l xs) (gx:xs[k]?=none)
  (q:∀h1,(∀b o,b≠it->s.heap.get? b=some o->h1.get? b=some o)->Q none {s with heap:=h1}):wpAny (model prog w) A (pyNext (.ref it)) Q E s:=by
 cases b
 ·exact wpAny_pyNext_tuple_end hh gi gl gx fun h' a1=>q h' fun b o hb e=>a1 b o hb e
 ·exact wpAny_pyNext_list_end hh gi gl gx fun h' a1=>q h' fun b o hb e=>a1 b o hb e
section
variable {X:Cx} {pins:List (Addr×Obj)} {σ:St} {A:Around}
noncomputable def Puts (d:Addr) (ys:List V) (HH:Nat->Hp):Prop:=∀i,i<ys.length->∃p y v,ys[i]?=some (.ref p)/\HH i p=some (.tup [y,v])/\eX (HH i) d y v (HH (i+1))
theorem wW {R:Result->Shared->Prop} {b:Bool} {d l:Addr} {ys:List V} {HH:Nat->Hp} {res:Value} (hh:A.in1.handled=none) (hu:A.in1.units<cLine) (hq:∀i,i<=ys.length->jq b X.K (HH i) l ys) (hp:Puts d ys HH) (hf:∀i,i<=ys.length->ck X pins (HH i) it)
  (fin:∀s',Inv X pins σ (HH ys.length) s'->R (.ok (.ret res)) s'):
  ∀(k i:Nat) (s:Shared) (n:Int) (tk:Tok),ys.length-i=k->i<=ys.length->Inv X pins σ (HH i) s->gA b s.heap it l i->codeAny (model X.prog X.w) A (.builtin "dict.update.loop" ⟨[.ref d, .ref it, .int n tk,res],[]⟩) R s:=by
 intro k
 induction k with
 |zero=>
  intro i s n tk hk hi I st
  have hin:i=ys.length:=by lia
  subst hin
  refine codeAny_builtin nH ?_
  rw [Around.under_plainId gg _]
  obtain ⟨its,rv,p,hz⟩:=aO I (hq _ hi)
  obtain ⟨f0,f1,f2,f3,f4,f5⟩:=hf _ hi
  have hl:=rv.length
  show wpAny _ A.in1 (pyNext (.ref it)>>=_) _ _ s
  refine wpAny_bind (CK hh st p (by simp;lia) fun h' eb=> ?_)
  refine wpAny_bind (m:=Builtin.Dict.addKeywords d []) (wpAny_pure (wpAny_pure (fin _ (I.turned (t':=s.toks) (fun b o hb e=>eb b o hb e) f0 f1 f3 f4 f5))))
 |succ k ih=>
  intro i s n tk hk hi I st
  have hlt:i<ys.length:=by lia
  refine codeAny_builtin nH ?_
  rw [Around.under_plainId gg _]
  obtain ⟨its,rv,p,hz⟩:=aO I (hq _ hi)
  obtain ⟨q,y,v,hy,hqp,dp⟩:=hp i hlt
  obtain ⟨u,hu',ru⟩:=rv.get hy
  cases (show u=Value.ref q from ru)
  have fi:=hf i hi
  obtain ⟨f0,f1,f2,f3,f4,f5⟩:=hf _ hi
  show wpAny _ A.in1 (pyNext (.ref it)>>=_) _ _ s
  refine wpAny_bind (BX st p (x:= .ref q) (by simpa using hu') fun h1 st1 sb=> ?_)
  have I1:Inv X pins σ (HH i) {s with heap:=h1}:=I.turned (t':=s.toks) (fun b o hb e=>(sb.2 b hb).trans e) f0 f1 f3 f4 f5
  obtain ⟨_,its2,r2,o,e1,e2,n2,e3⟩:=(show aN X.prog X.w (HH i) h1 q (.tup [y,v]) from I1.ah q _ hqp)
  obtain ⟨uy,uv,rfl,ry,rv2⟩:=Vals.two r2
  have tT:Shared.TypeIs {s with heap:=h1} (.ref q) "tuple":=⟨o,e1,e2⟩
  refine wpAny_bind (wpAny_holding ?_)
  refine wpAny_bind (wpAny_tryCatch ?_)
  unfold Builtin.Dict.pairItems
  refine wpAny_bind (wpAny_typeOf tT ?_)
  rw [if_pos (by decide)]
  refine wpAny_bind (wpAny_seqItems e1 e3 ?_)
  refine wpAny_pure ?_
  show wpAny _ A.in1 (holding [uy,uv] (dictSet d uy uv)) _ _ _
  refine wpAny_holding ?_
  have fo:∀b∈[it],∃o,h1.get? b=some o/\∀v,o.data≠ .cell v:=fun b hb=>by
   rw [List.mem_singleton.mp hb]
   exact st1.live
  have f1':∀b∈[it],ck X pins (HH i) b:=fun b hb=>by
   rw [List.mem_singleton.mp hb]
   exact fi
  have I2:=I1.pinned f1' fo
  refine EZ hu I2 dp ry rv2 fun s' I3=> ?_
  refine wpAny_pure ⟨plainId_quiet gg _,ih (i+1) s' _ _ (by lia) hlt I3.gU (st1.at fun o e=> ?_)⟩
  have pm:(it,o)∈bC [it] h1:=by
   unfold bC
   simp [e]
  exact (I3.pin (it,o) (List.mem_append_right _ (List.mem_append_right _ pm))).1
end
end L2.L3
namespace L2.L3
open PySem PySem.Spec PyProof.Rows PySem.W
theorem pF:typeLookup (.type "list") "keys"=pure none:=by rw [typeLookup_type,builtinLookup_eq_fast];kernel_rfl
theorem ot:typeLookup (.type "tuple") "keys"=pure none:=by rw [typeLookup_type,builtinLookup_eq_fast];kernel_rfl
theorem o4 {w:World} {A:Around} {E:Value->Shared->Prop} {s:Shared} {a:Addr} {o:Obj} {xs:Array Value} {k:Nat} {Q:Option Value->Shared->Prop}
  (hx:s.heap.get? a=some o) (hc:o.cls= .type "list") (hdat:o.data= .seq xs k) (hd:o.dict=none) (hA:A.handled=none)
  (h:∀h' tk e,Heap.NewExcOf s.heap h' e "AttributeError"->Q none {s with heap:=h',toks:=tk}):
  wpAny (model prog w) A (getAttr? (.ref a) "keys") Q E s:=by
 obtain ⟨c,dct,dat,sl⟩:=o
 simp only at hc hdat hd
 subst hc hdat hd
 obtain ⟨hp,g,d,tk,os⟩:=s
 have hT:∀tk',(⟨hp,g,d,tk',os⟩:Shared).TypeIs (.ref a) "list":=fun _=>⟨_,hx,rfl⟩
 have f1:=sub_AttributeError
 have f3:=F.slot_list_getattribute.lookup
 have f4:=F.slot_list_getattribute.bind (.ref a)
 have f5:=am_list_getattr_none
 unfold getAttr? getAttrBy? getAttrBy
 repeat (any_goals (first|assumption|exact hT _|((with_reducible show wpAny _ _ (call (Value.builtin "list.__getattribute__") _ _) _ _ _);refine call_meets F.slot_list_getattribute (hT _) am_entry_list_getattribute (F.args_list_getattribute_2 _ _) (meets_getattribute_miss_list a xs k sl "keys" _ pF (by decide+kernel)) ⟨hx,hA,fun h' tk' e hx'=> ?_⟩)|wp_step))
 obtain ⟨t',u',he⟩:=hx'.there
 show wpAny _ _ (getattributeRaised _ _ _ _ _ _ _) _ _ _
 unfold getattributeRaised
 repeat (any_goals (first|assumption|wp_step))
 exact h _ _ _ hx'.of
theorem oq {w:World} {A:Around} {E:Value->Shared->Prop} {s:Shared} {a:Addr} {o:Obj} {xs:Array Value} {k:Nat} {Q:Option Value->Shared->Prop}
  (hx:s.heap.get? a=some o) (hc:o.cls= .type "tuple") (hdat:o.data= .seq xs k) (hd:o.dict=none) (hA:A.handled=none)
  (h:∀h' tk e,Heap.NewExcOf s.heap h' e "AttributeError"->Q none {s with heap:=h',toks:=tk}):
  wpAny (model prog w) A (getAttr? (.ref a) "keys") Q E s:=by
 obtain ⟨c,dct,dat,sl⟩:=o
 simp only at hc hdat hd
 subst hc hdat hd
 obtain ⟨hp,g,d,tk,os⟩:=s
 have hT:∀tk',(⟨hp,g,d,tk',os⟩:Shared).TypeIs (.ref a) "tuple":=fun _=>⟨_,hx,rfl⟩
 have f1:=sub_AttributeError
 have f3:=F.slot_tuple_getattribute.lookup
 have f4:=F.slot_tuple_getattribute.bind (.ref a)
 have f5:=am_tuple_getattr_none
 unfold getAttr? getAttrBy? getAttrBy
 repeat (any_goals (first|assumption|exact hT _|((with_reducible show wpAny _ _ (call (Value.builtin "tuple.__getattribute__") _ _) _ _ _);refine call_meets F.slot_tuple_getattribute (hT _) am_entry_tuple_getattribute (F.args_tuple_getattribute_2 _ _) (meets_getattribute_miss_tuple a xs k sl "keys" _ ot (by decide+kernel)) ⟨hx,hA,fun h' tk' e hx'=> ?_⟩)|wp_step))
 obtain ⟨t',u',he⟩:=hx'.there
 show wpAny _ _ (getattributeRaised _ _ _ _ _ _ _) _ _ _
 unfold getattributeRaised
 repeat (any_goals (first|assumption|wp_step))
 exact h _ _ _ hx'.of
theorem gG.keys {b:Bool} {w:World} {A:Around} {E:Value->Shared->Prop} {s:Shared} {l:Addr} {xs:Array Value} {Q:Option Value->Shared->Prop} (hl:gG b s.heap l xs) (hd:∀o,s.heap.get? l=some o->o.dict=none) (hA:A.handled=none)
  (h:∀h' tk e,Heap.NewExcOf s.heap h' e "AttributeError"->Q none {s with heap:=h',toks:=tk}):wpAny (model prog w) A (getAttr? (.ref l) "keys") Q E s:=by
 cases b
 ·obtain ⟨o,e1,e2,n,e3⟩:=(show s.heap.IsTuple l xs from hl)
  exact oq e1 e2 e3 (hd o e1) hA h
 ·obtain ⟨o,e1,e2,n,e3⟩:=(show s.heap.IsList l xs from hl)
  exact o4 e1 e2 e3 (hd o e1) hA h
end L2.L3
namespace L2.L3
open PySem PySem.Spec PyProof.Rows PySem.W
noncomputable def Plain (b:Bool) (H:Hp) (a:Addr) (ys:List V):Prop:=cond b (H a=some (.lst ys)) (∃o:Obj,H a=some (.aC o (.tup ys))/\o.dict=none)
theorem Plain.sq {b:Bool} {K:PySem.W.Frag} {H:Hp} {a:Addr} {ys:List V} (h:Plain b H a ys):jq b K H a ys:=by
 cases b
 ·obtain ⟨o,e,_⟩:=h
  exact .inl (.inr ⟨o,e⟩)
 ·exact .inl (.inl h)
theorem Plain.is {b:Bool} {H:Hp} {a:Addr} {ys:List V} (h:Plain b H a ys):H a≠none:=by
 cases b
 ·obtain ⟨o,e,_⟩:=h
  rw [e]
  exact fun z=>nomatch z
 ·rw [show H a=_ from h]
  exact fun z=>nomatch z
theorem Plain.keep {b:Bool} {H H':Hp} {a:Addr} {ys:List V} (h:Plain b H a ys) (e:H' a=H a):Plain b H' a ys:=by
 cases b
 ·obtain ⟨o,e1,e2⟩:=h
  exact ⟨o,e.trans e1,e2⟩
 ·exact e.trans h
theorem Plain.nodict {b:Bool} {X:Cx} {σ:St} {H:Hp} {s:Shared} {a:Addr} {ys:List V} (h:Plain b H a ys) (I:Inv X pins σ H s) (o:Obj) (e:s.heap.get? a=some o):o.dict=none:=by
 cases b
 ·obtain ⟨o',e1,e2⟩:=h
  obtain ⟨z,_⟩:=(show aN X.prog X.w H s.heap a (.aC o' (.tup ys)) from I.ah a _ e1)
  rw [e] at z
  cases z
  exact e2
 ·obtain ⟨_,its,n,_,z⟩:=(show aN X.prog X.w H s.heap a (.lst ys) from I.ah a _ h)
  rw [e] at z
  cases z
  rfl
noncomputable def Gr (b:Bool) (ob0:HO):List V->Hp->VK->Prop:=fun xs H Q=>∃l ys,xs=[.ref l]/\Plain b H l ys/\∀p,H p=none->∃ob:Nat->HO,ob 0=ob0/\Puts p ys (fun i=>upd H p (ob i))/\Q (.ref p) (upd H p (ob ys.length))
theorem kP {X:Cx} (hc:X.calm=true) (hu:X.A.units+2<cLine) {b:Bool} {ob0:HO} (h0:ob0= .dK []∨ob0= .dT []):aA X (.type "dict") (Gr b ob0):=by
 intro pins s σ H xs us Q I r h
 obtain ⟨l,ys,rfl,hl,q⟩:=h
 obtain ⟨u,rfl,rx⟩:=vals1 r
 cases (show u=Value.ref l from rx)
 have fr:=I.ah.fresh (Nat.le_refl s.heap.objs.size)
 obtain ⟨ob,e0,hp,hq⟩:=q s.heap.objs.size fr
 have hA:X.A.handled=none:=I.ok.hd hc
 have nl:l≠s.heap.objs.size:=fun z=>hl.is (by rw [z];exact fr)
 refine callType_codes (Q₁:=fun obj s₁=>obj= .ref s.heap.objs.size/\s₁={s with heap:=s.heap.push {cls:= .type "dict",data:= .dict #[]}}) F.kt_called_dict (F.kt_typeCall_dict_1 _) F.entry_dict_init (kt_code_dict_new _ ⟨rfl,rfl⟩) ?_
 rintro obj s₁ ⟨rfl,rfl⟩
 have I1:Inv X pins σ (upd H s.heap.objs.size (ob 0)) {s with heap:=s.heap.push {cls:= .type "dict",data:= .dict #[]}}:=by
  rw [e0]
  rcases h0 with rfl|rfl
  ·exact I.laid (a:=s.heap.objs.size) (o:= .dK []) (t':=s.toks) (fun _ _ q=>Heap.get?_push_of_some _ q) (Nat.le_refl _) (pz s.heap I.big)
  ·exact I.laid (a:=s.heap.objs.size) (o:= .dT []) (t':=s.toks) (fun _ _ q=>Heap.get?_push_of_some _ q) (Nat.le_refl _) (yA s.heap I.big)
 have hnew:Shared.TypeIs {s with heap:=s.heap.push {cls:= .type "dict",data:= .dict #[]}} (.ref s.heap.objs.size) "dict":=⟨_,Heap.get?_push_size _ rfl,rfl⟩
 have hl1:∀i,Plain b (upd H s.heap.objs.size (ob i)) l ys:=fun i=>hl.keep (ao nl)
 obtain ⟨its,rv,p,hz⟩:=aO (b:=b) I1 (hl1 0).sq
 have hT:Shared.TypeIs {s with heap:=s.heap.push {cls:= .type "dict",data:= .dict #[]}} (.ref l) (cond b "list" "tuple"):=by
  cases b
  ·obtain ⟨o,e1,e2,_⟩:=(show Heap.IsTuple _ l its.toArray from p)
   exact ⟨o,e1,e2⟩
  ·obtain ⟨o,e1,e2,_⟩:=(show Heap.IsList _ l its.toArray from p)
   exact ⟨o,e1,e2⟩
 refine ⟨hnew,F.args_dict_init_2 _ _, ?_⟩
 unfold Builtin.«dict.__init__»
 refine wpAny_bind ?_
 unfold Builtin.Dict.selfAndRest
 refine wpAny_bind (wpAny_notOrdered_dict hnew ?_)
 show wpAny _ _ (pure (s.heap.objs.size,[Value.ref l])) _ _ _
 refine wpAny_pure ?_
 show wpAny _ _ (Builtin.Dict.updateFrom "dict.__init__" s.heap.objs.size (.ref l) [] .none) _ _ _
 unfold Builtin.Dict.updateFrom
 refine wpAny_bind (wpAny_typeOf hT ?_)
 rw [if_pos (by cases b<;>decide)]
 refine wpAny_bind (gG.keys p ((hl1 0).nodict I1) hA fun h' tk e hx=> ?_)
 rw [if_pos (show (none:Option Value).isNone=true from rfl)]
 have I2:Inv X pins σ (upd H s.heap.objs.size (ob 0)) {s with heap:=h',toks:=tk}:=I1.kept (t':=tk) hx.keeps
 refine wpAny_bind (wpAny_rule (wpAny_bind (zE (b:=b) (s:={s with heap:=h',toks:=tk}) (p.at fun o e=>hx.keeps _ _ e) fun h1 st kp sz=> ?_)))
 have I3:Inv X pins σ (upd H s.heap.objs.size (ob 0)) {s with heap:=h1,toks:=tk}:=I2.kept (t':=tk) kp
 refine wpAny_pure ⟨plainId_quiet gg _, ?_⟩
 have fp:∀i,i<=ys.length->ck X pins (upd H s.heap.objs.size (ob i)) h'.objs.size:=fun i _=>by
  have lt:s.heap.objs.size<h'.objs.size:=Heap.lt_size (hx.keeps _ _ (Heap.get?_push_size (h:=s.heap) (o:={cls:= .type "dict",data:= .dict #[]}) rfl))
  refine I2.kj (Nat.le_refl _) ?_
  rw [ao (Ne.symm (Nat.ne_of_lt lt))]
  exact I.ah.fresh (Nat.le_of_lt lt)
 refine wW (A:=X.A.in1) (b:=b) (l:=l) (ys:=ys) (HH:=fun i=>upd H s.heap.objs.size (ob i)) hA hu (fun i _=>(hl1 i).sq) hp fp (fun s' I4=> ?_) ys.length 0 _ _ _ (by lia) (Nat.zero_le _) I3 st
 exact ⟨rfl, .ref s.heap.objs.size,_,I4,rfl,hq⟩
end L2.L3
namespace L2.L3
open PySem PySem.Spec PyProof.Rows PySem.W
section
variable {κ:Type} [DecidableEq κ]
noncomputable def putAll (acc:List (κ×V)) (ps:List (κ×V)):List (κ×V):=ps.foldl (fun a p=>putK a p.1 p.2) acc
theorem yu (kvs:List (κ×V)) (k:κ) (v:V):(putK kvs k v).map (·.1)=if k∈kvs.map (·.1) then kvs.map (·.1) else kvs.map (·.1)++[k]:=by
 have q:((kvs.any fun kv=>decide (kv.1=k))=true)↔k∈kvs.map (·.1):=by
  simp [List.any_eq_true,List.mem_map]
 unfold putK
 by_cases h:k∈kvs.map (·.1)
 ·rw [if_pos (q.mpr h),if_pos h,List.map_map]
  apply List.map_congr_left
  intro x _
  by_cases e:x.1=k<;>simp [e]
 ·rw [if_neg (fun z=>h (q.mp z)),if_neg h,List.map_append]
  rfl
theorem k8:∀(ps acc:List (κ×V)),(putAll acc ps).length<=acc.length+ps.length
 |[],acc=>by simp [putAll]
 |p::ps,acc=>by
  have h:=k8 ps (putK acc p.1 p.2)
  have l:(putK acc p.1 p.2).length<=acc.length+1:=by
   have:=congrArg List.length (yu acc p.1 p.2)
   rw [List.length_map] at this
   rw [this]
   split<;>simp
  show (putAll (putK acc p.1 p.2) ps).length<=_
  rw [List.length_cons]
  lia
theorem jP (ps:List (κ×V)) {i:Nat} {p:κ×V} (h:ps[i]?=some p):putAll [] (ps.take (i+1))=putK (putAll [] (ps.take i)) p.1 p.2:=by
 rw [List.take_succ,h]
 simp [putAll]
end
noncomputable def Ad (H:Hp) (y:V) (kv:List Key×V):Prop:=∃q c,y= .ref q/\H q=some (.tup [.ref c,kv.2])/\H c=some (.tup (kv.1.map kV))
noncomputable def Am (H:Hp) (y:V) (kv:Key×V):Prop:=∃q,y= .ref q/\H q=some (.tup [kV kv.1,kv.2])
noncomputable def uP (b:Bool):List V->Hp->VK->Prop:=fun xs H Q=>∃l ys kvs,xs=[.ref l]/\Plain b H l ys/\Paired (Ad H) ys kvs/\kvs.length<=1000/\∀p,H p=none->Q (.ref p) (upd H p (.dT (putAll [] kvs)))
noncomputable def wH (b:Bool):List V->Hp->VK->Prop:=fun xs H Q=>∃l ys kvs,xs=[.ref l]/\Plain b H l ys/\Paired (Am H) ys kvs/\kvs.length<=1000/\∀p,H p=none->Q (.ref p) (upd H p (.dK (putAll [] kvs)))
theorem iP {α β:Type} {F:α->β->Prop}:∀{l:List α} {r:List β},Paired F l r->∀i,i<l.length->∃x y,l[i]?=some x/\r[i]?=some y/\F x y
 |_,_, .cons h _,0,_=>⟨_,_,rfl,rfl,h⟩
 |_,_, .cons _ t,i+1,hi=>by
  obtain ⟨x,y,a,b,c⟩:=iP t i (by simpa using hi)
  exact ⟨x,y,by simpa using a,by simpa using b,c⟩
theorem nZ {κ:Type} [DecidableEq κ] {kvs:List (κ×V)} (h:kvs.length<=1000) (i:Nat):(putAll [] (kvs.take i)).length<sizeLine:=by
 have:=k8 (kvs.take i) ([]:List (κ×V))
 rw [List.length_nil,Nat.zero_add,List.length_take] at this
 exact fZ (by lia)
theorem lP {X:Cx} (hc:X.calm=true) (hu:X.A.units+2<cLine) {b:Bool}:aA X (.type "dict") (uP b):=by
 intro pins s σ H xs us Q I r h
 obtain ⟨l,ys,kvs,rfl,hl,hp,hz,q⟩:=h
 refine kP hc hu (b:=b) (ob0:= .dT []) (.inr rfl) pins s σ H _ us Q I r ⟨l,ys,rfl,hl,fun p np=>⟨fun i=> .dT (putAll [] (kvs.take i)),rfl,fun i hi=> ?_, ?_⟩⟩
 ·obtain ⟨x,kv,e1,e2,qq,c,rfl,h1,h2⟩:=iP hp i hi
  have n1:=bj h1 np
  have n2:=bj h2 np
  refine ⟨qq, .ref c,kv.2,e1,(ao n1).trans h1, ?_⟩
  have:=eX.t (H:=upd H p (.dT (putAll [] (kvs.take i)))) (a:=p) (b:=c) (k:=kv.1) (v:=kv.2) aj (by rw [ao n2];exact h2) (nZ hz i)
  rw [gL,←jP kvs e2] at this
  exact this
 ·have el:=Paired.length hp
  show Q (.ref p) (upd H p (.dT (putAll [] (kvs.take ys.length))))
  rw [el,List.take_length]
  exact q p np
theorem kW {X:Cx} (hc:X.calm=true) (hu:X.A.units+2<cLine) {b:Bool}:aA X (.type "dict") (wH b):=by
 intro pins s σ H xs us Q I r h
 obtain ⟨l,ys,kvs,rfl,hl,hp,hz,q⟩:=h
 refine kP hc hu (b:=b) (ob0:= .dK []) (.inl rfl) pins s σ H _ us Q I r ⟨l,ys,rfl,hl,fun p np=>⟨fun i=> .dK (putAll [] (kvs.take i)),rfl,fun i hi=> ?_, ?_⟩⟩
 ·obtain ⟨x,kv,e1,e2,qq,rfl,h1⟩:=iP hp i hi
  have n1:=bj h1 np
  refine ⟨qq,kV kv.1,kv.2,e1,(ao n1).trans h1, ?_⟩
  have:=eX.k (H:=upd H p (.dK (putAll [] (kvs.take i)))) (a:=p) (k:=kv.1) (v:=kv.2) aj (nZ hz i)
  rw [gL,←jP kvs e2] at this
  exact this
 ·have el:=Paired.length hp
  show Q (.ref p) (upd H p (.dK (putAll [] (kvs.take ys.length))))
  rw [el,List.take_length]
  exact q p np
noncomputable def Fe (K:PySem.W.Frag):List V->Hp->VK->Prop:=fun xs H Q=>∃p ys,xs=[.ref p]/\bH K H p ys/\∀l o,H l=none->o.dict=none->Q (.ref l) (upd H l (.aC o (.tup ys)))
theorem vk {X:Cx}:aA X (.type "tuple") (Fe X.K):=by
 intro pins s σ H xs us Q I r h
 obtain ⟨p,ys,rfl,hq,q⟩:=h
 obtain ⟨u,rfl,rx⟩:=vals1 r
 cases (show u=Value.ref p from rx)
 obtain ⟨its,r',pl,hz⟩:=I.list hq
 have hlen:=r'.length
 refine call_tuple_list pl.isList (fun h' kp=> ?_) (by simp only [List.size_toArray]<;>lia)
 have I1:Inv X pins σ H {s with heap:=h'}:=I.kept (t':=s.toks) kp
 have I2:Inv X pins σ (upd H h'.objs.size (.aC {cls:= .type "tuple",data:= .seq its.toArray} (.tup ys))) {s with heap:=h'.push {cls:= .type "tuple",data:= .seq its.toArray}}:=
  I1.laid (t':=s.toks) (fun b o e=>Heap.get?_push_of_some _ e) (Nat.le_refl _) (show aN X.prog X.w _ _ _ (.aC _ (.tup ys)) from ⟨Heap.get?_push_size _ rfl,hz,its,r',IsTup.new _ _⟩)
 exact ⟨.ref h'.objs.size,_,I2,rfl,q _ _ (I1.ah.fresh (Nat.le_refl _)) rfl⟩
end L2.L3
namespace L2.L3
open PySem PySem.Spec PyProof.Rows PySem.W PySem.Builtin.Str
noncomputable def jr (x:Str) (lo hi:Option Int):Str:=if (strSliceIndices lo hi 1 x.length).length==x.length then x else ⟨((strSliceIndices lo hi 1 x.length).filterMap (x.cps[·]?)).toArray⟩
noncomputable def HW:V->Option Int->Option Int->Hp->VK->Prop:=fun x lo hi H Q=>∃z:Str,x= .str z/\z.length<=1000/\(jr z lo hi).length<=1000/\Q (.str (jr z lo hi)) H
theorem part_of {v:Value} {lo:Option Int} (h:IsPart v lo):∃l:Option (Int×Tok),v=partValue l/\l.map (·.1)=lo:=by
 cases h with
 |none=>exact ⟨none,rfl,rfl⟩
 |int i t=>exact ⟨some (i,t),rfl,rfl⟩
theorem EJ {X:Cx}:mS X HW:=by
 intro pins s σ H x v vl vu lo hi sl Q I rx hs pl pu h
 obtain ⟨z,rfl,hz,hz2,q⟩:=h
 obtain ⟨t,rfl⟩:=(show∃t,v=Value.str z t from rx)
 obtain ⟨l,rfl,el⟩:=part_of pl
 obtain ⟨u,rfl,eu⟩:=part_of pu
 refine ⟨"str",_,F.slot_str_getitem.lookup,typeIs_str _ _ _,wpAny_getItem_str_slice (l:=l) (u:=u) (st:=none) hs rfl ?_⟩
 have e:slicePicked z l u none=strSliceIndices lo hi 1 z.length:=by
  unfold slicePicked
  rw [el,eu]
  rfl
 unfold sliceMade
 rw [e]
 unfold jr at q hz2
 by_cases w:((strSliceIndices lo hi 1 z.length).length==z.length)=true
 ·rw [if_pos w] at q
  rw [if_pos (by simpa using w)]
  exact ⟨.str z,H,I,⟨t,rfl⟩,q⟩
 ·rw [if_neg w] at q hz2
  rw [if_neg (by simpa using w)]
  exact ⟨Nat.le_of_lt (fZ hz2), .str _,H,I.tok _,⟨_,rfl⟩,q⟩
noncomputable def F4:R2:=fun x y H Q=>∃(z:Str) (k:Int),x= .str z/\y= .int k/\0<=k/\k<=1000/\z.length<=1000/\Q (.str (Txt.mul z k)) H
theorem AQ {X:Cx}:aK X (binaryOp .Mult) F4:=by
 intro pins s σ H x y u v Q I rx ry h
 obtain ⟨z,k,rfl,rfl,k0,k1,hz,q⟩:=h
 obtain ⟨t,rfl⟩:=(show∃t,u=Value.str z t from rx)
 obtain ⟨t',rfl⟩:=(show∃t,v=Value.int k t from ry)
 refine SB.mul ⟨?_,fun h1 _=> ?_,fun _ _=> ?_⟩ fun t2 k2=>⟨.str _,H,I.tok _,⟨_,rfl⟩,q⟩
 ·rw [decide_eq_false (by lia),decide_eq_false (by lia)]
  rfl
 ·have hk:(2^63-1)/(1000:Int)<=(2^63-1)/k:=by
   rw [Int.le_ediv_iff_mul_le (by lia)]
   have:(2^63-1)/(1000:Int)*k<=(2^63-1)/(1000:Int)*1000:=Int.mul_le_mul_of_nonneg_left k1 (by decide)
   have h2:(2^63-1)/(1000:Int)*1000<=2^63-1:=by decide
   lia
  have h3:(1000:Int)<(2^63-1)/(1000:Int):=by decide
  lia
 ·unfold tooLong
  have:z.length*k.toNat<=1000*1000:=Nat.mul_le_mul hz (by lia)
  apply decide_eq_false
  have h4:1000*1000<=sizeLine:=by decide
  lia
end L2.L3
namespace L2.L3
open PySem PySem.Spec PyProof.Rows PySem.W
noncomputable def iT (h:Heap) (d:Addr) (es:Array DictEntry) (ep:Nat):Prop:=∃o,h.get? d=some o/\o.ExactDict/\o.data= .dict es ep
theorem iT.ty {s:Shared} {d:Addr} {es:Array DictEntry} {ep:Nat} (x:iT s.heap d es ep):s.TypeIs (.ref d) "dict":=let ⟨o,e,c,_⟩:=x;⟨o,e,c.1⟩
section
variable {prog:Program} {w:World} {A:Around} {E:Value->Shared->Prop} {s:Shared} {d:Addr} {es:Array DictEntry} {ep:Nat}
theorem Bv {Q:Value->Shared->Prop} (hd:(d==sysModules)=false) (x:iT s.heap d es ep) (hf:(es.size:Int)<2^63) (h:∀t k,Q (.int es.size t) {s with toks:=k}):
  wpAny (model prog w) A (call (.builtin "len") [.ref d]) Q E s:=by
 refine Calls.call_function_entry kind_len plain_len entry_len (args_len1 _) ?_
 unfold Builtin.«len»
 refine wpAny_bind (m:=oneArg "len" _) (wpAny_pure ?_)
 refine wpAny_bind (m:=callSpecial? (.ref d) (Str.ofString "__len__")) (wpAny_callSpecial?_slot (name:=Str.ofString "__len__") x.ty F.slot_dict_len (wpAny_call_entry F.slot_dict_len x.ty F.entry_dict_len ?_ (F.args_dict_len_1 _)))
 obtain ⟨o,ho,hc,hdat⟩:=id x
 unfold Builtin.«dict.__len__»
 refine wpAny_bind (wpAny_bind (wpAny_notOrdered_dict x.ty (wpAny_pure ?_)))
 show wpAny _ _ (dictSize d>>=_) _ _ s;unfold dictSize
 refine wpAny_bind (wpAny_bind (wpAny_dictEntries ho hdat (wpAny_pure ?_)));show wpAny _ _ (Builtin.Dict.pendingCount d>>=_) _ _ s
 refine wpAny_bind (wpAny_pendingCount_other hd ?_)
 refine wpAny_bind (wpAny_mkInt (wpAny_pure ⟨_,rfl, ?_⟩))
 show wpAny _ _ (holding [Value.int ((es.size:Int)+(0:Nat)) s.toks] (asIndex _)>>=_) _ _ _;refine wpAny_bind (wpAny_holding (wpAny_pure ?_))
 refine wpAny_bind (wpAny_letGo ?_)
 have e:((es.size:Int)+((0:Nat):Int))=es.size:=by lia
 rw [e];rw [if_neg (by lia)]
 show wpAny _ _ (if ((es.size:Nat):Int)≥2^63 then _ else _) _ _ _;rw [if_neg (by lia)]
 refine wpAny_bind (wpAny_mkInt (wpAny_pure ⟨_,rfl,h _ _⟩))
theorem oW {Q:Value->Shared->Prop} (hd:(d==sysModules)=false) (x:iT s.heap d es ep) (q:∀h1,h1.IsKeyIter s.heap.objs.size d 0 es.size ep->(∀c o,s.heap.get? c=some o->h1.get? c=some o)->Q (.ref s.heap.objs.size) {s with heap:=h1}):
  wpAny (model prog w) A (pyIter (.ref d)) Q E s:=by
 obtain ⟨o,ho,hc,hdat⟩:=id x
 refine wpAny_pyIter_slot x.ty F.slot_dict_iter (wpAny_call_entry F.slot_dict_iter x.ty F.entry_dict_iter ?_ (F.args_dict_iter_1 _))
 unfold Builtin.«dict.__iter__»;refine wpAny_bind (wpAny_bind (wpAny_notOrdered_dict x.ty (wpAny_pure ?_)))
 show wpAny _ _ (Builtin.Dict.showsAll d>>=_) _ _ s;unfold Builtin.Dict.showsAll;rw [if_neg (by rw [hd];exact Bool.false_ne_true)]
 refine wpAny_bind (wpAny_pure (wpAny_bind (wpAny_dictEntries ho hdat (wpAny_bind (wpAny_dictEpoch ho hdat ?_)))))
 refine wpAny_bind (wpAny_newObj_type (wpAny_pure ⟨_,rfl,"dict_keyiterator",_,⟨_,Heap.get?_push_size _ rfl,rfl⟩,F.slot_dict_keyiterator_next.lookup, ?_⟩))
 exact q _ ⟨_,Heap.get?_push_size _ rfl,rfl,rfl⟩ fun c o e=>Heap.get?_push_of_some _ e
theorem oY {i:Nat} {Q:Option Value->Shared->Prop} (hit:s.heap.IsKeyIter it d i es.size ep) (x:iT s.heap d es ep) (lt:i<es.size)
  (q:∀h',h'.IsKeyIter it d (i+1) es.size ep->Heap.SameBut it s.heap h'->Q (some es[i].key) {s with heap:=h'}):wpAny (model prog w) A (pyNext (.ref it)) Q E s:=by
 obtain ⟨o,ho,hc,hd⟩:=id hit
 obtain ⟨od,hod,hcd,hdd⟩:=id x
 unfold pyNext
 refine wpAny_bind (wpAny_attempt (wpAny_callSpecial?_slot (name:=Str.ofString "__next__") hit.typeIs F.slot_dict_keyiterator_next (wpAny_call_entry F.slot_dict_keyiterator_next hit.typeIs F.entry_dict_keyiterator_next ?_ (F.args_dict_keyiterator_next_1 _))))
 refine wpAny_bind (wpAny_pure (wpAny_bind (wpAny_bind ?_)))
 refine wpAny_bind (wpAny_typeNameOfWhole_keyiter hit.typeIs (wpAny_pure (wpAny_bind (wpAny_fieldsOf ho hd ?_))))
 simp only [show Builtin.Dict_items.ownsTuple "dict_keyiterator"=false by decide,Bool.false_eq_true,if_false]
 show wpAny _ _ (if (Value.ref d==Value.none)=true then _ else _) _ _ s;rw [if_neg (show¬((Value.ref d==Value.none)=true) from fun z=>Bool.false_ne_true z)]
 refine wpAny_bind (wpAny_pure (wpAny_bind (wpAny_dictEntries hod hdd ?_)));rw [if_neg (by simp)]
 refine wpAny_bind (wpAny_pure (wpAny_bind (wpAny_dictEpoch hod hdd ?_)));rw [if_neg (by simp)]
 refine wpAny_pure ?_
 simp only [show¬((i:Int)<0) from by lia,if_false,Int.toNat_natCast,Array.getElem?_eq_getElem lt]
 refine wpAny_bind (wpAny_bind (wpAny_typeNameOfWhole_keyiter hit.typeIs (wpAny_pure ?_)))
 refine wpAny_bind (wpAny_isOneOf_keyiter hit.typeIs ?_);show wpAny _ _ (setField (.ref it) 1 (rawInt ((i:Int)+1))>>=_) _ _ s
 refine wpAny_bind (wpAny_setField ho hd (by simp) ?_)
 have hit':(s.heap.update it (Obj.mapFields (·.setIfInBounds 1 (rawInt ((i:Int)+1))))).IsKeyIter it d (i+1) es.size ep:=⟨_,Heap.get?_update_self _ ho (Obj.isFreed_of_fields (Obj.data_mapFields hd _)),(Obj.cls_mapFields ..).trans hc,by rw [Obj.data_mapFields hd];simp [rawInt]⟩
 refine wpAny_bind (wpAny_holding (wpAny_bind (wpAny_isOneOf_keyiter (s:={s with heap:=s.heap.update it (Obj.mapFields (·.setIfInBounds 1 (rawInt ((i:Int)+1))))}) hit'.typeIs ?_)))
 show wpAny _ _ (pure es[i].key) _ _ _;exact wpAny_pure (wpAny_pure ⟨_,rfl,wpAny_pure (q _ hit' (Heap.SameBut.update ..))⟩)
theorem rF {i:Nat} {Q:Option Value->Shared->Prop} (hh:A.handled=none) (hit:s.heap.IsKeyIter it d i es.size ep) (x:iT s.heap d es ep) (ge:es.size<=i)
  (q:∀h',Heap.ExtBut it s.heap h'->Q none {s with heap:=h'}):wpAny (model prog w) A (pyNext (.ref it)) Q E s:=by
 obtain ⟨o,ho,hc,hd⟩:=id hit
 obtain ⟨od,hod,hcd,hdd⟩:=id x
 unfold pyNext
 refine wpAny_bind (wpAny_attempt (wpAny_callSpecial?_slot (name:=Str.ofString "__next__") hit.typeIs F.slot_dict_keyiterator_next (wpAny_call_entry F.slot_dict_keyiterator_next hit.typeIs F.entry_dict_keyiterator_next ?_ (F.args_dict_keyiterator_next_1 _))))
 refine wpAny_bind (wpAny_pure (wpAny_bind (wpAny_bind ?_)))
 refine wpAny_bind (wpAny_typeNameOfWhole_keyiter hit.typeIs (wpAny_pure (wpAny_bind (wpAny_fieldsOf ho hd ?_))))
 simp only [show Builtin.Dict_items.ownsTuple "dict_keyiterator"=false by decide,Bool.false_eq_true,if_false]
 show wpAny _ _ (if (Value.ref d==Value.none)=true then _ else _) _ _ s;rw [if_neg (show¬((Value.ref d==Value.none)=true) from fun z=>Bool.false_ne_true z)]
 refine wpAny_bind (wpAny_pure (wpAny_bind (wpAny_dictEntries hod hdd ?_)));rw [if_neg (by simp)]
 refine wpAny_bind (wpAny_pure (wpAny_bind (wpAny_dictEpoch hod hdd ?_)));rw [if_neg (by simp)]
 refine wpAny_pure ?_
 simp only [show¬((i:Int)<0) from by lia,if_false,Int.toNat_natCast,Array.getElem?_eq_none ge]
 refine wpAny_bind (wpAny_bind (wpAny_typeNameOfWhole_keyiter hit.typeIs (wpAny_pure ?_)));show wpAny _ _ (setField (.ref it) 0 .none>>=_) _ _ s
 refine wpAny_bind (wpAny_setField ho hd (by simp) ?_);show wpAny _ _ (newExc (.type "StopIteration") []>>=_) _ _ _
 refine wpAny_bind ?_;simp only [newExc,newTuple]
 refine wpAny_bind (wpAny_newObj_type ?_ (by size_fits));refine wpAny_bind (m:=firstArgMember _ _) (wpAny_of_eq (a:=Value.none) (by first|rfl|(simp only [firstArgMember];rfl)) ?_)
 refine wpAny_newObj_type ?_ (by size_fits);simp only [raiseNew]
 refine wpAny_bind (wpAny_handled ?_);rw [show A.in1.handled=none from hh];refine wpAny_bind (wpAny_pure (wpAny_throw ?_))
 refine wpAny_bind (wpAny_isInstance (T:="StopIteration") (b:=true) ⟨_,Heap.get?_push_size _ rfl,rfl⟩ isSubtype_stop (wpAny_pure (q _ (((Heap.SameBut.update ..).extBut.push _).push _))))
end
end L2.L3
namespace L2.L3
open PySem PySem.Spec PyProof.Rows PySem.W
section
variable {X:Cx} {pins:List (Addr×Obj)} {σ:St} {H:Hp} {s:Shared} {a:Addr}
theorem Inv.A2 {kvs:List (List Key×V)} (I:Inv X pins σ H s) (e:H a=some (.dT kvs)):∃o,Inv X pins σ (upd H a (.aC o (.dT kvs))) s:=by
 obtain ⟨z,y,xs,r,o,es,ep,h1,h2,h3,h4,h5⟩:=(show aN X.prog X.w H s.heap a (.dT kvs) from I.ah a _ e)
 refine ⟨o,I.write (x:=a) (e:=a) (t':=s.toks) (by rw [e];exact True.intro) (.inl rfl) (fun b q hb z=>z) ⟨o,h1⟩ ⟨h1,z,y,xs,Paired.tM r fun _ _ w=>⟨w.1, ?_,w.2.2⟩,o,es,ep,h1,h2,h3,h4,h5⟩⟩
 rw [ao (oJ w.2.1 e (fun z=>nomatch z))]
 exact w.2.1
theorem Inv.Bb {kvs:List (Key×V)} (I:Inv X pins σ H s) (e:H a=some (.dK kvs)):∃o,Inv X pins σ (upd H a (.aC o (.dK kvs))) s:=by
 obtain ⟨z,y,vs,r,o,es,ep,h1,h2⟩:=(show aN X.prog X.w H s.heap a (.dK kvs) from I.ah a _ e)
 exact ⟨o,I.write (x:=a) (e:=a) (t':=s.toks) (by rw [e];exact True.intro) (.inl rfl) (fun b q hb z=>z) ⟨o,h1⟩ ⟨h1,z,y,vs,r,o,es,ep,h1,h2⟩⟩
end
noncomputable def Fq:List V->Hp->VK->Prop:=fun xs H Q=>∃a,xs=[.ref a]/\((∃kvs,Rd H a (.dT kvs)/\Q (.int kvs.length) H)∨∃kvs,Rd H a (.dK kvs)/\Q (.int kvs.length) H)
theorem vQ {X:Cx}:aA X (.builtin "len") Fq:=by
 intro pins s σ H xs us Q I r h
 obtain ⟨a,rfl,h⟩:=h
 obtain ⟨u,rfl,rx⟩:=vals1 r
 cases (show u=Value.ref a from rx)
 rcases h with ⟨kvs,e,q⟩|⟨kvs,e,q⟩
 ·obtain ⟨z,hd,xs,rel,o,es,ep,h1,h2,h3,h4,_⟩:=eM I.ah e
  have hz:es.size=kvs.length:=by
   rw [Paired.length rel,←Array.length_toList,h4,List.length_map]
  refine Bv hd ⟨o,h1,h2,h3⟩ (by rw [hz];rw [sizeLine_eq] at z;lia) fun t k=>⟨.int kvs.length,H,I.tok k,⟨t,by rw [hz]⟩,q⟩
 ·exact F7 I e fun t s' I'=>⟨.int kvs.length,H,I',⟨t,rfl⟩,q⟩
noncomputable def zL (o:Obj) (h:Heap) (it d:Addr) (i:Nat):Prop:=∃es ep,o.data= .dict es ep/\h.IsKeyIter it d i es.size ep
noncomputable def EE (d:Addr) (o:Obj) (kvs:List (List Key×V)):It:=
 ⟨fun i H=>H d=some (.aC o (.dT kvs))/\i<kvs.length,fun i H x H'=>H'=H/\∃c k v,x= .ref c/\kvs[i]?=some (k,v)/\H c=some (.tup (k.map kV)),fun i H=>H d=some (.aC o (.dT kvs))/\kvs.length<=i⟩
theorem oS {P:Program} {w:World} {H:Hp} {d:Addr} {o:Obj} {kvs:List (List Key×V)} (ok:bq P w H h) (e:H d=some (.aC o (.dT kvs))):∃es ep xs,o.data= .dict es ep/\iT h d es ep/\es.toList=xs.map (entryOfKey (tupleKind (aG P w)))/\KT H kvs xs/\es.size=kvs.length/\(d==sysModules)=false:=by
 obtain ⟨h0,z,y,xs,r,o',es,ep,h1,h2,h3,h4,h5⟩:=(show aN P w H h d (.aC o (.dT kvs)) from ok d _ e)
 rw [h0] at h1
 cases h1
 exact ⟨es,ep,xs,h3,⟨o,h0,h2,h3⟩,h4,r,by rw [Paired.length r,←Array.length_toList,h4,List.length_map],y⟩
theorem uT {P:Program} {w:World} {K:PySem.W.Frag} (d it:Addr) (o:Obj) (kvs:List (List Key×V)):Turn P w K tg (EE d o kvs) [it] it (fun i h=>zL o h it d i) where
 mem:=by simp
 obj:=fun i h st b hb=>by
  obtain ⟨es,ep,_,u,h1,h2,h3⟩:=st
  rw [List.mem_singleton.mp hb]
  exact ⟨u,h1,fun v z=>by rw [h3] at z;cases z⟩
 keep:=fun i h h' st k=>by
  obtain ⟨es,ep,hd,x⟩:=st
  exact ⟨es,ep,hd,x.at fun o e=>k it (by simp) o e⟩
 item:=by
  intro X hP hw hK hc i pins s σ H E I hf st hg
  subst hP hw hK
  obtain ⟨es,ep,hdat,hit⟩:=st
  obtain ⟨e,lt⟩:=hg
  obtain ⟨es',ep',xs,hdat',raw,hes,rel,hsz,_⟩:=oS I.ah e
  rw [hdat] at hdat'
  cases hdat'
  have lt':i<es.size:=by lia
  obtain ⟨f0,f1,f2,f3,f4,f5⟩:=hf it (by simp)
  refine oY hit raw lt' fun h' st' sb=> ?_
  have I1:Inv X pins σ H {s with heap:=h'}:=I.turned (t':=s.toks) (fun b o hb e=>(sb.2 b hb).trans e) f0 f1 f3 f4 f5
  obtain ⟨kv,x,e1,e2,h1,h2,h3⟩:=iP rel i lt
  have ek:es[i].key= .ref x.2.1:=by
   have q:es.toList[i]?=some es[i]:=by simp [lt']
   rw [hes,List.getElem?_map,e2] at q
   have q':entryOfKey (tupleKind (aG X.prog X.w)) x=es[i]:=Option.some.inj q
   rw [←q']
   rfl
  obtain ⟨u,v1,v2,v3⟩:=id st'
  refine ⟨es[i].key,rfl,lh (s:={s with heap:=h'}) v1 v2 v3 (by decide) ⟨.ref x.2.1,H,I1,ek,⟨rfl,x.2.1,kv.1,kv.2,rfl,e1,h2⟩,⟨es,ep,hdat,st'⟩,fun b hb=>(hf b hb).1⟩⟩
 done:=by
  intro X hP hw hK hc i pins s σ H E I hf st hg
  subst hP hw hK
  obtain ⟨es,ep,hdat,hit⟩:=st
  obtain ⟨e,ge⟩:=hg
  obtain ⟨es',ep',xs,hdat',raw,hes,rel,hsz,_⟩:=oS I.ah e
  rw [hdat] at hdat'
  cases hdat'
  obtain ⟨f0,f1,f2,f3,f4,f5⟩:=hf it (by simp)
  exact rF (I.ok.hd hc) hit raw (by lia) fun h' eb=>⟨rfl,I.turned (t':=s.toks) (fun b o hb e=>eb b o hb e) f0 f1 f3 f4 f5⟩
 self:=fun _ _ _ _ _ st h=>by
  obtain ⟨es,ep,_,hit⟩:=st
  exact wpAny_pyIter_keyiter hit h
end L2.L3
namespace L2.L3
open PySem PySem.Spec PyProof.Rows
structure BlockOkC (S sc:Scope):Prop where
 kind:sc.kind= .function
 names:∀y∈sc.names,y.2= .local->sc.names.lookup y.1=some .local
 free:∀y∈sc.names,y.2= .free->S.names.lookup y.1=some .cell∨S.names.lookup y.1=some .free
 cells:∀y∈sc.names,y.2= .cell->sc.names.lookup y.1=some .cell
theorem qL {a b c:Nat} (h:b<a) (k:a<=c):c≠b:=fun e=>Nat.lt_irrefl _ (Nat.lt_of_lt_of_le h (e▸k))
noncomputable def cf (X:Cx) (own:List (Str×Addr)) (ws:List Str) (caps:List Nat) (sc:Scope) (C:Addr) (fp:List Addr) (pn:List (Addr×Obj)) (s:Shared) (H:Hp):Cx:={zP X ws caps sc C fp pn s H with env:=compEnvC sc (own++a7 X.env sc.names []) C X.env,fn:=fun x=>sc.names.lookup x==some .cell}
noncomputable abbrev cD (X:Cx) (E:XK) (own:List (Str×Addr)) (ws:List Str) (caps:List Nat) (sc:Scope) (C:Addr) (fp:List Addr) (pn:List (Addr×Obj)) (s:Shared) (H:Hp):Cx:=
 (cf X own ws caps sc C fp pn s H).ag (XE (cf X own ws caps sc C fp pn s H) E)
structure OwnOk (sc:Scope) (own:List (Str×Addr)) (s:Shared) (C:Addr):Prop where
 pl:∀x c,own.lookup x=some c->s.heap.objs.size<=c/\c≠C/\sc.names.lookup x=some .cell
 inj:∀x y c,own.lookup x=some c->own.lookup y=some c->x=y
 has:∀x,sc.names.lookup x=some .cell->(own.lookup x).isSome=true
section
variable {X:Cx} {pins:List (Addr×Obj)} {σ:St} {H:Hp} {s:Shared} {ws:List Str} {caps:List Nat} {sc:Scope} {C:Addr} {fp:List Addr} {pn:List (Addr×Obj)} {own:List (Str×Addr)}
theorem gj (I:Inv X pins σ H s) (B:BlockOkC X.env.scope sc):∀x∈sc.names,x.2= .free->∃c,X.env.cells.lookup x.1=some c:=fun x hx hf=>I.ok.has x.1 (B.free x hx hf)
theorem mK (I:Inv X pins σ H s) (B:BlockOkC X.env.scope sc) {x:Str} {c:Addr} (e:(a7 X.env sc.names []).lookup x=some c):X.env.cells.lookup x=some c:=
 lC sc.names [] (gj I B) (fun _ _ z=>by cases z) e
theorem iu {l l':List (Str×Addr)} {x:Str}:(l++l').lookup x=(l.lookup x).or (l'.lookup x):=by
 induction l with
 |nil=>rfl
 |cons a t ih=>
  rw [List.cons_append,List.lookup_cons,List.lookup_cons]
  cases x==a.1 with
  |true=>rfl
  |false=>exact ih
theorem kA (I:Inv X pins σ H s) (B:BlockOkC X.env.scope sc) {x:Str} {c:Addr} (e:(own++a7 X.env sc.names []).lookup x=some c):own.lookup x=some c∨X.env.cells.lookup x=some c:=by
 rw [iu] at e
 cases q:own.lookup x with
 |some d=>
  rw [q] at e
  exact .inl e
 |none=>
  rw [q] at e
  exact .inr (mK I B e)
theorem Ap (O:OwnOk sc own s C) {x:Str} {c:Addr} (fr:sc.names.lookup x=some .free) (e:(a7 X.env sc.names []).lookup x=some c):(own++a7 X.env sc.names []).lookup x=some c:=by
 rw [iu]
 cases q:own.lookup x with
 |some d=>
  have:=(O.pl x d q).2.2
  rw [fr] at this
  cases this
 |none=>exact e
theorem AW (O:OwnOk sc own s C) {x:Str} {c:Addr} (z:(sc.names.lookup x==some NameKind.cell)=true) (e:(own++a7 X.env sc.names []).lookup x=some c):s.heap.objs.size<=c:=by
 have z':sc.names.lookup x=some NameKind.cell:=beq_iff_eq.mp z
 obtain ⟨d,hd⟩:=Option.isSome_iff_exists.mp (O.has x z')
 rw [iu,hd] at e
 cases e
 exact (O.pl x _ hd).1
theorem vd (I:Inv X pins σ H s) (O:OwnOk sc own s C) (B:BlockOkC X.env.scope sc) {x y:Str} {c:Addr} (e1:(own++a7 X.env sc.names []).lookup x=some c) (e2:(own++a7 X.env sc.names []).lookup y=some c):x=y:=by
 have old:∀z,X.env.cells.lookup z=some c->c<s.heap.objs.size:=fun z h=>let ⟨v,q⟩:=I.cell z c h;q.lt
 rcases kA I B e1 with a|a<;>rcases kA I B e2 with b|b
 ·exact O.inj x y c a b
 ·exact absurd (old y b) (Nat.not_lt.mpr (O.pl x c a).1)
 ·exact absurd (old x a) (Nat.not_lt.mpr (O.pl y c b).1)
 ·exact I.ok.inj x y c a b
theorem wq (O:OwnOk sc own s C) (B:BlockOkC X.env.scope sc) {x:Str} (h:(compEnvC sc (own++a7 X.env sc.names []) C X.env).kindOf x=some .cell∨(compEnvC sc (own++a7 X.env sc.names []) C X.env).kindOf x=some .free):
  ∃c,(own++a7 X.env sc.names []).lookup x=some c:=by
 have e:(compEnvC sc (own++a7 X.env sc.names []) C X.env).kindOf x=(sc.names.lookup x).map fun k=>if (k==NameKind.free&&X.env.scope.kind== .function&&X.env.kindOf x==some .cell) then NameKind.cell else k:=fK sc.names
 rw [e] at h
 cases q:sc.names.lookup x with
 |none=>
  rw [q] at h
  rcases h with h|h<;>cases h
 |some k=>
  have mem:=PySem.mem_of_lookup q
  rw [q] at h
  by_cases hk:k= .free
  ·subst hk
   obtain ⟨c,hc⟩:=Option.isSome_iff_exists.mp (jc (env:=X.env) sc.names [] (.inl mem))
   exact ⟨c,Ap O q hc⟩
  ·have hb:(k==NameKind.free)=false:=by simpa using hk
   simp only [Option.map_some,hb,Bool.false_and,Bool.false_eq_true,if_false,Option.some.injEq] at h
   rcases h with h|h
   ·subst h
    obtain ⟨c,hc⟩:=Option.isSome_iff_exists.mp (O.has x q)
    refine ⟨c, ?_⟩
    rw [iu,hc]
    rfl
   ·exact absurd h hk
theorem DF (I:Inv X pins σ H s) (O:OwnOk sc own s C) (B:BlockOkC X.env.scope sc) (hf:∀b∈fp,ck X pins H b) (ho:∀b∈fp,∃o,s.heap.get? b=some o) (hC:s.heap.objs.size<=C):(cf X own ws caps sc C fp pn s H).Ok where
 mod:=I.ok.mod
 kind:=B.kind
 glob:=I.ok.glob
 blt:=I.ok.blt
 above:=hC
 inj:=fun x y c e1 e2=>vd I O B e1 e2
 has:=fun x hx=>wq O B hx
 cab:=fun x c z e=>AW O z e
 hd:=I.ok.hd
 frames:=I.ok.frames
 stk:= .inl rfl
 exf:=fun b hb=>by
  obtain ⟨o,e⟩:=ho b hb
  obtain ⟨_,_,_,_,f4,_⟩:=hf b hb
  exact ⟨Nat.ne_of_lt (Nat.lt_of_lt_of_le (Heap.lt_size e) hC),fun x c q=>(kA I B q).elim (fun z=>qL (Heap.lt_size e) (O.pl x c z).1) (f4 x c)⟩
 bs:=I.bs
 bsz:=Nat.le_trans I.ok.bsz I.sz
 noex:=fun b o e hb=>by
  obtain ⟨_,_,_,f3,_⟩:=hf b hb
  rcases f3 with z|z
  ·exact I.ok.noex b o e z
  ·exact absurd (Nat.lt_of_lt_of_le (Heap.lt_size e) (Nat.le_trans I.ok.bsz z)) (Nat.lt_irrefl _)
 exfs:=fun b hb=>qC I (hf b hb)
 cO:=I.stack
 frf:=I.jD
theorem o8 {h1:Heap} {m:Str->Option Value} {t:Nat} (I:Inv X pins σ H s) (O:OwnOk sc own s C) (B:BlockOkC X.env.scope sc) (hf:∀b∈fp,ck X pins H b) (ho:∀b∈fp,∃o,s.heap.get? b=some o) (hC:s.heap.objs.size<=C)
  (hcap:∀k∈caps,sc.names.lookup (X.N.getD k Str.empty)=some .free) (k:∀b o,s.heap.get? b=some o->h1.get? b=some o) (hn:h1.Ns C m) (hw:∀x c,own.lookup x=some c->∃v,h1.IsCell c v):
  Inv (cf X own ws caps sc C fp [] s H) [] (stC ws caps σ) H {s with heap:=h1,toks:=t}:=by
 refine ⟨DF I O B hf ho hC,rfl,I.bare,Un.kept k,⟨m,hn,fun i x v e1 e2 e3=> ?_⟩,fun x c e=> ?_,I.ah.fresh hC,fun x c e=>(kA I B e).elim (fun z=>I.ah.fresh (O.pl x c z).1) (I.freeC x c),fun p hp=>absurd (show p∈([]:List (Addr×Obj)) from hp) (by simp),I.ah.kept k, ?_⟩
 ·have e1':(ws++caps.map fun i=>X.N.getD i Str.empty)[i]?=some x:=e1
  have e2':(ws.map (fun _=>(none:Option V))++caps.map fun i=>(σ[i]?).getD none)[i]?=some (some v):=e2
  by_cases hi:i<ws.length
  ·rw [List.getElem?_append_left (by simpa using hi),List.getElem?_map] at e2'
   cases q:ws[i]? with
   |none=>
    rw [q] at e2'
    cases e2'
   |some y=>
    rw [q] at e2'
    cases e2'
  ·rw [List.getElem?_append_right (by lia)] at e1'
   rw [List.getElem?_append_right (by simp;lia),List.length_map] at e2'
   rw [List.getElem?_map] at e1' e2'
   cases q:caps[i-ws.length]? with
   |none=>
    rw [q] at e1'
    cases e1'
   |some j=>
    rw [q] at e1' e2'
    have x1:X.N.getD j Str.empty=x:=Option.some.inj e1'
    have x2:(σ[j]?).getD none=some v:=Option.some.inj e2'
    have x3:σ[j]?=some (some v):=by
     cases z:σ[j]? with
     |none=>
      rw [z] at x2
      cases x2
     |some u=>
      rw [z] at x2
      exact congrArg some x2
    have hj:j<X.N.length:=by
     rw [←I.len]
     exact (List.getElem?_eq_some_iff.mp x3).1
    have x4:X.N[j]?=some x:=by
     rw [←x1,List.getD_eq_getElem?_getD,List.getElem?_eq_getElem hj]
     rfl
    have fr:sc.names.lookup x=some .free:=by
     rw [←x1]
     exact hcap j (List.mem_of_getElem? q)
    have out:=B.free _ (PySem.mem_of_lookup fr) rfl
    have vis:uH X.env.scope x:= .inr out
    obtain ⟨m',hn',hl⟩:=I.loc
    obtain ⟨u,r,lk⟩:=hl j x v x4 x3 vis
    refine ⟨u,r, ?_⟩
    rcases lk with ⟨hk,_⟩|⟨_,c,hc,hcell⟩
    ·exfalso
     have hk':X.env.scope.names.lookup x=some .local:=hk
     rcases out with z|z
     ·have z':X.env.scope.names.lookup x=some .cell:=z
      rw [hk'] at z'
      cases z'
     ·have z':X.env.scope.names.lookup x=some .free:=z
      rw [hk'] at z'
      cases z'
    ·obtain ⟨c',hc'⟩:=Option.isSome_iff_exists.mp (jc (env:=X.env) sc.names [] (.inl (PySem.mem_of_lookup fr)))
     have ec:=mK I B hc'
     rw [hc] at ec
     cases ec
     refine .inr ⟨?_,c,Ap O fr hc', ?_⟩
     ·have e:(compEnvC sc (own++a7 X.env sc.names []) C X.env).kindOf x=(sc.names.lookup x).map fun k=>if (k==NameKind.free&&X.env.scope.kind== .function&&X.env.kindOf x==some .cell) then NameKind.cell else k:=fK sc.names
      show (compEnvC sc (own++a7 X.env sc.names []) C X.env).kindOf x=some .cell∨(compEnvC sc (own++a7 X.env sc.names []) C X.env).kindOf x=some .free
      rw [e,fr]
      simp only [Option.map_some]
      split
      ·exact .inl rfl
      ·exact .inr rfl
     ·obtain ⟨o,z1,z2⟩:=hcell
      exact ⟨o,k _ _ z1,z2⟩
 ·rcases kA I B e with z|z
  ·exact hw x c z
  ·obtain ⟨v,o,z1,z2⟩:=I.cell x c z
   exact ⟨v,o,k _ _ z1,z2⟩
 ·show (stC ws caps σ).length=(ws++caps.map fun i=>X.N.getD i Str.empty).length
  unfold stC
  simp
theorem kL {σ':St} {H' H2:Hp} {s':Shared} (I:Inv X pins σ H s) (hf:∀b∈fp,ck X pins H b) (J:Inv (cf X own ws caps sc C fp pn s H) pins' σ' H' s')
  (sb:Heap.SameBut C s'.heap h') (fr:∀b o,s.heap.get? b=some o->H b=none->b∉fp->H2 b=none) (tu:∀b xs,H' b=some (.tup xs)->H2 b=some (.tup xs)) (fz:∀b o u,H' b=some (.aC o u)->H2 b=some (.aC o u)) (tb:∀b ps,H' b=some (.tbl ps)->H2 b=some (.tbl ps))
  (ah:bq X.prog X.w H2 h'):Inv X pins σ H2 {s' with heap:=h'}:=by
 have B:Un (cA X.stack) fp H H' s.heap s'.heap:=J.base
 have nC:∀b o,s.heap.get? b=some o->b≠C:=fun b o e=>Nat.ne_of_lt (Nat.lt_of_lt_of_le (Heap.lt_size e) J.ok.above)
 have un:Un (cA X.stack) fp H H2 s.heap h':=by
  refine ⟨fun b o e n f c=> ?_,fun b o e n f c=> ?_,fun b o e n c=>fr b o e n c,fun b o e c=> ?_,fun b xs q=>tu b xs (B.tups b xs q),fun b o u q=>fz b o u (B.aV b o u q),fun b ps q=> ?_⟩
  ·exact (sb.2 b (nC b o e)).trans (B.keep b o e n f c)
  ·obtain ⟨sl,z⟩:=B.slot b o e n f c
   exact ⟨sl,(sb.2 b (nC b o e)).trans z⟩
  ·obtain ⟨o',z⟩:=B.there b o e c
   exact ⟨o',(sb.2 b (nC b o e)).trans z⟩
  ·obtain ⟨more,z⟩:=B.tbls b ps q
   exact ⟨more,tb b _ z⟩
 exact I.tj (s':={s' with heap:=h'}) (ch:=fp) J.os un ah J.bare fun b hb=>by
  obtain ⟨_,f1,_,f3,f4,f5⟩:=hf b hb
  exact ⟨f3,f1,f4,f5⟩
end
theorem fT:∀(l:List (Str×NameKind)) (n:Nat) (acc:List (Str×Addr)),cellsFrom n l acc=cellsFrom n l []++acc
 |[],_,_=>rfl
 |(x,k)::r,n,acc=>by
  unfold cellsFrom
  split
  ·rw [fT r _ ((x,n)::acc),fT r _ [(x,n)],List.append_assoc]
   rfl
  ·exact fT r n acc
theorem jd {x:Str} {c:Addr}:∀(l:List (Str×NameKind)) (n:Nat) (acc:List (Str×Addr)),(x,c)∈cellsFrom n l acc->(x,c)∈acc∨(x,NameKind.cell)∈l
 |[],_,_,h=> .inl h
 |(y,k)::r,n,acc,h=>by
  unfold cellsFrom at h
  split at h
  ·rename_i hk
   rcases jd r _ _ h with z|z
   ·rcases List.mem_cons.mp z with e|z
    ·cases e
     rw [show k= .cell by simpa using hk]
     exact .inr List.mem_cons_self
    ·exact .inl z
   ·exact .inr (List.mem_cons_of_mem _ z)
  ·exact (jd r _ _ h).imp id (List.mem_cons_of_mem _)
theorem iO {x:Str}:∀(l:List (Str×NameKind)) (n:Nat) (acc:List (Str×Addr)),((x,NameKind.cell)∈l∨(acc.lookup x).isSome=true)->((cellsFrom n l acc).lookup x).isSome=true
 |[],_,_,h=>h.elim (fun z=>by cases z) id
 |(y,k)::r,n,acc,h=>by
  unfold cellsFrom
  split
  ·refine iO r _ _ ?_
   rcases h with h|h
   ·rcases List.mem_cons.mp h with e|h
    ·cases e
     right
     simp
    ·exact .inl h
   ·right
    rw [List.lookup_cons]
    split
    ·rfl
    ·exact h
  ·rename_i hk
   refine iO r _ _ ?_
   rcases h with h|h
   ·rcases List.mem_cons.mp h with e|h
    ·cases e
     exact absurd rfl hk
    ·exact .inl h
   ·exact .inr h
theorem BY {M:Model} {A:Around} {E:Value->Shared->Prop} {s:Shared} {sc:Scope} {closure:List (Str×Addr)} {qual:Str} {outer:Env} {Q:Env->Shared->Prop}
  (hQ:∀h1 own,h1.Ns s.heap.objs.size (fun _=>none)->(∀b o,s.heap.get? b=some o->h1.get? b=some o)->
   ((∀x c,own.lookup x=some c->h1.IsCell c none/\s.heap.objs.size<c)/\(∀x c,own.lookup x=some c->(x,NameKind.cell)∈sc.names)/\(∀x y c,own.lookup x=some c->own.lookup y=some c->x=y)/\∀x,sc.names.lookup x=some .cell->(own.lookup x).isSome=true)->
   Q (newEnv sc s.heap.objs.size globals (own++closure) qual none .none (some outer) builtinsNs) {s with heap:=h1}):
  wpAny M A (newFunctionEnv sc globals closure [] qual none .none (some outer)) Q E s:=by
 simp only [newFunctionEnv,Option.isSome_some,if_true]
 refine wpAny_bind (wpAny_alloc ?_)
 refine wpAny_bind (wpAny_layCells _ (fun name kind cells=>by cases hkc:kind==NameKind.cell<;>simp [hkc]) _ _ _ _ ?_)
 have ok:=cellsFrom_ok sc.names (s.heap.push {cls:= .type "dict",data:= .dict #[]}) (s.heap.objs.size+1) [] ⟨fun _ _ hm=>(nomatch hm),List.Pairwise.nil⟩ (by rw [Heap.size_push];exact Nat.le_refl _)
 rw [Heap.size_push] at ok
 rw [show ({s with heap:=s.heap.push {cls:= .type "dict",data:= .dict #[]}}:Shared).heap.objs.size=s.heap.objs.size+1 from Heap.size_push ..]
 refine wpAny_bind ?_
 rw [List.forIn_nil]
 refine wpAny_pure (wpAny_pure ?_)
 rw [fT]
 have q:=hQ (pushCells (s.heap.push {cls:= .type "dict",data:= .dict #[]}) sc.names) (cellsFrom (s.heap.objs.size+1) sc.names [])
  ((Heap.Ns.new s.heap (.type "dict")).keeps (pushCells_keeps _ _)) (fun b o e=>pushCells_keeps _ _ b o (Heap.get?_push_of_some _ e))
  ⟨fun x c e=>ok.empty x c (PySem.mem_of_lookup e),fun x c e=>(jd _ _ _ (PySem.mem_of_lookup e)).elim (fun z=>by cases z) id,fun x y c e1 e2=>name_of_addr ok.apart (PySem.mem_of_lookup e1) (PySem.mem_of_lookup e2),fun x e=>iO _ _ _ (.inl (PySem.mem_of_lookup e))⟩
 exact q
section
variable {X:Cx} {E:XK} {pins:List (Addr×Obj)} {σ:St} {H:Hp} {s:Shared} {ws:List Str} {caps:List Nat} {sc:Scope} {tg iter elt:Expr} {ifs:List Expr} {pos:Pos} {g:TG} {tt:TT} {te:TE} {it:Addr} {fp:List Addr} {tn:Nat->Heap->Prop} {J:It} {Z:List V->Hp->Prop}
 {RR:Value->Addr->Result->Shared->Prop} {E':Value->Shared->Prop}
end
section
variable {X:Cx} {E:XK} {ws:List Str} {caps:List Nat} {sc:Scope} {tg iter elt:Expr} {ifs:List Expr} {pos py spos:Pos} {wi:TI} {g:TG} {tt:TT} {te:TE}
end
end L2.L3
namespace L2.L4
open PySem PySem.Spec L2.L3
open PyProof.Rows hiding lobj
noncomputable def lR (X:Cx) (E:St->XK) (mk:Option (Addr×Value)->Prop):Value->Shared->Prop:=fun e s=>
 ∃(σ:St) (H:Hp) (ea:Addr) (cls:Value) (dx:Option Addr) (tb:Option (Addr×Value)),e= .ref ea/\Inv X.nR [] σ H s/\ExcAt s.heap ea cls dx tb/\Young X H ea/\
  (∀p,tb=some p->Young X H p.1)/\mk tb/\E σ cls dx H
noncomputable abbrev XE (X:Cx) (E:St->XK):Value->Shared->Prop:=lR X E fun _=>True
noncomputable abbrev XT (X:Cx) (E:St->XK):Value->Shared->Prop:=lR X E fun tb=>∃p,tb=some p
noncomputable abbrev XL (X:Cx) (E:St->XK):Value->Shared->Prop:=lR X E fun tb=>∃T,tb=some (T, .none)
section
variable {X:Cx} {pins:List (Addr×Obj)} {σ:St} {H:Hp} {s s':Shared} {E:St->XK} {e:Value}
theorem pe {M:Model} {E':Value->Shared->Prop} {mk:Option (Addr×Value)->Prop} (fr:Framed X) (hx:cc X) (h:lR X E mk e s):wpAny M X.A (noteFrame e X.env) (fun _ s'=>XT X E e s') E' s:=by
 obtain ⟨F,rest,L,hst,hF,hv⟩:=fr
 obtain ⟨σ,H,ea,cls,dx,tb,rfl,I,x,y,yt,_,q⟩:=h
 have fr':X.A.frames=some (F::rest):=by
  rw [←hst]
  exact I.ok.frames
 have fl:s.heap.FunFrames X.base (F::rest):=by
  rw [←hst]
  exact I.stack
 refine BA (bs:=X.base) fr' hF hv fl x fun h' T m n x'=> ?_
 rw [←hst] at m
 have yT:Young X H T:=by
  rcases n with n|n
  ·obtain ⟨a,b,c⟩:=kR (X:=X.nR) hx I n
   exact ⟨a,b,c⟩
  ·cases tb with
   |none=>cases n
   |some p=>
    cases n
    exact yt p rfl
 have I':Inv X.nR [] σ H {s with heap:=h'}:=by
  refine nQ I m fun b hb=> ?_
  rcases List.mem_cons.mp hb with z|z
  ·subst z
   exact ⟨y.new,(by rw [List.append_nil];exact y.npn),y.free,(gu x).1⟩
  ·cases tb with
   |none=>cases z
   |some p=>
    have z':b=p.1:=by simpa using z
    subst z'
    exact ⟨(yt p rfl).new,(by rw [List.append_nil];exact (yt p rfl).npn),(yt p rfl).free,(gu x).2 p rfl⟩
 exact ⟨σ,H,ea,cls,dx,some (T,rawInt L),rfl,I',x',y,fun p hp=>(by cases hp;exact yT),⟨_,rfl⟩,q⟩
theorem kz {M:Model} {E':Value->Shared->Prop} {fr:Option Addr} (h:XT X E e s):
  wpAny M X.A (setFlight e fr) (fun _ s'=>lR X E (fun tb=>∃T,tb=some (T,fr.elim .none fun f=>rawInt f)) e s') E' s:=by
 obtain ⟨σ,H,ea,cls,dx,tb,rfl,I,x,y,yt,⟨⟨T,fl⟩,rfl⟩,q⟩:=h
 refine wx x fun h' m x'=> ?_
 have m':Moved (cA X.nR.stack) [T] s.heap h':=⟨fun b o _ c e=>m.keep b o (by simp) c e,m.slot⟩
 have yT:=yt _ rfl
 have I':Inv X.nR [] σ H {s with heap:=h'}:=by
  refine nQ I m' fun b hb=> ?_
  have z:b=T:=by simpa using hb
  subst z
  exact ⟨yT.new,(by rw [List.append_nil];exact yT.npn),yT.free,(gu x).2 _ rfl⟩
 refine ⟨σ,H,ea,cls,dx,_,rfl,I',x',y,fun p hp=> ?_,⟨_,rfl⟩,q⟩
 cases hp
 exact yT
theorem CY {M:Model} (h:XT X E e s):cameBackBy M X.A X.env (XE X E) e s:=by
 have h0:=h
 obtain ⟨σ,H,ea,cls,dx,tb,rfl,I,x,y,yt,⟨⟨T,fl⟩,rfl⟩,q⟩:=h
 obtain ⟨oe,vs,he,hc,hx,hd,hz,x1,x2⟩:=x
 unfold cameBackBy
 refine wpAny_bind (wpAny_field he hd x1 ?_)
 rw [if_neg (show¬((Value.ref T==Value.none)=true) from by simp)]
 exact ay (kz h0) fun _ s1 z902=>by obtain ⟨σ1,H1,e1,c1,d1,t1,a1,a2,a3,a4,a5,_,a6⟩:=z902;exact ⟨σ1,H1,e1,c1,d1,t1,a1,a2,a3,a4,a5,trivial,a6⟩
theorem FZ {M:Model} (fr:Framed X) (hx:cc X):PassesOwn M X.A X.env (XE X E):=fun e s h=>ay (pe fr hx h) fun _ s1 h1=>CY h1
theorem nt {α:Type} {M:Model} {what:String} {cenv:Env} {Q:α->Shared->Prop} (h:XT X E e s):wpAny M X.A (PySem.passOn what e cenv:Sem α) Q (XE X E) s:=by
 have h0:=h
 obtain ⟨σ,H,ea,cls,dx,tb,rfl,I,x,y,yt,⟨⟨T,fl⟩,rfl⟩,q⟩:=h
 obtain ⟨oe,vs,he,hc,hx,hd,hz,x1,x2⟩:=x
 unfold PySem.passOn
 refine wpAny_bind (wpAny_field he hd x1 ?_)
 rw [if_neg (show¬((Value.ref T==Value.none)=true) from by simp)]
 exact wpAny_bind (ay (kz h0) fun _ s1 z902=>by obtain ⟨σ1,H1,e1,c1,d1,t1,a1,a2,a3,a4,a5,_,a6⟩:=z902;exact wpAny_throw ⟨σ1,H1,e1,c1,d1,t1,a1,a2,a3,a4,a5,trivial,a6⟩)
end
theorem Bn {X:Cx} {E:XK} {e:Value} {s:Shared} {E':Value->Shared->Prop} {M:Model} (fr:Framed X) (hex:X.ex=[]) (h:XE X (fun _=>E) e s):wpAny M X.A (leaving X.env e) (fun _ s'=>cJ X.prog X.w X.outer X.H₀ X.s₀ E e s') E' s:=by
 have hx:cc X:=fun b hb=>by
  rw [hex] at hb
  cases hb
 unfold leaving
 refine wpAny_bind (ay (pe fr hx h) fun _ s1 h1=>ay (kz (fr:=none) h1) fun _ s2 h2=> ?_)
 obtain ⟨σ,H,ea,cls,dx,tb,rfl,I,x,y,yt,⟨T,rfl⟩,q⟩:=h2
 have B:Un X.fs X.ex X.H₀ H X.s₀.heap s2.heap:=I.base
 rw [hex] at B
 exact ⟨ea,cls,dx,T,H,rfl,I.os,I.bare,B,I.ah,x,y.new,(yt _ rfl).new,y.free,(yt _ rfl).free,q⟩
theorem vm {X:Cx} {E:St->XK} (hx:cc X) {σ:St} {H:Hp} {s:Shared} {e:Value} (I:Inv (X.ag (XE X E)) pins σ H s) (h:cJ X.prog X.w X.stack H s (E σ) e s'):XE X E e s':=by
 obtain ⟨ea,cls,dx,T,H',rfl,h1,h2,h3,h4,h5,h6,h7,h8,h9,q⟩:=h
 have I1:Inv (X.ag (XE X E)) pins σ H' s':=I.tj (ch:=[]) h1 h3 h4 h2 fun b z=>absurd z (by simp)
 have I2:Inv X.nR [] σ H' s':=(I1.br.ag fun _ _=>False).cB fun p hp=>absurd hp (by simp)
 obtain ⟨a1,a2,_⟩:=kR (X:=X.ag (XE X E)) hx I h6
 obtain ⟨b1,b2,_⟩:=kR (X:=X.ag (XE X E)) hx I h7
 exact ⟨σ,H',ea,cls,dx,_,rfl,I2,h5,⟨a1,a2,h8⟩,fun p hp=>(by cases hp;exact ⟨b1,b2,h9⟩),trivial,q⟩
end L2.L4
namespace L2.L4
open PySem PySem.Spec L2.L3
open PyProof.Rows hiding lobj
noncomputable abbrev cD (X:Cx) (E:St->XK) (own:List (Str×Addr)) (ws:List Str) (caps:List Nat) (sc:Scope) (C:Addr) (fp:List Addr) (pn:List (Addr×Obj)) (s:Shared) (H:Hp):Cx:=
 (cf X own ws caps sc C fp pn s H).ag (XE (cf X own ws caps sc C fp pn s H) E)
section
variable {X:Cx} {E:St->XK} {pins:List (Addr×Obj)} {σ:St} {H:Hp} {s:Shared} {ws:List Str} {caps:List Nat} {sc:Scope} {tg iter elt:Expr} {ifs:List Expr} {pos:Pos} {g:TG} {tt:TT} {te:TE} {it:Addr} {fp:List Addr} {tn:Nat->Heap->Prop} {J:It} {Z:List V->Hp->Prop}
 {RR:Value->Addr->Result->Shared->Prop} {E':Value->Shared->Prop}
theorem nJ (fm:Framed X) (hx:cc X) (B:BlockOkC X.env.scope sc) (hc:X.calm=true) (hcap:∀k∈caps,sc.names.lookup (X.N.getD k Str.empty)=some .free)
  (hg:∀own C pn s H,(∀b∈fp,∃o,(b,o)∈pn)->PG (cD X (fun _=>E σ) own ws caps sc C fp pn s H) tg g) (ht:∀own C pn s H,(∀b∈fp,∃o,(b,o)∈pn)->jV (cD X (fun _=>E σ) own ws caps sc C fp pn s H) ifs tt) (he:∀own C pn s H,(∀b∈fp,∃o,(b,o)∈pn)->PE (cD X (fun _=>E σ) own ws caps sc C fp pn s H) elt te)
  (I:Inv (X.ag (XE X E)) pins σ H s) (T:Turn X.prog X.w X.K tg J fp it tn) (st:tn 0 s.heap) (hf:∀b∈fp,ck (X.ag (XE X E)) pins H b) (h:runC g tt te J (stC ws caps σ) H Z)
  (hdone:∀D C s' H' ys,H' D=none->H' C=none->D≠C->Z ys H'->(∃m,s'.heap.Ns C m)->s.heap.objs.size<=C->(∀h',Heap.SameBut C s'.heap h'->Inv (X.ag (XE X E)) pins σ (upd H' D (.lst ys)) {s' with heap:=h'})->RR (.ref D) C (.ok .next) s')
  (herr:∀D C e s',(∃m,s'.heap.Ns C m)->(∀h',Heap.SameBut C s'.heap h'->XT X E e {s' with heap:=h'})->RR (.ref D) C (.error e) s'):
  wpAny (model X.prog X.w) X.A (newList []) (fun acc s3=>wpAny (model X.prog X.w) X.A (newFunctionEnv sc X.env.globals (a7 X.env sc.names []) [] X.env.qual none .none (some X.env)) (fun cenv s4=>
   codeAny (model X.prog X.w) X.A (.compStart (.ListComp elt [⟨tg,iter,ifs,0⟩] sc pos) 0 (.ref it) acc {cenv with scope:=relabel sc X.env}) (RR acc cenv.locals) s4) E' s3) E' s:=by
 refine wpAny_newObj_type (BY (fun h1 own hns hsb hw0=> ?_))
 dsimp only at hns hsb hw0⊢
 generalize hP:s.heap.push {cls:= .type "list",dict:=none,data:= .seq ([]:List Value).toArray}=P2 at hns hsb hw0⊢
 have zC:P2.objs.size=s.heap.objs.size+1:=by rw [←hP,Heap.size_push]
 have leC:s.heap.objs.size<=P2.objs.size:=by rw [zC];exact Nat.le_succ _
 have nDC:s.heap.objs.size≠P2.objs.size:=by rw [zC];exact Nat.ne_of_lt (Nat.lt_succ_self _)
 have old:∀b o,s.heap.get? b=some o->h1.get? b=some o:=fun b o e=>
  hsb _ _ (hP▸Heap.get?_push_of_some _ e)
 have acc0:h1.get? s.heap.objs.size=some (lobj [] 0):=hsb _ _ (hP▸Heap.get?_push_size _ rfl)
 have OO:OwnOk sc own s P2.objs.size:=⟨fun x c e=>⟨Nat.le_trans leC (Nat.le_of_lt (hw0.1 x c e).2),Nat.ne_of_gt (hw0.1 x c e).2,B.cells _ (hw0.2.1 x c e) rfl⟩,hw0.2.2.1,hw0.2.2.2⟩
 have hw:∀x c,own.lookup x=some c->∃v,h1.IsCell c v:=fun x c e=>⟨none,(hw0.1 x c e).1⟩
 have abv:∀x c,own.lookup x=some c->s.heap.objs.size<c:=fun x c e=>Nat.lt_of_le_of_lt leC (hw0.1 x c e).2
 clear hw0
 have there:∀b∈fp,∃o,s.heap.get? b=some o:=fun b hb=>let ⟨o,e,_⟩:=T.obj 0 s.heap st b hb;⟨o,e⟩
 generalize hD:s.heap.objs.size=D at*
 generalize hCC:P2.objs.size=C at*
 have I0:Inv X pins σ H s:=I.br
 have hf0:∀b∈fp,ck X pins H b:=hf
 have st1:tn 0 h1:=T.keep 0 s.heap h1 st fun b _ o e=>old b o e
 have J0:Inv (cf X own ws caps sc C fp [] s H) [] (stC ws caps σ) H {s with heap:=h1}:=o8 (t:=s.toks) I0 OO B hf0 there (by lia) hcap old hns hw
 have D0:H D=none:=I0.ah.fresh (by lia)
 have nD1:D≠C:=nDC
 have nDc:∀x c,(own++a7 X.env sc.names []).lookup x=some c->c≠D:=fun x c e z=>by
  rcases kA I0 B e with w|w
  ·exact absurd (abv x c w) (by rw [z];exact Nat.lt_irrefl _)
  obtain ⟨v,q⟩:=I0.cell x c w
  have lt:=q.lt
  rw [z,hD] at lt
  exact Nat.lt_irrefl _ lt
 have nDs:D∉cA X.stack:=fun z=>by
  obtain ⟨_,o,e,_⟩:=I0.stack.mem z
  have lt:=Heap.lt_size e
  rw [hD] at lt
  exact Nat.lt_irrefl _ lt
 have nDf:D∉fp:=fun z=>by
  obtain ⟨o,e⟩:=there D z
  have lt:=Heap.lt_size e
  rw [hD] at lt
  exact Nat.lt_irrefl _ lt
 have sD:s.heap.get? D=none:=Heap.get?_none_of_le (by lia)
 have stat:∀{H':Hp} {p:List (Addr×Obj)},(∀b∈fp,H' b=none)->(∀q∈p,q.1∉fp)->∀b∈fp,ck (cf X own ws caps sc C fp [] s H) p H' b:=fun {H' p} hn hp b hb=>by
  obtain ⟨o,e⟩:=there b hb
  have lt:=Heap.lt_size e
  obtain ⟨_,_,_,_,f4,_⟩:=hf0 b hb
  exact ⟨hn b hb,(by rw [hD] at lt;exact Nat.ne_of_lt (Nat.lt_of_lt_of_le lt leC)),qC I0 (hf0 b hb), .inl hb,fun x c q=>(kA I0 B q).elim (fun z=>qL lt (OO.pl x c z).1) (f4 x c),fun q hq z=>hp q hq (by rw [z];exact hb)⟩
 have err:∀{pn:List (Addr×Obj)} {e:Value} {s':Shared},(∀b∈fp,∃o,(b,o)∈pn)->XE (cf X own ws caps sc C fp pn s H) (fun _=>E σ) e s'->
   notedBy (model X.prog X.w) X.A (compEnvC sc (own++a7 X.env sc.names []) C X.env) (fun e s'=>RR (.ref D) C (.error e) s') e s':=fun {pn e s'} hh x=>by
  have fm':Framed (cf X own ws caps sc C fp pn s H):=fm
  refine ay (pe (X:=cf X own ws caps sc C fp pn s H) fm' hh x) fun _ s2 x2=> ?_
  obtain ⟨σ2,H2,ea,cls,dx,tb,rfl,K2,y2,y3,y4,⟨p,rfl⟩,q2⟩:=x2
  obtain ⟨mC,nC,_⟩:=K2.loc
  have K3:Inv (cf X own ws caps sc C fp pn s H) [] σ2 H2 s2:=K2
  refine herr D C _ s2 ⟨mC,nC⟩ fun h' sb=> ?_
  have r1:=(gu y2).1
  have r2:=(gu y2).2 p rfl
  have ne1:ea≠C:=by obtain ⟨o,vs,e1,e2⟩:=r1;exact (qS K2 e1 e2).1
  have ne2:p.1≠C:=by obtain ⟨o,vs,e1,e2⟩:=r2;exact (qS K2 e1 e2).1
  have hk:bq X.prog X.w H2 h':=by
   refine (Moved.ah (fs:=[]) (ch:=[C]) ⟨fun b o _ c e=>(sb.2 b (by simpa using c)).trans e,fun b o c e=>⟨o.slots,(sb.2 b (by simpa using c)).trans e⟩⟩ K2.ah (fun b hb=>absurd hb (by simp)) fun b hb=> ?_)
   have z:b=C:=by simpa using hb
   rw [z]
   exact K2.free
  have I3:Inv X pins σ H2 {s2 with heap:=h'}:=kL I0 hf0 K3 sb (fun b o e n c=>K3.base.free b o e n c) (fun _ _ q=>q) (fun _ _ _ q=>q) (fun _ _ q=>q) hk
  have I4:Inv X.nR [] σ H2 {s2 with heap:=h'}:=(I3.ag fun _ _=>False).cB fun p hp=>absurd hp (by simp)
  have yo:∀b,Young (cf X own ws caps sc C fp pn s H) H2 b->Young X H2 b:=fun b y=>by
   obtain ⟨a1,a2,_⟩:=kR hx I0 y.new
   exact ⟨a1,a2,y.free⟩
  refine ⟨σ,H2,ea,cls,dx,some p,rfl,I4, ?_,yo _ y3,fun p' hp'=>(by cases hp';exact yo _ (y4 p rfl)),⟨p,rfl⟩,q2⟩
  obtain ⟨oe,vs,e1,e2,e3,e4,e5,e6,e7,oT,ts,e8,e9,wJ⟩:=y2
  exact ⟨oe,vs,(sb.2 _ ne1).trans e1,e2,e3,e4,e5,e6,e7,oT,ts,(sb.2 _ ne2).trans e8,e9,wJ⟩
 obtain ⟨W,⟨m0,w0⟩,turn⟩:=h
 have loop:codeAny (model X.prog X.w) X.A (.compLoop (.ListComp elt [⟨tg,iter,ifs,0⟩] sc pos) 0 (.ref it) (.ref D) (compEnvC sc (own++a7 X.env sc.names []) C X.env)) (RR (.ref D) C) {s with heap:=h1}:=by
  refine vJ (fun n s'=>∃i ys its k σ' H',Inv (cf X own ws caps sc C fp [] s H) [(D,lobj its k)] σ' H' s'/\Vals ys its/\ys.length<=sizeLine/\tn i s'.heap/\(∀b∈fp,H' b=none)/\W i n ys σ' H') ?_ m0
   ⟨0,[],[],0,stC ws caps σ,H,J0.cB fun p hp=> ?_, .nil,Nat.zero_le _,st1,fun b hb=>(hf0 b hb).1,w0⟩
  rotate_left
  ·have z:p=(D,lobj [] 0):=by simpa using hp
   subst z
   exact ⟨acc0,D0,nD1,nDs,fun v z=>by cases z⟩
  rintro n s1 ⟨i,ys,its,k,σ1,H1,I1,rv,hz,st1',fr1,w1⟩
  have nq:∀q∈[(D,lobj its k)],q.1∉fp:=fun q hq=>by
   have z:q=(D,lobj its k):=by simpa using hq
   rw [z]
   exact nDf
  rcases turn i n ys σ1 H1 w1 with ⟨stop,zq⟩|⟨go,N,hN,step⟩
  ·refine wpAny_mono (T.done (cf X own ws caps sc C fp [] s H) rfl rfl rfl hc i [(D,lobj its k)] s1 σ1 H1 (fun _ _=>False) I1 (stat fr1 nq) st1' stop) (fun r s2 z902=> ?_) fun _ _ z=>z.elim;obtain ⟨hr,I2⟩:=z902
   subst hr
   obtain ⟨mC,nC,_⟩:=I2.loc
   have p2:=I2.pin (D,lobj its k) (by simp)
   refine hdone D C s2 H1 ys p2.2.1 I2.free nD1 zq ⟨mC,nC⟩ (by lia) fun h' sb=> ?_
   have hk:bq X.prog X.w (upd H1 D (.lst ys)) h':=by
    have t1:Inv (cf X own ws caps sc C fp [] s H) [] σ1 (upd H1 D (.lst ys)) s2:=lF (o:= .lst ys) (I2.cB (pins':=[]) fun p hp=>absurd hp (by simp)) p2.2.1 sD nD1 nDc (fun p hp=>absurd (show p∈([]:List (Addr×Obj)) from hp) (by simp)) ⟨hz,its,k,rv,p2.1⟩
    refine (Moved.ah (fs:=[]) (ch:=[C]) ⟨fun b o _ c e=>(sb.2 b (by simpa using c)).trans e,fun b o c e=>⟨o.slots,(sb.2 b (by simpa using c)).trans e⟩⟩ t1.ah (fun b hb=>absurd hb (by simp)) fun b hb=> ?_)
    have z:b=C:=by simpa using hb
    rw [z]
    exact t1.free
   have nn:∀b u,H1 b=some u->upd H1 D (.lst ys) b=some u:=fun b u q=>by
    rw [ao (bj q p2.2.1)]
    exact q
   exact (kL I0 hf0 I2 sb (fun b o e nb c=>by
    have hb:b≠D:=fun z=>by rw [z,sD] at e;cases e
    rw [ao hb]
    exact I2.base.free b o e nb c) (fun b xs q=>nn _ _ q) (fun b o u q=>nn _ _ q) (fun b ps q=>nn _ _ q) hk).ag _
  ·refine wpAny_mono (T.item (cf X own ws caps sc C fp [] s H) rfl rfl rfl hc i [(D,lobj its k)] s1 σ1 H1 (fun _ _=>False) I1 (stat fr1 nq) st1' go) (fun r s2 z902=> ?_) fun _ _ z=>z.elim;obtain ⟨u,hr,h2⟩:=z902
   subst hr
   refine wpAny_mono h2 (fun _ s3 z902=> ?_) fun _ _ z=>z.elim;obtain ⟨x,H3,I3,r3,y3,st3,fr3⟩:=z902
   have p3:=I3.pin (D,lobj its k) (by simp)
   have hh:∀b∈fp,∃o,(b,o)∈(D,lobj its k)::bC fp s3.heap:=fun b hb=>by
    obtain ⟨o,e,_⟩:=T.obj _ _ st3 b hb
    exact ⟨o,List.mem_cons_of_mem _ (cX hb e)⟩
   have I3':Inv (cD X (fun _=>E σ) own ws caps sc C fp ((D,lobj its k)::bC fp s3.heap) s H) [] σ1 H3 s3:=by
    have q:Inv (cf X own ws caps sc C fp ((D,lobj its k)::bC fp s3.heap) s H) [] σ1 H3 s3:=by
     have i4:=I3.pinned (stat fr3 nq) (T.obj _ _ st3)
     exact qE (qn:=(D,lobj its k)::bC fp s3.heap) (q:=[]) i4 fun p hp=>by simpa [cf,zP] using hp
    exact q.ag _
   refine wpAny_mono (hg own C ((D,lobj its k)::bC fp s3.heap) s H hh [] s3 σ1 H3 x u _ I3' r3 (step x H3 y3)) (fun _ s4 z902=> ?_) fun e s' z=>err hh z;obtain ⟨σ4,H4,I4,q4⟩:=z902
   refine wpAny_mono (ht own C ((D,lobj its k)::bC fp s3.heap) s H hh [] s4 σ4 H4 _ I4 q4) (fun ok s5 z902=> ?_) fun e s' z=>err hh z;obtain ⟨H5,I5,q5⟩:=z902
   have back:∀{σ9:St} {H9:Hp} {s9:Shared},Inv (cD X (fun _=>E σ) own ws caps sc C fp ((D,lobj its k)::bC fp s3.heap) s H) [] σ9 H9 s9->Inv (cf X own ws caps sc C fp [] s H) [(D,lobj its k)] σ9 H9 s9/\tn (i+1) s9.heap/\∀b∈fp,H9 b=none:=fun {σ9 H9 s9} I9=>by
    have i1:Inv (cf X own ws caps sc C fp ((D,lobj its k)::bC fp s3.heap) s H) [] σ9 H9 s9:=I9.br
    refine ⟨qE (qn:=[]) (q:=[(D,lobj its k)]) i1 fun p hp=> ?_,T.keep _ _ _ st3 fun b hb o e=> ?_,fun b hb=> ?_⟩
    ·have z:p=(D,lobj its k):=by simpa using hp
     subst z
     simp [cf,zP]
    ·exact (i1.pin (b,o) (List.mem_append_left _ (List.mem_cons_of_mem _ (cX hb e)))).1
    ·obtain ⟨o,e,_⟩:=T.obj _ _ st3 b hb
     exact (i1.pin (b,o) (List.mem_append_left _ (List.mem_cons_of_mem _ (cX hb e)))).2.1
   cases ok with
   |false=>
    rw [if_neg Bool.false_ne_true] at q5⊢
    obtain ⟨m',hm,w5⟩:=hN _ _ _ q5
    obtain ⟨b1,b2,b3⟩:=back I5
    exact ⟨m',hm,i+1,ys,its,k,σ4,H5,b1,rv,hz,b2,b3,w5⟩
   |true=>
    rw [if_pos rfl] at q5⊢
    refine wpAny_mono (he own C ((D,lobj its k)::bC fp s3.heap) s H hh [] s5 σ4 H5 _ I5 q5) (fun v s6 z902=> ?_) fun e s' z=>err hh z;obtain ⟨xv,H6,I6,r6,hlt,nq⟩:=z902
    obtain ⟨m',hm,w6⟩:=hN _ _ _ nq
    obtain ⟨b1,b2,b3⟩:=back I6
    have p6:=b1.pin (D,lobj its k) (by simp)
    have t1:Inv (cf X own ws caps sc C fp [] s H) (bC fp s6.heap) σ4 (upd H6 D (.lst ys)) s6:=by
     have c1:=(b1.cB (pins':=[]) fun p hp=>absurd hp (by simp)).pinned (fp:=fp) (stat b3 fun q hq=>absurd hq (by simp)) (T.obj _ _ b2)
     refine lF (o:= .lst ys) c1 p6.2.1 sD nD1 nDc (fun p hp=> ?_) ⟨hz,its,k,rv,p6.1⟩
     have hp':p∈bC fp s6.heap:=by simpa [cf,zP] using hp
     intro z
     exact nDf (z▸(oh hp').1)
    refine wpAny_mono (nM (X:=cf X own ws caps sc C fp [] s H) (bC fp s6.heap) s6 σ4 (upd H6 D (.lst ys)) (.ref D) [xv] (.ref D) [v] (fun _ H7=>H7=upd (upd H6 D (.lst ys)) D (.lst (ys++[xv]))) t1 rfl (.cons r6 .nil) ⟨D,ys,xv,rfl,rfl,aj,hlt,rfl⟩) (fun _ s7 z902=> ?_) fun _ _ z=>z.elim;obtain ⟨_,H7,I7,_,q7⟩:=z902
    subst q7
    rw [gL] at I7
    obtain ⟨z7,its7,n7,v7,l7,e7⟩:=I7.kC aj
    have I8:=AN I7 p6.2.1
    refine ⟨m',hm,i+1,ys++[xv],its7,n7,σ4,H6, ?_,v7,z7,T.keep _ _ _ b2 fun b hb o e=> ?_,b3,w6⟩
    ·refine I8.cB fun p hp=> ?_
     have z:p=(D,lobj its7 n7):=by simpa using hp
     subst z
     exact ⟨e7,p6.2.1,nD1,nDs,fun v z=>by cases z⟩
    ·exact (I8.pin (b,o) (List.mem_append_right _ (cX hb e))).1
 exact codeAny_compStart_list loop (T.self _ 0 _ _ _ st1 loop)
end
noncomputable def zQ (ws:List Str) (caps:List Nat) (wi:TI) (g:TG) (tt:St->TT) (te:St->TE):TE:=fun σ H Q=>wi σ H fun J H1=>runC g (tt σ) (te σ) J (stC ws caps σ) H1 fun ys H'=>∀D,H' D=none->Q (.ref D) (upd H' D (.lst ys))
noncomputable def z9 (i:Nat) (ws:List Str) (caps:List Nat) (wi:TI) (g:TG) (tt:St->TT) (te:St->TE):TS:=fun D σ H=>wi σ H fun J H1=>runC g (tt σ) (te σ) J (stC ws caps σ) H1 fun ys H'=>∀a,H' a=none->D.nx (σ.set i (some (.ref a))) (upd H' a (.lst ys))
section
variable {X:Cx} {E:St->XK} {ws:List Str} {caps:List Nat} {sc:Scope} {tg iter elt:Expr} {ifs:List Expr} {pos py spos:Pos} {wi:TI} {g:TG} {tt:St->TT} {te:St->TE}
theorem yp (fm:Framed X) (hx:cc X) (B:BlockOkC X.env.scope sc) (hc:X.calm=true) (hcap:∀k∈caps,sc.names.lookup (X.N.getD k Str.empty)=some .free) (hi:PI (X.ag (XE X E)) tg iter wi)
  (hg:∀σ own C fp pn s H,(∀b∈fp,∃o,(b,o)∈pn)->PG (cD X (fun _=>E σ) own ws caps sc C fp pn s H) tg g) (ht:∀σ own C fp pn s H,(∀b∈fp,∃o,(b,o)∈pn)->jV (cD X (fun _=>E σ) own ws caps sc C fp pn s H) ifs (tt σ))
  (he:∀σ own C fp pn s H,(∀b∈fp,∃o,(b,o)∈pn)->PE (cD X (fun _=>E σ) own ws caps sc C fp pn s H) elt (te σ)) (hs:∀x,foldedSetIterable iter X.env x=pure x:=by intro _;rfl):
  PE (X.ag (XE X E)) (.ListComp elt [⟨tg,iter,ifs,0⟩] sc pos) (zQ ws caps wi g tt te):=by
 intro pins s σ H Q I h
 have fc:=gj I.br B
 show wpAny (model X.prog X.w) X.A (eval (.ListComp elt [⟨tg,iter,ifs,0⟩] sc pos) X.env) _ (XE X E) s
 rw [eval_ListComp]
 refine wpAny_comprehension_free (use:=none) (cl:=a7 X.env sc.names []) rfl hs (iD fc) B.kind B.names (ay (hi pins s σ H _ I h) fun v s1 h1=>ay h1 fun itv s2 h2=> ?_)
 obtain ⟨it,fp,tn,J,H2,e,I2,T,st,f2,q⟩:=h2
 subst e
 refine nJ (RR:=fun acc C=>compPost (model X.prog X.w) X.A (XE X E) none (EP (X.ag (XE X E)) pins σ Q) acc C) fm hx B hc hcap (fun own C pn s H=>hg σ own C fp pn s H) (fun own C pn s H=>ht σ own C fp pn s H) (fun own C pn s H=>he σ own C fp pn s H) I2 T st f2 q
  (fun D C s' H' ys hD _ _ z z909 _ k=>by obtain ⟨m,hn⟩:=z909;exact ⟨m,hn,fun h' sb=>⟨.ref D,_,k h' sb,rfl,z D hD⟩⟩) fun D C e s' z904 k=>by obtain ⟨m,hn⟩:=z904;exact ⟨m,hn,fun h' sb cenv _=>nt (k h' sb)⟩
theorem yX {i:Nat} {y:Str} (fm:Framed X) (hx:cc X) (B:BlockOkC X.env.scope sc) (hc:X.calm=true) (hcap:∀k∈caps,sc.names.lookup (X.N.getD k Str.empty)=some .free) (hN:X.N.Nodup) (hy:X.N[i]?=some y) (hl:X.env.scope.names.lookup y=some .local)
  (hi:PI (X.ag (XE X E)) tg iter wi)
  (hg:∀σ own C fp pn s H,(∀b∈fp,∃o,(b,o)∈pn)->PG (cD X (fun _=>E σ) own ws caps sc C fp pn s H) tg g) (ht:∀σ own C fp pn s H,(∀b∈fp,∃o,(b,o)∈pn)->jV (cD X (fun _=>E σ) own ws caps sc C fp pn s H) ifs (tt σ))
  (he:∀σ own C fp pn s H,(∀b∈fp,∃o,(b,o)∈pn)->PE (cD X (fun _=>E σ) own ws caps sc C fp pn s H) elt (te σ))
  (hsw:swapsWith (.ListComp elt [⟨tg,iter,ifs,0⟩] sc pos) (some (.Name y py)) spos.line X.env=pure true:=by rfl) (hs:∀x,foldedSetIterable iter X.env x=pure x:=by intro _;rfl):
  PS (X.ag (XE X E)) (.Assign [.Name y py] (.ListComp elt [⟨tg,iter,ifs,0⟩] sc pos) spos) (z9 i ws caps wi g tt te):=by
 intro pins s σ H D I h
 show wpAny (model X.prog X.w) X.A (exec (.Assign [.Name y py] (.ListComp elt [⟨tg,iter,ifs,0⟩] sc pos) spos) X.env) _ _ s
 rw [exec_Assign_Name_used _ _ _ _ hsw]
 refine wpAny_bind (wpAny_standAt (wpAny_bind ?_))
 show wpAny _ X.A (do let _←comprehension (.ListComp elt [⟨tg,iter,ifs,0⟩] sc pos) sc X.env _ (newList []) false (eval iter X.env) (some (assign (.Name y py) X.env))) _ _ s
 refine wpAny_bind (ay (wpAny_comprehension_free (use:=some (assign (.Name y py) X.env)) (cl:=a7 X.env sc.names []) (Q:=fun _ s'=>SP (X.ag (XE X E)) pins D .next s') rfl hs (iD (gj I.br B)) B.kind B.names
  (ay (hi pins s σ H _ I h) fun v s1 h1=>ay h1 fun itv s2 h2=> ?_)) fun _ s' q=>wpAny_pure (wpAny_pure q))
 obtain ⟨it,fp,tn,J,H2,e,I2,T,st,f2,q⟩:=h2
 subst e
 refine nJ (RR:=fun acc C=>compPost (model X.prog X.w) X.A (XE X E) (some (assign (.Name y py) X.env)) (fun _ s'=>SP (X.ag (XE X E)) pins D .next s') acc C) fm hx B hc hcap (fun own C pn s H=>hg σ own C fp pn s H) (fun own C pn s H=>ht σ own C fp pn s H) (fun own C pn s H=>he σ own C fp pn s H) I2 T st f2 q
  (fun a C s' H' ys hD fC naC z ⟨m,hn⟩ hC k=> ?_) fun D C e s' z904 k=>by obtain ⟨m,hn⟩:=z904;exact ⟨m,hn,fun h' sb cenv _=>nt (k h' sb)⟩
 have k0:=k s'.heap (.refl ..)
 have I3:Inv X pins σ (upd H' a (.lst ys)) s':=Inv.br k0
 show wpAny (model X.prog X.w) X.A (assign (.Name y py) X.env (.ref a)) _ _ s'
 have nL:X.env.locals≠C:=Nat.ne_of_lt (Nat.lt_of_lt_of_le I2.br.lt hC)
 have nC:∀x c,X.env.cells.lookup x=some c->c≠C:=fun x c e=>by
  obtain ⟨v,q⟩:=I2.br.cell x c e
  exact Nat.ne_of_lt (Nat.lt_of_lt_of_le q.lt hC)
 refine wpAny_assign_Name (nE (X:=X) I3 hN hy (.inl hl) (show RelV (.ref a) (.ref a) from rfl) (fun s3 I4 z902=> ?_) (.inr hl));obtain ⟨b,sb,hb⟩:=z902
 have nb:C≠b:=by
  rcases hb with rfl|hb
  ·exact nL.symm
  ·exact (nC _ _ hb).symm
 refine ⟨m,hn.sameBut sb nb,fun h' sb'=> ?_⟩
 have mv:Moved (cA X.stack) [C] s3.heap h':=⟨fun b o _ c e=>(sb'.2 b (by simpa using c)).trans e,fun b o c e=>⟨o.slots,(sb'.2 b (by simpa using c)).trans e⟩⟩
 have uC:upd H' a (.lst ys) C=none:=by
  rw [ao naC.symm]
  exact fC
 have I5:Inv X pins (σ.set i (some (.ref a))) (upd H' a (.lst ys)) {s3 with heap:=h'}:=by
  refine Aq (s':={s3 with heap:=h'}) (ch:=[C]) I4 rfl mv.un (mv.ah I4.ah I4.jD fun b hb=> ?_) I4.bare fun b hb=> ?_
  ·have e:b=C:=by simpa using hb
   rw [e]
   exact uC
  ·have e:b=C:=by simpa using hb
   subst e
   refine ⟨Heap.get?_none_of_le (Nat.le_trans I2.br.sz hC),nL.symm,nC,I2.br.Cy hC,fun p hp=> ?_⟩
   exact Nat.ne_of_lt (Nat.lt_of_lt_of_le (Heap.lt_size (I2.br.pin p hp).1) hC)
 exact ⟨_,_,I5.ag _,z a hD⟩
end
end L2.L4
namespace L2.L3
open PySem PySem.Spec PyProof.Rows PySem.W
noncomputable abbrev SW:=List V->List V->Hp->Prop
noncomputable def oI (sp:Sp) (kS:Addr) (W:SW):Prop:=∀y rest kv H',W (y::rest) kv H'->sp [y] H' (fun v H2=>∃kv2,kv2.length=kv.length/\H2 kS=some (.lst kv2)/\W rest (kv2++[v]) (upd H2 kS (.lst (kv2++[v])))) (fun _ _ _=>False)
section
variable {X:Cx} {pins:List (Addr×Obj)} {σ:St} {H:Hp} {s:Shared} {k:Nat} {f:Addr} {fd:FuncData} {ps:List Str} {sp:Sp}
theorem ll {W:SW} {E:Value->Shared->Prop} {R:Shared->Prop} (F:FnOk X.prog X.w X.K X.mg X.base (cJ X.prog X.w) k f fd ps sp) (hr:Room k X.A.in1.in1) (hb:Binds X.K fd ps []) (hW:oI sp kS W) {body:Value->PUnit->Sem (ForInStep PUnit)}
  (hbody:∀x (s:Shared) (C:Shared->Prop),wpAny (model X.prog X.w) X.A.in1.in1 (call (.ref f) [x]) (fun u s'=>wpAny (model X.prog X.w) X.A.in1.in1 (Builtin.List.listUpdate (.ref kS) (·.push u)) (fun _ s''=>C s'') E s') (fun _ _=>False) s->
   wpAny (model X.prog X.w) X.A.in1.in1 (body x ⟨⟩) (fun r s''=>r= .yield ⟨⟩/\C s'') E s):
  ∀{ys:List V} {us:List Value},Vals ys us->∀(kv:List V) (H':Hp) (s:Shared),Inv X pins σ H' s->H' kS=some (.lst kv)->W ys kv H'->kv.length+ys.length<64->
   (∀kv' H'' s'',Inv X pins σ H'' s''->H'' kS=some (.lst kv')->W [] kv' H''->kv'.length=kv.length+ys.length->R s'')->wpAny (model X.prog X.w) X.A.in1.in1 (forIn us PUnit.unit body) (fun _ s''=>R s'') E s
 |_,_, .nil,kv,H',s,I,hk,hw,hl,fin=>by
  rw [List.forIn_nil]
  exact wpAny_pure (fin kv H' s I hk hw rfl)
 |y::ys,u::us, .cons r rr,kv,H',s,I,hk,hw,hl,fin=>by
  rw [List.forIn_cons]
  rw [List.length_cons] at hl
  refine wpAny_bind (wpAny_mono (hbody u s (fun s''=>wpAny (model X.prog X.w) X.A.in1.in1 (forIn us PUnit.unit body) (fun _ s''=>R s'') E s'') ?_) (fun r' s'' h=> ?_) fun _ _ e=>e)
  ·refine ay (yx F hr hb I r (hW y ys kv H' hw)) fun w s1 ⟨v,H2,I2,rv,kv2,l2,hk2,w2⟩=> ?_
   obtain ⟨z,its,n,rt,hlen,e⟩:=I2.kC hk2
   refine listUpdate_at e rfl ?_ (by rw [List.size_toArray];lia) (by rw [Array.size_push,List.size_toArray];lia)
   have hz:(kv2++[v]).length<=sizeLine:=by
    rw [List.length_append,List.length_singleton]
    exact Nat.le_of_lt (fZ (by lia))
   have I3:=I2.uc (f:=(·.push w)) (its':=its++[w]) (t':=s1.toks) hk2 e (by simp) (rt.append (.cons rv .nil)) hz
   exact ll F hr hb hW hbody rr (kv2++[v]) _ _ I3 aj w2 (by rw [List.length_append,List.length_singleton];lia) (fun kv' H'' s'' a1 a2 a3 a4=>fin kv' H'' s'' a1 a2 a3 (by
    rw [a4,List.length_append,List.length_singleton,List.length_cons]
    lia))
  ·obtain ⟨rfl,h⟩:=h
   exact h
end
section
variable {X:Cx} {pins:List (Addr×Obj)} {σ:St} {H:Hp} {s:Shared} {D kS:Addr} {e1:Nat} {zs kv:List V} {ws:List Value} {E:Value->Shared->Prop} {A:Around}
noncomputable def zY (X:Cx) (pins:List (Addr×Obj)) (σ:St) (H:Hp) (kS D:Addr) (zs:List V) (s':Shared):Prop:=Inv X pins σ (upd (upd H kS (.lst [])) D (.lst zs)) s'/\upd H kS (.lst []) D=none
theorem lN {st:SortSt} (I:Inv X ((D,seqObj "list" #[] e1)::pins) σ H s) (hk:H kS=some (.lst kv)) (pD:Place X pins D) (hv:Vals zs ws) (hz:zs.length<64) (hout:(arrOf st).map (·.2)=ws.toArray) (hf:failedOf st=none):
  wpAny (model X.prog X.w) A (ksk_tail D false e1 (.ref kS) st) (fun fin s'=>fin= .done (.ret .none)/\zY X pins σ H kS D zs s') E s:=by
 obtain ⟨z,its,n,rt,hlen,e⟩:=I.kC hk
 have hws:ws.length=zs.length:=hv.length.symm
 unfold ksk_tail
 try dsimp only
 rw [hout]
 refine wpAny_bind (listUpdate_at e rfl ?_ (by rw [List.size_toArray];lia) (Nat.zero_le _))
 refine wpAny_bind (wpAny_letGo ?_)
 have I1:=I.uc (f:=fun _=>#[]) (its':=[]) (ys:=[]) (t':=s.toks) hk e rfl .nil (Nat.zero_le _)
 have pD1:=I1.pin (D,seqObj "list" #[] e1) (List.mem_append_right _ List.mem_cons_self)
 have gD:(s.heap.update kS (Obj.mapSeq fun _=>(#[]:Array Value))).get? D=some (seqObj "list" #[] e1):=pD1.1
 refine wpAny_bind (seqEpoch_at gD rfl ?_)
 refine wpAny_bind (listUpdate_at gD rfl ?_ (Nat.zero_le _) (by show (if false=true then _ else ws.toArray).size<=_;rw [if_neg (by decide),List.size_toArray,sizeLine_eq];lia))
 rw [hf]
 simp only [bne_self_eq_false,Bool.false_eq_true,if_false]
 refine wpAny_pure ⟨rfl, ?_,pD1.2.1⟩
 have I2:Inv X pins σ (upd H kS (.lst [])) {s with heap:=s.heap.update kS (Obj.mapSeq fun _=>(#[]:Array Value))}:=I1.cB fun p hp=>I1.pin p (List.mem_append_right _ (List.mem_cons_of_mem _ hp))
 have fD:=pD.fp (upd H kS (.lst [])) pD1.2.1
 have I3:Inv X pins σ (upd H kS (.lst [])) {s with heap:=(s.heap.update kS (Obj.mapSeq fun _=>(#[]:Array Value))).update D (Obj.mapSeq fun _=>ws.toArray)}:=
  md (s:={s with heap:=s.heap.update kS (Obj.mapSeq fun _=>(#[]:Array Value))}) (h':=(s.heap.update kS (Obj.mapSeq fun _=>(#[]:Array Value))).update D (Obj.mapSeq fun _=>ws.toArray)) (ch:=[D]) (t':=s.toks) I2 (fun b hb=>by rw [List.mem_singleton.mp hb];exact fD) fun b o hb q=>(Heap.get?_update_other _ _ (fun z=>hb (by simp [z]))).trans q
 have q:=PySem.IsL.update (items:=#[]) gD (fun _=>ws.toArray)
 exact lF I3 pD1.2.1 pD.nw fD.2.1 fD.2.2.2.2.1 fD.2.2.2.2.2 ⟨Nat.le_of_lt (fZ (by lia)),ws,_,hv,q⟩
end
section
variable {X:Cx} {pins:List (Addr×Obj)} {σ:St} {H:Hp} {s:Shared} {D kS:Addr} {e1 m:Nat} {ys kv:List V} {us its:List Value} {keys:List (List Int)} {E:Value->Shared->Prop} {A:Around}
theorem wF (I:Inv X ((D,seqObj "list" #[] e1)::pins) σ H s) (hk:H kS=some (.lst kv)) (pD:Place X pins D) (hi:Vals kv its) (hkeys:Paired (eZ H) kv keys) (hy:Vals ys us) (hl:kv.length=ys.length) (h64:ys.length<64) (hm:0<m) (hkm:∀k∈keys,k.length=m):
  wpAny (model X.prog X.w) A (ksk_end D false us.toArray e1 (.ref kS) its.toArray) (fun fin s'=>fin= .done (.ret .none)/\∃p:List Nat,p.Perm (List.range ys.length)/\lK keys p/\zY X pins σ H kS D (p.map fun i=>ys.getD i .non) s') E s:=by
 have lu:us.length=ys.length:=hy.length.symm
 have li:its.length=us.length:=by rw [←hi.length,hl,lu]
 unfold ksk_end
 try dsimp only
 simp only [Bool.false_eq_true,if_false]
 by_cases h2:us.toArray.size<2
 ·rw [if_pos h2,if_pos h2]
  refine wpAny_bind (wpAny_pure ?_)
  have hout:(arrOf (SortSt.mk' general' (its.toArray.zip us.toArray) #[] 7 none)).map (·.2)=us.toArray:=by
   show (its.toArray.zip us.toArray).map (·.2)=us.toArray
   apply Array.toList_inj.mp
   rw [Array.toList_map,ksk_zip]
   show (its.zip us).map Prod.snd=us
   exact List.map_snd_zip (by lia)
  have T:=lN (E:=E) (A:=A) (st:=SortSt.mk' general' (its.toArray.zip us.toArray) #[] 7 none) I hk pD hy h64 hout rfl
  refine wpAny_bind (wpAny_pure ?_)
  refine wpAny_mono T (fun fin s' ⟨a,b⟩=>⟨a,List.range ys.length, .refl _, ?_,by rw [range_getD];exact b⟩) fun _ _ e=>e
  have hn:ys.length<2:=by
   rw [List.size_toArray] at h2
   lia
  have:ys.length=0∨ys.length=1:=by lia
  rcases this with h|h
  ·rw [h]
   exact List.Pairwise.nil
  ·rw [h]
   exact List.Pairwise.cons (fun _ h=>by cases h) List.Pairwise.nil
 ·rw [if_neg h2,if_neg h2]
  have hn:2<=ys.length:=by
   rw [List.size_toArray] at h2
   lia
  obtain ⟨fs,f1,f2,f3⟩:=pK I hm hi hkeys hkm
  refine wpAny_bind (kat_kind (T:= .type "int") f2 (by lia) (fun v hv=> ?_) (by decide) ?_)
  ·obtain ⟨i,t,rfl⟩:=f3 v hv
   exact PySem.W.Looks.now
  have O:SortT.Ord (fun i j=>HT.lexLt (keys.getD i []) (keys.getD j [])):=⟨fun a b c x y=>pE x y,fun a b x=>lS x⟩
  obtain ⟨o1,o2,o3⟩:=SortT.mH O (n:=us.length) (by lia)
  refine wpAny_bind (wpAny_mono (kat_run (E:=E) (Q:=fun st' s'=>s'=s/\∃p:Array Nat,arrOf st'=p.map (kas_item (its.toArray.zip us.toArray))/\failedOf st'=none/\p=SortT.ai (fun i j=>HT.lexLt (keys.getD i []) (keys.getD j [])) (kas_sort us.length)) (G:=fun p s'=>s'=s/\p=SortT.ai (fun i j=>HT.lexLt (keys.getD i []) (keys.getD j [])) (kas_sort us.length))
   li (by lia) (by lia) (fun p st' s' _ b1 b2 b3=>⟨b3.1,p,b1,b2,b3.2⟩) ?_) ?_ fun _ _ e=>e)
  ·refine SortT.wp_run (n:=us.length) (fun i j C hi' hj' hC=> ?_) o1 ⟨rfl,rfl⟩
   obtain ⟨a,oa,xs,n,ea,ga,da,va,ma⟩:=sW I hi hkeys (i:=i) (by lia)
   obtain ⟨b,ob,xb,nb,eb,gb,db,vb,mb⟩:=sW I hi hkeys (i:=j) (by lia)
   unfold kas_ask
   rw [ea,eb]
   refine kat_lt ga da gb db (ql 0 va vb (by rw [hkm _ ma,hkm _ mb]) ?_ hC)
   have l1:=va.length
   have l2:=vb.length
   rw [List.length_map,hkm _ ma,Array.length_toList] at l1
   rw [List.length_map,hkm _ mb,Array.length_toList] at l2
   exact decide_eq_false (by lia)
  ·rintro ⟨⟨⟩,st'⟩ s' ⟨rfl,p,har,hf,rfl⟩
   try dsimp only
   have hp:∀i∈(SortT.ai (fun i j=>HT.lexLt (keys.getD i []) (keys.getD j [])) (kas_sort us.length)).toList,i<ys.length:=fun i hi=>by
    have:=List.mem_range.mp (o2.mem_iff.mp hi)
    lia
   have T:=lN (E:=E) (A:=A) (st:=st') I hk pD (nu hy hp) (by rw [List.length_map,o2.length_eq,List.length_range];lia) (kat_snds li har) hf
   refine wpAny_mono T (fun fin s' ⟨a,b⟩=>⟨a,_,by rw [←lu];exact o2, ?_,b⟩) fun _ _ e=>e
   refine List.pairwise_iff_getElem.mpr fun i j h1 h2 hij=> ?_
   have sz:(SortT.ai (fun i j=>HT.lexLt (keys.getD i []) (keys.getD j [])) (kas_sort us.length)).toList.length=us.length:=by rw [o2.length_eq,List.length_range]
   have z:=o3 i j (Nat.le_of_lt hij) (by lia)
   have gi:∀k (hk:k<(SortT.ai (fun i j=>HT.lexLt (keys.getD i []) (keys.getD j [])) (kas_sort us.length)).toList.length),SortT.g (SortT.ai (fun i j=>HT.lexLt (keys.getD i []) (keys.getD j [])) (kas_sort us.length)) k=(SortT.ai (fun i j=>HT.lexLt (keys.getD i []) (keys.getD j [])) (kas_sort us.length)).toList[k]:=fun k hk=>by
    rw [SortT.ik,←Array.getElem?_toList,List.getElem?_eq_getElem hk]
    rfl
   rw [gi j h2,gi i h1] at z
   exact z
end
section
variable {X:Cx} {pins:List (Addr×Obj)} {σ:St} {H:Hp} {s:Shared} {k:Nat} {f a:Addr} {fd:FuncData} {ps:List Str} {sp:Sp} {ys:List V} {Q:VK} {E:Value->Shared->Prop}
noncomputable def zF (ys:List V) (Q:VK) (kS:Addr) (kv:List V) (H2:Hp):Prop:=∃keys m,Paired (eZ H2) kv keys/\0<m/\(∀k∈keys,k.length=m)/\
 ∀D p,upd H2 kS (.lst []) D=none->p.Perm (List.range ys.length)->lK keys p->Q (.ref D) (upd (upd H2 kS (.lst [])) D (.lst (p.map fun i=>ys.getD i .non)))
theorem t6 (F:FnOk X.prog X.w X.K X.mg X.base (cJ X.prog X.w) k f fd ps sp) (hr:Room k X.A.in1.in1) (hb:Binds X.K fd ps []) (I:Inv X pins σ H s) (ha:bH X.K H a ys) (h64:ys.length<64)
  (q:∀kS,H kS=none->∃W:SW,oI sp kS W/\W ys [] (upd H kS (.lst []))/\∀kv H2,H2 kS=some (.lst kv)->kv.length=ys.length->W [] kv H2->zF ys Q kS kv H2):
  wpAny (model X.prog X.w) X.A (call (.builtin "sorted") [.ref a] [(Str.ofString "key", .ref f)]) (EP X pins σ Q) E s:=by
 obtain ⟨us,hv,g,hz⟩:=I.list ha
 have lu:us.length=ys.length:=hv.length.symm
 refine call_function_entry_kw kind_sorted plain_sorted entry_sorted (ksk_s1 _ _) ?_
 unfold Builtin.«sorted»
 refine wpAny_bind (m:=checkCount "sorted" 1 1 _) (wpAny_pure ?_)
 refine wpAny_bind (collect_list g.isList ?_ (by rw [sizeLine_eq];lia))
 refine wpAny_bind (wpAny_newList ?_ (by rw [sizeLine_eq];lia))
 have hsz:((s.heap.push (seqObj "list" #[] 0)).update s.heap.objs.size (Obj.mapSeq (· ++us.toArray))).objs.size=s.heap.objs.size+1:=by
  rw [Heap.size_update,size_push']
 have keep:∀b o,s.heap.get? b=some o->(((s.heap.push (seqObj "list" #[] 0)).update s.heap.objs.size (Obj.mapSeq (· ++us.toArray))).push (seqObj "list" us.toArray 0)).get? b=some o:=fun b o q=>by
  have hlt:b<s.heap.objs.size:=Heap.lt_size q
  rw [Heap.get?_push_ne _ _ _ (by rw [hsz];exact Nat.ne_of_lt (Nat.lt_succ_of_lt hlt)),Heap.get?_update_ne _ _ _ _ (Nat.ne_of_lt hlt),Heap.get?_push_ne _ _ _ (Nat.ne_of_lt hlt)]
  exact q
 have hoL:(((s.heap.push (seqObj "list" #[] 0)).update s.heap.objs.size (Obj.mapSeq (· ++us.toArray))).push (seqObj "list" us.toArray 0)).get? (s.heap.objs.size+1)=some (seqObj "list" us.toArray 0):=by
  rw [←hsz]
  exact Heap.get?_push_size _ rfl
 have zA:(((s.heap.push (seqObj "list" #[] 0)).update s.heap.objs.size (Obj.mapSeq (· ++us.toArray))).push (seqObj "list" us.toArray 0)).objs.size=s.heap.objs.size+2:=by rw [size_push',hsz]
 show wpAny _ _ _ _ _ {s with heap:=((s.heap.push (seqObj "list" #[] 0)).update s.heap.objs.size (Obj.mapSeq (· ++us.toArray))).push (seqObj "list" us.toArray 0)}
 rw [hsz]
 generalize ((s.heap.push (seqObj "list" #[] 0)).update s.heap.objs.size (Obj.mapSeq (· ++us.toArray))).push (seqObj "list" us.toArray 0)=hA at keep hoL zA⊢
 generalize hD:s.heap.objs.size+1=D at hoL⊢
 have nD:s.heap.objs.size<=D:=by lia
 refine wpAny_bind (wpAny_holding (wpAny_call_entry_kw slot_list_sort ⟨_,hoL,rfl⟩ entry_list_sort ?body (ksk_l1 _ _)))
 case body=>
  show wpAny (model X.prog X.w) X.A.in1.in1 (Builtin.«list.sort» ⟨[.ref D],[(Str.ofString "key", .ref f)]⟩) _ _ _
  rw [ksk_t1]
  unfold ksk_tree
  refine wpAny_bind (listItems_at hoL rfl ?_)
  refine wpAny_bind (listUpdate_at hoL rfl ?_ (by rw [List.size_toArray,sizeLine_eq];lia) (Nat.zero_le _))
  obtain ⟨e1,ho1⟩:∃e1,(hA.update D (Obj.mapSeq fun _=>(#[]:Array Value))).get? D=some (seqObj "list" #[] e1):=⟨_,get?_update_seq hoL fun _=>#[]⟩
  refine wpAny_bind (seqEpoch_at ho1 rfl ?_)
  refine wpAny_bind (wpAny_newTuple ?_ (by show us.length<=_;rw [sizeLine_eq];lia))
  refine wpAny_bind (wpAny_newList ?_ (Nat.zero_le _))
  refine wpAny_holding ?_
  have zB:((hA.update D (Obj.mapSeq fun _=>(#[]:Array Value))).push (seqObj "tuple" us.toArray 0)).objs.size=s.heap.objs.size+3:=by rw [size_push',Heap.size_update,zA]
  have keepB:∀b o,s.heap.get? b=some o->(((hA.update D (Obj.mapSeq fun _=>(#[]:Array Value))).push (seqObj "tuple" us.toArray 0)).push (seqObj "list" #[] 0)).get? b=some o:=fun b o q=>by
   have hlt:b<s.heap.objs.size:=Heap.lt_size q
   refine Heap.get?_push_of_some _ (Heap.get?_push_of_some _ ?_)
   rw [Heap.get?_update_ne _ _ _ _ (Nat.ne_of_lt (Nat.lt_of_lt_of_le hlt nD))]
   exact keep b o q
  have gD:(((hA.update D (Obj.mapSeq fun _=>(#[]:Array Value))).push (seqObj "tuple" us.toArray 0)).push (seqObj "list" #[] 0)).get? D=some (seqObj "list" #[] e1):=Heap.get?_push_of_some _ (Heap.get?_push_of_some _ ho1)
  have gK:(((hA.update D (Obj.mapSeq fun _=>(#[]:Array Value))).push (seqObj "tuple" us.toArray 0)).push (seqObj "list" #[] 0)).get? (s.heap.objs.size+3)=some (seqObj "list" #[] 0):=by
   rw [←zB]
   exact Heap.get?_push_size _ rfl
  show wpAny _ _ (ksk_rest D (.ref f) false us.toArray e1 (.ref ((hA.update D (Obj.mapSeq fun _=>(#[]:Array Value))).push (seqObj "tuple" us.toArray 0)).objs.size)) _ _ {s with heap:=((hA.update D (Obj.mapSeq fun _=>(#[]:Array Value))).push (seqObj "tuple" us.toArray 0)).push (seqObj "list" #[] 0)}
  rw [zB]
  generalize ((hA.update D (Obj.mapSeq fun _=>(#[]:Array Value))).push (seqObj "tuple" us.toArray 0)).push (seqObj "list" #[] 0)=hB at keepB gD gK⊢
  generalize hKS:s.heap.objs.size+3=kS at gK⊢
  have nK:s.heap.objs.size<=kS:=by lia
  have I1:Inv X pins σ H {s with heap:=hB}:=I.kept (t':=s.toks) keepB
  have frD:=I.ah.fresh nD
  have frK:=I.ah.fresh nK
  have fpD:=I.kj nD frD
  have fpK:=I.kj nK frK
  have pD:Place X pins D:=⟨fun H' hn=>⟨hn,fpD.2⟩,Heap.get?_none_of_le (Nat.le_trans I.sz nD)⟩
  have I2:Inv X ((D,seqObj "list" #[] e1)::pins) σ H {s with heap:=hB}:=I1.cB fun p hp=>by
   rcases List.mem_cons.mp hp with rfl|hp
   ·exact ⟨gD,frD,fpD.2.1,fpD.2.2.1,fun v z=>by cases z⟩
   ·exact I1.pin p (List.mem_append_right _ hp)
  have dk:D≠kS:=by lia
  have I3:Inv X ((D,seqObj "list" #[] e1)::pins) σ (upd H kS (.lst [])) {s with heap:=hB}:=lF I2 frK (Heap.get?_none_of_le (Nat.le_trans I.sz nK)) fpK.2.1 fpK.2.2.2.2.1 (fun p hp=>by
   rcases List.mem_append.mp hp with hp|hp
   ·exact fpK.2.2.2.2.2 p (List.mem_append_left _ hp)
   ·rcases List.mem_cons.mp hp with rfl|hp
    ·exact dk
    ·exact fpK.2.2.2.2.2 p (List.mem_append_right _ hp)) ⟨Nat.zero_le _,[],0, .nil,gK⟩
  obtain ⟨W,hW,w0,wEnd⟩:=q kS frK
  unfold ksk_rest
  refine wpAny_bind (wpAny_rule ?_)
  first
   |rw [List.forIn_toArray]
   |(rw [←Array.forIn_toList];simp only [List.toList_toArray])
  refine wpAny_bind (ay (ll (R:=fun s''=>∃kv' H'',Inv X ((D,seqObj "list" #[] e1)::pins) σ H'' s''/\H'' kS=some (.lst kv')/\W [] kv' H''/\kv'.length=0+ys.length) F hr hb hW (fun x s' C hx=> ?_) hv [] _ _ I3 aj w0 (by rw [List.length_nil];lia) (fun kv' H'' s'' b1 b2 b3 b4=>⟨kv',H'',b1,b2,b3,b4⟩)) fun _ s'' hs=> ?_)
  ·refine wpAny_bind (wpAny_attempt (wpAny_mono hx (fun u s'' hu=> ?_) fun _ _ hF=>hF.elim))
   try dsimp only
   exact wpAny_bind (ay hu fun _ s3 h3=>wpAny_pure ⟨rfl,h3⟩)
  ·obtain ⟨kv,H2,J,hkv,hw,lk⟩:=hs
   rw [Nat.zero_add] at lk
   obtain ⟨keys,m,hks,hm,hkm,q⟩:=wEnd kv H2 hkv lk hw
   obtain ⟨_,its,n,rt,hlen,e⟩:=J.kC hkv
   refine wpAny_bind (listItems_at e rfl ?_)
   refine wpAny_mono (wF J hkv pD rt hks hv lk h64 hm hkm) (fun fin s3 h3=> ?_) fun _ _ e=>e
   obtain ⟨rfl,p,p1,p2,J3,d3⟩:=h3
   exact ⟨_,rfl,wpAny_pure ⟨_,rfl, .ref D,_,J3,rfl,q D p d3 p1 p2⟩⟩
end
noncomputable def CP (K:PySem.W.Frag) (sp:Sp) (t:TA):TE:=fun σ H Q=>t σ H fun vs H1=>∃a ys,vs=[.ref a]/\bH K H1 a ys/\ys.length<64/\
 ∀kS,H1 kS=none->∃W:SW,oI sp kS W/\W ys [] (upd H1 kS (.lst []))/\∀kv H2,H2 kS=some (.lst kv)->kv.length=ys.length->W [] kv H2->zF ys Q kS kv H2
theorem xx {X:Cx} {k:Nat} {f:Addr} {ps:List Str} {sp:Sp} {fn:Str} {e:Expr} {t:TA} {p:Pos} (F:FnOk X.prog X.w X.K X.mg X.base (cJ X.prog X.w) k f fd ps sp) (hr:Room (k+2) X.A) (hb:Binds X.K fd ps []) (hg:Gl X "sorted") (hm:X.mg "sorted"=none)
  (hgf:Gl X fn) (hmf:X.mg fn=some (.ref f)) (ha:PA X [e] t) (hdf:(fn==("__debug__":Str))=false)
  (he:backTo pos (starEach [e] X.env)=(false,eval e X.env)::backTo pos (starEach [] X.env)) (hpl:(backTo pos (starEach [e] X.env)).any (·.1)=false):
  PE X (.Call (.Name "sorted" p) [e] [⟨some (Str.ofString "key"), .Name fn p2,kpos⟩] pos) (CP X.K sp t):=by
 intro pins s σ H Q I h
 refine wpAny_Call_Name_kw (gE I hg hm boot_sorted ?_)
 refine callWith_kw (ay (ha pos pins s σ H _ I h) fun us s1 z902=> ?_) he hpl;obtain ⟨vs,H1,I1,r1,q1⟩:=z902
 have hk:PK X [⟨some (Str.ofString "key"), .Name fn p2,kpos⟩] (ub (tC (.ref f)) xp):=Au (rY (v:= .ref f) hgf hmf rfl hdf) CU
 refine ay (hk pos pins s1 σ H1 (fun zs H2=>zs=[.ref f]/\H2=H1) I1 ⟨rfl,rfl⟩) fun ws s2 z902=> ?_;obtain ⟨zs,H2,I2,rz,e1,e2⟩:=z902
 subst e1 e2
 obtain ⟨w',rfl,rw'⟩:=Vals.one rz
 cases rw'
 obtain ⟨a,ys,rfl,ha',h64,q⟩:=q1
 obtain ⟨u,rfl,ru⟩:=Vals.one r1
 cases ru
 exact t6 F hr.in1.in1 hb I2 ha' h64 q
end L2.L3
namespace L2.L3
open PySem PySem.Spec PyProof.Rows PySem.W
theorem CO {k:Key} {v:Value} (h:gc k v=true):RelV (kV k) v:=by
 cases k with
 |inl i=>
  cases v<;>simp [gc,Value.isInt] at h
  subst h
  exact ⟨_,rfl⟩
 |inr x=>
  obtain ⟨t,e⟩:=Value.isStrOf_shape (x:=x) (v:=v) h
  exact ⟨t,e⟩
noncomputable def xG (d:Addr) (o:Obj) (kvs:List (Key×V)):It:=
 ⟨fun i H=>H d=some (.aC o (.dK kvs))/\i<kvs.length,fun i H x H'=>H'=H/\∃k v,x=kV k/\kvs[i]?=some (k,v),fun i H=>H d=some (.aC o (.dK kvs))/\kvs.length<=i⟩
theorem nV {prog:Program} {w:World} {K:Type} [DecidableEq K] {knd:KeyKind prog w K}:∀{es:List DictEntry} {kvs:List (K×Value)} {i:Nat} {e:DictEntry},Pairs knd es kvs->es[i]?=some e->∃kv,kvs[i]?=some kv/\knd.is kv.1 e.key=true
 |_,_,_,_, .nil,h=>by simp at h
 |_,_,0,_, .cons a b r,h=>by
  simp at h
  subst h
  exact ⟨_,rfl,a⟩
 |_,_,i+1,_, .cons a b r,h=>by
  obtain ⟨kv,h1,h2⟩:=nV r (i:=i) (by simpa using h)
  exact ⟨kv,by simpa using h1,h2⟩
theorem l9 {P:Program} {w:World} {H:Hp} {d:Addr} {o:Obj} {kvs:List (Key×V)} (ok:bq P w H h) (e:H d=some (.aC o (.dK kvs))):
  ∃es ep vs,o.data= .dict es ep/\iT h d es ep/\Pairs (aG P w) es.toList vs/\KV kvs vs/\es.size=kvs.length/\(d==sysModules)=false:=by
 obtain ⟨h0,z,y,vs,r,o',es,ep,h1,h2,h3,h4,h5,h6⟩:=(show aN P w H h d (.aC o (.dK kvs)) from ok d _ e)
 rw [h0] at h1
 cases h1
 exact ⟨es,ep,vs,h3,⟨o,h0,h2,h3⟩,h5,r,by rw [r.length,←Array.length_toList,h5.length],y⟩
theorem tN {P:Program} {w:World} {K:PySem.W.Frag} (d it:Addr) (o:Obj) (kvs:List (Key×V)):Turn P w K tg (xG d o kvs) [it] it (fun i h=>zL o h it d i) where
 mem:=by simp
 obj:=fun i h st b hb=>by
  obtain ⟨es,ep,_,u,h1,h2,h3⟩:=st
  rw [List.mem_singleton.mp hb]
  exact ⟨u,h1,fun v z=>by rw [h3] at z;cases z⟩
 keep:=fun i h h' st k=>by
  obtain ⟨es,ep,hd,x⟩:=st
  exact ⟨es,ep,hd,x.at fun o e=>k it (by simp) o e⟩
 item:=by
  intro X hP hw hK hc i pins s σ H E I hf st hg
  subst hP hw hK
  obtain ⟨es,ep,hdat,hit⟩:=st
  obtain ⟨e,lt⟩:=hg
  obtain ⟨es',ep',vs,hdat',raw,hes,rel,hsz,_⟩:=l9 I.ah e
  rw [hdat] at hdat'
  cases hdat'
  have lt':i<es.size:=by lia
  obtain ⟨f0,f1,f2,f3,f4,f5⟩:=hf it (by simp)
  refine oY hit raw lt' fun h' st' sb=> ?_
  have I1:Inv X pins σ H {s with heap:=h'}:=I.turned (t':=s.toks) (fun b o hb e=>(sb.2 b hb).trans e) f0 f1 f3 f4 f5
  have q:es.toList[i]?=some es[i]:=by simp [lt']
  obtain ⟨kv,e1,e2⟩:=nV hes q
  obtain ⟨kv',x,e3,e4,h1,h2⟩:=iP rel i lt
  rw [e1] at e4
  cases e4
  obtain ⟨u,v1,v2,v3⟩:=id st'
  refine ⟨es[i].key,rfl,lh (s:={s with heap:=h'}) v1 v2 v3 (by decide) ⟨kV kv'.1,H,I1, ?_,⟨rfl,kv'.1,kv'.2,rfl,e3⟩,⟨es,ep,hdat,st'⟩,fun b hb=>(hf b hb).1⟩⟩
  rw [h1]
  exact CO e2
 done:=by
  intro X hP hw hK hc i pins s σ H E I hf st hg
  subst hP hw hK
  obtain ⟨es,ep,hdat,hit⟩:=st
  obtain ⟨e,ge⟩:=hg
  obtain ⟨es',ep',vs,hdat',raw,hes,rel,hsz,_⟩:=l9 I.ah e
  rw [hdat] at hdat'
  cases hdat'
  obtain ⟨f0,f1,f2,f3,f4,f5⟩:=hf it (by simp)
  exact rF (I.ok.hd hc) hit raw (by lia) fun h' eb=>⟨rfl,I.turned (t':=s.toks) (fun b o hb e=>eb b o hb e) f0 f1 f3 f4 f5⟩
 self:=fun _ _ _ _ _ st h=>by
  obtain ⟨es,ep,_,hit⟩:=st
  exact wpAny_pyIter_keyiter hit h
noncomputable def JQ (K:PySem.W.Frag) (tl:TE):TI:=fun σ H R=>tl σ H fun x H1=>∃a,x= .ref a/\(((∃xs,bH K H1 a xs)/\R (El K a) H1)∨((∃xs,cH K H1 a xs)/\R (DU K a) H1)∨
 (∃kvs,Rd H1 a (.dT kvs)/\∀o,(H1 a=some (.dT kvs)∨H1 a=some (.aC o (.dT kvs)))->R (EE a o kvs) (upd H1 a (.aC o (.dT kvs))))∨
 (∃kvs,Rd H1 a (.dK kvs)/\∀o,(H1 a=some (.dK kvs)∨H1 a=some (.aC o (.dK kvs)))->R (xG a o kvs) (upd H1 a (.aC o (.dK kvs)))))
theorem vH {H:Hp} {a:Addr} {o:HO} (e:H a=some o):upd H a o=H:=by
 funext b
 unfold upd
 split
 ·rename_i z
  rw [z,e]
 ·rfl
theorem Ce {X:Cx} {l:Expr} {tl:TE} (hl:PE X l tl):PI X tg l (JQ X.K tl):=by
 intro pins s σ H R I h
 refine ay (hl pins s σ H _ I h) fun v s1 z902=> ?_;obtain ⟨x,H1,I1,r1,q1⟩:=z902
 obtain ⟨a,e,q⟩:=q1
 subst e
 cases r1
 have fp:∀{H1:Hp},Inv X pins σ H1 s1->∀b∈[s1.heap.objs.size],ck X pins H1 b:=fun {H1} I1 b hb=>by
  have e:b=s1.heap.objs.size:=by simpa using hb
  subst e
  exact I1.kj (Nat.le_refl _) (I1.ah.fresh (Nat.le_refl _))
 rcases q with ⟨⟨xs,hq⟩,q⟩|⟨⟨xs,hq⟩,q⟩|⟨kvs,hq,q⟩|⟨kvs,hq,q⟩
 ·obtain ⟨its,rv,p,hz⟩:=I1.list hq
  refine wpAny_pyIter_list p.isList ?_
  exact ⟨s1.heap.objs.size,[s1.heap.objs.size],_,_,H1,rfl,I1.kept (t':=s1.toks) fun b o e=>Heap.get?_push_of_some _ e,wz a _,⟨_,Heap.get?_push_size _ rfl,rfl,rfl⟩,fp I1,q⟩
 ·obtain ⟨its,rv,p,hz⟩:=I1.tuple hq
  refine wpAny_pyIter_tuple (show s1.heap.IsTuple a its.toArray from p) ?_
  exact ⟨s1.heap.objs.size,[s1.heap.objs.size],_,_,H1,rfl,I1.kept (t':=s1.toks) fun b o e=>Heap.get?_push_of_some _ e,ui a _,⟨_,Heap.get?_push_size _ rfl,rfl,rfl⟩,fp I1,q⟩
 ·obtain ⟨o,I2,qo⟩:∃o,Inv X pins σ (upd H1 a (.aC o (.dT kvs))) s1/\(H1 a=some (.dT kvs)∨H1 a=some (.aC o (.dT kvs))):=by
   rcases hq with e|⟨o,e⟩
   ·obtain ⟨o,I2⟩:=Inv.A2 I1 e
    exact ⟨o,I2, .inl e⟩
   ·exact ⟨o,by rw [vH e];exact I1, .inr e⟩
  obtain ⟨es,ep,xs,hdat,raw,_,_,_,hd⟩:=oS I2.ah aj
  refine oW hd raw fun h1 st kp=> ?_
  exact ⟨s1.heap.objs.size,[s1.heap.objs.size],_,_,_,rfl,I2.kept (t':=s1.toks) kp,uT a _ o kvs,⟨es,ep,hdat,st⟩,fp I2,q o qo⟩
 ·obtain ⟨o,I2,qo⟩:∃o,Inv X pins σ (upd H1 a (.aC o (.dK kvs))) s1/\(H1 a=some (.dK kvs)∨H1 a=some (.aC o (.dK kvs))):=by
   rcases hq with e|⟨o,e⟩
   ·obtain ⟨o,I2⟩:=Inv.Bb I1 e
    exact ⟨o,I2, .inl e⟩
   ·exact ⟨o,by rw [vH e];exact I1, .inr e⟩
  obtain ⟨es,ep,xs,hdat,raw,_,_,_,hd⟩:=l9 I2.ah aj
  refine oW hd raw fun h1 st kp=> ?_
  exact ⟨s1.heap.objs.size,[s1.heap.objs.size],_,_,_,rfl,I2.kept (t':=s1.toks) kp,tN a _ o kvs,⟨es,ep,hdat,st⟩,fp I2,q o qo⟩
end L2.L3
namespace PI
open PySem
noncomputable section
inductive Val where
 |non|bl (b:Bool)|int (i:Int)|str (x:Str)|tup (f:Bool) (xs:List Val)|lst (xs:List Val)|dct (ks vs:List Val)|obj (c:Nat) (ns:List Str) (vs:List Val)|ref (n:Nat)
deriving Inhabited
inductive Ob where
 |lst (xs:List Val)|dct (ks vs:List Val)|ins (c:Nat) (ns:List Str) (vs:List Val)
noncomputable abbrev aa:=List Ob
noncomputable abbrev Env:=List (Option Val)
structure Exn where
 c:Nat
 ns:List Str
 vs:List Val
inductive R (α:Type) where
 |ok (a:α) (st:aa)|exc (x:Exn) (st:aa)|stuck
namespace R
noncomputable def bind {α β:Type} (r:R α) (f:α->aa->R β):R β:=match r with
 | .ok a st=>f a st
 | .exc x st=> .exc x st
 | .stuck=> .stuck
@[simp] theorem mG {α β:Type} (a:α) (st:aa) (f:α->aa->R β):(R.ok a st).bind f=f a st:=rfl
@[simp] theorem IY {α β:Type} (x:Exn) (st:aa) (f:α->aa->R β):(R.exc x st:R α).bind f= .exc x st:=rfl
@[simp] theorem FI {α β:Type} (f:α->aa->R β):(R.stuck:R α).bind f= .stuck:=rfl
noncomputable def ak {α:Type} (o:Option α) (st:aa):R α:=match o with
 |some a=> .ok a st
 |none=> .stuck
@[simp] theorem J2 {α:Type} (a:α) (st:aa):ak (some a) st= .ok a st:=rfl
@[simp] theorem Ka {α:Type} (st:aa):(ak none st:R α)= .stuck:=rfl
end R
mutual
noncomputable def Val.bd (n:Nat):Val->Bool
 | .tup _ xs=>cK n xs
 | .lst xs=>cK n xs
 | .dct ks vs=>cK n ks&&cK n vs
 | .obj _ _ vs=>cK n vs
 | .ref k=>decide (k<n)
 |_=>true
noncomputable def cK (n:Nat):List Val->Bool
 |[]=>true
 |v::r=>v.bd n&&cK n r
end
noncomputable def Ob.bd (n:Nat):Ob->Bool
 | .lst xs=>cK n xs
 | .dct ks vs=>cK n ks&&cK n vs
 | .ins _ _ vs=>cK n vs
mutual
noncomputable def Val.sub (f:Nat->Option Val):Val->Option Val
 | .tup g xs=>(subs f xs).map fun xs=> .tup g xs
 | .lst xs=>(subs f xs).map .lst
 | .dct ks vs=>(subs f vs).map fun vs=> .dct ks vs
 | .obj c ns vs=>(subs f vs).map fun vs=> .obj c ns vs
 | .ref k=>f k
 |v=>some v
noncomputable def subs (f:Nat->Option Val):List Val->Option (List Val)
 |[]=>some []
 |v::r=>(v.sub f).bind fun v=>(subs f r).map fun r=>v::r
end
noncomputable def ja (st:aa) (n x:Nat):Nat->Nat->Option Val
 |0,k=>if k<n then some (.ref k) else none
 |d+1,k=>if k<n then some (.ref k) else if k=x then none else match st[k]? with
  |some (.lst xs)=>(subs (ja st n x d) xs).map .lst
  |some (.dct ks vs)=>(subs (ja st n x d) vs).map fun vs=> .dct ks vs
  |some (.ins c ns vs)=>(subs (ja st n x d) vs).map fun vs=> .obj c ns vs
  |none=>none
noncomputable def Val.aC (st:aa) (n x:Nat) (v:Val):Option Val:=v.sub (ja st n x 6)
noncomputable def aV (st:aa) (n x:Nat) (vs:List Val):Option (List Val):=subs (ja st n x 6) vs
noncomputable def Old (st st':aa):Prop:=st.length<=st'.length/\∀(i:Nat) o,i<st.length->st'[i]?=some o->st[i]?=some o∨o.bd st.length=true
inductive Bi where
 |len|tuple|list|dict|abs|sum|all|any|min|max|int|str|bool|sorted|yO (n:String)
inductive Bm where
 |append|extend|insert|pop|clear|reverse|remove|get|join|split|isdigit|count|index|keys|values
inductive T where
 |var (i:Nat)|tup (ts:List T)
mutual
inductive E where
 |const (v:Val)|var (i:Nat)
 |bin (op:Operator) (a b:E)|neg (a:E)|cmp (op:CmpOp) (a b:E)|cmp2 (op op':CmpOp) (a b c:E)
 |and (a b:E)|or (a b:E)|not (a:E)|ite (c a b:E)
 |tup (es:List E)|lst (es:List E)|dct (ks vs:List E)
 |fld (o:E) (f:Str)|idx (o i:E)|slc (o:E) (lo hi:Option E)
 |call (f:Nat) (es:List E)|make (c:Nat) (es:List E)|meth (o:E) (m:Str) (es:List E)
 |bi (b:Bi) (es:List E)|bm (m:Bm) (o:E) (es:List E)|isI (e:E) (c:Nat)
 |comp (nw:Nat) (caps:List Nat) (t:T) (q:Q) (c:Option E) (e:E)
 |sortK (q:E) (f:Nat)|fz (e:E)|dOf (e:E)
inductive Q where
 |val (e:E)|rng1 (a:E)|rng2 (a b:E)|zip (a b:E)|enm (a:E)|items (a:E)|rev (a:E)
end
inductive S where
 |set (t:T) (e:E)|eT (o i e:E)|cN (o:E) (f:Str) (e:E)
 |aug (i:Nat) (op:Operator) (e:E)|augI (o i:E) (op:Operator) (e:E)|augF (o:E) (f:Str) (op:Operator) (e:E)
 |expr (e:E)|ret (e:E)|retN|pass|brk|cont
 |ife (c:E) (a b:List S)|whl (c:E) (b:List S)|for (t:T) (q:Q) (b:List S)
 |raise (c:Nat) (es:List E)|try_ (b:List S) (c:Nat) (x:Option Nat) (h:List S)
structure Fn where
 np:Nat
 ns:Nat
 body:List S
structure Cl where
 flds:List Str
 init:Option Nat
 meths:List (Str×Nat)
 sup:List Nat
 exc:Bool
 chg:Bool
structure Pg where
 fns:List (Nat×Fn)
 cls:List (Nat×Cl)
 w:Nat
noncomputable def Pg.fn (P:Pg) (i:Nat):Option Fn:=P.fns.lookup i
noncomputable def Pg.cl (P:Pg) (i:Nat):Option Cl:=P.cls.lookup i
noncomputable def dq (ns:List Str) (vs:List Val) (f:Str):Option Val:=match ns,vs with
 |n::ns,v::vs=>if n=f then some v else dq ns vs f
 |_,_=>none
noncomputable def aQ (ns:List Str) (vs:List Val) (f:Str) (x:Val):List Str×List Val:=match ns,vs with
 |n::ns,v::vs=>if n=f then (n::ns,x::vs) else let r:=aQ ns vs f x;(n::r.1,v::r.2)
 |_,_=>([f],[x])
noncomputable def ku (k:Nat):Option Ob->Val
 |some (.lst xs)=> .lst xs
 |some (.dct ks vs)=> .dct ks vs
 |some (.ins c ns vs)=> .obj c ns vs
 |none=> .ref k
noncomputable def res (st:aa):Val->Val
 | .ref k=>ku k st[k]?
 | .non=> .non
 | .bl b=> .bl b
 | .int i=> .int i
 | .str x=> .str x
 | .tup f xs=> .tup f xs
 | .lst xs=> .lst xs
 | .dct ks vs=> .dct ks vs
 | .obj c ns vs=> .obj c ns vs
noncomputable def new (o:Ob) (st:aa):R Val:= .ok (.ref st.length) (st++[o])
noncomputable def cv (f:Val->Val->Option Bool):List Val->List Val->Option Bool
 |[],[]=>some true
 |[],_::_=>some false
 |_::_,[]=>some false
 |x::xs,y::ys=>(f x y).bind fun a=>(cv f xs ys).map fun b=>a&&b
noncomputable def eqN:Val->Option Bool
 | .non=>some true
 |_=>none
noncomputable def eqB (a:Bool):Val->Option Bool
 | .bl b=>some (a==b)
 |_=>none
noncomputable def eqI (a:Int):Val->Option Bool
 | .int b=>some (a==b)
 | .str _=>some false
 |_=>none
noncomputable def eqS (a:Str):Val->Option Bool
 | .str b=>some (decide (a=b))
 | .int _=>some false
 |_=>none
noncomputable def eqT (f:List Val->Option Bool):Val->Option Bool
 | .tup _ ys=>f ys
 |_=>none
noncomputable def eqL (f:List Val->Option Bool):Val->Option Bool
 | .lst ys=>f ys
 |_=>none
noncomputable def CD (f:List Val->List Val->Option Bool) (v w:Val):Option Bool:=match v with
 | .non=>eqN w
 | .bl a=>eqB a w
 | .int a=>eqI a w
 | .str a=>eqS a w
 | .tup _ xs=>eqT (f xs) w
 | .lst xs=>eqL (f xs) w
 |_=>none
noncomputable def eqv:Nat->Val->Val->Option Bool
 |0=>CD fun _ _=>none
 |d+1=>CD (cv (eqv d))
noncomputable def cg (x:Val):List Val->Option Bool
 |[]=>some false
 |y::ys=>(eqv 8 y x).bind fun a=>(cg x ys).map fun b=>a||b
noncomputable def uu:Val->Bool
 | .int _=>true
 | .str _=>true
 |_=>false
noncomputable def bO:Val->Bool
 | .int _=>true
 | .str _=>true
 | .tup f xs=> !f&&xs.all uu
 |_=>false
noncomputable def gP:Val->Val
 | .tup _ xs=> .tup false xs
 | .non=> .non
 | .bl b=> .bl b
 | .int i=> .int i
 | .str x=> .str x
 | .lst xs=> .lst xs
 | .dct ks vs=> .dct ks vs
 | .obj c ns vs=> .obj c ns vs
 | .ref k=> .ref k
noncomputable def kT:Val->Bool
 | .tup _ _=>true
 |_=>false
noncomputable def getD (k:Val):List Val->List Val->Option (Option Val)
 |a::ks,v::vs=>if kT a=kT k then (eqv 8 a k).bind fun b=>if b=true then some (some v) else getD k ks vs else none
 |_,_=>some none
noncomputable def memD (k:Val):List Val->Option Bool
 |[]=>some false
 |a::ks=>if kT a=kT k then (eqv 8 a k).bind fun b=>(memD k ks).map fun c=>b||c else none
noncomputable def kF (k x:Val):List Val->List Val->List Val
 |a::ks,v::vs=>(if eqv 8 a k=some true then x else v)::kF k x ks vs
 |_,_=>[]
noncomputable def putD (k x:Val) (ks vs:List Val):Option (List Val×List Val):=(memD k ks).map fun b=>if b=true then (ks,kF k x ks vs) else (ks++[k],vs++[x])
noncomputable def pairD:List Val->List Val->List Val->Option (List Val×List Val)
 |[],ks,vs=>some (ks,vs)
 | .tup false [k,v]::r,ks,vs=>if bO k=true then (putD k v ks vs).bind fun p=>pairD r p.1 p.2 else none
 |_,_,_=>none
noncomputable def truth:Val->Option Bool
 | .non=>some false
 | .bl b=>some b
 | .int i=>some (i !=0)
 | .str x=>if x.length<=1000 then some ((x.length:Int) !=0) else none
 | .tup _ xs=>some !xs.isEmpty
 | .lst xs=>some !xs.isEmpty
 |_=>none
noncomputable def gq:Val->Option Int
 | .tup _ xs=>some xs.length
 | .lst xs=>some xs.length
 | .dct ks _=>some ks.length
 | .str x=>if x.length<=1000 then some (x.length:Int) else none
 |_=>none
noncomputable def hR (n:Nat) (i:Int):Option Nat:=if 0<=i then (if i<n then some i.toNat else none) else if-(n:Int)<=i then some (i+n).toNat else none
noncomputable def j0 (xs:List Val) (i:Int):Option Val:=(hR xs.length i).bind fun j=>xs[j]?
noncomputable def bA (n d:Nat):Option Int->Nat
 |none=>d
 |some v=>if v<0 then (v+(n:Int)).toNat else min v.toNat n
noncomputable def cut {α:Type} (xs:List α) (lo hi:Option Int):List α:=(xs.drop (bA xs.length 0 lo)).take (bA xs.length xs.length hi-bA xs.length 0 lo)
noncomputable def big (i:Int):Prop:=i.natAbs<2^1000
noncomputable def zV (i j:Int):Prop:=i.natAbs<2^64∨j.natAbs<2^64∨(big i/\big j)
noncomputable def iff {α:Type} (c:Prop) (r:R α):R α:= @ite _ c (Classical.propDecidable c) r .stuck
theorem bt {α:Type} {c:Prop} {r:R α} (h:c):iff c r=r:=if_pos h
noncomputable def kD {α:Type} (f:Int->Int->aa->R α) (i:Int):Val->aa->R α
 | .int j,st=>f i j st
 |_,_=> .stuck
noncomputable def bL {α:Type} (f:Int->Int->aa->R α):Val->Val->aa->R α
 | .int i,y,st=>kD f i y st
 |_,_,_=> .stuck
noncomputable def yg (i:Str):Val->aa->R Val
 | .str j,st=>iff (i.length+j.length<=100000) (.ok (.str (i++j)) st)
 |_,_=> .stuck
noncomputable def xa (xs:List Val):Val->aa->R Val
 | .tup _ ys,st=>iff (xs≠[]/\ys≠[]/\xs.length+ys.length<=10000) (.ok (.tup false (xs++ys)) st)
 |_,_=> .stuck
noncomputable def Im (xs:List Val):Val->aa->R Val
 | .lst ys,st=>iff (xs.length+ys.length<=10000) (new (.lst (xs++ys)) st)
 |_,_=> .stuck
noncomputable def ko:Val->Val->aa->R Val
 | .int i,y,st=>kD (fun i j st=> .ok (.int (i+j)) st) i y st
 | .str i,y,st=>yg i y st
 | .tup _ xs,y,st=>xa xs y st
 | .lst xs,y,st=>Im xs y st
 |_,_,_=> .stuck
noncomputable def pB (i j:Int) (st:aa):R Val:=iff (zV i j) (.ok (.int (i*j)) st)
noncomputable def qh (i j:Int) (st:aa):R Val:=iff (j≠0/\big j) (.ok (.int (i.fdiv j)) st)
noncomputable def pS (i j:Int) (st:aa):R Val:=iff (j≠0) (.ok (.int (i.fmod j)) st)
noncomputable def xM (i j:Int) (st:aa):R Val:=iff (0<=j/\j<=1000/\i.natAbs<2^64) (.ok (.int (i^j.toNat)) st)
noncomputable def iU (z:Str) (n:Nat):Str:=⟨(List.replicate n z.cps.toList).flatten.toArray⟩
noncomputable def tZ:Val->Val->aa->R Val
 | .str z, .int k,st=>iff (0<=k/\k<=1000/\z.length<=1000) (.ok (.str (iU z k.toNat)) st)
 | .int i,y,st=>kD pB i y st
 |_,_,_=> .stuck
noncomputable def eh:Operator->Val->Val->aa->R Val
 | .Add,x,y,st=>ko x y st
 | .Sub,x,y,st=>bL (fun i j st=> .ok (.int (i-j)) st) x y st
 | .Mult,x,y,st=>tZ x y st
 | .FloorDiv,x,y,st=>bL qh x y st
 | .Mod,x,y,st=>bL pS x y st
 | .Pow,x,y,st=>bL xM x y st
 |_,_,_,_=> .stuck
noncomputable def g9:Val->Bool
 | .non=>true
 | .bl _=>false
 | .int _=>false
 | .str _=>false
 | .tup _ _=>false
 | .lst _=>false
 | .dct _ _=>false
 | .obj _ _ _=>false
 | .ref _=>false
noncomputable def zU (neg:Bool) (x:Val):Val->aa->R Bool
 | .non,st=> .ok (if neg=true then !g9 x else g9 x) st
 |_,_=> .stuck
noncomputable def qj (neg:Bool) (x:Val):Val->aa->R Bool
 | .tup _ ys,st=>R.ak ((cg x ys).map fun b=>if neg=true then !b else b) st
 | .lst ys,st=>R.ak ((cg x ys).map fun b=>if neg=true then !b else b) st
 | .dct ks vs,st=>iff (bO x=true) (R.ak ((getD x ks vs).map fun o=>if neg=true then o.isNone else o.isSome) st)
 |_,_=> .stuck
noncomputable def bw:CmpOp->Val->Val->aa->R Bool
 | .Eq,x,y,st=>R.ak (eqv 8 x y) st
 | .NotEq,x,y,st=>R.ak ((eqv 8 x y).map fun b=> !b) st
 | .Lt,x,y,st=>bL (fun i j st=> .ok (decide (i<j)) st) x y st
 | .LtE,x,y,st=>bL (fun i j st=> .ok (decide (i<=j)) st) x y st
 | .Gt,x,y,st=>bL (fun i j st=> .ok (decide (j<i)) st) x y st
 | .GtE,x,y,st=>bL (fun i j st=> .ok (decide (j<=i)) st) x y st
 | .Is,x,y,st=>zU false x y st
 | .IsNot,x,y,st=>zU true x y st
 | .In,x,y,st=>qj false x y st
 | .NotIn,x,y,st=>qj true x y st
noncomputable def cI (r:R Bool):R Val:=r.bind fun b st=> .ok (.bl b) st
noncomputable def eC:Val->Val->aa->R Val
 | .tup _ xs, .int k,st=>R.ak (j0 xs k) st
 | .lst xs, .int k,st=>R.ak (j0 xs k) st
 | .str x, .int k,st=>iff (x.length<=1000) (R.ak (((hR x.length k).bind fun j=>x.cps.toList[j]?).map fun c=> .str ⟨#[c]⟩) st)
 | .dct ks vs,k,st=>iff (bO k=true) (R.ak ((getD k ks vs).bind id) st)
 |_,_,_=> .stuck
noncomputable def pG:Val->Option Int->Option Int->aa->R Val
 | .tup _ xs,lo,hi,st=>iff (¬(bA xs.length 0 lo=0/\bA xs.length xs.length hi=xs.length)) (.ok (.tup false (cut xs lo hi)) st)
 | .lst xs,lo,hi,st=>new (.lst (cut xs lo hi)) st
 | .str x,lo,hi,st=>iff (x.length<=1000) (.ok (.str ⟨(cut x.cps.toList lo hi).toArray⟩) st)
 |_,_,_,_=> .stuck
noncomputable def allB:List Val->Option Bool
 |[]=>some true
 | .bl b::r=>(allB r).map fun c=>b&&c
 |_=>none
noncomputable def anyB:List Val->Option Bool
 |[]=>some false
 | .bl b::r=>(anyB r).map fun c=>b||c
 |_=>none
noncomputable def gr:Int->List Val->Option Int
 |a,[]=>some a
 |a, .int i::r=>gr (a+i) r
 |_,_=>none
noncomputable def yO (n:String):Val->Option Bool
 | .non=>some false
 | .bl _=>some (n=="bool"||n=="int")
 | .int _=>some (n=="int")
 | .str _=>some (n=="str")
 | .tup _ _=>some (n=="tuple")
 | .lst _=>some (n=="list")
 | .dct _ _=>some (n=="dict")
 | .obj _ _ _=>none
 | .ref _=>none
noncomputable def j3:Bi->Val->aa->R Val
 | .len,x,st=>R.ak ((gq x).map .int) st
 | .tuple, .tup f xs,st=> .ok (.tup f xs) st
 | .tuple, .lst xs,st=> .ok (.tup true xs) st
 | .list, .tup _ xs,st=>new (.lst xs) st
 | .list, .lst xs,st=>new (.lst xs) st
 | .abs, .int i,st=> .ok (.int i.natAbs) st
 | .all, .lst xs,st=>R.ak ((allB xs).map .bl) st
 | .any, .lst xs,st=>R.ak ((anyB xs).map .bl) st
 | .sum, .lst xs,st=>R.ak ((gr 0 xs).map .int) st
 | .int, .bl b,st=> .ok (.int (if b=true then 1 else 0)) st
 | .int, .int i,st=> .ok (.int i) st
 | .yO n,x,st=>R.ak ((yO n x).map .bl) st
 |_,_,_=> .stuck
noncomputable def Ex:Bi->Val->Val->aa->R Val
 | .max, .int i, .int j,st=> .ok (.int (if j>i then j else i)) st
 | .min, .int i, .int j,st=> .ok (.int (if j<i then j else i)) st
 |_,_,_,_=> .stuck
noncomputable def vA (b:Bi):List Val->aa->R Val
 |[x],st=>j3 b x st
 |[x,y],st=>Ex b x y st
 |_,_=> .stuck
noncomputable def lmV:Bm->Nat->List Val->List Val->aa->R Val
 | .append,k,ys,[x],st=>iff (ys.length<10000) (.ok .non (st.set k (.lst (ys++[x]))))
 | .insert,k,ys,[.int i,x],st=>iff (0<=i/\i<=ys.length/\ys.length<=1000) (.ok .non (st.set k (.lst (ys.take i.toNat++[x]++ys.drop i.toNat))))
 | .clear,k,_,[],st=> .ok .non (st.set k (.lst []))
 | .reverse,k,ys,[],st=> .ok .non (st.set k (.lst ys.reverse))
 | .pop,k,ys,[],st=>(R.ak ys.getLast? st).bind fun y st=> .ok y (st.set k (.lst ys.dropLast))
 |_,_,_,_,_=> .stuck
noncomputable def z5 (k:Nat) (ys:List Val) (st:aa):Option Ob->R Val
 |some (.lst zs)=>iff (ys.length+zs.length<=10000) (.ok .non (st.set k (.lst (ys++zs))))
 |_=> .stuck
noncomputable def nA (m:Bm) (k:Nat) (xs:List Val) (st:aa):Option Ob->R Val
 |some (.lst ys)=>match m,xs with
  | .extend,[.ref j]=>z5 k ys st st[j]?
  |m,xs=>lmV m k ys xs st
 |_=> .stuck
noncomputable def qw:Val->List Val->aa->R Val
 | .dct ks vs,[k],st=>iff (bO k=true) (R.ak ((getD k ks vs).map fun o=>o.getD .non) st)
 | .dct ks vs,[k,d],st=>iff (bO k=true) (R.ak ((getD k ks vs).map fun o=>o.getD d) st)
 |_,_,_=> .stuck
noncomputable def jU:Bm->Val->List Val->aa->R Val
 | .get,o,xs,st=>qw (res st o) xs st
 |m, .ref k,xs,st=>nA m k xs st st[k]?
 |_,_,_,_=> .stuck
mutual
noncomputable def T.put (v:Val) (env:Env):T->Option Env
 | .var i=>if i<env.length then some (env.set i (some v)) else none
 | .tup ts=>match v with
  | .tup _ xs=>bF xs env ts
  |_=>none
noncomputable def bF (vs:List Val) (env:Env):List T->Option Env
 |[]=>match vs with
  |[]=>some env
  |_=>none
 |t::ts=>match vs with
  |v::vs=>(t.put v env).bind fun env=>bF vs env ts
  |[]=>none
end
mutual
noncomputable def T.low (n:Nat):T->Bool
 | .var i=>decide (i<n)
 | .tup ts=>lows n ts
noncomputable def lows (n:Nat):List T->Bool
 |[]=>true
 |t::ts=>t.low n&&lows n ts
end
noncomputable def v5:List Int->List Int->Bool
 |[],[]=>false
 |[],_::_=>true
 |_::_,[]=>false
 |a::r,b::t=>if a=b then v5 r t else decide (a<b)
noncomputable def cV {α:Type} (k:List Int) (y:α):List (List Int×α)->List (List Int×α)
 |[]=>[(k,y)]
 |z::r=>if v5 k z.1=true then (k,y)::z::r else z::cV k y r
noncomputable def bB {α:Type}:List (List Int×α)->List (List Int×α)
 |[]=>[]
 |z::r=>cV z.1 z.2 (bB r)
noncomputable def lT:List Val->Option (List Int)
 |[]=>some []
 | .int i::r=>(lT r).map fun r=>i::r
 |_=>none
noncomputable def Co:Val->Option (List Int)
 | .tup false xs=>lT xs
 |_=>none
noncomputable def du:List Val->Option (List (List Int))
 |[]=>some []
 |v::r=>(Co v).bind fun k=>(du r).map fun r=>k::r
noncomputable def Kept (chk:List (Nat×Ob)) (st:aa):Prop:=∀p∈chk,st[p.1]?=some p.2
end
end PI
namespace PI
open PySem
noncomputable section
noncomputable def eU (P:Pg) (c:Nat):Bool:=(((P.cl c)).map (·.chg)).getD false
noncomputable def qy (P:Pg) (n:Nat) (k:Nat) (st':aa):Option Ob->R Val
 |some (.lst xs)=>(R.ak (aV st' n k xs) st').bind fun ys st'=> .ok (.ref n) (st'.take n++[.lst ys])
 |some (.dct ks vs)=>(R.ak (aV st' n k vs) st').bind fun vs st'=> .ok (.ref n) (st'.take n++[.dct ks vs])
 |some (.ins c ns vs)=>if eU P c=true then .ok (.ref k) st' else (R.ak (aV st' n st'.length vs) st').bind fun vs st'=> .ok (.obj c ns vs) (st'.take n)
 |none=> .stuck
noncomputable def isRef:Val->Option Nat
 | .ref k=>some k
 | .non=>none
 | .bl _=>none
 | .int _=>none
 | .str _=>none
 | .tup _ _=>none
 | .lst _=>none
 | .dct _ _=>none
 | .obj _ _ _=>none
noncomputable def xT (P:Pg) (n:Nat) (v:Val) (st':aa):Option Nat->R Val
 |some k=>if k<n then .ok v (st'.take n) else qy P n k st' st'[k]?
 |none=>(R.ak (v.aC st' n st'.length) st').bind fun v st'=> .ok v (st'.take n)
open Classical in
noncomputable def fin (P:Pg) (st:aa) (v:Val) (st':aa):R Val:=if Old st st' then xT P st.length v st' (isRef v) else .ok v st'
open Classical in
noncomputable def yS (st:aa) (x:Exn) (st':aa):R Val:=
 if Old st st' then (R.ak (aV st' st.length st'.length x.vs) st').bind fun vs st'=> .exc {x with vs:=vs} (st'.take st.length) else .exc x st'
open Classical in
noncomputable def se (st:aa) (v:Val) (st':aa):R Val:=
 if Old st st' then (R.ak (v.aC st' st.length st'.length) st').bind fun v st'=> .ok v (st'.take st.length) else .ok v st'
inductive F where
 |next (env:Env) (st:aa)|ret (v:Val) (st:aa)|brk (env:Env) (st:aa)|cont (env:Env) (st:aa)|exc (x:Exn) (env:Env) (st:aa)|stuck
noncomputable def F.bind:F->(Env->aa->F)->F
 | .next env st,k=>k env st
 | .ret v st,_=> .ret v st
 | .brk env st,_=> .brk env st
 | .cont env st,_=> .cont env st
 | .exc x env st,_=> .exc x env st
 | .stuck,_=> .stuck
noncomputable def F.of {α:Type} (env:Env):R α->(α->aa->F)->F
 | .ok a st,k=>k a st
 | .exc x st,_=> .exc x env st
 | .stuck,_=> .stuck
noncomputable def F.ak (st:aa):Option Env->F
 |some env=> .next env st
 |none=> .stuck
noncomputable abbrev ar:=Nat->List Val->aa->R Val
noncomputable def pO (k:Nat):Option Ob->Option (List Val×List (Nat×Ob))
 |some (.lst xs)=>some (xs,[(k, .lst xs)])
 |some (.dct _ _)=>none
 |some (.ins _ _ _)=>none
 |none=>none
noncomputable def itemsOf (st:aa):Val->Option (List Val×List (Nat×Ob))
 | .tup _ xs=>some (xs,[])
 | .lst xs=>some (xs,[])
 | .dct _ _=>none
 | .ref k=>pO k st[k]?
 | .non=>none
 | .bl _=>none
 | .int _=>none
 | .str _=>none
 | .obj _ _ _=>none
noncomputable def fL (st:aa):Val->Option (List Val×List (Nat×Ob))
 | .tup _ xs=>some (xs,[])
 | .lst xs=>some (xs,[])
 | .dct ks _=>some (ks.map gP,[])
 | .ref k=>pO k st[k]?
 | .non=>none
 | .bl _=>none
 | .int _=>none
 | .str _=>none
 | .obj _ _ _=>none
noncomputable def newD (xs:List Val) (st:aa):R Val:=iff (xs.length<=1000) ((R.ak (pairD xs [] []) st).bind fun p st=>new (.dct p.1 p.2) st)
noncomputable def tP (st:aa):Option Ob->R Val
 |some (.lst xs)=>newD xs st
 |_=> .stuck
noncomputable def oU (st:aa):Val->R Val
 | .tup true xs=>newD xs st
 | .ref k=>tP st st[k]?
 |_=> .stuck
noncomputable def oA:Val->Bool
 | .lst _=>true
 |_=>false
noncomputable def EA:List Val->List Val->List Val
 |x::xs,y::ys=> .tup false [x,y]::EA xs ys
 |_,_=>[]
noncomputable def eV:Int->List Val->List Val
 |i,x::xs=> .tup false [.int i,x]::eV (i+1) xs
 |_,[]=>[]
noncomputable def aX (lo:Int):Nat->List Val
 |0=>[]
 |n+1=> .int lo::aX (lo+1) n
noncomputable def tI:Val->aa->R (List Val×List (Nat×Ob))
 | .int n,st=>iff (-(2^60)<n/\n<2^24) (.ok (aX 0 n.toNat,[]) st)
 |_,_=> .stuck
noncomputable def t7 (a:Int):Val->aa->R (List Val×List (Nat×Ob))
 | .int b,st=>iff (b-a<2^24/\ -(2^60)<a/\a<2^60/\ -(2^60)<b) (.ok (aX a (b-a).toNat,[]) st)
 |_,_=> .stuck
noncomputable def tF:Val->Val->aa->R (List Val×List (Nat×Ob))
 | .int a,y,st=>t7 a y st
 |_,_,_=> .stuck
noncomputable def eJ:Option Val->List Val->List Val
 |some x,r=>x::r
 |none,r=>r
open Classical in
noncomputable def aB (f:Val->aa->R (Option Val)) (chk:List (Nat×Ob)):List Val->aa->R (List Val)
 |[],st=>iff (Kept chk st) (.ok [] st)
 |v::vs,st=>iff (Kept chk st) ((f v st).bind fun o st=>(aB f chk vs st).bind fun r st=> .ok (eJ o r) st)
noncomputable def av (nw:Nat) (caps:List Nat) (env:Env):Env:=List.replicate nw none++caps.map fun i=>(env[i]?).bind id
noncomputable def gh:Val->aa->R Bool
 | .bl b,st=> .ok b st
 |_,_=> .stuck
noncomputable def cx:Bm->Bool
 | .get=>true
 | .keys=>true
 | .values=>true
 |_=>false
noncomputable def wN (m:Bm):Val->Bool
 | .lst _=> !cx m
 | .dct _ _=>cx m
 |_=>false
noncomputable def IA:Val->aa->R Val
 | .int i,st=> .ok (.int (-i)) st
 |_,_=> .stuck
noncomputable def iX:Option Val->aa->R (Option Int)
 |none,st=> .ok none st
 |some (.int i),st=> .ok (some i) st
 |_,_=> .stuck
noncomputable def dQ (P:Pg) (c:Nat) (f:Str):Bool:=(((P.cl c)).map fun k=>k.flds.contains f).getD false
noncomputable def iB (P:Pg) (f:Str):Val->aa->R Val
 | .obj c ns vs,st=>iff (dQ P c f=true) (R.ak (dq ns vs f) st)
 |_,_=> .stuck
noncomputable def Hr (P:Pg) (c:Nat):Val->aa->R Val
 | .obj k _ _,st=>R.ak (((P.cl k)).map fun k=> .bl (k.sup.contains c)) st
 | .non,_=> .stuck
 | .bl _,_=> .stuck
 | .int _,_=> .stuck
 | .str _,_=> .stuck
 | .tup _ _,_=> .stuck
 | .lst _,_=> .stuck
 | .dct _ _,_=> .stuck
 | .ref _,_=> .stuck
noncomputable def qT {α:Type}:Val->R α->R α
 | .non,r=>r
 |_,_=> .stuck
noncomputable def fe (P:Pg) (cl:ar) (c:Nat) (xs:List Val) (st:aa):Option (Option Nat)->R Val
 |some (some f)=>(cl f (.ref st.length::xs) (st++[.ins c [] []])).bind fun v st'=>qT v (fin P st (.ref st.length) st')
 |some none=>if xs.isEmpty then fin P st (.ref st.length) (st++[.ins c [] []]) else .stuck
 |none=> .stuck
noncomputable def eR (P:Pg) (m:Str):Val->Option Nat
 | .obj c ns _=>if ns.contains m=true then none else (P.cl c).bind fun k=>k.meths.lookup m
 |_=>none
noncomputable def iM {α:Type}:Bool->R α->R α->R α
 |true,a,_=>a
 |false,_,b=>b
noncomputable def aM (o:Option Env) (c:Env->aa->R Bool) (e:Env->aa->R Val) (st:aa):R (Option Val):=(R.ak o st).bind fun env st=>
 (c env st).bind fun b st=>iM b ((e env st).bind fun x st=> .ok (some x) st) (.ok none st)
noncomputable def HG:Option (List Val×List (Nat×Ob))->Option (List Val×List (Nat×Ob))->aa->R (List Val×List (Nat×Ob))
 |some (xs,c),some (ys,d),st=>iff (xs.length=ys.length) (.ok (EA xs ys,c++d) st)
 |_,_,_=> .stuck
noncomputable def noX:R Val->R Val
 | .ok a st=> .ok a st
 | .exc _ _=> .stuck
 | .stuck=> .stuck
noncomputable def eF (cl:ar) (f:Nat) (st:aa):List Val->List Val->R (List Val)
 |[],dn=> .ok dn (st++[.lst dn])
 |y::ys,dn=>(noX (cl f [y] (st++[.lst dn]))).bind fun v st'=>iff (st'=st++[.lst dn]) (eF cl f st ys (dn++[v]))
noncomputable def iq (ys:List Val) (ks:List (List Int)) (st:aa):R Val:=iff (ys.length<64/\ks.Nodup/\∃m,0<m/\∀k∈ks,k.length=m) (new (.lst ((bB (ks.zip ys)).map fun z=>z.2)) (st++[.lst []]))
noncomputable def oC (cl:ar) (f:Nat) (st:aa):Val->R Val
 | .lst ys=>iff (ys.length<64) ((eF cl f st ys []).bind fun ks _=>(R.ak (du ks) st).bind fun ks st=>iq ys ks st)
 |_=> .stuck
mutual
noncomputable def E.run (P:Pg) (cl:ar):E->Env->aa->R Val
 | .const v,_,st=> .ok v st
 | .var i,env,st=>R.ak ((env[i]?).bind id) st
 | .bin op a b,env,st=>(a.run P cl env st).bind fun x st=>(b.run P cl env st).bind fun y st=>eh op (res st x) (res st y) st
 | .neg a,env,st=>(a.run P cl env st).bind fun x st=>IA x st
 | .cmp op a b,env,st=>(a.run P cl env st).bind fun x st=>(b.run P cl env st).bind fun y st=>cI (bw op (res st x) (res st y) st)
 | .cmp2 op op' a b c,env,st=>(a.run P cl env st).bind fun x st=>(b.run P cl env st).bind fun y st=>(bw op (res st x) (res st y) st).bind fun z st=>iM z ((c.run P cl env st).bind fun w st=>cI (bw op' (res st y) (res st w) st)) (.ok (.bl false) st)
 | .and a b,env,st=>(a.run P cl env st).bind fun x st=>(gh x st).bind fun t st=>iM t (b.run P cl env st) (.ok (.bl false) st)
 | .or a b,env,st=>(a.run P cl env st).bind fun x st=>(gh x st).bind fun t st=>iM t (.ok (.bl true) st) (b.run P cl env st)
 | .not a,env,st=>(a.run P cl env st).bind fun x st=>(gh x st).bind fun t st=> .ok (.bl !t) st
 | .ite c a b,env,st=>(c.run P cl env st).bind fun x st=>(R.ak (truth (res st x)) st).bind fun t st=>iM t (a.run P cl env st) (b.run P cl env st)
 | .tup es,env,st=>(aS P cl es env st).bind fun xs st=>iff (xs.length<=1000) (.ok (.tup false xs) st)
 | .lst es,env,st=>(aS P cl es env st).bind fun xs st=>iff (xs.length<=1000) (new (.lst xs) st)
 | .dct [] [],_,st=>new (.dct [] []) st
 | .dct _ _,_,_=> .stuck
 | .fld o f,env,st=>(o.run P cl env st).bind fun x st=>iB P f (res st x) st
 | .idx o i,env,st=>(o.run P cl env st).bind fun x st=>(i.run P cl env st).bind fun y st=>eC (res st x) y st
 | .slc o lo hi,env,st=>(o.run P cl env st).bind fun x st=>((gO P cl lo env st).bind fun a st=>iX a st).bind fun a st=>((gO P cl hi env st).bind fun b st=>iX b st).bind fun b st=>pG (res st x) a b st
 | .call f es,env,st=>(aS P cl es env st).bind fun xs st=>cl f xs st
 | .make c es,env,st=>(aS P cl es env st).bind fun xs st=>fe P cl c xs st (((P.cl c)).map (·.init))
 | .meth o m es,env,st=>(o.run P cl env st).bind fun x st=>(R.ak (eR P m (res st x)) st).bind fun f st=>(aS P cl es env st).bind fun xs st=>cl f (x::xs) st
 | .bi b es,env,st=>(aS P cl es env st).bind fun xs st=>vA b (xs.map (res st)) st
 | .bm m o es,env,st=>(o.run P cl env st).bind fun x st=>iff (wN m (res st x)=true) ((aS P cl es env st).bind fun xs st=>jU m x xs st)
 | .isI e c,env,st=>(e.run P cl env st).bind fun x st=>Hr P c (res st x) st
 | .comp nw caps t q c e,env,st=>(q.run P cl env st).bind fun it st=>iff (t.low nw=true/\it.1.length<=10000) ((aB (fun v st=>aM (t.put v (av nw caps env)) (runC P cl c) (e.run P cl) st) it.2 it.1 st).bind fun xs st=>new (.lst xs) st)
 | .sortK q f,env,st=>(q.run P cl env st).bind fun x st=>oC cl f st (res st x)
 | .dOf e,env,st=>(e.run P cl env st).bind fun x st=>oU st x
 | .fz e,env,st=>(e.run P cl env st).bind fun v st'=>se st v st'
noncomputable def aS (P:Pg) (cl:ar):List E->Env->aa->R (List Val)
 |[],_,st=> .ok [] st
 |e::es,env,st=>(e.run P cl env st).bind fun x st=>(aS P cl es env st).bind fun xs st=> .ok (x::xs) st
noncomputable def gO (P:Pg) (cl:ar):Option E->Env->aa->R (Option Val)
 |none,_,st=> .ok none st
 |some e,env,st=>(e.run P cl env st).bind fun x st=> .ok (some x) st
noncomputable def runC (P:Pg) (cl:ar):Option E->Env->aa->R Bool
 |none,_,st=> .ok true st
 |some e,env,st=>(e.run P cl env st).bind fun x st=>R.ak (truth (res st x)) st
noncomputable def Q.run (P:Pg) (cl:ar):Q->Env->aa->R (List Val×List (Nat×Ob))
 | .val e,env,st=>(e.run P cl env st).bind fun x st=>R.ak (fL st x) st
 | .rng1 a,env,st=>(a.run P cl env st).bind fun x st=>tI x st
 | .rng2 a b,env,st=>(a.run P cl env st).bind fun x st=>(b.run P cl env st).bind fun y st=>tF x y st
 | .zip a b,env,st=>(a.run P cl env st).bind fun x st=>(b.run P cl env st).bind fun y st=>HG (itemsOf st x) (itemsOf st y) st
 | .enm a,env,st=>(a.run P cl env st).bind fun x st=>iff (oA (res st x)=true) ((R.ak (itemsOf st x) st).bind fun p st=> .ok (eV 0 p.1,p.2) st)
 | .items _,_,_=> .stuck
 | .rev _,_,_=> .stuck
end
noncomputable def F.turn:F->(Env->aa->F)->F
 | .next env st,k=>k env st
 | .cont env st,k=>k env st
 | .brk env st,_=> .next env st
 | .ret v st,_=> .ret v st
 | .exc x env st,_=> .exc x env st
 | .stuck,_=> .stuck
noncomputable def iS (c:Prop) (r:F):F:= @ite _ c (Classical.propDecidable c) r .stuck
theorem gB {c:Prop} {r:F} (h:c):iS c r=r:=if_pos h
open Classical in
noncomputable def forL (t:T) (body:Env->aa->F) (chk:List (Nat×Ob)):List Val->Env->aa->F
 |[],env,st=>iS (Kept chk st) (.next env st)
 |v::vs,env,st=>iS (Kept chk st) ((F.ak st (t.put v env)).bind fun env st=>(body env st).turn fun env st=>forL t body chk vs env st)
noncomputable def zW:Bool->F->F->F
 |true,a,_=>a
 |false,_,b=>b
noncomputable def Cq (test:Env->aa->R Bool) (body:Env->aa->F):Nat->Env->aa->F
 |0,_,_=> .stuck
 |n+1,env,st=>F.of env (test env st) fun b st=>zW b ((body env st).turn fun env st=>Cq test body n env st) (.next env st)
noncomputable def oK (P:Pg) (k:Nat) (f:Str) (x:Val) (st:aa):Option Ob->R Unit
 |some (.ins c ns vs)=>iff (dQ P c f=true/\ns.length<100) (.ok () (st.set k (.ins c (aQ ns vs f x).1 (aQ ns vs f x).2)))
 |_=> .stuck
noncomputable def cN (P:Pg) (f:Str) (x:Val):Val->aa->R Unit
 | .ref k,st=>oK P k f x st st[k]?
 |_,_=> .stuck
noncomputable def lU (k:Nat) (x:Val) (st:aa):Option Ob->Val->R Unit
 |some (.lst xs), .int j=>(R.ak (hR xs.length j) st).bind fun j st=> .ok () (st.set k (.lst (xs.set j x)))
 |some (.dct ks vs),i=>iff (bO i=true/\ks.length<10000) ((R.ak (putD i x ks vs) st).bind fun r st=> .ok () (st.set k (.dct r.1 r.2)))
 |_,_=> .stuck
noncomputable def eT (i x:Val):Val->aa->R Unit
 | .ref k,st=>lU k x st st[k]? i
 |_,_=> .stuck
noncomputable def Iq (P:Pg) (c k:Nat):Bool:=(((P.cl k)).map fun k=>k.sup.contains c).getD false
noncomputable def unset (x:Option Nat) (env:Env):Env:=match x with
 |some i=>env.set i none
 |none=>env
noncomputable def F.unset (x:Option Nat):F->F
 | .next env st=> .next (PI.unset x env) st
 | .brk env st=> .brk (PI.unset x env) st
 | .cont env st=> .cont (PI.unset x env) st
 | .exc _ _ _=> .stuck
 | .ret v st=> .ret v st
 | .stuck=> .stuck
noncomputable def HY (x:Option Nat) (y:Exn) (env:Env):Env:=match x with
 |some i=>env.set i (some (.obj y.c y.ns y.vs))
 |none=>env
noncomputable def F.Fl (P:Pg) (c:Nat) (x:Option Nat) (h:Env->aa->F):F->F
 | .exc y env st=>zW (Iq P c y.c) ((h (HY x y env) st).unset x) .stuck
 | .next env st=> .next env st
 | .brk env st=> .brk env st
 | .cont env st=> .cont env st
 | .ret v st=> .ret v st
 | .stuck=> .stuck
noncomputable def Cw (env:Env) (st:aa):Val->F
 | .obj c ns vs=> .exc ⟨c,ns,vs⟩ env st
 |_=> .stuck
noncomputable def D5 (P:Pg) (cl:ar) (c:Nat) (xs:List Val) (env:Env) (st:aa):Option (Option Nat)->F
 |some (some f)=>F.of env ((cl f (.ref st.length::xs) (st++[.ins c [] []])).bind fun _ st'=>fin P st (.ref st.length) st') fun v st=>Cw env st v
 |some none=> .exc ⟨c,[],[]⟩ env st
 |none=> .stuck
mutual
noncomputable def S.run (P:Pg) (cl:ar):S->Env->aa->F
 | .set t e,env,st=>F.of env (e.run P cl env st) fun x st=>F.ak st (t.put x env)
 | .eT o i e,env,st=>F.of env ((e.run P cl env st).bind fun x st=>(o.run P cl env st).bind fun y st=>(i.run P cl env st).bind fun z st=>eT z x y st) fun _ st=> .next env st
 | .cN o f e,env,st=>F.of env ((e.run P cl env st).bind fun x st=>(o.run P cl env st).bind fun y st=>cN P f x y st) fun _ st=> .next env st
 | .aug i op e,env,st=>F.of env ((R.ak ((env[i]?).bind id) st).bind fun x st=>(e.run P cl env st).bind fun y st=>eh op x (res st y) st) fun x st=> .next (env.set i (some x)) st
 | .augI _ _ _ _,_,_=> .stuck
 | .augF _ _ _ _,_,_=> .stuck
 | .expr e,env,st=>F.of env (e.run P cl env st) fun _ st=> .next env st
 | .ret e,env,st=>F.of env (e.run P cl env st) fun x st=> .ret x st
 | .retN,_,st=> .ret .non st
 | .pass,env,st=> .next env st
 | .brk,env,st=> .brk env st
 | .cont,env,st=> .cont env st
 | .ife c a b,env,st=>F.of env (runC P cl (some c) env st) fun t st=>zW t (aP P cl a env st) (aP P cl b env st)
 | .whl c b,env,st=>Cq (fun env st=>runC P cl (some c) env st) (fun env st=>aP P cl b env st) P.w env st
 | .for t q b,env,st=>F.of env (q.run P cl env st) fun it st=>forL t (fun env st=>aP P cl b env st) it.2 it.1 env st
 | .raise c es,env,st=>F.of env (aS P cl es env st) fun xs st=>D5 P cl c xs env st (((P.cl c)).map (·.init))
 | .try_ b c x h,env,st=>(aP P cl b env st).Fl P c x fun env st=>aP P cl h env st
noncomputable def aP (P:Pg) (cl:ar):List S->Env->aa->F
 |[],env,st=> .next env st
 |s::ss,env,st=>(s.run P cl env st).bind fun env st=>aP P cl ss env st
end
noncomputable def F.fin (P:Pg) (st:aa):F->R Val
 | .next _ st'=>PI.fin P st .non st'
 | .ret v st'=>PI.fin P st v st'
 | .exc x _ st'=>yS st x st'
 | .brk _ _=> .stuck
 | .cont _ _=> .stuck
 | .stuck=> .stuck
noncomputable def Ag (P:Pg) (cl:ar) (xs:List Val) (st:aa):Option Fn->R Val
 |some d=>iff (xs.length=d.np) ((aP P cl d.body (xs.map some++List.replicate (d.ns-d.np) none) st).fin P st)
 |none=> .stuck
noncomputable def call (P:Pg):Nat->ar
 |0,_,_,_=> .stuck
 |n+1,f,xs,st=>Ag P (call P n) xs st (P.fn f)
end
theorem xt (st:aa):Old st st:=⟨Nat.le_refl _,fun _ _ _ h=> .inl h⟩
theorem fk (st g:aa):Old st (st++g):=⟨by simp,fun i o h e=> .inl (by rwa [List.getElem?_append_left h] at e)⟩
theorem sG (st g:aa) (k:Nat) (o:Ob) (h:o.bd st.length=true):Old st (st.set k o++g):=⟨by simp,fun i u hi e=>by
 rw [List.getElem?_append_left (by simpa using hi),List.getElem?_set] at e
 split at e
 ·split at e
  ·exact .inr (by cases e;exact h)
  ·cases e
 ·exact .inl e⟩
end PI
set_option autoImplicit true
set_option relaxedAutoImplicit true
namespace PI
open PySem
@[simp] theorem KR (k:Nat):ku k (some (.lst xs))= .lst xs:=rfl
@[simp] theorem Kh (k:Nat):ku k (some (.dct ks vs))= .dct ks vs:=rfl
@[simp] theorem Kp (k:Nat):ku k (some (.ins c ns vs))= .obj c ns vs:=rfl
@[simp] theorem La (k:Nat):ku k none= .ref k:=rfl
@[simp] theorem L7 (st:aa):res st (.ref k)=ku k st[k]?:=rfl
@[simp] theorem LO (st:aa):res st (.tup f xs)= .tup f xs:=rfl
@[simp] theorem Me (st:aa):res st (.lst xs)= .lst xs:=rfl
@[simp] theorem LY (st:aa):res st (.dct ks vs)= .dct ks vs:=rfl
@[simp] theorem Mm (st:aa):res st (.obj c ns vs)= .obj c ns vs:=rfl
@[simp] theorem Ky {α:Type} (f:Int->Int->aa->R α) (i:Int):kD f i (.int j) st=f i j st:=rfl
@[simp] theorem KQ {α:Type} (f:Int->Int->aa->R α):bL f (.int i) y st=kD f i y st:=rfl
@[simp] theorem Ki (i:Str):yg i (.str j) st=iff (i.length+j.length<=100000) (.ok (.str (i++j)) st):=rfl
@[simp] theorem Kl (xs:List Val):xa xs (.tup w1_ ys) st=iff (xs≠[]/\ys≠[]/\xs.length+ys.length<=10000) (.ok (.tup false (xs++ys)) st):=rfl
@[simp] theorem KL :ko (.int i) y st=kD (fun i j st=> .ok (.int (i+j)) st) i y st:=rfl
@[simp] theorem Lb :ko (.str i) y st=yg i y st:=rfl
@[simp] theorem K7 :ko (.tup w1_ xs) y st=xa xs y st:=rfl
@[simp] theorem Lc :tZ (.str z) (.int k) st=iff (0<=k/\k<=1000/\z.length<=1000) (.ok (.str (iU z k.toNat)) st):=rfl
@[simp] theorem KN :tZ (.int i) y st=kD pB i y st:=rfl
@[simp] theorem Lu :eh .Add x y st=ko x y st:=rfl
@[simp] theorem KD :eh .Sub x y st=bL (fun i j st=> .ok (.int (i-j)) st) x y st:=rfl
@[simp] theorem Kw :eh .Mult x y st=tZ x y st:=rfl
@[simp] theorem K9 :eh .FloorDiv x y st=bL qh x y st:=rfl
@[simp] theorem KP :eh .Mod x y st=bL pS x y st:=rfl
@[simp] theorem Ll :eh .Pow x y st=bL xM x y st:=rfl
@[simp] theorem Mb (neg:Bool) (x:Val):zU neg x .non st= .ok (if neg=true then !g9 x else g9 x) st:=rfl
@[simp] theorem LP (neg:Bool) (x:Val):qj neg x (.tup w1_ ys) st=R.ak ((cg x ys).map fun b=>if neg=true then !b else b) st:=rfl
@[simp] theorem LX (neg:Bool) (x:Val):qj neg x (.lst ys) st=R.ak ((cg x ys).map fun b=>if neg=true then !b else b) st:=rfl
@[simp] theorem Lg :bw .Eq x y st=R.ak (eqv 8 x y) st:=rfl
@[simp] theorem Lw :bw .NotEq x y st=R.ak ((eqv 8 x y).map fun b=> !b) st:=rfl
@[simp] theorem Lj :bw .Lt x y st=bL (fun i j st=> .ok (decide (i<j)) st) x y st:=rfl
@[simp] theorem LH :bw .LtE x y st=bL (fun i j st=> .ok (decide (i<=j)) st) x y st:=rfl
@[simp] theorem Ku :bw .Gt x y st=bL (fun i j st=> .ok (decide (j<i)) st) x y st:=rfl
@[simp] theorem Lm :bw .GtE x y st=bL (fun i j st=> .ok (decide (j<=i)) st) x y st:=rfl
@[simp] theorem KI :bw .IsNot x y st=zU true x y st:=rfl
@[simp] theorem KJ :bw .In x y st=qj false x y st:=rfl
@[simp] theorem HJ :bw .NotIn x y st=qj true x y st:=rfl
@[simp] theorem Hn :g9 .non=true:=rfl
@[simp] theorem Ir :g9 (.tup w1_ w2_)=false:=rfl
@[simp] theorem KY :eC (.tup w1_ xs) (.int k) st=R.ak (j0 xs k) st:=rfl
@[simp] theorem mh :eC (.lst xs) (.int k) st=R.ak (j0 xs k) st:=rfl
@[simp] theorem jC :eC (.str x) (.int k) st=iff (x.length<=1000) (R.ak (((hR x.length k).bind fun j=>x.cps.toList[j]?).map fun c=> .str ⟨#[c]⟩) st):=rfl
@[simp] theorem Lz :pG (.tup w1_ xs) lo hi st=iff (¬(bA xs.length 0 lo=0/\bA xs.length xs.length hi=xs.length)) (.ok (.tup false (cut xs lo hi)) st):=rfl
@[simp] theorem LK :pG (.lst xs) lo hi st=new (.lst (cut xs lo hi)) st:=rfl
@[simp] theorem Kn :pG (.str x) lo hi st=iff (x.length<=1000) (.ok (.str ⟨(cut x.cps.toList lo hi).toArray⟩) st):=rfl
@[simp] theorem JV :truth (.bl b)=some b:=rfl
@[simp] theorem LB :gq (.tup w1_ xs)=some xs.length:=rfl
@[simp] theorem Lx :gq (.lst xs)=some xs.length:=rfl
@[simp] theorem Ln :gq (.dct ks w1_)=some ks.length:=rfl
@[simp] theorem L8 :j3 .len x st=R.ak ((gq x).map .int) st:=rfl
@[simp] theorem LZ :j3 .tuple (.tup f xs) st= .ok (.tup f xs) st:=rfl
@[simp] theorem Mg :j3 .tuple (.lst xs) st= .ok (.tup true xs) st:=rfl
@[simp] theorem LS :j3 .list (.lst xs) st=new (.lst xs) st:=rfl
@[simp] theorem Mj :j3 .abs (.int i) st= .ok (.int i.natAbs) st:=rfl
@[simp] theorem L5 :j3 .sum (.lst xs) st=R.ak ((gr 0 xs).map .int) st:=rfl
@[simp] theorem Ko :j3 .int (.bl b) st= .ok (.int (if b=true then 1 else 0)) st:=rfl
@[simp] theorem LR (b:Bi):vA b [x] st=j3 b x st:=rfl
@[simp] theorem LN (k:Nat) (ys:List Val) (st:aa):z5 k ys st (some (.lst zs))=iff (ys.length+zs.length<=10000) (.ok .non (st.set k (.lst (ys++zs)))):=rfl
@[simp] theorem LU :qw (.dct ks vs) [k] st=iff (bO k=true) (R.ak ((getD k ks vs).map fun o=>o.getD .non) st):=rfl
@[simp] theorem p9 :qw (.dct ks vs) [k,d] st=iff (bO k=true) (R.ak ((getD k ks vs).map fun o=>o.getD d) st):=rfl
@[simp] theorem HV :isRef (.ref k)=some k:=by simp only [isRef]
@[simp] theorem JN :isRef .non=none:=by simp only [isRef]
@[simp] theorem Hc :isRef (.bl w1_)=none:=by simp only [isRef]
@[simp] theorem Jg :isRef (.str w1_)=none:=by simp only [isRef]
@[simp] theorem JL :isRef (.tup w1_ w2_)=none:=by simp only [isRef]
@[simp] theorem Kq (P:Pg) (n:Nat) (k:Nat) (st':aa):qy P n k st' (some (.lst xs))=(R.ak (aV st' n k xs) st').bind fun ys st'=> .ok (.ref n) (st'.take n++[.lst ys]):=rfl
@[simp] theorem Ld (P:Pg) (n:Nat) (k:Nat) (st':aa):qy P n k st' (some (.ins c ns vs))=if eU P c=true then .ok (.ref k) st' else (R.ak (aV st' n st'.length vs) st').bind fun vs st'=> .ok (.obj c ns vs) (st'.take n):=rfl
@[simp] theorem Kx (P:Pg) (n:Nat) (v:Val) (st':aa):xT P n v st' (some k)=if k<n then .ok v (st'.take n) else qy P n k st' st'[k]?:=rfl
@[simp] theorem GU :F.bind (.next env st) k=k env st:=rfl
@[simp] theorem GZ :F.bind (.ret v st) w1_= .ret v st:=rfl
@[simp] theorem Kv {α:Type} (env:Env):F.of env (.ok a st) k=k a st:=rfl
@[simp] theorem Hf (st:aa):F.ak st (some env)= .next env st:=rfl
@[simp] theorem LL (k:Nat):pO k (some (.lst xs))=some (xs,[(k, .lst xs)]):=rfl
@[simp] theorem Fg (st:aa):itemsOf st (.ref k)=pO k st[k]?:=rfl
@[simp] theorem G8 (st:aa):fL st (.tup w1_ xs)=some (xs,[]):=rfl
@[simp] theorem G6 (st:aa):fL st (.dct ks w1_)=some (ks.map gP,[]):=rfl
@[simp] theorem GJ (st:aa):fL st (.ref k)=pO k st[k]?:=rfl
@[simp] theorem Hu :oA (.lst w1_)=true:=rfl
@[simp] theorem Ls (st:aa):tP st (some (.lst xs))=newD xs st:=rfl
@[simp] theorem LI (st:aa):oU st (.tup true xs)=newD xs st:=rfl
@[simp] theorem Kg (st:aa):oU st (.ref k)=tP st st[k]?:=rfl
@[simp] theorem Jm :tF (.int a) y st=t7 a y st:=rfl
@[simp] theorem IJ :eJ (some x) r=x::r:=rfl
@[simp] theorem Jb :gh (.bl b) st= .ok b st:=rfl
@[simp] theorem K4 :iX none st= .ok none st:=rfl
@[simp] theorem LA :iX (some (.int i)) st= .ok (some i) st:=rfl
@[simp] theorem KH (P:Pg) (f:Str):iB P f (.obj c ns vs) st=iff (dQ P c f=true) (R.ak (dq ns vs f) st):=rfl
@[simp] theorem KZ {α:Type}:qT .non r=r:=rfl
@[simp] theorem HK (P:Pg) (cl:ar) (c:Nat) (xs:List Val) (st:aa):fe P cl c xs st (some (some f))=(cl f (.ref st.length::xs) (st++[.ins c [] []])).bind fun v st'=>qT v (fin P st (.ref st.length) st'):=rfl
@[simp] theorem Jy (P:Pg) (cl:ar) (c:Nat) (xs:List Val) (st:aa):fe P cl c xs st (some none)=if xs.isEmpty then fin P st (.ref st.length) (st++[.ins c [] []]) else .stuck:=rfl
@[simp] theorem Mh {α:Type}:iM true a w1_=a:=rfl
@[simp] theorem Mn {α:Type}:iM false w1_ b=b:=rfl
@[simp] theorem GS :F.turn (.next env st) k=k env st:=rfl
@[simp] theorem Jq (P:Pg) (k:Nat) (f:Str) (x:Val) (st:aa):oK P k f x st (some (.ins c ns vs))=iff (dQ P c f=true/\ns.length<100) (.ok () (st.set k (.ins c (aQ ns vs f x).1 (aQ ns vs f x).2))):=rfl
@[simp] theorem KO (P:Pg) (f:Str) (x:Val):cN P f x (.ref k) st=oK P k f x st st[k]?:=rfl
@[simp] theorem IV (k:Nat) (x:Val) (st:aa):lU k x st (some (.lst xs)) (.int j)=(R.ak (hR xs.length j) st).bind fun j st=> .ok () (st.set k (.lst (xs.set j x))):=rfl
@[simp] theorem IP (k:Nat) (x:Val) (st:aa):lU k x st (some (.dct ks vs)) i=iff (bO i=true/\ks.length<10000) ((R.ak (putD i x ks vs) st).bind fun r st=> .ok () (st.set k (.dct r.1 r.2))):=rfl
@[simp] theorem K5 (i x:Val):eT i x (.ref k) st=lU k x st st[k]? i:=rfl
@[simp] theorem IB (P:Pg) (st:aa):F.fin P st (.next w1_ st')=PI.fin P st .non st':=rfl
@[simp] theorem Io (P:Pg) (st:aa):F.fin P st (.ret v st')=PI.fin P st v st':=rfl
@[simp] theorem LG :anyB []=some false:=rfl
@[simp] theorem KA :anyB (.bl b::r)=(anyB r).map fun c=>b||c:=rfl
@[simp] theorem LJ :gr a []=some a:=rfl
@[simp] theorem Kr :gr a (.int i::r)=gr (a+i) r:=rfl
@[simp] theorem Mf (m:Bm):wN m (.lst w1_)= !cx m:=rfl
@[simp] theorem L6 (m:Bm):wN m (.dct w1_ w2_)=cx m:=rfl
@[simp] theorem LW :noX (.ok a st)= .ok a st:=rfl
@[simp] theorem Ik (cl:ar) (f:Nat) (st:aa):oC cl f st (.lst ys)=iff (ys.length<64) ((eF cl f st ys []).bind fun ks _=>(R.ak (du ks) st).bind fun ks st=>iq ys ks st):=rfl
@[simp] theorem Jh (P:Pg) (cl:ar):E.run P cl (.const v) w1_ st= .ok v st:=rfl
@[simp] theorem HM (P:Pg) (cl:ar):E.run P cl (.var i) env st=R.ak ((env[i]?).bind id) st:=rfl
@[simp] theorem Jv (P:Pg) (cl:ar):E.run P cl (.bin op a b) env st=(a.run P cl env st).bind fun x st=>(b.run P cl env st).bind fun y st=>eh op (res st x) (res st y) st:=rfl
@[simp] theorem HI (P:Pg) (cl:ar):E.run P cl (.cmp op a b) env st=(a.run P cl env st).bind fun x st=>(b.run P cl env st).bind fun y st=>cI (bw op (res st x) (res st y) st):=rfl
@[simp] theorem Ht (P:Pg) (cl:ar):E.run P cl (.and a b) env st=(a.run P cl env st).bind fun x st=>(gh x st).bind fun t st=>iM t (b.run P cl env st) (.ok (.bl false) st):=rfl
@[simp] theorem Ip (P:Pg) (cl:ar):E.run P cl (.or a b) env st=(a.run P cl env st).bind fun x st=>(gh x st).bind fun t st=>iM t (.ok (.bl true) st) (b.run P cl env st):=rfl
@[simp] theorem Ju (P:Pg) (cl:ar):E.run P cl (.not a) env st=(a.run P cl env st).bind fun x st=>(gh x st).bind fun t st=> .ok (.bl !t) st:=rfl
@[simp] theorem GA (P:Pg) (cl:ar):E.run P cl (.tup es) env st=(aS P cl es env st).bind fun xs st=>iff (xs.length<=1000) (.ok (.tup false xs) st):=rfl
@[simp] theorem GD (P:Pg) (cl:ar):E.run P cl (.lst es) env st=(aS P cl es env st).bind fun xs st=>iff (xs.length<=1000) (new (.lst xs) st):=rfl
@[simp] theorem GH (P:Pg) (cl:ar):E.run P cl (.dct [] []) w1_ st=new (.dct [] []) st:=rfl
@[simp] theorem GF (P:Pg) (cl:ar):E.run P cl (.fld o f) env st=(o.run P cl env st).bind fun x st=>iB P f (res st x) st:=rfl
@[simp] theorem GO (P:Pg) (cl:ar):E.run P cl (.idx o i) env st=(o.run P cl env st).bind fun x st=>(i.run P cl env st).bind fun y st=>eC (res st x) y st:=rfl
@[simp] theorem Ha (P:Pg) (cl:ar):E.run P cl (.slc o lo hi) env st=(o.run P cl env st).bind fun x st=>((gO P cl lo env st).bind fun a st=>iX a st).bind fun a st=>((gO P cl hi env st).bind fun b st=>iX b st).bind fun b st=>pG (res st x) a b st:=rfl
@[simp] theorem GI (P:Pg) (cl:ar):E.run P cl (.call f es) env st=(aS P cl es env st).bind fun xs st=>cl f xs st:=rfl
@[simp] theorem GC (P:Pg) (cl:ar):E.run P cl (.make c es) env st=(aS P cl es env st).bind fun xs st=>fe P cl c xs st (((P.cl c)).map (·.init)):=rfl
@[simp] theorem G7 (P:Pg) (cl:ar):E.run P cl (.meth o m es) env st=(o.run P cl env st).bind fun x st=>(R.ak (eR P m (res st x)) st).bind fun f st=>(aS P cl es env st).bind fun xs st=>cl f (x::xs) st:=rfl
@[simp] theorem uS (P:Pg) (cl:ar):E.run P cl (.bi b es) env st=(aS P cl es env st).bind fun xs st=>vA b (xs.map (res st)) st:=rfl
@[simp] theorem GB (P:Pg) (cl:ar):E.run P cl (.bm m o es) env st=(o.run P cl env st).bind fun x st=>iff (wN m (res st x)=true) ((aS P cl es env st).bind fun xs st=>jU m x xs st):=rfl
@[simp] theorem GL (P:Pg) (cl:ar):E.run P cl (.sortK q f) env st=(q.run P cl env st).bind fun x st=>oC cl f st (res st x):=rfl
@[simp] theorem GW (P:Pg) (cl:ar):E.run P cl (.dOf e) env st=(e.run P cl env st).bind fun x st=>oU st x:=rfl
@[simp] theorem GV (P:Pg) (cl:ar):E.run P cl (.fz e) env st=(e.run P cl env st).bind fun v st'=>se st v st':=rfl
@[simp] theorem wU (P:Pg) (cl:ar):aS P cl [] w1_ st= .ok [] st:=rfl
@[simp] theorem zK (P:Pg) (cl:ar):aS P cl (e::es) env st=(e.run P cl env st).bind fun x st=>(aS P cl es env st).bind fun xs st=> .ok (x::xs) st:=rfl
@[simp] theorem Li (P:Pg) (cl:ar):gO P cl none w1_ st= .ok none st:=rfl
@[simp] theorem LC (P:Pg) (cl:ar):gO P cl (some e) env st=(e.run P cl env st).bind fun x st=> .ok (some x) st:=rfl
@[simp] theorem KC (P:Pg) (cl:ar):runC P cl none w1_ st= .ok true st:=rfl
@[simp] theorem K1 (P:Pg) (cl:ar):runC P cl (some e) env st=(e.run P cl env st).bind fun x st=>R.ak (truth (res st x)) st:=rfl
@[simp] theorem Ih (P:Pg) (cl:ar):Q.run P cl (.val e) env st=(e.run P cl env st).bind fun x st=>R.ak (fL st x) st:=rfl
@[simp] theorem Jo (P:Pg) (cl:ar):Q.run P cl (.rng1 a) env st=(a.run P cl env st).bind fun x st=>tI x st:=rfl
@[simp] theorem HE (P:Pg) (cl:ar):Q.run P cl (.rng2 a b) env st=(a.run P cl env st).bind fun x st=>(b.run P cl env st).bind fun y st=>tF x y st:=rfl
@[simp] theorem Kf (P:Pg) (cl:ar):Q.run P cl (.enm a) env st=(a.run P cl env st).bind fun x st=>iff (oA (res st x)=true) ((R.ak (itemsOf st x) st).bind fun p st=> .ok (eV 0 p.1,p.2) st):=rfl
@[simp] theorem LF (f:Val->Val->Option Bool):cv f [] []=some true:=rfl
@[simp] theorem Ly (f:Val->Val->Option Bool):cv f (x::xs) (y::ys)=(f x y).bind fun a=>(cv f xs ys).map fun b=>a&&b:=rfl
@[simp] theorem Kt (v:Val) (env:Env) (i:Nat):T.put v env (.var i)=if i<env.length then some (env.set i (some v)) else none:=by simp only [T.put]
@[simp] theorem LD (f:Bool) (xs:List Val) (env:Env) (ts:List T):T.put (.tup f xs) env (.tup ts)=bF xs env ts:=by simp only [T.put]
@[simp] theorem JZ (env:Env):bF [] env []=some env:=by simp only [bF]
@[simp] theorem GQ (v:Val) (vs:List Val) (env:Env) (t:T) (ts:List T):bF (v::vs) env (t::ts)=(t.put v env).bind fun env=>bF vs env ts:=by simp only [bF]
@[simp] theorem L1 (xs:List Val) (i:Int):j0 xs i=(hR xs.length i).bind fun j=>xs[j]?:=rfl
@[simp] theorem Lh (n:Nat) (i:Int):hR n i=if 0<=i then (if i<n then some i.toNat else none) else if-(n:Int)<=i then some (i+n).toNat else none:=rfl
@[simp] theorem Ma (r:R Bool):cI r=r.bind fun b st=> .ok (.bl b) st:=rfl
@[simp] theorem Lk (d:Nat) (a b:Int):eqv d (.int a) (.int b)=some (a==b):=by cases d<;>rfl
@[simp] theorem Kj (d:Nat) (a b:Str):eqv d (.str a) (.str b)=some (decide (a=b)):=by cases d<;>rfl
@[simp] theorem B5 (d:Nat) (f g:Bool) (xs ys:List Val):eqv (d+1) (.tup f xs) (.tup g ys)=cv (eqv d) xs ys:=rfl
end PI
namespace PI
open PySem
inductive Gv where
 |fn (i:Nat)|cls (i:Nat) (ini:Bool)|err (i:Nat)|val (v:Val)
structure Dt where
 gl:List (Str×Gv)
 fr:List Str
 fx:List Str
 is:List Str
 ff:List Str
structure Gm where
 N:List Str
 sc:Scope
 fn:Str->Bool
 cm:Bool
noncomputable def Gm.gl (g:Gm) (x:Str):Bool:=g.sc.names.lookup x==some .globalImplicit
noncomputable def Cr (sc:Scope) (x:Str):Bool:=sc.names.lookup x==some .local||sc.names.lookup x==some .cell||sc.names.lookup x==some .free
noncomputable def tH (sc:Scope) (x:Str):Bool:=sc.names.lookup x==some .local||sc.names.lookup x==some .cell
noncomputable def Gm.ix (g:Gm) (x:Str):Option Nat:=if (x==("__debug__":Str))||(x==("__classdict__":Str)) then none else (g.N.idxOf? x).bind fun i=>if Cr g.sc x then some i else none
noncomputable def Gm.lx (g:Gm) (x:Str):Option Nat:=(g.N.idxOf? x).bind fun i=>if tH g.sc x&&(g.fn x||g.sc.names.lookup x==some .local) then some i else none
noncomputable def Gm.gb (g:Gm) (x:Str):Bool:=g.gl x&& !(x==("__debug__":Str))&& !(x==("__name__":Str))
noncomputable def Gm.gv (D:Dt) (g:Gm) (x:Str):Option Gv:=if g.gb x then D.gl.lookup x else none
noncomputable def zH (x:Str):Option Bi:=if x="len" then some .len else if x="abs" then some .abs else if x="int" then some .int else if x="tuple" then some .tuple else if x="list" then some .list else if x="all" then some .all else if x="sum" then some .sum else if x="any" then some .any else none
noncomputable def zM (S sc:Scope):Scope:={sc with names:=sc.names.map fun (n,k)=>if (k== .free&&S.kind== .function&&S.names.lookup n==some .cell) then (n, .cell) else (n,k)}
noncomputable def iG:List Str->Bool
 |[]=>true
 |x::r=> !r.contains x&&iG r
noncomputable def yj (S sc:Scope):Bool:=(sc.kind== .function)&&(sc.names.all fun y=> !(y.2== .local)||sc.names.lookup y.1==some .local)
 &&(sc.names.all fun y=> !(y.2== .free)||S.names.lookup y.1==some .cell||S.names.lookup y.1==some .free)&&(sc.names.all fun y=> !(y.2== .cell)||sc.names.lookup y.1==some .cell)
noncomputable def oX (sc:Scope):List Str:=(sc.names.filter fun y=>(y.2== .local||y.2== .cell)&& !(y.1==(".0":Str))).map (·.1)
noncomputable def gI (N:List Str) (sc:Scope):List Nat:=(sc.names.filter fun y=>y.2== .free).filterMap fun y=>N.idxOf? y.1
noncomputable def Gm.block (g:Gm) (sc:Scope):Option Gm:=let ws:=oX sc;let caps:=gI g.N sc;let N:=ws++caps.map fun i=>g.N.getD i Str.empty
 if yj g.sc sc&&iG N&&(caps.all fun k=>sc.names.lookup (g.N.getD k Str.empty)==some .free)&&g.cm then some ⟨N,zM g.sc sc,fun x=>sc.names.lookup x==some .cell,true⟩ else none
noncomputable def cC:Const->Option E
 | .none=>some (.const .non)
 | .bool b=>some (.const (.bl b))
 | .int i=>some (.const (.int i))
 | .str s=>some (.const (.str s))
 |_=>none
noncomputable def zf:Operator->Bool
 | .Add=>true
 | .Sub=>true
 | .Mult=>true
 | .FloorDiv=>true
 | .Mod=>true
 | .Pow=>true
 |_=>false
noncomputable def cUn:UnaryOp->E->Option E
 | .Not,a=>some (.not a)
 |_,_=>none
noncomputable def cL {α β:Type} (f:α->Option β):List α->Option (List β)
 |[]=>some []
 |a::r=>(f a).bind fun b=>(cL f r).map fun r=>b::r
noncomputable def bop:BoolOp->E->E->E
 | .And,x,y=> .and x y
 | .Or,x,y=> .or x y
noncomputable def cBool (op:BoolOp) (f:Expr->Option E):List Expr->Option E
 |[]=>none
 |[a]=>f a
 |a::r=>(f a).bind fun x=>(cBool op f r).map fun y=>bop op x y
noncomputable def notStar:Expr->Bool
 | .Starred _ _=>false
 |_=>true
noncomputable def dR:Expr->Bool
 | .Set _ _ _=>false
 |_=>true
noncomputable def eA:Expr->Bool
 | .Slice _ _ _ _=>false
 |_=>true
noncomputable def dz:Expr->Bool
 | .ListComp _ _ _ _=>false
 | .SetComp _ _ _ _=>false
 | .DictComp _ _ _ _ _=>false
 |_=>true
noncomputable def dh:Expr->Bool
 | .IfExp _ _ _ _=>false
 |_=>true
noncomputable def iz:Expr->Bool
 | .Call (.Name _ _) [] [] _=>false
 |_=>true
noncomputable def yM (m:Str) (n:Nat):Option Bm:=
 if m="append" then (if n=1 then some .append else none) else if m="extend" then (if n=1 then some .extend else none) else none
noncomputable def iH (m:Str):Bool:=(["append","extend","insert","reverse","clear","get","pop","remove","join","split","isdigit","count","index","keys","values","items","copy","sort"]:List Str).contains m
noncomputable def Al (D:Dt) (g:Gm) (x:Str):Option E:=match g.gv D x with
 |some (.val v)=>some (.const v)
 |_=>none
noncomputable def oO (D:Dt) (g:Gm) (x:Str) (es:List Expr) (f:Expr->Option E):Option E:=match g.gv D x with
 |some (.fn i)=>if es.all notStar then (cL f es).map fun es=> .call i es else none
 |some (.cls c ini)=>if es.all notStar&&(ini== !es.isEmpty) then (cL f es).map fun es=> .make c es else none
 |some (.err _)=>none
 |some (.val _)=>none
 |none=>if g.gb x&&D.fr.contains x&&es.all notStar&& !es.isEmpty&&g.cm then (zH x).bind fun b=>(cL f es).map fun es=> .bi b es else none
noncomputable def oF (m:Str) (ap pos:Pos) (o:Expr) (es:List Expr) (f:Expr->Option E):Option E:=
 if iz o&&es.all notStar&&(ap.endLine==pos.line)&&decide (es.length<30) then (f o).bind fun o=>(cL f es).bind fun es=>
  if iH m then (if m="get" then (match es with
   |[k]=>some (.bm .get o [k])
   |[k,d]=>some (.bm .get o [k,d])
   |_=>none) else (yM m es.length).map fun b=> .bm b o es) else some (.meth o m es) else none
noncomputable def jQ (g:Gm):Nat->Expr->Option T
 |0,_=>none
 |n+1,e=>match e with
  | .Name x _=>(g.lx x).map .var
  | .Tuple es _ _=>if es.all notStar&&g.cm then (cL (jQ g n) es).map .tup else none
  |_=>none
noncomputable def DJ (f:Expr->Option E) (o:Expr):Expr->Option E
 | .Slice lo hi none _=>(f o).bind fun o=>match lo,hi with
  |none,none=>some (.slc o none none)
  |some a,none=>(f a).map fun a=> .slc o (some a) none
  |none,some b=>(f b).map fun b=> .slc o none (some b)
  |some a,some b=>(f a).bind fun a=>(f b).map fun b=> .slc o (some a) (some b)
 |i=>if eA i then (f o).bind fun o=>(f i).map fun i=> .idx o i else none
noncomputable def isSort (x:Str):Bool:=x==("sorted":Str)
noncomputable def tq (D:Dt) (g:Gm) (x:Str) (f:Expr->Option E) (es:List Expr) (ks:List Keyword):Option E:=match es,ks with
 |[a],[⟨some kn, .Name y _,_⟩]=>if isSort x&&(kn==("key":Str))&&notStar a&&g.gb x&&D.fr.contains x&&g.cm then (match g.gv D y with
  |some (.fn i)=>(f a).map fun a=> .sortK a i
  |_=>none) else none
 |_,_=>none
noncomputable def qg (x:Str):Bool:=x==("dict":Str)
noncomputable def z6 (D:Dt) (g:Gm) (x:Str) (f:Expr->Option E):List Expr->Option E
 |[a]=>if notStar a&&g.gb x&&D.fr.contains x&&g.cm then (f a).map .dOf else none
 |_=>none
noncomputable def jx (x:Str):Bool:=x==("range":Str)
noncomputable def pX:List Comprehension->Option Comprehension
 |[c]=>some c
 |_=>none
noncomputable def xi (f:Expr->Option E):List Expr->Option (Option E)
 |[]=>some none
 |[c]=>if dh c then (f c).map some else none
 |_=>none
noncomputable def C9 (D:Dt) (g:Gm) (x:Str) (f:Expr->Option E):List Expr->Option Q
 |[a]=>if g.gb x&&D.fr.contains x&&notStar a then (f a).map .rng1 else none
 |[a,b]=>if g.gb x&&D.fr.contains x&&notStar a&&notStar b then (f a).bind fun a=>(f b).map fun b=> .rng2 a b else none
 |_=>none
noncomputable def oN (x:Str):Bool:=x==("enumerate":Str)
noncomputable def Cc (D:Dt) (g:Gm) (x:Str) (f:Expr->Option E):List Expr->Option Q
 |[a]=>if g.gb x&&D.fr.contains x&&notStar a then (f a).map .enm else none
 |_=>none
noncomputable def Gf:Q->Bool
 | .enm _=>true
 | .zip _ _=>true
 |_=>false
noncomputable def isTup:Expr->Bool
 | .Tuple _ _ _=>true
 |_=>false
noncomputable def sP (q:Q) (tg:Expr):Bool:= !Gf q||isTup tg
mutual
noncomputable def cE (D:Dt):Nat->Gm->Expr->Option E
 |0,_,_=>none
 |n+1,g,e=>match e with
  | .Constant c _ _=>cC c
  | .Name x _=>match g.ix x with
   |some i=>some (.var i)
   |none=>Al D g x
  | .Dict [] [] _=>some (.dct [] [])
  | .Call (.Attribute o m ap) es [] pos=>if g.cm||iH m then oF m ap pos o es (cE D n g) else none
  | .BinOp a op b _=>if zf op then (cE D n g a).bind fun a=>(cE D n g b).map fun b=> .bin op a b else none
  | .UnaryOp op a _=>if dh a then (cE D n g a).bind fun a=>cUn op a else none
  | .BoolOp op vs _=>if vs.all dh then cBool op (cE D n g) vs else none
  | .Compare a [op] [b] _=>if dR b then (cE D n g a).bind fun a=>(cE D n g b).map fun b=> .cmp op a b else none
  | .Tuple es _ _=>if es.all notStar then (cL (cE D n g) es).map .tup else none
  | .List es _=>if es.all notStar then (cL (cE D n g) es).map .lst else none
  | .Attribute o f _=>if iz o&&D.fx.contains f then (cE D n g o).map fun o=> .fld o f else none
  | .Subscript o i _=>DJ (cE D n g) o i
  | .Call (.Name x _) es [] _=>if qg x then z6 D g x (cE D n g) es else if g.cm then oO D g x es (cE D n g) else none
  | .Call (.Name x _) es (k::ks) _=>tq D g x (cE D n g) es (k::ks)
  | .ListComp elt gens sc _=>(pX gens).bind fun c=>if c.is_async==0&&dR c.iter then (g.block sc).bind fun h=>(cQ D n g c.iter).bind fun q=>(if sP q c.target then jQ h n c.target else none).bind fun t=>(cE D n h elt).bind fun e=>(xi (cE D n h) c.ifs).map fun c=> .comp (oX sc).length (gI g.N sc) t q c e else none
  |_=>none
noncomputable def cQ (D:Dt):Nat->Gm->Expr->Option Q
 |0,_,_=>none
 |n+1,g,e=>match e with
  | .Call (.Name x _) es [] _=>if jx x then C9 D g x (cE D n g) es else if oN x then Cc D g x (cE D n g) es else (cE D n g e).map .val
  |_=>(cE D n g e).map .val
end
noncomputable def vM:Expr->Bool
 | .Tuple _ _ _=>false
 |_=>true
noncomputable def Ez:Bool->E->E
 |true,e=> .fz e
 |false,e=>e
mutual
noncomputable def cS (D:Dt):Nat->Gm->Stmt->Option S
 |0,_,_=>none
 |n+1,g,s=>match s with
  | .Return none _=>some .retN
  | .Return (some e) _=>(cE D n g e).map .ret
  | .Assign [.Name x _] e _=>(g.lx x).bind fun i=>(cE D n g e).map fun e=> .set (.var i) e
  | .Assign [.Subscript o i _] e _=>if eA i&&dz e then (cE D n g o).bind fun o=>(cE D n g i).bind fun i=>(cE D n g e).map fun e=> .eT o i e else none
  | .Assign [.Attribute o f _] e _=>if dz e&&D.fx.contains f then (cE D n g o).bind fun o=>(cE D n g e).map fun e=> .cN o f (Ez (D.ff.contains f) e) else none
  | .Assign [.Tuple es k p] e _=>if vM e then (jQ g n (.Tuple es k p)).bind fun t=>(cE D n g e).map fun e=> .set t e else none
  | .Raise _ _ _=>some (.augI (.const .non) (.const .non) .Add (.const .non))
  | .Expr e _=>if dz e then (cE D n g e).map .expr else none
  | .If c a b _=>if dh c then (cE D n g c).bind fun c=>(i8 D n g a).bind fun a=>(i8 D n g b).map fun b=> .ife c a b else none
  | .For tg it b [] _=>if dR it&&g.cm then (cQ D n g it).bind fun q=>(if sP q tg then jQ g n tg else none).bind fun t=>(i8 D n g b).map fun b=> .for t q b else none
  |_=>none
noncomputable def i8 (D:Dt):Nat->Gm->List Stmt->Option (List S)
 |0,_,_=>none
 |n+1,g,ss=>match ss with
  |[]=>some []
  |s::r=>(cS D n g s).bind fun s=>(i8 D n g r).map fun r=>s::r
end
noncomputable def jt (ps:List Str) (sc:Scope):List Str:=ps++(sc.names.filter fun y=>(y.2== .local||y.2== .cell)&& !ps.contains y.1).map (·.1)
noncomputable def sU (D:Dt) (ps:List Str) (sc:Scope) (body:List Stmt):Option Fn:=let N:=jt ps sc
 (i8 D 400 ⟨N,sc,fun _=>true,true⟩ body).map fun b=>⟨ps.length,N.length,b⟩
end PI
namespace PI
open PySem L2 L2.L3
noncomputable def bP:Val->Option Key
 | .int i=>some (.inl i)
 | .str x=>some (.inr x)
 |_=>none
noncomputable def aH:List Val->Option (List Key)
 |[]=>some []
 |v::r=>(bP v).bind fun k=>(aH r).map fun r=>k::r
noncomputable def cG:Val->Option (List Key)
 | .tup _ xs=>aH xs
 |_=>none
noncomputable def a8:List Val->Option (List (List Key))
 |[]=>some []
 |v::r=>(cG v).bind fun k=>(a8 r).map fun r=>k::r
noncomputable def fb (H:Hp) (a:Addr) (ks:List Val) (us:List L2.V):Prop:=
 (∃kk,aH ks=some kk/\kk.length=us.length/\Rd H a (.dK (kk.zip us)))∨(∃kk,a8 ks=some kk/\kk.length=us.length/\Rd H a (.dT (kk.zip us)))
noncomputable def tX (H:Hp) (a:Addr) (ks:List Val) (us:List L2.V):Prop:=
 (∃kk,aH ks=some kk/\kk.length=us.length/\H a=some (.dK (kk.zip us)))∨(∃kk,a8 ks=some kk/\kk.length=us.length/\H a=some (.dT (kk.zip us)))
theorem tX.at {H:Hp} {a:Addr} (h:tX H a ks us):fb H a ks us:=h.imp (fun z900=>by obtain ⟨k,e,n,r⟩:=z900;exact ⟨k,e,n, .inl r⟩) fun z900=>by obtain ⟨k,e,n,r⟩:=z900;exact ⟨k,e,n, .inl r⟩
structure CT where
 K:PySem.W.Frag
 ca:Nat->Addr
 xc:Nat->Bool
noncomputable def TupAt (G:Hp) (a:Addr) (f:Bool) (us:List L2.V):Prop:=cond f (∃o:Obj,G a=some (.aC o (.tup us))/\o.dict=none) (G a=some (.tup us))
mutual
noncomputable def Rel (T:CT) (as:List Addr) (G:Hp):Val->L2.V->Prop
 | .non,u=>u= .non
 | .bl b,u=>u= .bl b
 | .int i,u=>u= .int i
 | .str x,u=>u= .str x
 | .tup f xs,u=>∃a us,u= .ref a/\TupAt G a f us/\af T as G xs us
 | .lst xs,u=>∃a us,u= .ref a/\bH T.K G a us/\af T as G xs us
 | .dct ks vs,u=>∃a us,u= .ref a/\fb G a ks us/\af T as G vs us
 | .obj c ns vs,u=>∃a us,u= .ref a/\ns.length=us.length/\af T as G vs us/\
   if T.xc c=true then∃dx,G a=some (.ext (zR a (T.ca c) dx))/\((dx=none/\ns=[])∨∃d,dx=some d/\G d=some (.xd (ns.zip us)))
   else∃dx,G a=some (.ins (T.ca c) dx (ns.zip us))
 | .ref n,u=>∃a,as[n]?=some a/\u= .ref a
noncomputable def af (T:CT) (as:List Addr) (G:Hp):List Val->List L2.V->Prop
 |[],us=>us=[]
 |v::r,us=>∃u t,us=u::t/\Rel T as G v u/\af T as G r t
end
noncomputable def De:HO->Bool
 | .dK _=>true
 | .dT _=>true
 |_=>false
noncomputable def Le (G H:Hp):Prop:=∀a o,G a=some o->H a=some o∨(De o=true/\∃ob,H a=some (.aC ob o))
theorem Le.ex {G H:Hp} (l:Le G H) {a:Addr} {o:HO} (e:G a=some o) (n:De o=false):H a=some o:=(l a o e).elim id fun z=>by rw [n] at z;cases z.1
theorem Le.refl (G:Hp):Le G G:=fun _ _ e=> .inl e
theorem Le.trans {A B C:Hp} (x:Le A B) (y:Le B C):Le A C:=fun a o e=>by
 rcases x a o e with q|⟨q,ob,z⟩
 ·exact y a o q
 ·exact .inr ⟨q,ob,y.ex z rfl⟩
theorem Le.new {G:Hp} {a:Addr} {o:HO} (h:G a=none):Le G (upd G a o):=fun b u e=>by
 rw [ao (bj e h)]
 exact .inl e
theorem Rd.le {G H:Hp} {a:Addr} {o:HO} (l:Le G H) (h:Rd G a o):Rd H a o:=h.elim (fun e=>(l _ _ e).imp id fun z=>z.2) fun z900=>by obtain ⟨u,e⟩:=z900;exact .inr ⟨u,l.ex e rfl⟩
theorem k9 {G H:Hp} {a:Addr} {f:Bool} (l:Le G H) (h:TupAt G a f xs):TupAt H a f xs:=by
 cases f
 ·exact l.ex h rfl
 ·exact h.imp fun o q=>⟨l.ex q.1 rfl,q.2⟩
theorem qe {K:PySem.W.Frag} {G:Hp} {a:Addr} {f:Bool} (h:TupAt G a f xs):cH K G a xs:=by
 cases f
 ·exact .inl (.inl h)
 ·obtain ⟨o,e,_⟩:=h
  exact .inl (.inr ⟨o,e⟩)
theorem bh {K:PySem.W.Frag} {G H:Hp} {a:Addr} {f:Bool} (l:Le G H) (h:TupAt G a f xs):cH K H a xs:=qe (k9 l h)
theorem zT {K:PySem.W.Frag} {G H:Hp} {a:Addr} (l:Le G H) (h:cH K G a xs):cH K H a xs:=h.imp (Rd.le l) id
theorem bT {K:PySem.W.Frag} {G H:Hp} {a:Addr} (l:Le G H) (h:bH K G a xs):bH K H a xs:=h.imp (Rd.le l) id
theorem p8 {G H:Hp} {a:Addr} (l:Le G H) (h:fb G a ks us):fb H a ks us:=
 h.imp (fun z900=>by obtain ⟨k,e,n,r⟩:=z900;exact ⟨k,e,n,Rd.le l r⟩) fun z900=>by obtain ⟨k,e,n,r⟩:=z900;exact ⟨k,e,n,Rd.le l r⟩
theorem jF {bs:List Addr} (p:as<+:bs) {n:Nat} {a:Addr} (h:as[n]?=some a):bs[n]?=some a:=by
 obtain ⟨t,rfl⟩:=p
 rw [List.getElem?_append_left (List.getElem?_eq_some_iff.mp h).1]
 exact h
mutual
theorem Rel.mono {T:CT} {as bs:List Addr} {G H:Hp} (p:as<+:bs) (l:Le G H):∀{v:Val} {u:L2.V},Rel T as G v u->Rel T bs H v u
 | .non,_,h=>h
 | .bl _,_,h=>h
 | .int _,_,h=>h
 | .str _,_,h=>h
 | .tup _ _,_,⟨a,us,e,q,r⟩=>⟨a,us,e,k9 l q,af.mono p l r⟩
 | .lst _,_,⟨a,us,e,q,r⟩=>⟨a,us,e,bT l q,af.mono p l r⟩
 | .dct _ _,_,⟨a,us,e,q,r⟩=>⟨a,us,e,p8 l q,af.mono p l r⟩
 | .obj c ns vs,_,⟨a,us,e,n,r,q⟩=>⟨a,us,e,n,af.mono p l r,by
  split at q
  ·rename_i h
   rw [if_pos h]
   obtain ⟨dx,q1,q2⟩:=q
   exact ⟨dx,l.ex q1 rfl,q2.imp id fun ⟨d,q3,q4⟩=>⟨d,q3,l.ex q4 rfl⟩⟩
  ·rename_i h
   rw [if_neg h]
   exact q.imp fun dx q=>l.ex q rfl⟩
 | .ref _,_,⟨a,e,q⟩=>⟨a,jF p e,q⟩
theorem af.mono {T:CT} {as bs:List Addr} {G H:Hp} (p:as<+:bs) (l:Le G H):∀{vs:List Val} {us:List L2.V},af T as G vs us->af T bs H vs us
 |[],_,h=>h
 |_::_,_,⟨u,t,e,h,r⟩=>⟨u,t,e,Rel.mono p l h,af.mono p l r⟩
end
noncomputable def dW (T:CT) (as:List Addr) (G H:Hp) (a:Addr):Ob->Prop
 | .lst xs=>∃us,H a=some (.lst us)/\af T as G xs us
 | .dct ks vs=>∃us,tX H a ks us/\af T as G vs us
 | .ins c ns vs=>∃dx us,T.xc c=false/\H a=some (.ins (T.ca c) dx (ns.zip us))/\ns.length=us.length/\af T as G vs us
structure Sim (T:CT) (st:aa) (as:List Addr) (G H:Hp):Prop where
 len:as.length=st.length
 nd:as.Nodup
 sub:Le G H
 off:∀a∈as,G a=none
 ob:∀(n:Nat) o a,st[n]?=some o->as[n]?=some a->dW T as G H a o
end PI
namespace PI
open PySem L2 L2.L3
noncomputable abbrev XS:=St->XK
noncomputable def Et (T:CT) (as:List Addr) (G:Hp) (x:Exn) (cls:Value) (dx:Option Addr):Prop:=
 cls= .ref (T.ca x.c)/\T.xc x.c=true/\((dx=none/\x.ns=[]/\x.vs=[])∨∃d us,dx=some d/\G d=some (.xd (x.ns.zip us))/\x.ns.length=us.length/\af T as G x.vs us)
noncomputable def aJ (T:CT) (as:List Addr) (G:Hp) (env:Env) (σ:St):Prop:=env.length=σ.length/\∀(i:Nat) v,env[i]?=some (some v)->∃u,σ[i]?=some (some u)/\Rel T as G v u
theorem aJ.mono {T:CT} {bs:List Addr} {G H:Hp} {env:Env} {σ:St} (p:as<+:bs) (l:Le G H) (h:aJ T as G env σ):aJ T bs H env σ:=
 ⟨h.1,fun i v e=>(h.2 i v e).imp fun u q=>⟨q.1,q.2.mono p l⟩⟩
noncomputable def ae {α:Type} (T:CT) (as:List Addr) (G:Hp) (r:R α) (Q:α->aa->List Addr->Hp->Hp->Prop) (X:XK):Prop:=match r with
 | .ok a st=>∀as' G' H',as<+:as'->Le G G'->Sim T st as' G' H'->Q a st as' G' H'
 | .exc x st=>∀as' G' H' cls dx,as<+:as'->Le G G'->Sim T st as' G' H'->Et T as' G' x cls dx->X cls dx H'
 | .stuck=>False
theorem ae.mono {α:Type} {T:CT} {bs:List Addr} {G G2:Hp} {r:R α} {Q:α->aa->List Addr->Hp->Hp->Prop} {X:XK} (p:as<+:bs) (l:Le G G2) (h:ae T as G r Q X):ae T bs G2 r Q X:=by
 cases r with
 |ok a st=>exact fun as' G' H' p' l' s=>h as' G' H' (p.trans p') (l.trans l') s
 |exc x st=>exact fun as' G' H' cls dx p' l' s e=>h as' G' H' cls dx (p.trans p') (l.trans l') s e
 |stuck=>exact h
theorem ae.bind {α β:Type} {T:CT} {as:List Addr} {G:Hp} {r:R α} {f:α->aa->R β} {Q:β->aa->List Addr->Hp->Hp->Prop} {X:XK} (h:ae T as G (r.bind f) Q X):
  ae T as G r (fun a st as' G' _=>ae T as' G' (f a st) Q X) X:=by
 cases r with
 |ok a st=>exact fun as' G' H' p l s=>ae.mono p l h
 |exc x st=>exact h
 |stuck=>exact h
theorem ae.imp {α:Type} {T:CT} {as:List Addr} {G:Hp} {r:R α} {Q Q':α->aa->List Addr->Hp->Hp->Prop} {X:XK} (h:ae T as G r Q X)
  (k:∀a st as' G' H',as<+:as'->Le G G'->Sim T st as' G' H'->Q a st as' G' H'->Q' a st as' G' H'):ae T as G r Q' X:=by
 cases r with
 |ok a st=>exact fun as' G' H' p l s=>k a st as' G' H' p l s (h as' G' H' p l s)
 |exc x st=>exact h
 |stuck=>exact h
theorem ae.ok {α:Type} {T:CT} {G H:Hp} {a:α} {st:aa} {Q:α->aa->List Addr->Hp->Hp->Prop} {X:XK} (h:ae T as G (.ok a st) Q X) (s:Sim T st as G H):Q a st as G H:=
 h as G H (List.prefix_refl _) (Le.refl _) s
noncomputable def dg (T:CT) (as:List Addr) (G H:Hp):Val->L2.V->Prop
 | .tup f xs,u=>∃a us,u= .ref a/\TupAt G a f us/\af T as G xs us
 | .lst xs,u=>∃a us,u= .ref a/\bH T.K H a us/\af T as G xs us
 | .dct ks vs,u=>∃a us,u= .ref a/\fb H a ks us/\af T as G vs us
 | .obj c ns vs,u=>∃a us,u= .ref a/\ns.length=us.length/\af T as G vs us/\
   if T.xc c=true then∃dx,H a=some (.ext (zR a (T.ca c) dx))/\((dx=none/\ns=[])∨∃d,dx=some d/\H d=some (.xd (ns.zip us)))
   else∃dx,H a=some (.ins (T.ca c) dx (ns.zip us))
 | .non,u=>u= .non
 | .bl b,u=>u= .bl b
 | .int i,u=>u= .int i
 | .str x,u=>u= .str x
 | .ref _,_=>False
theorem Rel.top {T:CT} {G H:Hp} (l:Le G H):∀{v:Val} {u:L2.V},isRef v=none->Rel T as G v u->dg T as G H v u
 | .non,_,_,h=>h
 | .bl _,_,_,h=>h
 | .int _,_,_,h=>h
 | .str _,_,_,h=>h
 | .tup _ _,_,_,h=>h
 | .lst _,_,_,⟨a,us,e,q,r⟩=>⟨a,us,e,bT l q,r⟩
 | .dct _ _,_,_,⟨a,us,e,q,r⟩=>⟨a,us,e,p8 l q,r⟩
 | .obj c ns vs,_,_,⟨a,us,e,n,r,q⟩=>⟨a,us,e,n,r,by
  split at q
  ·rename_i h
   rw [if_pos h]
   obtain ⟨dx,q1,q2⟩:=q
   exact ⟨dx,l.ex q1 rfl,q2.imp id fun ⟨d,q3,q4⟩=>⟨d,q3,l.ex q4 rfl⟩⟩
  ·rename_i h
   rw [if_neg h]
   exact q.imp fun dx q=>l.ex q rfl⟩
 | .ref _,_,h,_=>by cases h
theorem bc {T:CT} {st:aa} {G H:Hp} (s:Sim T st as G H) {v:Val} {u:L2.V} (h:Rel T as G v u):dg T as G H (res st v) u:=by
 cases v with
 |ref k=>
  obtain ⟨a,e,rfl⟩:=h
  have hk:k<as.length:=(List.getElem?_eq_some_iff.mp e).1
  rw [s.len] at hk
  have ho:st[k]?=some st[k]:=List.getElem?_eq_getElem hk
  have ob:=s.ob k _ a ho e
  show dg T as G H (ku k st[k]?) _
  rw [ho]
  cases q:st[k] with
  |lst xs=>
   rw [q] at ob
   obtain ⟨us,h1,h2⟩:=ob
   exact ⟨a,us,rfl, .inl (.inl h1),h2⟩
  |dct ks vs=>
   rw [q] at ob
   obtain ⟨us,h1,h2⟩:=ob
   exact ⟨a,us,rfl,h1.at,h2⟩
  |ins c ns vs=>
   rw [q] at ob
   obtain ⟨dx,us,x0,h1,h2,h3⟩:=ob
   exact ⟨a,us,rfl,h2,h3,by rw [if_neg (by rw [x0];decide)];exact ⟨dx,h1⟩⟩
 |non=>exact h
 |bl b=>exact h
 |int i=>exact h
 |str x=>exact h
 |tup xs=>exact Rel.top s.sub rfl h
 |lst xs=>exact Rel.top s.sub rfl h
 |dct ks vs=>exact Rel.top s.sub rfl h
 |obj c ns vs=>exact Rel.top s.sub rfl h
theorem oP {α:Type} {l:List α} (h:l.Nodup) {i j:Nat} {x:α} (a:l[i]?=some x) (b:l[j]?=some x):i=j:=by
 obtain ⟨l1,e1⟩:=List.getElem?_eq_some_iff.mp a
 obtain ⟨l2,e2⟩:=List.getElem?_eq_some_iff.mp b
 have q:=List.pairwise_iff_getElem.mp h
 rcases Nat.lt_trichotomy i j with z|z|z
 ·exact absurd (e1.trans e2.symm) (q i j l1 l2 z)
 ·exact z
 ·exact absurd (e2.trans e1.symm) (q j i l2 l1 z)
theorem dW.live {T:CT} {G H:Hp} {a:Addr} {o:Ob} (h:dW T as G H a o):H a≠none:=by
 intro z
 cases o with
 |lst xs=>
  obtain ⟨us,e,_⟩:=h
  rw [z] at e
  cases e
 |dct ks vs=>
  obtain ⟨us,e,_⟩:=h
  rcases e with ⟨_,_,_,e⟩|⟨_,_,_,e⟩<;>(rw [z] at e;cases e)
 |ins c ns vs=>
  obtain ⟨dx,us,_,e,_⟩:=h
  rw [z] at e
  cases e
theorem dW.at {T:CT} {G H H':Hp} {a:Addr} {o:Ob} (e:H' a=H a) (h:dW T as G H a o):dW T as G H' a o:=by
 cases o with
 |lst xs=>
  obtain ⟨us,q,r⟩:=h
  exact ⟨us,e.trans q,r⟩
 |dct ks vs=>
  obtain ⟨us,q,r⟩:=h
  refine ⟨us, ?_,r⟩
  unfold tX at q⊢
  rw [e]
  exact q
 |ins c ns vs=>
  obtain ⟨dx,us,x,q,r⟩:=h
  exact ⟨dx,us,x,e.trans q,r⟩
theorem dW.mono {T:CT} {bs:List Addr} {G G' H:Hp} {a:Addr} {o:Ob} (p:as<+:bs) (l:Le G G') (h:dW T as G H a o):dW T bs G' H a o:=by
 cases o with
 |lst xs=>
  obtain ⟨us,q,r⟩:=h
  exact ⟨us,q,r.mono p l⟩
 |dct ks vs=>
  obtain ⟨us,q,r⟩:=h
  exact ⟨us,q,r.mono p l⟩
 |ins c ns vs=>
  obtain ⟨dx,us,x,q,n,r⟩:=h
  exact ⟨dx,us,x,q,n,r.mono p l⟩
theorem Sim.live {T:CT} {st:aa} {G H:Hp} (s:Sim T st as G H) {a:Addr} (h:a∈as):H a≠none:=by
 obtain ⟨n,hn⟩:=List.mem_iff_getElem?.mp h
 have hk:n<as.length:=(List.getElem?_eq_some_iff.mp hn).1
 rw [s.len] at hk
 exact (s.ob n _ a (List.getElem?_eq_getElem hk) hn).live
theorem Sim.fresh {T:CT} {st:aa} {G H:Hp} (s:Sim T st as G H) {p:Addr} (hp:H p=none):p∉as/\G p=none:=by
 refine ⟨fun h=>s.live h hp, ?_⟩
 cases e:G p with
 |none=>rfl
 |some o=>
  rcases s.sub p o e with z|⟨_,ob,z⟩<;>(rw [z] at hp;cases hp)
theorem Le.up {G H:Hp} {p:Addr} {o:HO} (l:Le G H) (hp:G p=none):Le G (upd H p o):=fun b u e=>by
 rw [ao (bj e hp)]
 exact l b u e
theorem Sim.uq {T:CT} {st:aa} {G H:Hp} (s:Sim T st as G H) {p:Addr} {u:HO} (hp:H p=none):Sim T st as (upd G p u) (upd H p u):=by
 obtain ⟨n1,n2⟩:=s.fresh hp
 refine ⟨s.len,s.nd,fun b o e=> ?_,fun a ha=> ?_,fun n o a h1 h2=> ?_⟩
 ·by_cases hb:b=p
  ·subst hb
   rw [aj] at e⊢
   exact .inl e
  ·rw [ao hb] at e⊢
   exact s.sub b o e
 ·rw [ao (show a≠p from fun z=>n1 (by rw [←z];exact ha))]
  exact s.off a ha
 ·refine ((s.ob n o a h1 h2).at (ao fun z=>n1 ?_)).mono (List.prefix_refl _) (Le.new n2)
  rw [←z]
  exact List.mem_of_getElem? h2
theorem Sim.push {T:CT} {st:aa} {G H:Hp} (s:Sim T st as G H) {p:Addr} {u:HO} {o:Ob} (hp:H p=none) (hu:dW T (as++[p]) G (upd H p u) p o):Sim T (st++[o]) (as++[p]) G (upd H p u):=by
 obtain ⟨n1,n2⟩:=s.fresh hp
 refine ⟨by simp [s.len], ?_,s.sub.up n2,fun a ha=> ?_,fun n o' a h1 h2=> ?_⟩
 ·rw [List.nodup_append]
  refine ⟨s.nd,by simp,fun a ha b hb=> ?_⟩
  rw [List.mem_singleton.mp hb]
  exact fun z=>n1 (z▸ha)
 ·rcases List.mem_append.mp ha with h|h
  ·exact s.off a h
  ·rw [List.mem_singleton.mp h]
   exact n2
 ·by_cases hn:n<st.length
  ·rw [List.getElem?_append_left hn] at h1
   rw [List.getElem?_append_left (by rw [s.len];exact hn)] at h2
   refine ((s.ob n o' a h1 h2).at (ao fun z=>n1 ?_)).mono (List.prefix_append _ _) (Le.refl _)
   rw [←z]
   exact List.mem_of_getElem? h2
  ·have z:n=st.length:=by
    have:=(List.getElem?_eq_some_iff.mp h1).1
    simp at this
    lia
   subst z
   rw [List.getElem?_append_right (Nat.le_refl _)] at h1
   rw [←s.len,List.getElem?_append_right (Nat.le_refl _)] at h2
   simp at h1 h2
   subst h1 h2
   exact hu
theorem Sim.set {T:CT} {st:aa} {G H:Hp} (s:Sim T st as G H) {n:Nat} {a:Addr} {u:HO} {o:Ob} (ha:as[n]?=some a) (hu:dW T as G (upd H a u) a o):Sim T (st.set n o) as G (upd H a u):=by
 have ma:a∈as:=List.mem_of_getElem? ha
 refine ⟨by simp [s.len],s.nd,s.sub.up (s.off a ma),s.off,fun m o' b h1 h2=> ?_⟩
 by_cases hm:m=n
 ·subst hm
  rw [ha] at h2
  cases h2
  have hl:m<st.length:=by rw [←s.len];exact (List.getElem?_eq_some_iff.mp ha).1
  rw [List.getElem?_set_self hl] at h1
  cases h1
  exact hu
 ·rw [List.getElem?_set_ne (fun z=>hm z.symm)] at h1
  refine (s.ob m o' b h1 h2).at (ao fun z=>hm ?_)
  subst z
  obtain ⟨l1,e1⟩:=List.getElem?_eq_some_iff.mp h2
  obtain ⟨l2,e2⟩:=List.getElem?_eq_some_iff.mp ha
  exact oP s.nd h2 ha
end PI
namespace PI
open PySem L2 L2.L3
theorem Sim.Cu {T:CT} {st:aa} {G H:Hp} {a:Addr} {u:HO} (s:Sim T st as G H) (q:Rd G a u) (hd:De u=true) (ho:H a=some u∨H a=some (.aC o u)):
  Sim T st as (upd G a (.aC o u)) (upd H a (.aC o u))/\Le G (upd G a (.aC o u)):=by
 have l:Le G (upd G a (.aC o u)):=fun b v e=>by
  by_cases hb:b=a
  ·subst hb
   rw [aj]
   rcases q with q|⟨o',q⟩
   ·rw [e] at q
    cases q
    exact .inr ⟨hd,o,rfl⟩
   ·rw [e] at q
    cases q
    have z:=s.sub.ex e rfl
    rcases ho with ho|ho
    ·rw [ho] at z
     rw [Option.some.inj z] at hd
     cases hd
    ·rw [ho] at z
     exact .inl (by rw [z])
  ·rw [ao hb]
   exact .inl e
 have na:∀{b},b∈as->b≠a:=fun hb z=>by
  subst z
  have:=s.off _ hb
  rcases q with q|⟨o',q⟩<;>(rw [q] at this;cases this)
 refine ⟨⟨s.len,s.nd,fun b v e=> ?_,fun b hb=> ?_,fun n ob b h1 h2=> ?_⟩,l⟩
 ·by_cases hb:b=a
  ·subst hb
   rw [aj] at e⊢
   exact .inl e
  ·rw [ao hb] at e⊢
   exact s.sub b v e
 ·rw [ao (na hb)]
  exact s.off b hb
 ·exact ((s.ob n ob b h1 h2).at (ao (na (List.mem_of_getElem? h2)))).mono (List.prefix_refl _) l
theorem Sim.EX {T:CT} {st:aa} {G H:Hp} {c:Addr} (s:Sim T st as G H) (e:H c=some (.tup us)):Sim T st as (upd G c (.tup us)) H/\Le G (upd G c (.tup us)):=by
 have nc:∀{b},b∈as->b≠c:=fun hb z=>by
  subst z
  obtain ⟨n,hn⟩:=List.mem_iff_getElem?.mp hb
  have hk:n<as.length:=(List.getElem?_eq_some_iff.mp hn).1
  rw [s.len] at hk
  have ob:=s.ob n _ _ (List.getElem?_eq_getElem hk) hn
  cases q:st[n] with
  |lst xs=>
   rw [q] at ob
   obtain ⟨_,z,_⟩:=ob
   rw [e] at z
   cases z
  |dct ks vs=>
   rw [q] at ob
   obtain ⟨_,z,_⟩:=ob
   rcases z with ⟨_,_,_,z⟩|⟨_,_,_,z⟩<;>(rw [e] at z;cases z)
  |ins c ns vs=>
   rw [q] at ob
   obtain ⟨_,_,_,z,_⟩:=ob
   rw [e] at z
   cases z
 have l:Le G (upd G c (.tup us)):=fun b v h=>by
  by_cases hb:b=c
  ·subst hb
   rw [aj]
   rcases s.sub _ _ h with z|⟨_,_,z⟩
   ·rw [e] at z
    exact .inl z
   ·rw [e] at z
    cases z
  ·rw [ao hb]
   exact .inl h
 refine ⟨⟨s.len,s.nd,fun b v h=> ?_,fun b hb=> ?_,fun n ob b h1 h2=>(s.ob n ob b h1 h2).mono (List.prefix_refl _) l⟩,l⟩
 ·by_cases hb:b=c
  ·subst hb
   rw [aj] at h
   exact .inl (e.trans h)
  ·rw [ao hb] at h
   exact s.sub b v h
 ·rw [ao (nc hb)]
  exact s.off b hb
theorem lH {α β:Type} {x:Option α} {y:Option (List α)} {c:List α} (h:(x.bind fun a=>y.map fun b=>a::b)=some c):∃a b,x=some a/\y=some b/\c=a::b:=by
 obtain ⟨a,e1,e2⟩:=Option.bind_eq_some_iff.mp h
 obtain ⟨b,e3,e4⟩:=Option.map_eq_some_iff.mp e2
 exact ⟨a,b,e1,e3,e4.symm⟩
theorem iI:∀{ks:List Val} {kk:List Key},aH ks=some kk->kk.length=ks.length
 |[],kk,h=>by cases h;rfl
 |v::ks,kk,h=>by
  obtain ⟨a,b,_,e2,rfl⟩:=lH (β:=Nat) (show ((bP v).bind fun k=>(aH ks).map fun r=>k::r)=some kk from h)
  simp [iI e2]
theorem iR:∀{ks:List Val} {kk:List (List Key)},a8 ks=some kk->kk.length=ks.length
 |[],kk,h=>by cases h;rfl
 |v::ks,kk,h=>by
  obtain ⟨a,b,_,e2,rfl⟩:=lH (β:=Nat) (show ((cG v).bind fun k=>(a8 ks).map fun r=>k::r)=some kk from h)
  simp [iR e2]
theorem nj:∀{ks:List Val} {kk:List Key} {i:Nat} {v:Val},aH ks=some kk->ks[i]?=some v->∃k,kk[i]?=some k/\bP v=some k
 |[],kk,i,v,_,e=>by simp at e
 |w::ks,kk,i,v,h,e=>by
  obtain ⟨a,b,e1,e2,rfl⟩:=lH (β:=Nat) (show ((bP w).bind fun k=>(aH ks).map fun r=>k::r)=some kk from h)
  cases i with
  |zero=>
   simp at e
   subst e
   exact ⟨a,rfl,e1⟩
  |succ i=>
   obtain ⟨k,h1,h2⟩:=nj (i:=i) e2 (by simpa using e)
   exact ⟨k,by simpa using h1,h2⟩
theorem mJ:∀{ks:List Val} {kk:List (List Key)} {i:Nat} {v:Val},a8 ks=some kk->ks[i]?=some v->∃k,kk[i]?=some k/\cG v=some k
 |[],kk,i,v,_,e=>by simp at e
 |w::ks,kk,i,v,h,e=>by
  obtain ⟨a,b,e1,e2,rfl⟩:=lH (β:=Nat) (show ((cG w).bind fun k=>(a8 ks).map fun r=>k::r)=some kk from h)
  cases i with
  |zero=>
   simp at e
   subst e
   exact ⟨a,rfl,e1⟩
  |succ i=>
   obtain ⟨k,h1,h2⟩:=mJ (i:=i) e2 (by simpa using e)
   exact ⟨k,by simpa using h1,h2⟩
theorem oZ {T:CT} {G:Hp} {v:Val} {k:Key} (h:bP v=some k):Rel T as G v (kV k):=by
 cases v<;>first
  |(cases h;exact rfl)
  |cases h
theorem CS {v:Val} {k:Key} (h:bP v=some k):gP v=v:=by
 cases v<;>first
  |rfl
  |cases h
theorem lQ {T:CT} {G:Hp}:∀{xs:List Val} {kk:List Key},aH xs=some kk->af T as G xs (kk.map kV)
 |[],kk,h=>by cases h;exact rfl
 |v::xs,kk,h=>by
  obtain ⟨a,b,e1,e2,rfl⟩:=lH (β:=Nat) (show ((bP v).bind fun k=>(aH xs).map fun r=>k::r)=some kk from h)
  exact ⟨kV a,b.map kV,rfl,oZ e1,lQ e2⟩
theorem AD {v:Val} {k:List Key} (h:cG v=some k):∃f xs,v= .tup f xs/\aH xs=some k:=by
 cases v<;>first
  |exact ⟨_,_,rfl,h⟩
  |cases h
end PI
namespace PI
open PySem L2 L2.L3
theorem CG {n:Nat} {v:Val} {k:Key} (h:bP v=some k):v.bd n=true:=by
 cases v<;>first|rfl|(simp [bP] at h)
theorem jG {n:Nat}:∀{vs:List Val} {kk:List Key},aH vs=some kk->cK n vs=true
 |[],_,_=>rfl
 |v::r,kk,h=>by
  unfold aH at h
  unfold cK
  cases e:bP v with
  |none=>rw [e] at h;cases h
  |some k=>
   cases e2:aH r with
   |none=>rw [e,e2] at h;cases h
   |some kr=>rw [CG e,jG e2];rfl
theorem A3 {n:Nat} {v:Val} {k:List Key} (h:cG v=some k):v.bd n=true:=by
 cases v with
 |tup fl xs=>unfold Val.bd;exact jG h
 |_=>cases h
theorem kf {n:Nat}:∀{vs:List Val} {kk:List (List Key)},a8 vs=some kk->cK n vs=true
 |[],_,_=>rfl
 |v::r,kk,h=>by
  unfold a8 at h
  unfold cK
  cases e:cG v with
  |none=>rw [e] at h;cases h
  |some k=>
   cases e2:a8 r with
   |none=>rw [e,e2] at h;cases h
   |some kr=>rw [A3 e,kf e2];rfl
mutual
theorem Rel.bd {T:CT} {as:List Addr} {G:Hp}:∀{v:Val} {u:L2.V},Rel T as G v u->v.bd as.length=true
 | .non,_,_=>rfl
 | .bl _,_,_=>rfl
 | .int _,_,_=>rfl
 | .str _,_,_=>rfl
 | .tup _ _,_,⟨_,_,_,_,r⟩=>by unfold Val.bd;exact af.bd r
 | .lst _,_,⟨_,_,_,_,r⟩=>by unfold Val.bd;exact af.bd r
 | .dct ks _,_,⟨_,us,_,q,r⟩=>by
  unfold Val.bd
  rw [af.bd r,Bool.and_true]
  rcases q with ⟨kk,e,_,_⟩|⟨kk,e,_,_⟩
  ·exact jG e
  ·exact kf e
 | .obj _ _ _,_,⟨_,_,_,_,r,_⟩=>by unfold Val.bd;exact af.bd r
 | .ref _,_,⟨_,e,_⟩=>by unfold Val.bd;exact decide_eq_true (List.getElem?_eq_some_iff.mp e).1
theorem af.bd {T:CT} {as:List Addr} {G:Hp}:∀{vs:List Val} {us:List L2.V},af T as G vs us->cK as.length vs=true
 |[],_,_=>rfl
 |_::_,_,⟨_,_,_,h,r⟩=>by unfold cK;rw [Rel.bd h,af.bd r];rfl
end
mutual
theorem Rel.cut {T:CT} {as:List Addr} {G:Hp} {n:Nat}:∀{v:Val} {u:L2.V},v.bd n=true->Rel T as G v u->Rel T (as.take n) G v u
 | .non,_,_,h=>h
 | .bl _,_,_,h=>h
 | .int _,_,_,h=>h
 | .str _,_,_,h=>h
 | .tup _ _,_,b,⟨a,us,e,q,r⟩=>⟨a,us,e,q,af.cut (by unfold Val.bd at b;exact b) r⟩
 | .lst _,_,b,⟨a,us,e,q,r⟩=>⟨a,us,e,q,af.cut (by unfold Val.bd at b;exact b) r⟩
 | .dct _ _,_,b,⟨a,us,e,q,r⟩=>⟨a,us,e,q,af.cut (by unfold Val.bd at b;exact (Bool.and_eq_true _ _▸b).2) r⟩
 | .obj _ _ _,_,b,⟨a,us,e,n,r,q⟩=>⟨a,us,e,n,af.cut (by unfold Val.bd at b;exact b) r,q⟩
 | .ref k,_,b,⟨a,e,q⟩=>⟨a,by
  unfold Val.bd at b
  rw [List.getElem?_take_of_lt (of_decide_eq_true b)]
  exact e,q⟩
theorem af.cut {T:CT} {as:List Addr} {G:Hp} {n:Nat}:∀{vs:List Val} {us:List L2.V},cK n vs=true->af T as G vs us->af T (as.take n) G vs us
 |[],_,_,h=>h
 |_::_,_,b,⟨u,t,e,h,r⟩=>⟨u,t,e,Rel.cut (by unfold cK at b;exact (Bool.and_eq_true _ _▸b).1) h,af.cut (by unfold cK at b;exact (Bool.and_eq_true _ _▸b).2) r⟩
end
open Classical in
noncomputable def de (G H:Hp) (as:List Addr) (n x:Nat):Hp:=fun b=>if b∈as.drop n/\as[x]?≠some b then H b else G b
section
variable {T:CT} {st:aa} {as:List Addr} {G H:Hp} {n x:Nat}
theorem rG {a:Addr} {k:Nat} (hk:n<=k) (hx:k≠x) (nd:as.Nodup) (e:as[k]?=some a):de G H as n x a=H a:=by
 unfold de
 rw [if_pos]
 refine ⟨?_,fun z=>hx (oP nd e z)⟩
 rw [List.mem_iff_getElem?]
 exact ⟨k-n,by rw [List.getElem?_drop,show n+(k-n)=k by lia];exact e⟩
theorem bf (s:Sim T st as G H):Le G (de G H as n x):=fun a o e=>by
 unfold de
 rw [if_neg]
 ·exact .inl e
 ·rintro ⟨h,_⟩
  rw [s.off a (List.mem_of_mem_drop h)] at e
  cases e
theorem xY (s:Sim T st as G H):Le (de G H as n x) H:=fun a o e=>by
 unfold de at e
 split at e
 ·exact .inl e
 ·exact s.sub a o e
theorem take_drop {α:Type} {l:List α} (nd:l.Nodup) {n:Nat} {a:α} (h1:a∈l.take n) (h2:a∈l.drop n):False:=by
 rw [←List.take_append_drop n l] at nd
 exact (List.nodup_append.mp nd).2.2 a h1 a h2 rfl
theorem xR (s:Sim T st as G H):∀a∈as.take n,de G H as n x a=none:=fun a ha=>by
 unfold de
 rw [if_neg fun z=>take_drop s.nd ha z.1]
 exact s.off a (List.mem_of_mem_take ha)
end
mutual
theorem lV {T:CT} {as bs:List Addr} {G D:Hp} (l:Le G D) {f:Nat->Option Val} (hf:∀k v' u,f k=some v'->Rel T as G (.ref k) u->Rel T bs D v' u):∀{v v':Val} {u:L2.V},v.sub f=some v'->Rel T as G v u->Rel T bs D v' u
 | .non,_,_,e,h=>by cases e;exact h
 | .bl _,_,_,e,h=>by cases e;exact h
 | .int _,_,_,e,h=>by cases e;exact h
 | .str _,_,_,e,h=>by cases e;exact h
 | .tup _ _,_,_,e,⟨a,us,e1,q,r⟩=>by
  unfold Val.sub at e
  obtain ⟨ys,e2,rfl⟩:=Option.map_eq_some_iff.mp e
  exact ⟨a,us,e1,k9 l q,bJ l hf e2 r⟩
 | .lst _,_,_,e,⟨a,us,e1,q,r⟩=>by
  unfold Val.sub at e
  obtain ⟨ys,e2,rfl⟩:=Option.map_eq_some_iff.mp e
  exact ⟨a,us,e1,bT l q,bJ l hf e2 r⟩
 | .dct _ _,_,_,e,⟨a,us,e1,q,r⟩=>by
  unfold Val.sub at e
  obtain ⟨ys,e2,rfl⟩:=Option.map_eq_some_iff.mp e
  exact ⟨a,us,e1,p8 l q,bJ l hf e2 r⟩
 | .obj c _ _,_,_,e,⟨a,us,e1,n,r,q⟩=>by
  unfold Val.sub at e
  obtain ⟨ys,e2,rfl⟩:=Option.map_eq_some_iff.mp e
  refine ⟨a,us,e1,n,bJ l hf e2 r, ?_⟩
  split at q
  ·rename_i h
   rw [if_pos h]
   obtain ⟨dx,q1,q2⟩:=q
   exact ⟨dx,l.ex q1 rfl,q2.imp id fun z900=>by obtain ⟨d,q3,q4⟩:=z900;exact ⟨d,q3,l.ex q4 rfl⟩⟩
  ·rename_i h
   rw [if_neg h]
   exact q.imp fun dx q=>l.ex q rfl
 | .ref k,_,_,e,h=>by
  unfold Val.sub at e
  exact hf k _ _ e h
theorem bJ {T:CT} {as bs:List Addr} {G D:Hp} (l:Le G D) {f:Nat->Option Val} (hf:∀k v' u,f k=some v'->Rel T as G (.ref k) u->Rel T bs D v' u):∀{vs vs':List Val} {us:List L2.V},subs f vs=some vs'->af T as G vs us->af T bs D vs' us
 |[],_,_,e,h=>by cases e;exact h
 |v::r,_,_,e,⟨u,t,e1,h,q⟩=>by
  unfold subs at e
  cases e2:v.sub f with
  |none=>rw [e2] at e;cases e
  |some v'=>
   cases e3:subs f r with
   |none=>rw [e2,e3] at e;cases e
   |some r'=>
    rw [e2,e3] at e
    cases e
    exact ⟨u,t,e1,lV l hf e2 h,bJ l hf e3 q⟩
end
theorem fu {T:CT} {st:aa} {as:List Addr} {G H:Hp} {n x:Nat} (s:Sim T st as G H):∀(d k:Nat) (v':Val) (u:L2.V),ja st n x d k=some v'->Rel T as G (.ref k) u->Rel T (as.take n) (de G H as n x) v' u:=by
 intro d
 induction d with
 |zero=>
  intro k v' u e ⟨a,ea,eu⟩
  by_cases hk:k<n
  ·cases (show some _=some v' from (if_pos hk).symm.trans e)
   exact ⟨a,by rw [List.getElem?_take_of_lt hk];exact ea,eu⟩
  ·cases (show none=some v' from (if_neg hk).symm.trans e)
 |succ d ih=>
  intro k v' u e ⟨a,ea,eu⟩
  by_cases hk:k<n
  ·cases (show some _=some v' from (if_pos hk).symm.trans e)
   exact ⟨a,by rw [List.getElem?_take_of_lt hk];exact ea,eu⟩
  ·replace e:=(if_neg hk).symm.trans e
   by_cases hx:k=x
   ·cases (show none=some v' from (if_pos hx).symm.trans e)
   replace e:=(if_neg hx).symm.trans e
   have lk:k<st.length:=by rw [←s.len];exact (List.getElem?_eq_some_iff.mp ea).1
   have ho:st[k]?=some st[k]:=List.getElem?_eq_getElem lk
   have ob:=s.ob k _ a ho ea
   have ga:de G H as n x a=H a:=rG (by lia) hx s.nd ea
   rw [ho] at e
   generalize st[k]=o at e ob
   subst eu
   cases o with
   |lst xs=>
    obtain ⟨us,q,r⟩:=ob
    obtain ⟨ys,e2,rfl⟩:=Option.map_eq_some_iff.mp e
    exact ⟨a,us,rfl, .inl (.inl (ga.trans q)),bJ (bf s) ih e2 r⟩
   |dct ks vs=>
    obtain ⟨us,q,r⟩:=ob
    obtain ⟨ys,e2,rfl⟩:=Option.map_eq_some_iff.mp e
    refine ⟨a,us,rfl, ?_,bJ (bf s) ih e2 r⟩
    have q2:=q.at
    unfold fb Rd at q2⊢
    rw [ga]
    exact q2
   |ins c ns vs=>
    obtain ⟨dx,us,x0,q,m,r⟩:=ob
    obtain ⟨ys,e2,rfl⟩:=Option.map_eq_some_iff.mp e
    exact ⟨a,us,rfl,m,bJ (bf s) ih e2 r,by rw [if_neg (by rw [x0];decide)];exact ⟨dx,ga.trans q⟩⟩
theorem D8 {T:CT} {as:List Addr} {G D H:Hp} {n:Nat} {a:Addr} {o:Ob} (l:Le G D) (b:o.bd n=true) (h:dW T as G H a o):dW T (as.take n) D H a o:=by
 cases o with
 |lst xs=>
  obtain ⟨us,q,r⟩:=h
  exact ⟨us,q,(af.cut b r).mono (List.prefix_refl _) l⟩
 |dct ks vs=>
  obtain ⟨us,q,r⟩:=h
  exact ⟨us,q,(af.cut (by unfold Ob.bd at b;exact (Bool.and_eq_true _ _▸b).2) r).mono (List.prefix_refl _) l⟩
 |ins c ns vs=>
  obtain ⟨dx,us,x0,q,m,r⟩:=h
  exact ⟨dx,us,x0,q,m,(af.cut b r).mono (List.prefix_refl _) l⟩
theorem dW.bd {T:CT} {as:List Addr} {G H:Hp} {a:Addr} {o:Ob} (h:dW T as G H a o):o.bd as.length=true:=by
 cases o with
 |lst xs=>
  obtain ⟨us,q,r⟩:=h
  exact r.bd
 |dct ks vs=>
  obtain ⟨us,q,r⟩:=h
  show (cK _ ks&&cK _ vs)=true
  rw [r.bd,Bool.and_true]
  rcases q with ⟨kk,e,_,_⟩|⟨kk,e,_,_⟩
  ·exact jG e
  ·exact kf e
 |ins c ns vs=>
  obtain ⟨dx,us,x0,q,m,r⟩:=h
  exact r.bd
theorem Sim.cut {T:CT} {st st':aa} {as':List Addr} {G G' H H':Hp} (s:Sim T st as G H) (s':Sim T st' as' G' H') (p:as<+:as') (o:Old st st') (x:Nat):as'.take st.length=as/\Sim T (st'.take st.length) as (de G' H' as' st.length x) H':=by
 have e:as'.take st.length=as:=by
  obtain ⟨t,rfl⟩:=p
  rw [←s.len,List.take_left']
  rfl
 refine ⟨e, ?_,s.nd,xY s',fun a ha=> ?_,fun n ob a h1 h2=> ?_⟩
 ·rw [s.len,List.length_take,Nat.min_eq_left o.1]
 ·rw [←e] at ha
  exact xR s' a ha
 ·have hn:n<st.length:=by
   have:=(List.getElem?_eq_some_iff.mp h1).1
   rw [List.length_take] at this
   lia
  rw [List.getElem?_take_of_lt hn] at h1
  have b:ob.bd st.length=true:=by
   rcases o.2 n ob hn h1 with z|z
   ·rw [←s.len]
    exact (s.ob n ob a z h2).bd
   ·exact z
  have:=D8 (n:=st.length) (bf (n:=st.length) (x:=x) s') b (s'.ob n ob a h1 (jF p h2))
  rw [e] at this
  exact this
section
variable {T:CT} {P:Pg} {st st':aa} {as as':List Addr} {G G' H H':Hp} {X:XK}
theorem kY {v:Val} {u:L2.V} {Q:VK} (s:Sim T st as G H) (s':Sim T st' as' G' H') (p:as<+:as') (l:Le G G') (r:Rel T as' G' v u)
  (h:ae T as G (fin P st v st') (fun v _ as2 G2 H2=>∀u,Rel T as2 G2 v u->Q u H2) X):Q u H':=by
 unfold fin at h
 split at h
 ·rename_i o
  cases e:isRef v with
  |none=>
   rw [e] at h
   unfold xT at h
   cases e2:v.aC st' st.length st'.length with
   |none=>rw [e2] at h;exact h.elim
   |some v'=>
    rw [e2] at h
    obtain ⟨c1,c2⟩:=Sim.cut s s' p o st'.length
    refine h as _ H' (List.prefix_refl _) (l.trans (bf s')) c2 u ?_
    have:=lV (bf s') (fu s' 6) e2 r
    rw [c1] at this
    exact this
  |some k=>
   have ev:v= .ref k:=by
    cases v<;>first|(cases e;rfl)|cases e
   subst ev
   rw [e] at h
   replace h:ae T as G (if k<st.length then .ok (.ref k) (st'.take st.length) else qy P st.length k st' st'[k]?) (fun v _ as2 G2 H2=>∀u,Rel T as2 G2 v u->Q u H2) X:=h
   obtain ⟨a,ea,eu⟩:=r
   split at h
   ·rename_i hk
    obtain ⟨c1,c2⟩:=Sim.cut s s' p o st'.length
    refine h as _ H' (List.prefix_refl _) (l.trans (bf s')) c2 u ⟨a, ?_,eu⟩
    rw [←c1,List.getElem?_take_of_lt hk]
    exact ea
   ·rename_i hk
    obtain ⟨c1,c2⟩:=Sim.cut s s' p o k
    have lk:k<st'.length:=by rw [←s'.len];exact (List.getElem?_eq_some_iff.mp ea).1
    have ho:st'[k]?=some st'[k]:=List.getElem?_eq_getElem lk
    have ob:=s'.ob k _ a ho ea
    rw [ho] at h
    generalize st'[k]=o' at h ob
    have ga:de G' H' as' st.length k a=none:=by
     unfold de
     rw [if_neg fun z=>z.2 ea]
     exact s'.off a (List.mem_of_getElem? ea)
    have na:a∉as:=fun z=>by
     rw [←c1] at z
     obtain ⟨i,hi⟩:=List.mem_iff_getElem?.mp z
     have li:=(List.getElem?_eq_some_iff.mp hi).1
     rw [List.length_take] at li
     rw [List.getElem?_take_of_lt (by lia)] at hi
     have:=oP s'.nd hi ea
     lia
    have put:∀{o2:Ob},dW T (as++[a]) (de G' H' as' st.length k) H' a o2->Sim T (st'.take st.length++[o2]) (as++[a]) (de G' H' as' st.length k) H':=fun {o2} q=>by
     refine ⟨by simp [c2.len], ?_,c2.sub,fun b hb=> ?_,fun i ob2 b h1 h2=> ?_⟩
     ·rw [List.nodup_append]
      refine ⟨s.nd,by simp,fun b hb c hc=> ?_⟩
      rw [List.mem_singleton.mp hc]
      exact fun z=>na (z▸hb)
     ·rcases List.mem_append.mp hb with z|z
      ·exact c2.off b z
      ·rw [List.mem_singleton.mp z]
       exact ga
     ·by_cases hi:i<(st'.take st.length).length
      ·rw [List.getElem?_append_left hi] at h1
       rw [List.getElem?_append_left (by rw [c2.len];exact hi)] at h2
       exact (c2.ob i ob2 b h1 h2).mono (List.prefix_append _ _) (Le.refl _)
      ·have z:i=(st'.take st.length).length:=by
        have:=(List.getElem?_eq_some_iff.mp h1).1
        rw [List.length_append] at this
        simp at this hi⊢
        lia
       rw [z,List.getElem?_append_right (Nat.le_refl _)] at h1
       rw [z,←c2.len,List.getElem?_append_right (Nat.le_refl _)] at h2
       simp at h1 h2
       subst h1 h2
       exact q
    have told:Rel T (as++[a]) (de G' H' as' st.length k) (.ref st.length) u:=⟨a,by
     rw [←s.len,List.getElem?_append_right (Nat.le_refl _)]
     simp,eu⟩
    cases o' with
    |lst xs=>
     replace h:ae T as G ((R.ak (aV st' st.length k xs) st').bind fun ys st'=> .ok (.ref st.length) (st'.take st.length++[.lst ys])) (fun v _ as2 G2 H2=>∀u,Rel T as2 G2 v u->Q u H2) X:=h
     cases e2:aV st' st.length k xs with
     |none=>rw [e2] at h;exact h.elim
     |some ys=>
      rw [e2] at h
      obtain ⟨us,q,r⟩:=ob
      have r2:=bJ (bf s') (fu s' 6) e2 r
      rw [c1] at r2
      exact h (as++[a]) _ H' (List.prefix_append _ _) (l.trans (bf s')) (put ⟨us,q,r2.mono (List.prefix_append _ _) (Le.refl _)⟩) u told
    |dct ks vs=>
     replace h:ae T as G ((R.ak (aV st' st.length k vs) st').bind fun vs st'=> .ok (.ref st.length) (st'.take st.length++[.dct ks vs])) (fun v _ as2 G2 H2=>∀u,Rel T as2 G2 v u->Q u H2) X:=h
     cases e2:aV st' st.length k vs with
     |none=>rw [e2] at h;exact h.elim
     |some ys=>
      rw [e2] at h
      obtain ⟨us,q,r⟩:=ob
      have r2:=bJ (bf s') (fu s' 6) e2 r
      rw [c1] at r2
      exact h (as++[a]) _ H' (List.prefix_append _ _) (l.trans (bf s')) (put ⟨us,q,r2.mono (List.prefix_append _ _) (Le.refl _)⟩) u told
    |ins c ns vs=>
     replace h:ae T as G (if eU P c=true then .ok (.ref k) st' else (R.ak (aV st' st.length st'.length vs) st').bind fun vs st'=> .ok (.obj c ns vs) (st'.take st.length)) (fun v _ as2 G2 H2=>∀u,Rel T as2 G2 v u->Q u H2) X:=h
     split at h
     ·exact h as' G' H' p l s' u ⟨a,ea,eu⟩
     ·cases e2:aV st' st.length st'.length vs with
      |none=>rw [e2] at h;exact h.elim
      |some ys=>
       rw [e2] at h
       obtain ⟨dx,us,x0,q,m,r⟩:=ob
       obtain ⟨d1,d2⟩:=Sim.cut s s' p o st'.length
       have kx:k≠st'.length:=by lia
       have r2:=bJ (bf (n:=st.length) (x:=st'.length) s') (fu s' 6) e2 r
       rw [d1] at r2
       refine h as _ H' (List.prefix_refl _) (l.trans (bf s')) d2 u ⟨a,us,eu,m,r2, ?_⟩
       rw [if_neg (by rw [x0];decide)]
       exact ⟨dx,(rG (by lia) kx s'.nd ea).trans q⟩
 ·exact h as' G' H' p l s' u r
theorem B2 {x:Exn} {cls:Value} {dx:Option Addr} {Q:Val->aa->List Addr->Hp->Hp->Prop} (s:Sim T st as G H) (s':Sim T st' as' G' H') (p:as<+:as') (l:Le G G') (r:Et T as' G' x cls dx)
  (h:ae T as G (yS st x st') Q X):X cls dx H':=by
 unfold yS at h
 split at h
 ·rename_i o
  cases e2:aV st' st.length st'.length x.vs with
  |none=>rw [e2] at h;exact h.elim
  |some ys=>
   rw [e2] at h
   obtain ⟨d1,d2⟩:=Sim.cut s s' p o st'.length
   refine h as _ H' cls dx (List.prefix_refl _) (l.trans (bf s')) d2 ?_
   obtain ⟨r1,r0,r2⟩:=r
   refine ⟨r1,r0,r2.imp (fun ⟨q1,q2,q3⟩=>⟨q1,q2, ?_⟩) fun ⟨d,us,q1,q2,q3,q4⟩=>⟨d,us,q1,(bf s').ex q2 rfl,q3, ?_⟩⟩
   ·rw [q3] at e2
    cases e2
    rfl
   ·have r2:=bJ (bf (n:=st.length) (x:=st'.length) s') (fu s' 6) e2 q4
    rw [d1] at r2
    exact r2
 ·exact h as' G' H' cls dx p l s' r
theorem Fo {v:Val} {u:L2.V} {Q:Val->aa->List Addr->Hp->Hp->Prop} (s:Sim T st as G H) (s':Sim T st' as' G' H') (p:as<+:as') (l:Le G G') (r:Rel T as' G' v u) (h:ae T as G (se st v st') Q X):
  ∃v2 st2 as2 G2,Sim T st2 as2 G2 H'/\Rel T as2 G2 v2 u/\Q v2 st2 as2 G2 H':=by
 unfold se at h
 split at h
 ·rename_i o
  cases e2:v.aC st' st.length st'.length with
  |none=>rw [e2] at h;exact h.elim
  |some v'=>
   rw [e2] at h
   obtain ⟨c1,c2⟩:=Sim.cut s s' p o st'.length
   have r2:=lV (bf (n:=st.length) (x:=st'.length) s') (fu s' 6) e2 r
   rw [c1] at r2
   exact ⟨v',_,as,_,c2,r2,h as _ H' (List.prefix_refl _) (l.trans (bf s')) c2⟩
 ·exact ⟨v,st',as',G',s',r,h as' G' H' p l s'⟩
end
end PI
namespace PI
open PySem L2 L2.L3 L2.L4
noncomputable def tE (T:CT) (P:Pg) (cl:ar) (E:XS) (e:PI.E):TE:=fun σ H Q=>∃env st as G,Sim T st as G H/\aJ T as G env σ/\ae T as G (e.run P cl env st) (fun v _ as' G' H'=>∀u,Rel T as' G' v u->Q u H') (E σ)
noncomputable def tT (T:CT) (P:Pg) (cl:ar) (E:XS) (e:PI.E):TT:=fun σ H Q=>∃env st as G,Sim T st as G H/\aJ T as G env σ/\ae T as G (runC P cl (some e) env st) (fun b _ _ _ H'=>Q b H') (E σ)
noncomputable def dJ (T:CT) (P:Pg) (cl:ar) (E:XS) (es:List PI.E):TA:=fun σ H Q=>∃env st as G,Sim T st as G H/\aJ T as G env σ/\ae T as G (aS P cl es env st) (fun vs _ as' G' H'=>∀us,af T as' G' vs us->Q us H') (E σ)
theorem PE.mono {X:Cx} {e:Expr} {t t':TE} (h:PE X e t) (k:∀σ H Q,t' σ H Q->t σ H Q):PE X e t':=fun pins s σ H Q I q=>h pins s σ H Q I (k σ H Q q)
theorem PT.mono {X:Cx} {e:Expr} {t t':TT} (h:PT X e t) (k:∀σ H Q,t' σ H Q->t σ H Q):PT X e t':=fun pins s σ H Q I q=>h pins s σ H Q I (k σ H Q q)
theorem PA.mono {X:Cx} {t t':TA} (h:PA X es t) (k:∀σ H Q,t' σ H Q->t σ H Q):PA X es t':=fun pos pins s σ H Q I q=>h pos pins s σ H Q I (k σ H Q q)
section
variable {T:CT} {P:Pg} {cl:ar} {E:XS} {X:Cx} {pos:Pos}
theorem az {α:Type} {e:PI.E} {env:Env} {st:aa} {G H:Hp} {σ:St} {f:Val->aa->R α} {Q:α->aa->List Addr->Hp->Hp->Prop} {K:VK} (s:Sim T st as G H) (er:aJ T as G env σ)
  (h:ae T as G ((e.run P cl env st).bind f) Q (E σ))
  (k:∀v st1 as1 G1 H1 u,Sim T st1 as1 G1 H1->aJ T as1 G1 env σ->Rel T as1 G1 v u->as<+:as1->Le G G1->ae T as1 G1 (f v st1) Q (E σ)->K u H1):tE T P cl E e σ H K:=
 ⟨env,st,as,G,s,er,h.bind.imp fun v st1 as1 G1 H1 p l s1 q u r=>k v st1 as1 G1 H1 u s1 (er.mono p l) r p l q⟩
theorem cy {α:Type} {es:List PI.E} {env:Env} {st:aa} {G H:Hp} {σ:St} {f:List Val->aa->R α} {Q:α->aa->List Addr->Hp->Hp->Prop} {K:List L2.V->Hp->Prop} (s:Sim T st as G H) (er:aJ T as G env σ)
  (h:ae T as G ((aS P cl es env st).bind f) Q (E σ))
  (k:∀vs st1 as1 G1 H1 us,Sim T st1 as1 G1 H1->aJ T as1 G1 env σ->af T as1 G1 vs us->as<+:as1->Le G G1->ae T as1 G1 (f vs st1) Q (E σ)->K us H1):dJ T P cl E es σ H K:=
 ⟨env,st,as,G,s,er,h.bind.imp fun v st1 as1 G1 H1 p l s1 q u r=>k v st1 as1 G1 H1 u s1 (er.mono p l) r p l q⟩
theorem ae.ak {α β:Type} {G:Hp} {o:Option α} {st:aa} {f:α->aa->R β} {Q:β->aa->List Addr->Hp->Hp->Prop} {X:XK} (h:ae T as G ((R.ak o st).bind f) Q X):∃a,o=some a/\ae T as G (f a st) Q X:=by
 cases o with
 |none=>exact h.elim
 |some a=>exact ⟨a,rfl,h⟩
theorem ae.dP {α:Type} {G:Hp} {o:Option α} {st:aa} {Q:α->aa->List Addr->Hp->Hp->Prop} {X:XK} (h:ae T as G (R.ak o st) Q X):∃a,o=some a/\ae T as G (.ok a st) Q X:=by
 cases o with
 |none=>exact h.elim
 |some a=>exact ⟨a,rfl,h⟩
theorem ae.iff {α:Type} {G:Hp} {c:Prop} {r:R α} {Q:α->aa->List Addr->Hp->Hp->Prop} {X:XK} (h:ae T as G (iff c r) Q X):c/\ae T as G r Q X:=by
 unfold PI.iff at h
 split at h
 ·rename_i z
  exact ⟨z,h⟩
 ·exact h.elim
theorem Fh {i:Int} {j:Nat}:PE X (.Constant (.int i) j pos) (tE T P cl E (.const (.int i))):=PE.mono DR fun σ H Q z903=>by obtain ⟨env,st,as,G,s,er,h⟩:=z903;exact h.ok s _ rfl
theorem IX {i:Bool} {j:Nat}:PE X (.Constant (.bool i) j pos) (tE T P cl E (.const (.bl i))):=PE.mono E2 fun σ H Q z903=>by obtain ⟨env,st,as,G,s,er,h⟩:=z903;exact h.ok s _ rfl
theorem E8 {i:Str} {j:Nat}:PE X (.Constant (.str i) j pos) (tE T P cl E (.const (.str i))):=PE.mono Cz fun σ H Q z903=>by obtain ⟨env,st,as,G,s,er,h⟩:=z903;exact h.ok s _ rfl
theorem Gs {j:Nat}:PE X (.Constant .none j pos) (tE T P cl E (.const .non)):=PE.mono Ct fun σ H Q z903=>by obtain ⟨env,st,as,G,s,er,h⟩:=z903;exact h.ok s _ rfl
theorem Gk {i:Nat} {x:Str} (hN:X.N[i]?=some x) (hv:uH X.env.scope x) (hd:(x==("__debug__":Str))=false) (hcd:(x==("__classdict__":Str))=false):PE X (.Name x pos) (tE T P cl E (.var i)):=
 PE.mono (C1 hN hv hd hcd) fun σ H Q z903=>by
  obtain ⟨env,st,as,G,s,er,h⟩:=z903
  obtain ⟨v,e,h⟩:=ae.dP h
  have e':env[i]?=some (some v):=by
   cases q:env[i]? with
   |none=>rw [q] at e;cases e
   |some o=>rw [q] at e;exact congrArg some e
  obtain ⟨u,e1,r⟩:=er.2 i v e'
  exact ⟨u,e1,h.ok s u r⟩
theorem EO {a b:Expr} {op:Operator} {r:R2} (ho:aK X (binaryOp op) r) (ha:PE X a (tE T P cl E ia)) (hb:PE X b (tE T P cl E ib))
  (k:∀{st as G H x y u w} {Q:VK} {Z:XK},Sim T st as G H->dg T as G H (res st x) u->dg T as G H (res st y) w->ae T as G (eh op (res st x) (res st y) st) (fun v _ as' G' H'=>∀u,Rel T as' G' v u->Q u H') Z->r u w H Q):PE X (.BinOp a op b pos) (tE T P cl E (.bin op ia ib)):=
 PE.mono (Fc ho ha hb) fun σ H Q z903=>by
  obtain ⟨env,st,as,G,s,er,h⟩:=z903
  dsimp only [PI.E.run] at h
  refine az s er h fun x st1 as1 G1 H1 u s1 er1 r1 p1 l1 h=> ?_
  refine az s1 er1 h fun y st2 as2 G2 H2 w s2 er2 r2 p2 l2 h=> ?_
  exact k s2 (bc s2 (r1.mono p2 l2)) (bc s2 r2) h
theorem Gd {a b:Expr} {op:CmpOp} {r:R2} (ho:aK X (compareOp op) r) (hm:behindInMarks op b=false) (ha:PE X a (tE T P cl E ia)) (hb:PE X b (tE T P cl E ib))
  (k:∀{st as G H x y u w} {Q:VK} {Z:XK},Sim T st as G H->dg T as G H (res st x) u->dg T as G H (res st y) w->ae T as G (cI (bw op (res st x) (res st y) st)) (fun v _ as' G' H'=>∀u,Rel T as' G' v u->Q u H') Z->r u w H Q):PE X (.Compare a [op] [b] pos) (tE T P cl E (.cmp op ia ib)):=
 PE.mono (B6 ho ha hb hm) fun σ H Q z903=>by
  obtain ⟨env,st,as,G,s,er,h⟩:=z903
  dsimp only [PI.E.run] at h
  refine az s er h fun x st1 as1 G1 H1 u s1 er1 r1 p1 l1 h=> ?_
  refine az s1 er1 h fun y st2 as2 G2 H2 w s2 er2 r2 p2 l2 h=> ?_
  exact k s2 (bc s2 (r1.mono p2 l2)) (bc s2 r2) h
end
end PI
namespace PI
open PySem L2 L2.L3 L2.L4 PySem.SeqAt
noncomputable def nX (f:Val->Val->Option Bool) (xs ys:List Val) (j:Nat):Bool:=(f (xs.getD j .non) (ys.getD j .non)).getD false
theorem all_succ (n:Nat) (e:Nat->Bool):(List.range (n+1)).all e=(e 0&&(List.range n).all fun j=>e (j+1)):=by
 rw [List.range_succ_eq_map,List.all_cons,List.all_map]
 rfl
theorem cw (f:Val->Val->Option Bool):∀(xs ys:List Val) (b:Bool),cv f xs ys=some b->
  b=((List.range (min xs.length ys.length)).all (nX f xs ys)&&xs.length==ys.length)/\∀(j:Nat) x y,xs[j]?=some x->ys[j]?=some y->f x y=some (nX f xs ys j)
 |[],[],b,h=>by
  cases h
  exact ⟨rfl,fun j x y e=>by simp at e⟩
 |[],y::ys,b,h=>by
  cases h
  exact ⟨by simp,fun j x y e=>by simp at e⟩
 |x::xs,[],b,h=>by
  cases h
  exact ⟨by simp,fun j x y e e'=>by simp at e'⟩
 |x::xs,y::ys,b,h=>by
  unfold cv at h
  cases e1:f x y with
  |none=>rw [e1] at h;cases h
  |some c=>
   cases e2:cv f xs ys with
   |none=>rw [e1,e2] at h;cases h
   |some c'=>
    rw [e1,e2] at h
    cases h
    obtain ⟨i1,i2⟩:=cw f xs ys c' e2
    have z:∀j,nX f (x::xs) (y::ys) (j+1)=nX f xs ys j:=fun j=>rfl
    have z0:nX f (x::xs) (y::ys) 0=c:=by
     show (f x y).getD false=c
     rw [e1]
     rfl
    refine ⟨?_,fun j x' y' ex ey=> ?_⟩
    ·rw [show min (x::xs).length (y::ys).length=min xs.length ys.length+1 by simp [Nat.succ_min_succ],all_succ,z0,i1]
     simp only [z,List.length_cons,Bool.and_assoc]
     congr 2
     rw [Bool.eq_iff_iff]
     simp
    ·cases j with
     |zero=>
      simp at ex ey
      subst ex ey
      rw [z0]
      exact e1
     |succ j=>
      rw [z]
      exact i2 j x' y' (by simpa using ex) (by simpa using ey)
theorem af.get {T:CT} {G:Hp}:∀{vs:List Val} {us:List L2.V} {j:Nat} {v:Val},af T as G vs us->vs[j]?=some v->∃u,us[j]?=some u/\Rel T as G v u
 |[],_,_,_,_,e=>by simp at e
 |_::_,_,0,_,⟨u,t,e1,h,r⟩,e=>by
  simp at e
  subst e e1
  exact ⟨u,rfl,h⟩
 |_::_,_,j+1,_,⟨u,t,e1,h,r⟩,e=>by
  subst e1
  simpa using af.get r (by simpa using e)
theorem af.length {T:CT} {G:Hp}:∀{vs:List Val} {us:List L2.V},af T as G vs us->vs.length=us.length
 |[],_,h=>by
  cases h
  rfl
 |_::_,_,⟨u,t,e1,h,r⟩=>by
  subst e1
  rw [List.length_cons,List.length_cons,af.length r]
section
variable {T:CT} {X:Cx} {pins:List (Addr×Obj)} {σ:St} {as:List Addr} {G H:Hp} {s:Shared}
end
inductive fw (f:List Val->List Val->Option Bool):Val->Val->Bool->Prop
 |non:fw f .non .non true
 |bl (a c:Bool):fw f (.bl a) (.bl c) (a==c)
 |int (a c:Int):fw f (.int a) (.int c) (a==c)
 |str (a c:Str):fw f (.str a) (.str c) (decide (a=c))
 |is (a:Int) (c:Str):fw f (.int a) (.str c) false
 |si (a:Str) (c:Int):fw f (.str a) (.int c) false
 |tup (p q:Bool) (xs ys:List Val) (b:Bool) (h:f xs ys=some b):fw f (.tup p xs) (.tup q ys) b
 |lst (xs ys:List Val) (b:Bool) (h:f xs ys=some b):fw f (.lst xs) (.lst ys) b
theorem fF {f:List Val->List Val->Option Bool} {v w:Val} {b:Bool} (e:CD f v w=some b):fw f v w b:=by
 cases v with
 |non=>cases w<;>cases e;exact .non
 |bl a=>cases w<;>cases e;exact .bl _ _
 |int a=>
  cases w<;>cases e
  ·exact .int _ _
  ·exact .is _ _
 |str a=>
  cases w<;>cases e
  ·exact .si _ _
  ·exact .str _ _
 |tup p xs=>cases w with
  |tup q ys=>exact .tup _ _ _ _ _ e
  |_=>cases e
 |lst xs=>cases w with
  |lst ys=>exact .lst _ _ _ e
  |_=>cases e
 |_=>cases e
section
variable {T:CT} {X:Cx} {pins:List (Addr×Obj)} {σ:St} {as:List Addr} {G H:Hp} {s:Shared}
theorem nG (I:Inv X pins σ H s) (hK:T.K=X.K) (l:Le G H) {f:List Val->List Val->Option Bool}
  (hf:∀xs ys us b,f xs ys=some b->af T as G xs us->af T as G ys us->b=true) {v w:Val} {u:L2.V} {b:Bool} (c:fw f v w b) (r1:Rel T as G v u) (r2:Rel T as G w u):b=true:=by
 cases c with
 |non=>rfl
 |bl a c=>cases r1;cases r2;exact beq_self_eq_true _
 |int a c=>cases r1;cases r2;exact beq_self_eq_true _
 |str a c=>cases r1;cases r2;exact decide_eq_true rfl
 |is a c=>cases r1;cases r2
 |si a c=>cases r1;cases r2
 |tup p q xs ys b e=>
  obtain ⟨a,us,rfl,h1,h2⟩:=r1
  obtain ⟨a',us',e',h3,h4⟩:=r2
  cases e'
  cases (I.fS (bh l h1) (bh l h3):us=us')
  exact hf _ _ _ _ e h2 h4
 |lst xs ys b e=>
  obtain ⟨a,us,rfl,h1,h2⟩:=r1
  obtain ⟨a',us',e',h3,h4⟩:=r2
  cases e'
  cases (I.hG (hK▸bT l h1) (hK▸bT l h3):us=us')
  exact hf _ _ _ _ e h2 h4
theorem ez {α:Type} {xs:List α} {j:Nat} (h:j<xs.length):∃x,xs[j]?=some x:=⟨_,List.getElem?_eq_getElem h⟩
theorem pf (I:Inv X pins σ H s) (hK:T.K=X.K) (l:Le G H):∀(d:Nat) {v w:Val} {u:L2.V} {b:Bool},eqv d v w=some b->Rel T as G v u->Rel T as G w u->b=true
 |0,_,_,_,_,e,r1,r2=>nG I hK l (fun _ _ _ _ z=>(by cases z)) (fF e) r1 r2
 |d+1,_,_,_,_,e,r1,r2=>nG I hK l (fun xs ys us b e r1 r2=>by
  obtain ⟨i1,i2⟩:=cw (eqv d) xs ys b e
  have ln:xs.length=ys.length:=r1.length.trans r2.length.symm
  rw [i1,ln,beq_self_eq_true,Bool.and_true,Nat.min_self,List.all_eq_true]
  intro j hj
  have hj':=List.mem_range.mp hj
  obtain ⟨x,e1⟩:=ez (show j<xs.length from ln▸hj')
  obtain ⟨y,e2⟩:=ez hj'
  obtain ⟨u1,q1,s1⟩:=r1.get e1
  obtain ⟨u2,q2,s2⟩:=r2.get e2
  rw [q1] at q2
  cases q2
  exact pf I hK l d (i2 j _ _ e1 e2) s1 s2) (fF e) r1 r2
theorem wC {its:List Value} {j:Nat} {x:Value} (e:its[j]?=some x) (h:j<its.toArray.size):its.toArray[j]=x:=by
 have z:=List.getElem?_eq_getElem (show j<its.length from h)
 exact Option.some.inj (z.symm.trans e)
noncomputable def Em (T:CT) (as:List Addr) (G:Hp) (s:Shared) (A:Around) (g:Val->Val->Option Bool):Prop:=∀(v w:Val) (u u':L2.V) (x y:Value) (c:Bool),g v w=some c->Rel T as G v u->Rel T as G w u'->RelV u x->RelV u' y->EqAt A s x y c
theorem iw {g:Val->Val->Option Bool} {A:Around} (ih:Em T as G s A g) {b:Bool} {its its':List Value} (e:cv g xs ys=some b) (r1:af T as G xs us) (r2:af T as G ys us') (v1:Vals us its) (v2:Vals us' its'):
  ∀j (h1:j<its.toArray.size) (h2:j<its'.toArray.size),EqAt A s its.toArray[j] its'.toArray[j] (nX g xs ys j):=fun j h1 h2=>by
 obtain ⟨x,e1⟩:=ez (show j<xs.length from (r1.length.trans v1.length)▸h1)
 obtain ⟨y,e2⟩:=ez (show j<ys.length from (r2.length.trans v2.length)▸h2)
 obtain ⟨u1,a1,s1⟩:=r1.get e1
 obtain ⟨u2,a2,s2⟩:=r2.get e2
 obtain ⟨x1,b1,t1⟩:=Vals.get v1 a1
 obtain ⟨x2,b2,t2⟩:=Vals.get v2 a2
 rw [wC b1 h1,wC b2 h2]
 exact ih _ _ _ _ _ _ _ ((cw g xs ys b e).2 j _ _ e1 e2) s1 s2 t1 t2
theorem sC (I:Inv X pins σ H s) (hK:T.K=X.K) (l:Le G H) {g:Val->Val->Option Bool} {A:Around} (hA:A.units+1<cLine)
  (ih:Em T as G s A.in1 g) {v w:Val} {u:L2.V} {x y:Value} {b:Bool} (c:fw (cv g) v w b) (r1:Rel T as G v u) (r2:Rel T as G w u') (q1:RelV u x) (q2:RelV u' y):RcAt A s x y b:=by
 cases c with
 |non=>cases r1;cases r2;cases q1;cases q2;exact RcAt.none_none
 |bl a c=>cases r1;cases r2;cases q1;cases q2;exact RcAt.bool_bool _ _
 |int a c=>cases r1;cases r2;obtain ⟨t,rfl⟩:=q1;obtain ⟨t',rfl⟩:=q2;exact RcAt.int_int _ _ _ _
 |str a c=>
  cases r1;cases r2;obtain ⟨t,rfl⟩:=q1;obtain ⟨t',rfl⟩:=q2
  rw [show decide (a=c)=(a==c) by rw [Bool.eq_iff_iff];simp]
  exact RcAt.str_str _ _ _ _
 |is a c=>cases r1;cases r2;obtain ⟨t,rfl⟩:=q1;obtain ⟨t',rfl⟩:=q2;exact RcAt.int_str _ _ _ _
 |si a c=>cases r1;cases r2;obtain ⟨t,rfl⟩:=q1;obtain ⟨t',rfl⟩:=q2;exact RcAt.str_int _ _ _ _
 |tup p q xs ys b e=>
  obtain ⟨a,us,rfl,h1,h2⟩:=r1
  obtain ⟨a',us',rfl,h3,h4⟩:=r2
  cases q1
  cases q2
  obtain ⟨its,v1,t1,_⟩:=aO (b:=false) I (bh l h1)
  obtain ⟨its',v2,t2,_⟩:=aO (b:=false) I (bh l h3)
  have R:=RcAt.tuples (A:=A) t1 t2 (by lia) (iw ih e h2 h4 v1 v2)
  rw [(cw g _ _ b e).1,h2.length.trans v1.length,h4.length.trans v2.length]
  exact R
 |lst xs ys b e=>
  obtain ⟨a,us,rfl,h1,h2⟩:=r1
  obtain ⟨a',us',rfl,h3,h4⟩:=r2
  cases q1
  cases q2
  obtain ⟨its,v1,t1,_⟩:=aO (b:=true) I (hK▸bT l h1)
  obtain ⟨its',v2,t2,_⟩:=aO (b:=true) I (hK▸bT l h3)
  rw [(cw g _ _ b e).1,h2.length.trans v1.length,h4.length.trans v2.length]
  by_cases hs:its.length=its'.length
  ·have R:=RcAt.lists (A:=A) t1 t2 hs (by lia) (iw ih e h2 h4 v1 v2)
   rw [hs,beq_self_eq_true,Bool.and_true,Nat.min_self]
   rw [show its.toArray.size=its'.length from hs] at R
   exact R
  ·rw [show (its.length==its'.length)=false from beq_false_of_ne hs,Bool.and_false]
   exact RcAt.lists_lengths (A:=A) t1 t2 (by simpa using hs) (by lia)
theorem rW {A:Around} {f:List Val->List Val->Option Bool} {v w:Val} {u:L2.V} {x y:Value} {b:Bool} (c:fw f v w b) (r1:Rel T as G v u) (r2:Rel T as G w u') (q1:RelV u x) (q2:RelV u' y):EqAt A s x y b∨(∃a a',u= .ref a/\u'= .ref a'):=by
 cases c with
 |non=>cases r1;cases r2;cases q1;cases q2;exact .inl (EqAt.same _)
 |bl a c=>cases r1;cases r2;exact .inl (iL q1 q2 rfl rfl)
 |int a c=>cases r1;cases r2;exact .inl (iL q1 q2 rfl rfl)
 |str a c=>
  rw [show decide (a=c)=CC (.str a) (.str c) by show _=(_==_);rw [Bool.eq_iff_iff];simp]
  cases r1;cases r2;exact .inl (iL q1 q2 rfl rfl)
 |is a c=>cases r1;cases r2;exact .inl (iL q1 q2 rfl rfl)
 |si a c=>cases r1;cases r2;exact .inl (iL q1 q2 rfl rfl)
 |tup p q xs ys b e=>obtain ⟨a,us,h1,_⟩:=r1;obtain ⟨a',us',h2,_⟩:=r2;exact .inr ⟨a,a',h1,h2⟩
 |lst xs ys b e=>obtain ⟨a,us,h1,_⟩:=r1;obtain ⟨a',us',h2,_⟩:=r2;exact .inr ⟨a,a',h1,h2⟩
theorem jB (I:Inv X pins σ H s) (hK:T.K=X.K) (l:Le G H):∀(d:Nat) {v w:Val} {u u':L2.V} {x y:Value} {b:Bool} {A:Around},A.units+d<cLine->eqv d v w=some b->Rel T as G v u->Rel T as G w u'->RelV u x->RelV u' y->EqAt A s x y b
 |0,v,w,u,u',x,y,b,A,hA,e,r1,r2,q1,q2=>by
  have c:=fF e
  refine (rW c r1 r2 q1 q2).elim id fun z900=> ?_;obtain ⟨a,a',h1,h2⟩:=z900
  cases c<;>first|(rename_i z;cases z;done)|(subst h1;cases r1)
 |d+1,v,w,u,u',x,y,b,A,hA,e,r1,r2,q1,q2=>by
  refine (rW (fF e) r1 r2 q1 q2).elim id fun z900=> ?_;obtain ⟨a,a',h1,h2⟩:=z900
  subst h1
  subst h2
  by_cases ha:a=a'
  ·subst ha
   rw [pf I hK l (d+1) e r1 r2]
   cases q1
   cases q2
   exact EqAt.same _
  ·have R:=sC I hK l (A:=A) (by lia) (fun _ _ _ _ _ _ _ e r1 r2 q1 q2=>jB I hK l d (by show A.units+1+d<cLine;lia) e r1 r2 q1 q2) (fF e) r1 r2 q1 q2
   cases q1
   cases q2
   exact EqAt.of_refs ha R
end
end PI
namespace PI
open PySem L2 L2.L3 L2.L4 PySem.SeqAt
section
variable {T:CT} {X:Cx} {pins:List (Addr×Obj)} {σ:St} {as:List Addr} {G H:Hp} {s:Shared}
theorem AE (I:Inv X pins σ H s) (hK:T.K=X.K) (l:Le G H) {g:Val->Val->Option Bool} {A:Around} (hA:A.units+1<cLine)
  (ih:Em T as G s A.in1 g) {v w:Val} {u:L2.V} {x y:Value} {b:Bool} (c:fw (cv g) v w b) (r1:Rel T as G v u) (r2:Rel T as G w u') (q1:RelV u x) (q2:RelV u' y):RcNeAt A s x y (!b):=by
 cases c with
 |non=>cases r1;cases r2;cases q1;cases q2;exact RcNeAt.none_none
 |bl a c=>cases r1;cases r2;cases q1;cases q2;exact RcNeAt.bool_bool _ _
 |int a c=>cases r1;cases r2;obtain ⟨t,rfl⟩:=q1;obtain ⟨t',rfl⟩:=q2;exact RcNeAt.int_int _ _ _ _
 |str a c=>
  cases r1;cases r2;obtain ⟨t,rfl⟩:=q1;obtain ⟨t',rfl⟩:=q2
  rw [show decide (a=c)=(a==c) by rw [Bool.eq_iff_iff];simp]
  exact RcNeAt.str_str _ _ _ _
 |is a c=>cases r1;cases r2;obtain ⟨t,rfl⟩:=q1;obtain ⟨t',rfl⟩:=q2;exact RcNeAt.int_str _ _ _ _
 |si a c=>cases r1;cases r2;obtain ⟨t,rfl⟩:=q1;obtain ⟨t',rfl⟩:=q2;exact RcNeAt.str_int _ _ _ _
 |tup p q xs ys b e=>
  obtain ⟨a,us,rfl,h1,h2⟩:=r1
  obtain ⟨a',us',rfl,h3,h4⟩:=r2
  cases q1
  cases q2
  obtain ⟨its,v1,t1,_⟩:=aO (b:=false) I (bh l h1)
  obtain ⟨its',v2,t2,_⟩:=aO (b:=false) I (bh l h3)
  have R:=RcNeAt.tuples (A:=A) t1 t2 (by lia) (iw ih e h2 h4 v1 v2)
  rw [(cw g _ _ b e).1,h2.length.trans v1.length,h4.length.trans v2.length]
  exact R
 |lst xs ys b e=>
  obtain ⟨a,us,rfl,h1,h2⟩:=r1
  obtain ⟨a',us',rfl,h3,h4⟩:=r2
  cases q1
  cases q2
  obtain ⟨its,v1,t1,_⟩:=aO (b:=true) I (hK▸bT l h1)
  obtain ⟨its',v2,t2,_⟩:=aO (b:=true) I (hK▸bT l h3)
  rw [(cw g _ _ b e).1,h2.length.trans v1.length,h4.length.trans v2.length]
  by_cases hs:its.length=its'.length
  ·have R:=RcNeAt.lists (A:=A) t1 t2 hs (by lia) (iw ih e h2 h4 v1 v2)
   rw [hs,beq_self_eq_true,Bool.and_true,Nat.min_self]
   rw [show its.toArray.size=its'.length from hs] at R
   exact R
  ·rw [show (its.length==its'.length)=false from beq_false_of_ne hs,Bool.and_false]
   exact RcNeAt.lists_lengths (A:=A) t1 t2 (by simpa using hs) (by lia)
end
theorem dg.rel {T:CT} {G H:Hp} (l:Le G H):∀{v:Val} {u:L2.V},dg T as G H v u->Rel T as H v u
 | .non,_,h=>h
 | .bl _,_,h=>h
 | .int _,_,h=>h
 | .str _,_,h=>h
 | .tup _ _,_,⟨a,us,e,q,r⟩=>⟨a,us,e,k9 l q,r.mono (List.prefix_refl _) l⟩
 | .lst _,_,⟨a,us,e,q,r⟩=>⟨a,us,e,q,r.mono (List.prefix_refl _) l⟩
 | .dct _ _,_,⟨a,us,e,q,r⟩=>⟨a,us,e,q,r.mono (List.prefix_refl _) l⟩
 | .obj _ _ _,_,⟨a,us,e,n,r,q⟩=>⟨a,us,e,n,r.mono (List.prefix_refl _) l,q⟩
 | .ref n,_,h=>h.elim
noncomputable def Ab (T:CT) (neg:Bool):R2:=fun u w H Q=>∃as v v' b,Rel T as H v u/\Rel T as H v' w/\eqv 8 v v'=some b/\Q (.bl (if neg=true then !b else b)) H
theorem sZ {T:CT} {X:Cx} (hK:T.K=X.K) (hu:X.A.units+8<cLine):aK X (compareOp .Eq) (Ab T false):=by
 intro pins s σ H x y u v Q I rx ry h
 obtain ⟨as,v1,v2,b,r1,r2,e,q⟩:=h
 exact sC I hK (Le.refl _) (A:=X.A) (by lia) (fun _ _ _ _ _ _ _ e r1 r2 q1 q2=>jB I hK (Le.refl _) 7 (by show X.A.units+1+7<cLine;lia) e r1 r2 q1 q2) (fF (f:=cv (eqv 7)) e) r1 r2 rx ry _ _ _ _ ⟨.bl b,H,I,rfl,q⟩
theorem tY {T:CT} {X:Cx} (hK:T.K=X.K) (hu:X.A.units+8<cLine):aK X (compareOp .NotEq) (Ab T true):=by
 intro pins s σ H x y u v Q I rx ry h
 obtain ⟨as,v1,v2,b,r1,r2,e,q⟩:=h
 exact AE I hK (Le.refl _) (A:=X.A) (by lia) (fun _ _ _ _ _ _ _ e r1 r2 q1 q2=>jB I hK (Le.refl _) 7 (by show X.A.units+1+7<cLine;lia) e r1 r2 q1 q2) (fF (f:=cv (eqv 7)) e) r1 r2 rx ry _ _ _ _ ⟨.bl (!b),H,I,rfl,q⟩
end PI
namespace PI
open PySem L2 L2.L3 L2.L4 PySem.SeqAt PyProof.Rows
noncomputable abbrev PV (T:CT) (Q:VK):Val->aa->List Addr->Hp->Hp->Prop:=fun v _ as' G' H'=>∀u,Rel T as' G' v u->Q u H'
noncomputable def cu (T:CT) (f:Val->Val->aa->R Val):R2:=fun u w H Q=>∃st as G x y Z,Sim T st as G H/\dg T as G H x u/\dg T as G H y w/\ae T as G (f x y st) (PV T Q) Z
theorem aK.imp {X:Cx} {f:Value->Value->Sem Value} {r r':R2} (h:aK X f r) (k:∀x y H Q,r' x y H Q->r x y H Q):aK X f r':=fun pins s σ H x y v u Q I rx ry q=>h pins s σ H x y v u Q I rx ry (k x y H Q q)
section
variable {T:CT} {X:Cx}
theorem iN {f:Value->Value->Sem Value} {C:Int->Int->Prop} {g:Int->Int->L2.V} {h:Int->Int->aa->R Val} (ho:aK X f (rI C g))
  (k:∀{st as G H Z Q} {i j:Int},Sim T st as G H->ae T as G (h i j st) (PV T Q) Z->C i j/\Q (g i j) H):aK X f (cu T (bL h)):=
 aK.imp ho fun u w H Q z904=>by
  obtain ⟨st,as,G,x,y,Z,s,r1,r2,p⟩:=z904
  cases x with
  |int i=>cases y with
   |int j=>
    cases r1
    cases r2
    obtain ⟨c,q⟩:=k s p
    exact ⟨i,j,rfl,rfl,c,q⟩
   |_=>exact p.elim
  |_=>exact p.elim
theorem EN {g:Int->Int->L2.V} {x y:L2.V} {H:Hp} {Q:VK} (h:rI (fun _ _=>True) g x y H Q):jN g x y H Q:=by
 obtain ⟨i,j,a,b,_,c⟩:=h
 exact ⟨i,j,a,b,c⟩
theorem AO:aK X (binaryOp .Sub) (cu T (bL fun i j st=> .ok (.int (i-j)) st)):=iN (aK.imp Cv fun _ _ _ _=>EN) fun s p=>⟨trivial,p.ok s _ rfl⟩
theorem BZ:aK X (binaryOp .Mod) (cu T (bL pS)):=iN AF fun s p=>by
 obtain ⟨c,p⟩:=ae.iff p
 exact ⟨c,p.ok s _ rfl⟩
theorem jw {f:Value->Value->Sem Value} {g:Int->Int->Bool} (ho:aK X f (jN fun i j=> .bl (g i j))):aK X f (cu T fun x y st=>cI (bL (fun i j st=> .ok (g i j) st) x y st)):=
 aK.imp ho fun u w H Q z904=>by
  obtain ⟨st,as,G,x,y,Z,s,r1,r2,p⟩:=z904
  cases x with
  |int i=>cases y with
   |int j=>
    cases r1
    cases r2
    exact ⟨i,j,rfl,rfl,p.ok s _ rfl⟩
   |_=>exact p.elim
  |_=>exact p.elim
theorem B9:aK X (compareOp .Lt) (cu T fun x y st=>cI (bw .Lt x y st)):=jw Gx
theorem Dy:aK X (compareOp .LtE) (cu T fun x y st=>cI (bw .LtE x y st)):=jw Gg
theorem Ei:aK X (compareOp .Gt) (cu T fun x y st=>cI (bw .Gt x y st)):=jw Gb
theorem CI:aK X (compareOp .GtE) (cu T fun x y st=>cI (bw .GtE x y st)):=jw ES
theorem pC {i:Int} (h:big i):Builtin.Int.intBits i<=1000:=by
 unfold Builtin.Int.intBits
 split
 ·exact Nat.zero_le _
 ·have:i.natAbs.log2<1000:=by
   rcases Nat.eq_zero_or_pos i.natAbs with h0|hp
   ·rw [h0];decide
   ·exact (Nat.log2_lt (Nat.ne_of_gt hp)).mpr h
  lia
theorem C2 {i j:Int} (h:zV i j):IntMulOk i j:=by
 rcases h with h|h|⟨h1,h2⟩
 ·exact IntMulOk.of_left (intBits_le_64 (by lia) (by lia))
 ·exact IntMulOk.of_right (intBits_le_64 (by lia) (by lia))
 ·have b1:=pC h1
  have b2:=pC h2
  unfold IntMulOk
  have:Builtin.Int.intTooBig (Builtin.Int.intBits i+Builtin.Int.intBits j)=false:=by
   unfold Builtin.Int.intTooBig
   have z:bitsLine=2^27:=rfl
   simp only [decide_eq_false_iff_not,z]
   lia
  rw [this,Bool.and_false]
  decide
theorem AY:aK X (binaryOp .Mult) (cu T (bL pB)):=iN (Aa (C:=IntMulOk) (g:=fun i j=>i*j) fun _ _ _ _ _ _ _ hc q=>mul_int q hc) fun s p=>by
 obtain ⟨c,p⟩:=ae.iff p
 exact ⟨C2 c,p.ok s _ rfl⟩
theorem Dk {i j:Int} (h:big j):Builtin.divisionGoesByPylong i j=false:=by
 unfold Builtin.divisionGoesByPylong
 have:(if (j==0)=true then 0 else j.natAbs.log2/30+1)<=300:=by
  split
  ·lia
  ·have:j.natAbs.log2<1000:=by
    rcases Nat.eq_zero_or_pos j.natAbs with h0|hp
    ·rw [h0];decide
    ·exact (Nat.log2_lt (Nat.ne_of_gt hp)).mpr h
   lia
 simp only [Bool.and_eq_false_iff,decide_eq_false_iff_not]
 left
 lia
theorem A5:aK X (binaryOp .FloorDiv) (cu T (bL qh)):=iN (Aa (C:=fun i j=>j≠0/\big j) (g:=fun i j=>i.fdiv j) fun _ _ _ _ _ _ _ hc q=>floordiv_int hc.1 q (.inl (Dk hc.2))) fun s p=>by
 obtain ⟨c,p⟩:=ae.iff p
 exact ⟨c,p.ok s _ rfl⟩
theorem B4:aK X (binaryOp .Pow) (cu T (bL xM)):=iN DA fun s p=>by
 obtain ⟨c,p⟩:=ae.iff p
 exact ⟨⟨c.1,by lia,c.2.2⟩,p.ok s _ rfl⟩
noncomputable def F6 (K:PySem.W.Frag):R2:=fun x y H Q=>∃l b xs zs,x= .ref l/\y= .ref b/\bH K H l xs/\bH K H b zs/\xs.length+zs.length<=sizeLine/\∀p,H p=none->Q (.ref p) (upd H p (.lst (xs++zs)))
theorem BD:aK X (binaryOp .Add) (F6 X.K):=by
 intro pins s σ H x y v u Q I rx ry h
 obtain ⟨l,b,xs,zs,rfl,rfl,hH,hB,hz,q⟩:=h
 cases rx
 cases ry
 obtain ⟨vs,r1,hl,_⟩:=aO (b:=true) I hH
 obtain ⟨ws,r2,hb,_⟩:=aO (b:=true) I hB
 obtain ⟨⟨cls,dd,data,sl⟩,ho,hc,n,hd⟩:=id hl
 obtain ⟨⟨cls2,dd2,data2,sl2⟩,ho2,hc2,n2,hd2⟩:=id hb
 simp only at hc hd hc2 hd2
 subst hc hd hc2 hd2
 have e:vs.toArray++ws.toArray=(vs++ws).toArray:=by simp
 refine concat_meets ⟨_,ho,rfl⟩ ⟨_,ho2,rfl⟩ noFill_list_add seq_list_add PySem.F.slot_list_add PySem.F.entry_list_add (PySem.F.args_list_add_2 _ _) (list_addW l b vs.toArray ws.toArray n n2 dd dd2 sl sl2 (by simpa [r1.length,r2.length] using hz)) ⟨ho,ho2, ?_⟩
 rw [e]
 exact ⟨.ref _,_,I.JJ (t':=s.toks) (r1.append r2) (by rw [List.length_append];lia),rfl,q _ I.fresh⟩
theorem af.append {G:Hp}:∀{xs ys:List Val} {us ws:List L2.V},af T as G xs us->af T as G ys ws->af T as G (xs++ys) (us++ws)
 |[],_,_,_,h,r=>by
  cases h
  exact r
 |_::_,_,_,_,⟨u,t,e,h,q⟩,r=>by
  subst e
  exact ⟨u,_,rfl,h,af.append q r⟩
theorem lZ {st:aa} {G H:Hp} {Q:VK} {Z:XK} (s:Sim T st as G H) (r:af T as G xs us) (p:ae T as G (.ok (.tup false xs) st) (PV T Q) Z) {a:Addr} (ha:H a=none):Q (.ref a) (upd H a (.tup us)):=by
 have l:Le G (upd G a (.tup us)):=Le.new (s.fresh ha).2
 exact p as _ _ (List.prefix_refl _) l (s.uq ha) _ ⟨a,us,rfl,(show upd G a (.tup us) a=_ from aj),r.mono (List.prefix_refl _) l⟩
theorem xV {st:aa} {G H:Hp} {Q:VK} {Z:XK} (s:Sim T st as G H) (r:af T as G xs us) (p:ae T as G (.ok (.tup true xs) st) (PV T Q) Z) {a:Addr} {o:Obj} (ha:H a=none) (ho:o.dict=none):Q (.ref a) (upd H a (.aC o (.tup us))):=by
 have l:Le G (upd G a (.aC o (.tup us))):=Le.new (s.fresh ha).2
 exact p as _ _ (List.prefix_refl _) l (s.uq ha) _ ⟨a,us,rfl,⟨o,aj,ho⟩,r.mono (List.prefix_refl _) l⟩
theorem fj {st:aa} {G H:Hp} {Q:VK} {Z:XK} (s:Sim T st as G H) (r:af T as G xs us) (p:ae T as G (new (.lst xs) st) (PV T Q) Z) {a:Addr} (ha:H a=none):Q (.ref a) (upd H a (.lst us)):=by
 refine p (as++[a]) G _ (List.prefix_append _ _) (Le.refl _) (s.push ha ⟨us,aj,r.mono (List.prefix_append _ _) (Le.refl _)⟩) _ ⟨a, ?_,rfl⟩
 rw [←s.len,List.getElem?_append_right (Nat.le_refl _)]
 simp
theorem AJ (hK:T.K=X.K):aK X (binaryOp .Add) (cu T ko):=by
 refine aK.imp (((Eo (X:=X)).or uh).or ((BN (X:=X)).or BD)) fun u w H Q z904=> ?_;obtain ⟨st,as,G,x,y,Z,s,r1,r2,p⟩:=z904
 cases x with
 |int i=>cases y with
  |int j=>
   cases r1
   cases r2
   exact .inl (.inl ⟨i,j,rfl,rfl,p.ok s _ rfl⟩)
  |_=>exact p.elim
 |str i=>cases y with
  |str j=>
   cases r1
   cases r2
   obtain ⟨c,p⟩:=ae.iff p
   have z:sizeLine=2^24:=rfl
   exact .inl (.inr ⟨i,j,rfl,rfl,by lia,p.ok s _ rfl⟩)
  |_=>exact p.elim
 |tup fl xs=>cases y with
  |tup fl ys=>
   obtain ⟨a,us,rfl,q1,s1⟩:=r1
   obtain ⟨b,ws,rfl,q2,s2⟩:=r2
   obtain ⟨c,p⟩:=ae.iff p
   have z:sizeLine=2^24:=rfl
   refine .inr (.inl ⟨a,b,us,ws,rfl,rfl,bh s.sub q1,bh s.sub q2,fun z=>c.1 ?_,by rw [←s1.length,←s2.length];lia,fun z=> ?_,fun _ l hl=>lZ s (s1.append s2) p hl⟩)
   ·have:=s1.length
    rw [z] at this
    exact List.eq_nil_of_length_eq_zero this
   ·refine absurd ?_ c.2.1
    have:=s2.length
    rw [z] at this
    exact List.eq_nil_of_length_eq_zero this
  |_=>exact p.elim
 |lst xs=>cases y with
  |lst ys=>
   obtain ⟨a,us,rfl,q1,s1⟩:=r1
   obtain ⟨b,ws,rfl,q2,s2⟩:=r2
   obtain ⟨c,p⟩:=ae.iff p
   have z:sizeLine=2^24:=rfl
   exact .inr (.inr ⟨a,b,us,ws,rfl,rfl,hK▸q1,hK▸q2,by rw [←s1.length,←s2.length];lia,fun l hl=>fj s (s1.append s2) p hl⟩)
  |_=>exact p.elim
 |_=>exact p.elim
theorem DZ (hK:T.K=X.K) (hu:X.A.units+8<cLine):aK X (compareOp .Eq) (cu T fun x y st=>cI (bw .Eq x y st)):=
 aK.imp (sZ hK hu) fun u w H Q z904=>by
  obtain ⟨st,as,G,x,y,Z,s,r1,r2,p⟩:=z904
  obtain ⟨b,e,p⟩:=ae.ak (show ae T as G ((R.ak (eqv 8 x y) st).bind fun b st=> .ok (.bl b) st) (PV T Q) Z from p)
  exact ⟨as,x,y,b,r1.rel s.sub,r2.rel s.sub,e,p.ok s _ rfl⟩
theorem Ea (hK:T.K=X.K) (hu:X.A.units+8<cLine):aK X (compareOp .NotEq) (cu T fun x y st=>cI (bw .NotEq x y st)):=
 aK.imp (tY hK hu) fun u w H Q z904=>by
  obtain ⟨st,as,G,x,y,Z,s,r1,r2,p⟩:=z904
  obtain ⟨c,e,p⟩:=ae.ak (show ae T as G ((R.ak ((eqv 8 x y).map fun b=> !b) st).bind fun b st=> .ok (.bl b) st) (PV T Q) Z from p)
  obtain ⟨b,e1,e2⟩:=Option.map_eq_some_iff.mp e
  subst e2
  exact ⟨as,x,y,b,r1.rel s.sub,r2.rel s.sub,e1,p.ok s _ rfl⟩
theorem sX {G H:Hp} {v:Val} {u:L2.V} (h:dg T as G H v u):decide (u= .non)=g9 v:=by
 cases v with
 |non=>cases h;rfl
 |bl b=>cases h;rfl
 |int b=>cases h;rfl
 |str b=>cases h;rfl
 |ref k=>exact h.elim
 |tup fl xs=>obtain ⟨a,us,rfl,_⟩:=h;rfl
 |lst xs=>obtain ⟨a,us,rfl,_⟩:=h;rfl
 |dct ks vs=>obtain ⟨a,us,rfl,_⟩:=h;rfl
 |obj c ns vs=>obtain ⟨a,us,rfl,_⟩:=h;rfl
theorem DQ:aK X (compareOp .Is) (cu T fun x y st=>cI (bw .Is x y st)):=
 aK.imp D1 fun u w H Q z904=>by
  obtain ⟨st,as,G,x,y,Z,s,r1,r2,p⟩:=z904
  cases y with
  |non=>
   cases r2
   refine ⟨rfl, ?_⟩
   rw [sX r1]
   exact p.ok s _ rfl
  |_=>exact p.elim
theorem vG:aK X (compareOp .IsNot) (cu T fun x y st=>cI (bw .IsNot x y st)):=
 aK.imp BL fun u w H Q z904=>by
  obtain ⟨st,as,G,x,y,Z,s,r1,r2,p⟩:=z904
  cases y with
  |non=>
   cases r2
   refine ⟨rfl, ?_⟩
   rw [sX r1]
   exact p.ok s _ rfl
  |_=>exact p.elim
end
end PI
namespace PI
open PySem L2 L2.L3 L2.L4 PySem.SeqAt
section
variable {T:CT} {X:Cx} {pins:List (Addr×Obj)} {σ:St} {as:List Addr} {G H:Hp} {s:Shared}
theorem yV {g:Val->Val->Option Bool} (ih:∀v v' w u b b',Rel T as G v u->Rel T as G v' u->g v w=some b->g v' w=some b'->b=b') (us:List L2.V) (xs xs' ys:List Val) (b b':Bool) (r:af T as G xs us) (r':af T as G xs' us) (e:cv g xs ys=some b) (e':cv g xs' ys=some b'):b=b':=by
 obtain ⟨i1,i2⟩:=cw g xs ys b e
 obtain ⟨j1,j2⟩:=cw g xs' ys b' e'
 have ln:xs.length=xs'.length:=r.length.trans r'.length.symm
 rw [i1,j1,ln]
 refine congrArg (· &&_) (Bool.eq_iff_iff.mpr ?_)
 rw [List.all_eq_true,List.all_eq_true]
 have at_:∀j∈List.range (min xs'.length ys.length),nX g xs ys j=nX g xs' ys j:=fun j hj=>by
  have hj':=List.mem_range.mp hj
  obtain ⟨x,e1⟩:=ez (show j<xs.length by lia)
  obtain ⟨x',e2⟩:=ez (show j<xs'.length by lia)
  obtain ⟨y,e3⟩:=ez (show j<ys.length by lia)
  obtain ⟨u1,q1,s1⟩:=r.get e1
  obtain ⟨u2,q2,s2⟩:=r'.get e2
  rw [q1] at q2
  cases q2
  exact ih _ _ _ _ _ _ s1 s2 (i2 j _ _ e1 e3) (j2 j _ _ e2 e3)
 exact ⟨fun h j hj=>(at_ j hj)▸h j hj,fun h j hj=>(at_ j hj).symm▸h j hj⟩
theorem pZ (I:Inv X pins σ H s) (hK:T.K=X.K) (l:Le G H) {f:List Val->List Val->Option Bool} (hf:∀us xs xs' ys b b',af T as G xs us->af T as G xs' us->f xs ys=some b->f xs' ys=some b'->b=b')
  {v w:Val} {u:L2.V} {b b':Bool} (r1:Rel T as G v u) (r2:Rel T as G v' u) (c:fw f v w b) (c':fw f v' w b'):b=b':=by
 cases c with
 |non=>cases c';rfl
 |bl a c=>cases c';cases r1;cases r2;rfl
 |int a c=>cases c'<;>cases r1<;>cases r2;rfl
 |str a c=>cases c'<;>cases r1<;>cases r2;rfl
 |is a c=>cases c'<;>cases r1<;>cases r2;rfl
 |si a c=>cases c'<;>cases r1<;>cases r2;rfl
 |tup p q xs ys b e=>
  cases c' with
  |tup p' _ xs' _ b' e'=>
   obtain ⟨a,us,rfl,h1,h2⟩:=r1
   obtain ⟨a',us',z,h3,h4⟩:=r2
   cases z
   cases (I.fS (bh l h1) (bh l h3):us=us')
   exact hf _ _ _ _ _ _ h2 h4 e e'
 |lst xs ys b e=>
  cases c' with
  |lst xs' _ b' e'=>
   obtain ⟨a,us,rfl,h1,h2⟩:=r1
   obtain ⟨a',us',z,h3,h4⟩:=r2
   cases z
   cases (I.hG (hK▸bT l h1) (hK▸bT l h3):us=us')
   exact hf _ _ _ _ _ _ h2 h4 e e'
theorem sy (I:Inv X pins σ H s) (hK:T.K=X.K) (l:Le G H):∀(d:Nat) {v v' w:Val} {u:L2.V} {b b':Bool},Rel T as G v u->Rel T as G v' u->eqv d v w=some b->eqv d v' w=some b'->b=b'
 |0,_,_,_,_,_,_,r1,r2,e,e'=>pZ I hK l (fun _ _ _ _ _ _ _ _ z=>(by cases z)) r1 r2 (fF e) (fF e')
 |d+1,_,_,_,_,_,_,r1,r2,e,e'=>pZ I hK l (f:=cv (eqv d)) (yV (g:=eqv d) fun _ _ _ _ _ _ r1 r2 e e'=>sy I hK l d r1 r2 e e') r1 r2 (fF e) (fF e')
theorem rl {x:Val}:∀{ys:List Val} {b:Bool},cg x ys=some b->(∀y∈ys,∃c,eqv 8 y x=some c)/\(b=true↔∃y∈ys,eqv 8 y x=some true)
 |[],b,e=>by
  cases e
  exact ⟨fun y h=>(by cases h),by simp⟩
 |y::ys,b,e=>by
  unfold cg at e
  cases e1:eqv 8 y x with
  |none=>rw [e1] at e;cases e
  |some c=>
   cases e2:cg x ys with
   |none=>rw [e1,e2] at e;cases e
   |some c'=>
    rw [e1,e2] at e
    cases e
    obtain ⟨i1,i2⟩:=rl e2
    refine ⟨fun y' hy=> ?_, ?_⟩
    ·rcases List.mem_cons.mp hy with z|z
     ·rw [z]
      exact ⟨c,e1⟩
     ·exact i1 y' z
    ·simp only [Bool.or_eq_true,List.mem_cons,exists_eq_or_imp,e1,i2,Option.some.injEq]
end
end PI
namespace PI
open PySem L2 L2.L3 L2.L4 PySem.SeqAt
section
variable {T:CT} {X:Cx} {pins:List (Addr×Obj)} {σ:St} {as:List Addr} {G H:Hp} {s:Shared}
noncomputable def FV:Value->L2.V
 | .bool b=> .bl b
 | .int i _=> .int i
 | .str i _=> .str i
 | .bytes i _=> .byt i
 | .float i _=> .flt i
 | .ref a=> .ref a
 | .type n=> .ty n
 |_=> .non
theorem RelV.back {u:L2.V} {x:Value} (h:RelV u x):FV x=u:=by
 cases u with
 |non=>cases h;rfl
 |bl b=>cases h;rfl
 |int i=>obtain ⟨t,rfl⟩:=h;rfl
 |str i=>obtain ⟨t,rfl⟩:=h;rfl
 |byt i=>obtain ⟨t,rfl⟩:=h;rfl
 |flt i=>obtain ⟨t,rfl⟩:=h;rfl
 |ref a=>cases h;rfl
 |ty n=>cases h;rfl
theorem RelV.one {u:L2.V} {x:Value} (h:RelV u x) (h':RelV u' x):u=u':=(RelV.back h).symm.trans (RelV.back h')
open Classical in
noncomputable def isIn (T:CT) (as:List Addr) (G:Hp) (ys:List Val) (us:List L2.V) (x:Val) (z:Value):Bool:=decide (∃(j:Nat) (v:Val) (u:L2.V),ys[j]?=some v/\us[j]?=some u/\RelV u z/\eqv 8 v x=some true)
open Classical in
theorem gY (I:Inv X pins σ H s) (hK:T.K=X.K) (l:Le G H) {A:Around} (hA:A.units+8<cLine) {x:Val} {u:L2.V} {xv:Value} {its:List Value} {b:Bool} (rx:Rel T as G x u) (qx:RelV u xv) (r:af T as G ys us) (q:Vals us its) (e:cg x ys=some b):
  (∀z,z∈its.toArray->EqAt A s z xv (isIn T as G ys us x z))/\its.toArray.any (isIn T as G ys us x)=b:=by
 obtain ⟨m1,m2⟩:=rl e
 have at_:∀(j:Nat) z,its[j]?=some z->∃v u',ys[j]?=some v/\us[j]?=some u'/\Rel T as G v u'/\RelV u' z:=fun j z hz=>by
  have lj:j<ys.length:=by rw [r.length,q.length];exact (List.getElem?_eq_some_iff.mp hz).1
  have e1:ys[j]?=some ys[j]:=List.getElem?_eq_getElem lj
  obtain ⟨u',e2,h1⟩:=r.get e1
  obtain ⟨z',e3,h2⟩:=Vals.get q e2
  rw [hz] at e3
  cases e3
  exact ⟨_,u',e1,e2,h1,h2⟩
 have val:∀(j:Nat) z v u' c,ys[j]?=some v->us[j]?=some u'->RelV u' z->Rel T as G v u'->eqv 8 v x=some c->isIn T as G ys us x z=c:=fun j z v u' c e1 e2 h1 h2 ec=>by
  cases c with
  |true=>exact decide_eq_true ⟨j,v,u',e1,e2,h1,ec⟩
  |false=>
   refine decide_eq_false fun z900=> ?_;obtain ⟨k,v',u2,a1,a2,a3,a4⟩:=z900
   have z2:=RelV.one h1 a3
   subst z2
   obtain ⟨u3,b1,b2⟩:=r.get a1
   rw [a2] at b1
   cases b1
   cases sy I hK l 8 h2 b2 ec a4
 refine ⟨fun z hz=> ?_, ?_⟩
 ·obtain ⟨j,hj⟩:=List.mem_iff_getElem?.mp (show z∈its by simpa using hz)
  obtain ⟨v,u',e1,e2,h1,h2⟩:=at_ j z hj
  obtain ⟨c,ec⟩:=m1 v (List.mem_of_getElem? e1)
  rw [val j z v u' c e1 e2 h2 h1 ec]
  exact jB I hK l 8 hA ec h1 rx h2 qx
 ·rw [Bool.eq_iff_iff,m2,List.any_toArray,List.any_eq_true]
  constructor
  ·rintro ⟨z,hz,t⟩
   obtain ⟨j,v,u',e1,e2,h1,h2⟩:=of_decide_eq_true t
   exact ⟨v,List.mem_of_getElem? e1,h2⟩
  ·rintro ⟨v,hv,ev⟩
   obtain ⟨j,hj⟩:=List.mem_iff_getElem?.mp hv
   obtain ⟨u',e2,h1⟩:=r.get hj
   obtain ⟨z,e3,h2⟩:=Vals.get q e2
   exact ⟨z,List.mem_of_getElem? e3,val j z v u' true hj e2 h2 h1 ev⟩
end
section
variable {T:CT} {X:Cx}
noncomputable def Cp (neg:Bool) (x:Val):Val->aa->R Bool
 | .tup _ ys,st=>R.ak ((cg x ys).map fun b=>if neg=true then !b else b) st
 | .lst ys,st=>R.ak ((cg x ys).map fun b=>if neg=true then !b else b) st
 |_,_=> .stuck
theorem wI (hK:T.K=X.K) (hu:X.A.units+9<cLine):aK X (compareOp .In) (cu T fun x y st=>cI (Cp false x y st)):=by
 intro pins s σ H u w uv wv Q I ru rw' ⟨st,as,G,x,y,Z,sm,r1,r2,p⟩
 have hA:X.A.in1.units+8<cLine:=by show X.A.units+1+8<cLine;lia
 cases y with
 |tup fl ys=>
  obtain ⟨a,us,rfl,q1,s1⟩:=r2
  cases rw'
  obtain ⟨v,e,p⟩:=ae.ak (show ae T as G ((R.ak ((cg x ys).map fun b=>b) st).bind fun b st=> .ok (.bl b) st) (PV T Q) Z from p)
  obtain ⟨b,e1,e2⟩:=Option.map_eq_some_iff.mp e
  subst e2
  obtain ⟨its,v1,t1,_⟩:=aO (b:=false) I (bh sm.sub q1)
  obtain ⟨c1,c2⟩:=gY (A:=X.A.in1) I hK (Le.refl _) hA (r1.rel sm.sub) ru (s1.mono (List.prefix_refl _) sm.sub) v1 e1
  refine in_tupleAt _ t1 c1 ?_
  rw [c2]
  exact ⟨.bl b,H,I,rfl,p.ok sm _ rfl⟩
 |lst ys=>
  obtain ⟨a,us,rfl,q1,s1⟩:=r2
  cases rw'
  obtain ⟨v,e,p⟩:=ae.ak (show ae T as G ((R.ak ((cg x ys).map fun b=>b) st).bind fun b st=> .ok (.bl b) st) (PV T Q) Z from p)
  obtain ⟨b,e1,e2⟩:=Option.map_eq_some_iff.mp e
  subst e2
  obtain ⟨its,v1,t1,_⟩:=aO (b:=true) I (hK▸q1)
  obtain ⟨c1,c2⟩:=gY (A:=X.A.in1) I hK (Le.refl _) hA (r1.rel sm.sub) ru (s1.mono (List.prefix_refl _) sm.sub) v1 e1
  refine in_listAt _ t1 c1 ?_
  rw [c2]
  exact ⟨.bl b,H,I,rfl,p.ok sm _ rfl⟩
 |_=>exact p.elim
theorem mR (hK:T.K=X.K) (hu:X.A.units+9<cLine):aK X (compareOp .NotIn) (cu T fun x y st=>cI (Cp true x y st)):=by
 intro pins s σ H u w uv wv Q I ru rw' ⟨st,as,G,x,y,Z,sm,r1,r2,p⟩
 have hA:X.A.in1.units+8<cLine:=by show X.A.units+1+8<cLine;lia
 cases y with
 |tup fl ys=>
  obtain ⟨a,us,rfl,q1,s1⟩:=r2
  cases rw'
  obtain ⟨v,e,p⟩:=ae.ak (show ae T as G ((R.ak ((cg x ys).map fun b=> !b) st).bind fun b st=> .ok (.bl b) st) (PV T Q) Z from p)
  obtain ⟨b,e1,e2⟩:=Option.map_eq_some_iff.mp e
  subst e2
  obtain ⟨its,v1,t1,_⟩:=aO (b:=false) I (bh sm.sub q1)
  obtain ⟨c1,c2⟩:=gY (A:=X.A.in1) I hK (Le.refl _) hA (r1.rel sm.sub) ru (s1.mono (List.prefix_refl _) sm.sub) v1 e1
  refine notIn_tupleAt _ t1 c1 ?_
  rw [c2]
  exact ⟨.bl !b,H,I,rfl,p.ok sm _ rfl⟩
 |lst ys=>
  obtain ⟨a,us,rfl,q1,s1⟩:=r2
  cases rw'
  obtain ⟨v,e,p⟩:=ae.ak (show ae T as G ((R.ak ((cg x ys).map fun b=> !b) st).bind fun b st=> .ok (.bl b) st) (PV T Q) Z from p)
  obtain ⟨b,e1,e2⟩:=Option.map_eq_some_iff.mp e
  subst e2
  obtain ⟨its,v1,t1,_⟩:=aO (b:=true) I (hK▸q1)
  obtain ⟨c1,c2⟩:=gY (A:=X.A.in1) I hK (Le.refl _) hA (r1.rel sm.sub) ru (s1.mono (List.prefix_refl _) sm.sub) v1 e1
  refine notIn_listAt _ t1 c1 ?_
  rw [c2]
  exact ⟨.bl !b,H,I,rfl,p.ok sm _ rfl⟩
 |_=>exact p.elim
end
end PI
namespace PI
open PySem L2 L2.L3 L2.L4 PySem.SeqAt
section
variable {T:CT} {P:Pg} {cl:ar} {E:XS} {X:Cx} {pos:Pos}
theorem JK {a b:Expr} {op:Operator} (ho:aK X (binaryOp op) (cu T (eh op))) (ha:PE X a (tE T P cl E ia)) (hb:PE X b (tE T P cl E ib)):PE X (.BinOp a op b pos) (tE T P cl E (.bin op ia ib)):=
 EO ho ha hb fun s r1 r2 p=>⟨_,_,_,_,_,_,s,r1,r2,p⟩
theorem Hz {a b:Expr} {op:CmpOp} (ho:aK X (compareOp op) (cu T fun x y st=>cI (bw op x y st))) (hm:behindInMarks op b=false) (ha:PE X a (tE T P cl E ia)) (hb:PE X b (tE T P cl E ib)):PE X (.Compare a [op] [b] pos) (tE T P cl E (.cmp op ia ib)):=
 Gd ho hm ha hb fun s r1 r2 p=>⟨_,_,_,_,_,_,s,r1,r2,p⟩
theorem EU {a b:Expr} {rest:List Expr} (ha:PE X a (tE T P cl E ia)) (hb:PE X (.BoolOp .And (b::rest) pos) (tE T P cl E ib)):PE X (.BoolOp .And (a::b::rest) pos) (tE T P cl E (.and ia ib)):=
 PE.mono (D4 ha hb) fun σ H Q z903=>by
  obtain ⟨env,st,as,G,s,er,h⟩:=z903
  dsimp only [PI.E.run] at h
  refine az s er h fun x st1 as1 G1 H1 u s1 er1 r1 p1 l1 h=> ?_
  cases x with
  |bl t=>
   cases r1
   refine ⟨t,rfl, ?_⟩
   cases t with
   |true=>exact mD ⟨env,st1,as1,G1,s1,er1,h⟩
   |false=>exact mF (h.ok s1 _ rfl)
  |_=>exact h.elim
theorem Il {a b:Expr} {rest:List Expr} (ha:PE X a (tE T P cl E ia)) (hb:PE X (.BoolOp .Or (b::rest) pos) (tE T P cl E ib)):PE X (.BoolOp .Or (a::b::rest) pos) (tE T P cl E (.or ia ib)):=
 PE.mono (F9 ha hb) fun σ H Q z903=>by
  obtain ⟨env,st,as,G,s,er,h⟩:=z903
  dsimp only [PI.E.run] at h
  refine az s er h fun x st1 as1 G1 H1 u s1 er1 r1 p1 l1 h=> ?_
  cases x with
  |bl t=>
   cases r1
   refine ⟨t,rfl, ?_⟩
   cases t with
   |true=>exact mD (h.ok s1 _ rfl)
   |false=>exact mF ⟨env,st1,as1,G1,s1,er1,h⟩
  |_=>exact h.elim
theorem Fs {a:Expr} (ha:PE X a (tE T P cl E ia)):PE X (.UnaryOp .Not a pos) (tE T P cl E (.not ia)):=
 PE.mono (CJ ha) fun σ H Q z903=>by
  obtain ⟨env,st,as,G,s,er,h⟩:=z903
  dsimp only [PI.E.run] at h
  refine az s er h fun x st1 as1 G1 H1 u s1 er1 r1 p1 l1 h=> ?_
  cases x with
  |bl t=>
   cases r1
   exact ⟨t,rfl,h.ok s1 _ rfl⟩
  |_=>exact h.elim
theorem DX {st:aa} {G H:Hp} {x:Val} {u:L2.V} {b:Bool} (hK:T.K=X.K) (s:Sim T st as G H) (r:dg T as G H x u) (e:truth x=some b):yw X.K u H b:=by
 cases x with
 |non=>cases r;cases e;rfl
 |bl t=>cases r;cases e;rfl
 |int i=>cases r;cases e;rfl
 |str y=>
  cases r
  replace e:(if y.length<=1000 then some ((y.length:Int) !=0) else none)=some b:=e
  split at e
  ·rename_i c
   cases e
   have z:sizeLine=2^24:=rfl
   exact ⟨by lia,rfl⟩
  ·cases e
 |tup fl xs=>
  obtain ⟨a,us,rfl,q,r⟩:=r
  cases e
  refine .inr (.inl ⟨us,bh s.sub q, ?_⟩)
  cases xs with
  |nil=>cases r;rfl
  |cons x xs=>obtain ⟨_,_,rfl,_⟩:=r;rfl
 |lst xs=>
  obtain ⟨a,us,rfl,q,r⟩:=r
  cases e
  refine .inl ⟨us,hK▸q, ?_⟩
  cases xs with
  |nil=>cases r;rfl
  |cons x xs=>obtain ⟨_,_,rfl,_⟩:=r;rfl
 |dct ks vs=>cases e
 |obj c ns vs=>cases e
 |ref k=>cases e
theorem FA {a:Expr} (hK:T.K=X.K) (ha:PE X a (tE T P cl E ia)) (he:∀whole,isTrue a X.env whole=(do let v←whole;standAt a.pos;holding [v] (truthy v))):PT X a (tT T P cl E ia):=
 PT.mono (xH ha he) fun σ H Q z903=>by
  obtain ⟨env,st,as,G,s,er,h⟩:=z903
  dsimp only [runC] at h
  refine az s er h fun x st1 as1 G1 H1 u s1 er1 r1 p1 l1 h=> ?_
  obtain ⟨b,e,h⟩:=ae.dP h
  exact ⟨b,DX hK s1 (bc s1 r1) e,h.ok s1⟩
theorem Ga {a b:Expr} {op:CmpOp} (ho:aK X (compareOp op) (cu T fun x y st=>cI (bw op x y st))) (hm:behindInMarks op b=false) (ha:PE X a (tE T P cl E ia)) (hb:PE X b (tE T P cl E ib)):PT X (.Compare a [op] [b] pos) (tT T P cl E (.cmp op ia ib)):=
 PT.mono (BE ho ha hb hm) fun σ H Q z903=>by
  obtain ⟨env,st,as,G,s,er,h⟩:=z903
  dsimp only [runC,PI.E.run] at h
  have h2:=h.bind
  refine az s er h2 fun x st1 as1 G1 H1 u s1 er1 r1 p1 l1 h=> ?_
  refine az s1 er1 h fun y st2 as2 G2 H2 w s2 er2 r2 p2 l2 h=> ?_
  refine ⟨st2,as2,G2,_,_,E σ,s2,bc s2 (r1.mono p2 l2),bc s2 r2, ?_⟩
  show ae T as2 G2 (cI (bw op (res st2 x) (res st2 y) st2)) _ _
  cases e:bw op (res st2 x) (res st2 y) st2 with
  |stuck=>rw [e] at h;exact h.elim
  |exc x st=>rw [e] at h;exact h
  |ok b st3=>
   rw [e] at h
   exact fun as' G' H' p l s u ru=>⟨b,ru,(h as' G' H' p l s).ok s⟩
theorem pH {e:PI.E} {env:Env} {st:aa} {G H:Hp} {σ:St} {f:Val->aa->R Bool} {Q K:Bool->Hp->Prop} (s:Sim T st as G H) (er:aJ T as G env σ)
  (h:ae T as G ((e.run P cl env st).bind f) (fun b _ _ _ H'=>Q b H') (E σ))
  (k:∀t st1 as1 G1 H1,Sim T st1 as1 G1 H1->aJ T as1 G1 env σ->ae T as1 G1 (f (.bl t) st1) (fun b _ _ _ H'=>Q b H') (E σ)->K t H1) (hb:∀v st,(∀t,v≠ .bl t)->f v st= .stuck):tT T P cl E e σ H K:=by
 refine ⟨env,st,as,G,s,er, ?_⟩
 unfold runC
 cases e1:e.run P cl env st with
 |stuck=>rw [e1] at h;exact h.elim
 |exc x st=>rw [e1] at h;exact h
 |ok v st1=>
  rw [e1] at h
  replace h:ae T as G (f v st1) (fun b _ _ _ H'=>Q b H') (E σ):=h
  by_cases z:∃t,v= .bl t
  ·obtain ⟨t,rfl⟩:=z
   exact fun as' G' H' p l s'=>k t st1 as' G' H' s' (er.mono p l) (h.mono p l)
  ·rw [hb v st1 fun t q=>z ⟨t,q⟩] at h
   exact h.elim
theorem kJ {β:Type} {v:Val} {st:aa} {f:Bool->aa->R β} (h:∀t,v≠ .bl t):(gh v st).bind f= .stuck:=by
 cases v with
 |bl t=>exact absurd rfl (h t)
 |_=>rfl
theorem R.bind_assoc {α β γ:Type} (r:R α) (f:α->aa->R β) (g:β->aa->R γ):(r.bind f).bind g=r.bind fun a st=>(f a st).bind g:=by
 cases r<;>rfl
theorem FP {a:Expr} (ha:PT X a (tT T P cl E ia)):PT X (.UnaryOp .Not a pos) (tT T P cl E (.not ia)):=
 PT.mono (D2 ha) fun σ H Q z903=>by
  obtain ⟨env,st,as,G,s,er,h⟩:=z903
  dsimp only [runC,PI.E.run] at h
  rw [R.bind_assoc] at h
  exact pH s er h (fun t st1 as1 G1 H1 s1 er1 h=>h.ok s1) fun v st n=>by rw [kJ n];rfl
theorem EY {a b:Expr} {rest:List Expr} (ha:PT X a (tT T P cl E ia)) (hb:PW X (.BoolOp .And (b::rest) pos) (tT T P cl E ib)):PW X (.BoolOp .And (a::b::rest) pos) (tT T P cl E (.and ia ib)):=fun wh pins s0 σ H Q I z907=>by
 obtain ⟨env,st,as,G,s,er,h⟩:=z907
 refine Ed ha hb wh pins s0 σ H Q I ?_
 dsimp only [runC,PI.E.run] at h
 rw [R.bind_assoc] at h
 refine pH s er h (fun t st1 as1 G1 H1 s1 er1 h=> ?_) fun v st n=>by rw [kJ n];rfl
 cases t with
 |true=>exact mD ⟨env,st1,as1,G1,s1,er1,h⟩
 |false=>exact mF (h.ok s1)
theorem He {a b:Expr} {rest:List Expr} (ha:PT X a (tT T P cl E ia)) (hb:PW X (.BoolOp .Or (b::rest) pos) (tT T P cl E ib)):PW X (.BoolOp .Or (a::b::rest) pos) (tT T P cl E (.or ia ib)):=fun wh pins s0 σ H Q I z907=>by
 obtain ⟨env,st,as,G,s,er,h⟩:=z907
 refine FN ha hb wh pins s0 σ H Q I ?_
 dsimp only [runC,PI.E.run] at h
 rw [R.bind_assoc] at h
 refine pH s er h (fun t st1 as1 G1 H1 s1 er1 h=> ?_) fun v st n=>by rw [kJ n];rfl
 cases t with
 |true=>exact mD (h.ok s1)
 |false=>exact mF ⟨env,st1,as1,G1,s1,er1,h⟩
theorem oB:PA X [] (dJ T P cl E []):=PA.mono o5 fun σ H Q z903=>by obtain ⟨env,st,as,G,s,er,h⟩:=z903;exact h.ok s _ rfl
theorem iZ {e:Expr} {ies:List PI.E} (ha:PE X e (tE T P cl E ie)) (hr:PA X es (dJ T P cl E ies)) (hs:starEach (e::es) X.env=(false,eval e X.env)::starEach es X.env):PA X (e::es) (dJ T P cl E (ie::ies)):=
 PA.mono (l6 ha hr hs) fun σ H Q z903=>by
  obtain ⟨env,st,as,G,s,er,h⟩:=z903
  dsimp only [aS] at h
  refine az s er h fun x st1 as1 G1 H1 u s1 er1 r1 p1 l1 h=> ?_
  refine cy s1 er1 h fun xs st2 as2 G2 H2 us s2 er2 r2 p2 l2 h=> ?_
  exact h.ok s2 _ ⟨u,us,rfl,r1.mono p2 l2,r2⟩
theorem Gn {ies:List PI.E} {k:Nat} (h:PA X es (dJ T P cl E ies)):PE X (.Tuple es k pos) (tE T P cl E (.tup ies)):=
 PE.mono (Ew h) fun σ H Q z903=>by
  obtain ⟨env,st,as,G,s,er,h⟩:=z903
  dsimp only [PI.E.run] at h
  refine cy s er h fun xs st1 as1 G1 H1 us s1 er1 r1 p1 l1 h=> ?_
  obtain ⟨c,h⟩:=ae.iff h
  have z:sizeLine=2^24:=rfl
  exact ⟨by rw [←r1.length];lia,fun l hl=>lZ s1 r1 h hl⟩
theorem Ff {ies:List PI.E} (h:PA X es (dJ T P cl E ies)):PE X (.List es pos) (tE T P cl E (.lst ies)):=
 PE.mono (Ej h) fun σ H Q z903=>by
  obtain ⟨env,st,as,G,s,er,h⟩:=z903
  dsimp only [PI.E.run] at h
  refine cy s er h fun xs st1 as1 G1 H1 us s1 er1 r1 p1 l1 h=> ?_
  obtain ⟨c,h⟩:=ae.iff h
  have z:sizeLine=2^24:=rfl
  exact ⟨by rw [←r1.length];lia,fun l hl=>fj s1 r1 h hl⟩
end
end PI
namespace PI
open PySem L2 L2.L3 L2.L4 PySem.SeqAt
structure COk (T:CT) (P:Pg):Prop where
 xc:∀(c:Nat) k,(P.cl c)=some k->T.xc c=k.exc
 cl:∀(c:Nat) k,(P.cl c)=some k->k.exc=false->Cls T.K (T.ca c)
 na:∀(c:Nat) k f,(P.cl c)=some k->k.exc=false->f∈k.flds->dI T.K (T.ca c) f
theorem sv {P:Pg} {c:Nat} {f:Str} (h:dQ P c f=true):∃k,(P.cl c)=some k/\f∈k.flds:=by
 unfold dQ at h
 cases e:(P.cl c) with
 |none=>rw [e] at h;cases h
 |some k=>
  rw [e] at h
  exact ⟨k,rfl,by simpa using h⟩
theorem mX {T:CT} {G:Hp} {f:Str}:∀{ns:List Str} {vs:List Val} {us:List L2.V} {v:Val},af T as G vs us->dq ns vs f=some v->∃u,(ns.zip us).lookup f=some u/\Rel T as G v u
 |[],_,_,_,_,e=>by cases e
 |_::_,[],_,_,_,e=>by cases e
 |n::ns,x::vs,_,v,⟨u,t,rfl,h,r⟩,e=>by
  unfold dq at e
  rw [List.zip_cons_cons,List.lookup_cons]
  by_cases z:n=f
  ·rw [if_pos z] at e
   cases e
   rw [show (f==n)=true by rw [z];simp]
   exact ⟨u,rfl,h⟩
  ·rw [if_neg z] at e
   rw [show (f==n)=false by simpa using fun q=>z q.symm]
   exact mX r e
section
variable {T:CT} {P:Pg} {cl:ar} {E:XS} {X:Cx} {pos:Pos}
theorem Fu {f:Str} (hK:T.K=X.K) (C:COk T P) (ho:PE X o (tE T P cl E io)) (hb:attributeBase o f X.env (eval o X.env)=eval o X.env) (hx:∀(c:Nat) k,(P.cl c)=some k->f∈k.flds->k.exc=false):PE X (.Attribute o f pos) (tE T P cl E (.fld io f)):=
 PE.mono (Cj ho hb) fun σ H Q z903=>by
  obtain ⟨env,st,as,G,s,er,h⟩:=z903
  dsimp only [PI.E.run] at h
  refine az s er h fun x st1 as1 G1 H1 u s1 er1 r1 p1 l1 h=> ?_
  have r2:=bc s1 r1
  generalize res st1 x=y at h r2
  cases y with
  |obj c ns vs=>
   obtain ⟨hc,h⟩:=ae.iff h
   obtain ⟨k,e1,e2⟩:=sv hc
   have ex:=hx c k e1 e2
   obtain ⟨a,us,rfl,n,r,q⟩:=r2
   rw [if_neg (by rw [C.xc c k e1,ex];decide)] at q
   obtain ⟨dx,q⟩:=q
   obtain ⟨v,e3,h⟩:=ae.dP h
   obtain ⟨w,e4,r4⟩:=mX r e3
   exact ⟨a,T.ca c,dx,_,w,rfl,q,hK▸C.cl c k e1 ex,hK▸C.na c k f e1 ex e2,e4,h.ok s1 _ r4⟩
  |_=>exact h.elim
end
end PI
namespace PI
open PySem PySem.Spec L2 L2.L3 L2.L4 PySem.SeqAt
open PyProof.Rows hiding St lobj
noncomputable def oE (T:CT) (as:List Addr) (G H:Hp):List Val->List L2.V->Prop
 |[],us=>us=[]
 |v::r,us=>∃u t,us=u::t/\dg T as G H v u/\oE T as G H r t
theorem kB {T:CT} {st:aa} {G H:Hp} (s:Sim T st as G H):∀{vs:List Val} {us:List L2.V},af T as G vs us->oE T as G H (vs.map (res st)) us
 |[],_,h=>h
 |_::_,_,⟨u,t,e,h,r⟩=>⟨u,t,e,bc s h,kB s r⟩
noncomputable def iF (T:CT) (b:Bi):List L2.V->Hp->VK->Prop:=fun us H Q=>∃st as G xs Z,Sim T st as G H/\oE T as G H xs us/\ae T as G (vA b xs st) (PV T Q) Z
theorem aA.imp {X:Cx} {f:Value} {r r':List L2.V->Hp->VK->Prop} (h:aA X f r) (k:∀xs H Q,r' xs H Q->r xs H Q):aA X f r':=fun pins s σ H xs us Q I rv q=>h pins s σ H xs us Q I rv (k xs H Q q)
section
variable {T:CT} {P:Pg} {cl:ar} {E:XS} {X:Cx} {pos:Pos}
theorem EL {b:Bi} {id:String} {x:Str} {p:Pos} {e:Expr} {ies:List PI.E} (hc:aA X (.builtin id) (iF T b)) (hg:Gl X x) (hm:X.mg x=none) (hv:bootBuiltins x=some (.builtin id)) (ha:PA X (e::es) (dJ T P cl E ies)) (hn:x≠"__name__") (hdb:(x==("__debug__":Str))=false)
  (he:starEach (e::es) X.env=(false,eval e X.env)::starEach es X.env) (hpl:(backTo pos (starEach es X.env)).any (·.1)=false):PE X (.Call (.Name x p) (e::es) [] pos) (tE T P cl E (.bi b ies)):=
 PE.mono (yN hc hg hm hv ha hn hdb he hpl) fun σ H Q z903=>by
  obtain ⟨env,st,as,G,s,er,h⟩:=z903
  dsimp only [PI.E.run] at h
  refine cy s er h fun xs st1 as1 G1 H1 us s1 er1 r1 p1 l1 h=> ?_
  exact ⟨st1,as1,G1,_,_,s1,kB s1 r1,h⟩
theorem Fd {b:Bi} {id:String} {x:Str} {p:Pos} {e:Expr} {ies:List PI.E} (hc:aA X (.type id) (iF T b)) (hg:Gl X x) (hm:X.mg x=none) (hv:bootBuiltins x=some (.type id)) (ha:PA X (e::es) (dJ T P cl E ies)) (hn:x≠"__name__") (hdb:(x==("__debug__":Str))=false)
  (he:starEach (e::es) X.env=(false,eval e X.env)::starEach es X.env) (hpl:(backTo pos (starEach es X.env)).any (·.1)=false):PE X (.Call (.Name x p) (e::es) [] pos) (tE T P cl E (.bi b ies)):=
 PE.mono (nB hc hg hm hv ha hn hdb he hpl) fun σ H Q z903=>by
  obtain ⟨env,st,as,G,s,er,h⟩:=z903
  dsimp only [PI.E.run] at h
  refine cy s er h fun xs st1 as1 G1 H1 us s1 er1 r1 p1 l1 h=> ?_
  exact ⟨st1,as1,G1,_,_,s1,kB s1 r1,h⟩
theorem dC {G H:Hp} {x:Val} (r:oE T as G H [x] us):∃u,us=[u]/\dg T as G H x u:=by
 obtain ⟨u,t,rfl,h,r⟩:=r
 cases r
 exact ⟨u,rfl,h⟩
theorem eN {b:Bi} {st:aa} {G:Hp} {Q:Val->aa->List Addr->Hp->Hp->Prop} {Z:XK} (h:ae T as G (vA b xs st) Q Z) (n2:∀x y st,Ex b x y st= .stuck:=by intros;rfl):∃x,xs=[x]:=by
 match xs with
 |[x]=>exact ⟨x,rfl⟩
 |[]=>exact h.elim
 |[x,y]=>
  replace h:ae T as G (Ex b x y st) Q Z:=h
  rw [n2] at h
  exact h.elim
 |x::y::z::r=>exact h.elim
theorem Az {G H:Hp} {a:Addr} {ks:List Val} (d:fb H a ks us) (r:af T as G vs us):(∃kvs,Rd H a (.dT kvs)/\kvs.length=ks.length)∨∃kvs,Rd H a (.dK kvs)/\kvs.length=ks.length:=by
 have kl:∀{ks:List Val} {kk:List Key},aH ks=some kk->kk.length=ks.length:=fun {ks}=>by
  induction ks with
  |nil=>intro kk e;cases e;rfl
  |cons k ks ih=>
   intro kk e
   unfold aH at e
   cases e1:bP k with
   |none=>rw [e1] at e;cases e
   |some k'=>
    cases e2:aH ks with
    |none=>rw [e1,e2] at e;cases e
    |some r=>rw [e1,e2] at e;cases e;simp [ih e2]
 have tl:∀{ks:List Val} {kk:List (List Key)},a8 ks=some kk->kk.length=ks.length:=fun {ks}=>by
  induction ks with
  |nil=>intro kk e;cases e;rfl
  |cons k ks ih=>
   intro kk e
   unfold a8 at e
   cases e1:cG k with
   |none=>rw [e1] at e;cases e
   |some k'=>
    cases e2:a8 ks with
    |none=>rw [e1,e2] at e;cases e
    |some r=>rw [e1,e2] at e;cases e;simp [ih e2]
 rcases d with ⟨kk,e,n,h⟩|⟨kk,e,n,h⟩
 ·exact .inr ⟨_,h,by rw [List.length_zip,←n,Nat.min_self];exact kl e⟩
 ·exact .inl ⟨_,h,by rw [List.length_zip,←n,Nat.min_self];exact tl e⟩
theorem vE (hK:T.K=X.K):aA X (.builtin "len") (iF T .len):=by
 refine aA.imp (((o7 (X:=X)).or qu).or vQ) fun us H Q z903=> ?_;obtain ⟨st,as,G,xs,Z,s,r0,p0⟩:=z903
 obtain ⟨x,rfl⟩:=eN p0
 obtain ⟨u,rfl,r⟩:=dC r0
 obtain ⟨v,e,p⟩:=ae.dP (show ae T as G (R.ak ((gq x).map .int) st) (PV T Q) Z from p0)
 clear r0 p0
 obtain ⟨n,e1,rfl⟩:=Option.map_eq_some_iff.mp e
 clear e
 have q:=p.ok s _ rfl
 cases x with
 |tup fl xs=>
  obtain ⟨a,us,rfl,h1,h2⟩:=r
  cases e1
  exact .inl (.inl ⟨a,us,rfl, .inr (bh s.sub h1),by rw [←h2.length];exact q⟩)
 |lst xs=>
  obtain ⟨a,us,rfl,h1,h2⟩:=r
  cases e1
  exact .inl (.inl ⟨a,us,rfl, .inl (hK▸h1),by rw [←h2.length];exact q⟩)
 |dct ks vs=>
  obtain ⟨a,us,rfl,h1,h2⟩:=r
  cases e1
  refine .inr ⟨a,rfl, ?_⟩
  rcases Az h1 h2 with ⟨kvs,h,z⟩|⟨kvs,h,z⟩
  ·exact .inl ⟨kvs,h,by rw [z];exact q⟩
  ·exact .inr ⟨kvs,h,by rw [z];exact q⟩
 |str x=>
  cases r
  replace e1:(if x.length<=1000 then some (x.length:Int) else none)=some n:=e1
  split at e1
  ·cases e1
   have z:sizeLine=2^24:=rfl
   exact .inl (.inr ⟨x,rfl,by lia,q⟩)
  ·cases e1
 |_=>cases e1
theorem vj:aA X (.builtin "abs") (iF T .abs):=by
 refine aA.imp ye fun us H Q z903=> ?_;obtain ⟨st,as,G,xs,Z,s,r0,p0⟩:=z903
 obtain ⟨x,rfl⟩:=eN p0
 obtain ⟨u,rfl,r⟩:=dC r0
 cases x with
 |int i=>
  cases r
  refine ⟨i,rfl, ?_⟩
  have q:=p0.ok s _ rfl
  rw [show (if i<0 then-i else i)=(i.natAbs:Int) by split<;>lia]
  exact q
 |_=>exact p0.elim
theorem uz:aA X (.type "int") (iF T .int):=by
 refine aA.imp vc fun us H Q z903=> ?_;obtain ⟨st,as,G,xs,Z,s,r0,p0⟩:=z903
 obtain ⟨x,rfl⟩:=eN p0
 obtain ⟨u,rfl,r⟩:=dC r0
 cases x with
 |int i=>
  cases r
  exact .inl ⟨i,rfl,p0.ok s _ rfl⟩
 |bl b=>
  cases r
  exact .inr ⟨b,rfl,p0.ok s _ rfl⟩
 |_=>exact p0.elim
theorem q8 (hK:T.K=X.K):aA X (.type "tuple") (iF T .tuple):=by
 refine aA.imp ((yC (X:=X)).or vk) fun us H Q z903=> ?_;obtain ⟨st,as,G,xs,Z,s,r0,p0⟩:=z903
 obtain ⟨x,rfl⟩:=eN p0
 obtain ⟨u,rfl,r⟩:=dC r0
 cases x with
 |tup fl xs=>
  have r1:=r
  obtain ⟨a,us,rfl,h1,h2⟩:=r
  exact .inl ⟨a,us,rfl, .inr ⟨bh s.sub h1,p0.ok s _ r1⟩⟩
 |lst xs=>
  obtain ⟨a,us,rfl,h1,h2⟩:=r
  exact .inr ⟨a,us,rfl,hK▸h1,fun l o hl ho=>xV s h2 p0 hl ho⟩
 |_=>exact p0.elim
theorem uf (hK:T.K=X.K):aA X (.type "list") (iF T .list):=by
 refine aA.imp y0 fun us H Q z903=> ?_;obtain ⟨st,as,G,xs,Z,s,r0,p0⟩:=z903
 obtain ⟨x,rfl⟩:=eN p0
 obtain ⟨u,rfl,r⟩:=dC r0
 cases x with
 |tup fl xs=>
  obtain ⟨a,us,rfl,h1,h2⟩:=r
  exact ⟨a,us,rfl, .inr (bh s.sub h1),fun l hl=>fj s h2 p0 hl⟩
 |lst xs=>
  obtain ⟨a,us,rfl,h1,h2⟩:=r
  exact ⟨a,us,rfl, .inl (hK▸h1),fun l hl=>fj s h2 p0 hl⟩
 |_=>exact p0.elim
theorem all_bools {G:Hp}:∀{xs:List Val} {us:List L2.V} {b:Bool},af T as G xs us->allB xs=some b->∃ys:List Bool,us=ys.map V.bl/\ys.all id=b
 |[],_,_,h,e=>by
  cases h
  cases e
  exact ⟨[],rfl,rfl⟩
 | .bl c::r,_,b,⟨u,t,z,h,q⟩,e=>by
  unfold allB at e
  obtain ⟨d,e1,rfl⟩:=Option.map_eq_some_iff.mp e
  obtain ⟨ys,e2,e3⟩:=all_bools q e1
  cases h
  subst z e2
  exact ⟨c::ys,rfl,by rw [List.all_cons,e3];rfl⟩
 | .non::_,_,_,_,e=>by cases e
 | .int _::_,_,_,_,e=>by cases e
 | .str _::_,_,_,_,e=>by cases e
 | .tup _ _::_,_,_,_,e=>by cases e
 | .lst _::_,_,_,_,e=>by cases e
 | .dct _ _::_,_,_,_,e=>by cases e
 | .obj _ _ _::_,_,_,_,e=>by cases e
 | .ref _::_,_,_,_,e=>by cases e
theorem uD (hK:T.K=X.K) (hc:X.calm=true):aA X (.builtin "all") (iF T .all):=by
 refine aA.imp (xF hc) fun us H Q z903=> ?_;obtain ⟨st,as,G,xs,Z,s,r0,p0⟩:=z903
 obtain ⟨x,rfl⟩:=eN p0
 obtain ⟨u,rfl,r⟩:=dC r0
 cases x with
 |lst xs=>
  obtain ⟨a,us,rfl,h1,h2⟩:=r
  obtain ⟨v,e,p⟩:=ae.dP (show ae T as G (R.ak ((allB xs).map .bl) st) (PV T Q) Z from p0)
  obtain ⟨b,e1,rfl⟩:=Option.map_eq_some_iff.mp e
  obtain ⟨ys,e2,e3⟩:=all_bools h2 e1
  subst e2
  exact ⟨a,ys,rfl,hK▸h1,by rw [e3];exact p.ok s _ rfl⟩
 |_=>exact p0.elim
theorem any_bools {G:Hp}:∀{xs:List Val} {us:List L2.V} {b:Bool},af T as G xs us->anyB xs=some b->∃ys:List Bool,us=ys.map V.bl/\ys.any id=b
 |[],_,_,h,e=>by
  cases h
  cases e
  exact ⟨[],rfl,rfl⟩
 | .bl c::r,_,b,⟨u,t,z,h,q⟩,e=>by
  unfold anyB at e
  obtain ⟨d,e1,rfl⟩:=Option.map_eq_some_iff.mp e
  obtain ⟨ys,e2,e3⟩:=any_bools q e1
  cases h
  subst z e2
  exact ⟨c::ys,rfl,by rw [List.any_cons,e3];rfl⟩
 | .non::_,_,_,_,e=>by cases e
 | .int _::_,_,_,_,e=>by cases e
 | .str _::_,_,_,_,e=>by cases e
 | .tup _ _::_,_,_,_,e=>by cases e
 | .lst _::_,_,_,_,e=>by cases e
 | .dct _ _::_,_,_,_,e=>by cases e
 | .obj _ _ _::_,_,_,_,e=>by cases e
 | .ref _::_,_,_,_,e=>by cases e
theorem sum_ints {G:Hp}:∀{xs:List Val} {us:List L2.V} {a n:Int},af T as G xs us->gr a xs=some n->∃ns:List Int,us=ns.map V.int/\a+ns.sum=n
 |[],_,a,n,h,e=>by
  cases h
  cases e
  exact ⟨[],rfl,by simp⟩
 | .int i::r,_,a,n,⟨u,t,z,h,q⟩,e=>by
  obtain ⟨ns,e2,e3⟩:=sum_ints (a:=a+i) q e
  cases h
  subst z e2
  exact ⟨i::ns,rfl,by rw [List.sum_cons];lia⟩
 | .non::_,_,_,_,_,e=>by cases e
 | .bl _::_,_,_,_,_,e=>by cases e
 | .str _::_,_,_,_,_,e=>by cases e
 | .tup _ _::_,_,_,_,_,e=>by cases e
 | .lst _::_,_,_,_,_,e=>by cases e
 | .dct _ _::_,_,_,_,_,e=>by cases e
 | .obj _ _ _::_,_,_,_,_,e=>by cases e
 | .ref _::_,_,_,_,_,e=>by cases e
noncomputable def HC (K:PySem.W.Frag):List L2.V->Hp->VK->Prop:=fun xs H Q=>∃p,∃ys:List Bool,xs=[.ref p]/\bH K H p (ys.map V.bl)/\Q (.bl (ys.any id)) H
theorem wd {X:Cx} (hc:X.calm=true):aA X (.builtin "any") (HC X.K):=by
 intro pins s σ H xs us Q I r h
 obtain ⟨p,ys,rfl,hp,q⟩:=h
 obtain ⟨u,rfl,r1⟩:=Vals.one r
 cases r1
 obtain ⟨its,rv,g,hz⟩:=I.list hp
 have lt:p<s.heap.objs.size:=by
  obtain ⟨o,n,e,_⟩:=g
  exact Heap.lt_size e
 have hl:its.length=ys.length:=by rw [←rv.length,List.length_map]
 have hsz:its.toArray.size=ys.length:=by rw [List.size_toArray,hl]
 refine call_any_walk (wpAny_pyIter_list g.isList ⟨s.heap.objs.size,[s.heap.objs.size,p],[s.heap.objs.size],its.toArray.size,_,_,fun i=>(ys[i]?).getD false,rfl,PySem.Walks.list (A:=X.A.in1) (I.ok.hd hc) s.heap.objs.size p (Nat.ne_of_lt lt) its.toArray,
  ⟨⟨_,Heap.get?_push_size _ rfl,rfl,rfl⟩,g.isList.push _⟩,fun i v s1 Q1 E1 hv hq=> ?_,fun h' tk hk=> ?_⟩)
 ·have hv':its[i]?=some v:=by simpa using hv
  have hi:i<ys.length:=by
   have:=(List.getElem?_eq_some_iff.mp hv').1
   lia
  obtain ⟨w',hw,rw'⟩:=rv.get (i:=i) (x:=V.bl ys[i]) (by rw [List.getElem?_map,List.getElem?_eq_getElem hi];rfl)
  rw [hv'] at hw
  cases hw
  cases rw'
  replace hq:Q1 ((ys[i]?).getD false) s1:=hq
  rw [List.getElem?_eq_getElem hi] at hq
  exact wpAny_truthy_bool hq
 ·refine ⟨.bl (ys.any id),H,I.kept (t':=tk) fun b o e=>hk b o (fun z=> ?_) (Heap.get?_push_of_some _ e), ?_,q⟩
  ·rw [List.mem_singleton.mp z] at e
   exact absurd (Heap.lt_size e) (Nat.lt_irrefl _)
  ·show Value.bool _=_
   rw [hsz,PyProof.Rows.LSm.range_any]
noncomputable def Ho (K:PySem.W.Frag):List L2.V->Hp->VK->Prop:=fun xs H Q=>∃p,∃ns:List Int,xs=[.ref p]/\bH K H p (ns.map V.int)/\Q (.int ns.sum) H
theorem uZ {X:Cx} (hc:X.calm=true):aA X (.builtin "sum") (Ho X.K):=by
 intro pins s σ H xs us Q I r h
 obtain ⟨p,ns,rfl,hp,q⟩:=h
 obtain ⟨u,rfl,r1⟩:=Vals.one r
 cases r1
 obtain ⟨its,rv,g,hz⟩:=I.list hp
 have hi:=intsAre_of rv
 obtain ⟨xs,hx⟩:=hi.allInts.items
 have hl':s.heap.IsList p (intItems xs):=hx▸g.isList
 refine sum_intListG (I.ok.hd hc) hl' fun h' tk t' hk=> ?_
 have e1:ns=xs.toList.map (·.1):=by
  rw [←nums_intItems,←hx]
  exact (show numsOf its.toArray.toList=ns from hi.numsOf).symm
 have e2:preSum (numAt xs) xs.size=ns.sum:=by
  rw [preSum_eq,List.take_of_length_le (by simp),e1]
 rw [e2]
 exact ⟨.int ns.sum,H,I.kept (t':=tk) hk,⟨t',rfl⟩,q⟩
theorem uB (hK:T.K=X.K) (hc:X.calm=true):aA X (.builtin "any") (iF T .any):=by
 refine aA.imp (wd hc) fun us H Q z903=> ?_;obtain ⟨st,as,G,xs,Z,s,r0,p0⟩:=z903
 obtain ⟨x,rfl⟩:=eN p0
 obtain ⟨u,rfl,r⟩:=dC r0
 cases x with
 |lst xs=>
  obtain ⟨a,us,rfl,h1,h2⟩:=r
  obtain ⟨v,e,p⟩:=ae.dP (show ae T as G (R.ak ((anyB xs).map .bl) st) (PV T Q) Z from p0)
  obtain ⟨b,e1,rfl⟩:=Option.map_eq_some_iff.mp e
  obtain ⟨ys,e2,e3⟩:=any_bools h2 e1
  subst e2
  exact ⟨a,ys,rfl,hK▸h1,by rw [e3];exact p.ok s _ rfl⟩
 |_=>exact p0.elim
theorem wG (hK:T.K=X.K) (hc:X.calm=true):aA X (.builtin "sum") (iF T .sum):=by
 refine aA.imp (uZ hc) fun us H Q z903=> ?_;obtain ⟨st,as,G,xs,Z,s,r0,p0⟩:=z903
 obtain ⟨x,rfl⟩:=eN p0
 obtain ⟨u,rfl,r⟩:=dC r0
 cases x with
 |lst xs=>
  obtain ⟨a,us,rfl,h1,h2⟩:=r
  obtain ⟨v,e,p⟩:=ae.dP (show ae T as G (R.ak ((gr 0 xs).map .int) st) (PV T Q) Z from p0)
  obtain ⟨n,e1,rfl⟩:=Option.map_eq_some_iff.mp e
  obtain ⟨ns,e2,e3⟩:=sum_ints h2 e1
  subst e2
  rw [Int.zero_add] at e3
  exact ⟨a,ns,rfl,hK▸h1,by rw [e3];exact p.ok s _ rfl⟩
 |_=>exact p0.elim
end
end PI
namespace PI
open PySem L2 L2.L3 L2.L4 PySem.SeqAt
noncomputable def aF (T:CT) (as:List Addr) (G:Hp) (r:F) (D:Ends) (E:XS):Prop:=match r with
 | .next env st=>∀as' G' H' σ',as<+:as'->Le G G'->Sim T st as' G' H'->aJ T as' G' env σ'->D.nx σ' H'
 | .brk env st=>∀as' G' H' σ',as<+:as'->Le G G'->Sim T st as' G' H'->aJ T as' G' env σ'->D.bk σ' H'
 | .cont env st=>∀as' G' H' σ',as<+:as'->Le G G'->Sim T st as' G' H'->aJ T as' G' env σ'->D.ct σ' H'
 | .ret v st=>∀as' G' H' u,as<+:as'->Le G G'->Sim T st as' G' H'->Rel T as' G' v u->D.rt u H'
 | .exc x env st=>∀as' G' H' σ' cls dx,as<+:as'->Le G G'->Sim T st as' G' H'->aJ T as' G' env σ'->Et T as' G' x cls dx->E σ' cls dx H'
 | .stuck=>False
theorem aF.mono {T:CT} {bs:List Addr} {G G2:Hp} {r:F} {D:Ends} {E:XS} (p:as<+:bs) (l:Le G G2) (h:aF T as G r D E):aF T bs G2 r D E:=by
 cases r with
 |next env st=>exact fun as' G' H' σ' p' l'=>h as' G' H' σ' (p.trans p') (l.trans l')
 |brk env st=>exact fun as' G' H' σ' p' l'=>h as' G' H' σ' (p.trans p') (l.trans l')
 |cont env st=>exact fun as' G' H' σ' p' l'=>h as' G' H' σ' (p.trans p') (l.trans l')
 |ret v st=>exact fun as' G' H' u p' l'=>h as' G' H' u (p.trans p') (l.trans l')
 |exc x env st=>exact fun as' G' H' σ' cls dx p' l'=>h as' G' H' σ' cls dx (p.trans p') (l.trans l')
 |stuck=>exact h
noncomputable def tS (T:CT) (P:Pg) (cl:ar) (E:XS) (s:PI.S):TS:=fun D σ H=>∃env st as G,Sim T st as G H/\aJ T as G env σ/\aF T as G (s.run P cl env st) D E
noncomputable def nW (T:CT) (P:Pg) (cl:ar) (E:XS) (ss:List PI.S):TS:=fun D σ H=>∃env st as G,Sim T st as G H/\aJ T as G env σ/\aF T as G (aP P cl ss env st) D E
theorem PS.mono {X:Cx} {e:Stmt} {t t':TS} (h:PS X e t) (k:∀D σ H,t' D σ H->t D σ H):PS X e t':=fun pins s σ H D I q=>h pins s σ H D I (k D σ H q)
theorem di.mono {X:Cx} {e:List Stmt} {t t':TS} (h:di X e t) (k:∀D σ H,t' D σ H->t D σ H):di X e t':=fun pins s σ H D I q=>h pins s σ H D I (k D σ H q)
theorem aJ.set {T:CT} {G:Hp} {env:Env} {σ:St} {v:Val} {u:L2.V} (h:aJ T as G env σ) (i:Nat) (r:Rel T as G v u):aJ T as G (env.set i (some v)) (σ.set i (some u)):=by
 refine ⟨by simp [h.1],fun j w e=> ?_⟩
 by_cases hj:j=i
 ·subst hj
  have lj:j<env.length:=by
   have:=(List.getElem?_eq_some_iff.mp e).1
   simpa using this
  rw [List.getElem?_set_self lj] at e
  cases e
  exact ⟨u,by rw [List.getElem?_set_self (by rw [←h.1];exact lj)],r⟩
 ·rw [List.getElem?_set_ne (fun z=>hj z.symm)] at e
  rw [List.getElem?_set_ne (fun z=>hj z.symm)]
  exact h.2 j w e
section
variable {T:CT} {P:Pg} {cl:ar} {E:XS} {X:Cx} {pos:Pos}
theorem oG {e:PI.E} {env:Env} {st:aa} {G H:Hp} {σ:St} {f:Val->aa->F} {D:Ends} {K:VK} (s:Sim T st as G H) (er:aJ T as G env σ)
  (h:aF T as G (F.of env (e.run P cl env st) f) D E)
  (k:∀v st1 as1 G1 H1 u,Sim T st1 as1 G1 H1->aJ T as1 G1 env σ->Rel T as1 G1 v u->aF T as1 G1 (f v st1) D E->K u H1):tE T P cl E e σ H K:=by
 refine ⟨env,st,as,G,s,er, ?_⟩
 cases e1:e.run P cl env st with
 |ok v st1=>
  rw [e1] at h
  exact fun as' G' H' p l s' u r=>k v st1 as' G' H' u s' (er.mono p l) r (aF.mono p l h)
 |exc x st1=>
  rw [e1] at h
  exact fun as' G' H' cls dx p l s' x=>h as' G' H' σ cls dx p l s' (er.mono p l) x
 |stuck=>
  rw [e1] at h
  exact h.elim
theorem FT {e:PI.E} {env:Env} {st:aa} {G H:Hp} {σ:St} {f:Bool->aa->F} {D:Ends} {K:Bool->Hp->Prop} (s:Sim T st as G H) (er:aJ T as G env σ)
  (h:aF T as G (F.of env (runC P cl (some e) env st) f) D E)
  (k:∀v st1 as1 G1 H1,Sim T st1 as1 G1 H1->aJ T as1 G1 env σ->aF T as1 G1 (f v st1) D E->K v H1):tT T P cl E e σ H K:=by
 refine ⟨env,st,as,G,s,er, ?_⟩
 cases e1:runC P cl (some e) env st with
 |ok v st1=>
  rw [e1] at h
  exact fun as' G' H' p l s'=>k v st1 as' G' H' s' (er.mono p l) (aF.mono p l h)
 |exc x st1=>
  rw [e1] at h
  exact fun as' G' H' cls dx p l s' x=>h as' G' H' σ cls dx p l s' (er.mono p l) x
 |stuck=>
  rw [e1] at h
  exact h.elim
theorem Ge {i:Nat} {x:Str} {e:Expr} (hN:X.N.Nodup) (hi:X.N[i]?=some x) (hx:Loc X.env.scope x) (he:PE X e (tE T P cl E ie)) (hs:swapsWith e (some (.Name x pos')) pos.line X.env=pure false) (hf:X.fn x=true∨X.env.scope.names.lookup x=some .local):PS X (.Assign [.Name x pos'] e pos) (tS T P cl E (.set (.var i) ie)):=
 PS.mono (DD hN hi hx he hs hf) fun D σ H z903=>by
  obtain ⟨env,st,as,G,s,er,h⟩:=z903
  dsimp only [PI.S.run] at h
  refine oG s er h fun v st1 as1 G1 H1 u s1 er1 r1 h=> ?_
  unfold PI.T.put at h
  split at h
  ·exact h as1 G1 H1 _ (List.prefix_refl _) (Le.refl _) s1 (er1.set i r1)
  ·exact h.elim
theorem Er {e:Expr} (he:PE X e (tE T P cl E ie)) (hs:swapsWith e none pos.line X.env=pure false):PS X (.Expr e pos) (tS T P cl E (.expr ie)):=
 PS.mono (Bq he hs) fun D σ H z903=>by
  obtain ⟨env,st,as,G,s,er,h⟩:=z903
  dsimp only [PI.S.run] at h
  exact oG s er h fun v st1 as1 G1 H1 u s1 er1 r1 h=>h as1 G1 H1 _ (List.prefix_refl _) (Le.refl _) s1 er1
theorem ET {e:Expr} (he:PE X e (tE T P cl E ie)):PS X (.Return (some e) pos) (tS T P cl E (.ret ie)):=
 PS.mono (D7 he) fun D σ H z903=>by
  obtain ⟨env,st,as,G,s,er,h⟩:=z903
  dsimp only [PI.S.run] at h
  exact oG s er h fun v st1 as1 G1 H1 u s1 er1 r1 h=>h as1 G1 H1 _ (List.prefix_refl _) (Le.refl _) s1 r1
theorem Ey:PS X (.Return none pos) (tS T P cl E .retN):=
 PS.mono BF fun D σ H z903=>by obtain ⟨env,st,as,G,s,er,h⟩:=z903;exact h as G H _ (List.prefix_refl _) (Le.refl _) s rfl
theorem Kc {c:Expr} {a b:List Stmt} {ia ib:List PI.S} (hc:PT X c (tT T P cl E ic)) (ha:di X a (nW T P cl E ia)) (hb:di X b (nW T P cl E ib)):PS X (.If c a b pos) (tS T P cl E (.ife ic ia ib)):=
 PS.mono (Fz hc ha hb) fun D σ H z903=>by
  obtain ⟨env,st,as,G,s,er,h⟩:=z903
  dsimp only [PI.S.run] at h
  refine FT s er h fun t st1 as1 G1 H1 s1 er1 h=> ?_
  cases t with
  |true=>exact mD ⟨env,st1,as1,G1,s1,er1,h⟩
  |false=>exact mF ⟨env,st1,as1,G1,s1,er1,h⟩
theorem Dr:di X [] (nW T P cl E []):=di.mono AG fun D σ H z903=>by obtain ⟨env,st,as,G,s,er,h⟩:=z903;exact h as G H σ (List.prefix_refl _) (Le.refl _) s er
theorem aF.bind {as:List Addr} {G:Hp} {r:F} {k:Env->aa->F} {D:Ends} (h:aF T as G (r.bind k) D E):aF T as G r {D with nx:=fun σ' H'=>∃env st as' G',Sim T st as' G' H'/\aJ T as' G' env σ'/\aF T as' G' (k env st) D E} E:=by
 cases r with
 |next env st=>exact fun as' G' H' σ' p l s er=>⟨env,st,as',G',s,er,aF.mono p l h⟩
 |brk env st=>exact h
 |cont env st=>exact h
 |ret v st=>exact h
 |exc x env st=>exact h
 |stuck=>exact h
theorem A8 {a:Stmt} {b:List Stmt} {ia:PI.S} {ib:List PI.S} (ha:PS X a (tS T P cl E ia)) (hb:di X b (nW T P cl E ib)):di X (a::b) (nW T P cl E (ia::ib)):=
 di.mono (zi ha hb) fun D σ H z903=>by
  obtain ⟨env,st,as,G,s,er,h⟩:=z903
  dsimp only [aP] at h
  exact ⟨env,st,as,G,s,er,h.bind⟩
theorem aF.iff {G:Hp} {c:Prop} {r:F} {D:Ends} (h:aF T as G (iS c r) D E):c/\aF T as G r D E:=by
 unfold iS at h
 split at h
 ·rename_i z
  exact ⟨z,h⟩
 ·exact h.elim
noncomputable def Src (T:CT) (b:Bool) (a:Addr) (items:List Val) (chk:List (Nat×Ob)) (as:List Addr) (G:Hp):Prop:=(∃us,jq b T.K G a us/\af T as G items us)∨(b=true/\∃k,(k,Ob.lst items)∈chk/\as[k]?=some a)
theorem Src.mono {b:Bool} {a:Addr} {chk:List (Nat×Ob)} {G G':Hp} (p:as<+:as') (l:Le G G') (h:Src T b a items chk as G):Src T b a items chk as' G':=by
 rcases h with ⟨us,h1,h2⟩|⟨rfl,k,h1,h2⟩
 ·refine .inl ⟨us, ?_,h2.mono p l⟩
  cases b
  ·exact zT l h1
  ·exact bT l h1
 ·exact .inr ⟨rfl,k,h1,jF p h2⟩
theorem Src.now {b:Bool} {a:Addr} {chk:List (Nat×Ob)} {st:aa} {G H:Hp} (s:Sim T st as G H) (kp:Kept chk st) (h:Src T b a items chk as G):∃us,jq b T.K H a us/\af T as G items us:=by
 rcases h with ⟨us,h1,h2⟩|⟨rfl,k,h1,h2⟩
 ·refine ⟨us, ?_,h2⟩
  cases b
  ·exact zT s.sub h1
  ·exact bT s.sub h1
 ·obtain ⟨us,q,r⟩:=s.ob k _ a (kp _ h1) h2
  exact ⟨us, .inl (.inl q),r⟩
noncomputable def zS (K:PySem.W.Frag) (b:Bool) (a:Addr):It:=cond b (El K a) (DU K a)
end
end PI
namespace PI
open PySem L2 L2.L3 L2.L4 PySem.SeqAt
noncomputable def tG (T:CT) (t:PI.T):TG:=fun u σ H Q=>∃env st as G v env',Sim T st as G H/\aJ T as G env σ/\Rel T as G v u/\t.put v env=some env'/\∀σ',aJ T as G env' σ'->Q σ' H
noncomputable def vF (T:CT) (ts:List PI.T):kM:=fun us σ H Q=>∃env st as G vs env',Sim T st as G H/\aJ T as G env σ/\af T as G vs us/\bF vs env ts=some env'/\∀σ',aJ T as G env' σ'->Q σ' H
theorem PG.mono {X:Cx} {e:Expr} {t t':TG} (h:PG X e t) (k:∀v σ H Q,t' v σ H Q->t v σ H Q):PG X e t':=fun pins s σ H v u Q I r q=>h pins s σ H v u Q I r (k v σ H Q q)
theorem gf.mono {X:Cx} {e:List Expr} {t t':kM} (h:gf X e t) (k:∀v σ H Q,t' v σ H Q->t v σ H Q):gf X e t':=fun pins s σ H v u Q I r q=>h pins s σ H v u Q I r (k v σ H Q q)
section
variable {T:CT} {P:Pg} {cl:ar} {E:XS} {X:Cx} {pos:Pos}
theorem Fv {i:Nat} {x:Str} (hN:X.N.Nodup) (hi:X.N[i]?=some x) (hx:Loc X.env.scope x) (hf:X.fn x=true∨X.env.scope.names.lookup x=some .local):PG X (.Name x pos) (tG T (.var i)):=
 PG.mono (B3 hN hi hx hf) fun u σ H Q z904=>by
  obtain ⟨env,st,as,G,v,env',s,er,r,e,k⟩:=z904
  unfold PI.T.put at e
  split at e
  ·cases e
   exact k _ (er.set i r)
  ·cases e
theorem Ca:gf X [] (vF T []):=gf.mono A6 fun us σ H Q z904=>by
 obtain ⟨env,st,as,G,vs,env',s,er,r,e,k⟩:=z904
 cases vs with
 |nil=>
  cases r
  cases e
  exact ⟨rfl,k σ er⟩
 |cons v vs=>cases e
theorem A9 {e:Expr} {t:PI.T} {ts:List PI.T} (h1:PG X e (tG T t)) (h2:gf X es (vF T ts)) (hs:(assignEach (e::es) X.env).map (·.2)=assign e X.env::(assignEach es X.env).map (·.2)):gf X (e::es) (vF T (t::ts)):=
 gf.mono (xQ h1 h2 hs) fun us σ H Q z904=>by
  obtain ⟨env,st,as,G,vs,env',s,er,r,e,k⟩:=z904
  cases vs with
  |nil=>cases e
  |cons v vs=>
   obtain ⟨u,us',rfl,r1,r2⟩:=r
   replace e:(t.put v env).bind (fun env=>bF vs env ts)=some env':=by unfold bF at e;exact e
   cases e1:t.put v env with
   |none=>rw [e1] at e;cases e
   |some env1=>
    rw [e1] at e
    exact ⟨u,us',rfl,env,st,as,G,v,env1,s,er,r1,e1,fun σ' er'=>⟨env1,st,as,G,vs,env',s,er',r2,e,k⟩⟩
theorem mY:∀{ts:List PI.T} {vs:List Val} {env env':Env},bF vs env ts=some env'->vs.length=ts.length
 |[],[],_,_,_=>rfl
 |[],_::_,_,_,e=>by cases e
 |_::_,[],_,_,e=>by cases e
 |t::ts,v::vs,env,env',e=>by
  replace e:(t.put v env).bind (fun env=>bF vs env ts)=some env':=by unfold bF at e;exact e
  cases e1:t.put v env with
  |none=>rw [e1] at e;cases e
  |some env1=>
   rw [e1] at e
   rw [List.length_cons,List.length_cons,mY (show bF vs env1 ts=some env' from e)]
theorem Gj {ts:List PI.T} {k:Nat} {n:Nat} (hK:T.K=X.K) (hc:X.calm=true) (h:gf X es (vF T ts)) (hl:ts.length=n) (hn:(assignEach es X.env).length=n) (hst:(assignEach es X.env).findIdx? (·.1)=none):PG X (.Tuple es k pos) (tG T (.tup ts)):=
 PG.mono (Dn hc h hn hst) fun u σ H Q z904=>by
  obtain ⟨env,st,as,G,v,env',s,er,r,e,k⟩:=z904
  cases v with
  |tup fl xs=>
   obtain ⟨a,us,rfl,q,r⟩:=r
   replace e:bF xs env ts=some env':=by unfold PI.T.put at e;exact e
   exact ⟨a,us,rfl,bh s.sub q,by rw [←r.length,mY e];exact hl,env,st,as,G,xs,env',s,er,r,e,k⟩
  |_=>(unfold PI.T.put at e;cases e)
structure Walks (T:CT) (J:It) (items:List Val) (chk:List (Nat×Ob)) (src:List Addr->Hp->Prop):Prop where
 mono:∀{as as' G G'},as<+:as'->Le G G'->src as G->src as' G'
 stop:∀{st as G H},Sim T st as G H->Kept chk st->src as G->J.stop items.length H
 go:∀{st as G H} {i:Nat},i<items.length->Sim T st as G H->Kept chk st->src as G->J.go i H
 yld:∀{st as G H x H'} {i:Nat},i<items.length->Sim T st as G H->Kept chk st->src as G->J.yld i H x H'->∃v G',items[i]?=some v/\Le G G'/\Sim T st as G' H'/\Rel T as G' v x
noncomputable def tQ (T:CT) (P:Pg) (cl:ar) (E:XS) (q:PI.Q):TI:=fun σ H R=>∃env st as G,Sim T st as G H/\aJ T as G env σ/\ae T as G (q.run P cl env st) (fun it _ as' G' H'=>∀J src,Walks T J it.1 it.2 src->src as' G'->R J H') (E σ)
theorem PI.mono {X:Cx} {e:Expr} {t t':TI} (h:L2.PI X tg e t) (k:∀σ H R,t' σ H R->t σ H R):L2.PI X tg e t':=fun pins s σ H R I q=>h pins s σ H R I (k σ H R q)
theorem js (b:Bool) (a:Addr) (items:List Val) (chk:List (Nat×Ob)):Walks T (zS T.K b a) items chk (Src T b a items chk) where
 mono p l h:=h.mono p l
 stop s kp h:=by
  obtain ⟨us,q,r⟩:=h.now s kp
  cases b
  ·exact ⟨us,q,by rw [r.length];exact Nat.le_refl _⟩
  ·exact ⟨us,q,by rw [r.length];exact Nat.le_refl _⟩
 go hi s kp h:=by
  obtain ⟨us,q,r⟩:=h.now s kp
  obtain ⟨u,e,_⟩:=r.get (List.getElem?_eq_getElem hi)
  cases b
  ·exact ⟨us,u,q,e⟩
  ·exact ⟨us,u,q,e⟩
 yld hi s kp h y:=by
  obtain ⟨us,q,r⟩:=h.now s kp
  obtain ⟨u,e,hr⟩:=r.get (List.getElem?_eq_getElem hi)
  cases b
  ·obtain ⟨rfl,z⟩:=y
   have:=z us q
   rw [e] at this
   cases this
   exact ⟨_,_,List.getElem?_eq_getElem hi,Le.refl _,s,hr⟩
  ·obtain ⟨rfl,z⟩:=y
   have:=z us q
   rw [e] at this
   cases this
   exact ⟨_,_,List.getElem?_eq_getElem hi,Le.refl _,s,hr⟩
theorem yF {ks:List Val} {kk:List (List Key)} {us:List L2.V} (a:Addr) (o:Obj) (ek:a8 ks=some kk) (el:kk.length=us.length):Walks T (EE a o (kk.zip us)) (ks.map gP) [] (fun _ G=>G a=some (.aC o (.dT (kk.zip us)))) where
 mono _ l h:=l.ex h rfl
 stop s _ h:=⟨s.sub.ex h rfl,by rw [List.length_zip,List.length_map,←iR ek];lia⟩
 go hi s _ h:=⟨s.sub.ex h rfl,by rw [List.length_zip];rw [List.length_map,←iR ek] at hi;lia⟩
 yld {st as G H x H' i} hi s _ h y:=by
  obtain ⟨rfl,c,k,v,rfl,e1,e2⟩:=y
  rw [List.length_map] at hi
  obtain ⟨k',e3,e4⟩:=mJ ek (List.getElem?_eq_getElem hi)
  have e5:k=k':=by
   have:=(List.getElem?_zip_eq_some.mp e1).1
   rw [e3] at this
   exact (Option.some.inj this).symm
  subst e5
  obtain ⟨s2,l2⟩:=s.EX e2
  obtain ⟨f,xs,e6,e7⟩:=AD e4
  refine ⟨.tup false xs,_, ?_,l2,s2,c,k.map kV,rfl,(show upd G c (.tup (k.map kV)) c=_ from aj),lQ e7⟩
  rw [List.getElem?_map,List.getElem?_eq_getElem hi,e6]
  rfl
theorem zl {ks:List Val} {kk:List Key} {us:List L2.V} (a:Addr) (o:Obj) (ek:aH ks=some kk) (el:kk.length=us.length):Walks T (xG a o (kk.zip us)) (ks.map gP) [] (fun _ G=>G a=some (.aC o (.dK (kk.zip us)))) where
 mono _ l h:=l.ex h rfl
 stop s _ h:=⟨s.sub.ex h rfl,by rw [List.length_zip,List.length_map,←iI ek];lia⟩
 go hi s _ h:=⟨s.sub.ex h rfl,by rw [List.length_zip];rw [List.length_map,←iI ek] at hi;lia⟩
 yld {st as G H x H' i} hi s _ h y:=by
  obtain ⟨rfl,k,v,rfl,e1⟩:=y
  rw [List.length_map] at hi
  obtain ⟨k',e3,e4⟩:=nj ek (List.getElem?_eq_getElem hi)
  have e5:k=k':=by
   have:=(List.getElem?_zip_eq_some.mp e1).1
   rw [e3] at this
   exact (Option.some.inj this).symm
  subst e5
  refine ⟨ks[i],G, ?_,Le.refl _,s,oZ e4⟩
  rw [List.getElem?_map,List.getElem?_eq_getElem hi]
  exact congrArg some (CS e4)
theorem Fi {e:Expr} (hK:T.K=X.K) (he:PE X e (tE T P cl E ie)):L2.PI X tg e (tQ T P cl E (.val ie)):=
 PI.mono (Ce he) fun σ H R z903=>by
  obtain ⟨env,st,as,G,s,er,h⟩:=z903
  unfold PI.Q.run at h
  refine az s er h fun x st1 as1 G1 H1 u s1 er1 r1 p1 l1 h=> ?_
  obtain ⟨it,e,h⟩:=ae.dP h
  have k:=h.ok s1
  cases x with
  |tup fl xs=>
   cases e
   obtain ⟨a,us,rfl,q,r⟩:=r1
   exact ⟨a,rfl, .inr (.inl ⟨⟨us,bh s1.sub q⟩,hK▸k (zS T.K false a) _ (js false a xs []) (.inl ⟨us,qe q,r⟩)⟩)⟩
  |lst xs=>
   cases e
   obtain ⟨a,us,rfl,q,r⟩:=r1
   exact ⟨a,rfl, .inl ⟨⟨us,hK▸bT s1.sub q⟩,hK▸k (zS T.K true a) _ (js true a xs []) (.inl ⟨us,q,r⟩)⟩⟩
  |dct ks vs=>
   cases e
   obtain ⟨a,us,rfl,q,r⟩:=r1
   rcases q with ⟨kk,ek,el,q⟩|⟨kk,ek,el,q⟩
   ·refine ⟨a,rfl, .inr (.inr (.inr ⟨_,Rd.le s1.sub q,fun o ho=> ?_⟩))⟩
    obtain ⟨s2,l2⟩:=s1.Cu q rfl ho
    exact h as1 _ _ (List.prefix_refl _) l2 s2 _ _ (zl a o ek el) aj
   ·refine ⟨a,rfl, .inr (.inr (.inl ⟨_,Rd.le s1.sub q,fun o ho=> ?_⟩))⟩
    obtain ⟨s2,l2⟩:=s1.Cu q rfl ho
    exact h as1 _ _ (List.prefix_refl _) l2 s2 _ _ (yF a o ek el) aj
  |ref n=>
   obtain ⟨a,ea,rfl⟩:=r1
   replace e:pO n st1[n]?=some it:=e
   cases e1:st1[n]? with
   |none=>rw [e1] at e;cases e
   |some o=>
    rw [e1] at e
    have ob:=s1.ob n o a e1 ea
    cases o with
    |lst xs=>
     cases e
     obtain ⟨us,q,r⟩:=ob
     exact ⟨a,rfl, .inl ⟨⟨us, .inl (.inl q)⟩,hK▸k (zS T.K true a) _ (js true a xs [(n, .lst xs)]) (.inr ⟨rfl,n,by simp,ea⟩)⟩⟩
    |dct ks vs=>cases e
    |ins c ns vs=>cases e
  |_=>cases e
end
end PI
namespace PI
open PySem L2 L2.L3 L2.L4 PySem.SeqAt
section
variable {T:CT} {P:Pg} {cl:ar} {E:XS} {X:Cx} {pos:Pos}
theorem aF.turn {as:List Addr} {G:Hp} {r:F} {k:Env->aa->F} {D:Ends} {src:List Addr->Hp->Prop} (mo:∀{as as' G G'},as<+:as'->Le G G'->src as G->src as' G') (sr:src as G) (h:aF T as G (r.turn k) D E) {N:St->Hp->Prop}
  (hN:∀env st as' G' σ' H',Sim T st as' G' H'->aJ T as' G' env σ'->src as' G'->aF T as' G' (k env st) D E->N σ' H'):aF T as G r {D with nx:=N,ct:=N,bk:=D.nx} E:=by
 cases r with
 |next env st=>exact fun as' G' H' σ' p l s er=>hN env st as' G' σ' H' s er (mo p l sr) (aF.mono p l h)
 |cont env st=>exact fun as' G' H' σ' p l s er=>hN env st as' G' σ' H' s er (mo p l sr) (aF.mono p l h)
 |brk env st=>exact h
 |ret v st=>exact h
 |exc x env st=>exact h
 |stuck=>exact h
open Classical in
theorem FX {t:PI.T} {q:PI.Q} {ib:List PI.S} (fm:Framed X) (hx:cc X) (hc:X.calm=true) (hi:L2.PI (X.ag (L4.XE X E)) tg iter (tQ T P cl E q)) (hg:PG (X.ag (L4.XE X E)) tg (tG T t)) (hb:di (X.ag (L4.XE X E)) body (nW T P cl E ib)) (hs:∀x,foldedSetIterable iter X.env x=pure x):
  PS (X.ag (L4.XE X E)) (.For tg iter body [] pos) (tS T P cl E (.for t q ib)):=
 PS.mono (CF (L4.FZ fm hx) hc hi hg hb hs) fun D σ H z903=>by
  obtain ⟨env,st,as,G,s,er,h⟩:=z903
  dsimp only [PI.S.run] at h
  refine ⟨env,st,as,G,s,er, ?_⟩
  cases e1:q.run P cl env st with
  |stuck=>rw [e1] at h;exact h.elim
  |exc x st1=>
   rw [e1] at h
   exact fun as' G' H' cls dx p l s' x=>h as' G' H' σ cls dx p l s' (er.mono p l) x
  |ok it st1=>
   rw [e1] at h
   replace h:aF T as G (forL t (fun env st=>aP P cl ib env st) it.2 it.1 env st1) D E:=h
   intro as0 G0 H0 p0 l0 s0 J src wk sr0
   refine ⟨fun i m σ H=>m=it.1.length-i/\i<=it.1.length/\∃env st as G,Sim T st as G H/\aJ T as G env σ/\src as G/\aF T as G (forL t (fun env st=>aP P cl ib env st) it.2 (it.1.drop i) env st) D E,
    ⟨_,rfl,Nat.zero_le _,env,st1,as0,G0,s0,er.mono p0 l0,sr0,aF.mono p0 l0 h⟩, ?_⟩
   rintro i m σ H ⟨rfl,hi,env,st,as,G,s,er,sr,h⟩
   by_cases hl:i=it.1.length
   ·subst hl
    rw [List.drop_length] at h
    obtain ⟨kp,h⟩:=aF.iff (show aF T as G (iS (Kept it.2 st) (.next env st)) D E from h)
    exact .inl ⟨wk.stop s kp sr,h as G H σ (List.prefix_refl _) (Le.refl _) s er⟩
   ·have li:i<it.1.length:=by lia
    rw [List.drop_eq_getElem_cons li] at h
    obtain ⟨kp,h⟩:=aF.iff (show aF T as G (iS (Kept it.2 st) ((F.ak st (t.put it.1[i] env)).bind fun env st=>(aP P cl ib env st).turn fun env st=>forL t (fun env st=>aP P cl ib env st) it.2 (it.1.drop (i+1)) env st)) D E from h)
    refine .inr ⟨wk.go li s kp sr,fun σ' H'=>∃env st as G,Sim T st as G H'/\aJ T as G env σ'/\src as G/\aF T as G (forL t (fun env st=>aP P cl ib env st) it.2 (it.1.drop (i+1)) env st) D E,
     fun σ' H' w=>⟨it.1.length-(i+1),by lia,rfl,by lia,w⟩,fun x H' y=> ?_⟩
    obtain ⟨v,G',e2,l,s',rv⟩:=wk.yld li s kp sr y
    rw [List.getElem?_eq_getElem li] at e2
    cases e2
    cases e3:t.put it.1[i] env with
    |none=>rw [e3] at h;exact h.elim
    |some env1=>
     rw [e3] at h
     replace h:aF T as G ((aP P cl ib env1 st).turn fun env st=>forL t (fun env st=>aP P cl ib env st) it.2 (it.1.drop (i+1)) env st) D E:=h
     refine ⟨env,st,as,G',_,env1,s',er.mono (List.prefix_refl _) l,rv,e3,fun σ' er'=>⟨env1,st,as,G',s',er', ?_⟩⟩
     exact aF.turn wk.mono (wk.mono (List.prefix_refl _) l sr) (aF.mono (List.prefix_refl _) l h) fun env st as G σ' H' s er sr h=>⟨env,st,as,G,s,er,sr,h⟩
end
end PI
namespace PI
open PySem L2 L2.L3 L2.L4 PySem.SeqAt
open PyProof.Rows (envOfC)
noncomputable def dD (T:CT) (P:Pg) (n fi:Nat):Sp:=fun vs H Q E=>∃st as G xs,Sim T st as G H/\af T as G xs vs/\ae T as G (call P n fi xs st) (PV T Q) E
section
variable {T:CT} {P:Pg} {cl:ar} {E:XS} {X:Cx} {pos:Pos}
theorem jA {k:Nat} {f:Addr} {ps:List Str} {sp:Sp} {σ:St} {H:Hp} {s:Shared} {Q:VK} {us:List Value} (F:FnOk X.prog X.w X.K X.mg X.base (cJ X.prog X.w) k f fd ps sp) (hr:Room k X.A) (hb:Binds X.K fd ps []) (hx:cc X)
  (I:Inv (X.ag (L4.XE X E)) pins σ H s) (r:Vals vs us) (h:sp vs H Q (E σ)):wpAny (model X.prog X.w) X.A (PySem.call (.ref f) us) (EP (X.ag (L4.XE X E)) pins σ Q) (L4.XE X E) s:=by
 have hl:(us++[]).length=ps.length:=by rw [List.append_nil,←r.length];exact F.len _ _ _ _ h
 have hb':=hb s us I.dO hl
 rw [List.append_nil] at hb'
 refine wpAny_call (codeAny_mono (F.run X.A X.stack s H ⟨us,[]⟩ us vs Q (E σ) hr I.zI hb' r h) fun r s' hq=> ?_)
 cases r with
 |error e=>exact L4.vm hx I hq
 |ok fl=>
  cases fl with
  |ret u=>exact I.after hq
  |next=>exact False.elim hq
  |brk=>exact False.elim hq
  |cont=>exact False.elim hq
theorem s_call {k n fi:Nat} {f:Addr} {ps:List Str} {x:Str} {p:Pos} {e:Expr} {ies:List PI.E} (F:FnOk X.prog X.w X.K X.mg X.base (cJ X.prog X.w) k f fd ps (dD T P n fi)) (hr:Room k X.A) (hb:Binds X.K fd ps []) (hx:cc X) (hg:Gl X x) (hm:X.mg x=some (.ref f)) (hk:PySem.W.keepIn X.K (.ref f)=true)
  (ha:PA (X.ag (L4.XE X E)) (e::es) (dJ T P (call P n) E ies)) (hdb:(x==("__debug__":Str))=false) (he:starEach (e::es) X.env=(false,eval e X.env)::starEach es X.env) (hpl:(backTo pos (starEach es X.env)).any (·.1)=false):
  PE (X.ag (L4.XE X E)) (.Call (.Name x p) (e::es) [] pos) (tE T P (call P n) E (.call fi ies)):=by
 intro pins s σ H Q I ⟨env,st,as,G,sm,er,h⟩
 dsimp only [PI.E.run] at h
 have h2:=cy (K:=fun us H1=>dD T P n fi us H1 Q (E σ)) sm er h fun xs st1 as1 G1 H1 us s1 er1 r1 p1 l1 h=>⟨st1,as1,G1,xs,s1,r1,h⟩
 refine wpAny_Call_Name_kw (gz I hg hm ?_ hdb)
 refine PySem.W.callWith_K (h₀:=X.base) I.ok.mod.kin hk (ay (ha pos pins s σ H _ I h2) fun us s1 ⟨vs,H1,I1,r,q⟩=>⟨I1.dO, ?_⟩) he hpl
 exact jA F hr hb hx I1 r q
theorem AS {k n fi:Nat} {f:Addr} {ps:List Str} {x:Str} {p:Pos} (F:FnOk X.prog X.w X.K X.mg X.base (cJ X.prog X.w) k f fd ps (dD T P n fi)) (hr:Room k X.A) (hb:Binds X.K fd ps []) (hx:cc X) (hg:Gl X x) (hm:X.mg x=some (.ref f)) (hk:PySem.W.keepIn X.K (.ref f)=true)
  (hdb:(x==("__debug__":Str))=false):PE (X.ag (L4.XE X E)) (.Call (.Name x p) [] [] pos) (tE T P (call P n) E (.call fi [])):=by
 intro pins s σ H Q I ⟨env,st,as,G,sm,er,h⟩
 dsimp only [PI.E.run] at h
 refine wpAny_Call_Name_kw (gz I hg hm ?_ hdb)
 exact PySem.W.callWith_K0 I.dO hk (jA (us:=[]) F hr hb hx I .nil ⟨st,as,G,[],sm,rfl,h⟩)
end
section
variable {P':Program} {w:World} {K:PySem.W.Frag} {mg:Str->Option Value} {base:Heap} {N:List Str} {qual:Str} {f:Addr}
theorem okS {x:Str} {st:Stmt} {ps:List Str} {k:Nat} {sp:Sp} (F:Fun K x qual st f fd) (S:FnScope N ps (ax st)) (len:∀vs H Q E,sp vs H Q E->vs.length=ps.length)
  (hbody:∀(cdv:Value) (A:Around) (outer:List PySem.Env) (s:Shared) (H:Hp) (vs:List L2.V) (Q:VK) (E:XK),Room k (A.deeper (envOfC qual (ax st) s.heap.objs.size f cdv))->sp vs H Q E->
   ∃t,di ((sF P' w K mg base N qual (ax st) f cdv A outer s H E).ag (L4.XE (sF P' w K mg base N qual (ax st) f cdv A outer s H E) fun _=>E)) (bg st) t/\t {nx:=fun _ H'=>Q .non H',rt:=Q} (start N vs) H):
  FnOk P' w K mg base (cJ P' w) (k+1) f fd ps sp:=by
 obtain ⟨oc,od,kV,doc,pm,an,cdv,ct,osl,rfl,lk,hcd⟩:=F.ex
 refine Gq lk hcd S len fun A outer s H vs Q E hr hsp=> ?_
 obtain ⟨t,h,q⟩:=hbody cdv A outer s H vs Q E hr hsp
 refine ⟨t,fun pins s1 σ1 H1 D I hw=> ?_,q⟩
 exact wpAny_mono (h pins s1 σ1 H1 D (I.ag _) hw) (fun _ _ z=>z.br) fun e s2 z=>L4.Bn fmD rfl z
variable {T:CT} {P:Pg}
theorem F8 {x:Str} {st:Stmt} {ps:List Str} {k n fi:Nat} {d:Fn} (F:Fun K x qual st f fd) (S:FnScope N ps (ax st)) (hd:(P.fn fi)=some d) (hp:d.np=ps.length) (hn:d.ns=N.length)
  (body:∀(cdv:Value) (A:Around) (outer:List PySem.Env) (s:Shared) (H:Hp) (E:XK),Room k (A.deeper (envOfC qual (ax st) s.heap.objs.size f cdv))->
   di ((sF P' w K mg base N qual (ax st) f cdv A outer s H E).ag (L4.XE (sF P' w K mg base N qual (ax st) f cdv A outer s H E) fun _=>E)) (bg st) (nW T P (call P n) (fun _=>E) d.body)):
  FnOk P' w K mg base (cJ P' w) (k+1) f fd ps (dD T P (n+1) fi):=by
 have arity:∀{as G xs st Q X},ae T as G (call P (n+1) fi xs st) Q X->xs.length=d.np/\ae T as G ((aP P (call P n) d.body (xs.map some++List.replicate (d.ns-d.np) none) st).fin P st) Q X:=fun {as G xs st Q X} h=>by
  unfold call at h
  rw [hd] at h
  exact ae.iff h
 refine okS F S (fun vs H Q E ⟨st,as,G,xs,s,r,h⟩=> ?_) fun cdv A outer s H vs Q E hr ⟨st,as,G,xs,sm,r,h⟩=>⟨_,body cdv A outer s H E hr, ?_⟩
 ·rw [←r.length,(arity h).1,hp]
 ·obtain ⟨la,h⟩:=arity h
  refine ⟨xs.map some++List.replicate (d.ns-d.np) none,st,as,G,sm, ?_, ?_⟩
  ·have lv:vs.length=xs.length:=r.length.symm
   refine ⟨by simp [L2.start,lv,la,hn],fun i v e=> ?_⟩
   by_cases hi:i<xs.length
   ·rw [List.getElem?_append_left (by simpa using hi),List.getElem?_map] at e
    obtain ⟨v',e1,e2⟩:=Option.map_eq_some_iff.mp e
    cases e2
    obtain ⟨u,e3,hr⟩:=r.get e1
    refine ⟨u, ?_,hr⟩
    unfold L2.start
    rw [List.getElem?_append_left (by simpa [lv] using hi),List.getElem?_map,e3]
    rfl
   ·rw [List.getElem?_append_right (by simpa using hi),List.getElem?_replicate] at e
    split at e<;>cases e
  ·cases e1:aP P (call P n) d.body (xs.map some++List.replicate (d.ns-d.np) none) st with
   |next env st'=>
    rw [e1] at h
    exact fun as' G' H' σ' p l s' er=>kY (v:= .non) (u:= .non) sm s' p l rfl h
   |ret v st'=>
    rw [e1] at h
    exact fun as' G' H' u p l s' rv=>kY sm s' p l rv h
   |exc x env st'=>
    rw [e1] at h
    exact fun as' G' H' σ' cls dx p l s' er ex=>B2 sm s' p l ex h
   |brk env st'=>rw [e1] at h;exact h.elim
   |cont env st'=>rw [e1] at h;exact h.elim
   |stuck=>rw [e1] at h;exact h.elim
end
end PI
namespace PI
open PySem L2 L2.L3 L2.L4 PySem.SeqAt
mutual
theorem mZ {n:Nat}:∀{t:PI.T} {v:Val} {env env':Env},t.low n=true->t.put v env=some env'->env'.length=env.length/\∀(i:Nat),n<=i->env'[i]?=env[i]?
 | .var k,v,env,env',l,e=>by
  unfold PI.T.put at e
  unfold PI.T.low at l
  split at e
  ·cases e
   refine ⟨by simp,fun i hi=> ?_⟩
   have:=of_decide_eq_true l
   rw [List.getElem?_set_ne (by lia)]
  ·cases e
 | .tup ts,v,env,env',l,e=>by
  unfold PI.T.low at l
  cases v with
  |tup fl xs=>exact kO l (show bF xs env ts=some env' by unfold PI.T.put at e;exact e)
  |_=>(unfold PI.T.put at e;cases e)
theorem kO {n:Nat}:∀{ts:List PI.T} {vs:List Val} {env env':Env},lows n ts=true->bF vs env ts=some env'->env'.length=env.length/\∀(i:Nat),n<=i->env'[i]?=env[i]?
 |[],[],_,_,_,e=>by
  cases e
  exact ⟨rfl,fun _ _=>rfl⟩
 |[],_::_,_,_,_,e=>by cases e
 |_::_,[],_,_,_,e=>by cases e
 |t::ts,v::vs,env,env',l,e=>by
  replace e:(t.put v env).bind (fun env=>bF vs env ts)=some env':=by unfold bF at e;exact e
  unfold lows at l
  rw [Bool.and_eq_true] at l
  cases e1:t.put v env with
  |none=>rw [e1] at e;cases e
  |some env1=>
   rw [e1] at e
   obtain ⟨a1,a2⟩:=mZ l.1 e1
   obtain ⟨b1,b2⟩:=kO l.2 (show bF vs env1 ts=some env' from e)
   exact ⟨b1.trans a1,fun i hi=>(b2 i hi).trans (a2 i hi)⟩
end
theorem AV {T:CT} {G:Hp} {env:Env} {σ:St} (ws:List Str) (caps:List Nat) (h:aJ T as G env σ):aJ T as G (av ws.length caps env) (stC ws caps σ):=by
 refine ⟨by simp [av,stC],fun i v e=> ?_⟩
 unfold av at e
 by_cases hi:i<ws.length
 ·rw [List.getElem?_append_left (by simpa using hi),List.getElem?_replicate,if_pos hi] at e
  cases e
 ·rw [List.getElem?_append_right (by simpa using hi),List.getElem?_map] at e
  obtain ⟨c,e1,e2⟩:=Option.map_eq_some_iff.mp e
  have e3:env[c]?=some (some v):=by
   cases q:env[c]? with
   |none=>rw [q] at e2;cases e2
   |some o=>rw [q] at e2;exact congrArg some e2
  obtain ⟨u,e4,r⟩:=h.2 c v e3
  refine ⟨u, ?_,r⟩
  unfold stC
  rw [List.getElem?_append_right (by simpa using hi),List.getElem?_map]
  rw [show i-(ws.map fun _=>(none:Option L2.V)).length=i-(List.replicate ws.length (none:Option Val)).length by simp,e1]
  simp [e4]
theorem pk {T:CT} {G:Hp} {env env1:Env} {σ:St} {n:Nat} {caps:List Nat} {t:PI.T} {v:Val} (l:t.low n=true) (e:t.put v (av n caps env)=some env1) (h:aJ T as G env1 σ):aJ T as G (av n caps env) σ:=by
 obtain ⟨a1,a2⟩:=mZ l e
 refine ⟨by rw [←a1];exact h.1,fun i w ew=> ?_⟩
 by_cases hi:i<n
 ·unfold av at ew
  rw [List.getElem?_append_left (by simpa using hi),List.getElem?_replicate,if_pos hi] at ew
  cases ew
 ·exact h.2 i w (by rw [a2 i (by lia)];exact ew)
section
variable {T:CT} {P:Pg} {cl:ar} {E:XS} {X:Cx} {pos:Pos}
theorem Iv {e:Expr} (he:PE X e (tE T P cl E ie)):PE X e (tE T P cl E (.fz ie)):=
 PE.mono he fun σ H Q z903=>by
  obtain ⟨env,st,as,G,s,er,h⟩:=z903
  dsimp only [PI.E.run] at h
  refine ⟨env,st,as,G,s,er, ?_⟩
  cases e1:ie.run P cl env st with
  |stuck=>rw [e1] at h;exact h.elim
  |exc x st1=>rw [e1] at h;exact h
  |ok v st1=>
   rw [e1] at h
   intro as1 G1 H1 p l s1 u r
   obtain ⟨v2,st2,as2,G2,s2,r2,q⟩:=Fo s s1 p l r h
   exact q u r2
noncomputable def tO (T:CT) (P:Pg) (cl:ar) (E:XS) (c:Option PI.E):TT:=fun σ H Q=>∃env st as G,Sim T st as G H/\aJ T as G env σ/\ae T as G (runC P cl c env st) (fun b _ _ _ H'=>Q b H') (E σ)
theorem Cn:jV X [] (tO T P cl E none):=fun pins s σ H Q I z906=>by obtain ⟨env,st,as,G,sm,er,h⟩:=z906;exact Bo pins s σ H Q I (h.ok sm)
theorem DC {c:Expr} (hc:PT X c (tT T P cl E ic)):jV X [c] (tO T P cl E (some ic)):=BI hc
open Classical in
theorem nF {σ0:St} {ws:List Str} {caps:List Nat} {t:PI.T} {c:Option PI.E} {ie:PI.E} {it:List Val×List (Nat×Ob)} {env:Env} {st:aa} {as:List Addr} {G H:Hp} {Q:Val->aa->List Addr->Hp->Hp->Prop} {Z:List L2.V->Hp->Prop} {J:It} {src:List Addr->Hp->Prop}
  (s:Sim T st as G H) (er:aJ T as G env σ0) (wk:Walks T J it.1 it.2 src) (sr:src as G) (low:t.low ws.length=true) (len:it.1.length<=10000)
  (h:ae T as G ((aB (fun v st=>aM (t.put v (av ws.length caps env)) (runC P cl c) (ie.run P cl) st) it.2 it.1 st).bind fun xs st=>new (.lst xs) st) Q (E σ0))
  (hZ:∀xs ys st as' G' H',as<+:as'->Le G G'->Sim T st as' G' H'->af T as' G' xs ys->ae T as' G' (new (.lst xs) st) Q (E σ0)->Z ys H'):
  L3.runC (tG T t) (tO T P cl (fun _=>E σ0) c) (tE T P cl (fun _=>E σ0) ie) J (stC ws caps σ0) H Z:=by
 have sz:sizeLine=2^24:=rfl
 refine ⟨fun i m ys σ H=>m=it.1.length-i/\i<=it.1.length/\∃st as1 G1 xs,as<+:as1/\Le G G1/\Sim T st as1 G1 H/\aJ T as1 G1 (av ws.length caps env) σ/\src as1 G1/\af T as1 G1 xs ys/\xs.length<=i/\
   ae T as1 G1 ((aB (fun v st=>aM (t.put v (av ws.length caps env)) (runC P cl c) (ie.run P cl) st) it.2 (it.1.drop i) st).bind fun r st=>new (.lst (xs++r)) st) Q (E σ0),
  ⟨_,rfl,Nat.zero_le _,st,as,G,[],List.prefix_refl _,Le.refl _,s,AV ws caps er,sr,rfl,Nat.le_refl _,h⟩, ?_⟩
 rintro i m ys σ H ⟨rfl,hi,st,as1,G1,xs,p1,l1,s,er,sr,rx,lx,h⟩
 by_cases hl:i=it.1.length
 ·subst hl
  rw [List.drop_length] at h
  obtain ⟨kp,h⟩:=ae.iff (show ae T as1 G1 (iff (Kept it.2 st) (new (.lst (xs++[])) st)) Q (E σ0) by
   by_cases z:Kept it.2 st
   ·rw [bt z]
    have:aB (fun v st=>aM (t.put v (av ws.length caps env)) (runC P cl c) (ie.run P cl) st) it.2 [] st= .ok [] st:=bt z
    rw [this] at h
    exact h
   ·have:aB (fun v st=>aM (t.put v (av ws.length caps env)) (runC P cl c) (ie.run P cl) st) it.2 [] st= .stuck:=if_neg z
    rw [this] at h
    exact h.elim)
  rw [List.append_nil] at h
  exact .inl ⟨wk.stop s kp sr,hZ xs ys st as1 G1 H p1 l1 s rx h⟩
 ·have li:i<it.1.length:=by lia
  rw [List.drop_eq_getElem_cons li] at h
  have ⟨kp,h⟩:Kept it.2 st/\ae T as1 G1 ((aM (t.put it.1[i] (av ws.length caps env)) (runC P cl c) (ie.run P cl) st).bind fun o st=>(aB (fun v st=>aM (t.put v (av ws.length caps env)) (runC P cl c) (ie.run P cl) st) it.2 (it.1.drop (i+1)) st).bind fun r st=>new (.lst (xs++eJ o r)) st) Q (E σ0):=by
   by_cases z:Kept it.2 st
   ·refine ⟨z, ?_⟩
    have:aB (fun v st=>aM (t.put v (av ws.length caps env)) (runC P cl c) (ie.run P cl) st) it.2 (it.1[i]::it.1.drop (i+1)) st=(aM (t.put it.1[i] (av ws.length caps env)) (runC P cl c) (ie.run P cl) st).bind fun o st=>(aB (fun v st=>aM (t.put v (av ws.length caps env)) (runC P cl c) (ie.run P cl) st) it.2 (it.1.drop (i+1)) st).bind fun r st=> .ok (eJ o r) st:=bt z
    rw [this,R.bind_assoc] at h
    simpa only [R.bind_assoc,R.mG] using h
   ·have:aB (fun v st=>aM (t.put v (av ws.length caps env)) (runC P cl c) (ie.run P cl) st) it.2 (it.1[i]::it.1.drop (i+1)) st= .stuck:=if_neg z
    rw [this] at h
    exact h.elim
  refine .inr ⟨wk.go li s kp sr,fun ys' σ' H'=>∃st as1 G1 xs,as<+:as1/\Le G G1/\Sim T st as1 G1 H'/\aJ T as1 G1 (av ws.length caps env) σ'/\src as1 G1/\af T as1 G1 xs ys'/\xs.length<=i+1/\
    ae T as1 G1 ((aB (fun v st=>aM (t.put v (av ws.length caps env)) (runC P cl c) (ie.run P cl) st) it.2 (it.1.drop (i+1)) st).bind fun r st=>new (.lst (xs++r)) st) Q (E σ0),
   fun ys' σ' H' w=>⟨it.1.length-(i+1),by lia,rfl,by lia,w⟩,fun x H2 y=> ?_⟩
  obtain ⟨v,G2,e2,l2,s2,rv⟩:=wk.yld li s kp sr y
  rw [List.getElem?_eq_getElem li] at e2
  cases e2
  unfold aM at h
  rw [R.bind_assoc] at h
  obtain ⟨env1,e3,h⟩:=ae.ak h
  refine ⟨av ws.length caps env,st,as1,G2,_,env1,s2,er.mono (List.prefix_refl _) l2,rv,e3,fun σ3 er3=> ?_⟩
  rw [R.bind_assoc] at h
  refine ⟨env1,st,as1,G2,s2,er3,(ae.mono (List.prefix_refl _) l2 h).bind.imp fun b st4 as4 G4 H4 p4 l4 s4 h=> ?_⟩
  cases b with
  |false=>exact mF ⟨st4,as4,G4,xs,p1.trans p4,l1.trans (l2.trans l4),s4,pk low e3 (er3.mono p4 l4),wk.mono p4 (l2.trans l4) sr,rx.mono p4 (l2.trans l4),by lia,h⟩
  |true=>
   refine mD ?_
   replace h:ae T as4 G4 (((ie.run P cl env1 st4).bind fun x st=> .ok (some x) st).bind fun o st=>(aB (fun v st=>aM (t.put v (av ws.length caps env)) (runC P cl c) (ie.run P cl) st) it.2 (it.1.drop (i+1)) st).bind fun r st=>new (.lst (xs++eJ o r)) st) Q (E σ0):=h
   rw [R.bind_assoc] at h
   refine az (E:=fun _=>E σ0) (σ:=σ3) s4 (er3.mono p4 l4) h fun x st5 as5 G5 H5 u s5 er5 r5 p5 l5 h=> ?_
   refine ⟨by rw [←rx.length];lia,st5,as5,G5,xs++[x],p1.trans (p4.trans p5),l1.trans (l2.trans (l4.trans l5)),s5,pk low e3 er5,wk.mono (p4.trans p5) (l2.trans (l4.trans l5)) sr,af.append (rx.mono (p4.trans p5) (l2.trans (l4.trans l5))) ⟨u,[],rfl,r5,rfl⟩,by simp;lia, ?_⟩
   simpa [eJ] using h
theorem CV {ws:List Str} {caps:List Nat} {sc:Scope} {t:PI.T} {q:PI.Q} {c:Option PI.E} (fm:Framed X) (hx:cc X) (B:BlockOkC X.env.scope sc) (hc:X.calm=true) (hcap:∀k∈caps,sc.names.lookup (X.N.getD k Str.empty)=some .free) (hi:L2.PI (X.ag (L4.XE X E)) tg iter (tQ T P cl E q))
  (hg:∀σ own C fp pn s H,(∀b∈fp,∃o,(b,o)∈pn)->PG (L4.cD X (fun _=>E σ) own ws caps sc C fp pn s H) tg (tG T t)) (ht:∀σ own C fp pn s H,(∀b∈fp,∃o,(b,o)∈pn)->jV (L4.cD X (fun _=>E σ) own ws caps sc C fp pn s H) ifs (tO T P cl (fun _=>E σ) c))
  (he:∀σ own C fp pn s H,(∀b∈fp,∃o,(b,o)∈pn)->PE (L4.cD X (fun _=>E σ) own ws caps sc C fp pn s H) elt (tE T P cl (fun _=>E σ) ie)) (hs:∀x,foldedSetIterable iter X.env x=pure x):
  PE (X.ag (L4.XE X E)) (.ListComp elt [⟨tg,iter,ifs,0⟩] sc pos) (tE T P cl E (.comp ws.length caps t q c ie)):=
 PE.mono (L4.yp fm hx B hc hcap hi hg ht he hs) fun σ H Q z903=>by
  obtain ⟨env,st,as,G,s,er,h⟩:=z903
  dsimp only [PI.E.run] at h
  refine ⟨env,st,as,G,s,er,h.bind.imp fun it st1 as1 G1 H1 p l s1 h J src wk sr=> ?_⟩
  obtain ⟨⟨low,len⟩,h⟩:=ae.iff h
  exact nF s1 (er.mono p l) wk sr low len h fun xs ys st as' G' H' p' l' s' r h D hD=>fj s' r h hD
theorem Ef {i:Nat} {y:Str} {ws:List Str} {caps:List Nat} {sc:Scope} {t:PI.T} {q:PI.Q} {c:Option PI.E} (fm:Framed X) (hx:cc X) (B:BlockOkC X.env.scope sc) (hc:X.calm=true) (hcap:∀k∈caps,sc.names.lookup (X.N.getD k Str.empty)=some .free) (hN:X.N.Nodup) (hy:X.N[i]?=some y) (hl:X.env.scope.names.lookup y=some .local) (hi:L2.PI (X.ag (L4.XE X E)) tg iter (tQ T P cl E q))
  (hg:∀σ own C fp pn s H,(∀b∈fp,∃o,(b,o)∈pn)->PG (L4.cD X (fun _=>E σ) own ws caps sc C fp pn s H) tg (tG T t)) (ht:∀σ own C fp pn s H,(∀b∈fp,∃o,(b,o)∈pn)->jV (L4.cD X (fun _=>E σ) own ws caps sc C fp pn s H) ifs (tO T P cl (fun _=>E σ) c))
  (he:∀σ own C fp pn s H,(∀b∈fp,∃o,(b,o)∈pn)->PE (L4.cD X (fun _=>E σ) own ws caps sc C fp pn s H) elt (tE T P cl (fun _=>E σ) ie)) (hsw:swapsWith (.ListComp elt [⟨tg,iter,ifs,0⟩] sc cpos) (some (.Name y py)) pos.line X.env=pure true) (hs:∀x,foldedSetIterable iter X.env x=pure x):
  PS (X.ag (L4.XE X E)) (.Assign [.Name y py] (.ListComp elt [⟨tg,iter,ifs,0⟩] sc cpos) pos) (tS T P cl E (.set (.var i) (.comp ws.length caps t q c ie))):=
 PS.mono (L4.yX fm hx B hc hcap hN hy hl hi hg ht he hsw hs) fun D σ H z903=>by
  obtain ⟨env,st,as,G,s,er,h⟩:=z903
  dsimp only [PI.S.run,PI.E.run] at h
  refine ⟨env,st,as,G,s,er, ?_⟩
  cases e1:q.run P cl env st with
  |stuck=>rw [e1] at h;exact h.elim
  |exc x st1=>
   rw [e1] at h
   exact fun as' G' H' cls dx p l s' x=>h as' G' H' σ cls dx p l s' (er.mono p l) x
  |ok it st1=>
   rw [e1] at h
   intro as1 G1 H1 p1 l1 s1 J src wk sr
   have h2:ae T as G (iff (t.low ws.length=true/\it.1.length<=10000) ((aB (fun v st=>aM (t.put v (av ws.length caps env)) (runC P cl c) (ie.run P cl) st) it.2 it.1 st1).bind fun xs st=>new (.lst xs) st)) (fun v st as' G' H'=>∀u,Rel T as' G' v u->∀σ',aJ T as' G' (env.set i (some v)) σ'->D.nx σ' H') (E σ):=by
    replace h:aF T as G (F.of env (iff (t.low ws.length=true/\it.1.length<=10000) ((aB (fun v st=>aM (t.put v (av ws.length caps env)) (runC P cl c) (ie.run P cl) st) it.2 it.1 st1).bind fun xs st=>new (.lst xs) st)) fun x st=>F.ak st ((PI.T.var i).put x env)) D E:=h
    generalize iff (t.low ws.length=true/\it.1.length<=10000) ((aB (fun v st=>aM (t.put v (av ws.length caps env)) (runC P cl c) (ie.run P cl) st) it.2 it.1 st1).bind fun xs st=>new (.lst xs) st)=r at h⊢
    cases r with
    |stuck=>exact h
    |exc x st=>exact fun as' G' H' cls dx p l s' x=>h as' G' H' σ cls dx p l s' (er.mono p l) x
    |ok v st=>
     intro as' G' H' p l s' u ru σ' er'
     replace h:aF T as G (F.ak st ((PI.T.var i).put v env)) D E:=h
     unfold PI.T.put at h
     split at h
     ·exact h as' G' H' σ' p l s' er'
     ·exact h.elim
   obtain ⟨⟨low,len⟩,h3⟩:=ae.iff h2
   refine nF s1 (er.mono p1 l1) wk sr low len (ae.mono p1 l1 h3) fun xs ys st as' G' H' p' l' s' r h D' hD=> ?_
   have h4:=h (as'++[D']) G' _ (List.prefix_append _ _) (Le.refl _) (s'.push hD ⟨ys,aj,r.mono (List.prefix_append _ _) (Le.refl _)⟩) (.ref D')
   have rn:Rel T (as'++[D']) G' (.ref st.length) (.ref D'):=⟨D',by rw [←s'.len,List.getElem?_append_right (Nat.le_refl _)];simp,rfl⟩
   exact h4 rn _ ((er.mono (p1.trans (p'.trans (List.prefix_append _ _))) (l1.trans l')).set i rn)
end
end PI
namespace PI
open PySem L2 L2.L3 L2.L4 PySem.SeqAt
theorem jH:∀(n:Nat) (lo:Int),(aX lo n).length=n
 |0,_=>rfl
 |n+1,lo=>by
  unfold aX
  rw [List.length_cons,jH n]
theorem rL:∀(n:Nat) (lo:Int) (i:Nat),i<n->(aX lo n)[i]?=some (.int (lo+i))
 |0,_,_,h=>by lia
 |n+1,lo,0,_=>by
  unfold aX
  simp
 |n+1,lo,i+1,h=>by
  unfold aX
  rw [List.getElem?_cons_succ,rL n (lo+1) i (by lia)]
  congr 2
  push_cast
  lia
section
variable {T:CT} {P:Pg} {cl:ar} {E:XS} {X:Cx} {pos:Pos}
theorem nO (lo:Int) (n:Nat):Walks T (wD lo n) (aX lo n) [] (fun _ _=>True) where
 mono _ _ h:=h
 stop _ _ _:=by rw [jH];exact Nat.le_refl n
 go hi _ _ _:=by rw [jH] at hi;exact hi
 yld hi s _ _ y:=by
  rw [jH] at hi
  obtain ⟨rfl,rfl⟩:=y
  exact ⟨_,_,rL n lo _ hi,Le.refl _,s,rfl⟩
theorem rK {α:Type} {e:PI.E} {env:Env} {st:aa} {G H:Hp} {σ:St} {f:Val->aa->R α} {Q:α->aa->List Addr->Hp->Hp->Prop} {K:List L2.V->Hp->Prop} (s:Sim T st as G H) (er:aJ T as G env σ)
  (h:ae T as G ((e.run P cl env st).bind f) Q (E σ))
  (k:∀v st1 as1 G1 H1 u,Sim T st1 as1 G1 H1->aJ T as1 G1 env σ->Rel T as1 G1 v u->ae T as1 G1 (f v st1) Q (E σ)->K [u] H1):dJ T P cl E [e] σ H K:=by
 refine ⟨env,st,as,G,s,er, ?_⟩
 unfold aS
 cases e1:e.run P cl env st with
 |stuck=>rw [e1] at h;exact h.elim
 |exc x st1=>rw [e1] at h;exact h
 |ok v st1=>
  rw [e1] at h
  intro as1 G1 H1 p l s1 us r
  obtain ⟨u,t,rfl,r1,r2⟩:=r
  cases r2
  exact k v st1 as1 G1 H1 u s1 (er.mono p l) r1 (ae.mono p l h)
theorem BC {α:Type} {e e':PI.E} {env:Env} {st:aa} {G H:Hp} {σ:St} {f:Val->Val->aa->R α} {Q:α->aa->List Addr->Hp->Hp->Prop} {K:List L2.V->Hp->Prop} (s:Sim T st as G H) (er:aJ T as G env σ)
  (h:ae T as G ((e.run P cl env st).bind fun x st=>(e'.run P cl env st).bind fun y st=>f x y st) Q (E σ))
  (k:∀v v' st1 as1 G1 H1 u u',Sim T st1 as1 G1 H1->aJ T as1 G1 env σ->Rel T as1 G1 v u->Rel T as1 G1 v' u'->ae T as1 G1 (f v v' st1) Q (E σ)->K [u,u'] H1):dJ T P cl E [e,e'] σ H K:=by
 refine ⟨env,st,as,G,s,er, ?_⟩
 unfold aS aS
 cases e1:e.run P cl env st with
 |stuck=>rw [e1] at h;exact h.elim
 |exc x st1=>rw [e1] at h;exact h
 |ok v st1=>
  rw [e1] at h
  replace h:ae T as G ((e'.run P cl env st1).bind fun y st=>f v y st) Q (E σ):=h
  rw [R.mG]
  cases e2:e'.run P cl env st1 with
  |stuck=>rw [e2] at h;exact h.elim
  |exc x st1=>rw [e2] at h;exact h
  |ok v' st2=>
   rw [e2] at h
   intro as1 G1 H1 p l s1 us r
   obtain ⟨u,t,rfl,r1,u',t',rfl,r2,r3⟩:=r
   cases r3
   exact k v v' st2 as1 G1 H1 u u' s1 (er.mono p l) r1 r2 (ae.mono p l h)
theorem Di {a:Expr} {p:Pos} (hg:Gl X "range") (hm:X.mg "range"=none) (ha:PA X [a] (dJ T P cl E [ia])) (hs:starEach [a] X.env=[(false,eval a X.env)]):L2.PI X tg (.Call (.Name "range" p) [a] [] pos) (tQ T P cl E (.rng1 ia)):=
 PI.mono (vq hg hm ha hs) fun σ H R z903=>by
  obtain ⟨env,st,as,G,s,er,h⟩:=z903
  unfold PI.Q.run at h
  refine rK s er h fun x st1 as1 G1 H1 u s1 er1 r1 h=> ?_
  cases x with
  |int n=>
   cases r1
   obtain ⟨c,h⟩:=ae.iff h
   exact ⟨n,rfl,by lia,by lia,h.ok s1 _ _ (nO 0 n.toNat) trivial⟩
  |_=>exact h.elim
theorem Dd {a b:Expr} {p:Pos} (hg:Gl X "range") (hm:X.mg "range"=none) (ha:PA X [a,b] (dJ T P cl E [ia,ib])) (hs:starEach [a,b] X.env=[(false,eval a X.env),(false,eval b X.env)]) (hs2:starEach [b] X.env=[(false,eval b X.env)]):L2.PI X tg (.Call (.Name "range" p) [a,b] [] pos) (tQ T P cl E (.rng2 ia ib)):=
 PI.mono (wu hg hm ha hs hs2) fun σ H R z903=>by
  obtain ⟨env,st,as,G,s,er,h⟩:=z903
  unfold PI.Q.run at h
  refine BC s er h fun x y st1 as1 G1 H1 u w s1 er1 r1 r2 h=> ?_
  cases x with
  |int n=>cases y with
   |int m=>
    cases r1
    cases r2
    obtain ⟨c,h⟩:=ae.iff h
    exact ⟨n,m,rfl,⟨by lia,by lia,by lia,by lia⟩,h.ok s1 _ _ (nO n (m-n).toNat) trivial⟩
   |_=>exact h.elim
  |_=>exact h.elim
end
end PI
namespace PI
open PySem L2 L2.L3 L2.L4 PySem.SeqAt
section
variable {T:CT} {P:Pg} {cl:ar} {E:XS} {X:Cx} {pos:Pos}
theorem pq {st:aa} {G H:Hp} {k:Nat} {u:L2.V} (s:Sim T st as G H) (r:Rel T as G (.ref k) u) (e:st[k]?=some (.lst ys)):∃a us,u= .ref a/\as[k]?=some a/\H a=some (.lst us)/\af T as G ys us:=by
 obtain ⟨a,ea,rfl⟩:=r
 obtain ⟨us,q,r⟩:=s.ob k _ a e ea
 exact ⟨a,us,rfl,ea,q,r⟩
noncomputable def vi (T:CT) (m:Bm):L2.V->List L2.V->Hp->VK->Prop:=fun u ws H Q=>∃st as G x xs Z,Sim T st as G H/\Rel T as G x u/\af T as G xs ws/\ae T as G (jU m x xs st) (PV T Q) Z
theorem Hw {e:Expr} {ies:List PI.E} {m:Bm} {name:Str} {apos:Pos} {id:String} (hd:cx m=false) (hK:T.K=X.K) (slot:Slot "list" name id) (hty:typeOf (.builtin id)=pure (.type "method_descriptor")) (hm:qp X id (vi T m)) (ho:PE X o (tE T P cl E io)) (ha:PA X (e::es) (dJ T P cl E ies))
  (hbase:attributeBase o name X.env (eval o X.env)=eval o X.env)
  (hfew:((backTo pos (starEach (e::es) X.env)).all (fun x=> !x.1)&&(backToKw pos (keywordEach [] X.env)).all (fun x=>x.1.isSome)&&decide ((e::es).length+([]:List Keyword).length+(if ([]:List Keyword).isEmpty then 0 else 1)<30))=true)
  (hline:(apos.endLine==pos.line)=true) (hs:starEach (e::es) X.env=(false,eval e X.env)::starEach es X.env) (hplain:(backTo pos (starEach es X.env)).any (·.1)=false):
  PE X (.Call (.Attribute o name apos) (e::es) [] pos) (tE T P cl E (.bm m io ies)):=
 PE.mono (F5 PySem.F.plainAttrs_list slot hty hm ho ha hbase hfew hline hs hplain) fun σ H Q z903=>by
  obtain ⟨env,st,as,G,s,er,h⟩:=z903
  dsimp only [PI.E.run] at h
  refine az s er h fun x st1 as1 G1 H1 u s1 er1 r1 p1 l1 h=> ?_
  obtain ⟨c,h⟩:=ae.iff h
  refine ⟨?_,cy s1 er1 h fun xs st2 as2 G2 H2 us s2 er2 r2 p2 l2 h=>⟨st2,as2,G2,x,xs,_,s2,r1.mono p2 l2,r2,h⟩⟩
  have r3:=bc s1 r1
  generalize res st1 x=y at c r3
  cases y with
  |lst xs=>
   obtain ⟨a,us,rfl,q,_⟩:=r3
   exact .inl ⟨rfl,us,hK▸q⟩
  |dct ks vs=>
   replace c:cx m=true:=c
   rw [hd] at c
   cases c
  |_=>cases c
theorem wt {m:Bm} {x:Val} {st:aa} {G:Hp} {Q:Val->aa->List Addr->Hp->Hp->Prop} {Z:XK} (hd:m≠ .get) (h:ae T as G (jU m x xs st) Q Z):∃k ys,x= .ref k/\st[k]?=some (.lst ys)/\ae T as G (nA m k xs st (some (.lst ys))) Q Z:=by
 cases x with
 |ref k=>
  have e:jU m (.ref k) xs st=nA m k xs st st[k]?:=by cases m<;>first|rfl|exact absurd rfl hd
  rw [e] at h
  cases e2:st[k]? with
  |none=>rw [e2] at h;exact h.elim
  |some o=>
   rw [e2] at h
   cases o with
   |lst ys=>exact ⟨k,ys,rfl,e2,h⟩
   |dct ks vs=>exact h.elim
   |ins c ns vs=>exact h.elim
 |_=>
  exfalso
  cases m<;>first|exact absurd rfl hd|exact h
theorem sR {st:aa} {G H:Hp} {k:Nat} {a:Addr} {v:Val} {u:L2.V} {Q:VK} {Z:XK} (s:Sim T st as G H) (ea:as[k]?=some a) (r:af T as G ys us) (rv:Rel T as G v u) (h:ae T as G (.ok v (st.set k (.lst ys))) (PV T Q) Z):Q u (upd H a (.lst us)):=
 h as G _ (List.prefix_refl _) (Le.refl _) (s.set ea ⟨us,aj,r⟩) u rv
theorem yl:qp X "list.append" (vi T .append):=fun pins s0 σ H u ws v vs Q I ru rw' z912=>by
 obtain ⟨st,as,G,x,xs,Z,s,r1,r2,h⟩:=z912
 obtain ⟨k,ys,rfl,e,h⟩:=wt (fun z=>by cases z) h
 obtain ⟨a,us,rfl,ea,q,r⟩:=pq s r1 e
 match xs,r2,h with
 |[y],⟨w,t,z,r3,r4⟩,h=>
  subst z
  cases r4
  obtain ⟨c,h⟩:=ae.iff h
  have sz:sizeLine=2^24:=rfl
  exact nM pins s0 σ H _ _ v vs Q I ru rw' ⟨a,us,w,rfl,rfl,q,by rw [←r.length];lia,sR (v:= .non) s ea (af.append r (show af T as G [y] [w] from ⟨w,[],rfl,r3,rfl⟩)) rfl h⟩
 |[],_,h=>exact h.elim
 |_::_::_,_,h=>exact h.elim
theorem DH {k:Nat} {x y:Val} {st:aa} {G:Hp} {Q:Val->aa->List Addr->Hp->Hp->Prop} {Z:XK} (h:ae T as G (nA .extend k (x::y::r) st (some (.lst ys))) Q Z):False:=by
 cases x<;>exact h
theorem yB:qp X "list.extend" (vi T .extend):=fun pins s0 σ H u ws v vs Q I ru rw' z912=>by
 obtain ⟨st,as,G,x,xs,Z,s,r1,r2,h⟩:=z912
 obtain ⟨k,ys,rfl,e,h⟩:=wt (fun z=>by cases z) h
 obtain ⟨a,us,rfl,ea,q,r⟩:=pq s r1 e
 match xs,r2,h with
 |[.ref j],⟨w,t,z,r3,r4⟩,h=>
  subst z
  cases r4
  replace h:ae T as G (z5 k ys st st[j]?) (PV T Q) Z:=h
  cases e2:st[j]? with
  |none=>rw [e2] at h;exact h.elim
  |some o=>
   rw [e2] at h
   cases o with
   |lst zs=>
    obtain ⟨b,us2,rfl,eb,q2,rb⟩:=pq s r3 e2
    obtain ⟨c,h⟩:=ae.iff h
    have sz:sizeLine=2^24:=rfl
    exact uX pins s0 σ H _ _ v vs Q I ru rw' ⟨a,b,us,us2,rfl,rfl,q,q2,by rw [←r.length,←rb.length];lia,sR (v:= .non) s ea (af.append r rb) rfl h⟩
   |dct ks vs=>exact h.elim
   |ins c ns vs=>exact h.elim
 |[],_,h=>exact h.elim
 |[.non],_,h=>exact h.elim
 |[.bl _],_,h=>exact h.elim
 |[.int _],_,h=>exact h.elim
 |[.str _],_,h=>exact h.elim
 |[.tup _ _],_,h=>exact h.elim
 |[.lst _],_,h=>exact h.elim
 |[.dct _ _],_,h=>exact h.elim
 |[.obj _ _ _],_,h=>exact h.elim
 |_::_::_,_,h=>exact (DH h).elim
theorem FH {m:Bm} {name:Str} {apos:Pos} {id:String} (hd:cx m=false) (hK:T.K=X.K) (slot:Slot "list" name id) (hty:typeOf (.builtin id)=pure (.type "method_descriptor")) (hm:qp X id (vi T m)) (ho:PE X o (tE T P cl E io))
  (hbase:attributeBase o name X.env (eval o X.env)=eval o X.env) (hline:(apos.endLine==pos.line)=true):PE X (.Call (.Attribute o name apos) [] [] pos) (tE T P cl E (.bm m io [])):=
 PE.mono (Dg PySem.F.plainAttrs_list slot hty hm ho hbase hline) fun σ H Q z903=>by
  obtain ⟨env,st,as,G,s,er,h⟩:=z903
  dsimp only [PI.E.run] at h
  refine az s er h fun x st1 as1 G1 H1 u s1 er1 r1 p1 l1 h=> ?_
  obtain ⟨c,h⟩:=ae.iff h
  refine ⟨?_,st1,as1,G1,x,[],_,s1,r1,rfl,h⟩
  have r3:=bc s1 r1
  generalize res st1 x=y at c r3
  cases y with
  |lst xs=>
   obtain ⟨a,us,rfl,q,_⟩:=r3
   exact .inl ⟨rfl,us,hK▸q⟩
  |dct ks vs=>
   replace c:cx m=true:=c
   rw [hd] at c
   cases c
  |_=>cases c
end
end PI
namespace PI
open PySem PySem.Spec L2 L2.L3 L2.L4 PySem.SeqAt
open PyProof.Rows hiding St lobj
section
variable {T:CT} {P:Pg} {cl:ar} {E:XS} {X:Cx} {pos:Pos}
theorem rZ {G:Hp} {i:Int} {v:Val} (r:af T as G xs us) (e:j0 xs i=some v):∃u,mO us i=some u/\Rel T as G v u:=by
 unfold j0 at e
 cases e1:hR xs.length i with
 |none=>rw [e1] at e;cases e
 |some j=>
  rw [e1] at e
  obtain ⟨u,e2,h⟩:=r.get (show xs[j]?=some v from e)
  refine ⟨u, ?_,h⟩
  unfold mO
  rw [←r.length,show rC xs.length i=some j from e1]
  exact e2
noncomputable def Iu:R2:=fun x y H Q=>∃a v,x= .ref a/\jl H a y (some v)/\Q v H
theorem AI (hu:X.A.units+1<cLine):jO X Iu:=by
 intro value slice pins s σ H x y v u Q I rx ry h hs
 obtain ⟨a,w,rfl,g,q⟩:=h
 obtain rfl:v=Value.ref a:=rx
 have hT:=ra I g
 unfold subscriptTail
 refine wpAny_bind ?_
 rw [getitemInPython_of_ne hT.not_modules]
 refine wpAny_bind (wpAny_specialOf hT PySem.F.slot_dict_getitem.lookup ?_)
 have fin:wpAny (model X.prog X.w) X.A (subscripted slice false (.ref a) u) (fun r s₃=>wpAny (model X.prog X.w) X.A (letTemporaryGo value (.ref a) r>>=fun _=>pure r) (EP X pins σ Q) X.xe s₃) X.xe s:=by
  rw [hs]
  exact wpAny_operating (wpAny_mono (uU hu I g ry fun w' s3 I3 rw'=>⟨w,H,I3,rw',q⟩) (fun r s₃ h₃=>wpAny_bind (wpAny_letTemporaryGo (wpAny_pure h₃))) fun _ _ x=>x)
 first
  |exact wpAny_pure (wpAny_bind fin)
  |exact wpAny_bind (wpAny_pure (wpAny_bind fin))
  |exact wpAny_bind fin
end
theorem qO {T:CT} {G:Hp} {v:Val} {k:Key} {u:L2.V} (h:bP v=some k) (r:Rel T as G v u):u=kV k:=by
 cases v<;>first|(cases h;done)|(cases h;exact r)
theorem sj {T:CT} {G:Hp}:∀{vs:List Val} {kk:List Key} {us:List L2.V},aH vs=some kk->af T as G vs us->us=kk.map kV
 |[],_,_,h,r=>by
  cases h
  exact r
 |v::vs,kk,us,h,⟨u,t,e,r1,r2⟩=>by
  unfold aH at h
  cases e1:bP v with
  |none=>rw [e1] at h;cases h
  |some k=>
   cases e2:aH vs with
   |none=>rw [e1,e2] at h;cases h
   |some kr=>
    rw [e1,e2] at h
    cases h
    rw [e,qO e1 r1,sj e2 r2]
    rfl
theorem mE {d:Nat} {v w:Val} {k k':Key} (h:bP v=some k) (h':bP w=some k'):eqv d v w=some (decide (k=k')):=by
 cases v<;>first|(cases h;done)|skip
 ·rename_i a
  cases w<;>first|(cases h';done)|skip
  ·rename_i b
   cases h;cases h'
   rw [wy]
   cases d<;>rfl
  ·cases h;cases h'
   cases d<;>rfl
 ·rename_i a
  cases w<;>first|(cases h';done)|skip
  ·cases h;cases h'
   cases d<;>rfl
  ·rename_i b
   cases h;cases h'
   rw [uJ]
   cases d<;>rfl
end PI
namespace L2.L3
open PySem PySem.Spec PyProof.Rows
noncomputable def DG (H:Hp) (a:Addr) (y:V) (o:Option V):Prop:=jl H a y o∨(o=none/\((∃b k,y= .ref b/\H b=some (.tup (List.map kV k))/\Rd H a (.dK []))∨∃k,y=kV k/\Rd H a (.dT [])))
section
variable {X:Cx} {pins:List (Addr×Obj)} {σ:St} {H:Hp} {s:Shared} {a:Addr} {y d:V} {u r:Value} {o:Option V} {A:Around} {E:Value->Shared->Prop}
theorem wb (I:Inv X pins σ H s) (e:Rd H a (.dK [])):(a==sysModules)=false/\s.heap.DictOfH (tupleKind (aG X.prog X.w)) a []:=by
 obtain ⟨_,hd,vs,rel,dd⟩:=eI I.ah e
 cases rel
 obtain ⟨ob,es,ep,h1,h2,h3,_,h4,_⟩:=dd
 have e0:es.toList=[]:=by
  generalize es.toList=l at h4
  cases h4
  rfl
 exact ⟨hd,ob,es,ep,h1,h2,h3,e0,fun x hx=>(by cases hx),List.nodup_nil⟩
theorem uM (I:Inv X pins σ H s) (e:Rd H a (.dT [])):(a==sysModules)=false/\s.heap.DictOf (aG X.prog X.w) a []:=by
 obtain ⟨_,hd,xs,rel,dd⟩:=eM I.ah e
 cases rel
 obtain ⟨ob,es,ep,h1,h2,h3,h4,_⟩:=dd
 have e0:es=#[]:=Array.toList_inj.mp h4
 subst e0
 obtain ⟨_,es',_,g1,_,g3,g4,g5,_⟩:=Heap.DictOf.new (knd:=aG X.prog X.w) s.heap
 rw [Heap.get?_push_size _ rfl] at g1
 cases g1
 cases g3
 exact ⟨hd,ob,#[],ep,h1,h2,h3,g4,g5,List.nodup_nil⟩
theorem E4 {Q:Value->Shared->Prop} (hu:A.units+1<cLine) (I:Inv X pins σ H s) (g:DG H a y o) (ry:RelV y u) (h:∀s',Inv X pins σ H s'->Q (.bool o.isSome) s'):
  wpAny (model X.prog X.w) A (compareOp .In u (.ref a)) Q E s:=by
 rcases g with g|⟨rfl,⟨b,k,rfl,eb,e⟩|⟨k,rfl,e⟩⟩
 ·exact IC hu I g ry h
 ·cases (show u=Value.ref b from ry)
  obtain ⟨hd,dd⟩:=wb I e
  refine wpAny_in_heap (tupleKind_room_in1 hu) (cz I.ah eb) hd dd ?_
  exact h _ (I.tok _)
 ·obtain ⟨hd,dd⟩:=uM I e
  refine wpAny_in_of (dr ry) hd dd.mapOf ?_
  exact h _ (I.tok _)
theorem wQ {Q:Value->Shared->Prop} (hu:A.units+1<cLine) (I:Inv X pins σ H s) (g:DG H a y o) (ry:RelV y u) (h:∀s',Inv X pins σ H s'->Q (.bool (!o.isSome)) s'):
  wpAny (model X.prog X.w) A (compareOp .NotIn u (.ref a)) Q E s:=by
 rcases g with g|⟨rfl,⟨b,k,rfl,eb,e⟩|⟨k,rfl,e⟩⟩
 ·exact BB hu I g ry h
 ·cases (show u=Value.ref b from ry)
  obtain ⟨hd,dd⟩:=wb I e
  refine wpAny_notIn_heap (tupleKind_room_in1 hu) (cz I.ah eb) hd dd ?_
  exact h _ (I.tok _)
 ·obtain ⟨hd,dd⟩:=uM I e
  refine wpAny_notIn_of (dr ry) hd dd.mapOf ?_
  exact h _ (I.tok _)
theorem AB {Q:Value->Shared->Prop} (hu:A.units+1<cLine) (I:Inv X pins σ H s) (g:DG H a y o) (ry:RelV y u) (h:∀w' s',Inv X pins σ H s'->RelV (o.getD .non) w'->Q w' s'):
  wpAny (model X.prog X.w) A (call (.builtin "dict.get") [.ref a,u]) Q E s:=by
 rcases g with g|⟨rfl,⟨b,k,rfl,eb,e⟩|⟨k,rfl,e⟩⟩
 ·exact EF hu I g ry h
 ·cases (show u=Value.ref b from ry)
  obtain ⟨hd,dd⟩:=wb I e
  exact call_meetsIn PySem.F.slot_dict_get dd.typeIs PySem.F.entry_dict_get (PySem.F.args_dict_get_2 _ _) (meetsH_dict_get (tupleKind (aG X.prog X.w)) a b hd) ⟨tupleKind_room_in1 hu,k,[],cz I.ah eb,dd,h _ _ (I.tok _) rfl⟩
 ·obtain ⟨hd,dd⟩:=uM I e
  exact call_meetsIn PySem.F.slot_dict_get dd.typeIs PySem.F.entry_dict_get (PySem.F.args_dict_get_2 _ _) (meets_dict_get (aG X.prog X.w) a (dr ry) hd) ⟨_,dd.mapOf,h _ _ (I.tok _) rfl⟩
theorem Ba {Q:Value->Shared->Prop} (hu:A.units+1<cLine) (I:Inv X pins σ H s) (g:DG H a y o) (ry:RelV y u) (rd:RelV d r) (h:∀w' s',Inv X pins σ H s'->RelV (o.getD d) w'->Q w' s'):
  wpAny (model X.prog X.w) A (call (.builtin "dict.get") [.ref a,u,r]) Q E s:=by
 rcases g with g|⟨rfl,⟨b,k,rfl,eb,e⟩|⟨k,rfl,e⟩⟩
 ·exact EB hu I g ry rd h
 ·cases (show u=Value.ref b from ry)
  obtain ⟨hd,dd⟩:=wb I e
  exact call_meetsIn PySem.F.slot_dict_get dd.typeIs PySem.F.entry_dict_get (PySem.F.args_dict_get_3 _ _ _) (meetsH_dict_get_default (tupleKind (aG X.prog X.w)) a b hd r) ⟨tupleKind_room_in1 hu,k,[],cz I.ah eb,dd,h _ _ (I.tok _) rd⟩
 ·obtain ⟨hd,dd⟩:=uM I e
  exact call_meetsIn PySem.F.slot_dict_get dd.typeIs PySem.F.entry_dict_get (PySem.F.args_dict_get_3 _ _ _) (meets_dict_get_default (aG X.prog X.w) a (dr ry) hd r) ⟨_,dd.mapOf,h _ _ (I.tok _) rd⟩
end
end L2.L3
namespace PI
open PySem PySem.Spec L2 L2.L3 L2.L4 PySem.SeqAt
open PyProof.Rows hiding St lobj
theorem mT:∀{xs:List Val},xs.all uu=true->∃kk,aH xs=some kk
 |[],_=>⟨[],rfl⟩
 |x::xs,h=>by
  rw [List.all_cons,Bool.and_eq_true] at h
  obtain ⟨kk,e⟩:=mT h.2
  have:=h.1
  cases x<;>first|(cases this;done)|skip
  ·rename_i i
   exact ⟨.inl i::kk,by simp [aH,bP,e]⟩
  ·rename_i i
   exact ⟨.inr i::kk,by simp [aH,bP,e]⟩
theorem lB {T:CT} {G H:Hp} {k:Val} {w:L2.V} (l:Le G H) (hk:bO k=true) (r:Rel T as G k w):
  (kT k=false/\∃κ,bP k=some κ/\w=kV κ)∨(kT k=true/\∃κs b,cG k=some κs/\w= .ref b/\H b=some (.tup (κs.map kV))):=by
 cases k with
 |int i=>exact .inl ⟨rfl, .inl i,rfl,qO rfl r⟩
 |str i=>exact .inl ⟨rfl, .inr i,rfl,qO rfl r⟩
 |tup f xs=>
  unfold bO at hk
  rw [Bool.and_eq_true] at hk
  have hf:f=false:=by simpa using hk.1
  subst hf
  obtain ⟨kk,e⟩:=mT hk.2
  obtain ⟨b,us,rfl,h1,h2⟩:=r
  refine .inr ⟨rfl,kk,b,e,rfl, ?_⟩
  rw [←sj e h2]
  exact l.ex h1 rfl
 |_=>cases hk
theorem bX {v:Val} {kk:List Key} (h:aH (v::vs)=some kk):∃k t,bP v=some k/\aH vs=some t/\kk=k::t:=by
 unfold aH at h
 obtain ⟨k,e1,e2⟩:=Option.bind_eq_some_iff.mp h
 obtain ⟨t,e3,e4⟩:=Option.map_eq_some_iff.mp e2
 exact ⟨k,t,e1,e3,e4.symm⟩
theorem eY {v:Val} {kk:List (List Key)} (h:a8 (v::vs)=some kk):∃k t,cG v=some k/\a8 vs=some t/\kk=k::t:=by
 unfold a8 at h
 obtain ⟨k,e1,e2⟩:=Option.bind_eq_some_iff.mp h
 obtain ⟨t,e3,e4⟩:=Option.map_eq_some_iff.mp e2
 exact ⟨k,t,e1,e3,e4.symm⟩
theorem mQ {d:Nat}:∀{xs ys:List Val} {a b:List Key},aH xs=some a->aH ys=some b->cv (eqv d) xs ys=some (decide (a=b))
 |[],[],_,_,h,h'=>by cases h;cases h';rfl
 |[],y::ys,_,_,h,h'=>by
  cases h
  obtain ⟨k,t,_,_,rfl⟩:=bX h'
  rfl
 |x::xs,[],_,_,h,h'=>by
  cases h'
  obtain ⟨k,t,_,_,rfl⟩:=bX h
  rfl
 |x::xs,y::ys,_,_,h,h'=>by
  obtain ⟨k,t,e1,e2,rfl⟩:=bX h
  obtain ⟨k',t',e3,e4,rfl⟩:=bX h'
  show (eqv d x y).bind (fun a=>(cv (eqv d) xs ys).map fun b=>a&&b)=_
  rw [mE e1 e3,mQ e2 e4]
  show some (decide (k=k')&&decide (t=t'))=_
  rw [←Bool.decide_and]
  congr 1
  exact decide_eq_decide.mpr (by simp)
theorem kg {v:Val} {a:List Key} (h:cG v=some a):∃f xs,v= .tup f xs/\aH xs=some a:=by
 cases v<;>first|(cases h;done)|exact ⟨_,_,rfl,h⟩
theorem qi {v w:Val} {a b:List Key} (h:cG v=some a) (h':cG w=some b):eqv 8 v w=some (decide (a=b)):=by
 obtain ⟨f,xs,rfl,e1⟩:=kg h
 obtain ⟨g,ys,rfl,e2⟩:=kg h'
 exact mQ e1 e2
theorem pV {v:Val} {k:Key} (h:bP v=some k):kT v=false:=by
 cases v<;>first|(cases h;done)|rfl
theorem oR {v:Val} {k:List Key} (h:cG v=some k):kT v=true:=by
 obtain ⟨f,xs,rfl,_⟩:=kg h
 rfl
section
variable {T:CT} {as:List Addr} {G H:Hp}
noncomputable def yG (T:CT) (as:List Addr) (G:Hp):Option Val->Option L2.V->Prop
 |none,none=>True
 |some v,some u=>Rel T as G v u
 |_,_=>False
theorem vn {k:Val} {κ:Key} (hk:bP k=some κ):∀{ks vs:List Val} {kk:List Key} {us:List L2.V} {r:Option Val},aH ks=some kk->kk.length=us.length->af T as G vs us->getD k ks vs=some r->yG T as G r (eS (kk.zip us) κ)
 |[],vs,kk,us,r,h,hl,rv,e=>by
  cases h
  cases e
  exact trivial
 |a::ks,vs,kk,us,r,h,hl,rv,e=>by
  obtain ⟨k1,t,e1,e2,rfl⟩:=bX h
  cases vs with
  |nil=>cases rv;cases hl
  |cons v vs=>
   obtain ⟨u,us',rfl,r1,r2⟩:=rv
   replace e:(if kT a=kT k then (eqv 8 a k).bind fun b=>if b=true then some (some v) else getD k ks vs else none)=some r:=e
   rw [if_pos (by rw [pV e1,pV hk]),mE e1 hk] at e
   replace e:(if decide (k1=κ)=true then some (some v) else getD k ks vs)=some r:=e
   rw [List.zip_cons_cons]
   by_cases z:k1=κ
   ·rw [if_pos (decide_eq_true z)] at e
    cases e
    rw [fQ z]
    exact r1
   ·rw [if_neg (by simpa using z)] at e
    rw [fI z]
    exact vn hk e2 (by simpa using hl) r2 e
theorem wB {k:Val} {κ:List Key} (hk:cG k=some κ):∀{ks vs:List Val} {kk:List (List Key)} {us:List L2.V} {r:Option Val},a8 ks=some kk->kk.length=us.length->af T as G vs us->getD k ks vs=some r->yG T as G r (eS (kk.zip us) κ)
 |[],vs,kk,us,r,h,hl,rv,e=>by
  cases h
  cases e
  exact trivial
 |a::ks,vs,kk,us,r,h,hl,rv,e=>by
  obtain ⟨k1,t,e1,e2,rfl⟩:=eY h
  cases vs with
  |nil=>cases rv;cases hl
  |cons v vs=>
   obtain ⟨u,us',rfl,r1,r2⟩:=rv
   replace e:(if kT a=kT k then (eqv 8 a k).bind fun b=>if b=true then some (some v) else getD k ks vs else none)=some r:=e
   rw [if_pos (by rw [oR e1,oR hk]),qi e1 hk] at e
   replace e:(if decide (k1=κ)=true then some (some v) else getD k ks vs)=some r:=e
   rw [List.zip_cons_cons]
   by_cases z:k1=κ
   ·rw [if_pos (decide_eq_true z)] at e
    cases e
    rw [fQ z]
    exact r1
   ·rw [if_neg (by simpa using z)] at e
    rw [fI z]
    exact wB hk e2 (by simpa using hl) r2 e
theorem pj {k:Val} {r:Option Val} {vs:List Val} {us:List L2.V}:∀{ks:List Val},(∀a∈ks,kT a≠kT k)->ks.length=vs.length->getD k ks vs=some r->ks=[]/\r=none
 |[],_,_,e=>by
  cases e
  exact ⟨rfl,rfl⟩
 |a::ks,h,hl,e=>by
  cases vs with
  |nil=>cases hl
  |cons v vs=>
   replace e:(if kT a=kT k then (eqv 8 a k).bind fun b=>if b=true then some (some v) else getD k ks vs else none)=some r:=e
   rw [if_neg (h a List.mem_cons_self)] at e
   cases e
theorem fG:∀{ks:List Val} {kk:List Key},aH ks=some kk->ks.length=kk.length/\∀a∈ks,kT a=false
 |[],_,h=>by cases h;exact ⟨rfl,fun _ z=>by cases z⟩
 |v::vs,kk,h=>by
  obtain ⟨k,t,e1,e2,rfl⟩:=bX h
  obtain ⟨h1,h2⟩:=fG e2
  exact ⟨by simp [h1],fun a ha=>(List.mem_cons.mp ha).elim (fun z=>by rw [z];exact pV e1) (h2 a)⟩
theorem fB:∀{ks:List Val} {kk:List (List Key)},a8 ks=some kk->ks.length=kk.length/\∀a∈ks,kT a=true
 |[],_,h=>by cases h;exact ⟨rfl,fun _ z=>by cases z⟩
 |v::vs,kk,h=>by
  obtain ⟨k,t,e1,e2,rfl⟩:=eY h
  obtain ⟨h1,h2⟩:=fB e2
  exact ⟨by simp [h1],fun a ha=>(List.mem_cons.mp ha).elim (fun z=>by rw [z];exact oR e1) (h2 a)⟩
theorem k6 {a:Addr} {k:Val} {w:L2.V} {r:Option Val} (l:Le G H) (d:fb H a ks us) (rv:af T as G vs us) (hk:bO k=true) (rk:Rel T as G k w) (e:getD k ks vs=some r):∃ro,DG H a w ro/\yG T as G r ro:=by
 rcases d with ⟨kk,h1,h2,h3⟩|⟨kk,h1,h2,h3⟩<;>rcases lB l hk rk with ⟨t,κ,e1,rfl⟩|⟨t,κ,b,e1,rfl,e2⟩
 ·exact ⟨_, .inl (.inl ⟨_,κ,h3,rfl,rfl⟩),vn e1 h1 h2 rv e⟩
 ·obtain ⟨z1,z2⟩:=fG h1
  obtain ⟨rfl,rfl⟩:=pj (us:=us) (fun a ha=>by rw [z2 a ha,t];decide) (by rw [z1,h2,rv.length]) e
  cases h1
  exact ⟨none, .inr ⟨rfl, .inl ⟨b,κ,rfl,e2,h3⟩⟩,trivial⟩
 ·obtain ⟨z1,z2⟩:=fB h1
  obtain ⟨rfl,rfl⟩:=pj (us:=us) (fun a ha=>by rw [z2 a ha,t];decide) (by rw [z1,h2,rv.length]) e
  cases h1
  exact ⟨none, .inr ⟨rfl, .inr ⟨κ,rfl,h3⟩⟩,trivial⟩
 ·exact ⟨_, .inl (.inr ⟨_,κ,b,h3,rfl,e2,rfl⟩),wB e1 h1 h2 rv e⟩
theorem n8:∀{ks:List Val} {kk:List (Key)} {k:Val} {κ:Key},aH ks=some kk->bP k=some κ->aH (ks++[k])=some (kk++[κ])
 |[],_,k,κ,h,h'=>by
  cases h
  simp [aH,h']
 |a::ks,kk,k,κ,h,h'=>by
  obtain ⟨k1,t,e1,e2,rfl⟩:=bX h
  have:=n8 e2 h'
  simp only [List.cons_append,aH,e1,this]
  rfl
theorem nk:∀{ks:List Val} {kk:List (List Key)} {k:Val} {κ:List Key},a8 ks=some kk->cG k=some κ->a8 (ks++[k])=some (kk++[κ])
 |[],_,k,κ,h,h'=>by
  cases h
  simp [a8,h']
 |a::ks,kk,k,κ,h,h'=>by
  obtain ⟨k1,t,e1,e2,rfl⟩:=eY h
  have:=nk e2 h'
  simp only [List.cons_append,a8,e1,this]
  rfl
theorem uV {k x:Val} {κ:Key} {u:L2.V} (hk:bP k=some κ) (hx:Rel T as G x u):∀{ks vs:List Val} {kk:List (Key)} {us:List L2.V} {b:Bool},aH ks=some kk->kk.length=us.length->af T as G vs us->memD k ks=some b->
  ((kk.zip us).any fun kv=>decide (kv.1=κ))=b/\∃us',(kk.zip us).map (fun kv=>if kv.1=κ then (kv.1,u) else kv)=kk.zip us'/\kk.length=us'.length/\af T as G (kF k x ks vs) us'
 |[],vs,kk,us,b,h,hl,rv,e=>by
  cases h
  cases e
  have e0:us=[]:=List.eq_nil_of_length_eq_zero hl.symm
  subst e0
  exact ⟨rfl,[],rfl,rfl,by cases vs<;>rfl⟩
 |a::ks,vs,kk,us,b,h,hl,rv,e=>by
  obtain ⟨k1,t,e1,e2,rfl⟩:=bX h
  cases vs with
  |nil=>cases rv;cases hl
  |cons v vs=>
   obtain ⟨w,us',rfl,r1,r2⟩:=rv
   replace e:(if kT a=kT k then (eqv 8 a k).bind fun b=>(memD k ks).map fun c=>b||c else none)=some b:=e
   have ek:=mE (d:=8) e1 hk
   rw [if_pos (by rw [pV e1,pV hk]),ek] at e
   obtain ⟨c,e3,rfl⟩:=Option.map_eq_some_iff.mp (show (memD k ks).map (fun c=>decide (k1=κ)||c)=some b from e)
   obtain ⟨h1,us2,h2,h3,h4⟩:=uV hk hx e2 (by simpa using hl) r2 e3
   refine ⟨by rw [List.zip_cons_cons,List.any_cons,h1],(if k1=κ then u else w)::us2, ?_,by simp [h3], ?_⟩
   ·rw [List.zip_cons_cons,List.map_cons,h2,List.zip_cons_cons]
    by_cases z:k1=κ
    ·rw [if_pos z,if_pos z]
    ·rw [if_neg z,if_neg z]
   ·refine ⟨_,us2,rfl, ?_,h4⟩
    rw [ek]
    by_cases z:k1=κ
    ·rw [if_pos z,if_pos (by rw [decide_eq_true z])]
     exact hx
    ·rw [if_neg z,if_neg (by rw [decide_eq_false z];simp)]
     exact r1
theorem uj {k x:Val} {κ:Key} {u:L2.V} (hk:bP k=some κ) (hx:Rel T as G x u) {kk:List (Key)} {us:List L2.V} (h:aH ks=some kk) (hl:kk.length=us.length) (rv:af T as G vs us) (e:putD k x ks vs=some (ks',vs')):
  ∃kk' us',aH ks'=some kk'/\kk'.length=us'.length/\putK (kk.zip us) κ u=kk'.zip us'/\af T as G vs' us':=by
 obtain ⟨b,e1,e2⟩:=Option.map_eq_some_iff.mp e
 obtain ⟨h1,us2,h2,h3,h4⟩:=uV hk hx h hl rv e1
 unfold putK
 rw [h1]
 cases b with
 |true=>
  cases e2
  exact ⟨kk,us2,h,h3,by rw [if_pos rfl];exact h2,h4⟩
 |false=>
  cases e2
  refine ⟨kk++[κ],us++[u],n8 h hk,by simp [hl], ?_,af.append rv ⟨u,[],rfl,hx,rfl⟩⟩
  rw [if_neg (by decide),List.zip_append hl]
  rfl
theorem u6 {k x:Val} {κ:List Key} {u:L2.V} (hk:cG k=some κ) (hx:Rel T as G x u):∀{ks vs:List Val} {kk:List (List Key)} {us:List L2.V} {b:Bool},a8 ks=some kk->kk.length=us.length->af T as G vs us->memD k ks=some b->
  ((kk.zip us).any fun kv=>decide (kv.1=κ))=b/\∃us',(kk.zip us).map (fun kv=>if kv.1=κ then (kv.1,u) else kv)=kk.zip us'/\kk.length=us'.length/\af T as G (kF k x ks vs) us'
 |[],vs,kk,us,b,h,hl,rv,e=>by
  cases h
  cases e
  have e0:us=[]:=List.eq_nil_of_length_eq_zero hl.symm
  subst e0
  exact ⟨rfl,[],rfl,rfl,by cases vs<;>rfl⟩
 |a::ks,vs,kk,us,b,h,hl,rv,e=>by
  obtain ⟨k1,t,e1,e2,rfl⟩:=eY h
  cases vs with
  |nil=>cases rv;cases hl
  |cons v vs=>
   obtain ⟨w,us',rfl,r1,r2⟩:=rv
   replace e:(if kT a=kT k then (eqv 8 a k).bind fun b=>(memD k ks).map fun c=>b||c else none)=some b:=e
   have ek:=qi e1 hk
   rw [if_pos (by rw [oR e1,oR hk]),ek] at e
   obtain ⟨c,e3,rfl⟩:=Option.map_eq_some_iff.mp (show (memD k ks).map (fun c=>decide (k1=κ)||c)=some b from e)
   obtain ⟨h1,us2,h2,h3,h4⟩:=u6 hk hx e2 (by simpa using hl) r2 e3
   refine ⟨by rw [List.zip_cons_cons,List.any_cons,h1],(if k1=κ then u else w)::us2, ?_,by simp [h3], ?_⟩
   ·rw [List.zip_cons_cons,List.map_cons,h2,List.zip_cons_cons]
    by_cases z:k1=κ
    ·rw [if_pos z,if_pos z]
    ·rw [if_neg z,if_neg z]
   ·refine ⟨_,us2,rfl, ?_,h4⟩
    rw [ek]
    by_cases z:k1=κ
    ·rw [if_pos z,if_pos (by rw [decide_eq_true z])]
     exact hx
    ·rw [if_neg z,if_neg (by rw [decide_eq_false z];simp)]
     exact r1
theorem t4 {k x:Val} {κ:List Key} {u:L2.V} (hk:cG k=some κ) (hx:Rel T as G x u) {kk:List (List Key)} {us:List L2.V} (h:a8 ks=some kk) (hl:kk.length=us.length) (rv:af T as G vs us) (e:putD k x ks vs=some (ks',vs')):
  ∃kk' us',a8 ks'=some kk'/\kk'.length=us'.length/\putK (kk.zip us) κ u=kk'.zip us'/\af T as G vs' us':=by
 obtain ⟨b,e1,e2⟩:=Option.map_eq_some_iff.mp e
 obtain ⟨h1,us2,h2,h3,h4⟩:=u6 hk hx h hl rv e1
 unfold putK
 rw [h1]
 cases b with
 |true=>
  cases e2
  exact ⟨kk,us2,h,h3,by rw [if_pos rfl];exact h2,h4⟩
 |false=>
  cases e2
  refine ⟨kk++[κ],us++[u],nk h hk,by simp [hl], ?_,af.append rv ⟨u,[],rfl,hx,rfl⟩⟩
  rw [if_neg (by decide),List.zip_append hl]
  rfl
end
end PI
namespace PI
open PySem PySem.Spec L2 L2.L3 L2.L4 PySem.SeqAt
open PyProof.Rows hiding St lobj
section
variable {T:CT} {P:Pg} {cl:ar} {E:XS} {X:Cx} {pos:Pos}
theorem rS {G H:Hp} {k:Val} {w:L2.V} (hk:bO k=true) (r:dg T as G H k w):Rel T as G k w:=by
 cases k<;>first|(cases hk;done)|exact r
theorem Ck (hK:T.K=X.K) (hu:X.A.units+9<cLine):aK X (compareOp .In) (cu T fun x y st=>cI (bw .In x y st)):=by
 intro pins s σ H u w uv wv Q I ru rw' ⟨st,as,G,x,y,Z,sm,r1,r2,p⟩
 cases y with
 |dct ks vs=>
  obtain ⟨a,us,rfl,d,rv⟩:=r2
  cases (show wv=Value.ref a from rw')
  replace p:ae T as G (cI (PI.iff (bO x=true) (R.ak ((getD x ks vs).map fun o=>if false=true then o.isNone else o.isSome) st))) (PV T Q) Z:=p
  by_cases hk:bO x=true
  ·rw [bt hk] at p
   obtain ⟨b,e,p⟩:=ae.ak p
   obtain ⟨r,e1,rfl⟩:=Option.map_eq_some_iff.mp e
   obtain ⟨ro,g,o⟩:=k6 sm.sub d rv hk (rS hk r1) e1
   refine E4 (by lia) I g ru fun s' I'=>⟨.bl ro.isSome,H,I',rfl, ?_⟩
   have:ro.isSome=r.isSome:=by
    cases r<;>cases ro<;>first|rfl|exact o.elim
   rw [this]
   exact p.ok sm _ rfl
  ·have z:PI.iff (bO x=true) (R.ak ((getD x ks vs).map fun o=>if false=true then o.isNone else o.isSome) st)= .stuck:=if_neg hk
   rw [z] at p
   exact p.elim
 |tup f ys=>exact wI hK hu pins s σ H u w uv wv Q I ru rw' ⟨st,as,G,x, .tup f ys,Z,sm,r1,r2,p⟩
 |lst ys=>exact wI hK hu pins s σ H u w uv wv Q I ru rw' ⟨st,as,G,x, .lst ys,Z,sm,r1,r2,p⟩
 |_=>exact p.elim
theorem uY (hK:T.K=X.K) (hu:X.A.units+9<cLine):aK X (compareOp .NotIn) (cu T fun x y st=>cI (bw .NotIn x y st)):=by
 intro pins s σ H u w uv wv Q I ru rw' ⟨st,as,G,x,y,Z,sm,r1,r2,p⟩
 cases y with
 |dct ks vs=>
  obtain ⟨a,us,rfl,d,rv⟩:=r2
  cases (show wv=Value.ref a from rw')
  replace p:ae T as G (cI (PI.iff (bO x=true) (R.ak ((getD x ks vs).map fun o=>if true=true then o.isNone else o.isSome) st))) (PV T Q) Z:=p
  by_cases hk:bO x=true
  ·rw [bt hk] at p
   obtain ⟨b,e,p⟩:=ae.ak p
   obtain ⟨r,e1,rfl⟩:=Option.map_eq_some_iff.mp e
   obtain ⟨ro,g,o⟩:=k6 sm.sub d rv hk (rS hk r1) e1
   refine wQ (by lia) I g ru fun s' I'=>⟨.bl (!ro.isSome),H,I',rfl, ?_⟩
   have:(!ro.isSome)=r.isNone:=by
    cases r<;>cases ro<;>first|rfl|exact o.elim
   rw [this]
   exact p.ok sm _ rfl
  ·have z:PI.iff (bO x=true) (R.ak ((getD x ks vs).map fun o=>if true=true then o.isNone else o.isSome) st)= .stuck:=if_neg hk
   rw [z] at p
   exact p.elim
 |tup f ys=>exact mR hK hu pins s σ H u w uv wv Q I ru rw' ⟨st,as,G,x, .tup f ys,Z,sm,r1,r2,p⟩
 |lst ys=>exact mR hK hu pins s σ H u w uv wv Q I ru rw' ⟨st,as,G,x, .lst ys,Z,sm,r1,r2,p⟩
 |_=>exact p.elim
theorem wc {H:Hp} {a:Addr} (d:fb H a ks us):Aj H a:=d.elim (fun z900=>by obtain ⟨kk,_,_,h⟩:=z900;exact .inl ⟨_,h⟩) fun z900=>by obtain ⟨kk,_,_,h⟩:=z900;exact .inr ⟨_,h⟩
theorem Eh {e:Expr} (hu:X.A.units+1<cLine) (ho:PE X o (tE T P cl E io)) (he:PE X e (tE T P cl E ie)) (m:M1 X o "get" apos e pos):PE X (.Call (.Attribute o "get" apos) [e] [] pos) (tE T P cl E (.bm .get io [ie])):=by
 intro pins s σ H Q I ⟨env,st,as,G,sm,er,h⟩
 dsimp only [PI.E.run] at h
 have h2:=az (K:=fun u H1=>∃a,u= .ref a/\Aj H1 a/\tE T P cl E ie σ H1 fun y H2=>∃ov,DG H2 a y ov/\Q (ov.getD .non) H2) sm er h fun v st1 as1 G1 H1 u s1 er1 r1 p1 l1 h=>by
  obtain ⟨c,h⟩:=ae.iff h
  have rr:=bc s1 r1
  have cd:∃ks vs,res st1 v= .dct ks vs:=by
   generalize res st1 v=y at c
   cases y<;>first|(cases c;done)|exact ⟨_,_,rfl⟩
  obtain ⟨ks,vs,ev⟩:=cd
  rw [ev] at rr
  obtain ⟨a,us,rfl,d,rv⟩:=rr
  refine ⟨a,rfl,wc d, ?_⟩
  replace h:ae T as1 G1 (((ie.run P cl env st1).bind fun x st=> .ok [x] st).bind fun xs st=>jU .get v xs st) (fun v _ as' G' H'=>∀u,Rel T as' G' v u->Q u H') (E σ):=by
   have z:aS P cl [ie] env st1=(ie.run P cl env st1).bind fun x st=> .ok [x] st:=by
    unfold aS
    rfl
   rw [z] at h
   exact h
  rw [R.bind_assoc] at h
  refine az s1 er1 h fun k st2 as2 G2 H2 w s2 er2 r2 p2 l2 h=> ?_
  replace h:ae T as2 G2 (qw (res st2 v) [k] st2) (fun v _ as' G' H'=>∀u,Rel T as' G' v u->Q u H') (E σ):=h
  have r3:=bc s2 (r1.mono p2 l2)
  generalize res st2 v=y at h r3
  cases y with
  |dct ks vs=>
   obtain ⟨hk,h⟩:=ae.iff h
   obtain ⟨b,e,h⟩:=ae.dP h
   obtain ⟨r,e1,rfl⟩:=Option.map_eq_some_iff.mp e
   obtain ⟨a',us',ea,d',rv'⟩:=r3
   cases ea
   obtain ⟨ro,g,og⟩:=k6 s2.sub d' rv' hk r2 e1
   refine ⟨ro,g, ?_⟩
   cases r<;>cases ro<;>first|exact og.elim|exact h.ok s2 _ rfl|exact h.ok s2 _ og
  |_=>exact h.elim
 refine wpAny_Call_method m.base m.few m.line PySem.F.plainAttrs_dict PySem.F.slot_dict_get PySem.F.type_dict_get (ay (ho pins s σ H _ I h2) fun u s1 z902=> ?_);obtain ⟨x,H1,I1,rx,a,ex,d,q1⟩:=z902
 subst ex
 obtain rfl:u=Value.ref a:=rx
 obtain ⟨t1,t2,_⟩:=wo I1 d
 refine ⟨t1,t2, ?_⟩
 rw [m.trees]
 refine Calls.callWith_builtin rfl (Calls.evalArgs_plain (Calls.spliced_cons (ay (he pins s1 σ H1 _ I1 q1) fun iv s2 ⟨y,H2,I2,ry,ov,g,q2⟩=>Calls.spliced_nil ?_)))
 exact AB hu I2 g ry fun w' s3 I3 rw'=>⟨_,H2,I3,rw',q2⟩
theorem Ds:PE X (.Dict [] [] pos) (tE T P cl E (.dct [] [])):=
 PE.mono yH fun σ H Q z903 p hp=>by
  obtain ⟨env,st,as,G,s,er,h⟩:=z903
  dsimp only [PI.E.run] at h
  have s2:=s.push (o:= .dct [] []) (u:= .dK []) hp ⟨[], .inl ⟨[],rfl,rfl,aj⟩,rfl⟩
  refine h (as++[p]) G _ (List.prefix_append _ _) (Le.refl _) s2 _ ⟨p, ?_,rfl⟩
  rw [←s.len,List.getElem?_append_right (Nat.le_refl _)]
  simp
end
end PI
namespace L2.L3
open PySem PySem.Spec PyProof.Rows
section
variable {X:Cx} {pins:List (Addr×Obj)} {σ:St} {H:Hp} {s:Shared} {a:Addr}
theorem Inv.FR (I:Inv X pins σ H s) (e:H a=some (.dK [])):Inv X pins σ (upd H a (.dT [])) s:=by
 obtain ⟨hd,o,es,ep,h1,h2,h3,h4,_,h5⟩:=wb I (.inl e)
 exact I.write (x:=a) (e:=a) (t':=s.toks) (by rw [e];exact True.intro) (.inl rfl) (fun b q hb z=>z) ⟨o,h1⟩ ⟨Nat.zero_le _,hd,[], .nil,o,es,ep,h1,h2,h3,h4,h5⟩
theorem Inv.Fj (I:Inv X pins σ H s) (e:H a=some (.dT [])):Inv X pins σ (upd H a (.dK [])) s:=by
 obtain ⟨hd,dd⟩:=uM I (.inl e)
 obtain ⟨o,es,ep,h1,r⟩:=id dd
 exact I.write (x:=a) (e:=a) (t':=s.toks) (by rw [e];exact True.intro) (.inl rfl) (fun b q hb z=>z) ⟨o,h1⟩ ⟨Nat.zero_le _,hd,[], .nil,dd⟩
end
noncomputable def Ft:V->V->V->Hp->(Hp->Prop)->Prop:=fun o i v H Q=>∃a,o= .ref a/\((∃H',eX H a i v H'/\Q H')∨(H a=some (.dK [])/\∃H',eX (upd H a (.dT [])) a i v H'/\Q H')∨(H a=some (.dT [])/\∃H',eX (upd H a (.dK [])) a i v H'/\Q H'))
theorem set_dict {X:Cx} (hu:X.A.units+1<cLine):ji X Ft:=by
 intro pins s σ H o i v ov iv u Q I ro ri rv h
 obtain ⟨a,rfl,h⟩:=h
 cases (show ov=Value.ref a from ro)
 rcases h with ⟨H',g,q⟩|⟨e,H',g,q⟩|⟨e,H',g,q⟩
 ·exact iV hu I g ri rv fun s' I'=>⟨H',I',q⟩
 ·exact iV hu (Inv.FR I e) g ri rv fun s' I'=>⟨H',I',q⟩
 ·exact iV hu (Inv.Fj I e) g ri rv fun s' I'=>⟨H',I',q⟩
theorem ji.or {X:Cx} {t t':tm} (h:ji X t) (h':ji X t'):ji X (fun o i v H Q=>t o i v H Q∨t' o i v H Q):=fun pins s σ H o i v ov iv u Q I ro ri rv q=>q.elim (h pins s σ H o i v ov iv u Q I ro ri rv) (h' pins s σ H o i v ov iv u Q I ro ri rv)
end L2.L3
namespace PI
open PySem PySem.Spec L2 L2.L3 L2.L4 PySem.SeqAt
open PyProof.Rows hiding St lobj
section
variable {T:CT} {P:Pg} {cl:ar} {E:XS} {X:Cx} {pos:Pos}
theorem ig (n d:Nat) (o:Option Int):bA n d o=HT.aU n d o:=by
 cases o<;>rfl
theorem af.drop {G:Hp}:∀{xs:List Val} {us:List L2.V} (n:Nat),af T as G xs us->af T as G (xs.drop n) (us.drop n)
 |_,_,0,h=>h
 |[],_,_+1,h=>by cases h;rfl
 |_::_,_,n+1,⟨u,t,e,h,r⟩=>by subst e;exact af.drop n r
theorem af.take {G:Hp}:∀{xs:List Val} {us:List L2.V} (n:Nat),af T as G xs us->af T as G (xs.take n) (us.take n)
 |_,_,0,h=>rfl
 |[],_,_+1,h=>by cases h;rfl
 |_::_,_,n+1,⟨u,t,e,h,r⟩=>by subst e;exact ⟨u,t.take n,rfl,h,af.take n r⟩
theorem qb {G:Hp} (lo hi:Option Int) (r:af T as G xs us):af T as G (cut xs lo hi) (jh us lo hi):=by
 unfold cut jh
 rw [ig,ig,r.length]
 exact (r.drop _).take _
noncomputable def px (T:CT) (P:Pg) (cl:ar) (E:XS) (e:Option PI.E):TO:=fun σ H Q=>∃env st as G,Sim T st as G H/\aJ T as G env σ/\ae T as G ((gO P cl e env st).bind fun a st=>iX a st) (fun v _ _ _ H'=>Q v H') (E σ)
theorem t5:PO X none (px T P cl E none):=fun pins s σ H Q I z906=>by obtain ⟨env,st,as,G,sm,er,h⟩:=z906;exact BS pins s σ H Q I (h.ok sm)
theorem tU {e:Expr} (he:PE X e (tE T P cl E ie)):PO X (some e) (px T P cl E (some ie)):=fun pins s σ H Q I z906=>by
 obtain ⟨env,st,as,G,sm,er,h⟩:=z906
 refine BH he pins s σ H Q I ?_
 unfold gO at h
 rw [R.bind_assoc] at h
 refine az sm er h fun x st1 as1 G1 H1 u s1 er1 r1 p1 l1 h=> ?_
 cases x with
 |int i=>
  cases r1
  exact ⟨i,rfl,h.ok s1⟩
 |_=>exact h.elim
theorem sJ {α:Type} {e:Option PI.E} {env:Env} {st:aa} {G H:Hp} {σ:St} {f:Option Int->aa->R α} {Q:α->aa->List Addr->Hp->Hp->Prop} {K:Option Int->Hp->Prop} (s:Sim T st as G H) (er:aJ T as G env σ)
  (h:ae T as G (((gO P cl e env st).bind fun a st=>iX a st).bind f) Q (E σ))
  (k:∀v st1 as1 G1 H1,Sim T st1 as1 G1 H1->aJ T as1 G1 env σ->as<+:as1->Le G G1->ae T as1 G1 (f v st1) Q (E σ)->K v H1):px T P cl E e σ H K:=
 ⟨env,st,as,G,s,er,h.bind.imp fun v st1 as1 G1 H1 p l s1 q=>k v st1 as1 G1 H1 s1 (er.mono p l) p l q⟩
theorem wg {α:Type} (xs:List α) (a b:Nat) (h:b<=xs.length):((List.range (b-a)).filterMap fun i=>xs[a+i]?)=(xs.drop a).take (b-a):=by
 induction xs generalizing a b with
 |nil=>
  simp at h
  subst h
  simp
 |cons x xs ih=>
  cases a with
  |zero=>
   cases b with
   |zero=>simp
   |succ b=>
    have q:=ih 0 b (by simpa using h)
    simp only [Nat.sub_zero,Nat.zero_add,List.drop_zero] at q⊢
    rw [List.range_succ_eq_map,List.filterMap_cons,List.filterMap_map]
    simp only [List.getElem?_cons_zero,List.take_succ_cons]
    rw [←q]
    rfl
  |succ a=>
   cases b with
   |zero=>simp
   |succ b=>
    have q:=ih a b (by simpa using h)
    rw [show b+1-(a+1)=b-a by lia,List.drop_succ_cons,←q]
    congr 1
    funext i
    rw [show a+1+i=(a+i)+1 by lia,List.getElem?_cons_succ]
theorem AX (n:Nat) (o:Option Int) (d:Nat) (h:d<=n):bA n d o<=n:=by
 cases o with
 |none=>exact h
 |some v=>
  unfold bA
  simp only
  split<;>lia
theorem u4 (lo hi:Option Int) (n:Nat):PySem.Builtin.Str.strSliceIndices lo hi 1 n=(List.range (bA n n hi-bA n 0 lo)).map (bA n 0 lo+ ·):=by
 have clip:∀(v:Option Int) (d:Nat),((match v with|none=>(d:Int)|some i=>if (1:Int)>0 then max 0 (min (if i<0 then i+(n:Int) else i) n) else max (-1) (min (if i<0 then i+(n:Int) else i) ((n:Int)-1))):Int)=((bA n d v:Nat):Int):=fun v d=>by
  cases v with
  |none=>rfl
  |some i=>
   simp only [bA]
   rw [if_pos (by decide)]
   split<;>lia
 rw [←sliceRange_one,←clip lo 0,←clip hi n]
 rfl
theorem kZ (x:Str) (lo hi:Option Int):jr x lo hi=⟨(cut x.cps.toList lo hi).toArray⟩:=by
 have hl:x.cps.toList.length=x.length:=by simp [Str.length]
 have hb:=AX x.length hi x.length (Nat.le_refl _)
 have e:((PySem.Builtin.Str.strSliceIndices lo hi 1 x.length).filterMap (x.cps[·]?))=cut x.cps.toList lo hi:=by
  rw [u4,List.filterMap_map]
  unfold cut
  rw [hl,←wg x.cps.toList _ _ (by rw [hl];exact hb)]
  congr 1
  funext i
  simp
 unfold jr
 rw [e]
 split
 ·rename_i z
  rw [u4] at z
  simp only [List.length_map,List.length_range,beq_iff_eq] at z
  have c0:bA x.length 0 lo=0∨x.length=0:=by lia
  have c:cut x.cps.toList lo hi=x.cps.toList:=by
   unfold cut
   rw [hl]
   by_cases z0:x.length=0
   ·have:x.cps.toList=[]:=List.eq_nil_of_length_eq_zero (by rw [hl];exact z0)
    rw [this]
    simp
   ·have c1:bA x.length 0 lo=0:=by lia
    rw [c1,List.drop_zero,List.take_of_length_le (by rw [hl];lia)]
  rw [c]
 ·rfl
theorem oz {lo hi:Option Expr} {il ih:Option PI.E} (hK:T.K=X.K) (ho:PE X o (tE T P cl E io)) (hl:PO X lo (px T P cl E il)) (hh:PO X hi (px T P cl E ih)):PE X (.Subscript o (.Slice lo hi none p2) pos) (tE T P cl E (.slc io il ih)):=
 PE.mono (zy ((CM.or Aw).or EJ) ho hl hh) fun σ H Q z903=>by
  obtain ⟨env,st,as,G,s,er,h⟩:=z903
  dsimp only [PI.E.run] at h
  refine az s er h fun x st1 as1 G1 H1 u s1 er1 r1 p1 l1 h=> ?_
  refine sJ s1 er1 h fun a st2 as2 G2 H2 s2 er2 p2 l2 h=> ?_
  refine sJ s2 er2 h fun b st3 as3 G3 H3 s3 er3 p3 l3 h=> ?_
  have rr:=bc s3 (r1.mono (p2.trans p3) (l2.trans l3))
  generalize res st3 x=y at h rr
  cases y with
  |tup f xs=>
   obtain ⟨d,us,rfl,q,r⟩:=rr
   obtain ⟨c,h⟩:=ae.iff h
   rw [ig,ig,r.length] at c
   exact .inl (.inl ⟨d,us,rfl,bh s3.sub q,c,fun p hp=>lZ s3 (qb a b r) h hp⟩)
  |lst xs=>
   obtain ⟨d,us,rfl,q,r⟩:=rr
   exact .inl (.inr ⟨d,us,rfl,hK▸q,fun p hp=>fj s3 (qb a b r) h hp⟩)
  |str z=>
   cases rr
   obtain ⟨c,h⟩:=ae.iff h
   have q:=h.ok s3 _ rfl
   refine .inr ⟨z,rfl,c, ?_,by rw [kZ];exact q⟩
   rw [kZ]
   show (cut z.cps.toList a b).toArray.size<=1000
   unfold cut
   rw [List.size_toArray,List.length_take,List.length_drop]
   have:z.cps.toList.length=z.length:=by simp [Str.length]
   lia
  |_=>exact h.elim
end
end PI
namespace PI
open PySem PySem.Spec L2 L2.L3 L2.L4 PySem.SeqAt
open PyProof.Rows hiding St lobj
section
variable {T:CT} {P:Pg} {cl:ar} {E:XS} {X:Cx} {pos:Pos}
theorem FE {a b:Expr} (hK:T.K=X.K) (hu:X.A.units+1<cLine) (ha:PE X a (tE T P cl E ia)) (hb:PE X b (tE T P cl E ib)) (hs:mm b):PE X (.Subscript a b pos) (tE T P cl E (.idx ia ib)):=
 PE.mono (FC (Dx.or (AI hu)) ha hb hs) fun σ H Q z903=>by
  obtain ⟨env,st,as,G,s,er,h⟩:=z903
  dsimp only [PI.E.run] at h
  refine az s er h fun x st1 as1 G1 H1 u s1 er1 r1 p1 l1 h=> ?_
  refine az s1 er1 h fun y st2 as2 G2 H2 w s2 er2 r2 p2 l2 h=> ?_
  have rr:=bc s2 (r1.mono p2 l2)
  generalize res st2 x=z at h rr
  cases z with
  |tup f xs=>cases y with
   |int i=>
    cases r2
    obtain ⟨d,us,rfl,q,r⟩:=rr
    obtain ⟨v,e,h⟩:=ae.dP h
    obtain ⟨u,e2,rv⟩:=rZ r e
    exact .inl (.inr (.inl ⟨d,us,i,u,rfl,rfl,bh s2.sub q,e2,h.ok s2 _ rv⟩))
   |_=>exact h.elim
  |lst xs=>cases y with
   |int i=>
    cases r2
    obtain ⟨d,us,rfl,q,r⟩:=rr
    obtain ⟨v,e,h⟩:=ae.dP h
    obtain ⟨u,e2,rv⟩:=rZ r e
    exact .inl (.inl ⟨d,us,i,u,rfl,rfl,hK▸q,e2,h.ok s2 _ rv⟩)
   |_=>exact h.elim
  |str t=>cases y with
   |int i=>
    cases r2
    cases rr
    obtain ⟨c,h⟩:=ae.iff h
    obtain ⟨v,e,h⟩:=ae.dP h
    obtain ⟨c',e1,rfl⟩:=Option.map_eq_some_iff.mp e
    have z:sizeLine=2^24:=rfl
    refine .inl (.inr (.inr ⟨t,i,c',rfl,rfl,by lia, ?_,h.ok s2 _ rfl⟩))
    unfold mO
    rw [show t.cps.toList.length=t.length by simp [Str.length]]
    exact e1
   |_=>exact h.elim
  |dct ks vs=>
   obtain ⟨hk,h⟩:=ae.iff h
   obtain ⟨v,e,h⟩:=ae.dP h
   obtain ⟨ov,e1,e2⟩:=Option.bind_eq_some_iff.mp e
   obtain rfl:ov=some v:=e2
   obtain ⟨d,us,rfl,q,r⟩:=rr
   obtain ⟨ro,g,og⟩:=k6 s2.sub q r hk r2 e1
   cases ro with
   |none=>exact og.elim
   |some w'=>
    rcases g with g|⟨z,_⟩
    ·exact .inr ⟨d,w',rfl,g,h.ok s2 _ og⟩
    ·cases z
  |_=>exact h.elim
theorem of_post {α:Type} {env:Env} {as:List Addr} {G:Hp} {σ:St} {r:R α} {k:α->aa->F} {D:Ends} (h:aF T as G (F.of env r k) D E) (er:aJ T as G env σ):ae T as G r (fun a st as' G' _=>aF T as' G' (k a st) D E) (E σ):=by
 cases r with
 |ok a st=>exact fun as' G' H' p l s=>aF.mono p l h
 |exc x st=>exact fun as' G' H' cls dx p l s x=>h as' G' H' σ cls dx p l s (er.mono p l) x
 |stuck=>exact h
theorem af.set {G:Hp} {v:Val} {u:L2.V} (h:Rel T as G v u):∀{xs:List Val} {us:List L2.V} (j:Nat),af T as G xs us->af T as G (xs.set j v) (us.set j u)
 |[],_,_,r=>by cases r;rfl
 |_::_,_,0,⟨w,t,e,_,r⟩=>by subst e;exact ⟨u,t,rfl,h,r⟩
 |_::_,_,j+1,⟨w,t,e,hw,r⟩=>by subst e;exact ⟨w,t.set j u,rfl,hw,af.set h j r⟩
theorem sI {z x:Val} {ks:List Val} {p:List Val×List Val} (h:∀a∈ks,¬kT a=kT z) (e:putD z x ks vs=some p):ks=[]:=by
 cases ks with
 |nil=>rfl
 |cons a0 ks=>
  have e3:memD z (a0::ks)=none:=if_neg (h a0 List.mem_cons_self)
  unfold putD at e
  rw [e3] at e
  cases e
theorem CL {a b e:Expr} (hu:X.A.units+1<cLine) (ha:PE X a (tE T P cl E ia)) (hb:PE X b (tE T P cl E ib)) (he:PE X e (tE T P cl E ie)) (hn:eA b=true) (hc:dz e=true):PS X (.Assign [.Subscript a b tpos] e pos) (tS T P cl E (.eT ia ib ie)):=
 PS.mono (wK he (DE ha hb (ji.or set_list (set_dict hu)) (by intro v;cases b<;>first|rfl|cases hn)) (by show swapsWith e (some (.Subscript a b tpos)) pos.line X.env=pure false;cases e<;>first|rfl|cases hc) (by cases e<;>rfl) rfl) fun D σ H z903=>by
  obtain ⟨env,st,as,G,s,er,h⟩:=z903
  dsimp only [PI.S.run] at h
  have h2:=of_post h er
  refine az s er h2 fun x st1 as1 G1 H1 u s1 er1 r1 p1 l1 h=> ?_
  refine az s1 er1 h fun y st2 as2 G2 H2 w s2 er2 r2 p2 l2 h=> ?_
  refine az s2 er2 h fun z st3 as3 G3 H3 i s3 er3 r3 p3 l3 h=> ?_
  cases y with
  |ref k=>
   obtain ⟨d,ed,rfl⟩:=r2.mono p3 l3
   replace h:ae T as3 G3 (lU k x st3 st3[k]? z) (fun a st as' G' _=>aF T as' G' (.next env st) D E) (E σ):=h
   cases e1:st3[k]? with
   |none=>rw [e1] at h;exact h.elim
   |some o=>
    rw [e1] at h
    have ob:=s3.ob k o d e1 ed
    cases o with
    |lst xs=>cases z with
     |int j=>
      cases r3
      obtain ⟨us,q,r⟩:=ob
      obtain ⟨jj,e2,h⟩:=ae.ak h
      have rx:=r1.mono (p2.trans p3) (l2.trans l3)
      have s4:=s3.set (o:= .lst (xs.set jj x)) ed ⟨us.set jj u,aj,af.set rx jj r⟩
      exact .inl ⟨d,us,j,jj,rfl,rfl,q,by rw [←r.length];exact e2,h.ok s4 as3 G3 _ σ (List.prefix_refl _) (Le.refl _) s4 er3⟩
     |_=>exact h.elim
    |dct ks vs=>
     obtain ⟨⟨hk,hl⟩,h⟩:=ae.iff h
     obtain ⟨⟨ks',vs'⟩,e2,h⟩:=ae.ak h
     obtain ⟨us,q,r⟩:=ob
     have rx:=r1.mono (p2.trans p3) (l2.trans l3)
     have sz:sizeLine=2^24:=rfl
     have fin:∀{u':HO},dW T as3 G3 (upd H3 d u') d (.dct ks' vs')->D.nx σ (upd H3 d u'):=fun {u'} o=>by
      have s4:=s3.set (o:= .dct ks' vs') ed o
      exact h.ok s4 as3 G3 _ σ (List.prefix_refl _) (Le.refl _) s4 er3
     refine .inr ⟨d,rfl, ?_⟩
     rcases q with ⟨kk,h1,h2,h3⟩|⟨kk,h1,h2,h3⟩<;>rcases lB s3.sub hk r3 with ⟨t,κ,k1,rfl⟩|⟨t,κ,b',k1,rfl,k2⟩
     ·obtain ⟨kk',us',z1,z2,z3,z4⟩:=uj k1 rx h1 h2 r e2
      refine .inl ⟨_, .inl ⟨_,κ,h3,rfl, ?_,rfl⟩,fin ⟨us', .inl ⟨kk',z1,z2,by rw [z3];exact aj⟩,z4⟩⟩
      rw [List.length_zip,←h2,Nat.min_self,←(fG h1).1]
      lia
     ·obtain ⟨z1,z2⟩:=fG h1
      have e0:ks=[]:=sI (fun a h=>by rw [z2 a h,t];decide) e2
      subst e0
      cases h1
      have e1':us=[]:=List.eq_nil_of_length_eq_zero h2.symm
      subst e1'
      obtain ⟨kk',us',y1,y2,y3,y4⟩:=t4 (kk:=[]) (us:=[]) k1 rx rfl rfl r e2
      refine .inr (.inl ⟨h3,_, .inr ⟨[],κ,b',aj,rfl, ?_,Nat.lt_of_lt_of_le (by decide:0<2^24) (Nat.le_of_eq sz.symm),rfl⟩, ?_⟩)
      ·rw [ao (oJ k2 h3 (fun z=>nomatch z))]
       exact k2
      ·rw [gL]
       exact fin ⟨us', .inr ⟨kk',y1,y2,by rw [show putK [] κ u=kk'.zip us' from y3];exact aj⟩,y4⟩
     ·obtain ⟨z1,z2⟩:=fB h1
      have e0:ks=[]:=sI (fun a h=>by rw [z2 a h,t];decide) e2
      subst e0
      cases h1
      have e1':us=[]:=List.eq_nil_of_length_eq_zero h2.symm
      subst e1'
      obtain ⟨kk',us',y1,y2,y3,y4⟩:=uj (kk:=[]) (us:=[]) k1 rx rfl rfl r e2
      refine .inr (.inr ⟨h3,_, .inl ⟨[],κ,aj,rfl,Nat.lt_of_lt_of_le (by decide:0<2^24) (Nat.le_of_eq sz.symm),rfl⟩, ?_⟩)
      rw [gL]
      exact fin ⟨us', .inl ⟨kk',y1,y2,by rw [show putK [] κ u=kk'.zip us' from y3];exact aj⟩,y4⟩
     ·obtain ⟨kk',us',z1,z2,z3,z4⟩:=t4 k1 rx h1 h2 r e2
      refine .inl ⟨_, .inr ⟨_,κ,b',h3,rfl,k2, ?_,rfl⟩,fin ⟨us', .inr ⟨kk',z1,z2,by rw [z3];exact aj⟩,z4⟩⟩
      rw [List.length_zip,←h2,Nat.min_self,←(fB h1).1]
      lia
    |ins c ns vs=>exact h.elim
  |_=>exact h.elim
end
end PI
namespace L2.L3
open PySem PySem.Spec PyProof.Rows
end L2.L3
namespace PI
open PySem PySem.Spec L2 L2.L3 L2.L4 PySem.SeqAt
open PyProof.Rows hiding St lobj
section
variable {T:CT} {P:Pg} {cl:ar} {E:XS} {X:Cx} {pos:Pos}
noncomputable def C5 (K:PySem.W.Frag):Prop:=∀a n,a∈["NoneType","bool","int","str","tuple","list","dict"]->n∈["bool","int","str","tuple","list","dict"]->PySem.W.kitOne K (.type a) (.type n)=some (a==n||(a=="bool"&&n=="int"))
end
end PI
namespace PI
open PySem PySem.Spec L2 L2.L3 L2.L4 PySem.SeqAt
open PyProof.Rows hiding St lobj
section
variable {T:CT} {P:Pg} {cl:ar} {E:XS} {X:Cx} {pos:Pos}
theorem uR {k:Nat} {f C:Addr} {ps:List Str} {sp:Sp} {σ:St} {H:Hp} {s:Shared} {Q:VK} {us:List Value} (M:Mk X.K C f) (F:FnOk X.prog X.w X.K X.mg X.base (cJ X.prog X.w) k f fd ps sp) (hr:Room (k+1) X.A) (hb:Binds X.K fd ps []) (hx:cc X)
  (I:Inv (X.ag (L4.XE X E)) pins σ H s) (r:Vals vs us) (h:∀x dx,H x=none->H dx=none->dx≠x->sp (.ref x::vs) (upd (upd H dx (.own x)) x (.ins C dx [])) (fun v H2=>v= .non/\Q (.ref x) H2) (E σ)):
  wpAny (model X.prog X.w) X.A (PySem.call (.ref C) us) (EP (X.ag (L4.XE X E)) pins σ Q) (L4.XE X E) s:=by
 have hq:=h (s.heap.objs.size+1) s.heap.objs.size (I.ah.fresh (Nat.le_succ _)) (I.ah.fresh (Nat.le_refl _)) (Nat.ne_of_lt (Nat.lt_succ_self _))
 have I2:=Inv.made (C:=C) I
 have r2:Vals (V.ref (s.heap.objs.size+1)::vs) (Value.ref (s.heap.objs.size+1)::us):= .cons rfl r
 have hl:(Value.ref (s.heap.objs.size+1)::us++[]).length=ps.length:=by
  have e:=r2.length
  rw [F.len _ _ _ _ hq] at e
  rw [List.append_nil]
  exact e.symm
 have hb':=hb _ (Value.ref (s.heap.objs.size+1)::us) I2.dO hl
 rw [List.append_nil] at hb'
 refine wpAny_call (ym (f:=f) I.dO M.makes M.init (beq_iff_eq.mp M.fn) (codeAny_mono (F.run _ X.stack _ _ ⟨Value.ref (s.heap.objs.size+1)::us,[]⟩ (Value.ref (s.heap.objs.size+1)::us) _ _ (E σ) (hr.make C us [])
  (I2.zI.make C us []) hb' r2 hq) fun r s' hq'=> ?_))
 cases r with
 |error e=>exact L4.vm hx I2 hq'
 |ok fl=>
  cases fl with
  |ret u=>
   obtain ⟨v,H',I3,rv,ev,q3⟩:=I2.after hq'
   subst ev
   exact ⟨rv,⟨V.ref (s.heap.objs.size+1),H',I3,rfl,q3⟩⟩
  |next=>exact False.elim hq'
  |brk=>exact False.elim hq'
  |cont=>exact False.elim hq'
theorem make_core {n c fi:Nat} {C:Addr} {st:aa} {as:List Addr} {G H:Hp} {Q:VK} {Z:XK} (hC:T.ca c=C) (hX:T.xc c=false) (s:Sim T st as G H) (r:af T as G xs vs)
  (h:ae T as G ((call P n fi (.ref st.length::xs) (st++[.ins c [] []])).bind fun v st'=>qT v (fin P st (.ref st.length) st')) (fun v _ as' G' H'=>∀u,Rel T as' G' v u->Q u H') Z) (x dx:Addr) (hx:H x=none) (hd:H dx=none) (ne:dx≠x):
  dD T P n fi (.ref x::vs) (upd (upd H dx (.own x)) x (.ins C dx [])) (fun v H2=>v= .non/\Q (.ref x) H2) Z:=by
 subst hC
 have hx1:upd H dx (.own x) x=none:=by rw [ao (Ne.symm ne)];exact hx
 have s1:Sim T st as G (upd H dx (.own x)):=by
  obtain ⟨n1,n2⟩:=s.fresh hd
  refine ⟨s.len,s.nd,s.sub.up n2,s.off,fun m o a h1 h2=>(s.ob m o a h1 h2).at (ao fun z=>n1 ?_)⟩
  rw [←z]
  exact List.mem_of_getElem? h2
 have s2:Sim T (st++[.ins c [] []]) (as++[x]) G (upd (upd H dx (.own x)) x (.ins (T.ca c) dx [])):=s1.push hx1 ⟨dx,[],hX,aj,rfl,rfl⟩
 refine ⟨st++[.ins c [] []],as++[x],G, .ref st.length::xs,s2,⟨.ref x,vs,rfl,⟨x,by rw [←s.len,List.getElem?_append_right (Nat.le_refl _)];simp,rfl⟩,r.mono (List.prefix_append _ _) (Le.refl _)⟩, ?_⟩
 cases e:call P n fi (.ref st.length::xs) (st++[.ins c [] []]) with
 |stuck=>rw [e] at h;exact h.elim
 |exc y st'=>
  rw [e] at h
  exact fun as' G' H' cls dx p l s' ex=>h as' G' H' cls dx ((List.prefix_append _ _).trans p) l s' ex
 |ok v st'=>
  rw [e] at h
  intro as' G' H' p l s' u ru
  replace h:ae T as G (qT v (fin P st (.ref st.length) st')) (fun v _ as' G' H'=>∀u,Rel T as' G' v u->Q u H') Z:=h
  cases v with
  |non=>
   cases ru
   refine ⟨rfl,kY (v:= .ref st.length) (u:= .ref x) s1 s' ((List.prefix_append _ _).trans p) l ⟨x, ?_,rfl⟩ h⟩
   refine jF p ?_
   rw [←s.len,List.getElem?_append_right (Nat.le_refl _)]
   simp
  |_=>exact h.elim
theorem Cb {k n c fi:Nat} {K':Cl} {C f:Addr} {ps:List Str} {x:Str} {p:Pos} {e:Expr} {ies:List PI.E} (hk:P.cl c=some K') (hi:K'.init=some fi) (hC:T.ca c=C) (hX:T.xc c=false) (M:Mk X.K C f) (F:FnOk X.prog X.w X.K X.mg X.base (cJ X.prog X.w) k f fd ps (dD T P n fi)) (hr:Room (k+1) X.A) (hb:Binds X.K fd ps []) (hx:cc X) (hg:Gl X x) (hm:X.mg x=some (.ref C))
  (ha:PA (X.ag (L4.XE X E)) (e::es) (dJ T P (call P n) E ies)) (hdb:(x==("__debug__":Str))=false) (he:starEach (e::es) X.env=(false,eval e X.env)::starEach es X.env) (hpl:(backTo pos (starEach es X.env)).any (·.1)=false):
  PE (X.ag (L4.XE X E)) (.Call (.Name x p) (e::es) [] pos) (tE T P (call P n) E (.make c ies)):=by
 intro pins s σ H Q I ⟨env,st,as,G,sm,er,h⟩
 dsimp only [PI.E.run] at h
 rw [hk] at h
 replace h:ae T as G ((aS P (call P n) ies env st).bind fun xs st=>fe P (call P n) c xs st (some K'.init)) (fun v _ as' G' H'=>∀u,Rel T as' G' v u->Q u H') (E σ):=h
 rw [hi] at h
 have h2:=cy (K:=fun us H1=>∀x dx,H1 x=none->H1 dx=none->dx≠x->dD T P n fi (.ref x::us) (upd (upd H1 dx (.own x)) x (.ins C dx [])) (fun v H2=>v= .non/\Q (.ref x) H2) (E σ)) sm er h fun xs st1 as1 G1 H1 us s1 er1 r1 p1 l1 h=>make_core hC hX s1 r1 h
 refine wpAny_Call_Name_kw (gz I hg hm ?_ hdb)
 refine PySem.W.callWith_K (h₀:=X.base) I.ok.mod.kin M.kp (ay (ha pos pins s σ H _ I h2) fun us s1 ⟨vs,H1,I1,r,q⟩=>⟨I1.dO, ?_⟩) he hpl
 exact uR M F hr hb hx I1 r q
theorem pU {m:Str}:∀{ns:List Str} {us:List L2.V},ns.contains m=false->(ns.zip us).lookup m=none
 |[],_,_=>rfl
 |_::_,[],_=>rfl
 |n::ns,u::us,h=>by
  rw [List.contains_cons,Bool.or_eq_false_iff] at h
  rw [List.zip_cons_cons,List.lookup_cons,h.1]
  exact pU h.2
noncomputable def tf (T:CT) (P:Pg) (X:Cx) (k n:Nat) (m:Str):Prop:=∀(c:Nat) k' fi,P.cl c=some k'->k'.meths.lookup m=some fi->k'.exc=false/\∃f fd ps,Meth X.K (T.ca c) m f/\FnOk X.prog X.w X.K X.mg X.base (cJ X.prog X.w) k f fd ps (dD T P n fi)/\Binds X.K fd ps []
noncomputable def Cm (T:CT) (P:Pg) (X:Cx) (k n:Nat) (m:Str) (R:L2.V->Hp->Nat->Prop):VK:=fun u H1=>∃a C dx fs fi f fd ps,u= .ref a/\H1 a=some (.ins C dx fs)/\fs.lookup m=none/\Cls X.K C/\Meth X.K C m f/\FnOk X.prog X.w X.K X.mg X.base (cJ X.prog X.w) k f fd ps (dD T P n fi)/\Binds X.K fd ps []/\R u H1 fi
theorem sA {k n:Nat} {m:Str} {st:aa} {G H:Hp} {v:Val} {u:L2.V} {fi:Nat} {R:L2.V->Hp->Nat->Prop} (hK:T.K=X.K) (C:COk T P) (hM:tf T P X k n m) (s:Sim T st as G H) (r:Rel T as G v u) (e:eR P m (res st v)=some fi) (q:R u H fi):Cm T P X k n m R u H:=by
 have rr:=bc s r
 generalize res st v=y at e rr
 cases y with
 |obj c ns vs=>
  replace e:(if ns.contains m=true then none else (P.cl c).bind fun k=>k.meths.lookup m)=some fi:=e
  split at e
  ·cases e
  ·rename_i z
   obtain ⟨k',e1,e2⟩:=Option.bind_eq_some_iff.mp e
   obtain ⟨ex,f,fd,ps,h1,h2,h3⟩:=hM c k' fi e1 e2
   obtain ⟨a,us,rfl,nl,r1,q1⟩:=rr
   rw [if_neg (by rw [C.xc c k' e1,ex];decide)] at q1
   obtain ⟨dx,q1⟩:=q1
   exact ⟨a,_,dx,_,fi,f,fd,ps,rfl,q1,pU (by simpa using z),hK▸C.cl c k' e1 ex,h1,h2,h3,q⟩
 |_=>cases e
theorem DM {k n:Nat} {m:Str} {e:Expr} {ies:List PI.E} {apos:Pos} {pl:Sem Bool} (hK:T.K=X.K) (C:COk T P) (hM:tf T P X k n m) (hr:Room k X.A) (hx:cc X)
  (ho:PE (X.ag (L4.XE X E)) o (tE T P (call P n) E io)) (ha:PA (X.ag (L4.XE X E)) (e::es) (dJ T P (call P n) E ies))
  (hst:starEach (e::es) X.env=(false,eval e X.env)::starEach es X.env) (hpl:(backTo pos (starEach es X.env)).any (·.1)=false)
  (ht:eval (.Call (.Attribute o m apos) (e::es) [] pos) X.env=(do
   let ov←eval o X.env
   standAt apos.atName
   let (f,first)←holding [ov] (getMethod ov m pl)
   callWith pos f first (backTo pos (starEach (e::es) X.env)) (backToKw pos (keywordEach [] X.env)))):
  PE (X.ag (L4.XE X E)) (.Call (.Attribute o m apos) (e::es) [] pos) (tE T P (call P n) E (.meth io m ies)):=by
 intro pins s σ H Q I ⟨env,st,as,G,sm,er,h⟩
 dsimp only [PI.E.run] at h
 have h2:=az (K:=Cm T P X k n m fun u H1 fi=>dJ T P (call P n) E ies σ H1 fun vs H2=>dD T P n fi (u::vs) H2 Q (E σ)) sm er h fun v st1 as1 G1 H1 u s1 er1 r1 p1 l1 h=>by
  obtain ⟨fi,e1,h⟩:=ae.ak h
  exact sA hK C hM s1 r1 e1 (cy s1 er1 h fun xs st2 as2 G2 H2 us s2 er2 r2 p2 l2 h=>⟨st2,as2,G2,v::xs,s2,⟨u,us,rfl,r1.mono p2 l2,r2⟩,h⟩)
 refine PySem.W.methodCall_KW (pl:=pl) (ay (ho pins s σ H _ I h2) fun u s1 hp=> ?_) ht
 obtain ⟨x,H1,I1,rx,a,C',dx,fs,fi,f,fd,ps,ex,ea,lm,c,hm,F,hb,q⟩:=hp
 subst ex
 obtain rfl:u=Value.ref a:=rx
 refine lA I1 ea c hm lm ?_
 refine PySem.W.callWith_K (first:=[.ref a]) (h₀:=X.base) I.ok.mod.kin hm.kp (ay (ha pos pins s1 σ H1 _ I1 q) fun us s2 ⟨vs,H2,I2,r,q2⟩=>⟨I2.dO, ?_⟩) hst hpl
 exact jA (us:= .ref a::us) (vs:= .ref a::vs) F hr hb hx I2 (.cons rfl r) q2
theorem A7 {k n:Nat} {m:Str} {apos:Pos} {pl:Sem Bool} (hK:T.K=X.K) (C:COk T P) (hM:tf T P X k n m) (hr:Room k X.A) (hx:cc X)
  (ho:PE (X.ag (L4.XE X E)) o (tE T P (call P n) E io))
  (ht:eval (.Call (.Attribute o m apos) [] [] pos) X.env=(do
   let ov←eval o X.env
   standAt apos.atName
   let (f,first)←holding [ov] (getMethod ov m pl)
   callWith pos f first (backTo pos (starEach [] X.env)) (backToKw pos (keywordEach [] X.env)))):
  PE (X.ag (L4.XE X E)) (.Call (.Attribute o m apos) [] [] pos) (tE T P (call P n) E (.meth io m [])):=by
 intro pins s σ H Q I ⟨env,st,as,G,sm,er,h⟩
 dsimp only [PI.E.run] at h
 have h2:=az (K:=Cm T P X k n m fun u H1 fi=>dD T P n fi [u] H1 Q (E σ)) sm er h fun v st1 as1 G1 H1 u s1 er1 r1 p1 l1 h=>by
  obtain ⟨fi,e1,h⟩:=ae.ak h
  exact sA hK C hM s1 r1 e1 ⟨st1,as1,G1,[v],s1,⟨u,[],rfl,r1,rfl⟩,h⟩
 refine PySem.W.methodCall_KW (pl:=pl) (ay (ho pins s σ H _ I h2) fun u s1 hp=> ?_) ht
 obtain ⟨x,H1,I1,rx,a,C',dx,fs,fi,f,fd,ps,ex,ea,lm,c,hm,F,hb,q⟩:=hp
 subst ex
 obtain rfl:u=Value.ref a:=rx
 refine lA I1 ea c hm lm ?_
 exact PySem.W.callWith_K0 (first:=[.ref a]) I1.dO hm.kp (jA (us:=[.ref a]) (vs:=[.ref a]) F hr hb hx I1 (.cons rfl .nil) q)
theorem qk {T:CT} {G:Hp} {f:Str} {x:Val} {u:L2.V} (hx:Rel T as G x u):∀{ns:List Str} {vs:List Val} {us:List L2.V},ns.length=us.length->af T as G vs us->∃us',(aQ ns vs f x).1.zip us'=L2.aQ f u (ns.zip us)/\(aQ ns vs f x).1.length=us'.length/\af T as G (aQ ns vs f x).2 us'
 |[],vs,us,hl,r=>by
  have e0:us=[]:=List.eq_nil_of_length_eq_zero hl.symm
  subst e0
  exact ⟨[u],rfl,rfl,⟨u,[],rfl,hx,rfl⟩⟩
 |n::ns,[],us,hl,r=>by
  cases r
  cases hl
 |n::ns,v::vs,us,hl,r=>by
  obtain ⟨w,t,rfl,h1,h2⟩:=r
  by_cases z:n=f
  ·refine ⟨u::t, ?_, ?_, ?_⟩
   ·simp only [aQ,if_pos z,List.zip_cons_cons,L2.aQ]
   ·simp only [aQ,if_pos z]
    exact hl
   ·simp only [aQ,if_pos z]
    exact ⟨u,t,rfl,hx,h2⟩
  ·obtain ⟨us',e1,e2,e3⟩:=qk (f:=f) hx (ns:=ns) (vs:=vs) (us:=t) (by simpa using hl) h2
   refine ⟨w::us', ?_, ?_, ?_⟩
   ·simp only [aQ,if_neg z,List.zip_cons_cons,L2.aQ,e1]
   ·simp only [aQ,if_neg z,List.length_cons,e2]
   ·simp only [aQ,if_neg z]
    exact ⟨w,us',rfl,h1,e3⟩
end
end PI
namespace PI
open PySem PySem.Spec L2 L2.L3 L2.L4 PySem.SeqAt
open PyProof.Rows hiding St lobj
section
variable {T:CT} {P:Pg} {cl:ar} {E:XS} {X:Cx} {pos:Pos}
theorem DN {e:Expr} {f:Str} (hK:T.K=X.K) (C:COk T P) (hf:∀(c:Nat) k,P.cl c=some k->f∈k.flds->k.exc=false) (ho:PE X o (tE T P cl E io)) (he:PE X e (tE T P cl E ie)) (hs:swapsWith e (some (.Attribute o f pos')) pos.line X.env=pure false):
  PS X (.Assign [.Attribute o f pos'] e pos) (tS T P cl E (.cN io f ie)):=
 PS.mono (C4 ho he hs) fun D σ H z903=>by
  obtain ⟨env,st,as,G,s,er,h⟩:=z903
  dsimp only [PI.S.run] at h
  have h2:=of_post h er
  refine az s er h2 fun x st1 as1 G1 H1 u s1 er1 r1 p1 l1 h=> ?_
  refine az s1 er1 h fun y st2 as2 G2 H2 w s2 er2 r2 p2 l2 h=> ?_
  cases y with
  |ref k=>
   obtain ⟨a,ea,rfl⟩:=r2
   replace h:ae T as2 G2 (oK P k f x st2 st2[k]?) (fun a st as' G' _=>aF T as' G' (.next env st) D E) (E σ):=h
   cases e1:st2[k]? with
   |none=>rw [e1] at h;exact h.elim
   |some o'=>
    rw [e1] at h
    have ob:=s2.ob k o' a e1 ea
    cases o' with
    |ins c ns vs=>
     obtain ⟨⟨c1,c2⟩,h⟩:=ae.iff h
     obtain ⟨k',e2,e3⟩:=sv c1
     have ex:=hf c k' e2 e3
     obtain ⟨dx,us,x0,q,n,r⟩:=ob
     obtain ⟨us',z1,z2,z3⟩:=qk (f:=f) (r1.mono p2 l2) n r
     have s4:=s2.set (o:= .ins c (aQ ns vs f x).1 (aQ ns vs f x).2) (u:= .ins (T.ca c) dx (L2.aQ f u (ns.zip us))) ea ⟨dx,us',x0,by rw [z1];exact aj,z2,z3⟩
     refine ⟨a,T.ca c,dx,_,rfl,q,hK▸C.cl c k' e2 ex,hK▸C.na c k' f e2 ex e3, ?_,h.ok s4 as2 G2 _ σ (List.prefix_refl _) (Le.refl _) s4 er2⟩
     rw [List.length_zip]
     lia
    |lst xs=>exact h.elim
    |dct ks vs=>exact h.elim
  |_=>exact h.elim
end
end PI
namespace PI
open PySem PySem.Spec L2 L2.L3 L2.L4 PySem.SeqAt
open PyProof.Rows hiding St lobj
section
variable {T:CT} {P:Pg} {cl:ar} {E:XS} {X:Cx} {pos:Pos}
theorem DY {e:Expr} {t:PI.T} (he:PE X e (tE T P cl E ie)) (hg:PG X tg (tG T t)) (hs:swapsWithSole [tg] e pos.line X.env=pure false) (hw:swappedStores [tg] e X.env=pure none) (h1:(assignEach [tg] X.env).map (·.2)=[assign tg X.env]):PS X (.Assign [tg] e pos) (tS T P cl E (.set t ie)):=
 PS.mono (wK he hg hs hw h1) fun D σ H z903=>by
  obtain ⟨env,st,as,G,s,er,h⟩:=z903
  dsimp only [PI.S.run] at h
  refine oG s er h fun v st1 as1 G1 H1 u s1 er1 r1 h=> ?_
  cases e1:t.put v env with
  |none=>rw [e1] at h;exact h.elim
  |some env'=>
   rw [e1] at h
   exact ⟨env,st1,as1,G1,v,env',s1,er1,r1,e1,fun σ' er'=>h as1 G1 H1 σ' (List.prefix_refl _) (Le.refl _) s1 er'⟩
theorem Cg {x:Str} {v:Val} {u:L2.V} {uv:Value} (hg:Gl X x) (hm:X.mg x=some uv) (r:RelV u uv) (hr:∀as G,Rel T as G v u) (hd:(x==("__debug__":Str))=false):PE X (.Name x pos) (tE T P cl E (.const v)):=
 PE.mono (rY hg hm r hd) fun σ H Q z903=>by obtain ⟨env,st,as,G,s,er,h⟩:=z903;exact h.ok s _ (hr _ _)
end
end PI
namespace PI
open PySem PySem.Spec L2 L2.L3 L2.L4 PySem.SeqAt
open PyProof.Rows hiding St lobj
section
variable {T:CT} {P:Pg} {cl:ar} {E:XS} {X:Cx} {pos:Pos}
theorem Dp {st:aa} {G H:Hp} {x:Val} {u:L2.V} {it:List Val×List (Nat×Ob)} (s:Sim T st as G H) (r:Rel T as G x u) (e:itemsOf st x=some it):∃a b,u= .ref a/\Src T b a it.1 it.2 as G/\(oA (res st x)=true->b=true)/\∃us,jq b T.K H a us:=by
 cases x with
 |tup f xs=>
  cases e
  obtain ⟨a,us,rfl,q,r⟩:=r
  exact ⟨a,false,rfl, .inl ⟨us,qe q,r⟩,fun z=>(by cases z),us,bh s.sub q⟩
 |lst xs=>
  cases e
  obtain ⟨a,us,rfl,q,r⟩:=r
  exact ⟨a,true,rfl, .inl ⟨us,q,r⟩,fun _=>rfl,us,bT s.sub q⟩
 |ref n=>
  obtain ⟨a,ea,rfl⟩:=r
  replace e:pO n st[n]?=some it:=e
  cases e1:st[n]? with
  |none=>rw [e1] at e;cases e
  |some o=>
   rw [e1] at e
   have ob:=s.ob n o a e1 ea
   cases o with
   |lst xs=>
    cases e
    obtain ⟨us,q,r⟩:=ob
    exact ⟨a,true,rfl, .inr ⟨rfl,n,by simp,ea⟩,fun _=>rfl,us, .inl (.inl q)⟩
   |dct ks vs=>cases e
   |ins c ns vs=>cases e
 |_=>cases e
theorem jz:∀(i:Int) (xs:List Val),(eV i xs).length=xs.length
 |_,[]=>rfl
 |i,x::xs=>by unfold eV;rw [List.length_cons,jz,List.length_cons]
theorem rB:∀(i:Int) (xs:List Val) (j:Nat) (x:Val),xs[j]?=some x->(eV i xs)[j]?=some (.tup false [.int (i+j),x])
 |_,[],_,_,h=>by cases h
 |i,x::xs,0,y,h=>by
  cases h
  unfold eV
  simp
 |i,x::xs,j+1,y,h=>by
  have:=rB (i+1) xs j y h
  unfold eV
  rw [List.getElem?_cons_succ,this]
  congr 4
  push_cast
  lia
theorem yU {st:aa} {G H:Hp} {p:Addr} (s:Sim T st as G H) (hp:H p=none) (r:af T as G xs us):∃G',Le G G'/\Sim T st as G' (upd H p (.tup us))/\Rel T as G' (.tup false xs) (.ref p):=by
 have l:Le G (upd G p (.tup us)):=Le.new (s.fresh hp).2
 exact ⟨_,l,s.uq hp,p,us,rfl,(show upd G p (.tup us) p=_ from aj),r.mono (List.prefix_refl _) l⟩
theorem uN (a:Addr) (items:List Val) (chk:List (Nat×Ob)):Walks T (Ai T.K true a) (eV 0 items) chk (Src T true a items chk) where
 mono p l h:=h.mono p l
 stop s kp h:=by
  obtain ⟨us,q,r⟩:=h.now s kp
  exact ⟨us,q,by rw [jz,r.length]⟩
 go hi s kp h:=by
  obtain ⟨us,q,r⟩:=h.now s kp
  rw [jz] at hi
  obtain ⟨u,e,_⟩:=r.get (List.getElem?_eq_getElem hi)
  exact ⟨us,u,q,e⟩
 yld {st as G H x H' i} hi s kp h y:=by
  obtain ⟨us,q,r⟩:=h.now s kp
  rw [jz] at hi
  obtain ⟨u,e,hr⟩:=r.get (List.getElem?_eq_getElem hi)
  obtain ⟨p,w,rfl,hp,rfl,z⟩:=y
  have:=z us q
  rw [e] at this
  cases this
  obtain ⟨G',l,s',rr⟩:=yU (xs:=[.int i,items[i]]) (us:=[.int i,u]) s hp ⟨.int i,[u],rfl,rfl,u,[],rfl,hr,rfl⟩
  refine ⟨_,G',rB 0 items i _ (List.getElem?_eq_getElem hi),l,s', ?_⟩
  rw [Int.zero_add]
  exact rr
theorem EM {a:Expr} {x1:Nat} {tp p:Pos} (hK:T.K=X.K) (hg:Gl X "enumerate") (hm:X.mg "enumerate"=none) (ha:PA X [a] (dJ T P cl E [ia])) (hs:starEach [a] X.env=[(false,eval a X.env)]):L2.PI X (.Tuple elts x1 tp) (.Call (.Name "enumerate" p) [a] [] pos) (tQ T P cl E (.enm ia)):=
 PI.mono (Bh hg hm ha hs) fun σ H R z903=>by
  obtain ⟨env,st,as,G,s,er,h⟩:=z903
  unfold PI.Q.run at h
  refine rK s er h fun x st1 as1 G1 H1 u s1 er1 r1 h=> ?_
  obtain ⟨c,h⟩:=ae.iff h
  obtain ⟨it,e,h⟩:=ae.ak h
  obtain ⟨a',b,rfl,sr,hb,us,q⟩:=Dp s1 r1 e
  cases hb c
  exact ⟨a',rfl,⟨us,hK▸q⟩,hK▸h.ok s1 (Ai T.K true a') _ (uN a' it.1 it.2) sr⟩
end
end PI
namespace PI
open PySem PySem.Spec L2 L2.L3 L2.L4 PySem.SeqAt
open PyProof.Rows hiding St lobj
section
variable {T:CT} {P:Pg} {cl:ar} {E:XS} {X:Cx} {pos:Pos}
theorem wA {C:Addr} {σ:St} {H:Hp} {s:Shared} {Q:VK} (hm:PySem.W.makesIn X.K C=true) (hi:PySem.W.findIn X.K (.ref C) "__init__"=some (some (.builtin "object.__init__"))) (I:Inv X pins σ H s)
  (h:∀x dx,H x=none->H dx=none->dx≠x->Q (.ref x) (upd (upd H dx (.own x)) x (.ins C dx []))):wpAny (model X.prog X.w) X.A (PySem.call (.ref C) []) (EP X pins σ Q) X.xe s:=by
 have hq:=h (s.heap.objs.size+1) s.heap.objs.size (I.ah.fresh (Nat.le_succ _)) (I.ah.fresh (Nat.le_refl _)) (Nat.ne_of_lt (Nat.lt_succ_self _))
 have I2:=Inv.made (C:=C) I
 obtain ⟨hh,g,d,t,os⟩:=s
 have Y:=PySem.W.makes_of (M:=model X.prog X.w) I.dO hm
 refine wpAny_call (vo I.dO hm hi (fun self=>PySem.W.Looks.of_pure (PySem.W.oi_bind self)) ?_)
 have e2:((hh.push PySem.W.emptyDict).push (PySem.W.instObj C hh.objs.size)).get? (hh.objs.size+1)=some (PySem.W.instObj C hh.objs.size):=by
  have:=Heap.get?_push_size (hh.push PySem.W.emptyDict) (o:=PySem.W.instObj C hh.objs.size) rfl
  rw [Heap.size_push] at this
  exact this
 have t1:PySem.W.Looks (model X.prog X.w) ((hh.push PySem.W.emptyDict).push (PySem.W.instObj C hh.objs.size)) (typeOf (.ref (hh.objs.size+1))) (.ref C):=(PySem.W.Looks.ld e2).andThen .now
 have t2:PySem.W.Looks (model X.prog X.w) ((hh.push PySem.W.emptyDict).push (PySem.W.instObj C hh.objs.size)) (isInstance (.ref (hh.objs.size+1)) (.type "object")) true:=t1.andThen (Y.top.keeps fun b o e=>Heap.get?_push_of_some _ (Heap.get?_push_of_some _ e))
 refine codeAny_call_builtin PySem.W.oi_plain PySem.W.entry_oi (@PySem.W.check_slot (model X.prog X.w) _ _ _ "object.__init__" "object" "__init__" (.ref (hh.objs.size+1)) [] [] _ PySem.W.oi_kind PySem.W.oi_split t2 (PySem.W.oi_args (.ref (hh.objs.size+1))) ?_)
 rw [PySem.W.oi_run]
 exact wpAny_pure (And.intro rfl ⟨V.ref (hh.objs.size+1),_,I2,rfl,hq⟩)
theorem AZ {c:Nat} {K':Cl} {C:Addr} {x:Str} {p:Pos} (hk:P.cl c=some K') (hin:K'.init=none) (hC:T.ca c=C) (hX:T.xc c=false) (hm:PySem.W.makesIn X.K C=true) (hi:PySem.W.findIn X.K (.ref C) "__init__"=some (some (.builtin "object.__init__"))) (kp:PySem.W.keepIn X.K (.ref C)=true) (hg:Gl X x) (hmg:X.mg x=some (.ref C)) (hdb:(x==("__debug__":Str))=false):
  PE X (.Call (.Name x p) [] [] pos) (tE T P cl E (.make c [])):=by
 intro pins s σ H Q I ⟨env,st,as,G,sm,er,h⟩
 dsimp only [PI.E.run] at h
 rw [hk] at h
 replace h:ae T as G (fe P cl c [] st (some K'.init)) (fun v _ as' G' H'=>∀u,Rel T as' G' v u->Q u H') (E σ):=h
 rw [hin] at h
 replace h:ae T as G (fin P st (.ref st.length) (st++[.ins c [] []])) (fun v _ as' G' H'=>∀u,Rel T as' G' v u->Q u H') (E σ):=h
 refine wpAny_Call_Name_kw (gz I hg hmg ?_ hdb)
 refine PySem.W.callWith_K0 I.dO kp (wA hm hi I fun x dx hx hd ne=> ?_)
 subst hC
 have hx1:upd H dx (.own x) x=none:=by rw [ao (Ne.symm ne)];exact hx
 have s1:Sim T st as G (upd H dx (.own x)):=by
  obtain ⟨n1,n2⟩:=sm.fresh hd
  refine ⟨sm.len,sm.nd,sm.sub.up n2,sm.off,fun m o a h1 h2=>(sm.ob m o a h1 h2).at (ao fun z=>n1 ?_)⟩
  rw [←z]
  exact List.mem_of_getElem? h2
 have s2:Sim T (st++[.ins c [] []]) (as++[x]) G (upd (upd H dx (.own x)) x (.ins (T.ca c) dx [])):=s1.push hx1 ⟨dx,[],hX,aj,rfl,rfl⟩
 refine kY (v:= .ref st.length) (u:= .ref x) s1 s2 (List.prefix_append _ _) (Le.refl _) ⟨x, ?_,rfl⟩ h
 rw [←sm.len,List.getElem?_append_right (Nat.le_refl _)]
 simp
theorem pQ {α:Type}:∀(l:List (Array α)) (acc:Array α),(l.foldl (· ++ ·) acc).toList=acc.toList++(l.map Array.toList).flatten
 |[],acc=>by simp
 |a::l,acc=>by
  rw [List.foldl_cons,pQ l]
  simp
theorem zd (z:Str) (k:Int) (h:0<=k):iU z k.toNat=Txt.mul z k:=by
 unfold iU Txt.mul
 split
 ·rw [show k.toNat=0 by lia]
  rfl
 ·split
  ·rename_i h1 h2
   rw [Bool.or_eq_true,beq_iff_eq,beq_iff_eq] at h2
   rcases h2 with h2|h2
   ·subst h2
    simp
   ·have e:z.cps.toList=[]:=List.eq_nil_of_length_eq_zero (by simpa [Str.length] using h2)
    rw [e]
    have e2:z.cps=#[]:=Array.toList_inj.mp e
    have e3:(List.replicate k.toNat ([]:List Nat)).flatten=([]:List Nat):=by simp
    rw [e3]
    cases z
    simp at e2
    rw [e2]
  ·congr 1
   apply Array.toList_inj.mp
   rw [pQ]
   simp
theorem Bd:aK X (binaryOp .Mult) (cu T (eh .Mult)):=by
 intro pins s σ H u w uv wv Q I ru rw' ⟨st,as,G,x,y,Z,sm,r1,r2,p⟩
 cases x with
 |str z=>cases y with
  |int k=>
   cases r1
   cases r2
   obtain ⟨⟨c1,c2,c3⟩,p⟩:=ae.iff (show ae T as G (PI.iff (0<=k/\k<=1000/\z.length<=1000) (.ok (.str (iU z k.toNat)) st)) (PV T Q) Z from p)
   refine AQ pins s σ H _ _ uv wv Q I ru rw' ⟨z,k,rfl,rfl,c1,c2,c3, ?_⟩
   rw [←zd z k c1]
   exact p.ok sm _ rfl
  |_=>exact p.elim
 |int i=>exact AY pins s σ H u w uv wv Q I ru rw' ⟨st,as,G, .int i,y,Z,sm,r1,r2,p⟩
 |_=>exact p.elim
theorem Ec {e f:Expr} (hu:X.A.units+1<cLine) (ho:PE X o (tE T P cl E io)) (he:PE X e (tE T P cl E ie)) (hf:PE X f (tE T P cl E jf)) (m:M2 X o "get" apos e f pos):PE X (.Call (.Attribute o "get" apos) [e,f] [] pos) (tE T P cl E (.bm .get io [ie,jf])):=by
 intro pins s σ H Q I ⟨env,st,as,G,sm,er,h⟩
 dsimp only [PI.E.run] at h
 have h2:=az (K:=fun u H1=>∃a,u= .ref a/\Aj H1 a/\tE T P cl E ie σ H1 fun y H2=>tE T P cl E jf σ H2 fun z H3=>∃ov,DG H3 a y ov/\Q (ov.getD z) H3) sm er h fun v st1 as1 G1 H1 u s1 er1 r1 p1 l1 h=>by
  obtain ⟨c,h⟩:=ae.iff h
  have rr:=bc s1 r1
  have cd:∃ks vs,res st1 v= .dct ks vs:=by
   generalize res st1 v=y at c
   cases y<;>first|(cases c;done)|exact ⟨_,_,rfl⟩
  obtain ⟨ks,vs,ev⟩:=cd
  rw [ev] at rr
  obtain ⟨a,us,rfl,d,rv⟩:=rr
  refine ⟨a,rfl,wc d, ?_⟩
  replace h:ae T as1 G1 (((ie.run P cl env st1).bind fun x st=>(jf.run P cl env st).bind fun y st=> .ok [x,y] st).bind fun xs st=>jU .get v xs st) (fun v _ as' G' H'=>∀u,Rel T as' G' v u->Q u H') (E σ):=by
   have z:aS P cl [ie,jf] env st1=(ie.run P cl env st1).bind fun x st=>(jf.run P cl env st).bind fun y st=> .ok [x,y] st:=by
    unfold aS
    congr 1
    funext x st
    unfold aS
    rw [R.bind_assoc]
    rfl
   rw [z] at h
   exact h
  rw [R.bind_assoc] at h
  refine az s1 er1 h fun k st2 as2 G2 H2 w s2 er2 r2 p2 l2 h=> ?_
  rw [R.bind_assoc] at h
  refine az s2 er2 h fun x st3 as3 G3 H3 w3 s3 er3 r3 p3 l3 h=> ?_
  replace h:ae T as3 G3 (qw (res st3 v) [k,x] st3) (fun v _ as' G' H'=>∀u,Rel T as' G' v u->Q u H') (E σ):=h
  have r4:=bc s3 (r1.mono (p2.trans p3) (l2.trans l3))
  generalize res st3 v=y at h r4
  cases y with
  |dct ks vs=>
   obtain ⟨hk,h⟩:=ae.iff h
   obtain ⟨b,e,h⟩:=ae.dP h
   obtain ⟨r,e1,rfl⟩:=Option.map_eq_some_iff.mp e
   obtain ⟨a',us',ea,d',rv'⟩:=r4
   cases ea
   obtain ⟨ro,g,og⟩:=k6 s3.sub d' rv' hk (r2.mono p3 l3) e1
   refine ⟨ro,g, ?_⟩
   cases r<;>cases ro<;>first|exact og.elim|exact h.ok s3 _ r3|exact h.ok s3 _ og
  |_=>exact h.elim
 refine wpAny_Call_method m.base m.few m.line PySem.F.plainAttrs_dict PySem.F.slot_dict_get PySem.F.type_dict_get (ay (ho pins s σ H _ I h2) fun u s1 z902=> ?_);obtain ⟨x,H1,I1,rx,a,ex,d,q1⟩:=z902
 subst ex
 obtain rfl:u=Value.ref a:=rx
 obtain ⟨t1,t2,_⟩:=wo I1 d
 refine ⟨t1,t2, ?_⟩
 rw [m.trees]
 refine Calls.callWith_builtin rfl (Calls.evalArgs_plain (Calls.spliced_cons (ay (he pins s1 σ H1 _ I1 q1) fun iv s2 ⟨y,H2,I2,ry,q2⟩=>
  Calls.spliced_cons (ay (hf pins s2 σ H2 _ I2 q2) fun fv s3 ⟨z,H3,I3,rz,ov,g,q3⟩=>Calls.spliced_nil ?_))))
 exact Ba hu I3 g ry rz fun w' s4 I4 rw'=>⟨_,H3,I4,rw',q3⟩
end
theorem rN {m:Str} {apos pos:Pos} {args:List Expr} {env:PySem.Env} (hb:attributeBase o m env (eval o env)=eval o env) (hf:methodCallForm (args.length+([]:List Keyword).length) (backTo pos (starEach args env)) (backToKw pos (keywordEach [] env))=true) (hl:(apos.endLine==pos.line)=true):
  eval (.Call (.Attribute o m apos) args [] pos) env=(do
   let ov←eval o env
   standAt apos.atName
   let (f,first)←holding [ov] (getMethod ov m (do return (←importBound o env).getD true))
   callWith pos f first (backTo pos (starEach args env)) (backToKw pos (keywordEach [] env))):=by
 rw [arm_eval_Call,hb]
 unfold methodCall calleeOf methodCallPos
 rw [hf,hl]
 rfl
end PI
namespace PI
open PySem PySem.Spec L2 L2.L3 L2.L4 PySem.SeqAt
open PyProof.Rows hiding St lobj
noncomputable def eG:List Val->Bool
 | .tup _ (k::_)::_=>kT k
 |_=>false
theorem lE {x:Val} (h:pairD (x::r) ks vs=some (ks',vs')):∃k v p,x= .tup false [k,v]/\bO k=true/\putD k v ks vs=some p/\pairD r p.1 p.2=some (ks',vs'):=by
 unfold pairD at h
 split at h
 ·rename_i z;cases z
 ·rename_i k v r' z
  cases z
  split at h
  ·rename_i hk
   obtain ⟨p,e1,e2⟩:=Option.bind_eq_some_iff.mp h
   exact ⟨k,v,p,rfl,hk,e1,e2⟩
  ·cases h
 ·cases h
theorem sT {k:Val}:∀{ks:List Val},ks≠[]->(∀a∈ks,kT a≠kT k)->memD k ks=none
 |[],h,_=>absurd rfl h
 |a::ks,_,h=>by
  show (if kT a=kT k then _ else none)=none
  rw [if_neg (h a List.mem_cons_self)]
section
variable {T:CT} {as:List Addr} {G H:Hp}
theorem rU (l:Le G H):∀{xs:List Val} {ys:List L2.V} {ks vs ks' vs':List Val} {kk:List (List Key)} {us:List L2.V},af T as G xs ys->a8 ks=some kk->kk.length=us.length->af T as G vs us->(ks=[]->xs=[]∨eG xs=true)->pairD xs ks vs=some (ks',vs')->
  ∃kvs kk' us',Paired (Ad H) ys kvs/\kvs.length=xs.length/\putAll (kk.zip us) kvs=kk'.zip us'/\a8 ks'=some kk'/\kk'.length=us'.length/\af T as G vs' us'
 |[],ys,ks,vs,ks',vs',kk,us,rx,h1,h2,rv,_,e=>by
  cases rx
  cases e
  exact ⟨[],kk,us, .nil,rfl,rfl,h1,h2,rv⟩
 |x::r,ys,ks,vs,ks',vs',kk,us,rx,h1,h2,rv,ht,e=>by
  obtain ⟨k,v,⟨ks1,vs1⟩,rfl,hk,e1,e2⟩:=lE e
  obtain ⟨u,t,rfl,ru,rr⟩:=rx
  obtain ⟨q,us0,rfl,hq,r0⟩:=ru
  obtain ⟨uk,t0,rfl,rk,uv,t1,rfl,rvv,r1⟩:=r0
  cases r1
  rcases lB l hk rk with ⟨tk,κ,k1,k2⟩|⟨tk,κ,b,k1,rfl,k2⟩
  ·exfalso
   by_cases z:ks=[]
   ·rcases ht z with z|z
    ·cases z
    ·have:kT k=true:=z
     rw [tk] at this
     cases this
   ·have:=sT (k:=k) z fun a ha=>by rw [(fB h1).2 a ha,tk];decide
    unfold putD at e1
    rw [this] at e1
    cases e1
  ·obtain ⟨kk1,us1,z1,z2,z3,z4⟩:=t4 k1 rvv h1 h2 rv e1
   have ne:ks1≠[]:=fun z=>by
    subst z
    unfold putD at e1
    obtain ⟨bb,_,e4⟩:=Option.map_eq_some_iff.mp e1
    cases bb with
    |true=>
     cases ks with
     |nil=>rename_i e3;cases e3
     |cons _ _=>cases e4
    |false=>
     have:=congrArg (fun p=>p.1.length) e4
     simp at this
   obtain ⟨kvs,kk2,us2,p1,p2,p3,p4,p5,p6⟩:=rU l rr z1 z2 z4 (fun z=>absurd z ne) e2
   refine ⟨(κ,uv)::kvs,kk2,us2, .cons ⟨q,b,rfl,l.ex hq rfl,k2⟩ p1,by simp [p2], ?_,p4,p5,p6⟩
   show putAll (putK (kk.zip us) κ uv) kvs=_
   rw [z3,p3]
theorem rE (l:Le G H):∀{xs:List Val} {ys:List L2.V} {ks vs ks' vs':List Val} {kk:List Key} {us:List L2.V},af T as G xs ys->aH ks=some kk->kk.length=us.length->af T as G vs us->(ks=[]->xs≠[]/\eG xs=false)->pairD xs ks vs=some (ks',vs')->
  ∃kvs kk' us',Paired (Am H) ys kvs/\kvs.length=xs.length/\putAll (kk.zip us) kvs=kk'.zip us'/\aH ks'=some kk'/\kk'.length=us'.length/\af T as G vs' us'
 |[],ys,ks,vs,ks',vs',kk,us,rx,h1,h2,rv,_,e=>by
  cases rx
  cases e
  exact ⟨[],kk,us, .nil,rfl,rfl,h1,h2,rv⟩
 |x::r,ys,ks,vs,ks',vs',kk,us,rx,h1,h2,rv,ht,e=>by
  obtain ⟨k,v,⟨ks1,vs1⟩,rfl,hk,e1,e2⟩:=lE e
  obtain ⟨u,t,rfl,ru,rr⟩:=rx
  obtain ⟨q,us0,rfl,hq,r0⟩:=ru
  obtain ⟨uk,t0,rfl,rk,uv,t1,rfl,rvv,r1⟩:=r0
  cases r1
  rcases lB l hk rk with ⟨tk,κ,k1,rfl⟩|⟨tk,κ,b,k1,k3,k2⟩
  ·obtain ⟨kk1,us1,z1,z2,z3,z4⟩:=uj k1 rvv h1 h2 rv e1
   have ne:ks1≠[]:=fun z=>by
    subst z
    unfold putD at e1
    obtain ⟨bb,_,e4⟩:=Option.map_eq_some_iff.mp e1
    cases bb with
    |true=>
     cases ks with
     |nil=>rename_i e3;cases e3
     |cons _ _=>cases e4
    |false=>
     have:=congrArg (fun p=>p.1.length) e4
     simp at this
   obtain ⟨kvs,kk2,us2,p1,p2,p3,p4,p5,p6⟩:=rE l rr z1 z2 z4 (fun z=>absurd z ne) e2
   refine ⟨(κ,uv)::kvs,kk2,us2, .cons ⟨q,rfl,l.ex hq rfl⟩ p1,by simp [p2], ?_,p4,p5,p6⟩
   show putAll (putK (kk.zip us) κ uv) kvs=_
   rw [z3,p3]
  ·exfalso
   by_cases z:ks=[]
   ·have:=(ht z).2
    have t2:kT k=false:=this
    rw [tk] at t2
    cases t2
   ·have:=sT (k:=k) z fun a ha=>by rw [(fG h1).2 a ha,tk];decide
    unfold putD at e1
    rw [this] at e1
    cases e1
end
section
variable {T:CT} {P:Pg} {cl:ar} {E:XS} {X:Cx} {pos:Pos}
noncomputable def IK (T:CT):List L2.V->Hp->VK->Prop:=fun us H Q=>∃st as G x u Z,us=[u]/\Sim T st as G H/\Rel T as G x u/\ae T as G (oU st x) (PV T Q) Z
theorem rj {st:aa} {G H:Hp} {a:Addr} {b:Bool} {Q:VK} {Z:XK} (s:Sim T st as G H) (r:af T as G xs ys) (hp:Plain b H a ys) (h:ae T as G (newD xs st) (PV T Q) Z):uP b [.ref a] H Q∨wH b [.ref a] H Q:=by
 obtain ⟨c,h⟩:=ae.iff h
 obtain ⟨⟨ks,vs⟩,e,h⟩:=ae.ak h
 have fin:∀{u:HO} (p:Addr),H p=none->dW T (as++[p]) G (upd H p u) p (.dct ks vs)->Q (.ref p) (upd H p u):=fun {u} p hp o=>by
  have s2:=s.push hp o
  refine h (as++[p]) G _ (List.prefix_append _ _) (Le.refl _) s2 _ ⟨p, ?_,rfl⟩
  rw [←s.len,List.getElem?_append_right (Nat.le_refl _)]
  simp
 by_cases z:xs=[]∨eG xs=true
 ·obtain ⟨kvs,kk,us,p1,p2,p3,p4,p5,p6⟩:=rU s.sub (kk:=[]) (us:=[]) r rfl rfl (show af T as G [] [] from rfl) (fun _=>z) e
  refine .inl ⟨a,ys,kvs,rfl,hp,p1,by rw [p2];exact c,fun p hp=>fin p hp ⟨us, .inr ⟨kk,p4,p5, ?_⟩,p6.mono (List.prefix_append _ _) (Le.refl _)⟩⟩
  rw [show putAll [] kvs=kk.zip us from p3]
  exact aj
 ·have z1:xs≠[]:=fun q=>z (.inl q)
  have z2:eG xs=false:=by
   cases q:eG xs with
   |true=>exact absurd (.inr q) z
   |false=>rfl
  obtain ⟨kvs,kk,us,p1,p2,p3,p4,p5,p6⟩:=rE s.sub (kk:=[]) (us:=[]) r rfl rfl (show af T as G [] [] from rfl) (fun _=>⟨z1,z2⟩) e
  refine .inr ⟨a,ys,kvs,rfl,hp,p1,by rw [p2];exact c,fun p hp=>fin p hp ⟨us, .inl ⟨kk,p4,p5, ?_⟩,p6.mono (List.prefix_append _ _) (Le.refl _)⟩⟩
  rw [show putAll [] kvs=kk.zip us from p3]
  exact aj
theorem zw (hc:X.calm=true) (hu:X.A.units+2<cLine):aA X (.type "dict") (IK T):=by
 refine aA.imp (((lP hc hu (b:=true)).or (kW hc hu (b:=true))).or ((lP hc hu (b:=false)).or (kW hc hu (b:=false)))) fun us H Q z903=> ?_;obtain ⟨st,as,G,x,u,Z,e,s,r,h⟩:=z903
 subst e
 cases x with
 |tup f xs=>
  cases f with
  |false=>exact h.elim
  |true=>
   obtain ⟨a,ys,rfl,⟨o,q1,q2⟩,r⟩:=r
   exact .inr (rj s r ⟨o,s.sub.ex q1 rfl,q2⟩ h)
 |ref k=>
  obtain ⟨a,ea,rfl⟩:=r
  replace h:ae T as G (tP st st[k]?) (PV T Q) Z:=h
  cases e1:st[k]? with
  |none=>rw [e1] at h;exact h.elim
  |some o=>
   rw [e1] at h
   have ob:=s.ob k o a e1 ea
   cases o with
   |lst xs=>
    obtain ⟨ys,q,r⟩:=ob
    exact .inl (rj s r q h)
   |dct ks vs=>exact h.elim
   |ins c ns vs=>exact h.elim
 |_=>exact h.elim
theorem E9 {e:Expr} {p:Pos} (hc:X.calm=true) (hu:X.A.units+2<cLine) (hg:Gl X "dict") (hm:X.mg "dict"=none) (he:PE X e (tE T P cl E ie)) (hs:notStar e=true):PE X (.Call (.Name "dict" p) [e] [] pos) (tE T P cl E (.dOf ie)):=
 PE.mono (nB (zw hc hu) hg hm PyProof.Rows.Boot.«dict» (l6 he o5 (by cases e<;>first|rfl|cases hs)) (by decide) (by decide) (by cases e<;>first|rfl|cases hs) rfl) fun σ H Q z903=>by
  obtain ⟨env,st,as,G,s,er,h⟩:=z903
  dsimp only [PI.E.run] at h
  exact az s er h fun x st1 as1 G1 H1 u s1 er1 r1 p1 l1 h=>⟨st1,as1,G1,x,u,_,rfl,s1,r1,h⟩
end
end PI
namespace PI
open PySem L2 L2.L3
theorem lW:∀x y:List Int,v5 x y=HT.lexLt x y
 |[],[]=>rfl
 |[],_::_=>rfl
 |_::_,[]=>rfl
 |a::r,b::t=>by
  rw [HT.dM]
  unfold v5
  rw [lW r t]
theorem uK:∀{x y:List Int},HT.lexLt x y=false->HT.lexLt y x=false->x=y
 |[],[],_,_=>rfl
 |[],_::_,h,_=>by cases h
 |_::_,[],_,h=>by cases h
 |a::r,b::t,h1,h2=>by
  rw [HT.dM] at h1 h2
  by_cases e:a=b
  ·subst e
   rw [if_pos rfl] at h1 h2
   rw [uK h1 h2]
  ·rw [if_neg e] at h1
   rw [if_neg (fun z=>e z.symm)] at h2
   have k1:=of_decide_eq_false h1
   have k2:=of_decide_eq_false h2
   lia
section
variable {α β:Type}
theorem je {k:List Int} {y:α}:∀{l:List (List Int×α)},(cV k y l).Perm ((k,y)::l)
 |[]=> .refl _
 |z::r=>by
  unfold cV
  split
  ·exact .refl _
  ·exact ((je (l:=r)).cons z).trans (.swap _ _ _)
theorem gQ:∀{l:List (List Int×α)},(bB l).Perm l
 |[]=> .refl _
 |z::r=>je.trans ((gQ (l:=r)).cons _)
noncomputable def pW (l:List (List Int×α)):Prop:=l.Pairwise fun x y=>HT.lexLt y.1 x.1=false
theorem kU {k:List Int} {y:α}:∀{l:List (List Int×α)},pW l->pW (cV k y l)
 |[],_=>List.Pairwise.cons (fun _ h=>by cases h) .nil
 |z::r,h=>by
  unfold cV
  split
  ·rename_i c
   rw [lW] at c
   refine List.Pairwise.cons (fun w hw=> ?_) h
   rcases List.mem_cons.mp hw with rfl|hw
   ·exact lS c
   ·exact pE (lS c) (List.rel_of_pairwise_cons h hw)
  ·rename_i c
   rw [lW] at c
   have c0:HT.lexLt k z.1=false:=by simpa using c
   refine List.Pairwise.cons (fun w hw=> ?_) (kU (List.pairwise_cons.mp h).2)
   rcases List.mem_cons.mp (je.mem_iff.mp hw) with rfl|hw
   ·exact c0
   ·exact List.rel_of_pairwise_cons h hw
theorem j4:∀{l:List (List Int×α)},pW (bB l)
 |[]=> .nil
 |_::r=>kU (j4 (l:=r))
theorem pJ (g:α->β) {k:List Int} {y:α}:∀{l:List (List Int×α)},cV k (g y) (l.map fun z=>(z.1,g z.2))=(cV k y l).map fun z=>(z.1,g z.2)
 |[]=>rfl
 |z::r=>by
  show (if v5 k z.1=true then _ else _)=_
  rw [cV]
  split
  ·rfl
  ·rw [List.map_cons,←pJ g]
theorem nz (g:α->β):∀{l:List (List Int×α)},bB (l.map fun z=>(z.1,g z.2))=(bB l).map fun z=>(z.1,g z.2)
 |[]=>rfl
 |z::r=>by
  show cV z.1 (g z.2) (bB (r.map fun z=>(z.1,g z.2)))=_
  rw [nz g,pJ g]
  rfl
end
theorem u7 {α:Type} {d:α} (ks:List (List Int)) (ys:List α) (h:ks.length=ys.length):ks.zip ys=(ks.zip (List.range ys.length)).map fun z=>(z.1,ys.getD z.2 d):=by
 refine List.ext_getElem (by simp [h]) fun i h1 h2=> ?_
 have hy:i<ys.length:=by simp at h1;lia
 simp [List.getD_eq_getElem?_getD,List.getElem?_eq_getElem hy]
theorem uF {α:Type} {d:α} {ks:List (List Int)} {ys:List α} (h:ks.length=ys.length) (nd:ks.Nodup) {p:List Nat} (pp:p.Perm (List.range ys.length)) (pr:lK ks p):(bB (ks.zip ys)).map (fun z=>z.2)=p.map fun i=>ys.getD i d:=by
 rw [u7 (d:=d) ks ys h,nz (fun i=>ys.getD i d),List.map_map]
 have e:p=(bB (ks.zip (List.range ys.length))).map fun z=>z.2:=by
  have m:∀z∈bB (ks.zip (List.range ys.length)),z.1=ks.getD z.2 []/\z.2<ks.length:=fun z hz=>by
   obtain ⟨i,hi,e⟩:=List.mem_iff_getElem.mp (gQ.mem_iff.mp hz)
   subst e
   have hk:i<ks.length:=by simp at hi;lia
   simp [List.getD_eq_getElem?_getD,List.getElem?_eq_getElem hk,hk]
  have sn:((ks.zip (List.range ys.length)).map fun z=>z.2)=List.range ys.length:=List.map_snd_zip (by simp [h])
  have pm:((bB (ks.zip (List.range ys.length))).map fun z=>z.2).Perm (List.range ys.length):=by
   have:=(gQ (l:=ks.zip (List.range ys.length))).map fun z=>z.2
   rwa [sn] at this
  have rs:lK ks ((bB (ks.zip (List.range ys.length))).map fun z=>z.2):=by
   unfold lK
   rw [List.pairwise_map]
   refine (List.Pairwise.and_mem.mp (j4 (l:=ks.zip (List.range ys.length)))).imp fun {a b} z901=> ?_;obtain ⟨ma,mb,q⟩:=z901
   rw [←(m a ma).1,←(m b mb).1]
   exact q
  refine List.Perm.eq_of_pairwise (fun a b ha hb h1 h2=> ?_) pr rs (pp.trans pm.symm)
  have la:a<ks.length:=by rw [h];exact List.mem_range.mp (pp.mem_iff.mp ha)
  have lb:b<ks.length:=by rw [h];exact List.mem_range.mp (pm.mem_iff.mp hb)
  have q:=uK h1 h2
  rw [List.getD_eq_getElem?_getD,List.getD_eq_getElem?_getD,List.getElem?_eq_getElem la,List.getElem?_eq_getElem lb] at q
  have q':ks[b]=ks[a]:=q
  exact oP nd (List.getElem?_eq_getElem la) (by rw [List.getElem?_eq_getElem lb,q'])
 rw [e,List.map_map]
 rfl
end PI
namespace PI
open PySem PySem.Spec L2 L2.L3 L2.L4 PySem.SeqAt
open PyProof.Rows hiding St lobj
theorem yK {α β:Type} {c:Prop} {r:R α} {f:α->aa->R β}:(iff c r).bind f=iff c (r.bind f):=by
 unfold iff
 split<;>rfl
theorem eqz {α β γ:Type} {x:Option α} {y:Option β} {f:α->β->γ} {c:γ} (h:(x.bind fun a=>y.map fun b=>f a b)=some c):∃a b,x=some a/\y=some b/\c=f a b:=by
 obtain ⟨a,e1,e2⟩:=Option.bind_eq_some_iff.mp h
 obtain ⟨b,e3,e4⟩:=Option.map_eq_some_iff.mp e2
 exact ⟨a,b,e1,e3,e4.symm⟩
section
variable {T:CT} {as:List Addr} {G H:Hp}
theorem mU:∀{xs:List Val} {us:List L2.V} {k:List Int},lT xs=some k->af T as G xs us->us=k.map L2.V.int
 |[],us,k,h,r=>by
  cases h
  exact r
 |x::xs,us,k,h,r=>by
  cases x<;>try (cases h;done)
  rename_i i
  obtain ⟨k',e,rfl⟩:=Option.map_eq_some_iff.mp h
  obtain ⟨u,t,rfl,ru,rr⟩:=r
  cases ru
  rw [mU e rr]
  rfl
theorem qf (l:Le G H):∀{dn:List Val} {kv:List L2.V} {ks:List (List Int)},du dn=some ks->af T as G dn kv->Paired (eZ H) kv ks
 |[],kv,ks,h,r=>by
  cases h
  cases r
  exact .nil
 |v::dn,kv,ks,h,r=>by
  obtain ⟨k,ks',e1,e2,rfl⟩:=eqz h
  obtain ⟨u,t,rfl,ru,rr⟩:=r
  refine .cons ?_ (qf l e2 rr)
  cases v<;>try (cases e1;done)
  rename_i f xs
  cases f with
  |true=>cases e1
  |false=>
   obtain ⟨a,us,rfl,ha,hr⟩:=ru
   have e3:lT xs=some k:=e1
   rw [mU e3 hr] at ha
   exact ⟨a,rfl,l.ex ha rfl⟩
theorem mP:∀{dn:List Val} {ks:List (List Int)},du dn=some ks->ks.length=dn.length
 |[],ks,h=>by
  cases h
  rfl
 |v::dn,ks,h=>by
  obtain ⟨k,ks',e1,e2,rfl⟩:=eqz h
  simp [mP e2]
theorem mI {ys:List Val} {us:List L2.V} (r:af T as G ys us):∀{p:List Nat},(∀i∈p,i<ys.length)->af T as G (p.map fun i=>ys.getD i .non) (p.map fun i=>us.getD i .non)
 |[],_=>rfl
 |i::p,h=>by
  have hi:=h i List.mem_cons_self
  obtain ⟨u,e,ru⟩:=r.get (List.getElem?_eq_getElem hi)
  refine ⟨_,_,rfl, ?_,mI r fun j hj=>h j (List.mem_cons_of_mem _ hj)⟩
  show Rel T as G (ys.getD i .non) (us.getD i .non)
  rw [List.getD_eq_getElem?_getD,List.getElem?_eq_getElem hi,List.getD_eq_getElem?_getD,e]
  exact ru
theorem sd {α:Type} (l:List α) (a b:α):(l++[a]).set l.length b=l++[b]:=by simp
end
section
variable {T:CT} {P:Pg} {E:XS} {X:Cx} {pos:Pos} {n fi:Nat}
theorem Dh {st:aa} {G H:Hp} {us:List L2.V} {Q:VK} {Z:XK} (s:Sim T st as G H) (r:af T as G ys us)
  (h:ae T as G ((eF (call P n) fi st ys []).bind fun ks _=>(R.ak (du ks) st).bind fun ks st=>iq ys ks st) (PV T Q) Z):
  ∀kS,H kS=none->∃W:SW,oI (dD T P n fi) kS W/\W us [] (upd H kS (.lst []))/\∀kv H2,H2 kS=some (.lst kv)->kv.length=us.length->W [] kv H2->zF us Q kS kv H2:=by
 intro kS hS
 have pre:as<+:as++[kS]:=List.prefix_append _ _
 have ix:(as++[kS])[st.length]?=some kS:=by
  rw [←s.len,List.getElem?_append_right (Nat.le_refl _)]
  simp
 refine ⟨fun rest kv H'=>∃G' dn rv,Le G G'/\Sim T (st++[.lst dn]) (as++[kS]) G' H'/\af T (as++[kS]) G' dn kv/\af T (as++[kS]) G' rv rest/\rv.length+dn.length=ys.length/\
  ae T (as++[kS]) G' ((eF (call P n) fi st rv dn).bind fun ks _=>(R.ak (du ks) st).bind fun ks st=>iq ys ks st) (PV T Q) Z, ?_, ?_, ?_⟩
 ·rintro y rest kv H' ⟨G',dn,rv,l,sm,rd,rr,ln,hp⟩
  cases rv with
  |nil=>cases rr
  |cons yv rv=>
   obtain ⟨u,t,e,ry,rr⟩:=rr
   cases e
   refine ⟨st++[.lst dn],as++[kS],G',[yv],sm,⟨y,[],rfl,ry,rfl⟩, ?_⟩
   unfold eF at hp
   cases ec:call P n fi [yv] (st++[.lst dn]) with
   |stuck=>rw [ec] at hp;exact hp.elim
   |exc x st'=>rw [ec] at hp;exact hp.elim
   |ok v st'=>
    rw [ec] at hp
    replace hp:ae T (as++[kS]) G' ((iff (st'=st++[.lst dn]) (eF (call P n) fi st rv (dn++[v]))).bind fun ks _=>(R.ak (du ks) st).bind fun ks st=>iq ys ks st) (PV T Q) Z:=hp
    rw [yK] at hp
    obtain ⟨e9,hq⟩:=ae.iff hp
    subst e9
    intro as' G2 H2 p l2 s2 w rw'
    have ea:as++[kS]=as':=p.eq_of_length (by rw [sm.len,s2.len])
    subst ea
    obtain ⟨kv2,hk2,rd2⟩:=s2.ob st.length (.lst dn) kS (by simp) ix
    have rd3:af T (as++[kS]) G2 (dn++[v]) (kv2++[w]):=rd2.append ⟨w,[],rfl,rw',rfl⟩
    have s3:=s2.set (u:= .lst (kv2++[w])) (o:= .lst (dn++[v])) ix ⟨_,aj,rd3⟩
    rw [sd] at s3
    exact ⟨kv2,by rw [←rd2.length,←rd.length],hk2,G2,dn++[v],rv,l.trans l2,s3,rd3,rr.mono (List.prefix_refl _) l2,by simp at ln⊢;lia,ae.mono (List.prefix_refl _) l2 hq⟩
 ·exact ⟨G,[],ys,Le.refl _,s.push hS ⟨[],aj,rfl⟩,rfl,r.mono pre (Le.refl _),by simp,ae.mono pre (Le.refl _) h⟩
 ·rintro kv H2 hk lk ⟨G',dn,rv,l,sm,rd,rr,ln,hp⟩
  cases rv with
  |cons yv rv=>
   obtain ⟨u,t,e,_⟩:=rr
   cases e
  |nil=>
   replace hp:ae T (as++[kS]) G' ((R.ak (du dn) st).bind fun ks st=>iq ys ks st) (PV T Q) Z:=hp
   obtain ⟨ks,ek,hp⟩:=ae.ak hp
   obtain ⟨⟨c1,nd,m,hm,hkm⟩,hp⟩:=ae.iff hp
   refine ⟨ks,m,qf sm.sub ek rd,hm,hkm,fun D p hD pp pr=> ?_⟩
   have s2:=sm.set (u:= .lst []) (o:= .lst []) ix ⟨[],aj,rfl⟩
   rw [sd] at s2
   have ly:ys.length=us.length:=r.length
   have lks:ks.length=ys.length:=by
    rw [mP ek]
    simpa using ln
   rw [←ly] at pp
   have eq:=uF (d:=Val.non) lks nd pp pr
   have rs:af T (as++[kS]++[D]) G' ((bB (ks.zip ys)).map fun z=>z.2) (p.map fun i=>us.getD i .non):=by
    rw [eq]
    exact (mI r fun i hi=>List.mem_range.mp (pp.mem_iff.mp hi)).mono (pre.trans (List.prefix_append _ _)) l
   have s3:=s2.push (u:= .lst (p.map fun i=>us.getD i .non)) (o:= .lst ((bB (ks.zip ys)).map fun z=>z.2)) hD ⟨_,aj,rs⟩
   refine hp _ G' _ (List.prefix_append _ _) (Le.refl _) s3 (.ref D) ⟨D, ?_,rfl⟩
   rw [←s2.len,List.getElem?_append_right (Nat.le_refl _)]
   simp
theorem BG {k:Nat} {f:Addr} {ps:List Str} {fn:Str} {e:Expr} {p:Pos} (hK:T.K=X.K) (F:FnOk X.prog X.w X.K X.mg X.base (cJ X.prog X.w) k f fd ps (dD T P n fi)) (hr:Room (k+2) X.A) (hb:Binds X.K fd ps []) (hg:Gl X "sorted") (hm:X.mg "sorted"=none)
  (hgf:Gl X fn) (hmf:X.mg fn=some (.ref f)) (he:PE (X.ag (L4.XE X E)) e (tE T P (call P n) E ie)) (hdf:(fn==("__debug__":Str))=false) (hs:notStar e=true):
  PE (X.ag (L4.XE X E)) (.Call (.Name "sorted" p) [e] [⟨some (Str.ofString "key"), .Name fn p2,kpos⟩] pos) (tE T P (call P n) E (.sortK ie fi)):=
 PE.mono (xx (X:=X.ag (L4.XE X E)) F hr hb hg hm hgf hmf (l6 he o5 (by cases e<;>first|rfl|cases hs)) hdf (by cases e<;>first|rfl|cases hs) (by cases e<;>first|rfl|cases hs)) fun σ H Q z903=>by
  obtain ⟨env,st,as,G,s,er,h⟩:=z903
  dsimp only [PI.E.run] at h
  refine az s er h fun x st1 as1 G1 H1 u s1 er1 r1 p1 l1 h=> ?_
  have rt:=bc s1 r1
  cases ex:res st1 x with
  |lst ys=>
   rw [ex] at rt h
   obtain ⟨a,us,rfl,hq,rr⟩:=rt
   obtain ⟨c,h⟩:=ae.iff h
   exact ⟨a,us,rfl,hK▸hq,by rw [←rr.length];exact c,Dh s1 rr h⟩
  |_=>rw [ex] at h;exact h.elim
end
end PI
namespace L2.L3
open PySem PySem.Spec PyProof.Rows
structure InsOk (K:PySem.W.Frag) (C:Addr):Prop where
 cl:Cls K C
 ha:PySem.W.findIn K (.ref C) "__class__"=some (some (.builtin "object.__class__"))
 hn:PySem.W.specialIn K (.builtin "object.__class__") "__get__"=some (some (.builtin "getset_descriptor.__get__"))
 htk:PySem.W.takesIn K (.builtin "object.__class__")=some true
 hm:PySem.W.mroIn K C (.type "object")=some true
end L2.L3
namespace PI
open PySem PySem.Spec L2 L2.L3 L2.L4 PySem.SeqAt
open PyProof.Rows hiding St lobj
noncomputable def clV (T:CT) (c:Nat):Value:=if c=1000 then .type "ValueError" else .ref (T.ca c)
structure IsOk (T:CT) (k c:Nat) (K':Cl):Prop where
 kit:PySem.W.kitOne T.K (.ref (T.ca k)) (clV T c)=some (K'.sup.contains c)
 ins:K'.exc=false->InsOk T.K (T.ca k)
 exc:K'.exc=true->ExcCls T.K (T.ca k)
section
variable {T:CT} {P:Pg} {cl:ar} {E:XS} {X:Cx} {pos:Pos}
end
end PI
namespace PI
open PySem PySem.Spec L2 L2.L3 L2.L4 PySem.SeqAt
open PyProof.Rows hiding St lobj
section
variable {T:CT} {P:Pg} {cl:ar} {E:XS} {X:Cx} {pos:Pos}
noncomputable def uo (T:CT) (P:Pg) (c:Nat):Prop:=∀k K',P.cl k=some K'->K'.sup.contains c=true->PySem.W.exmOne T.K (.ref (T.ca k)) (.ref (T.ca c))=some true
end
end PI
namespace PI
open PySem PySem.Spec L2 L2.L3 L2.L4 PySem.SeqAt
open PyProof.Rows hiding St lobj
structure Md where
 fa:Nat->Addr
 fd:Nat->FuncData
 ps:Nat->List Str
structure MOk (D:Dt) (P:Pg) (T:CT) (M:Md) (mg:Str->Option Value):Prop where
 fn:∀x i,D.gl.lookup x=some (.fn i)->mg x=some (.ref (M.fa i))/\PySem.W.keepIn T.K (.ref (M.fa i))=true/\Binds T.K (M.fd i) (M.ps i) []
 fr:∀x,D.fr.contains x=true->mg x=none
 ty:C5 T.K
 cls:COk T P
 cm:∀x c b,D.gl.lookup x=some (.cls c b)->mg x=some (.ref (T.ca c))/\T.xc c=false/\PySem.W.keepIn T.K (.ref (T.ca c))=true/\PySem.W.makesIn T.K (T.ca c)=true/\∃K',P.cl c=some K'/\
  (b=false->K'.init=none/\PySem.W.findIn T.K (.ref (T.ca c)) "__init__"=some (some (.builtin "object.__init__")))/\
  (b=true->∃fi,K'.init=some fi/\PySem.W.findIn T.K (.ref (T.ca c)) "__init__"=some (some (.ref (M.fa fi)))/\PySem.W.isFn T.K (.ref (M.fa fi))=true/\Binds T.K (M.fd fi) (M.ps fi) [])
 er:∀x c,D.gl.lookup x=some (.err c)->mg x=some (.ref (T.ca c))/\T.xc c=true/\PySem.W.excIn T.K (T.ca c) Ao "ValueError.__new__"=true/\∃K',P.cl c=some K'/\K'.init=none
 va:∀x v,D.gl.lookup x=some (.val v)->∃u uv,mg x=some uv/\RelV u uv/\∀as G,Rel T as G v u
 mt:∀m (c:Nat) k' fi,P.cl c=some k'->k'.meths.lookup m=some fi->k'.exc=false/\Meth T.K (T.ca c) m (M.fa fi)/\Binds T.K (M.fd fi) (M.ps fi) []
 fx:∀f,D.fx.contains f=true->∀(c:Nat) k,P.cl c=some k->f∈k.flds->k.exc=false
 is:∀y c,D.is.contains y=true->((y="ValueError"/\c=1000)∨(c≠1000/\(D.gl.lookup y=some (.err c)∨∃b,D.gl.lookup y=some (.cls c b))))->∀k K',P.cl k=some K'->IsOk T k c K'
 ex:∀y c,D.is.contains y=true->D.gl.lookup y=some (.err c)->uo T P c
structure XOk (T:CT) (P':Program) (w:World) (mg:Str->Option Value) (base:Heap) (k:Nat) (g:Gm) (X:Cx):Prop where
 N:X.N=g.N
 nd:g.N.Nodup
 sc:X.env.scope=g.sc
 fn:∀x,g.fn x=true->X.fn x=true
 kd:g.sc.kind= .function
 fm:Framed X
 hx:cc X
 calm:g.cm=true->X.calm=true
 K:T.K=X.K
 prog:X.prog=P'
 w:X.w=w
 mg:X.mg=mg
 base:X.base=base
 room:g.cm=true->Room (k+3) X.A
 un:X.A.units+200<cLine
theorem vy {N:List Str} {x:Str} {i:Nat} (h:N.idxOf? x=some i):N[i]?=some x:=by
 rw [List.idxOf?,List.findIdx?_eq_some_iff_getElem] at h
 obtain ⟨l,e,_⟩:=h
 rw [List.getElem?_eq_getElem l]
 exact congrArg some (by simpa using e)
section
variable {T:CT} {P:Pg} {D:Dt} {M:Md} {P':Program} {w:World} {mg:Str->Option Value} {base:Heap} {k:Nat} {g:Gm} {X:Cx}
theorem XOk.ix (h:XOk T P' w mg base k g X) {x:Str} {i:Nat} (e:g.ix x=some i):X.N[i]?=some x/\uH X.env.scope x/\(x==("__debug__":Str))=false/\(x==("__classdict__":Str))=false:=by
 unfold Gm.ix at e
 split at e
 ·cases e
 ·rename_i z
  rw [Bool.or_eq_true,not_or] at z
  obtain ⟨j,e1,e2⟩:=Option.bind_eq_some_iff.mp e
  split at e2
  ·rename_i v
   cases e2
   refine ⟨h.N▸vy e1, ?_,by simpa using z.1,by simpa using z.2⟩
   unfold Cr at v
   rw [h.sc]
   simp only [Bool.or_eq_true,beq_iff_eq] at v
   exact or_assoc.mp v
  ·cases e2
theorem XOk.lx (h:XOk T P' w mg base k g X) {x:Str} {i:Nat} (e:g.lx x=some i):X.N[i]?=some x/\Loc X.env.scope x/\(X.fn x=true∨X.env.scope.names.lookup x=some .local):=by
 unfold Gm.lx at e
 obtain ⟨j,e1,e2⟩:=Option.bind_eq_some_iff.mp e
 split at e2
 ·rename_i v
  cases e2
  rw [Bool.and_eq_true] at v
  refine ⟨h.N▸vy e1, ?_, ?_⟩
  ·have:=v.1
   unfold tH at this
   rw [h.sc]
   simp only [Bool.or_eq_true,beq_iff_eq] at this
   exact this
  ·have:=v.2
   rw [Bool.or_eq_true] at this
   refine this.imp (h.fn x) fun q=> ?_
   rw [h.sc]
   simpa using q
 ·cases e2
theorem XOk.gb (h:XOk T P' w mg base k g X) {x:Str} (e:g.gb x=true):Gl X x/\(x==("__debug__":Str))=false/\x≠"__name__":=by
 unfold Gm.gb at e
 rw [Bool.and_eq_true,Bool.and_eq_true] at e
 refine ⟨?_,by simpa using e.1.2,by simpa using e.2⟩
 show X.env.scope.names.lookup x=some .globalImplicit
 rw [h.sc]
 simpa [Gm.gl] using e.1.1
theorem oH {x:Str} {v:Gv} (e:g.gv D x=some v):g.gb x=true/\D.gl.lookup x=some v:=by
 unfold Gm.gv at e
 split at e
 ·rename_i z
  exact ⟨z,e⟩
 ·cases e
end
theorem aW {e:Expr} {env:PySem.Env} (h:notStar e=true):starEach (e::es) env=(false,eval e env)::starEach es env:=by
 cases e<;>first|rfl|cases h
theorem dv {env:PySem.Env}:∀{es:List Expr},es.all notStar=true->(backTo pos (starEach es env)).any (·.1)=false
 |[],_=>rfl
 |e::es,h=>by
  rw [List.all_cons,Bool.and_eq_true] at h
  rw [aW h.1]
  show (false||(backTo pos (starEach es env)).any (·.1))=false
  rw [dv h.2]
  rfl
theorem zh {b:Expr} (h:eA b=true):mm b:=by
 intro o i
 cases b<;>first|rfl|cases h
theorem qz {e:Expr} {env:PySem.Env} (h:dR e=true):∀x,foldedSetIterable e env x=pure x:=by
 intro x
 cases e<;>first|rfl|cases h
theorem rQ {op:CmpOp} {b:Expr} (h:dR b=true):behindInMarks op b=false:=by
 cases b<;>first|rfl|cases h
theorem sH {e:Expr} {t:Option Expr} {line:Nat} {env:PySem.Env} (h:dz e=true):swapsWith e t line env=pure false:=by
 cases e<;>first|rfl|cases h
theorem dZ {f:Str} {env:PySem.Env} {whole:Sem Value} (h:iz o=true):attributeBase o f env whole=whole:=by
 cases o<;>first|rfl|skip
 rename_i fn as ks pos
 cases fn<;>first|rfl|skip
 cases as<;>first|rfl|skip
 cases ks<;>first|rfl|cases h
theorem fg {α β:Type} {f:α->Option β} {a:α} {r:List α} {l:List β} (h:cL f (a::r)=some l):∃b t,f a=some b/\cL f r=some t/\l=b::t:=by
 unfold cL at h
 obtain ⟨b,e1,e2⟩:=Option.bind_eq_some_iff.mp h
 obtain ⟨t,e3,e4⟩:=Option.map_eq_some_iff.mp e2
 exact ⟨b,t,e1,e3,e4.symm⟩
theorem eq2 {α β γ:Type} {x:Option α} {y:α->Option β} {f:α->β->γ} {c:γ} (h:(x.bind fun a=>(y a).map fun b=>f a b)=some c):∃a b,x=some a/\y a=some b/\c=f a b:=by
 obtain ⟨a,e1,e2⟩:=Option.bind_eq_some_iff.mp h
 obtain ⟨b,e3,e4⟩:=Option.map_eq_some_iff.mp e2
 exact ⟨a,b,e1,e3,e4.symm⟩
theorem eq3 {α β γ δ:Type} {x:Option α} {y:α->Option β} {z:α->β->Option γ} {f:α->β->γ->δ} {c:δ} (h:(x.bind fun a=>(y a).bind fun b=>(z a b).map fun d=>f a b d)=some c):∃a b d,x=some a/\y a=some b/\z a b=some d/\c=f a b d:=by
 obtain ⟨a,e1,e2⟩:=Option.bind_eq_some_iff.mp h
 obtain ⟨b,d,e3,e4,e5⟩:=eq2 e2
 exact ⟨a,b,d,e1,e3,e4,e5⟩
theorem bW {α:Type} {b:Bool} {x:Option α} {c:α} (h:(if b=true then x else none)=some c):b=true/\x=some c:=by
 split at h
 ·rename_i z
  exact ⟨z,h⟩
 ·cases h
end PI
namespace PI
open PySem PySem.Spec L2 L2.L3 L2.L4 PySem.SeqAt
open PyProof.Rows hiding St lobj
theorem j6:∀{l:List Str},iG l=true->l.Nodup
 |[],_=>List.nodup_nil
 |x::r,h=>by
  unfold iG at h
  rw [Bool.and_eq_true] at h
  rw [List.nodup_cons]
  refine ⟨?_,j6 h.2⟩
  have:=h.1
  simpa using this
theorem vh {S:Scope} (h:yj S sc=true):BlockOkC S sc:=by
 unfold yj at h
 simp only [Bool.and_eq_true,List.all_eq_true,Bool.or_eq_true,Bool.not_eq_true',beq_iff_eq,beq_eq_false_iff_ne] at h
 obtain ⟨⟨⟨h1,h2⟩,h3⟩,h4⟩:=h
 refine ⟨h1,fun y hy e=>(h2 y hy).elim (fun z=>absurd e z) id,fun y hy e=> ?_,fun y hy e=>(h4 y hy).elim (fun z=>absurd e z) id⟩
 rcases h3 y hy with (z|z)|z
 ·exact absurd e z
 ·exact .inl z
 ·exact .inr z
section
variable {T:CT} {P:Pg} {D:Dt} {M:Md} {P':Program} {w:World} {mg:Str->Option Value} {base:Heap} {k:Nat} {g:Gm} {X:Cx}
theorem XOk.block (h:XOk T P' w mg base k g X) {sc:Scope} (e:g.block sc=some g'):X.calm=true/\BlockOkC X.env.scope sc/\(∀j∈gI g.N sc,sc.names.lookup (X.N.getD j Str.empty)=some .free)/\
  ∀own C fp pn s H,(∀b∈fp,∃o,(b,o)∈pn)->XOk T P' w mg base k g' (cf X own (oX sc) (gI g.N sc) sc C fp pn s H):=by
 unfold Gm.block at e
 simp only at e
 split at e
 ·rename_i z
  simp only [Bool.and_eq_true] at z
  obtain ⟨⟨⟨z1,z2⟩,z3⟩,z4⟩:=z
  cases e
  refine ⟨h.calm z4,h.sc▸vh z1,fun j hj=> ?_,fun own C fp pn s H hh=>⟨?_,j6 z2, ?_,fun x q=>q, ?_,h.fm,hh,fun _=>h.calm z4,h.K,h.prog,h.w,h.mg,h.base,fun _=>h.room z4,h.un⟩⟩
  ·rw [h.N]
   simpa using (List.all_eq_true.mp z3) j hj
  ·show oX sc++(gI g.N sc).map (fun i=>X.N.getD i Str.empty)=_
   rw [h.N]
  ·show relabel sc X.env=zM g.sc sc
   rw [←h.sc]
   rfl
  ·exact (vh z1).kind
 ·cases e
end
section
variable {T:CT} {X:Cx}
theorem Fy (hK:T.K=X.K) {op:Operator} (h:zf op=true):aK X (binaryOp op) (cu T (eh op)):=by
 cases op<;>first|(cases h;done)|exact AJ hK|exact AO|exact Bd|exact A5|exact BZ|exact B4
theorem z8 (hK:T.K=X.K) (hu:X.A.units+9<cLine) {op:CmpOp}:aK X (compareOp op) (cu T fun x y st=>cI (bw op x y st)):=by
 have hu8:X.A.units+8<cLine:=by lia
 cases op
 ·exact DZ hK hu8
 ·exact Ea hK hu8
 ·exact B9
 ·exact Dy
 ·exact Ei
 ·exact CI
 ·exact DQ
 ·exact vG
 ·exact Ck hK hu
 ·exact uY hK hu
theorem Gy (hK:T.K=X.K) (hc:X.calm=true) {x:Str} {b:Bi} (h:zH x=some b):(∃id,bootBuiltins x=some (.builtin id)/\aA X (.builtin id) (iF T b))∨∃id,bootBuiltins x=some (.type id)/\aA X (.type id) (iF T b):=by
 unfold zH at h
 split at h
 ·rename_i z;subst z;cases h;exact .inl ⟨"len",PySem.boot_len,vE hK⟩
 split at h
 ·rename_i z;subst z;cases h;exact .inl ⟨"abs",PyProof.Rows.Boot.«abs»,vj⟩
 split at h
 ·rename_i z;subst z;cases h;exact .inr ⟨"int",PyProof.Rows.Boot.«int»,uz⟩
 split at h
 ·rename_i z;subst z;cases h;exact .inr ⟨"tuple",PyProof.Rows.boot_tuple,q8 hK⟩
 split at h
 ·rename_i z;subst z;cases h;exact .inr ⟨"list",PyProof.Rows.Boot.«list»,uf hK⟩
 split at h
 ·rename_i z;subst z;cases h;exact .inl ⟨"all",PyProof.Rows.Boot.«all»,uD hK hc⟩
 split at h
 ·rename_i z;subst z;cases h;exact .inl ⟨"sum",PyProof.Rows.Boot.«sum»,wG hK hc⟩
 split at h
 ·rename_i z;subst z;cases h;exact .inl ⟨"any",PyProof.Rows.Boot.«any»,uB hK hc⟩
 cases h
end
end PI
namespace PI
open PySem PySem.Spec L2 L2.L3 L2.L4 PySem.SeqAt
open PyProof.Rows hiding St lobj
noncomputable def gJ (T:CT) (P:Pg) (m:Nat) (X:Cx) (e:Expr) (ie:PI.E):Prop:=∀E:XS,PE (X.ag (L4.XE X E)) e (tE T P (call P m) E ie)/\(dh e=true->PT (X.ag (L4.XE X E)) e (tT T P (call P m) E ie))
section
variable {T:CT} {P:Pg} {D:Dt} {M:Md} {P':Program} {w:World} {mg:Str->Option Value} {base:Heap} {k m:Nat} {g:Gm} {X:Cx}
theorem bp {e:Expr} (O:XOk T P' w mg base k g X) (h:∀E:XS,PE (X.ag (L4.XE X E)) e (tE T P (call P m) E ie)) (he:∀whole,isTrue e X.env whole=(do let v←whole;standAt e.pos;holding [v] (truthy v))):gJ T P m X e ie:=fun E=>⟨h E,fun _=>FA (X:=X.ag (L4.XE X E)) O.K (h E) he⟩
theorem gT {f:Expr->Option PI.E} (ih:∀e ie,f e=some ie->gJ T P m X e ie) (E:XS):∀{es:List Expr} {ies:List PI.E},es.all notStar=true->cL f es=some ies->PA (X.ag (L4.XE X E)) es (dJ T P (call P m) E ies)
 |[],_,_,h=>by
  cases h
  exact oB
 |e::es,ies,hs,h=>by
  rw [List.all_cons,Bool.and_eq_true] at hs
  obtain ⟨b,t,e1,e2,rfl⟩:=fg h
  exact iZ (ih e b e1 E).1 (gT ih E hs.2 e2) (aW hs.1)
theorem kq {f:Expr->Option PI.E} (ih:∀e ie,f e=some ie->gJ T P m X e ie) {op:BoolOp} (E:XS):∀{vs:List Expr} {ie:PI.E},vs.all dh=true->cBool op f vs=some ie->
  PE (X.ag (L4.XE X E)) (.BoolOp op vs pos) (tE T P (call P m) E ie)/\PW (X.ag (L4.XE X E)) (.BoolOp op vs pos) (tT T P (call P m) E ie)
 |[],_,_,h=>by cases h
 |[a],ie,hn,h=>by
  rw [List.all_cons,Bool.and_eq_true] at hn
  have q:=ih a ie h E
  refine ⟨Es q.1, ?_⟩
  cases op
  ·exact BK (q.2 hn.1)
  ·exact Dz (q.2 hn.1)
 |a::b::r,ie,hn,h=>by
  rw [List.all_cons,Bool.and_eq_true] at hn
  replace h:((f a).bind fun x=>(cBool op f (b::r)).map fun y=>bop op x y)=some ie:=h
  obtain ⟨x,y,e1,e2,rfl⟩:=eq2 h
  have q:=ih a x e1 E
  have z:=kq ih (op:=op) (pos:=pos) E hn.2 e2
  cases op
  ·exact ⟨EU q.1 z.1,EY (q.2 hn.1) z.2⟩
  ·exact ⟨Il q.1 z.1,He (q.2 hn.1) z.2⟩
theorem xh (MO:MOk D P T M mg) (hc:∀i,FnOk P' w T.K mg base (cJ P' w) k (M.fa i) (M.fd i) (M.ps i) (dD T P m i)) (O:XOk T P' w mg base k g X) {f:Expr->Option PI.E} (ih:∀e ie,f e=some ie->gJ T P m X e ie)
  {x:Str} {p:Pos} {ie:PI.E} (zc:g.cm=true) (h:oO D g x es f=some ie) (E:XS):PE (X.ag (L4.XE X E)) (.Call (.Name x p) es [] pos) (tE T P (call P m) E ie):=by
 unfold oO at h
 split at h
 ·rename_i i z
  obtain ⟨a1,h⟩:=bW h
  obtain ⟨ies,e1,rfl⟩:=Option.map_eq_some_iff.mp h
  obtain ⟨z1,z2⟩:=oH z
  obtain ⟨g1,g2,g3⟩:=O.gb z1
  obtain ⟨f1,f2,f3⟩:=MO.fn x i z2
  have F:=hc i
  rw [←O.prog,←O.w,←O.mg,←O.base,O.K] at F
  have A:=gT ih E a1 e1
  cases es with
  |nil=>
   cases e1
   exact AS F ((O.room zc).mono (by lia)) (O.K▸f3) O.hx g1 (O.mg▸f1) (O.K▸f2) g2
  |cons e es=>
   rw [List.all_cons,Bool.and_eq_true] at a1
   exact s_call F ((O.room zc).mono (by lia)) (O.K▸f3) O.hx g1 (O.mg▸f1) (O.K▸f2) A g2 (aW a1.1) (dv a1.2)
 ·rename_i c ini z
  obtain ⟨a1,h⟩:=bW h
  obtain ⟨ies,e1,rfl⟩:=Option.map_eq_some_iff.mp h
  rw [Bool.and_eq_true,beq_iff_eq] at a1
  obtain ⟨z1,z2⟩:=oH z
  obtain ⟨g1,g2,g3⟩:=O.gb z1
  obtain ⟨m1,m2,m3,m4,K',m5,m6,m7⟩:=MO.cm x c ini z2
  have A:=gT ih E a1.1 e1
  cases es with
  |nil=>
   cases e1
   obtain ⟨i1,i2⟩:=m6 (by rw [a1.2];rfl)
   exact AZ (X:=X.ag (L4.XE X E)) m5 i1 rfl m2 (O.K▸m4) (O.K▸i2) (O.K▸m3) g1 (by show X.mg x=_;rw [O.mg];exact m1) g2
  |cons e es=>
   obtain ⟨fi,i1,i2,i3,i4⟩:=m7 (by rw [a1.2];rfl)
   have a2:=a1.1
   rw [List.all_cons,Bool.and_eq_true] at a2
   have F:=hc fi
   rw [←O.prog,←O.w,←O.mg,←O.base,O.K] at F
   exact Cb m5 i1 rfl m2 ⟨O.K▸m4,O.K▸i2,O.K▸i3,O.K▸m3⟩ F ((O.room zc).mono (by lia)) (O.K▸i4) O.hx g1 (by rw [O.mg];exact m1) A g2 (aW a2.1) (dv a2.2)
 ·cases h
 ·cases h
 ·rename_i z
  obtain ⟨a1,h⟩:=bW h
  obtain ⟨b,ies,e1,e2,rfl⟩:=eq2 h
  simp only [Bool.and_eq_true] at a1
  obtain ⟨⟨⟨⟨c1,c2⟩,c3⟩,c4⟩,c5⟩:=a1
  obtain ⟨g1,g2,g3⟩:=O.gb c1
  have mn:=MO.fr x c2
  have A:=gT ih E c3 e2
  cases es with
  |nil=>cases c4
  |cons e es=>
   rw [List.all_cons,Bool.and_eq_true] at c3
   rcases Gy (X:=X.ag (L4.XE X E)) O.K (O.calm c5) e1 with ⟨id,b1,b2⟩|⟨id,b1,b2⟩
   ·exact EL b2 g1 (by show X.mg x=none;rw [O.mg];exact mn) b1 A g3 g2 (aW c3.1) (dv c3.2)
   ·exact Fd b2 g1 (by show X.mg x=none;rw [O.mg];exact mn) b1 A g3 g2 (aW c3.1) (dv c3.2)
theorem oM (O:XOk T P' w mg base k g X):∀(n:Nat) (e:Expr) (t:PI.T) (E:XS),jQ g n e=some t->PG (X.ag (L4.XE X E)) e (tG T t):=by
 intro n
 induction n with
 |zero=>intro e t E h;cases h
 |succ n ih=>
  intro e t E h
  cases e<;>first|(cases h;done)|skip
  ·rename_i x pos
   obtain ⟨i,e1,rfl⟩:=Option.map_eq_some_iff.mp (show (g.lx x).map PI.T.var=some t from h)
   obtain ⟨h1,h2,h3⟩:=O.lx e1
   exact Fv (X:=X.ag (L4.XE X E)) (by show X.N.Nodup;rw [O.N];exact O.nd) h1 h2 h3
  ·rename_i es k' pos
   obtain ⟨a0,h⟩:=bW (show (if (es.all notStar&&g.cm)=true then (cL (jQ g n) es).map PI.T.tup else none)=some t from h)
   rw [Bool.and_eq_true] at a0
   obtain ⟨a1,a2⟩:=a0
   obtain ⟨ts,e1,rfl⟩:=Option.map_eq_some_iff.mp h
   have all:∀{es:List Expr} {ts:List PI.T},es.all notStar=true->cL (jQ g n) es=some ts->gf (X.ag (L4.XE X E)) es (vF T ts)/\(assignEach es X.env).length=ts.length/\(assignEach es X.env).findIdx? (·.1)=none:=by
    intro es
    induction es with
    |nil=>
     intro ts _ h
     cases h
     exact ⟨Ca,rfl,rfl⟩
    |cons e es ihs=>
     intro ts hs h
     rw [List.all_cons,Bool.and_eq_true] at hs
     obtain ⟨b,r,e1,e2,rfl⟩:=fg h
     obtain ⟨q1,q2,q3⟩:=ihs hs.2 e2
     have z:assignEach (e::es) X.env=(false,assign e X.env)::assignEach es X.env:=by
      have:=hs.1
      cases e<;>first|rfl|cases this
     refine ⟨A9 (ih e b E e1) q1 (by show (assignEach (e::es) X.env).map (·.2)=_;rw [z];rfl),by rw [z];simp [q2], ?_⟩
     rw [z,List.findIdx?_cons]
     simp [q3]
   obtain ⟨q1,q2,q3⟩:=all a1 e1
   exact Gj (X:=X.ag (L4.XE X E)) O.K (O.calm a2) q1 rfl q2 q3
theorem ka {env:PySem.Env}:∀{es:List Expr},es.all notStar=true->(backTo pos (starEach es env)).all (fun x=> !x.1)=true
 |[],_=>rfl
 |e::es,h=>by
  rw [List.all_cons,Bool.and_eq_true] at h
  rw [aW h.1]
  show (!false&&(backTo pos (starEach es env)).all (fun x=> !x.1))=true
  rw [ka h.2]
  rfl
theorem qQ {env:PySem.Env} {es:List Expr} (h:es.all notStar=true) (hl:es.length<30):((backTo pos (starEach es env)).all (fun x=> !x.1)&&(backToKw pos (keywordEach [] env)).all (fun x=>x.1.isSome)&&decide (es.length+([]:List Keyword).length+(if ([]:List Keyword).isEmpty then 0 else 1)<30))=true:=by
 rw [ka h]
 show (true&&true&&decide (es.length+0+0<30))=true
 rw [decide_eq_true (by lia)]
 rfl
theorem sg {env:PySem.Env} {es:List Expr} (h:es.all notStar=true) (hl:es.length<30):methodCallForm (es.length+([]:List Keyword).length) (backTo pos (starEach es env)) (backToKw pos (keywordEach [] env))=true:=by
 unfold methodCallForm
 rw [ka h]
 show (true&&true&&decide (es.length+0+0<30))=true
 rw [decide_eq_true (by lia)]
 rfl
theorem kN {α β:Type} {f:α->Option β}:∀{l:List α} {r:List β},cL f l=some r->r.length=l.length
 |[],_,h=>by cases h;rfl
 |a::l,r,h=>by
  obtain ⟨b,t,_,e2,rfl⟩:=fg h
  rw [List.length_cons,kN e2,List.length_cons]
theorem E5 (hK:T.K=X.K) {m:Str} {n:Nat} {b:Bm} (h:yM m n=some b):∃id,cx b=false/\Slot "list" m id/\typeOf (.builtin id)=pure (.type "method_descriptor")/\qp X id (vi T b):=by
 unfold yM at h
 split at h
 ·rename_i z;subst z;split at h<;>cases h;exact ⟨"list.append",rfl,PySem.F.slot_list_append,PySem.F.type_list_append,yl⟩
 split at h
 ·rename_i z;subst z;split at h<;>cases h;exact ⟨"list.extend",rfl,PySem.F.slot_list_extend,PySem.F.type_list_extend,yB⟩
 cases h
theorem xg (MO:MOk D P T M mg) (hc:∀i,FnOk P' w T.K mg base (cJ P' w) k (M.fa i) (M.fd i) (M.ps i) (dD T P m i)) (O:XOk T P' w mg base k g X) {f:Expr->Option PI.E} (ih:∀e ie,f e=some ie->gJ T P m X e ie)
  {x:Str} {ie:PI.E} (hz:(g.cm||iH x)=true) (h:oF x ap pos o es f=some ie) (E:XS):PE (X.ag (L4.XE X E)) (.Call (.Attribute o x ap) es [] pos) (tE T P (call P m) E ie):=by
 unfold oF at h
 obtain ⟨c,h⟩:=bW h
 simp only [Bool.and_eq_true,decide_eq_true_eq] at c
 obtain ⟨⟨⟨c1,c2⟩,c3⟩,c4⟩:=c
 obtain ⟨io,e1,h⟩:=Option.bind_eq_some_iff.mp h
 obtain ⟨ies,e2,h⟩:=Option.bind_eq_some_iff.mp h
 have ho:=(ih o io e1 E).1
 have A:=gT ih E c2 e2
 have hu:X.A.units+1<cLine:=by have:=O.un;lia
 have tr:∀{e:Expr},notStar e=true->backTo pos (starEach [e] X.env)=[(false,eval e X.env)]:=fun {e} he=>by
  rw [aW he]
  rfl
 by_cases zb:iH x=true
 ·rw [if_pos zb] at h
  by_cases zg:x="get"
  ·subst zg
   rw [if_pos rfl] at h
   match ies,h with
   |[k1],h=>
    cases h
    match es,e2,c2,c4 with
    |[e],e2,c2,c4=>
     obtain ⟨b,t,e3,_,e5⟩:=fg e2
     cases e5
     have c2':=c2
     rw [List.all_cons,Bool.and_eq_true] at c2'
     exact Eh (X:=X.ag (L4.XE X E)) hu ho (ih e k1 e3 E).1 ⟨dZ c1,qQ c2 c4,c3,tr c2'.1⟩
    |[],e2,_,_=>cases e2
    |_::_::_,e2,_,_=>have:=kN e2;simp at this
   |[k1,k2],h=>
    cases h
    match es,e2,c2,c4 with
    |[e,e'],e2,c2,c4=>
     obtain ⟨b,t,e3,e4,e5⟩:=fg e2
     cases e5
     obtain ⟨b,t,e6,_,e7⟩:=fg e4
     cases e7
     have c2':=c2
     rw [List.all_cons,List.all_cons,Bool.and_eq_true,Bool.and_eq_true] at c2'
     refine Ec (X:=X.ag (L4.XE X E)) hu ho (ih e k1 e3 E).1 (ih e' k2 e6 E).1 ⟨dZ c1,qQ c2 c4,c3, ?_⟩
     show backTo pos (starEach [e,e'] X.env)=_
     rw [aW c2'.1,aW c2'.2.1]
     rfl
    |[],e2,_,_=>cases e2
    |[_],e2,_,_=>have:=kN e2;simp at this
    |_::_::_::_,e2,_,_=>have:=kN e2;simp at this
   |[],h=>cases h
   |_::_::_::_,h=>cases h
  ·rw [if_neg zg] at h
   obtain ⟨b,e3,rfl⟩:=Option.map_eq_some_iff.mp h
   obtain ⟨id,b1,b2,b3,b4⟩:=E5 (X:=X.ag (L4.XE X E)) O.K e3
   cases es with
   |nil=>
    cases e2
    exact FH (X:=X.ag (L4.XE X E)) b1 O.K b2 b3 b4 ho (dZ c1) c3
   |cons e es=>
    have c2':=c2
    rw [List.all_cons,Bool.and_eq_true] at c2'
    exact Hw (X:=X.ag (L4.XE X E)) b1 O.K b2 b3 b4 ho A (dZ c1) (qQ c2 c4) c3 (aW c2'.1) (dv c2'.2)
 ·rw [if_neg zb] at h
  cases h
  have zc:g.cm=true:=by
   rcases Bool.or_eq_true _ _|>.mp hz with z|z
   ·exact z
   ·exact absurd z zb
  have hM:tf T P X k m x:=fun c k' fi q1 q2=>by
   obtain ⟨m1,m2,m3⟩:=MO.mt x c k' fi q1 q2
   have F:=hc fi
   rw [←O.prog,←O.w,←O.mg,←O.base,O.K] at F
   exact ⟨m1,_,_,_,O.K▸m2,F,O.K▸m3⟩
  cases es with
  |nil=>
   cases e2
   exact A7 O.K MO.cls hM ((O.room zc).mono (by lia)) O.hx ho (rN (dZ c1) (sg c2 c4) c3)
  |cons e es=>
   have c2':=c2
   rw [List.all_cons,Bool.and_eq_true] at c2'
   exact DM O.K MO.cls hM ((O.room zc).mono (by lia)) O.hx ho A (aW c2'.1) (dv c2'.2) (rN (dZ c1) (sg c2 c4) c3)
end
end PI
namespace PI
open PySem PySem.Spec L2 L2.L3 L2.L4 PySem.SeqAt
open PyProof.Rows hiding St lobj
section
variable {T:CT} {P:Pg} {D:Dt} {M:Md} {P':Program} {w:World} {mg:Str->Option Value} {base:Heap} {k m:Nat}
theorem wX (MO:MOk D P T M mg) (hc:∀i,FnOk P' w T.K mg base (cJ P' w) k (M.fa i) (M.fd i) (M.ps i) (dD T P m i)) {g:Gm} {X:Cx} (O:XOk T P' w mg base k g X) {f:Expr->Option PI.E} (ih:∀e ie,f e=some ie->gJ T P m X e ie) {x:Str} {p:Pos} {ks:List Keyword} {ie:PI.E} (h:tq D g x f es ks=some ie) (E:XS):
  PE (X.ag (L4.XE X E)) (.Call (.Name x p) es ks pos) (tE T P (call P m) E ie):=by
 unfold tq at h
 split at h
 ·rename_i a kn y p2 kpos
  obtain ⟨c,h9⟩:=bW h
  clear h
  simp only [Bool.and_eq_true] at c
  obtain ⟨⟨⟨⟨⟨c1,c2⟩,c3⟩,c4⟩,c5⟩,c6⟩:=c
  have ex:x="sorted":=by simpa [isSort] using c1
  have ek:kn="key":=by simpa using c2
  subst ex ek
  cases z:g.gv D y with
  |none=>rw [z] at h9;cases h9
  |some v=>
   rw [z] at h9
   cases v with
   |fn i=>
    obtain ⟨ia,e1,rfl⟩:=Option.map_eq_some_iff.mp (show (f a).map (fun a=>PI.E.sortK a i)=some ie from h9)
    obtain ⟨z1,z2⟩:=oH z
    obtain ⟨g1,g2,g3⟩:=O.gb z1
    obtain ⟨f1,f2,f3⟩:=MO.fn y i z2
    have F:=hc i
    rw [←O.prog,←O.w,←O.mg,←O.base,O.K] at F
    exact BG O.K F ((O.room c6).mono (by lia)) (O.K▸f3) (O.gb c4).1 (by rw [O.mg];exact MO.fr _ c5) g1 (O.mg▸f1) (ih a ia e1 E).1 g2 c3
   |cls _ _=>cases h9
   |err _=>cases h9
   |val _=>cases h9
 ·cases h
theorem lM {g:Gm} {n:Nat} {gens:List Comprehension} (h:cE D (n+1) g (.ListComp elt gens sc pos)=some ie):∃tg iter ifs g' q t c ee,gens=[⟨tg,iter,ifs,0⟩]/\dR iter=true/\g.block sc=some g'/\cQ D n g iter=some q/\sP q tg=true/\jQ g' n tg=some t/\cE D n g' elt=some ee/\
  xi (cE D n g') ifs=some c/\ie= .comp (oX sc).length (gI g.N sc) t q c ee:=by
 obtain ⟨c,o,h⟩:=Option.bind_eq_some_iff.mp (show ((pX gens).bind fun c=>_)=some ie from h)
 obtain rfl:gens=[c]:=by
  unfold pX at o
  split at o<;>cases o
  rfl
 obtain ⟨tg,iter,ifs,as⟩:=c
 obtain ⟨z,h⟩:=bW (show (if (as==0&&dR iter)=true then _ else none)=some ie from h)
 rw [Bool.and_eq_true,beq_iff_eq] at z
 obtain ⟨rfl,z⟩:=z
 obtain ⟨g',b1,h⟩:=Option.bind_eq_some_iff.mp h
 obtain ⟨q,b2,h⟩:=Option.bind_eq_some_iff.mp h
 obtain ⟨t,b3,h⟩:=Option.bind_eq_some_iff.mp h
 obtain ⟨b0,b3⟩:=bW b3
 obtain ⟨ee,b4,h⟩:=Option.bind_eq_some_iff.mp h
 obtain ⟨c,b5,rfl⟩:=Option.map_eq_some_iff.mp h
 exact ⟨tg,iter,ifs,g',q,t,c,ee,rfl,z,b1,b2,b0,b3,b4,b5,rfl⟩
theorem rM {X:Cx} {f:Expr->Option PI.E} (ih:∀e ie,f e=some ie->gJ T P m X e ie) {c:Option PI.E} (h:xi f ifs=some c) (E:XS):jV (X.ag (L4.XE X E)) ifs (tO T P (call P m) E c):=by
 cases ifs with
 |nil=>
  cases h
  exact Cn
 |cons f' r=>cases r with
  |cons _ _=>cases h
  |nil=>
   obtain ⟨c1,b6⟩:=bW (show (if dh f'=true then (f f').map some else none)=some c from h)
   obtain ⟨x,e1,rfl⟩:=Option.map_eq_some_iff.mp b6
   exact DC ((ih f' x e1 E).2 c1)
theorem yZ {g:Gm} {X:Cx} (O:XOk T P' w mg base k g X) {n:Nat} (ihE:∀(g:Gm) (X:Cx) (e:Expr) (ie:PI.E),XOk T P' w mg base k g X->cE D n g e=some ie->gJ T P m X e ie)
  (ihQ:∀(g:Gm) (X:Cx) (e:Expr) (q:PI.Q),XOk T P' w mg base k g X->cQ D n g e=some q->∀(E:XS) (tg:Expr),sP q tg=true->L2.PI (X.ag (L4.XE X E)) tg e (tQ T P (call P m) E q))
  {gens:List Comprehension} (h:cE D (n+1) g (.ListComp elt gens sc pos)=some ie) (E:XS):PE (X.ag (L4.XE X E)) (.ListComp elt gens sc pos) (tE T P (call P m) E ie):=by
 obtain ⟨tg,iter,ifs,g',q,t,c,ee,rfl,z,b1,b2,b0,b3,b4,b5,rfl⟩:=lM h
 obtain ⟨k0,k1,k2,k3⟩:=O.block b1
 exact CV O.fm O.hx k1 k0 k2 (ihQ g X iter q O b2 E tg b0) (fun σ own C fp pn s H hh=>oM (k3 own C fp pn s H hh) n tg t _ b3) (fun σ own C fp pn s H hh=>rM (fun e ie=>ihE g' _ e ie (k3 own C fp pn s H hh)) b5 _) (fun σ own C fp pn s H hh=>(ihE g' _ elt ee (k3 own C fp pn s H hh) b4 _).1) (qz z)
theorem Ac (MO:MOk D P T M mg) (hc:∀i,FnOk P' w T.K mg base (cJ P' w) k (M.fa i) (M.fd i) (M.ps i) (dD T P m i)):∀n:Nat,
  (∀(g:Gm) (X:Cx) (e:Expr) (ie:PI.E),XOk T P' w mg base k g X->cE D n g e=some ie->gJ T P m X e ie)/\
  (∀(g:Gm) (X:Cx) (e:Expr) (q:PI.Q),XOk T P' w mg base k g X->cQ D n g e=some q->∀(E:XS) (tg:Expr),sP q tg=true->L2.PI (X.ag (L4.XE X E)) tg e (tQ T P (call P m) E q)):=by
 intro n
 induction n with
 |zero=>exact ⟨fun g X e ie _ h=>(by cases h),fun g X e q _ h=>(by cases h)⟩
 |succ n' ih=>
  obtain ⟨ihE,ihQ⟩:=ih
  have stepE:∀(g:Gm) (X:Cx) (e:Expr) (ie:PI.E),XOk T P' w mg base k g X->cE D (n'+1) g e=some ie->gJ T P m X e ie:=by
   intro g X e ie O h
   have ihs:∀e ie,cE D n' g e=some ie->gJ T P m X e ie:=fun e ie q=>ihE g X e ie O q
   cases e with
   |Constant c j pos=>
    cases c<;>first|(cases h;done)|skip
    ·cases h;exact bp O (fun E=>Gs) fun _=>rfl
    ·cases h;exact bp O (fun E=>IX) fun _=>rfl
    ·cases h;exact bp O (fun E=>Fh) fun _=>rfl
    ·cases h;exact bp O (fun E=>E8) fun _=>rfl
   |Name x pos=>
    replace h:(match g.ix x with|some i=>some (PI.E.var i)|none=>Al D g x)=some ie:=h
    cases e1:g.ix x with
    |some i=>
     rw [e1] at h
     cases h
     obtain ⟨h1,h2,h3,h4⟩:=O.ix e1
     exact bp O (fun E=>Gk (X:=X.ag (L4.XE X E)) h1 h2 h3 h4) fun _=>rfl
    |none=>
     rw [e1] at h
     replace h:Al D g x=some ie:=h
     unfold Al at h
     split at h
     ·rename_i v z
      cases h
      obtain ⟨z1,z2⟩:=oH z
      obtain ⟨g1,g2,g3⟩:=O.gb z1
      obtain ⟨u,uv,m1,m2,m3⟩:=MO.va x v z2
      exact bp O (fun E=>Cg (X:=X.ag (L4.XE X E)) g1 (by show X.mg x=_;rw [O.mg];exact m1) m2 m3 g2) fun _=>rfl
     ·cases h
   |Dict ks vs pos=>
    cases ks with
    |cons _ _=>cases h
    |nil=>cases vs with
     |cons _ _=>cases h
     |nil=>
      cases h
      exact bp O (fun E=>Ds) fun _=>rfl
   |BinOp a op b pos=>
    obtain ⟨z,h⟩:=bW (show (if zf op=true then (cE D n' g a).bind fun a=>(cE D n' g b).map fun b=>PI.E.bin op a b else none)=some ie from h)
    obtain ⟨x,y,e1,e2,rfl⟩:=eq2 h
    exact bp O (fun E=>JK (Fy (X:=X.ag (L4.XE X E)) O.K z) (ihs a x e1 E).1 (ihs b y e2 E).1) fun _=>rfl
   |UnaryOp op a pos=>
    obtain ⟨z,h⟩:=bW (show (if dh a=true then (cE D n' g a).bind fun a=>cUn op a else none)=some ie from h)
    obtain ⟨x,e1,e2⟩:=Option.bind_eq_some_iff.mp h
    cases op<;>first|(cases e2;done)|skip
    cases e2
    exact fun E=>⟨Fs (ihs a x e1 E).1,fun _=>FP ((ihs a x e1 E).2 z)⟩
   |BoolOp op vs pos=>
    obtain ⟨z,h⟩:=bW (show (if vs.all dh=true then cBool op (cE D n' g) vs else none)=some ie from h)
    exact fun E=>⟨(kq ihs E z h).1,fun _=>(kq ihs E z h).2.pt⟩
   |Compare a ops bs pos=>
    have hu:X.A.units+9<cLine:=by have:=O.un;lia
    match ops,bs,h with
    |[op],[b],h=>
     obtain ⟨z,h⟩:=bW (show (if dR b=true then (cE D n' g a).bind fun a=>(cE D n' g b).map fun b=>PI.E.cmp op a b else none)=some ie from h)
     obtain ⟨x,y,e1,e2,rfl⟩:=eq2 h
     exact fun E=>⟨Hz (z8 (X:=X.ag (L4.XE X E)) O.K hu) (rQ z) (ihs a x e1 E).1 (ihs b y e2 E).1,fun _=>Ga (z8 (X:=X.ag (L4.XE X E)) O.K hu) (rQ z) (ihs a x e1 E).1 (ihs b y e2 E).1⟩
    |[_,_],[_,_],h=>cases h
    |[],_,h=>cases h
    |[_],[],h=>cases h
    |[_],_::_::_,h=>cases h
    |[_,_],[],h=>cases h
    |[_,_],[_],h=>cases h
    |[_,_],_::_::_::_,h=>cases h
    |_::_::_::_,_,h=>cases h
   |IfExp c a b pos=>cases h
   |Tuple es j pos=>
    obtain ⟨z,h⟩:=bW (show (if es.all notStar=true then (cL (cE D n' g) es).map PI.E.tup else none)=some ie from h)
    obtain ⟨ies,e1,rfl⟩:=Option.map_eq_some_iff.mp h
    exact bp O (fun E=>Gn (gT ihs E z e1)) fun _=>rfl
   |List es pos=>
    obtain ⟨z,h⟩:=bW (show (if es.all notStar=true then (cL (cE D n' g) es).map PI.E.lst else none)=some ie from h)
    obtain ⟨ies,e1,rfl⟩:=Option.map_eq_some_iff.mp h
    exact bp O (fun E=>Ff (gT ihs E z e1)) fun _=>rfl
   |Attribute o f pos=>
    obtain ⟨z,h⟩:=bW (show (if (iz o&&D.fx.contains f)=true then (cE D n' g o).map fun o=>PI.E.fld o f else none)=some ie from h)
    obtain ⟨x,e1,rfl⟩:=Option.map_eq_some_iff.mp h
    rw [Bool.and_eq_true] at z
    exact bp O (fun E=>Fu (X:=X.ag (L4.XE X E)) O.K MO.cls (ihs o x e1 E).1 (dZ z.1) (MO.fx f z.2)) fun _=>rfl
   |Subscript o i pos=>
    refine bp O (fun E=> ?_) fun _=>rfl
    replace h:DJ (cE D n' g) o i=some ie:=h
    have plain:eA i=true->((cE D n' g o).bind fun o=>(cE D n' g i).map fun i=>PI.E.idx o i)=some ie->PE (X.ag (L4.XE X E)) (.Subscript o i pos) (tE T P (call P m) E ie):=fun z h=>by
     obtain ⟨x,y,e1,e2,rfl⟩:=eq2 h
     exact FE (X:=X.ag (L4.XE X E)) O.K (by have:=O.un;show X.A.units+1<cLine;lia) (ihs o x e1 E).1 (ihs i y e2 E).1 (zh z)
    cases i with
    |Slice lo hi st p2=>cases st with
     |some _=>cases h
     |none=>
      obtain ⟨x,e1,h⟩:=Option.bind_eq_some_iff.mp (show ((cE D n' g o).bind fun o=>_)=some ie from h)
      cases lo with
      |none=>cases hi with
       |none=>
        cases h
        exact oz (X:=X.ag (L4.XE X E)) O.K (ihs o x e1 E).1 t5 t5
       |some b=>
        obtain ⟨y,e2,rfl⟩:=Option.map_eq_some_iff.mp h
        exact oz (X:=X.ag (L4.XE X E)) O.K (ihs o x e1 E).1 t5 (tU (ihs b y e2 E).1)
      |some a=>cases hi with
       |none=>
        obtain ⟨y,e2,rfl⟩:=Option.map_eq_some_iff.mp h
        exact oz (X:=X.ag (L4.XE X E)) O.K (ihs o x e1 E).1 (tU (ihs a y e2 E).1) t5
       |some b=>
        obtain ⟨y,z,e2,e3,rfl⟩:=eq2 h
        exact oz (X:=X.ag (L4.XE X E)) O.K (ihs o x e1 E).1 (tU (ihs a y e2 E).1) (tU (ihs b z e3 E).1)
    |_=>exact plain rfl h
   |Call f es ks pos=>
    cases f<;>first|(cases h;done)|skip
    ·rename_i o x ap
     cases ks with
     |cons _ _=>cases h
     |nil=>
      obtain ⟨hz,h⟩:=bW (show (if (g.cm||iH x)=true then oF x ap pos o es (cE D n' g) else none)=some ie from h)
      exact bp O (fun E=>xg MO hc O ihs hz h E) fun _=>rfl
    rename_i x p
    cases ks with
    |cons kw ks=>exact bp O (fun E=>wX MO hc O ihs h E) fun _=>rfl
    |nil=>
     replace h:(if qg x=true then z6 D g x (cE D n' g) es else if g.cm=true then oO D g x es (cE D n' g) else none)=some ie:=h
     ·split at h
      ·rename_i zx
       have ex:x="dict":=by simpa [qg] using zx
       subst ex
       cases es with
       |nil=>cases h
       |cons a r=>cases r with
        |cons _ _=>cases h
        |nil=>
         obtain ⟨c,h⟩:=bW (show (if (notStar a&&g.gb "dict"&&D.fr.contains "dict"&&g.cm)=true then (cE D n' g a).map PI.E.dOf else none)=some ie from h)
         simp only [Bool.and_eq_true] at c
         obtain ⟨⟨⟨c1,c2⟩,c3⟩,c4⟩:=c
         obtain ⟨y,e1,rfl⟩:=Option.map_eq_some_iff.mp h
         exact bp O (fun E=>E9 (X:=X.ag (L4.XE X E)) (O.calm c4) (by have:=O.un;show X.A.units+2<cLine;lia) (O.gb c2).1 (by show X.mg "dict"=none;rw [O.mg];exact MO.fr _ c3) (ihs a y e1 E).1 c1) fun _=>rfl
      ·obtain ⟨zc,h⟩:=bW h
       exact bp O (fun E=>xh MO hc O ihs zc h E) fun _=>rfl
   |ListComp elt gens sc pos=>
    exact bp O (fun E=>yZ O ihE ihQ h E) fun _=>rfl
   |_=>cases h
  refine ⟨stepE,fun g X e q O h E tg ht=> ?_⟩
  have ihs:∀e ie,cE D n' g e=some ie->gJ T P m X e ie:=fun e ie q=>ihE g X e ie O q
  have val:(cE D n' g e).map PI.Q.val=some q->L2.PI (X.ag (L4.XE X E)) tg e (tQ T P (call P m) E q):=fun h=>by
   obtain ⟨x,e1,rfl⟩:=Option.map_eq_some_iff.mp h
   exact Fi (X:=X.ag (L4.XE X E)) O.K (ihs e x e1 E).1
  cases e with
  |Call f es ks pos=>
   cases f<;>first|exact val h|skip
   rename_i x p
   cases ks with
   |cons _ _=>exact val h
   |nil=>
    replace h:(if jx x=true then C9 D g x (cE D n' g) es else if oN x=true then Cc D g x (cE D n' g) es else (cE D n' g (.Call (.Name x p) es [] pos)).map PI.Q.val)=some q:=h
    by_cases zx:jx x=true
    ·have ex:x="range":=by simpa [jx] using zx
     rw [if_pos zx] at h
     subst ex
     cases es with
     |nil=>cases h
     |cons a r=>cases r with
      |nil=>
       obtain ⟨c,h⟩:=bW h
       simp only [Bool.and_eq_true] at c
       obtain ⟨⟨c1,c2⟩,c3⟩:=c
       obtain ⟨x,e1,rfl⟩:=Option.map_eq_some_iff.mp h
       exact Di (X:=X.ag (L4.XE X E)) (O.gb c1).1 (by show X.mg "range"=none;rw [O.mg];exact MO.fr _ c2) (iZ (ihs a x e1 E).1 oB (aW c3)) (aW c3)
      |cons b r=>cases r with
       |cons _ _=>cases h
       |nil=>
        obtain ⟨c,h⟩:=bW h
        simp only [Bool.and_eq_true] at c
        obtain ⟨⟨⟨c1,c2⟩,c3⟩,c4⟩:=c
        obtain ⟨x,y,e1,e2,rfl⟩:=eq2 h
        refine Dd (X:=X.ag (L4.XE X E)) (O.gb c1).1 (by show X.mg "range"=none;rw [O.mg];exact MO.fr _ c2) (iZ (ihs a x e1 E).1 (iZ (ihs b y e2 E).1 oB (aW c4)) (aW c3)) ?_ (aW c4)
        show starEach [a,b] X.env=_
        rw [aW c3,aW c4]
        rfl
    rw [if_neg zx] at h
    by_cases ze:oN x=true
    ·have ex:x="enumerate":=by simpa [oN] using ze
     rw [if_pos ze] at h
     subst ex
     cases es with
     |nil=>cases h
     |cons a r=>cases r with
      |cons _ _=>cases h
      |nil=>
       obtain ⟨c,h⟩:=bW h
       simp only [Bool.and_eq_true] at c
       obtain ⟨⟨c1,c2⟩,c3⟩:=c
       obtain ⟨x,e1,rfl⟩:=Option.map_eq_some_iff.mp h
       cases tg<;>first|(cases ht;done)|skip
       exact EM (X:=X.ag (L4.XE X E)) O.K (O.gb c1).1 (by show X.mg "enumerate"=none;rw [O.mg];exact MO.fr _ c2) (iZ (ihs a x e1 E).1 oB (aW c3)) (aW c3)
    rw [if_neg ze] at h
    exact val h
  |_=>exact val h
end
end PI
namespace PI
open PySem PySem.Spec L2 L2.L3 L2.L4 PySem.SeqAt
open PyProof.Rows hiding St lobj
section
variable {T:CT} {P:Pg} {D:Dt} {M:Md} {P':Program} {w:World} {mg:Str->Option Value} {base:Heap} {k m:Nat}
theorem xI {g:Gm} {X:Cx} (O:XOk T P' w mg base k g X) {gens:List Comprehension} {sc:Scope} {cpos py:Pos} {x:Str} {line:Nat}:
  swapsWith (.ListComp elt gens sc cpos) (some (.Name x py)) line X.env=pure (g.sc.kind== .function&&g.sc.names.lookup x==some .local&&py.line==cpos.line&& !(sc.names.any fun (n,k)=>n==x&&(k== .local||k== .cell))):=by
 have b:X.env.blockKind= .function:=by
  unfold Env.blockKind
  rw [O.sc,O.kd]
  rfl
 show pure (X.env.blockKind== .function&&X.env.scope.names.lookup x==some .local&&py.line==cpos.line&& !(sc.names.any fun (n,k)=>n==x&&(k== .local||k== .cell)))=_
 rw [b,O.sc,O.kd]
theorem FO (MO:MOk D P T M mg) (hc:∀i,FnOk P' w T.K mg base (cJ P' w) k (M.fa i) (M.fd i) (M.ps i) (dD T P m i)):∀n:Nat,
  (∀(g:Gm) (X:Cx) (s:Stmt) (is:PI.S),XOk T P' w mg base k g X->cS D n g s=some is->∀E:XS,PS (X.ag (L4.XE X E)) s (tS T P (call P m) E is))/\
  (∀(g:Gm) (X:Cx) (ss:List Stmt) (iss:List PI.S),XOk T P' w mg base k g X->i8 D n g ss=some iss->∀E:XS,di (X.ag (L4.XE X E)) ss (nW T P (call P m) E iss)):=by
 intro n
 induction n with
 |zero=>exact ⟨fun g X s is _ h=>(by cases h),fun g X ss iss _ h=>(by cases h)⟩
 |succ n ih=>
  obtain ⟨ihS,ihSs⟩:=ih
  obtain ⟨sE,sQ⟩:=Ac MO hc n
  refine ⟨fun g X s is O h E=> ?_,fun g X ss iss O h E=> ?_⟩
  ·have ihs:∀e ie,cE D n g e=some ie->gJ T P m X e ie:=fun e ie q=>sE g X e ie O q
   cases s with
   |Return v pos=>cases v with
    |none=>
     cases h
     exact Ey
    |some e=>
     obtain ⟨x,e1,rfl⟩:=Option.map_eq_some_iff.mp (show (cE D n g e).map PI.S.ret=some is from h)
     exact ET (ihs e x e1 E).1
   |Expr e pos=>
    obtain ⟨z,h⟩:=bW (show (if dz e=true then (cE D n g e).map PI.S.expr else none)=some is from h)
    obtain ⟨x,e1,rfl⟩:=Option.map_eq_some_iff.mp h
    exact Er (ihs e x e1 E).1 (sH z)
   |If c a b pos=>
    obtain ⟨z,h⟩:=bW (show (if dh c=true then (cE D n g c).bind fun c=>(i8 D n g a).bind fun a=>(i8 D n g b).map fun b=>PI.S.ife c a b else none)=some is from h)
    obtain ⟨x,y,y',e1,e2,e3,rfl⟩:=eq3 h
    exact Kc ((ihs c x e1 E).2 z) (ihSs g X a y O e2 E) (ihSs g X b y' O e3 E)
   |For tg it b els pos=>cases els with
    |cons _ _=>cases h
    |nil=>
     obtain ⟨z,h⟩:=bW (show (if (dR it&&g.cm)=true then (cQ D n g it).bind fun q=>(if sP q tg=true then jQ g n tg else none).bind fun t=>(i8 D n g b).map fun b=>PI.S.for t q b else none)=some is from h)
     obtain ⟨q,t,y,e1,e2,e3,rfl⟩:=eq3 h
     obtain ⟨e0,e2⟩:=bW e2
     rw [Bool.and_eq_true] at z
     exact FX O.fm O.hx (O.calm z.2) (sQ g X it q O e1 E tg e0) (oM O n tg t E e2) (ihSs g X b y O e3 E) (qz z.1)
   |Assign tgs e pos=>cases tgs with
    |nil=>cases h
    |cons t r=>cases r with
     |cons _ _=>cases t<;>cases h
     |nil=>
      cases t<;>first|(cases h;done)|skip
      ·rename_i o f tp
       obtain ⟨z,h⟩:=bW (show (if (dz e&&D.fx.contains f)=true then (cE D n g o).bind fun o=>(cE D n g e).map fun e=>PI.S.cN o f (Ez (D.ff.contains f) e) else none)=some is from h)
       obtain ⟨x,y,e1,e2,rfl⟩:=eq2 h
       rw [Bool.and_eq_true] at z
       have hz:PE (X.ag (L4.XE X E)) e (tE T P (call P m) E (Ez (D.ff.contains f) y)):=by
        cases D.ff.contains f with
        |true=>exact Iv (ihs e y e2 E).1
        |false=>exact (ihs e y e2 E).1
       exact DN (X:=X.ag (L4.XE X E)) O.K MO.cls (MO.fx f z.2) (ihs o x e1 E).1 hz (sH z.1)
      ·rename_i o i tp
       obtain ⟨z,h⟩:=bW (show (if (eA i&&dz e)=true then (cE D n g o).bind fun o=>(cE D n g i).bind fun i=>(cE D n g e).map fun e=>PI.S.eT o i e else none)=some is from h)
       obtain ⟨x,y,y',e1,e2,e3,rfl⟩:=eq3 h
       rw [Bool.and_eq_true] at z
       exact CL (X:=X.ag (L4.XE X E)) (by have:=O.un;show X.A.units+1<cLine;lia) (ihs o x e1 E).1 (ihs i y e2 E).1 (ihs e y' e3 E).1 z.1 z.2
      ·rename_i x py
       obtain ⟨i,ie,e1,e2,rfl⟩:=eq2 (show ((g.lx x).bind fun i=>(cE D n g e).map fun e=>PI.S.set (.var i) e)=some is from h)
       obtain ⟨h1,h2,h3⟩:=O.lx e1
       have nd:X.N.Nodup:=by rw [O.N];exact O.nd
       have std:swapsWith e (some (.Name x py)) pos.line X.env=pure false->PS (X.ag (L4.XE X E)) (.Assign [.Name x py] e pos) (tS T P (call P m) E (.set (.var i) ie)):=fun q=>Ge (X:=X.ag (L4.XE X E)) nd h1 h2 (ihs e ie e2 E).1 q h3
       cases e<;>first|exact std rfl|(cases n<;>cases e2;done)|skip
       rename_i elt gens sc cpos
       have sw:=xI (elt:=elt) (gens:=gens) (sc:=sc) (cpos:=cpos) (py:=py) (x:=x) (line:=pos.line) O
       cases n with
       |zero=>cases e2
       |succ n=>
        obtain ⟨sE',sQ'⟩:=Ac MO hc n
        cases eb:(g.sc.kind== .function&&g.sc.names.lookup x==some .local&&py.line==cpos.line&& !(sc.names.any fun (n,k)=>n==x&&(k== .local||k== .cell))) with
        |false=>exact std (by rw [sw,eb])
        |true=>
         rw [eb] at sw
         have hl:X.env.scope.names.lookup x=some .local:=by
          simp only [Bool.and_eq_true,beq_iff_eq] at eb
          rw [O.sc]
          exact eb.1.1.2
         obtain ⟨tg,iter,ifs,g',q,t,c,ee,rfl,z,b1,b2,b0,b3,b4,b5,rfl⟩:=lM e2
         obtain ⟨k0,k1,k2,k3⟩:=O.block b1
         exact Ef O.fm O.hx k1 k0 k2 nd h1 hl (sQ' g X iter q O b2 E tg b0) (fun σ own C fp pn s H hh=>oM (k3 own C fp pn s H hh) n tg t _ b3) (fun σ own C fp pn s H hh=>rM (fun e ie=>sE' g' _ e ie (k3 own C fp pn s H hh)) b5 _) (fun σ own C fp pn s H hh=>(sE' g' _ elt ee (k3 own C fp pn s H hh) b4 _).1) sw (qz z)
      ·rename_i tes tk tp
       obtain ⟨z,h⟩:=bW (show (if vM e=true then (jQ g n (.Tuple tes tk tp)).bind fun t=>(cE D n g e).map fun e=>PI.S.set t e else none)=some is from h)
       obtain ⟨t,ie,e1,e2,rfl⟩:=eq2 h
       exact DY (X:=X.ag (L4.XE X E)) (ihs e ie e2 E).1 (oM O n _ t E e1) (by cases e<;>rfl) (by cases e<;>first|rfl|cases z) rfl
   |Raise exc cause pos=>
    cases h
    intro pins s σ H D I q
    obtain ⟨env,st,as,G,s2,er,q⟩:=q
    exact q.elim
   |_=>cases h
  ·cases ss with
   |nil=>
    cases h
    exact Dr
   |cons s r=>
    obtain ⟨x,y,e1,e2,rfl⟩:=eq2 (show ((cS D n g s).bind fun s=>(i8 D n g r).map fun r=>s::r)=some iss from h)
    exact A8 (ihS g X s x O e1 E) (ihSs g X r y O e2 E)
structure DOk (D:Dt) (P:Pg) (T:CT) (M:Md) (base:Heap) (mg:Str->Option Value):Prop where
 def_:∀i d,P.fn i=some d->∃(x qual:Str) (st:Stmt),Fun T.K x qual st (M.fa i) (M.fd i)/\FnScope (jt (M.ps i) (ax st)) (M.ps i) (ax st)/\sU D (M.ps i) (ax st) (bg st)=some d
theorem Dq (MO:MOk D P T M mg) (DO:DOk D P T M base mg):∀(n:Nat) (i:Nat),FnOk P' w T.K mg base (cJ P' w) (4*n) (M.fa i) (M.fd i) (M.ps i) (dD T P n i):=by
 intro n
 induction n with
 |zero=>exact fun i=>⟨fun vs H Q E z904=>by obtain ⟨st,as,G,xs,s,r,h⟩:=z904;exact h.elim,fun A outer s H args us vs Q E _ _ _ _ z913=>by obtain ⟨st,as,G,xs,s',r,h⟩:=z913;exact h.elim⟩
 |succ n ih=>
  intro i
  cases e:P.fn i with
  |none=>
   have no:∀{as G xs st Q X},¬ae T as G (call P (n+1) i xs st) Q X:=fun {as G xs st Q X} h=>by
    unfold call at h
    rw [e] at h
    exact h
   exact ⟨fun vs H Q E z904=>by obtain ⟨st,as,G,xs,s,r,h⟩:=z904;exact (no h).elim,fun A outer s H args us vs Q E _ _ _ _ z913=>by obtain ⟨st,as,G,xs,s',r,h⟩:=z913;exact (no h).elim⟩
  |some d=>
   obtain ⟨x,qual,st,F,S,c⟩:=DO.def_ i d e
   obtain ⟨b,c1,rfl⟩:=Option.map_eq_some_iff.mp (show (i8 D 400 ⟨jt (M.ps i) (ax st),ax st,fun _=>true,true⟩ (bg st)).map (fun b=>(⟨(M.ps i).length,(jt (M.ps i) (ax st)).length,b⟩:Fn))=some d from c)
   refine F8 (k:=4*n+3) F S e rfl rfl fun cdv A outer s H E hr=> ?_
   refine (FO MO ih 400).2 ⟨jt (M.ps i) (ax st),ax st,fun _=>true,true⟩ _ _ _ ⟨rfl,S.nd,rfl,fun _ _=>rfl,S.kind,fmD,hxD,fun _=>rfl,rfl,rfl,rfl,rfl,rfl,fun _=>hr,by have:=hr.un;show (A.deeper (envOfC qual (ax st) s.heap.objs.size (M.fa i) cdv)).units+200<cLine;lia⟩ c1 _
end
end PI
namespace PI
open PySem PySem.Spec L2 L2.L3 L2.L4 PySem.SeqAt
open PyProof.Rows hiding St lobj
theorem zp (K:PySem.W.Frag):C5 K:=by
 intro a n ha hn
 simp only [List.mem_cons,List.not_mem_nil,or_false] at ha hn
 rcases ha with rfl|rfl|rfl|rfl|rfl|rfl|rfl<;>rcases hn with rfl|rfl|rfl|rfl|rfl|rfl<;>exact (by with_unfolding_all rfl)
end PI
namespace PI
open PySem PySem.Spec L2 L2.L3 L2.L4 PySem.SeqAt
open PyProof.Rows hiding St lobj
structure Df where
 i:Nat
 o:Option Str
 x:Str
 q:Str
 st:Stmt
 ps:List Str
noncomputable def jy (K:PySem.W.Frag) (x q:Str) (st:Stmt) (f:Addr):Prop:=∃(oc:Value) (od:Option Addr) (kV doc pm:Value) (an:Option Addr) (cdv ct:Value) (osl:Array (Option Value)),
 K.lookup f=some ⟨oc,od, .func (PySem.W.fnOf x q (cY st) (bg st) (ax st) .none kV doc pm an cdv ct),osl⟩/\PySem.W.codeIn K cdv q=true/\PySem.W.keepIn K (.ref f)=true
noncomputable def Eg (ps:List Str) (sc:Scope):Bool:=(sc.kind== .function)&& !sc.isCoroutine&& !sc.isGenerator&&iG (jt ps sc)&&(ps.all fun x=>tH sc x)&&(sc.names.all fun y=> !(y.2== .free))
theorem Fb {ps:List Str} (h:Eg ps sc=true):FnScope (jt ps sc) ps sc:=by
 unfold Eg at h
 simp only [Bool.and_eq_true,Bool.not_eq_true',beq_iff_eq,List.all_eq_true,beq_eq_false_iff_ne] at h
 obtain ⟨⟨⟨⟨⟨h1,h2⟩,h3⟩,h4⟩,h5⟩,h6⟩:=h
 refine ⟨h1,h2,h3,j6 h4, ?_,fun x hx=> ?_,h6⟩
 ·unfold jt
  simp
 ·have:=h5 x hx
  unfold tH at this
  simpa only [Bool.or_eq_true,beq_iff_eq] using this
structure DS (D:Dt) (d:Df):Prop where
 b:∀(kV doc pm:Value) (an:Option Addr) (cdv ct:Value) (us:List Value),us.length=d.ps.length->bindArgs (PySem.W.fnOf d.x d.q (cY d.st) (bg d.st) (ax d.st) .none kV doc pm an cdv ct) ⟨us,[]⟩=pure (d.ps.zip us)
 s:Eg d.ps (ax d.st)=true
 c:(sU D d.ps (ax d.st) (bg d.st)).isSome=true
noncomputable def dU (D:Dt) (ds:List Df) (cls:List (Nat×Cl)) (w:Nat):Pg:=⟨ds.map fun d=>(d.i,(sU D d.ps (ax d.st) (bg d.st)).getD ⟨0,0,[]⟩),cls,w⟩
theorem rX {D:Dt} {cls:List (Nat×Cl)} {w:Nat} {i:Nat} {f:Fn}:∀{ds:List Df},(dU D ds cls w).fn i=some f->∃d,ds.find? (fun d=>d.i==i)=some d/\d∈ds/\f=(sU D d.ps (ax d.st) (bg d.st)).getD ⟨0,0,[]⟩
 |[],h=>by cases h
 |d::ds,h=>by
  replace h:((d.i,(sU D d.ps (ax d.st) (bg d.st)).getD ⟨0,0,[]⟩)::ds.map fun d=>(d.i,(sU D d.ps (ax d.st) (bg d.st)).getD ⟨0,0,[]⟩)).lookup i=some f:=h
  rw [List.lookup_cons] at h
  cases e:(i==d.i) with
  |true=>
   rw [e] at h
   cases h
   refine ⟨d, ?_,List.mem_cons_self,rfl⟩
   rw [List.find?_cons,show (d.i==i)=true by simpa using (beq_iff_eq.mp e).symm]
  |false=>
   rw [e] at h
   obtain ⟨d',h1,h2,h3⟩:=rX (D:=D) (cls:=cls) (w:=w) (ds:=ds) h
   refine ⟨d', ?_,List.mem_cons_of_mem _ h2,h3⟩
   rw [List.find?_cons,show (d.i==i)=false by simpa using fun z=>(beq_eq_false_iff_ne.mp e) z.symm]
   exact h1
theorem build {K:PySem.W.Frag} {D:Dt} {ds:List Df} {fa:Nat->Addr} (h:∀i d,ds.find? (fun d=>d.i==i)=some d->jy K d.x d.q d.st (fa i)):∃M:Md,M.fa=fa/\∀i d,ds.find? (fun d=>d.i==i)=some d->M.ps i=d.ps/\Fun K d.x d.q d.st (fa i) (M.fd i):=by
 have ex:∀i,∃fd:FuncData,∀d,ds.find? (fun d=>d.i==i)=some d->Fun K d.x d.q d.st (fa i) fd:=fun i=>by
  cases e:ds.find? (fun d=>d.i==i) with
  |none=>exact ⟨PySem.W.fnOf "" "" ⟨[],[],none,[],[],none,[]⟩ [] ⟨.function,[],false,false,[]⟩ .none .none .none .none none .none .none,fun d z=>by cases z⟩
  |some d=>
   obtain ⟨oc,od,kV,doc,pm,an,cdv,ct,osl,l,c,k⟩:=h i d e
   exact ⟨_,fun d' z=>by cases z;exact CZ l c k⟩
 refine ⟨⟨fa,fun i=>Classical.choose (ex i),fun i=>((ds.find? (fun d=>d.i==i)).map (·.ps)).getD []⟩,rfl,fun i d e=>⟨?_,Classical.choose_spec (ex i) d e⟩⟩
 show ((ds.find? (fun d=>d.i==i)).map (·.ps)).getD []=d.ps
 rw [e]
 rfl
noncomputable def gp (K:PySem.W.Frag) (x:Str):Addr:=match PySem.W.nsIn K mainGlobals x with
 |some (some (.ref a))=>a
 |_=>0
noncomputable def fnAt (K:PySem.W.Frag) (C:Addr) (m:Str):Addr:=match PySem.W.findIn K (.ref C) m with
 |some (some (.ref a))=>a
 |_=>0
noncomputable def i9 (K:PySem.W.Frag) (d:Df):Addr:=match d.o with
 |none=>gp K d.x
 |some c=>fnAt K (gp K c) d.x
noncomputable def kc (K:PySem.W.Frag) (ds:List Df) (i:Nat):Addr:=((ds.find? fun d=>d.i==i).map (i9 K)).getD 0
noncomputable def bN (K:PySem.W.Frag) (cn:List (Nat×Str)) (c:Nat):Addr:=((cn.lookup c).map (gp K)).getD 0
theorem fh {K:PySem.W.Frag} {x:Str} {a:Addr} (h:PySem.W.nsIn K mainGlobals x=some (some (.ref a))):gp K x=a:=by
 unfold gp
 rw [h]
theorem rq {K:PySem.W.Frag} {C:Addr} {x:Str} {a:Addr} (h:PySem.W.findIn K (.ref C) x=some (some (.ref a))):fnAt K C x=a:=by
 unfold fnAt
 rw [h]
noncomputable def iW (K:PySem.W.Frag) (d:Df):Prop:=match d.o with
 |none=>∃f,PySem.W.nsIn K mainGlobals d.x=some (some (.ref f))/\jy K d.x d.q d.st f
 |some c=>∃C f,PySem.W.nsIn K mainGlobals c=some (some (.ref C))/\PySem.W.findIn K (.ref C) d.x=some (some (.ref f))/\jy K d.x d.q d.st f
theorem BJ {K:PySem.W.Frag} {d:Df} (h:iW K d):jy K d.x d.q d.st (i9 K d):=by
 unfold iW at h
 unfold i9
 split at h
 ·obtain ⟨f,e,q⟩:=h
  rename_i z
  show jy K d.x d.q d.st (gp K d.x)
  rw [fh e]
  exact q
 ·obtain ⟨C,f,e1,e2,q⟩:=h
  rename_i c z
  show jy K d.x d.q d.st (fnAt K (gp K c) d.x)
  rw [fh e1,rq e2]
  exact q
noncomputable def kI (K:PySem.W.Frag) (ds:List Df) (cls:List (Nat×Cl)) (cn:List (Nat×Str)) (xc:Nat->Bool):Str×Gv->Prop
 |(x, .fn i)=>∃d,ds.find? (fun d=>d.i==i)=some d/\d.o=none/\d.x=x
 |(x, .cls c b)=>∃C K',PySem.W.nsIn K mainGlobals x=some (some (.ref C))/\cn.lookup c=some x/\cls.lookup c=some K'/\xc c=false/\PySem.W.keepIn K (.ref C)=true/\PySem.W.makesIn K C=true/\
  (b=false->K'.init=none/\PySem.W.findIn K (.ref C) "__init__"=some (some (.builtin "object.__init__")))/\
  (b=true->∃fi d f,K'.init=some fi/\ds.find? (fun d=>d.i==fi)=some d/\d.o=some x/\d.x="__init__"/\PySem.W.findIn K (.ref C) "__init__"=some (some (.ref f))/\PySem.W.isFn K (.ref f)=true)
 |(x, .err c)=>∃C K',PySem.W.nsIn K mainGlobals x=some (some (.ref C))/\cn.lookup c=some x/\cls.lookup c=some K'/\K'.init=none/\xc c=true/\PySem.W.excIn K C Ao "ValueError.__new__"=true
 |(x, .val v)=>∃i tk,v= .int i/\PySem.W.nsIn K mainGlobals x=some (some (.int i tk))
noncomputable def qJ (K:PySem.W.Frag) (ds:List Df) (cn:List (Nat×Str)) (c:Nat) (p:Str×Nat):Prop:=∃x C f d y R,cn.lookup c=some x/\PySem.W.nsIn K mainGlobals x=some (some (.ref C))/\PySem.W.findIn K (.ref C) p.1=some (some (.ref f))/\PySem.W.isFn K (.ref f)=true/\
 ds.find? (fun d=>d.i==p.2)=some d/\d.o=some y/\d.x=p.1/\PySem.W.nsIn K mainGlobals y=some (some (.ref R))/\PySem.W.findIn K (.ref R) p.1=some (some (.ref f))
theorem eD {α:Type} {x:Str} {v:α}:∀{l:List (Str×α)},l.lookup x=some v->(x,v)∈l
 |[],h=>by cases h
 |(y,w)::r,h=>by
  rw [List.lookup_cons] at h
  split at h
  ·rename_i e
   cases h
   rw [eq_of_beq e]
   exact List.mem_cons_self
  ·exact List.mem_cons_of_mem _ (eD h)
section
variable {K:PySem.W.Frag} {D:Dt} {ds:List Df} {cls:List (Nat×Cl)} {cn:List (Nat×Str)} {w:Nat} {xc:Nat->Bool} {mg:Str->Option Value} {h:Heap} {M:Md}
theorem kX {i:Nat} {d:Df} (e:ds.find? (fun d=>d.i==i)=some d):kc K ds i=i9 K d:=by
 unfold kc
 rw [e]
 rfl
theorem k5 {c:Nat} {x:Str} {C:Addr} (e:cn.lookup c=some x) (h:PySem.W.nsIn K mainGlobals x=some (some (.ref C))):bN K cn c=C:=by
 unfold bN
 rw [e]
 exact fh h
theorem ve {d:Df} {x:Str} {C f:Addr} (o:d.o=some x) (h:PySem.W.nsIn K mainGlobals x=some (some (.ref C))) (h2:PySem.W.findIn K (.ref C) d.x=some (some (.ref f))):i9 K d=f:=by
 unfold i9
 rw [o]
 show fnAt K (gp K x) d.x=f
 rw [fh h,rq h2]
theorem DT (X:K.In h) (G:h.Ns mainGlobals mg) (hD:∀d∈ds,iW K d) (hM:M.fa=kc K ds) (hF:∀i d,ds.find? (fun d=>d.i==i)=some d->M.ps i=d.ps/\Fun K d.x d.q d.st (kc K ds i) (M.fd i)) (hS:∀d∈ds,DS D d)
  (hg:∀p∈D.gl,kI K ds cls cn xc p) (hr:∀x∈D.fr,PySem.W.nsIn K mainGlobals x=some none) (hc:COk ⟨K,bN K cn,xc⟩ (dU D ds cls w)) (hm:∀(c:Nat) k',cls.lookup c=some k'->∀p∈k'.meths,k'.exc=false/\qJ K ds cn c p) (hx:∀f,D.fx.contains f=true->∀(c:Nat) k,(dU D ds cls w).cl c=some k->f∈k.flds->k.exc=false)
  (hi:∀y∈D.is,∀c,((y="ValueError"/\c=1000)∨(c≠1000/\(D.gl.lookup y=some (.err c)∨∃b,D.gl.lookup y=some (.cls c b))))->∀k K',(dU D ds cls w).cl k=some K'->IsOk ⟨K,bN K cn,xc⟩ k c K')
  (he:∀y∈D.is,∀c,D.gl.lookup y=some (.err c)->uo ⟨K,bN K cn,xc⟩ (dU D ds cls w) c):MOk D (dU D ds cls w) ⟨K,bN K cn,xc⟩ M mg:=by
 refine ⟨fun x i e=> ?_,fun x e=>PySem.W.mg_none_of X G (hr x (by simpa using e)),zp K,hc,fun x c b e=> ?_,fun x c e=> ?_,fun x v e=> ?_,fun m c k' fi q1 q2=> ?_,hx,fun y c q=>hi y (by simpa using q) c,fun y c q=>he y (by simpa using q) c⟩
 ·obtain ⟨d,e1,e2,e3⟩:=hg _ (eD e)
  obtain ⟨f1,f2⟩:=hF i d e1
  have dm:=List.mem_of_find?_eq_some e1
  rw [hM]
  refine ⟨?_,f2.kp, ?_⟩
  ·have z:=hD d dm
   unfold iW at z
   rw [e2] at z
   obtain ⟨f,z1,_⟩:=z
   rw [kX e1]
   unfold i9
   rw [e2]
   show mg x=some (.ref (gp K d.x))
   rw [fh z1,←e3]
   exact PySem.W.mg_of X G z1
  ·rw [f1]
   exact f2.binds (hS d dm).b
 ·obtain ⟨C,K',g1,g2,g3,g4,g5,g6,g7,g8⟩:=hg _ (eD e)
  have ec:bN K cn c=C:=k5 g2 g1
  show mg x=some (.ref (bN K cn c))/\xc c=false/\PySem.W.keepIn K (.ref (bN K cn c))=true/\PySem.W.makesIn K (bN K cn c)=true/\∃K',(dU D ds cls w).cl c=some K'/\(b=false->K'.init=none/\PySem.W.findIn K (.ref (bN K cn c)) "__init__"=some (some (.builtin "object.__init__")))/\
   (b=true->∃fi,K'.init=some fi/\PySem.W.findIn K (.ref (bN K cn c)) "__init__"=some (some (.ref (M.fa fi)))/\PySem.W.isFn K (.ref (M.fa fi))=true/\Binds K (M.fd fi) (M.ps fi) [])
  rw [ec]
  refine ⟨PySem.W.mg_of X G g1,g4,g5,g6,K',g3,g7,fun hb=> ?_⟩
  obtain ⟨fi,d,f,i1,i2,i3,i4,i5,i6⟩:=g8 hb
  obtain ⟨f1,f2⟩:=hF fi d i2
  have ef:M.fa fi=f:=by
   rw [hM,kX i2]
   exact ve i3 g1 (by rw [i4];exact i5)
  refine ⟨fi,i1,by rw [ef];exact i5,by rw [ef];exact i6, ?_⟩
  rw [f1]
  exact f2.binds (hS d (List.mem_of_find?_eq_some i2)).b
 ·obtain ⟨C,K',g1,g2,g3,g4,g5,g6⟩:=hg _ (eD e)
  have ec:bN K cn c=C:=k5 g2 g1
  show mg x=some (.ref (bN K cn c))/\xc c=true/\PySem.W.excIn K (bN K cn c) Ao "ValueError.__new__"=true/\∃K',(dU D ds cls w).cl c=some K'/\K'.init=none
  rw [ec]
  exact ⟨PySem.W.mg_of X G g1,g5,g6,K',g3,g4⟩
 ·obtain ⟨i,tk,rfl,g1⟩:=hg _ (eD e)
  exact ⟨.int i,_,PySem.W.mg_of X G g1,⟨tk,rfl⟩,fun _ _=>rfl⟩
 ·obtain ⟨n1,x,C,f,d,y,R,m1,m2,m3,m4,m5,m6,m7,m8,m9⟩:=hm c k' q1 (m,fi) (eD q2)
  have ec:bN K cn c=C:=k5 m1 m2
  obtain ⟨f1,f2⟩:=hF fi d m5
  have ef:M.fa fi=f:=by
   rw [hM,kX m5]
   exact ve m6 m8 (by rw [m7];exact m9)
  show k'.exc=false/\Meth K (bN K cn c) m (M.fa fi)/\Binds K (M.fd fi) (M.ps fi) []
  rw [ec]
  refine ⟨n1,⟨by rw [ef];exact m3,by rw [ef];exact m4, ?_⟩, ?_⟩
  ·have:=f2.kp
   rw [←hM] at this
   exact this
  ·rw [f1]
   exact f2.binds (hS d (List.mem_of_find?_eq_some m5)).b
theorem CQ {ca:Nat->Addr} (hM:M.fa=kc K ds) (hF:∀i d,ds.find? (fun d=>d.i==i)=some d->M.ps i=d.ps/\Fun K d.x d.q d.st (kc K ds i) (M.fd i)) (hS:∀d∈ds,DS D d):DOk D (dU D ds cls w) ⟨K,ca,xc⟩ M base mg:=by
 refine ⟨fun i f e=> ?_⟩
 obtain ⟨d,e1,e2,rfl⟩:=rX e
 obtain ⟨f1,f2⟩:=hF i d e1
 have S:=hS d e2
 refine ⟨d.x,d.q,d.st,hM▸f2,f1▸Fb S.s, ?_⟩
 rw [f1]
 obtain ⟨y,e3⟩:=Option.isSome_iff_exists.mp S.c
 rw [e3]
 rfl
end
theorem qc {T:CT} {G:Hp}:∀ns:List Int,af T as G (ns.map .int) (ns.map V.int)
 |[]=>rfl
 |n::ns=>⟨.int n,ns.map V.int,rfl,rfl,qc ns⟩
structure HeadOk (K:PySem.W.Frag) (D:Dt) (ds:List Df) (cls:List (Nat×Cl)) (cn:List (Nat×Str)) (xc:Nat->Bool) (wn:Nat):Prop where
 d:∀d∈ds,iW K d
 g:∀p∈D.gl,kI K ds cls cn xc p
 m:∀(c:Nat) k',cls.lookup c=some k'->∀p∈k'.meths,k'.exc=false/\qJ K ds cn c p
 r:∀x∈D.fr,PySem.W.nsIn K mainGlobals x=some none
 c:COk ⟨K,bN K cn,xc⟩ (dU D ds cls wn)
 i:∀y∈D.is,∀c,((y="ValueError"/\c=1000)∨(c≠1000/\(D.gl.lookup y=some (.err c)∨∃b,D.gl.lookup y=some (.cls c b))))->∀k K',(dU D ds cls wn).cl k=some K'->IsOk ⟨K,bN K cn,xc⟩ k c K'
 e:∀y∈D.is,∀c,D.gl.lookup y=some (.err c)->uo ⟨K,bN K cn,xc⟩ (dU D ds cls wn) c
theorem Fp {l:PySem.W.OpenLaw} {loose:List Str} {XP:(Str->Option Value)->Heap->Prop} {YP:World->Heap->Prop} {d:DefRec} {K:Params->PySem.W.Frag} {D:Dt} {ds:List Df} {cls:List (Nat×Cl)} {cn:List (Nat×Str)} {xc:Nat->Bool} {wn:Nat} {n f:Nat} {x:Str} {df:Df}
  (hn:l.most=some 63) (hdf:d.params.defaults=[]) (hroom:Room (4*n) callerA) (hY:∀(w:World) (h:Heap),YP w h->(K w.params).In h)
  (hS:∀d∈ds,DS D d) (hf:ds.find? (fun d=>d.i==f)=some df) (hps:df.ps=[x]) (ho:df.o=none) (hname:d.name=df.x) (hx:∀f,D.fx.contains f=true->∀(c:Nat) k,(dU D ds cls wn).cl c=some k->f∈k.flds->k.exc=false)
  (F:∀w:World,HeadOk (K w.params) D ds cls cn xc wn)
  (pure_:∀ns:List Int,ns.length<=63->call (dU D ds cls wn) n f [.lst (ns.map .int)] []= .ok (.bl true) []):
  PySem.W.WalkO q loose XP YP l.row.toRowW d [] (fun f vs=>PySem.call f vs):=
 L2.B1 (n:=63) (k:=4*n) (x:=x) (CX:=fun w=>cJ l.prog w) (K:=K) (sp:=fun w=>dD ⟨K w.params,bN (K w.params) cn,xc⟩ (dU D ds cls wn) n f) hn (by decide) hdf hroom hY
  (fun w mg a h KX G hm=>by
   have O:=F w
   obtain ⟨M,hM,hF⟩:=build (D:=D) (fa:=kc (K w.params) ds) (K:=K w.params) (ds:=ds) fun i d' hd'=>by
    rw [kX hd']
    exact BJ (O.d d' (List.mem_of_find?_eq_some hd'))
   obtain ⟨f1,f2⟩:=hF f df hf
   have dm:=List.mem_of_find?_eq_some hf
   have ea:M.fa f=a:=by
    have z:=O.d df dm
    unfold iW at z
    rw [ho] at z
    obtain ⟨f',z1,_⟩:=z
    rw [hM,kX hf]
    unfold i9
    rw [ho]
    show gp (K w.params) df.x=a
    rw [fh z1]
    have:=PySem.W.mg_of KX G z1
    rw [←hname,hm] at this
    cases this
    rfl
   refine ⟨M.fd f,fun s v=> ?_,fun base _ _=> ?_⟩
   ·obtain ⟨oc,od,kV,doc,pm,an,cdv,ct,osl,efd,_⟩:=f2.ex
    rw [efd]
    have:=(hS df dm).b kV doc pm an cdv ct [v] (by rw [hps];rfl)
    rw [hps] at this
    exact .of_eq this
   ·have:=Dq (P':=l.prog) (w:=w) (base:=base) (DT KX G O.d hM hF hS O.g O.r O.c O.m hx O.i O.e) (CQ hM hF hS) n f
    rw [ea,f1,hps] at this
    exact this)
  (fun w H a ns hl hO hS=>by
   refine ⟨[],[],H,[.lst (ns.map .int)],⟨rfl,List.nodup_nil,Le.refl _,fun a h=>(by cases h),fun n o a h=>(by cases h)⟩,⟨.ref a,[],rfl,⟨a,ns.map V.int,rfl,hS,qc ns⟩,rfl⟩, ?_⟩
   rw [pure_ ns hl]
   exact fun as' G' H' _ _ _ u hu=>hu)
  fun _ _ _ _ _ h=>by
   obtain ⟨_,_,_,_,_,_,_,_,_,_,_,_,_,_,_,z⟩:=h
   exact z
theorem aE {K:PySem.W.Frag} {i:Nat} {x q:Str} {st:Stmt} {ps:List Str} {f:Addr} {oc:Value} {od an:Option Addr} {osl:Array (Option Value)} {kV doc pm cdv ct:Value} (a:PySem.W.nsIn K mainGlobals x=some (some (.ref f)))
  (l:K.lookup f=some ⟨oc,od, .func (PySem.W.fnOf x q (cY st) (bg st) (ax st) .none kV doc pm an cdv ct),osl⟩) (c:PySem.W.codeIn K cdv q=true) (k:PySem.W.keepIn K (.ref f)=true):iW K ⟨i,none,x,q,st,ps⟩:=⟨f,a,oc,od,kV,doc,pm,an,cdv,ct,osl,l,c,k⟩
theorem ab {α:Type} {p:α->Prop} {a:α} {l:List α} (h:p a) (t:∀x∈l,p x):∀x∈a::l,p x:=List.forall_mem_cons.mpr ⟨h,t⟩
theorem aI {α:Type} {p:α->Prop}:∀x∈([]:List α),p x:=fun _ h=>by cases h
theorem aR {K:PySem.W.Frag} {ds:List Df} {cls:List (Nat×Cl)} {cn:List (Nat×Str)} {xc:Nat->Bool} {x:Str} {i:Nat} {d:Df} (e:ds.find? (fun d=>d.i==i)=some d) (h:d.o=none) (z:d.x=x):kI K ds cls cn xc (x, .fn i):=⟨d,e,h,z⟩
end PI
namespace PI
open PySem PySem.Spec L2 L2.L3 L2.L4 PySem.SeqAt
open PyProof.Rows hiding St lobj
theorem bx {K:PySem.W.Frag} {i:Nat} {c x q:Str} {st:Stmt} {ps:List Str} {C f:Addr} {oc:Value} {od an:Option Addr} {osl:Array (Option Value)} {kV doc pm cdv ct:Value} (n:PySem.W.nsIn K mainGlobals c=some (some (.ref C))) (a:PySem.W.findIn K (.ref C) x=some (some (.ref f)))
  (l:K.lookup f=some ⟨oc,od, .func (PySem.W.fnOf x q (cY st) (bg st) (ax st) .none kV doc pm an cdv ct),osl⟩) (cd:PySem.W.codeIn K cdv q=true) (k:PySem.W.keepIn K (.ref f)=true):iW K ⟨i,some c,x,q,st,ps⟩:=⟨C,f,n,a,oc,od,kV,doc,pm,an,cdv,ct,osl,l,cd,k⟩
section
variable {K:PySem.W.Frag} {ds:List Df} {cls:List (Nat×Cl)} {cn:List (Nat×Str)} {xc:Nat->Bool} {D:Dt} {w:Nat}
theorem jo {x:Str} {c:Nat} {C:Addr} {k:Cl} (n:PySem.W.nsIn K mainGlobals x=some (some (.ref C))) (e1:cn.lookup c=some x) (e2:cls.lookup c=some k) (e3:k.init=none) (e4:xc c=true) (h:PySem.W.excIn K C Ao "ValueError.__new__"=true):kI K ds cls cn xc (x, .err c):=⟨C,k,n,e1,e2,e3,e4,h⟩
theorem qP {x:Str} {c fi:Nat} {C f:Addr} {k:Cl} {d:Df} (n:PySem.W.nsIn K mainGlobals x=some (some (.ref C))) (e1:cn.lookup c=some x) (e2:cls.lookup c=some k) (e4:xc c=false) (h1:PySem.W.keepIn K (.ref C)=true) (h2:PySem.W.makesIn K C=true) (e5:k.init=some fi) (e6:ds.find? (fun d=>d.i==fi)=some d) (e7:d.o=some x) (e8:d.x="__init__")
  (h3:PySem.W.findIn K (.ref C) "__init__"=some (some (.ref f))) (h4:PySem.W.isFn K (.ref f)=true):kI K ds cls cn xc (x, .cls c true):=⟨C,k,n,e1,e2,e4,h1,h2,fun h=>(by cases h),fun _=>⟨fi,d,f,e5,e6,e7,e8,h3,h4⟩⟩
theorem eg {x:Str} {c:Nat} {C:Addr} {k:Cl} (n:PySem.W.nsIn K mainGlobals x=some (some (.ref C))) (e1:cn.lookup c=some x) (e2:cls.lookup c=some k) (e4:xc c=false) (h1:PySem.W.keepIn K (.ref C)=true) (h2:PySem.W.makesIn K C=true) (e5:k.init=none)
  (h3:PySem.W.findIn K (.ref C) "__init__"=some (some (.builtin "object.__init__"))):kI K ds cls cn xc (x, .cls c false):=⟨C,k,n,e1,e2,e4,h1,h2,fun _=>⟨e5,h3⟩,fun h=>(by cases h)⟩
theorem v8 {x:Str} {i:Int} {tk:Nat} (n:PySem.W.nsIn K mainGlobals x=some (some (.int i tk))):kI K ds cls cn xc (x, .val (.int i)):=⟨i,tk,rfl,n⟩
theorem dB {α:Type} {x:Nat} {v:α}:∀{l:List (Nat×α)},l.lookup x=some v->(x,v)∈l
 |[],h=>by cases h
 |(y,w)::r,h=>by
  rw [List.lookup_cons] at h
  split at h
  ·rename_i e
   cases h
   rw [eq_of_beq e]
   exact List.mem_cons_self
  ·exact List.mem_cons_of_mem _ (dB h)
noncomputable def En (K:PySem.W.Frag) (cn:List (Nat×Str)) (xc:Nat->Bool) (p:Nat×Cl):Prop:=xc p.1=p.2.exc/\(p.2.exc=false->∃x C,cn.lookup p.1=some x/\PySem.W.nsIn K mainGlobals x=some (some (.ref C))/\Cls K C/\∀f∈p.2.flds,dI K C f)
theorem gF {p:Nat×Cl} (e1:xc p.1=p.2.exc) (e2:p.2.exc=true):En K cn xc p:=⟨e1,fun h=>by rw [e2] at h;cases h⟩
theorem cZ {p:Nat×Cl} {x:Str} {C:Addr} (e1:xc p.1=p.2.exc) (e2:cn.lookup p.1=some x) (n:PySem.W.nsIn K mainGlobals x=some (some (.ref C))) (h1:PySem.W.plainGet K C Str.empty=true) (h2:PySem.W.hasDictIn K C=true) (h3:PySem.W.plainOver K C=true) (h4:PySem.W.findIn K (.ref C) "__setattr__"=some (some (.builtin "object.__setattr__")))
  (h5:∀f∈p.2.flds,PySem.W.findIn K (.ref C) f=some none):En K cn xc p:=⟨e1,fun _=>⟨x,C,e2,n,⟨h1,h2,h3,h4⟩,h5⟩⟩
theorem Dj (h:∀p∈cls,En K cn xc p):COk ⟨K,bN K cn,xc⟩ (dU D ds cls w):=by
 refine ⟨fun c k e=>(h _ (dB e)).1,fun c k e x=> ?_,fun c k f e x hf=> ?_⟩
 ·obtain ⟨x,C,e1,e2,e3,e4⟩:=(h _ (dB e)).2 x
  show Cls K (bN K cn c)
  rw [k5 e1 e2]
  exact e3
 ·obtain ⟨x,C,e1,e2,e3,e4⟩:=(h _ (dB e)).2 x
  show dI K (bN K cn c) f
  rw [k5 e1 e2]
  exact e4 f hf
theorem yq (h:∀q∈cls,∀p∈q.2.meths,q.2.exc=false/\qJ K ds cn q.1 p):∀(c:Nat) k',cls.lookup c=some k'->∀p∈k'.meths,k'.exc=false/\qJ K ds cn c p:=fun c k' e p hp=>h _ (dB e) p hp
theorem bM {c:Nat} {p:Str×Nat} {x y:Str} {C f R:Addr} {d:Df} {q:Cl} (e0:q.exc=false) (e1:cn.lookup c=some x) (a:PySem.W.nsIn K mainGlobals x=some (some (.ref C))) (b:PySem.W.findIn K (.ref C) p.1=some (some (.ref f))) (i:PySem.W.isFn K (.ref f)=true) (e2:ds.find? (fun d=>d.i==p.2)=some d) (e3:d.o=some y) (e4:d.x=p.1)
  (g:PySem.W.nsIn K mainGlobals y=some (some (.ref R))) (h:PySem.W.findIn K (.ref R) p.1=some (some (.ref f))):q.exc=false/\qJ K ds cn c p:=⟨e0,x,C,f,d,y,R,e1,a,b,i,e2,e3,e4,g,h⟩
theorem FU (h:∀q∈cls,q.2.exc=true->q.2.flds=[]):∀f,D.fx.contains f=true->∀(c:Nat) k,(dU D ds cls w).cl c=some k->f∈k.flds->k.exc=false:=fun f _ c k e hf=>by
 cases x:k.exc with
 |false=>rfl
 |true=>
  have:=h _ (dB e) x
  rw [this] at hf
  cases hf
end
end PI
namespace PI
open PySem
theorem aq {P:Pg} {f:Nat} {d:Fn} (h:P.fn f=some d) (n:Nat) (xs:List Val) (st:aa) (hl:xs.length=d.np):call P (n+1) f xs st=(aP P (call P n) d.body (xs.map some++List.replicate (d.ns-d.np) none) st).fin P st:=by
 show Ag P (call P n) xs st (P.fn f)=_
 rw [h]
 exact bt hl
@[simp] theorem Hk (P:Pg) (st:aa) (v:Val) (h:v.aC st st.length st.length=some v) (hr:isRef v=none):fin P st v st= .ok v st:=by
 unfold fin
 rw [if_pos (xt st),hr]
 show (R.ak (v.aC st st.length st.length) st).bind _=_
 rw [h]
 simp
theorem fJ (P:Pg) (st st':aa) (v v':Val) (ho:Old st st') (h:v.aC st' st.length st'.length=some v') (hr:isRef v=none):fin P st v st'= .ok v' (st'.take st.length):=by
 unfold fin
 rw [if_pos ho,hr]
 show (R.ak (v.aC st' st.length st'.length) st').bind _=_
 rw [h]
 simp
@[simp] theorem Mc (st:aa) (n x:Nat) (b:Bool):(Val.bl b).aC st n x=some (.bl b):=by simp [Val.aC,Val.sub]
@[simp] theorem Lo (st:aa) (n x:Nat) (b:Int):(Val.int b).aC st n x=some (.int b):=by simp [Val.aC,Val.sub]
@[simp] theorem Km (st:aa) (n x:Nat) (b:Str):(Val.str b).aC st n x=some (.str b):=by simp [Val.aC,Val.sub]
@[simp] theorem KW (st:aa) (n x:Nat):Val.non.aC st n x=some .non:=by simp [Val.aC,Val.sub]
@[simp] theorem Lv (st:aa) (n x:Nat) (f:Bool) (xs:List Val):(Val.tup f xs).aC st n x=(aV st n x xs).map fun xs=> .tup f xs:=by simp [Val.aC,Val.sub,aV]
@[simp] theorem JI (st:aa) (n x:Nat):aV st n x []=some []:=by simp [aV,subs]
@[simp] theorem GN (st:aa) (n x:Nat) (v:Val) (r:List Val):aV st n x (v::r)=(v.aC st n x).bind fun v=>(aV st n x r).map fun r=>v::r:=by simp [Val.aC,subs,aV]
@[simp] theorem GK {α:Type} (r:R α):iff True r=r:=if_pos trivial
@[simp] theorem L0 (t b:Bool) (st:aa):iM t (R.ok (Val.bl true) st) (R.ok (Val.bl b) st)=R.ok (Val.bl (t||b)) st:=by cases t<;>rfl
@[simp] theorem Kk (t b:Bool) (st:aa):iM t (R.ok (Val.bl b) st) (R.ok (Val.bl false) st)=R.ok (Val.bl (t&&b)) st:=by cases t<;>rfl
@[simp] theorem bD (st:aa):Kept [] st:=fun _ h=>by cases h
theorem Ax (st:aa):Old [] st:=⟨Nat.zero_le _,fun i o h _=>absurd h (Nat.not_lt_zero _)⟩
@[simp] theorem GG (P:Pg) (st:aa) (b:Bool):fin P [] (.bl b) st= .ok (.bl b) []:=by
 have:=fJ P [] st (.bl b) (.bl b) (Ax st) (by simp) rfl
 simpa using this
@[simp] theorem JW (i j:Int) (st:aa) (h:0<j):pS i j st= .ok (.int (i % j)) st:=by
 unfold pS
 rw [bt (by lia),Int.fmod_eq_emod_of_nonneg _ (by lia)]
@[simp] theorem xl (i j:Int) (st:aa) (h:0<j) (hb:j<2^64):qh i j st= .ok (.int (i/j)) st:=by
 unfold qh
 have:big j:=by
  unfold big
  exact Nat.lt_of_lt_of_le (show j.natAbs<2^64 by lia) (Nat.pow_le_pow_right (by lia) (by lia))
 rw [bt ⟨by lia,this⟩,Int.fdiv_eq_ediv_of_nonneg _ (by lia)]
@[simp] theorem L9 (i j:Int) (st:aa) (h:j.natAbs<2^64):pB i j st= .ok (.int (i*j)) st:=bt (.inr (.inl h))
@[simp] theorem LV (i j:Int) (st:aa) (h:i.natAbs<2^64):pB i j st= .ok (.int (i*j)) st:=bt (.inl h)
@[simp] theorem Lf (n:Int) (st:aa) (h0:0<=n) (h1:n<16777216):tI (.int n) st= .ok (aX 0 n.toNat,[]) st:=bt ⟨by lia,by lia⟩
@[simp] theorem K0 (a b:Int) (st:aa) (h0: -16777216<a) (h1:a<16777216) (h2: -16777216<b) (h3:b-a<16777216):t7 a (.int b) st= .ok (aX a (b-a).toNat,[]) st:=bt ⟨by lia,by lia,by lia,by lia⟩
theorem zt (ns:List Int) (i:Int) (h0:0<=i) (h1:i<ns.length):j0 (ns.map .int) i=some (.int (ns.getD i.toNat 0)):=by
 have l:i.toNat<ns.length:=by lia
 unfold j0 hR
 rw [List.length_map,if_pos h0,if_pos h1]
 show (ns.map Val.int)[i.toNat]?=_
 rw [List.getElem?_map,List.getElem?_eq_getElem l,List.getD_eq_getElem?_getD,List.getElem?_eq_getElem l]
 rfl
@[simp high] theorem Iz (ns:List Int) (i:Int) (st:aa) (h0:0<=i) (h1:i<ns.length):eC (.lst (ns.map .int)) (.int i) st= .ok (.int (ns.getD i.toNat 0)) st:=by
 show R.ak (j0 _ i) st=_
 rw [zt ns i h0 h1]
 rfl
noncomputable def Rest (P:Pg) (cl:ar) (ss:List S) (env:Env) (st:aa):F:=aP P cl ss env st
noncomputable def Dl (P:Pg) (cl:ar) (a b:List S) (env:Env) (t:Bool) (st:aa):F:=zW t (aP P cl a env st) (aP P cl b env st)
noncomputable def fY (P:Pg) (cl:ar) (b:List S) (env:Env) (st:aa):F:=aP P cl b env st
noncomputable def Lp (P:Pg) (cl:ar) (t:T) (b:List S) (env:Env) (it:List Val×List (Nat×Ob)) (st:aa):F:=forL t (fY P cl b) it.2 it.1 env st
section
variable (P:Pg) (cl:ar) (env:Env) (st:aa)
@[simp] theorem LQ:aP P cl [] env st= .next env st:=rfl
@[simp] theorem KS (s:S) (ss:List S):aP P cl (s::ss) env st=(s.run P cl env st).bind (Rest P cl ss):=rfl
@[simp] theorem Iy (ss:List S):Rest P cl ss env st=aP P cl ss env st:=rfl
@[simp] theorem LM (b:List S):fY P cl b env st=aP P cl b env st:=rfl
@[simp] theorem bra_t (a b:List S):Dl P cl a b env true st=aP P cl a env st:=rfl
@[simp] theorem bra_f (a b:List S):Dl P cl a b env false st=aP P cl b env st:=rfl
@[simp] theorem lp_at (t:T) (b:List S) (xs:List Val) (c:List (Nat×Ob)):Lp P cl t b env (xs,c) st=forL t (fY P cl b) c xs env st:=rfl
@[simp] theorem s_set (t:T) (e:E):(S.set t e).run P cl env st=F.of env (e.run P cl env st) fun x st=>F.ak st (t.put x env):=rfl
@[simp] theorem Ml (o i e:E):(S.eT o i e).run P cl env st=F.of env ((e.run P cl env st).bind fun x st=>(o.run P cl env st).bind fun y st=>(i.run P cl env st).bind fun z st=>PI.eT z x y st) fun _ st=> .next env st:=rfl
@[simp] theorem Mi (o e:E) (f:Str):(S.cN o f e).run P cl env st=F.of env ((e.run P cl env st).bind fun x st=>(o.run P cl env st).bind fun y st=>PI.cN P f x y st) fun _ st=> .next env st:=rfl
@[simp] theorem Mo (e:E):(S.expr e).run P cl env st=F.of env (e.run P cl env st) fun _ st=> .next env st:=rfl
@[simp] theorem s_ret (e:E):(S.ret e).run P cl env st=F.of env (e.run P cl env st) fun x st=> .ret x st:=rfl
@[simp] theorem s_ife (c:E) (a b:List S):(S.ife c a b).run P cl env st=F.of env (runC P cl (some c) env st) (Dl P cl a b env):=rfl
@[simp] theorem s_for (t:T) (q:Q) (b:List S):(S.for t q b).run P cl env st=F.of env (q.run P cl env st) (Lp P cl t b env):=rfl
end
noncomputable def Nx (t:T) (body:Env->aa->F) (vs:List Val) (env:Env) (st:aa):F:=forL t body [] vs env st
@[simp] theorem nx_at (t:T) (body:Env->aa->F) (vs:List Val) (env:Env) (st:aa):Nx t body vs env st=forL t body [] vs env st:=rfl
open Classical in
@[simp] theorem Lq (t:T) (body:Env->aa->F) (env:Env) (st:aa):forL t body [] [] env st= .next env st:=gB (bD st)
open Classical in
@[simp] theorem HF (t:T) (body:Env->aa->F) (v:Val) (vs:List Val) (env:Env) (st:aa):forL t body [] (v::vs) env st=(F.ak st (t.put v env)).bind fun env st=>(body env st).turn (Nx t body vs):=gB (bD st)
open Classical in
theorem rD {t:T} {body:Env->aa->F} {chk:List (Nat×Ob)} (I:Nat->Env->aa->Prop):∀(items:List Val) (j:Nat) (env:Env) (st:aa),I j env st->(∀i env st,I i env st->Kept chk st)->
  (∀i v env st,items[i]?=some v->I (j+i) env st->∃env1,t.put v env=some env1/\∃env' st',(body env1 st= .next env' st'∨body env1 st= .cont env' st')/\I (j+i+1) env' st')->
  ∃env' st',forL t body chk items env st= .next env' st'/\I (j+items.length) env' st'
 |[],j,env,st,h,hk,_=>⟨env,st,gB (hk j env st h),h⟩
 |v::vs,j,env,st,h,hk,hs=>by
  obtain ⟨env1,e1,env2,st2,e2,h2⟩:=hs 0 v env st rfl h
  obtain ⟨env3,st3,e3,h3⟩:=rD I vs (j+1) env2 st2 h2 hk fun i w env st e q=>by
   have:=hs (i+1) w env st e (by rw [show j+(i+1)=j+1+i by lia];exact q)
   rwa [show j+(i+1)+1=j+1+i+1 by lia] at this
  refine ⟨env3,st3, ?_,by rw [show j+(v::vs).length=j+1+vs.length by simp;lia];exact h3⟩
  show iS (Kept chk st) ((F.ak st (t.put v env)).bind fun env st=>(body env st).turn fun env st=>forL t body chk vs env st)=_
  rw [gB (hk j env st h),e1]
  show (body env1 st).turn (fun env st=>forL t body chk vs env st)=_
  rcases e2 with e2|e2<;>rw [e2]<;>exact e3
theorem pR {t:T} {body:Env->aa->F} {chk:List (Nat×Ob)} (I:Nat->Env->aa->Prop) (items:List Val) (env:Env) (st:aa) (h:I 0 env st) (hk:∀i env st,I i env st->Kept chk st)
  (hs:∀i v env st,items[i]?=some v->I i env st->∃env1,t.put v env=some env1/\∃env' st',(body env1 st= .next env' st'∨body env1 st= .cont env' st')/\I (i+1) env' st'):
  ∃env' st',forL t body chk items env st= .next env' st'/\I items.length env' st':=by
 obtain ⟨env',st',e,q⟩:=rD I items 0 env st h hk fun i v env st e q=>by
  have:=hs i v env st e (by rwa [Nat.zero_add] at q)
  rwa [Nat.zero_add]
 exact ⟨env',st',e,by rwa [Nat.zero_add] at q⟩
@[simp] theorem qK:∀(n:Nat) (lo:Int),(aX lo n).length=n
 |0,_=>rfl
 |n+1,lo=>by unfold aX;rw [List.length_cons,qK n]
theorem pN:∀(n:Nat) (lo:Int) (i:Nat) (v:Val),(aX lo n)[i]?=some v->v= .int (lo+i)/\i<n
 |0,_,_,_,h=>by cases h
 |n+1,lo,0,v,h=>by
  cases h
  exact ⟨by simp,by lia⟩
 |n+1,lo,i+1,v,h=>by
  obtain ⟨h1,h2⟩:=pN n (lo+1) i v h
  exact ⟨by rw [h1];congr 1;push_cast;lia,by lia⟩
end PI
namespace PI
open PySem
noncomputable abbrev rz:S:= .augI (.const .non) (.const .non) .Add (.const .non)
noncomputable def Ci:Fn:=⟨5,5,[.ife (.cmp .Eq (.bi .len [.var 1]) (.const (.int 0))) [rz] [],
 .ife (.or (.cmp .Lt (.var 3) (.const (.int 0))) (.cmp .Lt (.var 4) (.const (.int 0)))) [rz] [],
 .cN (.var 0) "bays" (.bi .tuple [.comp 1 [] (.var 0) (.val (.var 1)) none (.call 4 [.var 0])]),
 .cN (.var 0) "foes" (.bi .tuple [.comp 1 [] (.var 0) (.val (.var 2)) none (.bi .tuple [.var 0])]),
 .cN (.var 0) "trim" (.var 3),
 .cN (.var 0) "heel" (.var 4)]⟩
noncomputable def zZ:Fn:=⟨1,2,[.set (.var 1) (.idx (.var 0) (.const (.int 1))),
 .ife (.cmp .Eq (.bi .len [.var 1]) (.const (.int 0))) [rz] [],
 .ret (.tup [.idx (.var 0) (.const (.int 0)), .bi .tuple [.comp 1 [] (.var 0) (.val (.var 1)) none (.call 5 [.var 0])]])]⟩
noncomputable def wj:Fn:=⟨1,1,[.ret (.tup [.idx (.var 0) (.const (.int 0)), .call 6 [.idx (.var 0) (.const (.int 1))], .call 6 [.idx (.var 0) (.const (.int 2))]])]⟩
noncomputable def su:Fn:=⟨1,1,[.ret (.call 7 [.idx (.var 0) (.const (.int 0)), .idx (.var 0) (.const (.int 1)), .idx (.var 0) (.const (.int 2)), .bi .tuple [.idx (.var 0) (.const (.int 3))], .idx (.var 0) (.const (.int 4))])]⟩
noncomputable def pI:Fn:=⟨5,5,[.ife (.or (.cmp .Lt (.var 0) (.const (.int 0))) (.cmp .Gt (.var 0) (.const (.int 9)))) [rz] [],
 .ife (.or (.cmp .Lt (.var 1) (.const (.int 0))) (.or (.cmp .Lt (.var 2) (.const (.int 0))) (.cmp .Lt (.var 4) (.const (.int 0))))) [rz] [],
 .ife (.not (.call 8 [.var 3, .var 0])) [rz] [],
 .ret (.tup [.var 0, .var 1, .var 2, .var 3, .var 4])]⟩
noncomputable def mV:Fn:=⟨2,4,[.set (.var 2) (.const (.int 0)),
 .for (.var 3) (.val (.var 0)) [.ife (.or (.cmp .Lt (.var 3) (.var 2)) (.cmp .GtE (.var 3) (.var 1))) [.ret (.const (.bl false))] [], .set (.var 2) (.bin .Add (.var 3) (.const (.int 1)))],
 .ret (.const (.bl true))]⟩
noncomputable def Dc:Fn:=⟨1,5,[.set (.var 1) (.lst []),
 .for (.var 2) (.rng1 (.bi .len [.fld (.var 0) "bays"])) [.set (.var 3) (.bi .len [.idx (.idx (.fld (.var 0) "bays") (.var 2)) (.const (.int 1))]), .for (.var 4) (.val (.tup [.const (.int 0), .const (.int 1)])) [.expr (.bm .extend (.var 1) [.comp 1 [2,4] (.var 0) (.rng1 (.var 3)) none (.tup [.var 1, .var 0, .var 2])])]],
 .ret (.var 1)]⟩
noncomputable def xX:Fn:=⟨2,2,[.ret (.idx (.call 13 [.var 0, .var 1]) (.bin .Add (.const (.int 1)) (.idx (.var 1) (.const (.int 2)))))]⟩
noncomputable def xr:Fn:=⟨2,2,[.ife (.not (.call 14 [.var 0, .var 1])) [rz] [],
 .ret (.idx (.idx (.idx (.fld (.var 0) "bays") (.idx (.var 1) (.const (.int 0)))) (.const (.int 1))) (.idx (.var 1) (.const (.int 1))))]⟩
noncomputable def yR:Fn:=⟨2,2,[.ife (.or (.cmp .Lt (.idx (.var 1) (.const (.int 0))) (.const (.int 0))) (.cmp .GtE (.idx (.var 1) (.const (.int 0))) (.bi .len [.fld (.var 0) "bays"]))) [.ret (.const (.bl false))] [],
 .ife (.or (.cmp .Lt (.idx (.var 1) (.const (.int 1))) (.const (.int 0))) (.cmp .GtE (.idx (.var 1) (.const (.int 1))) (.bi .len [.idx (.idx (.fld (.var 0) "bays") (.idx (.var 1) (.const (.int 0)))) (.const (.int 1))]))) [.ret (.const (.bl false))] [],
 .ret (.cmp .In (.idx (.var 1) (.const (.int 2))) (.tup [.const (.int 0), .const (.int 1)]))]⟩
noncomputable def yJ:Fn:=⟨2,4,[.eT (.var 1) (.const (.int 0)) (.bin .Add (.idx (.var 1) (.const (.int 0))) (.const (.int 1))),
 .set (.var 2) (.const (.int 0)),
 .ife (.cmp .Gt (.bi .len [.var 0]) (.const (.int 0))) [.set (.var 2) (.idx (.var 0) (.bin .Mod (.idx (.var 1) (.const (.int 0))) (.bi .len [.var 0])))] [],
 .set (.var 3) (.bin .Mod (.bin .Mult (.bin .Add (.bin .Add (.bin .Mod (.var 2) (.const (.int 2147483647))) (.bin .Mult (.bin .Mult (.idx (.var 1) (.const (.int 0))) (.idx (.var 1) (.const (.int 0)))) (.const (.int 7919)))) (.const (.int 11))) (.const (.int 48271))) (.const (.int 2147483647))),
 .ret (.bin .Mod (.bin .Mult (.var 3) (.var 3)) (.const (.int 1999999973)))]⟩
noncomputable def zm:Fn:=⟨3,6,[.set (.var 3) (.call 15 [.var 0, .var 1]),
 .set (.var 4) (.bin .Mod (.var 3) (.bin .Add (.var 2) (.const (.int 1)))),
 .set (.var 5) (.comp 1 [3] (.var 0) (.rng1 (.var 4)) (some (.cmp .Gt (.bin .Mod (.bin .FloorDiv (.bin .FloorDiv (.var 1) (.const (.int 10))) (.bin .Add (.bin .Mult (.var 0) (.var 0)) (.const (.int 1)))) (.const (.int 3))) (.const (.int 0)))) (.var 0)),
 .ret (.tup [.var 4, .bin .Add (.const (.int 5)) (.bin .Mod (.bin .FloorDiv (.var 3) (.const (.int 7))) (.const (.int 40))), .bin .Add (.const (.int 5)) (.bin .Mod (.bin .FloorDiv (.var 3) (.const (.int 300))) (.const (.int 30))), .var 5, .bin .Mod (.bin .FloorDiv (.var 3) (.const (.int 9000))) (.const (.int 60))])]⟩
noncomputable def xy:Fn:=⟨2,3,[.set (.var 2) (.slc (.var 1) none (some (.const (.int 3)))),
 .ret (.and (.call 14 [.var 0, .var 2]) (.and (.cmp .GtE (.idx (.var 1) (.const (.int 3))) (.const (.int 0))) (.cmp .Lt (.idx (.var 1) (.const (.int 3))) (.idx (.call 12 [.var 0, .var 2]) (.const (.int 0))))))]⟩
noncomputable def yD:Fn:=⟨1,1,[.ret (.tup [.idx (.var 0) (.const (.int 0)), .idx (.var 0) (.const (.int 2)), .idx (.var 0) (.const (.int 1)), .idx (.var 0) (.const (.int 3))])]⟩
noncomputable def yE:Fn:=⟨3,3,[.cN (.var 0) "ship" (.var 1),
 .cN (.var 0) "placed" (.bi .tuple [.sortK (.var 2) 34]),
 .cN (.var 0) "box_by_cell" (.fz (.dOf (.fld (.var 0) "placed"))),
 .cN (.var 0) "cell_by_name" (.fz (.dOf (.comp 2 [] (.tup [.var 0, .var 1]) (.val (.fld (.var 0) "placed")) none (.tup [.idx (.var 1) (.const (.int 0)), .var 0])))),
 .expr (.call 35 [.var 0])]⟩
noncomputable def yd:Fn:=⟨1,1,[.ret (.call 32 [.idx (.var 0) (.const (.int 0))])]⟩
noncomputable def yi:Fn:=⟨1,2,[.ife (.cmp .Lt (.bi .len [.fld (.var 0) "box_by_cell"]) (.bi .len [.fld (.var 0) "placed"])) [rz] [],
 .ife (.cmp .Lt (.bi .len [.fld (.var 0) "cell_by_name"]) (.bi .len [.fld (.var 0) "placed"])) [rz] [],
 .for (.var 1) (.val (.fld (.var 0) "box_by_cell")) [.ife (.not (.call 31 [.fld (.var 0) "ship", .var 1])) [rz] [], .ife (.not (.call 36 [.var 0, .var 1])) [rz] []]]⟩
noncomputable def yz:Fn:=⟨2,2,[.ret (.or (.cmp .Eq (.idx (.var 1) (.const (.int 3))) (.const (.int 0))) (.cmp .IsNot (.call 37 [.var 0, .bin .Add (.slc (.var 1) none (some (.const (.int 3)))) (.tup [.bin .Sub (.idx (.var 1) (.const (.int 3))) (.const (.int 1))])]) (.const (.non))))]⟩
noncomputable def xD:Fn:=⟨2,2,[.ret (.bm .get (.fld (.var 0) "box_by_cell") [.var 1])]⟩
noncomputable def xm:Fn:=⟨3,11,[.set (.var 3) (.const (.str "abcdefghijklmnopqrstuvwxyz")),
 .set (.var 4) (.call 15 [.var 0, .var 1]),
 .set (.var 5) (.bin .Add (.idx (.var 3) (.bin .Mod (.bin .FloorDiv (.var 4) (.const (.int 6))) (.const (.int 26)))) (.idx (.var 3) (.bin .Mod (.bin .FloorDiv (.var 4) (.const (.int 156))) (.const (.int 26))))),
 .set (.var 6) (.idx (.lst [.const (.int 1), .const (.int 3), .const (.int 5), .const (.int 7), .const (.int 9), .const (.int 11)]) (.bin .Mod (.var 4) (.const (.int 6)))),
 .set (.var 7) (.bin .Mod (.bin .FloorDiv (.var 4) (.const (.int 4056))) (.const (.int 3))),
 .set (.var 8) (.lst []),
 .for (.var 9) (.rng1 (.var 2)) [.set (.var 10) (.idx (.var 3) (.bin .Mod (.bin .Add (.bin .FloorDiv (.var 4) (.const (.int 156))) (.bin .Mult (.var 9) (.var 6))) (.const (.int 26)))), .ife (.and (.cmp .Eq (.bin .Mod (.bin .FloorDiv (.var 4) (.const (.int 12168))) (.const (.int 4))) (.const (.int 0))) (.cmp .Lt (.var 2) (.const (.int 13)))) [.expr (.bm .append (.var 8) [.bin .Mult (.idx (.var 3) (.bin .Mod (.bin .FloorDiv (.var 4) (.const (.int 6))) (.const (.int 26)))) (.bin .Add (.var 9) (.const (.int 1)))])] [.expr (.bm .append (.var 8) [.bin .Add (.bin .Add (.slc (.var 5) none (some (.var 7))) (.var 10)) (.slc (.var 5) (some (.var 7)) none)])]],
 .ret (.var 8)]⟩
noncomputable def zJ:Fn:=⟨5,14,[.set (.var 5) (.lst []),
 .for (.var 6) (.rng1 (.bin .Add (.const (.int 1)) (.bin .Mod (.call 15 [.var 0, .var 1]) (.var 2)))) [.set (.var 7) (.lst []), .for (.var 8) (.rng1 (.bin .Add (.const (.int 1)) (.bin .Mod (.call 15 [.var 0, .var 1]) (.var 3)))) [.set (.var 9) (.bin .Sub (.bin .Mod (.call 15 [.var 0, .var 1]) (.const (.int 9))) (.const (.int 4))), .set (.var 10) (.call 17 [.var 0, .var 1, .var 4]), .expr (.bm .append (.var 7) [.tup [.var 9, .var 10, .call 17 [.var 0, .var 1, .var 4]]])], .expr (.bm .append (.var 5) [.tup [.bin .Sub (.bin .Mod (.call 15 [.var 0, .var 1]) (.const (.int 21))) (.const (.int 10)), .var 7]])],
 .set (.var 11) (.call 15 [.var 0, .var 1]),
 .set (.var 12) (.lst [.const (.str "dry"), .const (.str "wet"), .const (.str "hot")]),
 .set (.var 13) (.slc (.lst [.tup [.idx (.var 12) (.bin .Mod (.var 11) (.const (.int 3))), .idx (.var 12) (.bin .Mod (.bin .FloorDiv (.var 11) (.const (.int 3))) (.const (.int 3)))], .tup [.idx (.var 12) (.bin .Mod (.bin .FloorDiv (.var 11) (.const (.int 9))) (.const (.int 3))), .const (.str "oil")]]) none (some (.bin .Mod (.bin .FloorDiv (.var 11) (.const (.int 27))) (.const (.int 3))))),
 .ret (.make 9 [.var 5, .var 13, .bin .Mod (.bin .FloorDiv (.var 11) (.const (.int 81))) (.const (.int 200)), .bin .Mod (.bin .FloorDiv (.var 11) (.const (.int 16200))) (.const (.int 100))])]⟩
noncomputable def xS:Fn:=⟨3,5,[.set (.var 3) (.call 15 [.var 0, .var 1]),
 .set (.var 4) (.idx (.lst [.const (.str "dry"), .const (.str "wet"), .const (.str "hot"), .const (.str "oil")]) (.bin .Mod (.var 3) (.const (.int 4)))),
 .ret (.tup [.var 2, .bin .Mod (.bin .FloorDiv (.var 3) (.const (.int 4))) (.const (.int 12)), .bin .Mod (.bin .FloorDiv (.var 3) (.const (.int 48))) (.const (.int 9)), .bi .int [.cmp .Eq (.bin .Mod (.bin .FloorDiv (.var 3) (.const (.int 432))) (.const (.int 4))) (.const (.int 0))], .var 4, .bin .Mod (.bin .FloorDiv (.var 3) (.const (.int 1728))) (.const (.int 5))])]⟩
noncomputable def yr:Fn:=⟨3,3,[.ret (.comp 1 [1,0] (.var 0) (.val (.call 40 [.var 0, .var 1, .var 2])) none (.call 42 [.var 2, .var 1, .var 0]))]⟩
noncomputable def zj:Fn:=⟨4,10,[.set (.var 4) (.dct [] []),
 .set (.var 5) (.lst []),
 .set (.var 6) (.call 9 [.var 2]),
 .for (.var 7) (.val (.var 3)) [.set (.var 8) (.idx (.var 6) (.bin .Mod (.call 15 [.var 0, .var 1]) (.bi .len [.var 6]))), .set (.var 9) (.bm .get (.var 4) [.var 8, .const (.int 0)]), .ife (.cmp .Lt (.var 9) (.idx (.call 12 [.var 2, .var 8]) (.const (.int 0)))) [.eT (.var 4) (.var 8) (.bin .Add (.var 9) (.const (.int 1))), .expr (.bm .append (.var 5) [.tup [.bin .Add (.var 8) (.tup [.var 9]), .var 7]])] []],
 .ret (.var 5)]⟩
noncomputable def Eu:Fn:=⟨1,1,[.ret (.const (.str "none"))]⟩
noncomputable def xU:Fn:=⟨3,3,[.ret (.and (.cmp .IsNot (.call 37 [.var 1, .var 2]) (.const (.non))) (.meth (.var 0) "breaks" [.var 1, .var 2]))]⟩
noncomputable def Cd:Fn:=⟨3,3,[.ret (.const (.bl false))]⟩
noncomputable def zG:Fn:=⟨1,1,[.ret (.const (.str "strength"))]⟩
noncomputable def zr:Fn:=⟨3,4,[.set (.var 3) (.comp 1 [] (.var 0) (.val (.call 65 [.var 1, .var 2])) none (.idx (.var 0) (.const (.int 1)))),
 .ret (.cmp .Gt (.bi .sum [.var 3]) (.idx (.call 12 [.fld (.var 1) "ship", .slc (.var 2) none (some (.const (.int 3)))]) (.const (.int 1))))]⟩
noncomputable def xW:Fn:=⟨1,1,[.ret (.const (.str "height"))]⟩
noncomputable def yf:Fn:=⟨3,4,[.set (.var 3) (.comp 1 [] (.var 0) (.val (.call 65 [.var 1, .var 2])) none (.idx (.var 0) (.const (.int 2)))),
 .ret (.cmp .Gt (.bi .sum [.var 3]) (.idx (.call 12 [.fld (.var 1) "ship", .slc (.var 2) none (some (.const (.int 3)))]) (.const (.int 2))))]⟩
noncomputable def wV:Fn:=⟨1,1,[.ret (.const (.str "cold"))]⟩
noncomputable def yI:Fn:=⟨3,4,[.set (.var 3) (.cmp .Eq (.idx (.call 37 [.var 1, .var 2]) (.const (.int 3))) (.const (.int 1))),
 .ret (.and (.var 3) (.cmp .NotIn (.idx (.var 2) (.const (.int 3))) (.idx (.call 12 [.fld (.var 1) "ship", .slc (.var 2) none (some (.const (.int 3)))]) (.const (.int 3)))))]⟩
noncomputable def w4:Fn:=⟨1,1,[.ret (.const (.str "apart"))]⟩
noncomputable def xN:Fn:=⟨3,5,[.set (.var 3) (.idx (.call 37 [.var 1, .var 2]) (.const (.int 4))),
 .set (.var 4) (.comp 1 [1] (.var 0) (.val (.call 68 [.var 2])) none (.call 37 [.var 1, .var 0])),
 .ret (.bi .any [.comp 1 [1,3] (.var 0) (.val (.var 4)) (some (.cmp .IsNot (.var 0) (.const (.non)))) (.call 66 [.fld (.var 1) "ship", .var 2, .idx (.var 0) (.const (.int 4))])])]⟩
noncomputable def yP:Fn:=⟨1,1,[.ret (.const (.str "lash"))]⟩
noncomputable def wR:Fn:=⟨3,4,[.set (.var 3) (.comp 2 [] (.tup [.var 0, .var 1]) (.enm (.call 65 [.var 1, .var 2])) none (.bin .Mult (.idx (.var 1) (.const (.int 1))) (.bin .Add (.var 0) (.const (.int 1))))),
 .ret (.and (.cmp .Eq (.idx (.var 2) (.const (.int 2))) (.const (.int 1))) (.cmp .Gt (.bi .sum [.var 3]) (.idx (.call 12 [.fld (.var 1) "ship", .slc (.var 2) none (some (.const (.int 3)))]) (.const (.int 4)))))]⟩
noncomputable def xB:Fn:=⟨2,2,[.ret (.comp 1 [1,0] (.var 0) (.rng1 (.bin .Add (.idx (.var 1) (.const (.int 3))) (.const (.int 1)))) none (.call 37 [.var 2, .bin .Add (.slc (.var 1) none (some (.const (.int 3)))) (.tup [.var 0])]))]⟩
noncomputable def yW:Fn:=⟨3,3,[.ret (.or (.cmp .In (.tup [.var 1, .var 2]) (.fld (.var 0) "foes")) (.cmp .In (.tup [.var 2, .var 1]) (.fld (.var 0) "foes")))]⟩
noncomputable def zv:Fn:=⟨2,2,[.ife (.or (.cmp .NotEq (.idx (.var 0) (.const (.int 0))) (.idx (.var 1) (.const (.int 0)))) (.cmp .NotEq (.idx (.var 0) (.const (.int 2))) (.idx (.var 1) (.const (.int 2))))) [.ret (.const (.bl false))] [],
 .ret (.and (.cmp .LtE (.bi .abs [.bin .Sub (.idx (.var 0) (.const (.int 1))) (.idx (.var 1) (.const (.int 1)))]) (.const (.int 1))) (.and (.cmp .LtE (.bi .abs [.bin .Sub (.idx (.var 0) (.const (.int 3))) (.idx (.var 1) (.const (.int 3)))]) (.const (.int 1))) (.cmp .NotEq (.var 0) (.var 1))))]⟩
noncomputable def xC:Fn:=⟨1,3,[.set (.var 1) (.lst []),
 .for (.var 2) (.rng2 (.bin .Sub (.idx (.var 0) (.const (.int 1))) (.const (.int 1))) (.bin .Add (.idx (.var 0) (.const (.int 1))) (.const (.int 2)))) [.expr (.bm .extend (.var 1) [.comp 1 [0,2] (.var 0) (.rng2 (.bin .Sub (.idx (.var 0) (.const (.int 3))) (.const (.int 1))) (.bin .Add (.idx (.var 0) (.const (.int 3))) (.const (.int 2)))) none (.tup [.idx (.var 1) (.const (.int 0)), .var 2, .idx (.var 1) (.const (.int 2)), .var 0])])],
 .ret (.comp 1 [0] (.var 0) (.val (.var 1)) (some (.call 67 [.var 1, .var 0])) (.var 0))]⟩
noncomputable def zo:Fn:=⟨0,0,[.ret (.lst [.make 12 [], .make 13 [], .make 14 [], .make 15 [], .make 16 []])]⟩
noncomputable def xf:Fn:=⟨1,5,[.set (.var 1) (.call 73 []),
 .set (.var 2) (.lst []),
 .for (.tup [.var 3, .var 4]) (.val (.fld (.var 0) "placed")) [.expr (.bm .extend (.var 2) [.comp 1 [3,0] (.var 0) (.val (.var 1)) (some (.meth (.var 0) "broken" [.var 2, .var 1])) (.tup [.meth (.var 0) "word" [], .var 1])])],
 .ret (.var 2)]⟩
noncomputable def xO:Fn:=⟨1,1,[.ret (.cmp .Eq (.bi .len [.call 74 [.var 0]]) (.const (.int 0)))]⟩
noncomputable def wZ:Fn:=⟨1,11,[.set (.var 1) (.lst [.const (.int 0)]),
 .for (.var 2) (.rng1 (.bin .Add (.const (.int 1)) (.bin .FloorDiv (.bi .len [.slc (.var 0) none (some (.const (.int 60)))]) (.const (.int 20))))) [.set (.var 3) (.call 41 [.var 0, .var 1, .const (.int 2), .const (.int 3), .const (.int 4)]), .set (.var 4) (.call 44 [.var 0, .var 1, .var 3, .call 43 [.var 0, .var 1, .bin .Mod (.call 15 [.var 0, .var 1]) (.const (.int 11))]]), .set (.var 5) (.bi .list [.var 4]), .for (.var 6) (.val (.call 9 [.var 3])) [.set (.var 7) (.bin .Mod (.call 15 [.var 0, .var 1]) (.const (.int 5))), .set (.var 5) (.comp 1 [6,7] (.var 0) (.val (.var 5)) (some (.or (.cmp .NotEq (.slc (.idx (.var 0) (.const (.int 0))) none (some (.const (.int 3)))) (.var 1)) (.cmp .Lt (.idx (.idx (.var 0) (.const (.int 0))) (.const (.int 3))) (.var 2)))) (.var 0))], .set (.var 8) (.call 74 [.make 10 [.var 3, .var 4]]), .set (.var 9) (.call 74 [.make 10 [.var 3, .var 5]]), .for (.var 10) (.val (.var 9)) [.ife (.cmp .NotIn (.var 10) (.var 8)) [.ret (.const (.bl false))] []], .ife (.and (.call 75 [.make 10 [.var 3, .var 4]]) (.not (.call 75 [.make 10 [.var 3, .var 5]]))) [.ret (.const (.bl false))] []],
 .ret (.const (.bl true))]⟩
end PI
namespace PI
open PySem
mutual
noncomputable def Val.tree:Val->Bool
 | .tup _ xs=>trees xs
 | .lst xs=>trees xs
 | .dct ks vs=>trees ks&&trees vs
 | .obj _ _ vs=>trees vs
 | .ref _=>false
 | .non=>true
 | .bl _=>true
 | .int _=>true
 | .str _=>true
noncomputable def trees:List Val->Bool
 |[]=>true
 |v::r=>v.tree&&trees r
end
@[simp] theorem HX:Val.non.tree=true:=by simp only [Val.tree]
@[simp] theorem Ks (b:Bool):(Val.bl b).tree=true:=by simp only [Val.tree]
@[simp] theorem Hj (b:Int):(Val.int b).tree=true:=by simp only [Val.tree]
@[simp] theorem HN (b:Str):(Val.str b).tree=true:=by simp only [Val.tree]
@[simp] theorem JG (f:Bool) (xs:List Val):(Val.tup f xs).tree=trees xs:=by simp only [Val.tree]
@[simp] theorem Hl (xs:List Val):(Val.lst xs).tree=trees xs:=by simp only [Val.tree]
@[simp] theorem Hm (ks xs:List Val):(Val.dct ks xs).tree=(trees ks&&trees xs):=by simp only [Val.tree]
@[simp] theorem Hv (c:Nat) (ns:List Str) (xs:List Val):(Val.obj c ns xs).tree=trees xs:=by simp only [Val.tree]
@[simp] theorem Ic (k:Nat):(Val.ref k).tree=false:=by simp only [Val.tree]
@[simp] theorem GR:trees []=true:=by simp only [trees]
@[simp] theorem Gu (v:Val) (r:List Val):trees (v::r)=(v.tree&&trees r):=by simp only [trees]
@[simp] theorem uW:∀a b:List Val,trees (a++b)=(trees a&&trees b)
 |[],b=>by simp
 |v::a,b=>by simp [uW a b,Bool.and_assoc]
theorem ny:∀xs:List Val,trees xs=true↔∀v∈xs,v.tree=true
 |[]=>by simp
 |v::r=>by simp [ny r]
theorem ba {α:Type} (f:α->Val) (xs:List α) (h:∀a,(f a).tree=true):trees (xs.map f)=true:=by
 rw [ny]
 intro v hv
 obtain ⟨a,_,rfl⟩:=List.mem_map.mp hv
 exact h a
@[simp] theorem E3 (xs:List Int):trees (xs.map .int)=true:=ba _ _ fun _=>by simp
mutual
theorem pT (f:Nat->Option Val):∀v:Val,v.tree=true->v.sub f=some v
 | .tup g xs,h=>by rw [Val.sub,cq f xs (by simpa using h)];rfl
 | .lst xs,h=>by rw [Val.sub,cq f xs (by simpa using h)];rfl
 | .dct ks vs,h=>by rw [Val.sub,cq f vs (by simp at h;exact h.2)];rfl
 | .obj c ns vs,h=>by rw [Val.sub,cq f vs (by simpa using h)];rfl
 | .ref k,h=>by simp at h
 | .non,_=>by simp [Val.sub]
 | .bl _,_=>by simp [Val.sub]
 | .int _,_=>by simp [Val.sub]
 | .str _,_=>by simp [Val.sub]
theorem cq (f:Nat->Option Val):∀xs:List Val,trees xs=true->subs f xs=some xs
 |[],_=>by simp [subs]
 |v::r,h=>by
  simp at h
  rw [subs,pT f v h.1,cq f r h.2]
  rfl
end
mutual
theorem AH (n:Nat):∀v:Val,v.tree=true->v.bd n=true
 | .tup g xs,h=>by rw [Val.bd];exact cR n xs (by simpa using h)
 | .lst xs,h=>by rw [Val.bd];exact cR n xs (by simpa using h)
 | .dct ks vs,h=>by
  simp at h
  rw [Val.bd,cR n ks h.1,cR n vs h.2];rfl
 | .obj c ns vs,h=>by rw [Val.bd];exact cR n vs (by simpa using h)
 | .ref k,h=>by simp at h
 | .non,_=>by simp [Val.bd]
 | .bl _,_=>by simp [Val.bd]
 | .int _,_=>by simp [Val.bd]
 | .str _,_=>by simp [Val.bd]
theorem cR (n:Nat):∀xs:List Val,trees xs=true->cK n xs=true
 |[],_=>by simp [cK]
 |v::r,h=>by
  simp at h
  rw [cK,AH n v h.1,cR n r h.2]
  rfl
end
theorem kb (st:aa) (n x:Nat) (v:Val) (h:v.tree=true):v.aC st n x=some v:=pT _ v h
theorem bR (st:aa) (n x:Nat) (vs:List Val) (h:trees vs=true):aV st n x vs=some vs:=cq _ vs h
theorem kG {v:Val} (h:v.tree=true):isRef v=none:=by cases v<;>first|rfl|simp at h
@[simp high] theorem kh (st:aa) (v:Val) (h:v.tree=true):res st v=v:=by cases v<;>first|rfl|simp at h
theorem eB (P:Pg) (st g:aa) (v:Val) (h:v.tree=true):fin P st v (st++g)= .ok v st:=by
 rw [fJ P st _ v v (fk st g) (kb _ _ _ v h) (kG h)]
 simp
theorem eP (P:Pg) (st:aa) (v:Val) (h:v.tree=true):fin P st v st= .ok v st:=by
 have:=eB P st [] v h
 simpa using this
theorem qR (z z':Int) (s g:aa):Old (.lst [.int z]::s) (.lst [.int z']::(s++g)):=by
 have:=sG (.lst [.int z]::s) g 0 (.lst [.int z']) (cR _ _ (by simp))
 simpa using this
theorem pd (P:Pg) (z z':Int) (s g:aa) (v:Val) (h:v.tree=true):fin P (.lst [.int z]::s) v (.lst [.int z']::(s++g))= .ok v (.lst [.int z']::s):=by
 rw [fJ P _ _ v v (qR z z' s g) (kb _ _ _ v h) (kG h)]
 simp
theorem BV (P:Pg) (z z':Int) (s:aa) (v:Val) (h:v.tree=true):fin P (.lst [.int z]::s) v (.lst [.int z']::s)= .ok v (.lst [.int z']::s):=by
 have:=pd P z z' s [] v h
 simpa using this
theorem A1 (P:Pg) (z z':Int) (s g:aa) (v v':Val) (hr:isRef v=none) (h:v.aC (.lst [.int z']::(s++g)) (s.length+1) (s.length+1+g.length)=some v'):fin P (.lst [.int z]::s) v (.lst [.int z']::(s++g))= .ok v' (.lst [.int z']::s):=by
 rw [fJ P _ _ v v' (qR z z' s g) (by rw [←h];congr 1;simp;lia) hr]
 simp
theorem l8 (P:Pg) (z z':Int) (s g:aa) (j:Nat) (xs ys:List Val) (hj:g[j]?=some (.lst xs)) (h:aV (.lst [.int z']::(s++g)) (s.length+1) (s.length+1+j) xs=some ys):fin P (.lst [.int z]::s) (.ref (s.length+1+j)) (.lst [.int z']::(s++g))= .ok (.ref (s.length+1)) (.lst [.int z']::(s++[.lst ys])):=by
 unfold fin
 rw [if_pos (qR z z' s g)]
 have e:(Ob.lst [.int z']::(s++g))[s.length+1+j]?=some (.lst xs):=by
  rw [show s.length+1+j=(s.length+j)+1 by lia,List.getElem?_cons_succ,List.getElem?_append_right (by lia)]
  rw [←hj];congr 1;lia
 simp [e,h]
theorem fE (P:Pg) (s g:aa) (j:Nat) (xs ys:List Val) (hj:g[j]?=some (.lst xs)) (h:aV (s++g) s.length (s.length+j) xs=some ys):fin P s (.ref (s.length+j)) (s++g)= .ok (.ref s.length) (s++[.lst ys]):=by
 unfold fin
 rw [if_pos (fk s g)]
 have e:(s++g)[s.length+j]?=some (.lst xs):=by
  rw [List.getElem?_append_right (by lia),←hj];congr 1;lia
 simp [e,h]
@[simp] theorem Bc (s g:aa) (j:Nat):(s++g)[s.length+j]?=g[j]?:=by
 rw [List.getElem?_append_right (by lia)];congr 1;lia
@[simp] theorem K6 (s g:aa) (j:Nat) (o:Ob):(s++g).set (s.length+j) o=s++g.set j o:=by
 rw [List.set_append_right _ _ (by lia)];congr 2;lia
noncomputable def bK {α β:Type} (R:α->β->Prop):List α->List β->Prop
 |[],[]=>True
 |a::as,b::bs=>R a b/\bK R as bs
 |_,_=>False
theorem bK.imp {α β:Type} {R S:α->β->Prop} (h:∀a b,R a b->S a b):∀{as:List α} {bs:List β},bK R as bs->bK S as bs
 |[],[],_=>trivial
 |_::_,_::_,q=>⟨h _ _ q.1,q.2.imp h⟩
theorem bK.len {α β:Type} {R:α->β->Prop}:∀{as:List α} {bs:List β},bK R as bs->as.length=bs.length
 |[],[],_=>rfl
 |_::_,_::_,q=>by simp [q.2.len]
theorem bK.map {α β γ:Type} {R:γ->β->Prop} (f:α->γ) (g:α->β) (h:∀a,R (f a) (g a)):∀as:List α,bK R (as.map f) (as.map g)
 |[]=>trivial
 |a::as=>⟨h a,bK.map f g h as⟩
theorem bK.yQ {α β γ:Type} {R:α->β->Prop} {S:α->γ->Prop} (f:β->γ) (h:∀a b,R a b->S a (f b)):∀{as:List α} {bs:List β},bK R as bs->bK S as (bs.map f)
 |[],[],_=>trivial
 |_::_,_::_,q=>⟨h _ _ q.1,q.2.yQ f h⟩
theorem bK.of {α β:Type} {R S:α->β->Prop} {T:β->Prop} (h:∀a b,T b->R a b->S a b):∀{as:List α} {bs:List β},(∀b∈bs,T b)->bK R as bs->bK S as bs
 |[],[],_,_=>trivial
 |_::_,_::_,t,q=>⟨h _ _ (t _ (by simp)) q.1,q.2.of h fun b hb=>t b (by simp [hb])⟩
open Classical in
theorem eQ {f:Val->aa->R (Option Val)} {chk:List (Nat×Ob)} {st:aa} (hk:Kept chk st):∀{vs ys:List Val},bK (fun v y=>f v st= .ok (some y) st) vs ys->aB f chk vs st= .ok ys st
 |[],[],_=>bt hk
 |v::vs,y::ys,⟨h,t⟩=>by
  show iff (Kept chk st) ((f v st).bind fun o st=>(aB f chk vs st).bind fun r st=> .ok (eJ o r) st)=_
  rw [bt hk,h]
  show (aB f chk vs st).bind _=_
  rw [eQ hk t]
  rfl
open Classical in
theorem dw {α:Type} {f:Val->aa->R (Option Val)} {chk:List (Nat×Ob)} {st:aa} (hk:Kept chk st) (g:α->Val) (y:α->Option Val):∀(xs:List α),(∀a∈xs,f (g a) st= .ok (y a) st)->aB f chk (xs.map g) st= .ok (xs.filterMap y) st
 |[],_=>bt hk
 |a::xs,h=>by
  show iff (Kept chk st) ((f (g a) st).bind fun o st=>(aB f chk (xs.map g) st).bind fun r st=> .ok (eJ o r) st)=_
  rw [bt hk,h a (by simp)]
  show (aB f chk (xs.map g) st).bind _=_
  rw [dw hk g y xs fun b hb=>h b (by simp [hb])]
  cases e:y a<;>simp [e,eJ]
end PI
namespace PI
open PySem
noncomputable def Tn (P:Pg) (cl:ar) (nw:Nat) (caps:List Nat) (t:T) (c:Option E) (e:E) (env:Env) (v:Val) (st:aa):R (Option Val):=aM (t.put v (av nw caps env)) (runC P cl c) (e.run P cl) st
@[simp high] theorem xn (P:Pg) (cl:ar) (nw:Nat) (caps:List Nat) (t:T) (q:Q) (c:Option E) (e:E) (env:Env) (st:aa):E.run P cl (.comp nw caps t q c e) env st=(q.run P cl env st).bind fun it st=>iff (t.low nw=true/\it.1.length<=10000) ((aB (Tn P cl nw caps t c e env) it.2 it.1 st).bind fun xs st=>new (.lst xs) st):=rfl
theorem sS (P:Pg) (cl:ar) (b:Bi) (nw:Nat) (caps:List Nat) (t:T) (q:Q) (c:Option E) (e:E) (env:Env) (st:aa):E.run P cl (.bi b [.comp nw caps t q c e]) env st=(q.run P cl env st).bind fun it st=>iff (t.low nw=true/\it.1.length<=10000) ((aB (Tn P cl nw caps t c e env) it.2 it.1 st).bind fun xs st=>j3 b (.lst xs) (st++[.lst xs])):=by
 rw [uS]
 simp only [zK,wU,xn]
 cases q.run P cl env st with
 |ok it st=>
  simp only [R.mG]
  unfold iff
  split
  ·cases aB (Tn P cl nw caps t c e env) it.2 it.1 st with
   |ok xs st=>simp [new]
   |exc x st=>rfl
   |stuck=>rfl
  ·rfl
 |exc x st=>rfl
 |stuck=>rfl
@[simp high] theorem Gh (P:Pg) (cl:ar) (nw:Nat) (caps:List Nat) (t:T) (q:Q) (c:Option E) (e:E) (env:Env) (st:aa):E.run P cl (.bi .tuple [.comp nw caps t q c e]) env st=(q.run P cl env st).bind fun it st=>iff (t.low nw=true/\it.1.length<=10000) ((aB (Tn P cl nw caps t c e env) it.2 it.1 st).bind fun xs st=> .ok (.tup true xs) (st++[.lst xs])):=sS P cl .tuple nw caps t q c e env st
@[simp high] theorem JE (P:Pg) (cl:ar) (nw:Nat) (caps:List Nat) (t:T) (q:Q) (c:Option E) (e:E) (env:Env) (st:aa):E.run P cl (.bi .any [.comp nw caps t q c e]) env st=(q.run P cl env st).bind fun it st=>iff (t.low nw=true/\it.1.length<=10000) ((aB (Tn P cl nw caps t c e env) it.2 it.1 st).bind fun xs st=>R.ak ((anyB xs).map .bl) (st++[.lst xs])):=sS P cl .any nw caps t q c e env st
structure Pt where
 c:Int
 s:Int
 h:Int
 p:List Int
 l:Int
structure Sk where
 side:Int
 hold:Pt
 deck:Pt
structure By where
 arm:Int
 sks:List Sk
structure Sh where
 bays:List By
 foes:List (Str×Str)
 trim:Int
 heel:Int
noncomputable def dS (p:Pt):Val:= .tup false [.int p.c, .int p.s, .int p.h, .tup true (p.p.map .int), .int p.l]
noncomputable def jn (s:Sk):Val:= .tup false [.int s.side,dS s.hold,dS s.deck]
noncomputable def dE (b:By):Val:= .tup false [.int b.arm, .tup true (b.sks.map jn)]
noncomputable def cP (f:Str×Str):Val:= .tup false [.str f.1, .str f.2]
noncomputable def qt:List Str:=["bays","foes","trim","heel"]
noncomputable def bU (s:Sh):Val:= .obj 9 qt [.tup true (s.bays.map dE), .tup true (s.foes.map cP), .int s.trim, .int s.heel]
@[simp] theorem Jx (p:Pt):(dS p).tree=true:=by simp [dS]
@[simp] theorem Jl (p:Sk):(jn p).tree=true:=by simp [jn]
@[simp] theorem Hy (p:By):(dE p).tree=true:=by simp [dE,ba]
@[simp] theorem GY (p:Str×Str):(cP p).tree=true:=by simp [cP]
@[simp] theorem HD (s:Sh):(bU s).tree=true:=by simp [bU,ba]
noncomputable def hU (e:Int):Int->List Int->Prop
 |_,[]=>True
 |a,x::r=>a<=x/\x<e/\hU e (x+1) r
noncomputable def Pt.Ok (p:Pt):Prop:=(0<=p.c/\p.c<=9)/\(0<=p.s/\0<=p.h/\0<=p.l)/\hU p.c 0 p.p
noncomputable def Sk.Ok (s:Sk):Prop:=s.hold.Ok/\s.deck.Ok
noncomputable def By.Ok (b:By):Prop:=b.sks≠[]/\b.sks.length<=20/\∀s∈b.sks,s.Ok
noncomputable def Sh.Ok (s:Sh):Prop:=s.bays≠[]/\s.bays.length<=20/\s.foes.length<=1000/\(∀b∈s.bays,b.Ok)/\0<=s.trim/\0<=s.heel
theorem sf (P:Pg) (cl:ar) (a:Option Val) (e:Int) (st:aa):∀(p:List Int) (l:Int) (x:Option Val),hU e l p->∃l' x',forL (.var 3) (fY P cl [.ife (.or (.cmp .Lt (.var 3) (.var 2)) (.cmp .GtE (.var 3) (.var 1))) [.ret (.const (.bl false))] [], .set (.var 2) (.bin .Add (.var 3) (.const (.int 1)))]) [] (p.map .int) [a,some (.int e),some (.int l),x] st= .next [a,some (.int e),some (.int l'),x'] st
 |[],l,x,_=>⟨l,x,by simp⟩
 |y::p,l,x,h=>by
  obtain ⟨h1,h2,h3⟩:=h
  obtain ⟨l',x',q⟩:=sf P cl a e st p (y+1) (some (.int y)) h3
  refine ⟨l',x', ?_⟩
  have g1:¬y<l:=by lia
  have g2:¬e<=y:=by lia
  simp [g1,g2]
  exact q
theorem vg {P:Pg} (h8:P.fn 8=some mV) (n:Nat) (f:Bool) (p:List Int) (e:Int) (st:aa) (h:hU e 0 p):call P (n+1) 8 [.tup f (p.map .int), .int e] st= .ok (.bl true) st:=by
 rw [aq h8 _ _ _ rfl]
 unfold mV
 simp
 obtain ⟨l',x',q⟩:=sf P (call P n) (some (.tup f (p.map .int))) e st p 0 none h
 rw [q]
 simp
theorem lg {P:Pg} (h7:P.fn 7=some pI) (h8:P.fn 8=some mV) (n:Nat) (p:Pt) (st:aa) (h:p.Ok):call P (n+2) 7 [.int p.c, .int p.s, .int p.h, .tup true (p.p.map .int), .int p.l] st= .ok (dS p) st:=by
 rw [aq h7 _ _ _ rfl]
 unfold pI
 obtain ⟨⟨a1,a2⟩,⟨b1,b2,b3⟩,c⟩:=h
 have g1:¬p.c<0:=by lia
 have g2:¬9<p.c:=by lia
 have g3:¬p.s<0:=by lia
 have g4:¬p.h<0:=by lia
 have g5:¬p.l<0:=by lia
 simp [g1,g2,g3,g4,g5,vg h8 n true p.p p.c st c]
 exact eP P st (dS p) (by simp)
noncomputable def gX (st:aa) (v:Val) (p:Pt):Prop:=∃f x,v= .tup f [.int p.c, .int p.s, .int p.h,x, .int p.l]/\(res st x= .lst (p.p.map .int)∨x= .tup true (p.p.map .int))
noncomputable def gd (st:aa) (v:Val) (s:Sk):Prop:=∃f a b,v= .tup f [.int s.side,a,b]/\gX st a s.hold/\gX st b s.deck
noncomputable def fX (st:aa) (v:Val) (b:By):Prop:=∃f x vs,v= .tup f [.int b.arm,x]/\(res st x= .lst vs∨x= .tup true vs)/\bK (gd st) vs b.sks
theorem gw {st g:aa} {x:Val} (h:res st x= .lst vs):res (st++g) x= .lst vs:=by
 cases x<;>first|exact h|(simp at h)
 rename_i k
 simp
 cases e:st[k]? with
 |none=>rw [e] at h;simp at h
 |some o=>
  rw [e] at h
  rw [List.getElem?_append_left (List.getElem?_eq_some_iff.mp e).1,e]
  exact h
theorem gX.app {st g:aa} {v:Val} {p:Pt} (h:gX st v p):gX (st++g) v p:=by
 obtain ⟨f,x,e,q⟩:=h
 exact ⟨f,x,e,q.imp (gw (g:=g)) id⟩
theorem gd.app {st g:aa} {v:Val} {p:Sk} (h:gd st v p):gd (st++g) v p:=by
 obtain ⟨f,a,b,e,q1,q2⟩:=h
 exact ⟨f,a,b,e,q1.app,q2.app⟩
theorem fX.app {st g:aa} {v:Val} {p:By} (h:fX st v p):fX (st++g) v p:=by
 obtain ⟨f,x,vs,e,q1,q2⟩:=h
 exact ⟨f,x,vs,e,q1.imp (gw (g:=g)) id,q2.imp fun a b h=>h.app⟩
theorem jb {P:Pg} (h6:P.fn 6=some su) (h7:P.fn 7=some pI) (h8:P.fn 8=some mV) (n:Nat) (v:Val) (p:Pt) (st:aa) (hr:gX st v p) (h:p.Ok):call P (n+3) 6 [v] st= .ok (dS p) st:=by
 rw [aq h6 _ _ _ rfl]
 unfold su
 obtain ⟨f,x,rfl,q⟩:=hr
 rcases q with q|rfl
 ·simp [q,lg h7 h8 n p st h]
  exact eP P st (dS p) (by simp)
 ·simp [lg h7 h8 n p st h]
  exact eP P st (dS p) (by simp)
theorem ox {P:Pg} (h5:P.fn 5=some wj) (h6:P.fn 6=some su) (h7:P.fn 7=some pI) (h8:P.fn 8=some mV) (n:Nat) (v:Val) (p:Sk) (st:aa) (hr:gd st v p) (h:p.Ok):call P (n+4) 5 [v] st= .ok (jn p) st:=by
 rw [aq h5 _ _ _ rfl]
 unfold wj
 obtain ⟨f,a,b,rfl,q1,q2⟩:=hr
 simp [jb h6 h7 h8 n _ _ st q1 h.1,jb h6 h7 h8 n _ _ st q2 h.2]
 exact eP P st (jn p) (by simp)
theorem km {st:aa} {x:Val} (h:res st x= .lst vs∨x= .tup true vs):∃chk,fL st x=some (vs,chk)/\Kept chk st/\∀g,Kept chk (st++g):=by
 rcases h with h|rfl
 ·cases x<;>simp at h
  ·subst h
   exact ⟨[],rfl,bD _,fun g=>bD _⟩
  ·rename_i k
   cases e:st[k]? with
   |none=>rw [e] at h;simp at h
   |some o=>
    rw [e] at h
    cases o<;>simp at h
    subst h
    rename_i xs
    refine ⟨[(k, .lst xs)],by simp [fL,e],fun p hp=> ?_,fun g p hp=> ?_⟩
    ·simp at hp
     subst hp
     exact e
    ·simp at hp
     subst hp
     rw [List.getElem?_append_left (List.getElem?_eq_some_iff.mp e).1,e]
 ·exact ⟨[],rfl,bD _,fun g=>bD _⟩
theorem q9 {P:Pg} (h4:P.fn 4=some zZ) (h5:P.fn 5=some wj) (h6:P.fn 6=some su) (h7:P.fn 7=some pI) (h8:P.fn 8=some mV) (n:Nat) (v:Val) (p:By) (st:aa) (hr:fX st v p) (h:p.Ok):call P (n+5) 4 [v] st= .ok (dE p) st:=by
 rw [aq h4 _ _ _ rfl]
 unfold zZ
 obtain ⟨f,x,vs,rfl,q1,q2⟩:=hr
 obtain ⟨chk,w1,w2,w3⟩:=km q1
 have hl:=q2.len
 have l0:¬vs.length=0:=by rw [hl];intro e;exact h.1 (List.length_eq_zero_iff.mp e)
 have l1:¬vs=[]:=fun e=>l0 (by rw [e];rfl)
 have l2:vs.length<=10000:=by rw [hl];have:=h.2.1;lia
 have lz:((vs.length:Int)==0)=false:=by simp [l1]
 have hx:gq (res st x)=some (vs.length:Int):=by rcases q1 with q|rfl<;>simp [*]
 have hc:aB (Tn P (call P (n+4)) 1 [] (.var 0) none (.call 5 [.var 0]) [some (.tup f [.int p.arm,x]),some x]) chk vs st= .ok (p.sks.map jn) st:=by
  refine eQ w2 ((q2.of (S:=fun a b=>call P (n+4) 5 [a] st= .ok (jn b) st) (fun a b hb q=>ox h5 h6 h7 h8 n a b st q hb) h.2.2).yQ jn fun a b q=> ?_)
  simp [Tn,aM,av,q]
 simp [hx,lz,w1,l2,hc,T.low]
 exact eB P st [.lst _] (dE p) (by simp)
@[simp] theorem n1:¬(Str.ofString "bays"=Str.ofString "foes"):=by decide
@[simp] theorem n2:¬(Str.ofString "bays"=Str.ofString "trim"):=by decide
@[simp] theorem n3:¬(Str.ofString "bays"=Str.ofString "heel"):=by decide
@[simp] theorem n4:¬(Str.ofString "foes"=Str.ofString "trim"):=by decide
@[simp] theorem n5:¬(Str.ofString "foes"=Str.ofString "heel"):=by decide
@[simp] theorem n6:¬(Str.ofString "trim"=Str.ofString "heel"):=by decide
noncomputable def Ee (P:Pg):Prop:=((P.cl 9).map (·.init))=some (some 3)/\eU P 9=false/\dQ P 9 "bays"=true/\dQ P 9 "foes"=true/\dQ P 9 "trim"=true/\dQ P 9 "heel"=true
structure FShip (P:Pg):Prop where
 f3:P.fn 3=some Ci
 f4:P.fn 4=some zZ
 f5:P.fn 5=some wj
 f6:P.fn 6=some su
 f7:P.fn 7=some pI
 f8:P.fn 8=some mV
 c9:Ee P
@[simp] theorem J1 (s g:aa) (j:Nat):(s++g).take (s.length+j)=s++g.take j:=by
 rw [List.take_append,List.take_of_length_le (by lia)];simp
theorem pP (P:Pg) (st g:aa) (c c':Nat) (ns ns':List Str) (vs vs':List Val) (v:Val) (hv:v.tree=true) (ht:trees vs'=true):fin P (st++[.ins c ns vs]) v (st++(.ins c' ns' vs'::g))= .ok v (st++[.ins c' ns' vs']):=by
 have e:st++(Ob.ins c' ns' vs'::g)=(st++[Ob.ins c ns vs]).set st.length (.ins c' ns' vs')++g:=by simp
 have ho:=sG (st++[.ins c ns vs]) g st.length (.ins c' ns' vs') (by simp [Ob.bd];exact cR _ _ ht)
 rw [←e] at ho
 rw [fJ P _ _ v v ho (kb _ _ _ v hv) (kG hv)]
 rw [e]
 simp
theorem BW {st:aa} {x:Val} {vs:List Val} (h:res st x= .lst vs∨x= .tup true vs):gq (res st x)=some (vs.length:Int):=by rcases h with q|rfl<;>simp [*]
theorem uG {P:Pg} (F:FShip P) (n:Nat) (s:Sh) (st:aa) (bv fv:Val) (bs:List Val) (hb:res st bv= .lst bs∨bv= .tup true bs) (rb:bK (fX st) bs s.bays) (hf:res st fv= .lst (s.foes.map cP)) (h:s.Ok):
  call P (n+6) 3 [.ref st.length,bv,fv, .int s.trim, .int s.heel] (st++[.ins 9 [] []])= .ok .non (st++[.ins 9 qt [.tup true (s.bays.map dE), .tup true (s.foes.map cP), .int s.trim, .int s.heel]]):=by
 rw [aq F.f3 _ _ _ rfl]
 unfold Ci
 obtain ⟨a1,a2,a3,a4,a5,a6⟩:=h
 obtain ⟨b1,b2,b3,b4,b5,b6⟩:=F.c9
 have hb1:res (st++[.ins 9 [] []]) bv= .lst bs∨bv= .tup true bs:=hb.imp gw id
 obtain ⟨chk,w1,w2,_⟩:=km hb1
 have hf1:=gw (g:=[.ins 9 ["bays"] [.tup true (s.bays.map dE)], .lst (s.bays.map dE)]) hf
 obtain ⟨chk',y1,y2,_⟩:=km (.inl hf1)
 have hl:=rb.len
 have l1:¬bs=[]:=fun e=>a1 (by rw [e] at hl;exact List.length_eq_zero_iff.mp hl.symm)
 have lz:((bs.length:Int)==0)=false:=by simp [l1]
 have lb:bs.length<=10000:=by lia
 have lf:s.foes.length<=10000:=by lia
 have g1:¬s.trim<0:=by lia
 have g2:¬s.heel<0:=by lia
 have hc:aB (Tn P (call P (n+5)) 1 [] (.var 0) none (.call 4 [.var 0]) [some (.ref st.length),some bv,some fv,some (.int s.trim),some (.int s.heel)]) chk bs (st++[.ins 9 [] []])= .ok (s.bays.map dE) (st++[.ins 9 [] []]):=by
  refine eQ w2 ((rb.of (S:=fun a b=>call P (n+5) 4 [a] (st++[.ins 9 [] []])= .ok (dE b) (st++[.ins 9 [] []])) (fun a b hb q=>q9 F.f4 F.f5 F.f6 F.f7 F.f8 n a b _ q.app hb) a4).yQ dE fun a b q=> ?_)
  simp [Tn,aM,av,q]
 have hd:aB (Tn P (call P (n+5)) 1 [] (.var 0) none (.bi .tuple [.var 0]) [some (.ref st.length),some bv,some fv,some (.int s.trim),some (.int s.heel)]) chk' (s.foes.map cP) (st++[.ins 9 ["bays"] [.tup true (s.bays.map dE)], .lst (s.bays.map dE)])= .ok (s.foes.map cP) (st++[.ins 9 ["bays"] [.tup true (s.bays.map dE)], .lst (s.bays.map dE)]):=by
  refine eQ y2 (bK.map _ _ (fun a=> ?_) s.foes)
  simp [Tn,aM,av,cP]
 have hx:=BW hb1
 simp [hx,lz,g1,g2,w1,lb,hc,T.low,b3,b4,b5,b6,aQ,y1,lf,hd]
 exact pP P st _ 9 9 [] qt [] [.tup true (s.bays.map dE), .tup true (s.foes.map cP), .int s.trim, .int s.heel] .non (by simp) (by simp [ba])
theorem Bt {P:Pg} (F:FShip P) (n:Nat) (s:Sh) (st:aa) (bv fv:Val) (bs:List Val) (hb:res st bv= .lst bs∨bv= .tup true bs) (rb:bK (fX st) bs s.bays) (hf:res st fv= .lst (s.foes.map cP)) (h:s.Ok):
  fe P (call P (n+6)) 9 [bv,fv, .int s.trim, .int s.heel] st ((P.cl 9).map (·.init))= .ok (bU s) st:=by
 rw [F.c9.1]
 simp [uG F n s st bv fv bs hb rb hf h]
 unfold fin
 rw [if_pos (fk _ _)]
 simp [F.c9.2.1,bR,ba,bU]
end PI
namespace PI
open PySem
@[simp] theorem F3 (k:Nat) (xs:List Val) (st:aa):jU .append (.ref k) xs st=nA .append k xs st st[k]?:=rfl
@[simp] theorem FL (k:Nat) (xs:List Val) (st:aa):jU .extend (.ref k) xs st=nA .extend k xs st st[k]?:=rfl
@[simp] theorem Lr (o:Val) (xs:List Val) (st:aa):jU .get o xs st=qw (res st o) xs st:=rfl
@[simp] theorem ER (k:Nat) (x:Val) (st:aa) (ys:List Val):nA .append k [x] st (some (.lst ys))=iff (ys.length<10000) (.ok .non (st.set k (.lst (ys++[x])))):=rfl
@[simp] theorem E7 (k j:Nat) (st:aa) (ys:List Val):nA .extend k [.ref j] st (some (.lst ys))=z5 k ys st st[j]?:=rfl
theorem p7:∀(n:Nat) (lo:Int),aX lo n=(List.range n).map fun i=> .int (lo+(i:Int))
 |0,_=>rfl
 |n+1,lo=>by
  unfold aX
  rw [p7 n,List.range_succ_eq_map]
  simp
  intro a _
  lia
open Classical in
theorem comp_map {α:Type} {f:Val->aa->R (Option Val)} {chk:List (Nat×Ob)} {st:aa} (hk:Kept chk st) (g:α->Val) (y:α->Val) (xs:List α) (h:∀a∈xs,f (g a) st= .ok (some (y a)) st):aB f chk (xs.map g) st= .ok (xs.map y) st:=by
 have:=dw hk g (fun a=>some (y a)) xs h
 simpa using this
structure FPart (P:Pg):Prop extends FShip P where
 f9:P.fn 9=some Dc
 f12:P.fn 12=some xX
 f13:P.fn 13=some xr
 f14:P.fn 14=some yR
 f31:P.fn 31=some xy
 f32:P.fn 32=some yD
theorem fP {P:Pg} (F:FShip P) (s:Sh) (st:aa):iB P "bays" (bU s) st= .ok (.tup true (s.bays.map dE)) st:=by
 simp [bU,qt,F.c9.2.2.1,dq]
theorem yn {P:Pg} (F:FShip P) (s:Sh) (st:aa):iB P "foes" (bU s) st= .ok (.tup true (s.foes.map cP)) st:=by
 simp [bU,qt,F.c9.2.2.2.1,dq]
noncomputable def Sh.sk? (s:Sh) (b k:Int):Option Sk:=if 0<=b/\0<=k then (s.bays[b.toNat]?).bind fun y=>y.sks[k.toNat]? else none
noncomputable def Sh.gk (s:Sh) (b k d:Int):Bool:=(s.sk? b k).isSome&&(d==0||d==1)
theorem IL (d:Int):((0:Int)==d)=(d==0):=by rw [Bool.eq_iff_iff];simp;lia
theorem IT (d:Int):((1:Int)==d)=(d==1):=by rw [Bool.eq_iff_iff];simp;lia
theorem j5 {P:Pg} (F:FPart P) (n:Nat) (s:Sh) (f:Bool) (b k d:Int) (st:aa):call P (n+1) 14 [bU s, .tup f [.int b, .int k, .int d]] st= .ok (.bl (s.gk b k d)) st:=by
 rw [aq F.f14 _ _ _ rfl]
 unfold yR
 have F1:=F.toFShip
 simp [fP F1]
 by_cases h0:b<0
 ·have:¬0<=b:=by lia
  simp [h0,this,Sh.gk,Sh.sk?]
 ·have h0':0<=b:=by lia
  by_cases h1:(s.bays.length:Int)<=b
  ·have e:s.bays[b.toNat]?=none:=List.getElem?_eq_none (by lia)
   simp [h0,h1,h0',Sh.gk,Sh.sk?,e]
  ·have h1':b<(s.bays.length:Int):=by lia
   have l:b.toNat<s.bays.length:=by lia
   have e:s.bays[b.toNat]?=some s.bays[b.toNat]:=List.getElem?_eq_getElem l
   obtain ⟨y,e'⟩:∃y,s.bays[b.toNat]=y:=⟨_,rfl⟩
   rw [e'] at e
   simp [h0,h1,h0',h1',e,e',dE,fP F1]
   by_cases k0:k<0
   ·have:¬0<=k:=by lia
    simp [k0,this,Sh.gk,Sh.sk?]
   ·have k0':0<=k:=by lia
    by_cases k1:(y.sks.length:Int)<=k
    ·have e2:y.sks[k.toNat]?=none:=List.getElem?_eq_none (by lia)
     simp [k0,k1,k0',h0',Sh.gk,Sh.sk?,e,e',e2]
    ·have l2:k.toNat<y.sks.length:=by lia
     have e2:y.sks[k.toNat]?=some y.sks[k.toNat]:=List.getElem?_eq_getElem l2
     simp [k0,k1,k0',h0',Sh.gk,Sh.sk?,e,e',e2,cg,IL d,IT d]
theorem pA {s:Sh} {b k:Int} {y:Sk} (h:s.sk? b k=some y):0<=b/\0<=k/\∃z:By,s.bays[b.toNat]?=some z/\z.sks[k.toNat]?=some y/\b<s.bays.length/\k<z.sks.length:=by
 unfold Sh.sk? at h
 split at h
 ·rename_i q
  cases e:s.bays[b.toNat]? with
  |none=>rw [e] at h;cases h
  |some z=>
   rw [e] at h
   refine ⟨q.1,q.2,z,rfl,h, ?_, ?_⟩
   ·have:=(List.getElem?_eq_some_iff.mp e).1
    lia
   ·have:=(List.getElem?_eq_some_iff.mp h).1
    lia
 ·cases h
theorem q0 {P:Pg} (F:FPart P) (n:Nat) (s:Sh) (f:Bool) (b k d:Int) (y:Sk) (st:aa) (h:s.sk? b k=some y) (hd:d=0∨d=1):call P (n+2) 13 [bU s, .tup f [.int b, .int k, .int d]] st= .ok (jn y) st:=by
 rw [aq F.f13 _ _ _ rfl]
 unfold xr
 have F1:=F.toFShip
 have hp:s.gk b k d=true:=by simp [Sh.gk,h,hd]
 obtain ⟨b0,k0,z,e1,e2,b1,k1⟩:=pA h
 obtain ⟨_,e1'⟩:=List.getElem?_eq_some_iff.mp e1
 obtain ⟨_,e2'⟩:=List.getElem?_eq_some_iff.mp e2
 simp [j5 F,hp,fP F1,b0,b1,e1,e1',dE,k0,k1,e2,e2']
 exact eP P st (jn y) (by simp)
noncomputable def Sk.pt (y:Sk) (d:Int):Pt:=if d=0 then y.hold else y.deck
theorem cW {P:Pg} (F:FPart P) (n:Nat) (s:Sh) (f:Bool) (b k d:Int) (y:Sk) (st:aa) (h:s.sk? b k=some y) (hd:d=0∨d=1):call P (n+3) 12 [bU s, .tup f [.int b, .int k, .int d]] st= .ok (dS (y.pt d)) st:=by
 rw [aq F.f12 _ _ _ rfl]
 unfold xX
 simp [q0 F n s f b k d y st h hd,jn]
 rcases hd with rfl|rfl
 ·simp [Sk.pt]
  exact eP P st (dS _) (by simp)
 ·simp [Sk.pt]
  exact eP P st (dS _) (by simp)
theorem qW {P:Pg} (F:FPart P) (n:Nat) (s:Sh) (f:Bool) (b k d t:Int) (y:Sk) (st:aa) (h:s.sk? b k=some y) (hd:d=0∨d=1) (t0:0<=t) (t1:t<(y.pt d).c):call P (n+4) 31 [bU s, .tup f [.int b, .int k, .int d, .int t]] st= .ok (.bl true) st:=by
 rw [aq F.f31 _ _ _ rfl]
 unfold xy
 have hp:s.gk b k d=true:=by simp [Sh.gk,h,hd]
 simp [bA,cut,j5 F,cW F n s false b k d y st h hd,hp,t0,t1,dS]
theorem oj {P:Pg} (F:FPart P) (n:Nat) (f:Bool) (b k d t:Int) (st:aa):call P (n+1) 32 [.tup f [.int b, .int k, .int d, .int t]] st= .ok (.tup false [.int b, .int d, .int k, .int t]) st:=by
 rw [aq F.f32 _ _ _ rfl]
 unfold yD
 simp
noncomputable def aD (p:Int×Int×Int):Val:= .tup false [.int p.1, .int p.2.1, .int p.2.2]
noncomputable def bV (i:Int) (m:Nat) (d:Int):List (Int×Int×Int):=(List.range m).map fun (k:Nat)=>(i,(k:Int),d)
noncomputable def partsFrom:Nat->List By->List (Int×Int×Int)
 |_,[]=>[]
 |i,b::r=>bV i b.sks.length 0++(bV i b.sks.length 1++partsFrom (i+1) r)
noncomputable def Sh.parts (s:Sh):List (Int×Int×Int):=partsFrom 0 s.bays
noncomputable def fW:List S:=[.set (.var 3) (.bi .len [.idx (.idx (.fld (.var 0) "bays") (.var 2)) (.const (.int 1))]), .for (.var 4) (.val (.tup [.const (.int 0), .const (.int 1)])) [.expr (.bm .extend (.var 1) [.comp 1 [2,4] (.var 0) (.rng1 (.var 3)) none (.tup [.var 1, .var 0, .var 2])])]]
@[simp] theorem jZ (i:Int) (m:Nat) (d:Int):(bV i m d).length=m:=by simp [bV]
theorem t9 (P:Pg) (cl:ar) (a b c:Option Val) (i d:Int) (m:Nat) (st:aa):aB (Tn P cl 1 [2,4] (.var 0) none (.tup [.var 1, .var 0, .var 2]) [a,b,some (.int i),c,some (.int d)]) [] (aX 0 m) st= .ok ((bV i m d).map aD) st:=by
 rw [p7,bV,List.map_map]
 refine comp_map (bD st) _ _ _ fun k _=> ?_
 simp [Tn,aM,av,aD]
theorem lr {P:Pg} (F:FShip P) (cl:ar) (s:Sh) (hs:s.Ok) (st:aa):∀(r:List By) (i:Nat) (acc:List Val) (g:aa) (x2 x3 x4:Option Val),s.bays.drop i=r->acc.length<=40*i->i+r.length<=20->
  ∃g' y2 y3 y4,forL (.var 2) (fY P cl fW) [] (aX i r.length) [some (bU s),some (.ref st.length),x2,x3,x4] (st++(.lst acc::g))= .next [some (bU s),some (.ref st.length),y2,y3,y4] (st++(.lst (acc++(partsFrom i r).map aD)::g'))
 |[],i,acc,g,x2,x3,x4,_,_,_=>⟨g,x2,x3,x4,by simp [aX,partsFrom]⟩
 |b::r,i,acc,g,x2,x3,x4,hr,ha,hi=>by
  have e1:s.bays[i]?=some b:=by
   have:=congrArg (·[0]?) hr
   simpa using this
  have hr2:s.bays.drop (i+1)=r:=by rw [←List.drop_drop,hr];rfl
  have hl:i<s.bays.length:=(List.getElem?_eq_some_iff.mp e1).1
  obtain ⟨_,e1'⟩:=List.getElem?_eq_some_iff.mp e1
  have hb:b.sks.length<=20:=(hs.2.2.2.1 b (List.mem_of_getElem? e1)).2.1
  have q1:(b.sks.length:Int)<16777216:=by lia
  have q4:b.sks.length<=10000:=by lia
  have q2:acc.length+b.sks.length<=10000:=by simp at hi;lia
  have q3:acc.length+(b.sks.length+b.sks.length)<=10000:=by simp at hi;lia
  unfold fW
  simp [aX,fP F,e1,e1',hl,dE,q1,T.low,t9,new,wN,cx,q2,q3,q4,jZ,Nat.add_assoc]
  obtain ⟨g',y2,y3,y4,h⟩:=lr F cl s hs st r (i+1) (acc++(bV i b.sks.length 0++bV i b.sks.length 1).map aD) (g++[.lst ((bV i b.sks.length 0).map aD), .lst ((bV i b.sks.length 1).map aD)]) (some (.int i)) (some (.int b.sks.length)) (some (.int 1)) hr2 (by simp [jZ];lia) (by simp at hi;lia)
  refine ⟨g',y2,y3,y4, ?_⟩
  unfold fW at h
  simp [partsFrom] at h⊢
  exact h
@[simp] theorem E0 (p:Int×Int×Int):(aD p).tree=true:=by simp [aD]
theorem jR {P:Pg} (F:FPart P) (n:Nat) (s:Sh) (hs:s.Ok) (st:aa):call P (n+1) 9 [bU s] st= .ok (.ref st.length) (st++[.lst (s.parts.map aD)]):=by
 rw [aq F.f9 _ _ _ rfl]
 unfold Dc
 have F1:=F.toFShip
 have h1:s.bays.length<=20:=hs.2.1
 have h2:(s.bays.length:Int)<16777216:=by lia
 obtain ⟨g',y2,y3,y4,h⟩:=lr F1 (call P n) s hs st s.bays 0 [] [] none none none rfl (by simp) (by lia)
 unfold fW at h
 simp at h
 simp [new,fP F1,h2]
 rw [h]
 simp
 exact fE P st _ 0 _ _ rfl (bR _ _ _ _ (ba _ _ fun a=>by simp))
theorem jW {i:Int} {m:Nat} {d:Int} {p:Int×Int×Int} (h:p∈bV i m d):p.1=i/\0<=p.2.1/\p.2.1<m/\p.2.2=d:=by
 simp [bV] at h
 obtain ⟨k,hk,rfl⟩:=h
 simp
 lia
theorem iE:∀(r:List By) (i:Nat) (p:Int×Int×Int),p∈partsFrom i r->∃(j:Nat) (b:By),r[j]?=some b/\p.1=((i+j:Nat):Int)/\0<=p.2.1/\p.2.1<b.sks.length/\(p.2.2=0∨p.2.2=1)
 |[],_,_,h=>by simp [partsFrom] at h
 |b::r,i,p,h=>by
  simp only [partsFrom,List.mem_append] at h
  rcases h with h|h|h
  ·obtain ⟨h1,h2,h3,h4⟩:=jW h
   exact ⟨0,b,rfl,by simpa using h1,h2,h3, .inl h4⟩
  ·obtain ⟨h1,h2,h3,h4⟩:=jW h
   exact ⟨0,b,rfl,by simpa using h1,h2,h3, .inr h4⟩
  ·obtain ⟨j,c,h1,h2,h3,h4,h5⟩:=iE r (i+1) p h
   exact ⟨j+1,c,h1,by rw [h2];congr 1;lia,h3,h4,h5⟩
theorem wa {s:Sh} {p:Int×Int×Int} (h:p∈s.parts):∃y,s.sk? p.1 p.2.1=some y/\(p.2.2=0∨p.2.2=1):=by
 obtain ⟨j,b,h1,h2,h3,h4,h5⟩:=iE _ _ _ h
 have l:p.2.1.toNat<b.sks.length:=by lia
 refine ⟨b.sks[p.2.1.toNat], ?_,h5⟩
 unfold Sh.sk?
 rw [if_pos ⟨by lia,h3⟩]
 have:p.1.toNat=j:=by lia
 rw [this,h1]
 exact List.getElem?_eq_getElem l
theorem xJ {s:Sh} (hs:s.Ok):s.parts≠[]:=by
 unfold Sh.parts
 cases h:s.bays with
 |nil=>exact absurd h hs.1
 |cons b r=>
  have hb:=hs.2.2.2.1 b (by simp [h])
  intro e
  have:=congrArg List.length e
  simp [partsFrom] at this
  exact hb.1 this.1
theorem nr:∀(r:List By) (i:Nat),(∀b∈r,b.sks.length<=20)->(partsFrom i r).length<=40*r.length
 |[],_,_=>by simp [partsFrom]
 |b::r,i,h=>by
  have:=nr r (i+1) fun c hc=>h c (by simp [hc])
  have:=h b (by simp)
  simp [partsFrom]
  lia
end PI
namespace PI
open PySem
structure KOk {α:Type} [DecidableEq α] (kV:α->Val):Prop where
 key:∀a,bO (kV a)=true
 eq:∀a b,eqv 8 (kV a) (kV b)=some (decide (a=b))
 kt:∀a b,kT (kV a)=kT (kV b)
section
variable {α β:Type} [DecidableEq α] {kV:α->Val} (K:KOk kV)
include K
theorem mf (a:α):∀as:List α,memD (kV a) (as.map kV)=some (decide (a∈as))
 |[]=>by simp [memD]
 |b::as=>by
  simp only [List.map_cons,memD]
  rw [if_pos (K.kt b a),K.eq,mf a as]
  simp
  by_cases h:b=a
  ·simp [h]
  ·have h2:¬a=b:=fun e=>h e.symm
   simp [h,h2]
theorem mi (vV:β->Val) (a:α):∀ps:List (α×β),getD (kV a) (ps.map fun p=>kV p.1) (ps.map fun p=>vV p.2)=some ((ps.find? fun p=>p.1=a).map fun p=>vV p.2)
 |[]=>by simp [getD]
 |b::as=>by
  simp only [List.map_cons,getD]
  rw [if_pos (K.kt b.1 a),K.eq,mi vV a as]
  by_cases h:b.1=a
  ·simp [h]
  ·simp [h]
theorem kK (vV:β->Val):∀(ps:List (α×β)) (qs:List (α×β)),(ps.map fun p=>p.1).Nodup->(∀p∈ps,p.1∉qs.map fun p=>p.1)->pairD (ps.map fun p=> .tup false [kV p.1,vV p.2]) (qs.map fun p=>kV p.1) (qs.map fun p=>vV p.2)=some ((qs++ps).map (fun p=>kV p.1),(qs++ps).map fun p=>vV p.2)
 |[],qs,_,_=>by simp [pairD]
 |p::ps,qs,hn,hq=>by
  have e:(qs.map fun p=>kV p.1)=(qs.map fun p=>p.1).map kV:=by simp
  have hp:=hq p (by simp)
  simp only [List.map_cons,pairD]
  rw [if_pos (K.key p.1),putD,e,mf K]
  simp only [List.map_cons,List.nodup_cons] at hn
  rw [decide_eq_false hp]
  have:=kK vV ps (qs++[p]) hn.2 fun r hr=>by
   simp
   refine ⟨fun x hx=> ?_,fun e=>hn.1 ?_⟩
   ·have:=hq r (by simp [hr])
    simp at this
    exact this x hx
   ·rw [←e]
    exact List.mem_map.mpr ⟨r,hr,rfl⟩
  simp at this⊢
  exact this
end
structure Cell where
 b:Int
 k:Int
 d:Int
 t:Int
deriving DecidableEq
structure Bx where
 name:Str
 w:Int
 h:Int
 cold:Int
 sort:Str
 port:Int
noncomputable def aw (c:Cell):Val:= .tup false [.int c.b, .int c.k, .int c.d, .int c.t]
noncomputable def aL (x:Bx):Val:= .tup false [.str x.name, .int x.w, .int x.h, .int x.cold, .str x.sort, .int x.port]
noncomputable def aT (p:Cell×Bx):Val:= .tup false [aw p.1,aL p.2]
@[simp] theorem ID (c:Cell):(aw c).tree=true:=by simp [aw]
@[simp] theorem J7 (c:Bx):(aL c).tree=true:=by simp [aL]
@[simp] theorem Ja (c:Cell×Bx):(aT c).tree=true:=by simp [aT]
theorem um:KOk aw where
 key a:=by simp [aw,bO,uu]
 eq a b:=by
  simp [aw]
  cases a;cases b
  simp
  rw [Bool.eq_iff_iff]
  simp
 kt a b:=by simp [aw,kT]
theorem JS:KOk Val.str where
 key a:=by simp [bO]
 eq a b:=by simp
 kt a b:=by simp [kT]
noncomputable def Cell.key (c:Cell):List Int:=[c.b,c.d,c.k,c.t]
noncomputable def aZ (L:List (Cell×Bx)):List (Cell×Bx):=(bB (L.map fun p=>(p.1.key,p))).map fun z=>z.2
theorem mW {α β:Type} (f:α->β) (k:List Int) (y:α):∀r:List (List Int×α),cV k (f y) (r.map fun z=>(z.1,f z.2))=(cV k y r).map fun z=>(z.1,f z.2)
 |[]=>by simp [cV]
 |z::r=>by
  simp only [List.map_cons,cV]
  split
  ·simp
  ·simp [mW f k y r]
theorem lL {α β:Type} (f:α->β):∀r:List (List Int×α),bB (r.map fun z=>(z.1,f z.2))=(bB r).map fun z=>(z.1,f z.2)
 |[]=>by simp [bB]
 |z::r=>by
  simp only [List.map_cons,bB]
  rw [lL f r,mW]
theorem lI {α:Type} (k:List Int) (y:α):∀r:List (List Int×α),(cV k y r).Perm ((k,y)::r)
 |[]=>by simp [cV]
 |z::r=>by
  unfold cV
  split
  ·exact .refl _
  ·exact ((lI k y r).cons z).trans (.swap _ _ _)
theorem jT {α:Type}:∀r:List (List Int×α),(bB r).Perm r
 |[]=> .refl _
 |z::r=>by
  unfold bB
  exact (lI _ _ _).trans ((jT r).cons z)
theorem ky (L:List (Cell×Bx)):(aZ L).Perm L:=by
 have:=(jT (L.map fun p=>(p.1.key,p))).map (fun z=>z.2)
 have e:((fun z:List Int×(Cell×Bx)=>z.2)∘fun p:Cell×Bx=>(p.1.key,p))=id:=rfl
 simpa [aZ,e] using this
theorem E6 (L:List (Cell×Bx)):((bB ((L.map fun p=>p.1.key).zip (L.map aT))).map fun z=>z.2)=(aZ L).map aT:=by
 have e:(L.map fun p=>p.1.key).zip (L.map aT)=(L.map fun p=>(p.1.key,p)).map fun z=>(z.1,aT z.2):=by
  simp [List.zip_map']
 rw [e,lL]
 simp [aZ]
theorem AK {a b:Cell} (h:a.key=b.key):a=b:=by
 cases a;cases b
 simp [Cell.key] at h
 simp [h]
structure FLoad (P:Pg):Prop extends FPart P where
 f33:P.fn 33=some yE
 f34:P.fn 34=some yd
 f35:P.fn 35=some yi
 f36:P.fn 36=some yz
 f37:P.fn 37=some xD
 i10:((P.cl 10).map (·.init))=some (some 33)
 g10:eU P 10=false
 hs:dQ P 10 "ship"=true
 hp:dQ P 10 "placed"=true
 hc:dQ P 10 "box_by_cell"=true
 hn:dQ P 10 "cell_by_name"=true
noncomputable def iy:List Str:=["ship","placed","box_by_cell","cell_by_name"]
noncomputable def fA (s:Sh) (L:List (Cell×Bx)):List Val:=[bU s, .tup true (L.map aT), .dct (L.map fun p=>aw p.1) (L.map fun p=>aL p.2), .dct (L.map fun p=> .str p.2.name) (L.map fun p=>aw p.1)]
noncomputable def bz (s:Sh) (L:List (Cell×Bx)):Val:= .obj 10 iy (fA s L)
theorem jg (s:Sh) (L:List (Cell×Bx)):trees (fA s L)=true:=by simp [fA,ba]
@[simp] theorem yY (s:Sh) (L:List (Cell×Bx)):(bz s L).tree=true:=by simp [bz,jg]
@[simp] theorem m1:¬(Str.ofString "ship"=Str.ofString "placed"):=by decide
@[simp] theorem m2:¬(Str.ofString "ship"=Str.ofString "box_by_cell"):=by decide
@[simp] theorem m3:¬(Str.ofString "ship"=Str.ofString "cell_by_name"):=by decide
@[simp] theorem m4:¬(Str.ofString "placed"=Str.ofString "box_by_cell"):=by decide
@[simp] theorem m5:¬(Str.ofString "placed"=Str.ofString "cell_by_name"):=by decide
@[simp] theorem m6:¬(Str.ofString "box_by_cell"=Str.ofString "cell_by_name"):=by decide
theorem dX {P:Pg} (F:FLoad P) (s:Sh) (L:List (Cell×Bx)) (st:aa):iB P "ship" (bz s L) st= .ok (bU s) st:=by
 simp [bz,iy,fA,F.hs,dq]
theorem lJ {P:Pg} (F:FLoad P) (s:Sh) (L:List (Cell×Bx)) (st:aa):iB P "placed" (bz s L) st= .ok (.tup true (L.map aT)) st:=by
 simp [bz,iy,fA,F.hp,dq]
theorem nP {P:Pg} (F:FLoad P) (s:Sh) (L:List (Cell×Bx)) (st:aa):iB P "box_by_cell" (bz s L) st= .ok (.dct (L.map fun p=>aw p.1) (L.map fun p=>aL p.2)) st:=by
 simp [bz,iy,fA,F.hc,dq]
theorem vI {P:Pg} (F:FLoad P) (s:Sh) (L:List (Cell×Bx)) (st:aa):iB P "cell_by_name" (bz s L) st= .ok (.dct (L.map fun p=> .str p.2.name) (L.map fun p=>aw p.1)) st:=by
 simp [bz,iy,fA,F.hn,dq]
noncomputable def bS (L:List (Cell×Bx)) (c:Cell):Option Bx:=(L.find? fun p=>p.1=c).map (·.2)
noncomputable def oV (o:Option Bx):Val:=(o.map aL).getD .non
@[simp] theorem KU (o:Option Bx):(oV o).tree=true:=by cases o<;>simp [oV]
theorem dG {P:Pg} (F:FLoad P) (n:Nat) (s:Sh) (L:List (Cell×Bx)) (v:Val) (c:Cell) (st:aa) (hv:res st v=bz s L):call P (n+1) 37 [v,aw c] st= .ok (oV (bS L c)) st:=by
 rw [aq F.f37 _ _ _ rfl]
 unfold xD
 simp [hv,nP F,cx,um.key]
 rw [mi um aL c L]
 simp
 have e:(Option.map (fun p=>aL p.2) (List.find? (fun p=>decide (p.1=c)) L)).getD Val.non=oV (bS L c):=by
  simp [oV,bS]
  cases List.find? (fun p=>decide (p.1=c)) L<;>rfl
 rw [e]
 exact eP P st _ (by simp)
theorem vR {P:Pg} (F:FLoad P) (n:Nat) (s:Sh) (L:List (Cell×Bx)) (v:Val) (c:Cell) (st:aa) (hv:res st v=bz s L) (h:c.t=0∨(bS L ⟨c.b,c.k,c.d,c.t-1⟩).isSome=true):call P (n+2) 36 [v,aw c] st= .ok (.bl true) st:=by
 rw [aq F.f36 _ _ _ rfl]
 unfold yz
 have q:=dG F n s L v ⟨c.b,c.k,c.d,c.t-1⟩ st hv
 unfold aw at q
 simp only at q
 by_cases h0:c.t=0
 ·simp [aw,bA,cut,h0]
 ·have h1:=h.resolve_left h0
  obtain ⟨x,hx⟩:=Option.isSome_iff_exists.mp h1
  have h2:(c.t==0)=false:=by simp [h0]
  rw [hx] at q
  simp [aw,bA,cut,h2,q,oV,aL]
noncomputable def bY (s:Sh) (L:List (Cell×Bx)):Prop:=L.length<64/\(L.map fun p=>p.1).Nodup/\(L.map fun p=>p.2.name).Nodup/\(∀p∈L,∃y,s.sk? p.1.b p.1.k=some y/\(p.1.d=0∨p.1.d=1)/\0<=p.1.t/\p.1.t<(y.pt p.1.d).c)/\∀p∈L,p.1.t=0∨∃q∈L,q.1=⟨p.1.b,p.1.k,p.1.d,p.1.t-1⟩
theorem ph {L:List (Cell×Bx)} {q:Cell×Bx} {c:Cell} (hq:q∈L) (hc:q.1=c):(bS L c).isSome=true:=by
 unfold bS
 rw [Option.isSome_map,List.find?_isSome]
 exact ⟨q,hq,by simp [hc]⟩
theorem ya {P:Pg} (F:FLoad P) (n:Nat) (s:Sh) (L:List (Cell×Bx)) (v:Val) (st:aa) (hv:res st v=bz s L) (h:bY s L):call P (n+5) 35 [v] st= .ok .non st:=by
 rw [aq F.f35 _ _ _ rfl]
 unfold yi
 obtain ⟨h1,h2,h3,h4,h5⟩:=h
 have ek:(L.map fun p=>aw p.1).map gP=L.map fun p=>aw p.1:=by simp [aw,gP]
 simp [hv,nP F,lJ F,vI F]
 have ek2:gP∘(fun p:Cell×Bx=>aw p.1)=fun p=>aw p.1:=by funext p;simp [aw,gP]
 rw [ek2]
 obtain ⟨env',st',e,hI⟩:=pR (t:= .var 1) (body:=fY P (call P (n+4)) [.ife (.not (.call 31 [.fld (.var 0) "ship", .var 1])) [rz] [], .ife (.not (.call 36 [.var 0, .var 1])) [rz] []]) (chk:=[]) (fun _ env st'=>st'=st/\∃x,env=[some v,x]) (L.map fun p=>aw p.1) [some v,none] st ⟨rfl,_,rfl⟩ (fun _ _ st _=>bD st) fun i w env st' e hI=>by
  obtain ⟨rfl,x,rfl⟩:=hI
  simp at e
  obtain ⟨c,⟨y,e⟩,rfl⟩:=e
  have hm:=List.mem_of_getElem? e
  obtain ⟨sk,a1,a2,a3,a4⟩:=h4 _ hm
  refine ⟨[some v,some (aw c)],rfl,[some v,some (aw c)],st', .inl ?_,rfl,_,rfl⟩
  have q1:=qW F.toFPart n s false c.b c.k c.d c.t sk st' a1 a2 a3 a4
  have q2:=vR F (n+2) s L v c st' hv ((h5 _ hm).imp id fun z900=>by obtain ⟨q,hq,e⟩:=z900;exact ph hq e)
  have e1:aw c= .tup false [.int c.b, .int c.k, .int c.d, .int c.t]:=rfl
  rw [←e1] at q1
  simp [hv,dX F,q1,q2]
 rw [e,hI.1]
 simp
theorem ou {P:Pg} (F:FLoad P) (n:Nat) (p:Cell×Bx) (st:aa):call P (n+2) 34 [aT p] st= .ok (.tup false [.int p.1.b, .int p.1.d, .int p.1.k, .int p.1.t]) st:=by
 rw [aq F.f34 _ _ _ rfl]
 unfold yd
 simp [aT,aw,oj F.toFPart]
theorem pY {P:Pg} (F:FLoad P) (n:Nat) (st:aa):∀(L:List (Cell×Bx)) (dn:List Val),eF (call P (n+2)) 34 st (L.map aT) dn= .ok (dn++L.map fun p=> .tup false (p.1.key.map .int)) (st++[.lst (dn++L.map fun p=> .tup false (p.1.key.map .int))])
 |[],dn=>by simp [eF]
 |p::L,dn=>by
  simp only [List.map_cons,eF]
  rw [ou F]
  simp
  have:=pY F n st L (dn++[.tup false (p.1.key.map .int)])
  simp [Cell.key] at this⊢
  exact this
theorem kE:∀(L:List (Cell×Bx)),du (L.map fun p=> .tup false (p.1.key.map .int))=some (L.map fun p=>p.1.key)
 |[]=>by simp [du]
 |p::L=>by simp [du,Co,lT,Cell.key,kE L];exact kE L
theorem ni {α β:Type} {f:α->β} (hf:∀a b,f a=f b->a=b):∀{l:List α},l.Nodup->(l.map f).Nodup
 |[],_=>by simp
 |a::l,h=>by
  simp only [List.map_cons,List.nodup_cons] at h⊢
  refine ⟨fun hm=> ?_,ni hf h.2⟩
  obtain ⟨b,hb,e⟩:=List.mem_map.mp hm
  rw [hf b a e] at hb
  exact h.1 hb
theorem keys_nodup {L:List (Cell×Bx)} (h:(L.map fun p=>p.1).Nodup):(L.map fun p=>p.1.key).Nodup:=by
 have e:(L.map fun p=>p.1.key)=(L.map fun p=>p.1).map Cell.key:=by simp
 rw [e]
 exact ni (fun a b h=>AK h) h
theorem mH {P:Pg} (F:FLoad P) (n:Nat) (st:aa) (L:List (Cell×Bx)) (hl:L.length<64) (hn:(L.map fun p=>p.1).Nodup):oC (call P (n+2)) 34 st (.lst (L.map aT))= .ok (.ref (st.length+1)) (st++[.lst [], .lst ((aZ L).map aT)]):=by
 have h:=pY F n st L []
 simp at h
 simp [hl]
 rw [h]
 simp
 rw [kE]
 simp [iq]
 rw [bt ⟨hl,keys_nodup hn,4,by lia,fun a b c _ e=>by subst e;simp [Cell.key]⟩,E6]
 simp [new]
theorem vU (st g:aa) (j:Nat) (ks vs:List Val) (hj:g[j]?=some (.dct ks vs)) (hv:trees vs=true):se st (.ref (st.length+j)) (st++g)= .ok (.dct ks vs) st:=by
 have hlt:j<g.length:=(List.getElem?_eq_some_iff.mp hj).1
 unfold se
 rw [if_pos (fk st g)]
 have e:(Val.ref (st.length+j)).aC (st++g) st.length (st++g).length=some (.dct ks vs):=by
  simp [Val.aC,Val.sub,ja,hj,cq _ _ hv]
  rw [if_neg (by lia),if_neg (by lia)]
 rw [e]
 simp
theorem gH {α β:Type} {a b:List α} (f:α->β) (h:a.Perm b) (hb:(b.map f).Nodup):(a.map f).Nodup:=((h.map f).nodup_iff).mpr hb
theorem bY.aZ {s:Sh} {L:List (Cell×Bx)} (h:bY s L):bY s (aZ L):=by
 obtain ⟨h1,h2,h3,h4,h5⟩:=h
 have p:=ky L
 refine ⟨by rw [p.length_eq];exact h1,gH _ p h2,gH _ p h3,fun q hq=>h4 q (p.mem_iff.mp hq),fun q hq=> ?_⟩
 refine (h5 q (p.mem_iff.mp hq)).imp id fun z900=>by obtain ⟨r,hr,e⟩:=z900;exact ⟨r,p.mem_iff.mpr hr,e⟩
theorem BO (L:List (Cell×Bx)) (st:aa) (hl:L.length<64) (hn:(L.map fun p=>p.1).Nodup):newD (L.map aT) st= .ok (.ref st.length) (st++[.dct (L.map fun p=>aw p.1) (L.map fun p=>aL p.2)]):=by
 unfold newD
 have:=kK um aL L [] hn (by simp)
 simp at this
 rw [bt (by simp;lia)]
 have e:L.map aT=L.map fun p=> .tup false [aw p.1,aL p.2]:=rfl
 rw [e,this]
 simp [new]
theorem yL (L:List (Cell×Bx)) (st:aa) (hl:L.length<64) (hn:(L.map fun p=>p.2.name).Nodup):newD (L.map fun p=> .tup false [.str p.2.name,aw p.1]) st= .ok (.ref st.length) (st++[.dct (L.map fun p=> .str p.2.name) (L.map fun p=>aw p.1)]):=by
 unfold newD
 have:=kK JS aw (L.map fun p=>(p.2.name,p.1)) [] (by rw [List.map_map];exact hn) (by simp)
 simp at this
 rw [bt (by simp;lia)]
 have e:(L.map fun p=>Val.tup false [.str p.2.name,aw p.1])=List.map ((fun p:Str×Cell=>Val.tup false [Val.str p.1,aw p.2])∘fun p:Cell×Bx=>(p.2.name,p.1)) L:=rfl
 rw [e,this]
 simp [new]
theorem vD {P:Pg} (F:FLoad P) (n:Nat) (s:Sh) (L:List (Cell×Bx)) (v:Val) (st:aa) (hv:res st v= .lst (L.map aT)) (h:bY s L):
  call P (n+6) 33 [.ref st.length,bU s,v] (st++[.ins 10 [] []])= .ok .non (st++[.ins 10 iy (fA s (aZ L))]):=by
 rw [aq F.f33 _ _ _ rfl]
 unfold yE
 have hS:=h.aZ
 have hS':=h.aZ
 obtain ⟨h1,h2,h3,h4,h5⟩:=h
 obtain ⟨s1,s2,s3,s4,s5⟩:=hS
 have hv1:=gw (g:=[.ins 10 ["ship"] [bU s]]) hv
 have q1:=mH F (n+3) (st++[.ins 10 ["ship"] [bU s]]) L h1 h2
 have q2:=BO (aZ L) (st++[.ins 10 ["ship","placed"] [bU s, .tup true ((aZ L).map aT)], .lst [], .lst ((aZ L).map aT)]) s1 s2
 have q3:=yL (aZ L) (st++[.ins 10 ["ship","placed","box_by_cell"] [bU s, .tup true ((aZ L).map aT), .dct ((aZ L).map fun p=>aw p.1) ((aZ L).map fun p=>aL p.2)], .lst [], .lst ((aZ L).map aT), .lst ((aZ L).map fun p=> .tup false [.str p.2.name,aw p.1])]) s1 s3
 have q4:=ya F n s (aZ L) (.ref st.length) (st++[.ins 10 iy (fA s (aZ L)), .lst [], .lst ((aZ L).map aT)]) (by simp [bz]) hS'
 have z2:=vU (st++[.ins 10 ["ship","placed"] [bU s, .tup true ((aZ L).map aT)], .lst [], .lst ((aZ L).map aT)]) [.dct ((aZ L).map fun p=>aw p.1) ((aZ L).map fun p=>aL p.2)] 0 _ _ rfl (ba _ _ fun p=>by simp)
 have z3:=vU (st++[.ins 10 ["ship","placed","box_by_cell"] [bU s, .tup true ((aZ L).map aT), .dct ((aZ L).map fun p=>aw p.1) ((aZ L).map fun p=>aL p.2)], .lst [], .lst ((aZ L).map aT)]) [.lst ((aZ L).map fun p=> .tup false [.str p.2.name,aw p.1]), .dct ((aZ L).map fun p=> .str p.2.name) ((aZ L).map fun p=>aw p.1)] 1 _ _ rfl (ba _ _ fun p=>by simp)
 have hc:∀(cl:ar) (env:Env) (S:aa),aB (Tn P cl 2 [] (.tup [.var 0, .var 1]) none (.tup [.idx (.var 1) (.const (.int 0)), .var 0]) env) [] ((aZ L).map aT) S= .ok ((aZ L).map fun p=> .tup false [.str p.2.name,aw p.1]) S:=by
  intro cl env S
  refine comp_map (bD S) _ _ _ fun p _=> ?_
  simp [Tn,aM,av,aT,aL]
 have l2:(aZ L).length<=10000:=by lia
 simp [Nat.add_assoc] at q1 q2 q3 z2 z3
 simp [F.hs,F.hp,F.hc,F.hn,aQ,hv1,q1,dq,q2,z2,q3,z3,hc,l2,T.low,lows,new,Nat.add_assoc]
 simp [iy,fA] at q4
 rw [q4]
 simp
 exact pP P st _ 10 10 [] iy [] (fA s (aZ L)) .non (by simp) (jg _ _)
theorem jv {P:Pg} (F:FLoad P) (n:Nat) (s:Sh) (L:List (Cell×Bx)) (v:Val) (st:aa) (hv:res st v= .lst (L.map aT)) (h:bY s L):
  fe P (call P (n+6)) 10 [bU s,v] st ((P.cl 10).map (·.init))= .ok (bz s (aZ L)) st:=by
 rw [F.i10]
 simp [vD F n s L v st hv h]
 unfold fin
 rw [if_pos (fk _ _)]
 simp [F.g10,bR,jg,bz]
end PI
namespace PI
open PySem
structure FRule (P:Pg):Prop extends FLoad P where
 f52:P.fn 52=some Eu
 f53:P.fn 53=some xU
 f54:P.fn 54=some Cd
 f55:P.fn 55=some zG
 f56:P.fn 56=some zr
 f57:P.fn 57=some xW
 f58:P.fn 58=some yf
 f59:P.fn 59=some wV
 f60:P.fn 60=some yI
 f61:P.fn 61=some w4
 f62:P.fn 62=some xN
 f63:P.fn 63=some yP
 f64:P.fn 64=some wR
 f65:P.fn 65=some xB
 f66:P.fn 66=some yW
 f67:P.fn 67=some zv
 f68:P.fn 68=some xC
 i11:((P.cl 11).map (·.init))=some none/\eU P 11=false
 i12:((P.cl 12).map (·.init))=some none/\eU P 12=false
 i13:((P.cl 13).map (·.init))=some none/\eU P 13=false
 i14:((P.cl 14).map (·.init))=some none/\eU P 14=false
 i15:((P.cl 15).map (·.init))=some none/\eU P 15=false
 i16:((P.cl 16).map (·.init))=some none/\eU P 16=false
 m11:((P.cl 11).map (·.meths))=some [(("word":Str),52),(("broken":Str),53),(("breaks":Str),54)]
 m12:((P.cl 12).map (·.meths))=some [(("word":Str),55),(("breaks":Str),56),(("broken":Str),53)]
 m13:((P.cl 13).map (·.meths))=some [(("word":Str),57),(("breaks":Str),58),(("broken":Str),53)]
 m14:((P.cl 14).map (·.meths))=some [(("word":Str),59),(("breaks":Str),60),(("broken":Str),53)]
 m15:((P.cl 15).map (·.meths))=some [(("word":Str),61),(("breaks":Str),62),(("broken":Str),53)]
 m16:((P.cl 16).map (·.meths))=some [(("word":Str),63),(("breaks":Str),64),(("broken":Str),53)]
noncomputable def au:Int->Nat->List Int
 |_,0=>[]
 |lo,n+1=>lo::au (lo+1) n
theorem iQ:∀(n:Nat) (lo:Int),aX lo n=(au lo n).map .int
 |0,_=>rfl
 |n+1,lo=>by simp [aX,au,iQ n]
@[simp] theorem kH:∀(n:Nat) (lo:Int),(au lo n).length=n
 |0,_=>rfl
 |n+1,lo=>by simp [au,kH n]
theorem cU:∀{n:Nat} {lo x:Int},x∈au lo n↔lo<=x/\x<lo+n
 |0,lo,x=>by simp [au]
 |n+1,lo,x=>by
  simp [au,cU (n:=n)]
  lia
theorem o6 {g:Int->Val}:∀(n:Nat) (lo:Int),eV lo ((au lo n).map g)=(au lo n).map fun i=> .tup false [.int i,g i]
 |0,_=>by simp [au,eV]
 |n+1,lo=>by simp [au,eV,o6 n]
theorem rp:∀(xs:List Int) (a:Int),gr a (xs.map .int)=some (a+xs.sum)
 |[],a=>by simp
 |x::xs,a=>by simp [rp xs,Int.add_assoc]
theorem j8 {α:Type} (f:α->Int) (xs:List α):gr 0 (xs.map fun a=> .int (f a))=some (xs.map f).sum:=by
 have:=rp (xs.map f) 0
 rw [List.map_map] at this
 simp at this
 exact this
theorem gM {α:Type} [DecidableEq α] {kV:α->Val} (he:∀a b,eqv 8 (kV a) (kV b)=some (decide (a=b))) (a:α):∀xs:List α,cg (kV a) (xs.map kV)=some (decide (a∈xs))
 |[]=>by simp [cg]
 |b::xs=>by
  simp only [List.map_cons,cg]
  rw [he,gM he a xs]
  simp
  by_cases h:b=a
  ·simp [h]
  ·have h2:¬a=b:=fun e=>h e.symm
   simp [h,h2]
theorem eq_int (a b:Int):eqv 8 (.int a) (.int b)=some (decide (a=b)):=by
 simp
 rw [Bool.eq_iff_iff]
 simp
theorem vY (a b:Str×Str):eqv 8 (cP a) (cP b)=some (decide (a=b)):=by
 obtain ⟨a1,a2⟩:=a
 obtain ⟨b1,b2⟩:=b
 simp [cP]
noncomputable def bx0:Bx:=⟨"",0,0,0,"",0⟩
noncomputable def lp (c:Cell) (i:Int):Cell:=⟨c.b,c.k,c.d,i⟩
noncomputable def aY (L:List (Cell×Bx)) (c:Cell) (i:Int):Bx:=(bS L (lp c i)).getD bx0
theorem AR {L:List (Cell×Bx)} (hn:(L.map fun p=>p.1).Nodup) {p:Cell×Bx} (hp:p∈L):bS L p.1=some p.2:=by
 unfold bS
 induction L with
 |nil=>cases hp
 |cons q L ih=>
  simp only [List.map_cons,List.nodup_cons] at hn
  rcases List.mem_cons.mp hp with rfl|hp
  ·simp
  ·have:¬q.1=p.1:=fun e=>hn.1 (e▸List.mem_map.mpr ⟨p,hp,rfl⟩)
   rw [List.find?_cons_of_neg (by simp [this])]
   exact ih hn.2 hp
theorem DB {L:List (Cell×Bx)} {c:Cell} {x:Bx} (h:bS L c=some x):(c,x)∈L:=by
 unfold bS at h
 cases e:L.find? (fun p=>p.1=c) with
 |none=>rw [e] at h;cases h
 |some p=>
  rw [e] at h
  cases h
  have h1:=List.mem_of_find?_eq_some e
  have h2:=List.find?_some e
  simp at h2
  rw [←h2]
  exact h1
theorem full {s:Sh} {L:List (Cell×Bx)} (h:bY s L) {p:Cell×Bx} (hp:p∈L):∀i,0<=i->i<=p.1.t->bS L (lp p.1 i)=some (aY L p.1 i):=by
 have g:∀(j:Nat) (i:Int),0<=i->i+j=p.1.t->∃q∈L,q.1=lp p.1 i:=by
  intro j
  induction j with
  |zero=>
   intro i i0 e
   refine ⟨p,hp, ?_⟩
   simp at e
   rw [e]
   rfl
  |succ j ih=>
   intro i i0 e
   obtain ⟨q,hq,eq⟩:=ih (i+1) (by lia) (by push_cast at e;lia)
   rcases h.2.2.2.2 q hq with e2|⟨r,hr,er⟩
   ·rw [eq] at e2
    simp [lp] at e2
    lia
   ·refine ⟨r,hr, ?_⟩
    rw [er,eq]
    simp [lp]
 intro i i0 i1
 obtain ⟨q,hq,eq⟩:=g (p.1.t-i).toNat i i0 (by lia)
 obtain ⟨x,hx⟩:=Option.isSome_iff_exists.mp (ph hq eq)
 unfold aY
 rw [hx]
 rfl
structure CeAt (s:Sh) (L:List (Cell×Bx)) (c:Cell) (y:Sk):Prop where
 sk:s.sk? c.b c.k=some y
 d:c.d=0∨c.d=1
 t0:0<=c.t
 t1:c.t<=8
 k1:c.k<20
 up:∀i,0<=i->i<=c.t->bS L (lp c i)=some (aY L c i)
theorem FJ {s:Sh} (hs:s.Ok) {L:List (Cell×Bx)} (h:bY s L) {p:Cell×Bx} (hp:p∈L):∃y,CeAt s L p.1 y:=by
 obtain ⟨y,h1,h2,h3,h4⟩:=h.2.2.2.1 p hp
 obtain ⟨_,_,z,e1,e2,_,k1⟩:=pA h1
 have hz:=hs.2.2.2.1 z (List.mem_of_getElem? e1)
 have hy:=hz.2.2 y (List.mem_of_getElem? e2)
 have hc:(y.pt p.1.d).c<=9:=by
  unfold Sk.pt
  split
  ·exact hy.1.1.2
  ·exact hy.2.1.2
 have:=hz.2.1
 exact ⟨y,h1,h2,h3,by lia,by lia,full h hp⟩
noncomputable def mz (L:List (Cell×Bx)) (c:Cell):Int:=((au 0 (c.t+1).toNat).map fun i=>(aY L c i).w).sum
noncomputable def mj (L:List (Cell×Bx)) (c:Cell):Int:=((au 0 (c.t+1).toNat).map fun i=>(aY L c i).h).sum
noncomputable def lX (L:List (Cell×Bx)) (c:Cell):Int:=((au 0 (c.t+1).toNat).map fun i=>(aY L c i).w*(i+1)).sum
section
variable {P:Pg} (F:FRule P) (n:Nat) (s:Sh) (L:List (Cell×Bx)) (c:Cell) (y:Sk) (h:CeAt s L c y) (st:aa)
include F h
theorem tD:call P (n+2) 65 [bz s L,aw c] st= .ok (.ref st.length) (st++[.lst ((au 0 (c.t+1).toNat).map fun i=>aL (aY L c i))]):=by
 rw [aq F.f65 _ _ _ rfl]
 unfold xB
 have h1:0<=c.t+1:=by have:=h.t0;lia
 have h2:c.t+1<16777216:=by have:=h.t1;lia
 have h3:(c.t+1).toNat<=10000:=by have:=h.t1;lia
 have hc:aB (Tn P (call P (n+1)) 1 [1,0] (.var 0) none (.call 37 [.var 2, .bin .Add (.slc (.var 1) none (some (.const (.int 3)))) (.tup [.var 0])]) [some (bz s L),some (aw c)]) [] (aX 0 (c.t+1).toNat) st= .ok ((au 0 (c.t+1).toNat).map fun i=>aL (aY L c i)) st:=by
  rw [iQ]
  refine comp_map (bD st) _ _ _ fun i hi=> ?_
  have hi:=cU.mp hi
  have q:=dG F.toFLoad n s L (bz s L) (lp c i) st (by simp)
  rw [h.up i (by lia) (by lia)] at q
  simp [Tn,aM,av,aw,bA,cut,lp,oV] at q⊢
  rw [q]
  rfl
 have e:aw c= .tup false [.int c.b, .int c.k, .int c.d, .int c.t]:=rfl
 rw [e] at hc⊢
 simp [h1,h2,h3,T.low,hc,new]
 exact fE P st [.lst _] 0 _ _ rfl (bR _ _ _ _ (ba _ _ fun a=>by simp))
theorem qU (v0:Val):call P (n+4) 56 [v0,bz s L,aw c] st= .ok (.bl (decide ((y.pt c.d).s<mz L c))) st:=by
 rw [aq F.f56 _ _ _ rfl]
 unfold zr
 have q1:=tD F (n+1) s L c y h st
 have l:(c.t+1).toNat<=10000:=by have:=h.t1;lia
 have hc:∀env,aB (Tn P (call P (n+3)) 1 [] (.var 0) none (.idx (.var 0) (.const (.int 1))) env) [(st.length, .lst ((au 0 (c.t+1).toNat).map fun i=>aL (aY L c i)))] ((au 0 (c.t+1).toNat).map fun i=>aL (aY L c i)) (st++[.lst ((au 0 (c.t+1).toNat).map fun i=>aL (aY L c i))])= .ok ((au 0 (c.t+1).toNat).map fun i=> .int (aY L c i).w) (st++[.lst ((au 0 (c.t+1).toNat).map fun i=>aL (aY L c i))]):=fun env=>by
  refine comp_map (fun p hp=>by simp at hp;subst hp;simp) _ _ _ fun i hi=> ?_
  simp [Tn,aM,av,aL]
 have q2:=cW F.toFPart n s false c.b c.k c.d y (st++[.lst ((au 0 (c.t+1).toNat).map fun i=>aL (aY L c i)), .lst ((au 0 (c.t+1).toNat).map fun i=> .int (aY L c i).w)]) h.sk h.d
 have e:aw c= .tup false [.int c.b, .int c.k, .int c.d, .int c.t]:=rfl
 rw [e] at q1⊢
 have f:=fun b=>eB P st [.lst ((au 0 (c.t+1).toNat).map fun i=>aL (aY L c i)), .lst ((au 0 (c.t+1).toNat).map fun i=> .int (aY L c i).w)] (.bl b) (by simp)
 simp [q1,hc,l,T.low,new,j8,dX F.toFLoad,bA,cut,q2,dS,mz,f]
 exact decide_eq_decide.mpr Iff.rfl
theorem vL (v0:Val):call P (n+4) 58 [v0,bz s L,aw c] st= .ok (.bl (decide ((y.pt c.d).h<mj L c))) st:=by
 rw [aq F.f58 _ _ _ rfl]
 unfold yf
 have q1:=tD F (n+1) s L c y h st
 have l:(c.t+1).toNat<=10000:=by have:=h.t1;lia
 have hc:∀env,aB (Tn P (call P (n+3)) 1 [] (.var 0) none (.idx (.var 0) (.const (.int 2))) env) [(st.length, .lst ((au 0 (c.t+1).toNat).map fun i=>aL (aY L c i)))] ((au 0 (c.t+1).toNat).map fun i=>aL (aY L c i)) (st++[.lst ((au 0 (c.t+1).toNat).map fun i=>aL (aY L c i))])= .ok ((au 0 (c.t+1).toNat).map fun i=> .int (aY L c i).h) (st++[.lst ((au 0 (c.t+1).toNat).map fun i=>aL (aY L c i))]):=fun env=>by
  refine comp_map (fun p hp=>by simp at hp;subst hp;simp) _ _ _ fun i hi=> ?_
  simp [Tn,aM,av,aL]
 have q2:=cW F.toFPart n s false c.b c.k c.d y (st++[.lst ((au 0 (c.t+1).toNat).map fun i=>aL (aY L c i)), .lst ((au 0 (c.t+1).toNat).map fun i=> .int (aY L c i).h)]) h.sk h.d
 have e:aw c= .tup false [.int c.b, .int c.k, .int c.d, .int c.t]:=rfl
 rw [e] at q1⊢
 have f:=fun b=>eB P st [.lst ((au 0 (c.t+1).toNat).map fun i=>aL (aY L c i)), .lst ((au 0 (c.t+1).toNat).map fun i=> .int (aY L c i).h)] (.bl b) (by simp)
 simp [q1,hc,l,T.low,new,j8,dX F.toFLoad,bA,cut,q2,dS,mj,f]
 exact decide_eq_decide.mpr Iff.rfl
theorem AU (v0:Val):call P (n+4) 64 [v0,bz s L,aw c] st= .ok (.bl (decide (c.d=1)&&decide ((y.pt c.d).l<lX L c))) st:=by
 rw [aq F.f64 _ _ _ rfl]
 unfold wR
 have q1:=tD F (n+1) s L c y h st
 have l:(c.t+1).toNat<=10000:=by have:=h.t1;lia
 have hc:∀env,aB (Tn P (call P (n+3)) 2 [] (.tup [.var 0, .var 1]) none (.bin .Mult (.idx (.var 1) (.const (.int 1))) (.bin .Add (.var 0) (.const (.int 1)))) env) [(st.length, .lst ((au 0 (c.t+1).toNat).map fun i=>aL (aY L c i)))] ((au 0 (c.t+1).toNat).map fun i=> .tup false [.int i,aL (aY L c i)]) (st++[.lst ((au 0 (c.t+1).toNat).map fun i=>aL (aY L c i))])= .ok ((au 0 (c.t+1).toNat).map fun i=> .int ((aY L c i).w*(i+1))) (st++[.lst ((au 0 (c.t+1).toNat).map fun i=>aL (aY L c i))]):=fun env=>by
  refine comp_map (fun p hp=>by simp at hp;subst hp;simp) _ _ _ fun i hi=> ?_
  have hi:=cU.mp hi
  have t1:=h.t1
  have hm:(i+1).natAbs<2^64:=by lia
  simp [Tn,aM,av,aL,hm]
 have q2:=cW F.toFPart n s false c.b c.k c.d y (st++[.lst ((au 0 (c.t+1).toNat).map fun i=>aL (aY L c i)), .lst ((au 0 (c.t+1).toNat).map fun i=> .int ((aY L c i).w*(i+1)))]) h.sk h.d
 have e:aw c= .tup false [.int c.b, .int c.k, .int c.d, .int c.t]:=rfl
 rw [e] at q1⊢
 have f:=fun b=>eB P st [.lst ((au 0 (c.t+1).toNat).map fun i=>aL (aY L c i)), .lst ((au 0 (c.t+1).toNat).map fun i=> .int ((aY L c i).w*(i+1)))] (.bl b) (by simp)
 simp [q1,o6,hc,l,T.low,lows,new,j8,dX F.toFLoad,bA,cut,q2,dS,lX,f]
 rw [Bool.eq_iff_iff]
 simp
 intro _
 exact (decide_eq_true_iff).symm
theorem BQ (v0:Val):call P (n+4) 60 [v0,bz s L,aw c] st= .ok (.bl (decide ((aY L c c.t).cold=1)&& !decide (c.t∈(y.pt c.d).p))) st:=by
 rw [aq F.f60 _ _ _ rfl]
 unfold yI
 have q1:=dG F.toFLoad (n+2) s L (bz s L) c st (by simp)
 have hu:bS L c=some (aY L c c.t):=h.up c.t h.t0 (by lia)
 rw [hu] at q1
 have q2:=cW F.toFPart n s false c.b c.k c.d y st h.sk h.d
 have q3:=gM (kV:=Val.int) eq_int c.t (y.pt c.d).p
 have e:aw c= .tup false [.int c.b, .int c.k, .int c.d, .int c.t]:=rfl
 rw [e] at q1⊢
 simp [q1,oV,aL,dX F.toFLoad,bA,cut,q2,dS,q3]
 rw [Bool.eq_iff_iff]
 simp
end
end PI
namespace PI
open PySem
noncomputable def gN (c e:Cell):Bool:=decide (c.b=e.b/\c.d=e.d/\(c.k-e.k).natAbs<=1/\(c.t-e.t).natAbs<=1/\c≠e)
theorem Be {P:Pg} (F:FRule P) (n:Nat) (c e:Cell) (st:aa):call P (n+1) 67 [aw c,aw e] st= .ok (.bl (gN c e)) st:=by
 rw [aq F.f67 _ _ _ rfl]
 unfold zv
 obtain ⟨b,k,d,t⟩:=c
 obtain ⟨b',k',d',t'⟩:=e
 simp [aw]
 cases hb:(!b==b'|| !d==d') with
 |true=>
  have:gN ⟨b,k,d,t⟩ ⟨b',k',d',t'⟩=false:=by
   simp [gN] at hb⊢
   lia
  simp [this]
 |false=>
  simp
  rw [Bool.eq_iff_iff]
  simp [gN] at hb⊢
  lia
noncomputable def around (c:Cell):List Cell:=(au (c.k-1) 3).flatMap fun k=>(au (c.t-1) 3).map fun t=>⟨c.b,k,c.d,t⟩
noncomputable def bG (c:Cell):List Cell:=(around c).filter (gN c)
theorem dY {α β:Type} (f:α->Bool) (g:α->β):∀l:List α,(l.filterMap fun a=>if f a=true then some (g a) else none)=(l.filter f).map g
 |[]=>rfl
 |a::l=>by
  rw [List.filterMap_cons,List.filter_cons,dY f g l]
  cases f a<;>simp
theorem ow {P:Pg} (F:FRule P) (n:Nat) (c:Cell) (k0: -1000<c.k) (k1:c.k<1000) (t0: -1000<c.t) (t1:c.t<1000) (st:aa):call P (n+2) 68 [aw c] st= .ok (.ref st.length) (st++[.lst ((bG c).map aw)]):=by
 rw [aq F.f68 _ _ _ rfl]
 unfold xC
 have a1: -16777216<c.k-1:=by lia
 have a2:c.k-1<16777216:=by lia
 have a3: -16777216<c.k+2:=by lia
 have a4:c.k+2-(c.k-1)<16777216:=by lia
 have a5:(c.k+2-(c.k-1)).toNat=3:=by lia
 have b1: -16777216<c.t-1:=by lia
 have b2:c.t-1<16777216:=by lia
 have b3: -16777216<c.t+2:=by lia
 have b4:c.t+2-(c.t-1)<16777216:=by lia
 have b5:(c.t+2-(c.t-1)).toNat=3:=by lia
 obtain ⟨l,hL⟩:∃l:Int->List Cell,l=fun k=>[⟨c.b,k,c.d,c.t-1⟩,⟨c.b,k,c.d,c.t⟩,⟨c.b,k,c.d,c.t+1⟩]:=⟨_,rfl⟩
 have hc:∀(k:Int) (x:Option Val) (S:aa),aB (Tn P (call P (n+1)) 1 [0,2] (.var 0) none (.tup [.idx (.var 1) (.const (.int 0)), .var 2, .idx (.var 1) (.const (.int 2)), .var 0]) [some (aw c),x,some (.int k)]) [] [.int (c.t-1), .int c.t, .int (c.t+1)] S= .ok ((l k).map aw) S:=fun k x S=>by
  rw [hL]
  refine eQ (bD S) ⟨?_, ?_, ?_,trivial⟩<;>simp [Tn,aM,av,aw]
 have hl:∀k,(l k).length=3:=fun k=>by rw [hL];rfl
 have e:aw c= .tup false [.int c.b, .int c.k, .int c.d, .int c.t]:=rfl
 have hd:∀(x y:Option Val) (S:aa) (chk:List (Nat×Ob)),Kept chk S->aB (Tn P (call P (n+1)) 1 [0] (.var 0) (some (.call 67 [.var 1, .var 0])) (.var 0) [some (aw c),x,y]) chk ((around c).map aw) S= .ok ((bG c).map aw) S:=fun x y S chk hk=>by
  have:=dw (f:=Tn P (call P (n+1)) 1 [0] (.var 0) (some (.call 67 [.var 1, .var 0])) (.var 0) [some (aw c),x,y]) hk aw (fun e=>if gN c e=true then some (aw e) else none) (around c) fun e _=>by
   simp [Tn,aM,av,Be F]
   cases gN c e<;>rfl
  rw [this,dY]
  rfl
 have hA:around c=l (c.k-1)++(l c.k++l (c.k+1)):=by
  rw [hL]
  simp [around,au]
 rw [hA] at hd
 rw [e] at hc hd⊢
 simp [new,a1,a2,a3,a4,a5,aX,-qK,b1,b2,b3,b4,b5,hc,T.low,cx,hl]
 simp only [List.map_append] at hd
 rw [hd _ _ _ _ (fun p hp=>by simp at hp;subst hp;simp)]
 simp
 exact fE P st [_,_,_,_, .lst ((bG c).map aw)] 4 _ _ rfl (bR _ _ _ _ (ba _ _ fun a=>by simp))
noncomputable def vt (s:Sh) (a b:Str):Bool:=decide ((a,b)∈s.foes)||decide ((b,a)∈s.foes)
theorem Bw {P:Pg} (F:FRule P) (n:Nat) (s:Sh) (a b:Str) (st:aa):call P (n+1) 66 [bU s, .str a, .str b] st= .ok (.bl (vt s a b)) st:=by
 rw [aq F.f66 _ _ _ rfl]
 unfold yW
 have q1:=gM vY (a,b) s.foes
 have q2:=gM vY (b,a) s.foes
 simp only [cP] at q1 q2
 simp [yn F.toFShip,q1,q2,vt]
 congr 1<;>exact decide_eq_decide.mpr Iff.rfl
noncomputable def Ep (s:Sh) (L:List (Cell×Bx)) (c:Cell) (a:Str):Bool:=(bG c).any fun e=>match bS L e with
 |some x=>vt s a x.sort
 |none=>false
theorem eW {α:Type} (f:α->Option Bx) (g:Bx->Bool):∀l:List α,anyB (l.filterMap fun a=>(f a).map fun x=>Val.bl (g x))=some (l.any fun a=>match f a with
 |some x=>g x
 |none=>false)
 |[]=>by simp
 |a::l=>by
  rw [List.filterMap_cons,List.any_cons]
  cases e:f a with
  |none=>simp [e,eW f g l]
  |some x=>simp [e,eW f g l]
theorem za {P:Pg} (F:FRule P) (n:Nat) (s:Sh) (L:List (Cell×Bx)) (c:Cell) (y:Sk) (h:CeAt s L c y) (st:aa) (v0:Val):call P (n+4) 62 [v0,bz s L,aw c] st= .ok (.bl (Ep s L c (aY L c c.t).sort)) st:=by
 rw [aq F.f62 _ _ _ rfl]
 unfold xN
 have q1:=dG F.toFLoad (n+2) s L (bz s L) c st (by simp)
 have hu:bS L c=some (aY L c c.t):=h.up c.t h.t0 (by lia)
 rw [hu] at q1
 have kk:=pA h.sk
 have q2:=ow F (n+1) c (by have:=kk.2.1;lia) (by have:=h.k1;lia) (by have:=h.t0;lia) (by have:=h.t1;lia) st
 have hl:(bG c).length<=10000:=by
  have h1:(bG c).length<=(around c).length:=List.length_filter_le _ _
  have h2:(around c).length=9:=by simp [around,au]
  lia
 have hc:∀x y z w,aB (Tn P (call P (n+3)) 1 [1] (.var 0) none (.call 37 [.var 1, .var 0]) [x,some (bz s L),y,z,w]) [(st.length, .lst ((bG c).map aw))] ((bG c).map aw) (st++[.lst ((bG c).map aw)])= .ok ((bG c).map fun e=>oV (bS L e)) (st++[.lst ((bG c).map aw)]):=fun x y z w=>by
  refine comp_map (fun p hp=>by simp at hp;subst hp;simp) _ _ _ fun e _=> ?_
  simp [Tn,aM,av,dG F.toFLoad (n+2) s L (bz s L) e _ (kh _ _ (yY s L))]
 have hd:∀x y w,aB (Tn P (call P (n+3)) 1 [1,3] (.var 0) (some (.cmp .IsNot (.var 0) (.const (.non)))) (.call 66 [.fld (.var 1) "ship", .var 2, .idx (.var 0) (.const (.int 4))]) [x,some (bz s L),y,some (.str (aY L c c.t).sort),w]) [(st.length+1, .lst ((bG c).map fun e=>oV (bS L e)))] ((bG c).map fun e=>oV (bS L e)) (st++[.lst ((bG c).map aw), .lst ((bG c).map fun e=>oV (bS L e))])= .ok ((bG c).filterMap fun e=>(bS L e).map fun x=> .bl (vt s (aY L c c.t).sort x.sort)) (st++[.lst ((bG c).map aw), .lst ((bG c).map fun e=>oV (bS L e))]):=fun x y w=>by
  refine dw (fun p hp=>by simp at hp;subst hp;simp) (fun e=>oV (bS L e)) _ _ fun e _=> ?_
  cases e1:bS L e with
  |none=>simp [Tn,aM,av,oV]
  |some b=>simp [Tn,aM,av,oV,aL,dX F.toFLoad,Bw F]
 have f:=fun b=>eB P st [.lst ((bG c).map aw), .lst ((bG c).map fun e=>oV (bS L e)), .lst ((bG c).filterMap fun e=>(bS L e).map fun x=> .bl (vt s (aY L c c.t).sort x.sort))] (.bl b) (by simp)
 simp [q1,oV,aL,q2,hc,hl,T.low,new]
 simp only [oV] at hd f
 simp [hd,hl,eW,f]
 rfl
noncomputable def rV (r:Nat):Val:= .obj (12+r) [] []
@[simp] theorem Kz (r:Nat):(rV r).tree=true:=by simp [rV]
noncomputable def dN:Nat->Str
 |0=>"strength"
 |1=>"height"
 |2=>"cold"
 |3=>"apart"
 |_=>"lash"
noncomputable def mq (s:Sh) (c:Cell):Pt:=((s.sk? c.b c.k).map fun y=>y.pt c.d).getD ⟨0,0,0,[],0⟩
noncomputable def brk (s:Sh) (L:List (Cell×Bx)) (c:Cell):Nat->Bool
 |0=>decide ((mq s c).s<mz L c)
 |1=>decide ((mq s c).h<mj L c)
 |2=>decide ((aY L c c.t).cold=1)&& !decide (c.t∈(mq s c).p)
 |3=>Ep s L c (aY L c c.t).sort
 |_=>decide (c.d=1)&&decide ((mq s c).l<lX L c)
theorem bo {P:Pg} {c:Nat} {ms:List (Str×Nat)} (h:((P.cl c).map (·.meths))=some ms) (m:Str) (vs:List Val):eR P m (.obj c [] vs)=ms.lookup m:=by
 cases e:P.cl c with
 |none=>rw [e] at h;cases h
 |some k=>
  rw [e] at h
  simp at h
  simp [eR,e,h]
section
variable {P:Pg} (F:FRule P)
include F
theorem rh (r:Nat) (hr:r<5):eR P "breaks" (rV r)=some (56+2*r):=by
 have:r=0∨r=1∨r=2∨r=3∨r=4:=by lia
 rcases this with rfl|rfl|rfl|rfl|rfl
 ·rw [rV,bo F.m12];rfl
 ·rw [rV,bo F.m13];rfl
 ·rw [rV,bo F.m14];rfl
 ·rw [rV,bo F.m15];rfl
 ·rw [rV,bo F.m16];rfl
theorem qY (r:Nat) (hr:r<5):eR P "broken" (rV r)=some 53:=by
 have:r=0∨r=1∨r=2∨r=3∨r=4:=by lia
 rcases this with rfl|rfl|rfl|rfl|rfl
 ·rw [rV,bo F.m12];rfl
 ·rw [rV,bo F.m13];rfl
 ·rw [rV,bo F.m14];rfl
 ·rw [rV,bo F.m15];rfl
 ·rw [rV,bo F.m16];rfl
theorem ux (r:Nat) (hr:r<5):eR P "word" (rV r)=some (55+2*r):=by
 have:r=0∨r=1∨r=2∨r=3∨r=4:=by lia
 rcases this with rfl|rfl|rfl|rfl|rfl
 ·rw [rV,bo F.m12];rfl
 ·rw [rV,bo F.m13];rfl
 ·rw [rV,bo F.m14];rfl
 ·rw [rV,bo F.m15];rfl
 ·rw [rV,bo F.m16];rfl
theorem BR (n r:Nat) (hr:r<5) (st:aa):call P (n+1) (55+2*r) [rV r] st= .ok (.str (dN r)) st:=by
 have:r=0∨r=1∨r=2∨r=3∨r=4:=by lia
 rcases this with rfl|rfl|rfl|rfl|rfl
 ·rw [aq F.f55 _ _ _ rfl];unfold zG;simp [dN]
 ·rw [aq F.f57 _ _ _ rfl];unfold xW;simp [dN]
 ·rw [aq F.f59 _ _ _ rfl];unfold wV;simp [dN]
 ·rw [aq F.f61 _ _ _ rfl];unfold w4;simp [dN]
 ·rw [aq F.f63 _ _ _ rfl];unfold yP;simp [dN]
theorem vS (n r:Nat) (hr:r<5) (s:Sh) (L:List (Cell×Bx)) (c:Cell) (y:Sk) (h:CeAt s L c y) (st:aa):call P (n+4) (56+2*r) [rV r,bz s L,aw c] st= .ok (.bl (brk s L c r)) st:=by
 have hp:mq s c=y.pt c.d:=by simp [mq,h.sk]
 have:r=0∨r=1∨r=2∨r=3∨r=4:=by lia
 rcases this with rfl|rfl|rfl|rfl|rfl
 ·rw [qU F n s L c y h st];simp [brk,hp]
 ·rw [vL F n s L c y h st];simp [brk,hp]
 ·rw [BQ F n s L c y h st];simp [brk,hp]
 ·rw [za F n s L c y h st];simp [brk]
 ·rw [AU F n s L c y h st];simp [brk,hp]
theorem vO (n r:Nat) (hr:r<5) (s:Sh) (L:List (Cell×Bx)) (c:Cell) (y:Sk) (h:CeAt s L c y) (st:aa):call P (n+5) 53 [rV r,bz s L,aw c] st= .ok (.bl (brk s L c r)) st:=by
 rw [aq F.f53 _ _ _ rfl]
 unfold xU
 have q1:=dG F.toFLoad (n+3) s L (bz s L) c st (by simp)
 rw [show bS L c=some (aY L c c.t) from h.up c.t h.t0 (by lia)] at q1
 simp [q1,oV,aL,rh F r hr,vS F n r hr s L c y h st]
theorem vC (cl:ar) (c:Nat) (h1:11<=c) (h2:c<=16) (st:aa):fe P cl c [] st ((P.cl c).map (·.init))= .ok (.obj c [] []) st:=by
 obtain ⟨e1,e2⟩:((P.cl c).map (·.init))=some none/\eU P c=false:=by
  have:c=11∨c=12∨c=13∨c=14∨c=15∨c=16:=by lia
  rcases this with rfl|rfl|rfl|rfl|rfl|rfl
  ·exact F.i11
  ·exact F.i12
  ·exact F.i13
  ·exact F.i14
  ·exact F.i15
  ·exact F.i16
 rw [e1]
 simp
 unfold fin
 rw [if_pos (fk _ _)]
 simp [e2]
end
end PI
namespace PI
open PySem
structure FFault (P:Pg):Prop extends FRule P where
 f73:P.fn 73=some zo
 f74:P.fn 74=some xf
 f75:P.fn 75=some xO
noncomputable def cM:List Nat:=[0,1,2,3,4]
theorem qI {P:Pg} (F:FFault P) (n:Nat) (st:aa):call P (n+1) 73 [] st= .ok (.ref st.length) (st++[.lst (cM.map rV)]):=by
 rw [aq F.f73 _ _ _ rfl]
 unfold zo
 have F1:=F.toFRule
 simp [vC F1,new]
 exact fE P st [.lst _] 0 _ _ rfl (bR _ _ _ _ (by simp))
noncomputable def fV (f:Nat×Cell):Val:= .tup false [.str (dN f.1),aw f.2]
@[simp] theorem KG (f:Nat×Cell):(fV f).tree=true:=by simp [fV]
noncomputable def gR (s:Sh) (L:List (Cell×Bx)) (c:Cell):List (Nat×Cell):=(cM.filter (brk s L c)).map fun r=>(r,c)
noncomputable def eE (s:Sh) (L M:List (Cell×Bx)):List (Nat×Cell):=M.flatMap fun p=>gR s L p.1
theorem xA (s:Sh) (L:List (Cell×Bx)) (c:Cell):(gR s L c).length<=5:=by
 unfold gR
 rw [List.length_map]
 exact List.length_filter_le _ cM
theorem nY (f:Nat->Bool) (g:Nat->Val):∀l:List Nat,(l.filterMap fun a=>if f a=true then some (g a) else none)=(l.filter f).map g
 |[]=>rfl
 |a::l=>by
  rw [List.filterMap_cons,List.filter_cons,nY f g l]
  cases f a<;>simp
noncomputable def qF:List S:=[.expr (.bm .extend (.var 2) [.comp 1 [3,0] (.var 0) (.val (.var 1)) (some (.meth (.var 0) "broken" [.var 2, .var 1])) (.tup [.meth (.var 0) "word" [], .var 1])])]
theorem sN {P:Pg} (F:FFault P) (n:Nat) (s:Sh) (L:List (Cell×Bx)) (hL:∀p∈L,∃y,CeAt s L p.1 y) (st:aa):∀(M:List (Cell×Bx)) (acc:List (Nat×Cell)) (g:aa) (x3 x4:Option Val),(∀p∈M,p∈L)->acc.length+5*M.length<=1000->
  ∃g' y3 y4,forL (.tup [.var 3, .var 4]) (fY P (call P (n+5)) qF) [] (M.map aT) [some (bz s L),some (.ref st.length),some (.ref (st.length+1)),x3,x4] (st++ .lst (cM.map rV):: .lst (acc.map fV)::g)
   = .next [some (bz s L),some (.ref st.length),some (.ref (st.length+1)),y3,y4] (st++ .lst (cM.map rV):: .lst ((acc++eE s L M).map fV)::g')
 |[],acc,g,x3,x4,_,_=>⟨g,x3,x4,by simp [eE]⟩
 |p::M,acc,g,x3,x4,hM,hl=>by
  have F1:=F.toFRule
  obtain ⟨y,hy⟩:=hL p (hM p (by simp))
  have hf:=xA s L p.1
  simp at hl
  obtain ⟨g',y3,y4,e⟩:=sN F n s L hL st M (acc++gR s L p.1) (g++[.lst ((gR s L p.1).map fV)]) (some (aw p.1)) (some (aL p.2)) (fun q hq=>hM q (by simp [hq])) (by simp;lia)
  refine ⟨g',y3,y4, ?_⟩
  have hc:∀x1 x2 x4 (S:aa) chk,Kept chk S->aB (Tn P (call P (n+5)) 1 [3,0] (.var 0) (some (.meth (.var 0) "broken" [.var 2, .var 1])) (.tup [.meth (.var 0) "word" [], .var 1]) [some (bz s L),x1,x2,some (aw p.1),x4]) chk (cM.map rV) S= .ok ((gR s L p.1).map fV) S:=fun x1 x2 x4 S chk hk=>by
   have:=dw (f:=Tn P (call P (n+5)) 1 [3,0] (.var 0) (some (.meth (.var 0) "broken" [.var 2, .var 1])) (.tup [.meth (.var 0) "word" [], .var 1]) [some (bz s L),x1,x2,some (aw p.1),x4]) hk rV (fun r=>if brk s L p.1 r=true then some (fV (r,p.1)) else none) cM fun r hr=>by
    have hr5:r<5:=by simp [cM] at hr;lia
    simp [Tn,aM,av,qY F1 r hr5,vO F1 n r hr5 s L p.1 y hy S,ux F1 r hr5,BR F1 (n+4) r hr5 S]
    cases brk s L p.1 r<;>simp [fV]
   rw [this,nY]
   simp [gR]
  have ha:acc.length+(gR s L p.1).length<=10000:=by lia
  have hk:=hc (some (.ref st.length)) (some (.ref (st.length+1))) (some (aL p.2)) (st++ .lst (cM.map rV):: .lst (acc.map fV)::g) [(st.length, .lst (cM.map rV))] (fun q hq=>by simp at hq;subst hq;simp)
  have h5:cM.length<=10000:=by decide
  unfold qF at e⊢
  simp [aT,hk,T.low,new,cx,ha,h5]
  simp [eE] at e⊢
  exact e
theorem iK {P:Pg} (F:FFault P) (n:Nat) (s:Sh) (hs:s.Ok) (L:List (Cell×Bx)) (h:bY s L) (st:aa):call P (n+6) 74 [bz s L] st= .ok (.ref st.length) (st++[.lst ((eE s L L).map fV)]):=by
 rw [aq F.f74 _ _ _ rfl]
 unfold xf
 have hl:=h.1
 obtain ⟨g',y3,y4,e⟩:=sN F n s L (fun p hp=>FJ hs h hp) st L [] [] none none (fun p hp=>hp) (by simp;lia)
 unfold qF at e
 simp at e
 simp [qI F,new,lJ F.toFLoad]
 rw [e]
 simp
 refine (fE P st (.lst _:: .lst ((eE s L L).map fV)::g') 1 _ _ rfl (bR _ _ _ _ (ba _ _ fun a=>by simp))).trans ?_
 rfl
theorem qN {P:Pg} (F:FFault P) (n:Nat) (s:Sh) (hs:s.Ok) (L:List (Cell×Bx)) (h:bY s L) (st:aa):call P (n+7) 75 [bz s L] st= .ok (.bl (eE s L L).isEmpty) st:=by
 rw [aq F.f75 _ _ _ rfl]
 unfold xO
 simp [iK F n s hs L h]
 refine (eB P st [.lst ((eE s L L).map fV)] _ (by simp)).trans ?_
 congr 2
 cases eE s L L<;>simp
 lia
end PI
namespace PI
open PySem
theorem vv {L M:List (Cell×Bx)} (hn:(L.map fun p=>p.1).Nodup) (hs:∀p∈M,p∈L) {c:Cell} {x:Bx} (h:bS M c=some x):bS L c=some x:=AR (p:=(c,x)) hn (hs _ (DB h))
theorem vx {s:Sh} {L M:List (Cell×Bx)} (hM:bY s M) (hn:(L.map fun p=>p.1).Nodup) (hs:∀p∈M,p∈L) {p:Cell×Bx} (hp:p∈M) (i:Int) (i0:0<=i) (i1:i<=p.1.t):aY L p.1 i=aY M p.1 i:=by
 have h1:=full hM hp i i0 i1
 have h2:=vv hn hs h1
 show (bS L (lp p.1 i)).getD bx0=_
 rw [h2]
 rfl
theorem Bj {s:Sh} {L M:List (Cell×Bx)} (hM:bY s M) (hn:(L.map fun p=>p.1).Nodup) (hs:∀p∈M,p∈L) {p:Cell×Bx} (hp:p∈M) (t0:0<=p.1.t):mz L p.1=mz M p.1/\mj L p.1=mj M p.1/\lX L p.1=lX M p.1:=by
 have h:∀i∈au 0 (p.1.t+1).toNat,aY L p.1 i=aY M p.1 i:=fun i hi=>by
  have hi:=cU.mp hi
  exact vx hM hn hs hp i (by lia) (by lia)
 refine ⟨?_, ?_, ?_⟩
 ·unfold mz
  congr 1
  exact List.map_congr_left fun i hi=>by rw [h i hi]
 ·unfold mj
  congr 1
  exact List.map_congr_left fun i hi=>by rw [h i hi]
 ·unfold lX
  congr 1
  exact List.map_congr_left fun i hi=>by rw [h i hi]
theorem A4 {s:Sh} {L M:List (Cell×Bx)} (hM:bY s M) (hn:(L.map fun p=>p.1).Nodup) (hs:∀p∈M,p∈L) {p:Cell×Bx} (hp:p∈M) (r:Nat) (h:brk s M p.1 r=true):brk s L p.1 r=true:=by
 obtain ⟨y,_,_,t0,_⟩:=hM.2.2.2.1 p hp
 obtain ⟨s1,s2,s3⟩:=Bj hM hn hs hp t0
 have u:=vx hM hn hs hp p.1.t t0 (by lia)
 match r with
 |0=>simp only [brk] at h⊢;rw [s1];exact h
 |1=>simp only [brk] at h⊢;rw [s2];exact h
 |2=>simp only [brk] at h⊢;rw [u];exact h
 |3=>
  simp only [brk,Ep] at h⊢
  rw [u]
  rw [List.any_eq_true] at h⊢
  obtain ⟨e,he,q⟩:=h
  refine ⟨e,he, ?_⟩
  cases h1:bS M e with
  |none=>rw [h1] at q;simp at q
  |some x=>
   rw [h1] at q
   rw [vv hn hs h1]
   exact q
 |_+4=>simp only [brk] at h⊢;rw [s3];exact h
theorem DL {s:Sh} {L M:List (Cell×Bx)} (hM:bY s M) (hn:(L.map fun p=>p.1).Nodup) (hs:∀p∈M,p∈L) {f:Nat×Cell} (h:f∈eE s M M):f∈eE s L L:=by
 unfold eE gR at*
 rw [List.mem_flatMap] at h⊢
 obtain ⟨p,hp,hf⟩:=h
 obtain ⟨r,hr,rfl⟩:=List.mem_map.mp hf
 rw [List.mem_filter] at hr
 exact ⟨p,hs p hp,List.mem_map.mpr ⟨r,List.mem_filter.mpr ⟨hr.1,A4 hM hn hs hp r hr.2⟩,rfl⟩⟩
noncomputable def keep (p:Int×Int×Int) (c:Int) (q:Cell×Bx):Bool:= !decide ((q.1.b,q.1.k,q.1.d)=p)||decide (q.1.t<c)
theorem bY.keep {s:Sh} {L:List (Cell×Bx)} (h:bY s L) (p:Int×Int×Int) (c:Int):bY s (L.filter (PI.keep p c)):=by
 obtain ⟨h1,h2,h3,h4,h5⟩:=h
 have hs:(L.filter (PI.keep p c)).Sublist L:=List.filter_sublist
 refine ⟨Nat.lt_of_le_of_lt hs.length_le h1,(hs.map _).nodup h2,(hs.map _).nodup h3,fun q hq=>h4 q (hs.subset hq),fun q hq=> ?_⟩
 rw [List.mem_filter] at hq
 refine (h5 q hq.1).imp id fun ⟨r,hr,e⟩=>⟨r,List.mem_filter.mpr ⟨hr, ?_⟩,e⟩
 have:=hq.2
 unfold PI.keep at this⊢
 rw [e]
 simp at this⊢
 rcases this with h|h
 ·exact .inl h
 ·exact .inr (by lia)
noncomputable def gV (f:Str×Cell):Val:= .tup false [.str f.1,aw f.2]
theorem FK (a b:Str×Cell):eqv 8 (gV a) (gV b)=some (decide (a=b)):=by
 obtain ⟨a1,a2⟩:=a
 obtain ⟨b1,b2⟩:=b
 obtain ⟨a3,a4,a5,a6⟩:=a2
 obtain ⟨b3,b4,b5,b6⟩:=b2
 simp [gV,aw]
 rw [Bool.eq_iff_iff]
 simp
theorem DW (f:Nat×Cell) (l:List (Nat×Cell)) (h:f∈l):cg (fV f) (l.map fV)=some true:=by
 have e:l.map fV=(l.map fun f=>(dN f.1,f.2)).map gV:=by
  rw [List.map_map]
  rfl
 rw [e,show fV f=gV (dN f.1,f.2) from rfl,gM FK]
 have:(dN f.1,f.2)∈l.map fun f=>(dN f.1,f.2):=List.mem_map.mpr ⟨f,h,rfl⟩
 simp only [Option.some.injEq,decide_eq_true_eq]
 exact this
end PI
namespace PI
namespace RB
open PySem
structure FG (P:Pg):Prop extends FLoad P where
 f15:P.fn 15=some yJ
 f17:P.fn 17=some zm
 f40:P.fn 40=some xm
 f41:P.fn 41=some zJ
 f42:P.fn 42=some xS
 f43:P.fn 43=some yr
 f44:P.fn 44=some zj
noncomputable def Dm (ns:List Int) (z:Int):Int:=if ns=[] then 0 else ns.getD (z % ns.length).toNat 0
noncomputable def bI (ns:List Int) (z:Int):Int:=let m:=(Dm ns z % 2147483647+z*z*7919+11)*48271 % 2147483647;m*m % 1999999973
theorem dF (ns:List Int) (z:Int):0<=bI ns z/\bI ns z<1999999973:=by
 unfold bI
 simp only
 lia
noncomputable abbrev fU (ns:List Int):Val:= .lst (ns.map .int)
theorem cb {P:Pg} (F:FG P) (n:Nat) (ns:List Int) (z:Int) (s:aa) (z0:0<=z) (z1:z<2^60):
  call P (n+1) 15 [fU ns, .ref 0] (.lst [.int z]::s)= .ok (.int (bI ns (z+1))) (.lst [.int (z+1)]::s):=by
 rw [aq F.f15 _ _ _ rfl]
 unfold yJ
 have zz:(z+1).natAbs<2^64:=by lia
 have hm:∀x:Int,(x % 2147483647).natAbs<2^64:=fun x=>by lia
 have f:∀v,fin P (.lst [.int z]::s) (.int v) (.lst [.int (z+1)]::s)= .ok (.int v) (.lst [.int (z+1)]::s):=fun v=>BV P z (z+1) s _ (by simp)
 by_cases hn:ns=[]
 ·subst hn
  simp [zz,hm,bI,Dm,f]
 ·have l0:0<ns.length:=List.length_pos_iff.mpr hn
  have l1:(0:Int)<ns.length:=by lia
  have h0:0<=(z+1) % (ns.length:Int):=Int.emod_nonneg _ (by lia)
  have h1:(z+1) % (ns.length:Int)<ns.length:=Int.emod_lt_of_pos _ (by lia)
  simp [zz,hm,bI,Dm,l0,l1,h0,h1,hn,f]
theorem Bz (z z':Int) (s g:aa) (j:Nat) (xs:List Val) (hj:g[j]?=some (.lst xs)) (hx:trees xs=true):(Val.ref (s.length+1+j)).aC (.lst [.int z']::(s++g)) (s.length+1) (s.length+1+g.length)=some (.lst xs):=by
 have hlt:j<g.length:=(List.getElem?_eq_some_iff.mp hj).1
 have e:(Ob.lst [.int z']::(s++g))[s.length+1+j]?=some (.lst xs):=by
  rw [show s.length+1+j=(s.length+j)+1 by lia,List.getElem?_cons_succ,Bc,hj]
 simp only [Val.aC,Val.sub,ja,e]
 rw [if_neg (by lia),if_neg (by lia),cq _ _ hx]
 rfl
noncomputable def au:Int->Nat->List Int
 |_,0=>[]
 |lo,n+1=>lo::au (lo+1) n
theorem iQ:∀(n:Nat) (lo:Int),aX lo n=(au lo n).map .int
 |0,_=>rfl
 |n+1,lo=>by simp [aX,au,iQ n]
theorem vz {e:Int}:∀{l:List Int} {a a':Int},a'<=a->hU e a l->hU e a' l
 |[],_,_,_,_=>trivial
 |x::l,a,a',h,q=>⟨by have:=q.1;lia,q.2.1,q.2.2⟩
theorem mN (f:Int->Bool):∀(n:Nat) (lo:Int),hU (lo+n) lo ((au lo n).filter f)
 |0,_=>trivial
 |n+1,lo=>by
  have h:=mN f n (lo+1)
  rw [show lo+1+(n:Int)=lo+((n+1:Nat):Int) by push_cast;lia] at h
  unfold au
  rw [List.filter_cons]
  split
  ·exact ⟨by lia,by push_cast;lia,h⟩
  ·exact vz (by lia) h
noncomputable def ir (p:Pt):Val:= .tup false [.int p.c, .int p.s, .int p.h, .lst (p.p.map .int), .int p.l]
@[simp] theorem G9 (p:Pt):(ir p).tree=true:=by simp [ir]
theorem cU:∀{n:Nat} {lo x:Int},x∈au lo n->lo<=x/\x<lo+n
 |0,_,_,h=>by simp [au] at h
 |n+1,lo,x,h=>by
  simp [au] at h
  rcases h with rfl|h
  ·lia
  ·have:=cU h
   lia
theorem iC {α β:Type} (f:α->Bool) (g:α->β):∀l:List α,(l.filterMap fun a=>if f a=true then some (g a) else none)=(l.filter f).map g
 |[]=>rfl
 |a::l=>by
  rw [List.filterMap_cons,List.filter_cons,iC f g l]
  cases f a<;>simp
noncomputable def _root_.PI.Pt.Sm (p:Pt) (c:Int):Prop:=p.c<=c/\p.s<100/\p.l<100
theorem sx {P:Pg} (F:FG P) (n:Nat) (ns:List Int) (z:Int) (s:aa) (c:Nat) (hc:c<=9) (z0:0<=z) (z1:z<2^60):
  ∃p:Pt,p.Ok/\p.Sm c/\call P (n+2) 17 [fU ns, .ref 0, .int c] (.lst [.int z]::s)= .ok (ir p) (.lst [.int (z+1)]::s):=by
 rw [aq F.f17 _ _ _ rfl]
 unfold zm
 have q1:=cb F n ns z s z0 z1
 have hr:=dF ns (z+1)
 generalize bI ns (z+1)=m at q1 hr
 have k0:(0:Int)<(c:Int)+1:=by lia
 have k1:0<=m % ((c:Int)+1):=Int.emod_nonneg _ (by lia)
 have k2:m % ((c:Int)+1)<(c:Int)+1:=Int.emod_lt_of_pos _ (by lia)
 have k3:m % ((c:Int)+1)<16777216:=by lia
 have k4:(m % ((c:Int)+1)).toNat<=10000:=by lia
 have hcomp:∀(a b:Option Val) (x y:Option Val),aB (Tn P (call P (n+1)) 1 [3] (.var 0) (some (.cmp .Gt (.bin .Mod (.bin .FloorDiv (.bin .FloorDiv (.var 1) (.const (.int 10))) (.bin .Add (.bin .Mult (.var 0) (.var 0)) (.const (.int 1)))) (.const (.int 3))) (.const (.int 0)))) (.var 0) [a,b,x,some (.int m),y,none]) [] (aX 0 (m % ((c:Int)+1)).toNat) (.lst [.int (z+1)]::s)= .ok (((au 0 (m % ((c:Int)+1)).toNat).filter fun k=>decide (0<m/10/(k*k+1) % 3)).map .int) (.lst [.int (z+1)]::s):=by
  intro a b x y
  rw [iQ]
  rw [dw (bD _) Val.int (fun k=>if decide (0<m/10/(k*k+1) % 3)=true then some (.int k) else none) _ ?_,iC]
  intro k hk
  have hk:=cU hk
  have hk1:k.natAbs<2^64:=by lia
  have hk2:0<=k*k:=Int.mul_nonneg (by lia) (by lia)
  have hk3:k*k<=10*10:=Int.mul_le_mul (by lia) (by lia) (by lia) (by lia)
  have hk4:0<k*k+1:=by lia
  have hk5:k*k+1<2^64:=by lia
  have hk6:=fun st=>xl (m/10) (k*k+1) st hk4 hk5
  simp [Tn,aM,av,hk1,hk6]
  by_cases hb:0<m/10/(k*k+1) % 3<;>simp [hb]
 refine ⟨⟨m % ((c:Int)+1),5+m/7 % 40,5+m/300 % 30,(au 0 (m % ((c:Int)+1)).toNat).filter fun k=>decide (0<m/10/(k*k+1) % 3),m/9000 % 60⟩,⟨⟨k1,by simp only;lia⟩,⟨by simp only;lia,by simp only;lia,by simp only;lia⟩, ?_⟩,⟨by simp only;lia,by simp only;lia,by simp only;lia⟩, ?_⟩
 ·have:=mN (fun k=>decide (0<m/10/(k*k+1) % 3)) (m % ((c:Int)+1)).toNat 0
  rw [show (0:Int)+((m % ((c:Int)+1)).toNat:Int)=m % ((c:Int)+1) by lia] at this
  exact this
 ·simp [q1,k0,k1,k3,k4,T.low,hcomp,new]
  refine (A1 P z (z+1) s [.lst _] _ (ir _) rfl ?_)
  have hz:=Bz z (z+1) s [.lst (((au 0 (m % ((c:Int)+1)).toNat).filter fun k=>decide (0<m/10/(k*k+1) % 3)).map .int)] 0 _ rfl (by simp)
  simp at hz
  simp [ir]
  rw [hz]
  simp
end RB
end PI
namespace PI
namespace RB
open PySem
noncomputable def c8 (y:Sk):Val:= .tup false [.int y.side,ir y.hold,ir y.deck]
noncomputable def jI:List S:=[.set (.var 9) (.bin .Sub (.bin .Mod (.call 15 [.var 0, .var 1]) (.const (.int 9))) (.const (.int 4))), .set (.var 10) (.call 17 [.var 0, .var 1, .var 4]), .expr (.bm .append (.var 7) [.tup [.var 9, .var 10, .call 17 [.var 0, .var 1, .var 4]]])]
theorem qG {P:Pg} (F:FG P) (n:Nat) (ns:List Int) (T:aa) (c:Nat) (hc:c<=9) (x2 x3 x5 x6:Option Val):∀(m:Nat) (lo z:Int) (sks:List Sk) (x8 x9 x10:Option Val),sks.length+m<=20->0<=z->z+3*m<2^59->
  ∃z' ys y8 y9 y10,forL (.var 8) (fY P (call P (n+2)) jI) [] (aX lo m) [some (fU ns),some (.ref 0),x2,x3,some (.int c),x5,x6,some (.ref (T.length+1)),x8,x9,x10,none,none,none] (.lst [.int z]::(T++[.lst (sks.map c8)]))
   = .next [some (fU ns),some (.ref 0),x2,x3,some (.int c),x5,x6,some (.ref (T.length+1)),y8,y9,y10,none,none,none] (.lst [.int z']::(T++[.lst ((sks++ys).map c8)]))/\ys.length=m/\(∀y∈ys,y.Ok/\y.hold.Sm c/\y.deck.Sm c)/\z<=z'/\z'<=z+3*m
 |0,lo,z,sks,x8,x9,x10,_,_,_=>⟨z,[],x8,x9,x10,by simp [aX],rfl,by simp,by lia,by lia⟩
 |m+1,lo,z,sks,x8,x9,x10,hl,z0,z1=>by
  have q1:=cb F (n+1) ns z (T++[.lst (sks.map c8)]) z0 (by lia)
  obtain ⟨p1,a1,a2,q2⟩:=sx F n ns (z+1) (T++[.lst (sks.map c8)]) c hc (by lia) (by lia)
  obtain ⟨p2,b1,b2,q3⟩:=sx F n ns (z+1+1) (T++[.lst (sks.map c8)]) c hc (by lia) (by lia)
  obtain ⟨z',ys,y8,y9,y10,e,h1,h2,h3,h4⟩:=qG F n ns T c hc x2 x3 x5 x6 m (lo+1) (z+1+1+1) (sks++[⟨bI ns (z+1) % 9-4,p1,p2⟩]) (some (.int lo)) (some (.int (bI ns (z+1) % 9-4))) (some (ir p1)) (by simp;lia) (by lia) (by lia)
  refine ⟨z',⟨bI ns (z+1) % 9-4,p1,p2⟩::ys,y8,y9,y10, ?_,by simp [h1], ?_,by lia,by lia⟩
  ·unfold jI at e⊢
   have l:sks.length<10000:=by lia
   simp [aX,q1,q2,q3,cx,l]
   simp [c8] at e
   exact e
  ·intro y hy
   rcases List.mem_cons.mp hy with rfl|hy
   ·exact ⟨⟨a1,b1⟩,a2,b2⟩
   ·exact h2 y hy
noncomputable def bZ (k:Nat) (bs:List By):List Val:=(bs.zipIdx k).map fun p=> .tup false [.int p.1.arm, .ref p.2]
noncomputable def fR (f:Sk->Val) (b:By):Ob:= .lst (b.sks.map f)
theorem u9 (k:Nat) (bs:List By) (b:By):bZ k (bs++[b])=bZ k bs++[.tup false [.int b.arm, .ref (k+bs.length)]]:=by
 simp [bZ,List.zipIdx_append]
@[simp] theorem GX (k:Nat) (bs:List By):(bZ k bs).length=bs.length:=by simp [bZ]
@[simp] theorem GP (k:Nat):bZ k []=[]:=rfl
noncomputable def my:List S:=[.set (.var 7) (.lst []), .for (.var 8) (.rng1 (.bin .Add (.const (.int 1)) (.bin .Mod (.call 15 [.var 0, .var 1]) (.var 3)))) jI, .expr (.bm .append (.var 5) [.tup [.bin .Sub (.bin .Mod (.call 15 [.var 0, .var 1]) (.const (.int 21))) (.const (.int 10)), .var 7]])]
theorem qa {P:Pg} (F:FG P) (n:Nat) (ns:List Int) (s:aa) (c:Nat) (hc:c<=9) (k:Nat) (hk:0<k) (hk3:k<=3) (x2:Option Val):∀(m:Nat) (lo z:Int) (bs:List By) (x6 x7 x8 x9 x10:Option Val),bs.length+m<=20->0<=z->z+11*m<2^59->
  ∃z' cs y6 y7 y8 y9 y10,forL (.var 6) (fY P (call P (n+2)) my) [] (aX lo m) [some (fU ns),some (.ref 0),x2,some (.int k),some (.int c),some (.ref (s.length+1)),x6,x7,x8,x9,x10,none,none,none] (.lst [.int z]::(s++ .lst (bZ (s.length+2) bs)::bs.map (fR c8)))
   = .next [some (fU ns),some (.ref 0),x2,some (.int k),some (.int c),some (.ref (s.length+1)),y6,y7,y8,y9,y10,none,none,none] (.lst [.int z']::(s++ .lst (bZ (s.length+2) (bs++cs))::(bs++cs).map (fR c8)))/\cs.length=m/\(∀b∈cs,b.Ok/\b.sks.length<=k/\∀y∈b.sks,y.hold.Sm c/\y.deck.Sm c)/\z<=z'/\z'<=z+11*m
 |0,lo,z,bs,x6,x7,x8,x9,x10,_,_,_=>⟨z,[],x6,x7,x8,x9,x10,by simp [aX],rfl,by simp,by lia,by lia⟩
 |m+1,lo,z,bs,x6,x7,x8,x9,x10,hl,z0,z1=>by
  have q1:=cb F (n+1) ns z (s++ .lst (bZ (s.length+2) bs)::bs.map (fR c8)++[.lst []]) z0 (by lia)
  have r1:=dF ns (z+1)
  have k0:(0:Int)<k:=by lia
  have k1:0<=bI ns (z+1) % (k:Int):=Int.emod_nonneg _ (by lia)
  have k2:bI ns (z+1) % (k:Int)<k:=Int.emod_lt_of_pos _ (by lia)
  have k3:0<=1+bI ns (z+1) % (k:Int):=by lia
  have k4:1+bI ns (z+1) % (k:Int)<16777216:=by lia
  obtain ⟨z2,ys,y8,y9,y10,e2,h1,h2,h3,h4⟩:=qG F n ns (s++ .lst (bZ (s.length+2) bs)::bs.map (fR c8)) c hc x2 (some (.int k)) (some (.ref (s.length+1))) (some (.int lo)) (1+bI ns (z+1) % (k:Int)).toNat 0 (z+1) [] x8 x9 x10 (by simp;lia) (by lia) (by lia)
  have q2:=cb F (n+1) ns z2 (s++ .lst (bZ (s.length+2) bs)::bs.map (fR c8)++[.lst (ys.map c8)]) (by lia) (by lia)
  obtain ⟨z',cs,w6,w7,w8,w9,w10,e,g1,g2,g3,g4⟩:=qa F n ns s c hc k hk hk3 x2 m (lo+1) (z2+1) (bs++[⟨bI ns (z2+1) % 21-10,ys⟩]) (some (.int lo)) (some (.ref (s.length+(bs.length+1)+1))) y8 y9 y10 (by simp;lia) (by lia) (by lia)
  refine ⟨z',⟨bI ns (z2+1) % 21-10,ys⟩::cs,w6,w7,w8,w9,w10, ?_,by simp [g1], ?_,by lia,by lia⟩
  ·unfold my at e⊢
   have l:bs.length<10000:=by lia
   simp at q1 q2 e2
   simp [aX,q1,k0,hk,k3,k4,new,e2,q2,cx,l]
   rw [u9,show s.length+2+bs.length=s.length+(bs.length+1)+1 by lia] at e
   simp [fR] at e
   simp [fR]
   exact e
  ·intro y hy
   rcases List.mem_cons.mp hy with rfl|hy
   ·refine ⟨⟨?_,by simp only [h1];lia,fun y hy=>(h2 y hy).1⟩,by simp only [h1];lia,fun y hy=>(h2 y hy).2⟩
    intro e
    simp only at e
    rw [e] at h1
    simp at h1
    lia
   ·exact g2 y hy
theorem sO (st:aa) (p:Pt):gX st (ir p) p:=⟨false,_,rfl, .inl rfl⟩
theorem Bl (st:aa) (y:Sk):gd st (c8 y) y:=⟨false,_,_,rfl,sO st _,sO st _⟩
theorem qM (st:aa) (f:Sk->Val) (hf:∀y,gd st (f y) y):∀(bs:List By) (k:Nat),(∀(j:Nat) (b:By),bs[j]?=some b->st[k+j]?=some (fR f b))->bK (fX st) (bZ k bs) bs
 |[],_,_=>trivial
 |b::bs,k,h=>by
  refine ⟨⟨false, .ref k,b.sks.map f,rfl, .inl ?_, ?_⟩, ?_⟩
  ·have:=h 0 b rfl
   simp at this⊢
   rw [this]
   simp [fR]
  ·have:=bK.map (R:=gd st) f id hf b.sks
   simpa using this
  ·have:=qM st f hf bs (k+1) fun j c hc=>by
    have:=h (j+1) c hc
    rwa [show k+(j+1)=k+1+j by lia] at this
   exact this
noncomputable def tJ {α:Type} (a b c:α) (i:Int):α:=if i=0 then a else if i=1 then b else c
theorem wO (a b c:Str) (i:Int) (st:aa) (h0:0<=i) (h1:i<3):eC (.lst [.str a, .str b, .str c]) (.int i) st= .ok (.str (tJ a b c i)) st:=by
 have:i=0∨i=1∨i=2:=by lia
 rcases this with rfl|rfl|rfl<;>simp [tJ]
theorem xj {α:Type} (xs:List α) (v:Int) (h:0<=v):cut xs none (some v)=xs.take v.toNat:=by
 have:¬v<0:=by lia
 simp [cut,bA,this]
noncomputable def dy (i:Int):Str:=tJ (α:=Str) "dry" "wet" "hot" i
theorem rg {P:Pg} (F:FG P) (n:Nat) (ns:List Int) (s:aa) (z:Int) (a k c:Nat) (ha:0<a) (ha3:a<=3) (hk:0<k) (hk3:k<=3) (hc:c<=9) (z0:0<=z) (z1:z<2^58):
  ∃(sh:Sh) (z':Int),sh.Ok/\sh.bays.length<=a/\(∀b∈sh.bays,b.sks.length<=k/\∀y∈b.sks,y.hold.Sm c/\y.deck.Sm c)/\(sh.foes.length<=2/\sh.trim<200/\sh.heel<100)/\z<=z'/\z'<=z+40/\call P (n+7) 41 [fU ns, .ref 0, .int a, .int k, .int c] (.lst [.int z]::s)= .ok (bU sh) (.lst [.int z']::s):=by
 rw [aq F.f41 _ _ _ rfl]
 unfold zJ
 have q1:=cb F (n+5) ns z (s++[.lst []]) z0 (by lia)
 have k0:(0:Int)<a:=by lia
 have k1:0<=bI ns (z+1) % (a:Int):=Int.emod_nonneg _ (by lia)
 have k2:bI ns (z+1) % (a:Int)<a:=Int.emod_lt_of_pos _ (by lia)
 have k3:0<=1+bI ns (z+1) % (a:Int):=by lia
 have k4:1+bI ns (z+1) % (a:Int)<16777216:=by lia
 obtain ⟨z2,cs,w6,w7,w8,w9,w10,e,g1,g2,g3,g4⟩:=qa F (n+4) ns s c hc k hk hk3 (some (.int a)) (1+bI ns (z+1) % (a:Int)).toNat 0 (z+1) [] none none none none none (by simp;lia) (by lia) (by lia)
 have q2:=cb F (n+5) ns z2 (s++ .lst (bZ (s.length+2) cs)::cs.map (fR c8)) (by lia) (by lia)
 have r2:=dF ns (z2+1)
 generalize bI ns (z2+1)=m at q2 r2
 have i1:0<=m % 3:=by lia
 have i2:m % 3<3:=by lia
 have i3:0<=m/3 % 3:=by lia
 have i4:m/3 % 3<3:=by lia
 have i5:0<=m/9 % 3:=by lia
 have i6:m/9 % 3<3:=by lia
 have i7:0<=m/27 % 3:=by lia
 have t1:∀st,eC (.lst [.str "dry", .str "wet", .str "hot"]) (.int (m % 3)) st= .ok (.str (dy (m % 3))) st:=fun st=>wO _ _ _ (m % 3) st i1 i2
 have t2:∀st,eC (.lst [.str "dry", .str "wet", .str "hot"]) (.int (m/3 % 3)) st= .ok (.str (dy (m/3 % 3))) st:=fun st=>wO _ _ _ _ st i3 i4
 have t3:∀st,eC (.lst [.str "dry", .str "wet", .str "hot"]) (.int (m/9 % 3)) st= .ok (.str (dy (m/9 % 3))) st:=fun st=>wO _ _ _ _ st i5 i6
 obtain ⟨sh,hsh⟩:∃sh:Sh,sh=⟨cs,[(dy (m % 3),dy (m/3 % 3)),(dy (m/9 % 3),"oil")].take (m/27 % 3).toNat,m/81 % 200,m/16200 % 100⟩:=⟨_,rfl⟩
 have e1:sh.trim=m/81 % 200:=by rw [hsh]
 have e2:sh.heel=m/16200 % 100:=by rw [hsh]
 have e3:sh.bays=cs:=by rw [hsh]
 have e4:sh.foes=[(dy (m % 3),dy (m/3 % 3)),(dy (m/9 % 3),"oil")].take (m/27 % 3).toNat:=by rw [hsh]
 have hlen:cs.length<=a:=by lia
 have hfl:sh.foes.length<=2:=by rw [e4];simp;lia
 have ah:sh.Ok:=by
  refine ⟨?_,by rw [e3];lia,by lia,fun b hb=>(g2 b (by rwa [e3] at hb)).1,by rw [e1];lia,by rw [e2];lia⟩
  rw [e3]
  intro e
  rw [e] at g1
  simp at g1
  lia
 refine ⟨sh,z2+1,ah,by rw [e3];exact hlen,fun b hb=>(g2 b (by rwa [e3] at hb)).2,⟨hfl,by rw [e1];lia,by rw [e2];lia⟩,by lia,by lia, ?_⟩
 have hf:([Val.tup false [.str (dy (m % 3)), .str (dy (m/3 % 3))], .tup false [.str (dy (m/9 % 3)), .str "oil"]].take (m/27 % 3).toNat)=sh.foes.map cP:=by
  rw [e4,List.map_take]
  rfl
 obtain ⟨S,hS⟩:∃S:aa,S= .lst [.int (z2+1)]::(s++ .lst (bZ (s.length+2) cs)::(cs.map (fR c8)++[.lst [.str "dry", .str "wet", .str "hot"], .lst [Val.tup false [.str (dy (m % 3)), .str (dy (m/3 % 3))], .tup false [.str (dy (m/9 % 3)), .str "oil"]], .lst (sh.foes.map cP)])):=⟨_,rfl⟩
 have hraw:bK (fX S) (bZ (s.length+2) cs) sh.bays:=by
  rw [e3]
  refine qM _ c8 (Bl _) cs _ fun j b hj=> ?_
  rw [hS,show s.length+2+j=s.length+(j+1)+1 by lia]
  simp
  rw [List.getElem?_append_left (by simpa using (List.getElem?_eq_some_iff.mp hj).1)]
  simp [hj]
 have hship:=Bt F.toFShip n sh S (.ref (s.length+1)) (.ref (s.length+(cs.length+2+1)+1)) (bZ (s.length+2) cs) (.inl (by simp [hS])) hraw (by simp [hS]) ah
 rw [hS] at hship
 simp at e
 simp [q1,k0,ha,k3,k4,new]
 unfold my jI at e
 rw [e]
 simp [q2,new,-mh,t1,t2,t3,xj,i7,hf]
 rw [e1,e2] at hship
 rw [hship]
 simp
 exact pd P z (z2+1) s _ _ (by simp)
end RB
end PI
namespace PI
namespace RB
open PySem
noncomputable abbrev wL:Str:=Str.ofString "abcdefghijklmnopqrstuvwxyz"
theorem AL:wL.cps.toList=(List.range 26).map (97+ ·):=by decide+kernel
theorem rP:wL.length=26:=by decide+kernel
noncomputable def gC (i:Int):Str:=⟨#[97+i.toNat]⟩
@[simp] theorem K8 (i:Int):(gC i).length=1:=rfl
theorem jJ (i:Int) (st:aa) (h0:0<=i) (h1:i<26):eC (.str wL) (.int i) st= .ok (.str (gC i)) st:=by
 rw [jC,bt (by rw [rP];lia),rP,AL]
 have l:i.toNat<26:=by lia
 have h1':i<((26:Nat):Int):=by lia
 simp [h0,h1,l,gC]
noncomputable def fM (i:Int):Int:=2*i+1
theorem yy (i:Int) (st:aa) (h0:0<=i) (h1:i<6):eC (.lst [.int 1, .int 3, .int 5, .int 7, .int 9, .int 11]) (.int i) st= .ok (.int (fM i)) st:=by
 have:i=0∨i=1∨i=2∨i=3∨i=4∨i=5:=by lia
 rcases this with rfl|rfl|rfl|rfl|rfl|rfl<;>simp [fM]
noncomputable def dj (m:Int):Str:=gC (m/6 % 26)++gC (m/156 % 26)
@[simp] theorem IG (m:Int):(dj m).length=2:=rfl
noncomputable def CB (m k:Int):Str:=(⟨(cut (dj m).cps.toList none (some (m/4056 % 3))).toArray⟩++gC ((m/156+k*fM (m % 6)) % 26))++⟨(cut (dj m).cps.toList (some (m/4056 % 3)) none).toArray⟩
noncomputable def nm (m many k:Int):Str:=if (m/12168 % 4==0&&decide (many<13))=true then iU (gC (m/6 % 26)) (k+1).toNat else CB m k
theorem rO {α:Type} (xs:List α) (lo hi:Option Int):(cut xs lo hi).length<=xs.length:=by
 unfold cut
 rw [List.length_take,List.length_drop]
 lia
theorem str_len (l:List Nat):(⟨l.toArray⟩:Str).length=l.length:=by simp [Str.length]
theorem A0 (a b:Str):(a++b).length=a.length+b.length:=by
 show (a.cps++b.cps).size=_
 simp [Str.length]
noncomputable def ke:List S:=[.set (.var 10) (.idx (.var 3) (.bin .Mod (.bin .Add (.bin .FloorDiv (.var 4) (.const (.int 156))) (.bin .Mult (.var 9) (.var 6))) (.const (.int 26)))), .ife (.and (.cmp .Eq (.bin .Mod (.bin .FloorDiv (.var 4) (.const (.int 12168))) (.const (.int 4))) (.const (.int 0))) (.cmp .Lt (.var 2) (.const (.int 13)))) [.expr (.bm .append (.var 8) [.bin .Mult (.idx (.var 3) (.bin .Mod (.bin .FloorDiv (.var 4) (.const (.int 6))) (.const (.int 26)))) (.bin .Add (.var 9) (.const (.int 1)))])] [.expr (.bm .append (.var 8) [.bin .Add (.bin .Add (.slc (.var 5) none (some (.var 7))) (.var 10)) (.slc (.var 5) (some (.var 7)) none)])]]
theorem nh {P:Pg} (cl:ar) (m many:Int) (T:aa) (o:Ob) (x0 x1:Option Val):∀(c:Nat) (lo:Nat) (acc:List Val) (x9 x10:Option Val),acc.length+c<=100->lo+c<=100->
  ∃y9 y10,forL (.var 9) (fY P cl ke) [] (aX lo c) [x0,x1,some (.int many),some (.str wL),some (.int m),some (.str (dj m)),some (.int (fM (m % 6))),some (.int (m/4056 % 3)),some (.ref (T.length+1)),x9,x10] (o::(T++[.lst acc]))
   = .next [x0,x1,some (.int many),some (.str wL),some (.int m),some (.str (dj m)),some (.int (fM (m % 6))),some (.int (m/4056 % 3)),some (.ref (T.length+1)),y9,y10] (o::(T++[.lst (acc++(au lo c).map fun k=> .str (nm m many k))]))
 |0,lo,acc,x9,x10,_,_=>⟨x9,x10,by simp [aX,au]⟩
 |c+1,lo,acc,x9,x10,hl,hc=>by
  obtain ⟨y9,y10,e⟩:=nh cl m many T o x0 x1 c (lo+1) (acc++[.str (nm m many lo)]) (some (.int lo)) (some (.str (gC ((m/156+lo*fM (m % 6)) % 26)))) (by simp;lia) (by lia)
  refine ⟨y9,y10, ?_⟩
  have t1:=fun st=>jJ ((m/156+lo*fM (m % 6)) % 26) st (by lia) (by lia)
  have t2:=fun st=>jJ (m/6 % 26) st (by lia) (by lia)
  have l:acc.length<10000:=by lia
  have hi:(fM (m % 6)).natAbs<2^64:=by unfold fM;lia
  have h3:(0:Int)<=(lo:Int)+1:=by lia
  have h4:(lo:Int)+1<=1000:=by lia
  have c1:=rO (dj m).cps.toList none (some (m/4056 % 3))
  have c2:=rO (dj m).cps.toList (some (m/4056 % 3)) none
  have sl:(dj m).cps.toList.length=2:=rfl
  rw [sl] at c1 c2
  have d1:(cut (dj m).cps.toList none (some (m/4056 % 3))).length+1<=100000:=by lia
  have d2:(cut (dj m).cps.toList none (some (m/4056 % 3))).length+1+(cut (dj m).cps.toList (some (m/4056 % 3)) none).length<=100000:=by lia
  unfold ke at e⊢
  simp [aX,au] at e⊢
  simp [-jC,t1,hi]
  cases hb:(m/12168 % 4==0&&decide (many<13)) with
  |true=>
   simp [-jC,t2,h3,h4,cx,l]
   simp [nm,hb] at e⊢
   exact e
  |false=>
   simp [cx,l,str_len,A0,d1,d2]
   simp [nm,hb,CB] at e⊢
   exact e
theorem xK {b t k j:Int} (i:Int) (ht:t=fM i) (hi:0<=i/\i<6) (hk:0<=k/\k<26) (hj:0<=j/\j<26) (e:(b+k*t) % 26=(b+j*t) % 26):k=j:=by
 have:i=0∨i=1∨i=2∨i=3∨i=4∨i=5:=by lia
 rcases this with rfl|rfl|rfl|rfl|rfl|rfl<;>simp [fM] at ht<;>subst ht<;>lia
theorem rJ (z:Str) (h:z.length=1) (n:Nat):(iU z n).length=n:=by
 unfold iU
 rw [str_len]
 simp
 have:z.cps.size=1:=h
 simp [this]
theorem B7 {i j:Int} (hi:0<=i) (hj:0<=j) (h:gC i=gC j):i=j:=by
 have:=congrArg (fun x:Str=>x.cps.toList) h
 simp [gC] at this
 lia
theorem Bk {a b x y:Str} (h:(a++x)++b=(a++y)++b):x=y:=by
 have:=congrArg (fun x:Str=>x.cps.toList) h
 have h1:(a.cps.toList++x.cps.toList)++b.cps.toList=(a.cps.toList++y.cps.toList)++b.cps.toList:=by
  have e:∀u v:Str,(u++v).cps.toList=u.cps.toList++v.cps.toList:=fun u v=>by
   show (u.cps++v.cps).toList=_
   simp
  simp only [e] at this
  exact this
 have h2:=List.append_cancel_left (List.append_cancel_right h1)
 cases x;cases y
 simp at h2
 rw [h2]
theorem Dw {m many k j:Int} (hk:0<=k/\k<26) (hj:0<=j/\j<26) (h:nm m many k=nm m many j):k=j:=by
 unfold nm at h
 split at h
 ·have:=congrArg Str.length h
  rw [rJ _ rfl,rJ _ rfl] at this
  lia
 ·unfold CB at h
  have:=B7 (by lia) (by lia) (Bk h)
  exact xK (m % 6) rfl (by lia) hk hj this
theorem lO {α:Type} (f:Int->α):∀(n:Nat) (lo:Int),(∀i j,lo<=i->i<lo+n->lo<=j->j<lo+n->f i=f j->i=j)->((au lo n).map f).Nodup
 |0,_,_=>by simp [au]
 |n+1,lo,h=>by
  simp only [au,List.map_cons,List.nodup_cons]
  refine ⟨fun hm=> ?_,lO f n (lo+1) fun i j a b c d=>h i j (by lia) (by lia) (by lia) (by lia)⟩
  obtain ⟨x,hx,e⟩:=List.mem_map.mp hm
  have:=cU hx
  have:=h x lo (by lia) (by lia) (by lia) (by lia) e
  lia
@[simp] theorem kH:∀(n:Nat) (lo:Int),(au lo n).length=n
 |0,_=>rfl
 |n+1,lo=>by simp [au,kH n]
theorem zu {P:Pg} (F:FG P) (n:Nat) (ns:List Int) (z:Int) (s:aa) (c:Nat) (hc:c<=26) (z0:0<=z) (z1:z<2^60):
  ∃N:List Str,N.length=c/\N.Nodup/\call P (n+2) 40 [fU ns, .ref 0, .int c] (.lst [.int z]::s)= .ok (.ref (s.length+1)) (.lst [.int (z+1)]::(s++[.lst (N.map .str)])):=by
 rw [aq F.f40 _ _ _ rfl]
 unfold xm
 have q1:=cb F n ns z s z0 z1
 have hr:=dF ns (z+1)
 generalize bI ns (z+1)=m at q1 hr
 refine ⟨(au 0 c).map fun k=>nm m c k,by simp,lO _ _ _ fun i j a b c d e=>Dw (by lia) (by lia) e, ?_⟩
 obtain ⟨y9,y10,e⟩:=nh (P:=P) (call P (n+1)) m c (s++[.lst [.int 1, .int 3, .int 5, .int 7, .int 9, .int 11]]) (.lst [.int (z+1)]) (some (fU ns)) (some (.ref 0)) c 0 [] none none (by simp;lia) (by lia)
 have t1:=fun st=>jJ (m/6 % 26) st (by lia) (by lia)
 have t2:=fun st=>jJ (m/156 % 26) st (by lia) (by lia)
 have t3:=fun st=>yy (m % 6) st (by lia) (by lia)
 have h1:(c:Int)<16777216:=by lia
 unfold ke at e
 simp at e
 simp [-jC,-mh,q1,t1,t2,new,t3,h1]
 rw [show gC (m/6 % 26)++gC (m/156 % 26)=dj m from rfl,e]
 simp
 refine (l8 P z (z+1) s _ 1 _ _ rfl (bR _ _ _ _ (ba _ _ fun a=>by simp))).trans ?_
 rfl
end RB
end PI
namespace PI
namespace RB
open PySem
open Classical in
theorem nv {α β:Type} {f:Val->aa->R (Option Val)} {chk:List (Nat×Ob)} {T:aa} {gV:α->Val} {hV:β->Val} {R:α->β->Prop} {d B:Int} (hd:0<=d) (hk:∀z,Kept chk (.lst [.int z]::T)) (hf:∀a z,0<=z->z<B->∃b,R a b/\f (gV a) (.lst [.int z]::T)= .ok (some (hV b)) (.lst [.int (z+d)]::T)):
  ∀(as:List α) (z:Int),0<=z->z+d*as.length<B->∃bs,bK R as bs/\aB f chk (as.map gV) (.lst [.int z]::T)= .ok (bs.map hV) (.lst [.int (z+d*as.length)]::T)
 |[],z,_,_=>⟨[],trivial,by simp;exact bt (hk z)⟩
 |a::as,z,z0,hz=>by
  have hn:0<=d*(as.length:Int):=Int.mul_nonneg hd (by lia)
  have e:d*((a::as).length:Int)=d+d*as.length:=by
   simp [Int.mul_add]
   lia
  rw [e] at hz⊢
  obtain ⟨b,r,q⟩:=hf a z z0 (by lia)
  obtain ⟨bs,r2,q2⟩:=nv hd hk hf as (z+d) (by lia) (by lia)
  refine ⟨b::bs,⟨r,r2⟩, ?_⟩
  show iff (Kept chk _) ((f (gV a) _).bind fun o st=>(aB f chk (as.map gV) st).bind fun r st=> .ok (eJ o r) st)=_
  rw [bt (hk z),q]
  show (aB f chk (as.map gV) (.lst [.int (z+d)]::T)).bind _=_
  rw [q2]
  simp [Int.add_assoc]
noncomputable def _root_.PI.Bx.Ok (b:Bx):Prop:=(0<=b.w/\big b.w)/\0<=b.h/\(b.cold=0∨b.cold=1)/\0<=b.port
theorem Cf {i:Int} (h:i.natAbs<10^60):big i:=by
 unfold big
 exact Nat.lt_of_lt_of_le (show i.natAbs<2^200 by lia) (Nat.pow_le_pow_right (by lia) (by lia))
noncomputable def tw (i:Int):Str:=if i=0 then "dry" else if i=1 then "wet" else if i=2 then "hot" else "oil"
theorem JH (i:Int) (st:aa) (h0:0<=i) (h1:i<4):eC (.lst [.str "dry", .str "wet", .str "hot", .str "oil"]) (.int i) st= .ok (.str (tw i)) st:=by
 have:i=0∨i=1∨i=2∨i=3:=by lia
 rcases this with rfl|rfl|rfl|rfl<;>simp [tw]
theorem Dv {P:Pg} (F:FG P) (n:Nat) (ns:List Int) (z:Int) (s:aa) (x:Str) (z0:0<=z) (z1:z<2^60):
  ∃b:Bx,(b.name=x/\b.Ok)/\call P (n+2) 42 [fU ns, .ref 0, .str x] (.lst [.int z]::s)= .ok (aL b) (.lst [.int (z+1)]::s):=by
 rw [aq F.f42 _ _ _ rfl]
 unfold xS
 have q1:=cb F n ns z s z0 z1
 have hr:=dF ns (z+1)
 generalize bI ns (z+1)=m at q1 hr
 have t:=fun st=>JH (m % 4) st (by lia) (by lia)
 refine ⟨⟨x,m/4 % 12,m/48 % 9,if (m/432 % 4==0)=true then 1 else 0,tw (m % 4),m/1728 % 5⟩,⟨rfl,⟨by show 0<=m/4 % 12;lia,Cf (by show (m/4 % 12).natAbs<_;lia)⟩,by show 0<=m/48 % 9;lia, ?_,by show 0<=m/1728 % 5;lia⟩, ?_⟩
 ·simp only
  split<;>simp
 ·simp [-mh,q1,t,new]
  exact pd P z (z+1) s [.lst _] (aL ⟨x,m/4 % 12,m/48 % 9,_,tw (m % 4),m/1728 % 5⟩) (by simp)
theorem tB {N:List Str} {Bs:List Bx} {f:Bx->Prop} (h:bK (fun x b=>b.name=x/\f b) N Bs):Bs.map (·.name)=N/\∀b∈Bs,f b:=by
 induction Bs generalizing N with
 |nil=>cases N with
  |nil=>simp
  |cons _ _=>exact h.elim
 |cons b Bs ih=>cases N with
  |nil=>exact h.elim
  |cons x N=>
   obtain ⟨h1,h2⟩:=ih h.2
   refine ⟨by simp [h.1.1];simpa using h1,fun c hc=> ?_⟩
   rcases List.mem_cons.mp hc with rfl|hc
   ·exact h.1.2
   ·exact h2 c hc
theorem yc {P:Pg} (F:FG P) (n:Nat) (ns:List Int) (z:Int) (s:aa) (c:Nat) (hc:c<=26) (z0:0<=z) (z1:z<2^59):
  ∃(Bs:List Bx) (z':Int),Bs.length=c/\(Bs.map (·.name)).Nodup/\(∀b∈Bs,b.Ok)/\z<=z'/\z'<=z+40/\call P (n+3) 43 [fU ns, .ref 0, .int c] (.lst [.int z]::s)= .ok (.ref (s.length+1)) (.lst [.int z']::(s++[.lst (Bs.map aL)])):=by
 rw [aq F.f43 _ _ _ rfl]
 unfold yr
 obtain ⟨N,h1,h2,q1⟩:=zu F n ns z s c hc z0 (by lia)
 obtain ⟨Bs,r,q2⟩:=nv (f:=Tn P (call P (n+2)) 1 [1,0] (.var 0) none (.call 42 [.var 2, .var 1, .var 0]) [some (fU ns),some (.ref 0),some (.int c)]) (chk:=[(s.length+1, .lst (N.map .str))]) (T:=s++[.lst (N.map .str)]) (gV:=Val.str) (hV:=aL) (R:=fun x b=>b.name=x/\b.Ok) (d:=1) (B:=2^60) (by lia) (fun z p hp=>by
   simp at hp
   subst hp
   simp) (fun x z z0 z1=>by
   obtain ⟨b,hb,q⟩:=Dv F n ns z (s++[.lst (N.map .str)]) x z0 z1
   exact ⟨b,hb,by simp [Tn,aM,av,q]⟩) N (z+1) (by lia) (by lia)
 obtain ⟨a1,a2⟩:=tB r
 have hl:Bs.length=c:=by rw [←h1,←a1];simp
 have hN:N.length<=10000:=by lia
 refine ⟨Bs,z+1+1*N.length,hl,by rw [a1];exact h2,a2,by lia,by lia, ?_⟩
 simp [q1,q2,hN,T.low,new]
 refine (l8 P z _ s [.lst (N.map .str), .lst (Bs.map aL)] 1 _ _ rfl (bR _ _ _ _ (ba _ _ fun a=>by simp))).trans ?_
 rfl
end RB
end PI
namespace PI
namespace RB
open PySem
noncomputable abbrev Pn:=Int×Int×Int
theorem ju:KOk aD where
 key a:=by simp [aD,bO,uu]
 eq a b:=by
  obtain ⟨a1,a2,a3⟩:=a
  obtain ⟨b1,b2,b3⟩:=b
  simp [aD]
  rw [Bool.eq_iff_iff]
  simp
 kt a b:=by simp [aD,kT]
noncomputable def bQ (D:List (Pn×Int)) (a:Pn):Int:=((D.find? fun p=>p.1=a).map (·.2)).getD 0
noncomputable def dput (D:List (Pn×Int)) (a:Pn) (x:Int):List (Pn×Int):=if a∈D.map (fun p=>p.1) then D.map (fun p=>if p.1=a then (p.1,x) else p) else D++[(a,x)]
theorem r8 (a:Pn) (x:Int):∀D:List (Pn×Int),kF (aD a) (.int x) (D.map fun p=>aD p.1) (D.map fun p=> .int p.2)=(D.map (fun p=>if p.1=a then (p.1,x) else p)).map fun p=> .int p.2
 |[]=>by simp [kF]
 |p::D=>by
  simp only [List.map_cons,kF]
  rw [r8 a x D,ju.eq]
  by_cases h:p.1=a<;>simp [h]
theorem BP (a:Pn) (x:Int) (D:List (Pn×Int)):putD (aD a) (.int x) (D.map fun p=>aD p.1) (D.map fun p=> .int p.2)=some ((dput D a x).map (fun p=>aD p.1),(dput D a x).map fun p=> .int p.2):=by
 have e:(D.map fun p=>aD p.1)=(D.map fun p=>p.1).map aD:=by simp
 unfold putD
 rw [r8,e,mf ju,←e]
 unfold dput
 by_cases h:a∈D.map (fun p=>p.1)
 ·simp only [h,decide_true,if_true,Option.map_some]
  congr 2
  simp
  intro a1 a2 a3 v _
  split<;>simp [*]
 ·simp only [h,decide_false,if_false,Option.map_some]
  simp
theorem gZ (D:List (Pn×Int)) (a b:Pn) (x:Int):bQ (dput D a x) b=if b=a then x else bQ D b:=by
 unfold dput
 split
 ·rename_i h
  induction D with
  |nil=>simp at h
  |cons p D ih=>
   unfold bQ at ih⊢
   by_cases hp:p.1=a
   ·by_cases hb:b=a
    ·simp [hp,hb]
    ·have hb':¬p.1=b:=fun e=>hb (by rw [←e,hp])
     have hb'':¬a=b:=fun e=>hb e.symm
     simp only [List.map_cons,hp,if_true]
     rw [List.find?_cons_of_neg (by simp [hb'']),List.find?_cons_of_neg (by simp [hp,hb''])]
     by_cases hm:a∈D.map (fun p=>p.1)
     ·exact ih hm
     ·have e:D.map (fun p=>if p.1=a then (p.1,x) else p)=D:=by
       conv=>rhs;rw [←List.map_id D]
       refine List.map_congr_left fun q hq=> ?_
       rw [if_neg (fun (e:q.1=a)=>hm (List.mem_map.mpr ⟨q,hq,e⟩))]
       rfl
      rw [e,if_neg hb]
   ·have hm:a∈D.map (fun p=>p.1):=by
     rcases List.mem_cons.mp h with e|e
     ·exact absurd e.symm hp
     ·exact e
    simp only [List.map_cons,hp,if_false]
    by_cases hb:p.1=b
    ·have:¬b=a:=fun e=>hp (hb.trans e)
     rw [List.find?_cons_of_pos (by simp [hb]),List.find?_cons_of_pos (by simp [hb]),if_neg this]
    ·rw [List.find?_cons_of_neg (by simp [hb]),List.find?_cons_of_neg (by simp [hb])]
     exact ih hm
 ·rename_i h
  unfold bQ
  rw [List.find?_append]
  by_cases hb:b=a
  ·subst hb
   have:D.find? (fun p=>p.1=b)=none:=by
    rw [List.find?_eq_none]
    intro p hp e
    exact h (List.mem_map.mpr ⟨p,hp,by simpa using e⟩)
   rw [this]
   simp
  ·have:¬a=b:=fun e=>hb e.symm
   simp [this,hb]
theorem xZ (D:List (Pn×Int)) (a:Pn) (x:Int):(dput D a x).length<=D.length+1:=by
 unfold dput
 split<;>simp
structure Pl (sh:Sh) (done:List Bx) (D:List (Pn×Int)) (L:List (Cell×Bx)):Prop where
 len:D.length<=done.length
 top:∀p,0<=bQ D p
 inn:∀q∈L,(∃y,sh.sk? q.1.b q.1.k=some y/\(q.1.d=0∨q.1.d=1)/\0<=q.1.t/\q.1.t<(y.pt q.1.d).c)/\q.1.t<bQ D (q.1.b,q.1.k,q.1.d)
 all:∀p:Pn,∀t:Int,0<=t->t<bQ D p->∃q∈L,q.1=⟨p.1,p.2.1,p.2.2,t⟩
 nod:(L.map fun q=>q.1).Nodup
 sub:(L.map fun q=>q.2).Sublist done
theorem Pl.nil (sh:Sh):Pl sh [] [] []:=⟨by simp,by simp [bQ],by simp,fun p t h0 h1=>by simp [bQ] at h1;lia,by simp,by simp⟩
theorem Pl.skip {sh:Sh} {done:List Bx} {D:List (Pn×Int)} {L:List (Cell×Bx)} (h:Pl sh done D L) (b:Bx):Pl sh (done++[b]) D L:=⟨by have:=h.len;simp;lia,h.top,h.inn,h.all,h.nod,h.sub.trans (List.sublist_append_left _ _)⟩
theorem Pl.put {sh:Sh} {done:List Bx} {D:List (Pn×Int)} {L:List (Cell×Bx)} (h:Pl sh done D L) (b:Bx) (p:Pn) (y:Sk) (hy:sh.sk? p.1 p.2.1=some y) (hd:p.2.2=0∨p.2.2=1) (ht:bQ D p<(y.pt p.2.2).c):
  Pl sh (done++[b]) (dput D p (bQ D p+1)) (L++[(⟨p.1,p.2.1,p.2.2,bQ D p⟩,b)]):=by
 have h0:=h.top p
 refine ⟨?_,fun q=> ?_,fun q hq=> ?_,fun q t t0 t1=> ?_, ?_, ?_⟩
 ·have:=h.len
  have:=xZ D p (bQ D p+1)
  simp
  lia
 ·rw [gZ]
  split
  ·lia
  ·exact h.top q
 ·rcases List.mem_append.mp hq with hq|hq
  ·obtain ⟨h1,h2⟩:=h.inn q hq
   refine ⟨h1, ?_⟩
   rw [gZ]
   split
   ·rename_i e
    rw [e] at h2
    lia
   ·exact h2
  ·simp at hq
   subst hq
   refine ⟨⟨y,hy,hd,h0,ht⟩, ?_⟩
   rw [gZ]
   simp
   lia
 ·rw [gZ] at t1
  split at t1
  ·rename_i e
   subst e
   by_cases e:t=bQ D q
   ·subst e
    exact ⟨_,List.mem_append.mpr (.inr (by simp;rfl)),rfl⟩
   ·obtain ⟨r,hr,e2⟩:=h.all q t t0 (by lia)
    exact ⟨r,List.mem_append.mpr (.inl hr),e2⟩
  ·obtain ⟨r,hr,e2⟩:=h.all q t t0 t1
   exact ⟨r,List.mem_append.mpr (.inl hr),e2⟩
 ·rw [List.map_append,List.nodup_append]
  refine ⟨h.nod,by simp,fun c hc e he=> ?_⟩
  simp at he
  subst he
  obtain ⟨q,hq,e⟩:=List.mem_map.mp hc
  intro e2
  rw [e2] at e
  have:=(h.inn q hq).2
  rw [e] at this
  simp at this
 ·rw [List.map_append]
  exact List.Sublist.append h.sub (by simp)
theorem Pl.ld {sh:Sh} {done:List Bx} {D:List (Pn×Int)} {L:List (Cell×Bx)} (h:Pl sh done D L) (hl:done.length<64) (hn:(done.map (·.name)).Nodup):bY sh L:=by
 refine ⟨?_,h.nod, ?_,fun q hq=>(h.inn q hq).1,fun q hq=> ?_⟩
 ·have:=h.sub.length_le
  simp at this
  lia
 ·have:=(h.sub.map (·.name)).nodup hn
  rw [List.map_map] at this
  exact this
 ·obtain ⟨⟨y,h1,h2,h3,h4⟩,h5⟩:=h.inn q hq
  by_cases e:q.1.t=0
  ·exact .inl e
  ·exact .inr (h.all (q.1.b,q.1.k,q.1.d) (q.1.t-1) (by lia) (by lia))
noncomputable def Nk (t:T) (body:Env->aa->F) (chk:List (Nat×Ob)) (vs:List Val) (env:Env) (st:aa):F:=forL t body chk vs env st
open Classical in
theorem jm {t:T} {body:Env->aa->F} {chk:List (Nat×Ob)} {v:Val} {env:Env} {st:aa} (hk:Kept chk st):forL t body chk (v::vs) env st=(F.ak st (t.put v env)).bind fun env st=>(body env st).turn (Nk t body chk vs):=gB hk
open Classical in
theorem ki {t:T} {body:Env->aa->F} {chk:List (Nat×Ob)} {env:Env} {st:aa} (hk:Kept chk st):forL t body chk [] env st= .next env st:=gB hk
noncomputable def lG:List S:=[.set (.var 8) (.idx (.var 6) (.bin .Mod (.call 15 [.var 0, .var 1]) (.bi .len [.var 6]))), .set (.var 9) (.bm .get (.var 4) [.var 8, .const (.int 0)]), .ife (.cmp .Lt (.var 9) (.idx (.call 12 [.var 2, .var 8]) (.const (.int 0)))) [.eT (.var 4) (.var 8) (.bin .Add (.var 9) (.const (.int 1))), .expr (.bm .append (.var 5) [.tup [.bin .Add (.var 8) (.tup [.var 9]), .var 7]])] []]
noncomputable abbrev nS (s:aa) (sh:Sh) (z:Int) (D:List (Pn×Int)) (L:List (Cell×Bx)):aa:= .lst [.int z]::(s++[.dct (D.map fun p=>aD p.1) (D.map fun p=> .int p.2), .lst (L.map aT), .lst (sh.parts.map aD)])
noncomputable abbrev vK (ns:List Int) (s:aa) (sh:Sh) (k:Nat) (x7 x8 x9:Option Val):Env:=[some (fU ns),some (.ref 0),some (bU sh),some (.ref (k+1)),some (.ref (s.length+1)),some (.ref (s.length+1+1)),some (.ref (s.length+2+1)),x7,x8,x9]
theorem mx {P:Pg} (F:FG P) (n:Nat) (ns:List Int) (s:aa) (sh:Sh) (hs:sh.Ok) (k:Nat) (Bs:List Bx) (hk:s[k]?=some (.lst (Bs.map aL))):
  ∀(rest done:List Bx) (D:List (Pn×Int)) (L:List (Cell×Bx)) (z:Int) (x7 x8 x9:Option Val),Pl sh done D L->done.length+rest.length<=60->0<=z->z+rest.length<2^59->
  ∃D' L' z' y7 y8 y9,forL (.var 7) (fY P (call P (n+4)) lG) [(k+1, .lst (Bs.map aL))] (rest.map aL) (vK ns s sh k x7 x8 x9) (nS s sh z D L)= .next (vK ns s sh k y7 y8 y9) (nS s sh z' D' L')/\Pl sh (done++rest) D' L'/\z<=z'/\z'<=z+rest.length
 |[],done,D,L,z,x7,x8,x9,h,_,_,_=>⟨D,L,z,x7,x8,x9,ki (fun p hp=>by
  have hk1:k<s.length:=(List.getElem?_eq_some_iff.mp hk).1
  simp at hp
  subst hp
  simp [List.getElem?_append_left hk1,hk]),by simpa using h,by lia,by simp⟩
 |b::rest,done,D,L,z,x7,x8,x9,h,hl,z0,z1=>by
  have hk1:k<s.length:=(List.getElem?_eq_some_iff.mp hk).1
  have hkept:Kept [(k+1, .lst (Bs.map aL))] (nS s sh z D L):=fun p hp=>by
   simp at hp
   subst hp
   simp [List.getElem?_append_left hk1,hk]
  rw [List.map_cons,jm hkept]
  have q1:=cb F (n+3) ns z (s++[.dct (D.map fun p=>aD p.1) (D.map fun p=> .int p.2), .lst (L.map aT), .lst (sh.parts.map aD)]) z0 (by simp at z1;lia)
  have np:0<sh.parts.length:=List.length_pos_iff.mpr (xJ hs)
  have r0:0<=bI ns (z+1) % (sh.parts.length:Int):=Int.emod_nonneg _ (by lia)
  have r1:bI ns (z+1) % (sh.parts.length:Int)<sh.parts.length:=Int.emod_lt_of_pos _ (by lia)
  obtain ⟨p,hp⟩:∃p,sh.parts[(bI ns (z+1) % (sh.parts.length:Int)).toNat]?=some p:=⟨_,List.getElem?_eq_getElem (by lia)⟩
  obtain ⟨_,hp'⟩:=List.getElem?_eq_some_iff.mp hp
  obtain ⟨y,hy,hd⟩:=wa (List.mem_of_getElem? hp)
  have q2:=cW F.toFPart (n+1) sh false p.1 p.2.1 p.2.2 y (nS s sh (z+1) D L) hy hd
  have q3:∀st,qw (.dct (D.map fun p=>aD p.1) (D.map fun p=> .int p.2)) [aD p, .int 0] st= .ok (.int (bQ D p)) st:=fun st=>by
   rw [p9,bt (ju.key p),mi ju Val.int p D]
   simp [bQ]
   cases List.find? (fun q=>decide (q.1=p)) D<;>rfl
  have epv:aD p= .tup false [.int p.1, .int p.2.1, .int p.2.2]:=rfl
  rw [←epv] at q2
  have hDl:D.length<10000:=by have:=h.len;simp at hl;lia
  have hLl:L.length<10000:=by have:=h.sub.length_le;simp at this hl;lia
  have ec:dS (y.pt p.2.2)= .tup false [.int (y.pt p.2.2).c, .int (y.pt p.2.2).s, .int (y.pt p.2.2).h, .tup true ((y.pt p.2.2).p.map .int), .int (y.pt p.2.2).l]:=rfl
  simp only [nS,ec] at q2
  have q4:=BP p (bQ D p+1) D
  have q5:=ju.key p
  have q6:∀st,ko (aD p) (.tup false [.int (bQ D p)]) st= .ok (aw ⟨p.1,p.2.1,p.2.2,bQ D p⟩) st:=fun st=>by simp [aD,aw]
  have q7:∀st,res st (aD p)=aD p:=fun st=>kh st _ (by simp)
  simp at hl z1
  by_cases ht:bQ D p<(y.pt p.2.2).c
  ·obtain ⟨D',L',z',y7,y8,y9,e,h2,h3,h4⟩:=mx F n ns s sh hs k Bs hk rest (done++[b]) (dput D p (bQ D p+1)) (L++[(⟨p.1,p.2.1,p.2.2,bQ D p⟩,b)]) (z+1) (some (aL b)) (some (aD p)) (some (.int (bQ D p))) (h.put b p y hy hd ht) (by simp;lia) (by lia) (by lia)
   refine ⟨D',L',z',y7,y8,y9, ?_,by simpa using h2,by lia,by simp;lia⟩
   unfold lG at e⊢
   simp only [nS,vK] at e⊢
   simp [q1,r0,r1,np,hp,hp',cx,q3,-p9,q2,ht,hDl,hLl,q4,q5,q6,Nk]
   simp [aT] at e⊢
   exact e
  ·obtain ⟨D',L',z',y7,y8,y9,e,h2,h3,h4⟩:=mx F n ns s sh hs k Bs hk rest (done++[b]) D L (z+1) (some (aL b)) (some (aD p)) (some (.int (bQ D p))) (h.skip b) (by simp;lia) (by lia) (by lia)
   refine ⟨D',L',z',y7,y8,y9, ?_,by simpa using h2,by lia,by simp;lia⟩
   unfold lG at e⊢
   simp only [nS,vK] at e⊢
   simp [q1,r0,r1,np,hp,hp',cx,q3,-p9,q2,ht,Nk]
   exact e
theorem uQ {P:Pg} (F:FG P) (n:Nat) (ns:List Int) (s:aa) (sh:Sh) (hs:sh.Ok) (k:Nat) (Bs:List Bx) (hk:s[k]?=some (.lst (Bs.map aL))) (hl:Bs.length<=60) (hn:(Bs.map (·.name)).Nodup) (z:Int) (z0:0<=z) (z1:z<2^58):
  ∃(L:List (Cell×Bx)) (z':Int),bY sh L/\(L.map fun q=>q.2).Sublist Bs/\z<=z'/\z'<=z+60/\call P (n+5) 44 [fU ns, .ref 0,bU sh, .ref (k+1)] (.lst [.int z]::s)= .ok (.ref (s.length+1)) (.lst [.int z']::(s++[.lst (L.map aT)])):=by
 rw [aq F.f44 _ _ _ rfl]
 unfold zj
 have hk1:k<s.length:=(List.getElem?_eq_some_iff.mp hk).1
 obtain ⟨D',L,z',y7,y8,y9,e,h2,h3,h4⟩:=mx F n ns s sh hs k Bs hk Bs [] [] [] z none none none (Pl.nil sh) (by simp;lia) z0 (by lia)
 refine ⟨L,z',h2.ld (by simp;lia) (by simpa using hn),by simpa using h2.sub,h3,by lia, ?_⟩
 have q1:=jR F.toFPart (n+3) sh hs (.lst [.int z]::(s++[.dct [] [], .lst []]))
 have hg:∀g:aa,(s++g)[k]?=some (.lst (Bs.map aL)):=fun g=>by rw [List.getElem?_append_left hk1,hk]
 unfold lG at e
 simp only [nS,vK] at e
 simp at e q1
 simp [new,q1,hg]
 rw [e]
 simp
 refine (l8 P z z' s [_, .lst (L.map aT),_] 1 _ _ rfl (bR _ _ _ _ (ba _ _ fun a=>by simp))).trans ?_
 rfl
end RB
end PI
namespace PI
open PySem
noncomputable abbrev sV (ns:List Int):Val:= .lst (ns.map .int)
noncomputable def ft:List S:=[.set (.var 7) (.bin .Mod (.call 15 [.var 0, .var 1]) (.const (.int 5))), .set (.var 5) (.comp 1 [6,7] (.var 0) (.val (.var 5)) (some (.or (.cmp .NotEq (.slc (.idx (.var 0) (.const (.int 0))) none (some (.const (.int 3)))) (.var 1)) (.cmp .Lt (.idx (.idx (.var 0) (.const (.int 0))) (.const (.int 3))) (.var 2)))) (.var 0))]
theorem zk {P:Pg} (cl:ar) (p:Int×Int×Int) (c:Int) (M:List (Cell×Bx)) (x0 x1 x2 x3 x4 x5 x8 x9 x10:Option Val) (S:aa) (chk:List (Nat×Ob)) (hk:Kept chk S):aB (Tn P cl 1 [6,7] (.var 0) (some (.or (.cmp .NotEq (.slc (.idx (.var 0) (.const (.int 0))) none (some (.const (.int 3)))) (.var 1)) (.cmp .Lt (.idx (.idx (.var 0) (.const (.int 0))) (.const (.int 3))) (.var 2)))) (.var 0) [x0,x1,x2,x3,x4,x5,some (aD p),some (.int c),x8,x9,x10]) chk (M.map aT) S= .ok ((M.filter (keep p c)).map aT) S:=by
 have:=dw (f:=Tn P cl 1 [6,7] (.var 0) (some (.or (.cmp .NotEq (.slc (.idx (.var 0) (.const (.int 0))) none (some (.const (.int 3)))) (.var 1)) (.cmp .Lt (.idx (.idx (.var 0) (.const (.int 0))) (.const (.int 3))) (.var 2)))) (.var 0) [x0,x1,x2,x3,x4,x5,some (aD p),some (.int c),x8,x9,x10]) hk aT (fun q=>if keep p c q=true then some (aT q) else none) M fun q _=>by
  have e:=RB.ju.eq (q.1.b,q.1.k,q.1.d) p
  have ep:aD p= .tup false [.int p.1, .int p.2.1, .int p.2.2]:=rfl
  simp only [aD,B5] at e
  simp [Tn,aM,av,aT,aw,bA,cut,ep,e]
  rw [show (!decide ((q.1.b,q.1.k,q.1.d)=p)||decide (q.1.t<c))=keep p c q from rfl]
  cases keep p c q<;>rfl
 rw [this,dY]
theorem o9 {P:Pg} (G:RB.FG P) (n:Nat) (ns:List Int) (sh:Sh) (T:aa) (pi:Nat) (hp:∀g,(T++g)[pi]?=some (.lst (sh.parts.map aD))) (x2 x3 x4 x8 x9 x10:Option Val):
  ∀(ps:List (Int×Int×Int)) (g:aa) (M:List (Cell×Bx)) (q:Nat) (z:Int) (x6 x7:Option Val),bY sh M->(T++g)[q]?=some (.lst (M.map aT))->0<=z->z+ps.length<2^59->
  ∃g' M' q' z' y6 y7,forL (.var 6) (fY P (call P (n+1)) ft) [(pi+1, .lst (sh.parts.map aD))] (ps.map aD) [some (sV ns),some (.ref 0),x2,x3,x4,some (.ref (q+1)),x6,x7,x8,x9,x10] (.lst [.int z]::(T++g))= .next [some (sV ns),some (.ref 0),x2,x3,x4,some (.ref (q'+1)),y6,y7,x8,x9,x10] (.lst [.int z']::(T++g'))
   /\bY sh M'/\M'.Sublist M/\(T++g')[q']?=some (.lst (M'.map aT))/\z<=z'/\z'<=z+ps.length
 |[],g,M,q,z,x6,x7,h,hq,_,_=>⟨g,M,q,z,x6,x7,RB.ki (fun p h=>by simp at h;subst h;simp [hp]),h, .refl _,hq,by lia,by lia⟩
 |p::ps,g,M,q,z,x6,x7,h,hq,z0,z1=>by
  simp at z1
  have hk:Kept [(pi+1, .lst (sh.parts.map aD))] (.lst [.int z]::(T++g)):=fun p h=>by simp at h;subst h;simp [hp]
  rw [List.map_cons,RB.jm hk]
  have q1:=RB.cb G n ns z (T++g) z0 (by lia)
  have hqlt:q<(T++g).length:=(List.getElem?_eq_some_iff.mp hq).1
  obtain ⟨g',M',q',z',y6,y7,e,h1,h2,h3,h4,h5⟩:=o9 G n ns sh T pi hp x2 x3 x4 x8 x9 x10 ps (g++[.lst ((M.filter (keep p (RB.bI ns (z+1) % 5))).map aT)]) (M.filter (keep p (RB.bI ns (z+1) % 5))) (T++g).length (z+1) (some (aD p)) (some (.int (RB.bI ns (z+1) % 5))) (h.keep _ _) (by rw [←List.append_assoc];simp) (by lia) (by lia)
  refine ⟨g',M',q',z',y6,y7, ?_,h1,h2.trans List.filter_sublist,h3,by lia,by simp;lia⟩
  have hl:M.length<=10000:=by have:=h.1;lia
  have hc:=zk (P:=P) (call P (n+1)) p (RB.bI ns (z+1) % 5) M (some (sV ns)) (some (.ref 0)) x2 x3 x4 (some (.ref (q+1))) x8 x9 x10 (.lst [.int (z+1)]::(T++g)) [(q+1, .lst (M.map aT))] (fun r hr=>by simp at hr;subst hr;simpa using hq)
  unfold ft at e⊢
  simp [q1,hq,hc,hl,PI.T.low,new,RB.Nk]
  simp at e
  exact e
noncomputable def oQ:List S:=[.set (.var 3) (.call 41 [.var 0, .var 1, .const (.int 2), .const (.int 3), .const (.int 4)]), .set (.var 4) (.call 44 [.var 0, .var 1, .var 3, .call 43 [.var 0, .var 1, .bin .Mod (.call 15 [.var 0, .var 1]) (.const (.int 11))]]), .set (.var 5) (.bi .list [.var 4]), .for (.var 6) (.val (.call 9 [.var 3])) ft, .set (.var 8) (.call 74 [.make 10 [.var 3, .var 4]]), .set (.var 9) (.call 74 [.make 10 [.var 3, .var 5]]), .for (.var 10) (.val (.var 9)) [.ife (.cmp .NotIn (.var 10) (.var 8)) [.ret (.const (.bl false))] []], .ife (.and (.call 75 [.make 10 [.var 3, .var 4]]) (.not (.call 75 [.make 10 [.var 3, .var 5]]))) [.ret (.const (.bl false))] []]
noncomputable def DI (ns:List Int) (i:Nat) (env:Env) (st:aa):Prop:=(∃z rest,st= .lst [.int z]::rest/\0<=z/\z<=1000*i)/\∃x2 x3 x4 x5 x6 x7 x8 x9 x10,env=[some (sV ns),some (.ref 0),x2,x3,x4,x5,x6,x7,x8,x9,x10]
theorem k7 {P:Pg} (cl:ar) (x0 x1 x2 x3 x4 x5 x6 x7:Option Val) (z:Int) (S:aa) (F1 F2:List (Nat×Cell)):∀(fs:List (Nat×Cell)) (x10:Option Val),(∀f∈fs,f∈F1)->
  ∃y10,forL (.var 10) (fY P cl [.ife (.cmp .NotIn (.var 10) (.var 8)) [.ret (.const (.bl false))] []]) [(S.length+1+1, .lst (F2.map fV))] (fs.map fV) [x0,x1,x2,x3,x4,x5,x6,x7,some (.ref (S.length+1)),some (.ref (S.length+1+1)),x10] (.lst [.int z]::(S++[.lst (F1.map fV), .lst (F2.map fV)]))
   = .next [x0,x1,x2,x3,x4,x5,x6,x7,some (.ref (S.length+1)),some (.ref (S.length+1+1)),y10] (.lst [.int z]::(S++[.lst (F1.map fV), .lst (F2.map fV)]))
 |[],x10,_=>⟨x10,RB.ki (fun p hp=>by simp at hp;subst hp;simp)⟩
 |f::fs,x10,h=>by
  obtain ⟨y10,e⟩:=k7 cl x0 x1 x2 x3 x4 x5 x6 x7 z S F1 F2 fs (some (fV f)) fun g hg=>h g (by simp [hg])
  refine ⟨y10, ?_⟩
  rw [List.map_cons,RB.jm (fun p hp=>by simp at hp;subst hp;simp)]
  have m:=DW f F1 (h f (by simp))
  have et:∀st,res st (fV f)=fV f:=fun st=>kh st _ (by simp)
  simp [m,RB.Nk]
  exact e
theorem EV {P:Pg} (G:RB.FG P) (F:FFault P) (n:Nat) (ns:List Int) (i:Nat) (hi:i<100) (v:Val) (env:Env) (st:aa) (h:DI ns i env st):∃env' st',aP P (call P (n+7)) oQ (env.set 2 (some v)) st= .next env' st'/\DI ns (i+1) env' st':=by
 obtain ⟨⟨z,s,rfl,z0,z1⟩,x2,x3,x4,x5,x6,x7,x8,x9,x10,rfl⟩:=h
 obtain ⟨sh,y1,o1,_,_,_,a1,a2,e1⟩:=RB.rg G n ns s z 2 3 4 (by lia) (by lia) (by lia) (by lia) (by lia) z0 (by lia)
 have e2:=RB.cb G (n+6) ns y1 s (by lia) (by lia)
 have hr:=RB.dF ns (y1+1)
 obtain ⟨c,hc⟩:∃c:Nat,(c:Int)=RB.bI ns (y1+1) % 11:=⟨(RB.bI ns (y1+1) % 11).toNat,by lia⟩
 obtain ⟨Bs,y3,l3,d3,k3,a5,a6,e3⟩:=RB.yc G (n+4) ns (y1+1) s c (by lia) (by lia) (by lia)
 rw [hc] at e3
 obtain ⟨L,y5,l5,u5,a9,a10,e5⟩:=RB.uQ G (n+2) ns (s++[.lst (Bs.map aL)]) sh o1 s.length Bs (by simp) (by lia) d3 y3 (by lia) (by lia)
 obtain ⟨W,hW⟩:∃W,W=s++[.lst (Bs.map aL), .lst (L.map aT)]:=⟨_,rfl⟩
 have hP:∀g:aa,(W++g)[s.length+1]?=some (.lst (L.map aT)):=fun g=>by rw [hW];simp
 have e6:=jR G.toFPart (n+6) sh o1 (.lst [.int y5]::(W++[.lst (L.map aT)]))
 have hpl:sh.parts.length<=800:=by
  have:=nr sh.bays 0 fun b hb=>(o1.2.2.2.1 b hb).2.1
  have:=o1.2.1
  unfold Sh.parts
  lia
 obtain ⟨g',M,q,y6,w6,w7,e7,h1,h2,h3,h4,h5⟩:=o9 G (n+6) ns sh (W++[.lst (L.map aT), .lst (sh.parts.map aD)]) (W.length+1) (fun g=>by simp) (some v) (some (bU sh)) (some (.ref (s.length+1+1))) x8 x9 x10 sh.parts [] L W.length y5 x6 x7 l5 (by simp) (by lia) (by lia)
 obtain ⟨S,hS⟩:∃S,S=W++[.lst (L.map aT), .lst (sh.parts.map aD)]++g':=⟨_,rfl⟩
 rw [←hS] at e7 h3
 have hL:∀g:aa,(S++g)[s.length+1]?=some (.lst (L.map aT)):=fun g=>by
  rw [hS,List.append_assoc,List.append_assoc]
  exact hP _
 have hql:q<S.length:=(List.getElem?_eq_some_iff.mp h3).1
 have hM:∀g:aa,(S++g)[q]?=some (.lst (M.map aT)):=fun g=>by rw [List.getElem?_append_left hql,h3]
 have hL0:=hL []
 rw [List.append_nil] at hL0
 have sL:=l5.aZ
 have sM:=h1.aZ
 obtain ⟨F1,hF1⟩:∃l,l=eE sh (aZ L) (aZ L):=⟨_,rfl⟩
 obtain ⟨F2,hF2⟩:∃l,l=eE sh (aZ M) (aZ M):=⟨_,rfl⟩
 have sub:∀f∈F2,f∈F1:=fun f hf=>by
  rw [hF1]
  rw [hF2] at hf
  exact DL sM sL.2.1 (fun p hp=>(ky L).mem_iff.mpr (h2.subset ((ky M).mem_iff.mp hp))) hf
 have e8:=jv G.toFLoad (n+1) sh L (.ref (s.length+1+1)) (.lst [.int y6]::S) (by simp [hL0]) l5
 have e9:=iK F (n+1) sh o1 (aZ L) sL (.lst [.int y6]::S)
 have wJ:=jv G.toFLoad (n+1) sh M (.ref (q+1)) (.lst [.int y6]::(S++[.lst (F1.map fV)])) (by simp [hM]) h1
 have e11:=iK F (n+1) sh o1 (aZ M) sM (.lst [.int y6]::(S++[.lst (F1.map fV)]))
 obtain ⟨y10,e12⟩:=k7 (P:=P) (call P (n+7)) (some (sV ns)) (some (.ref 0)) (some v) (some (bU sh)) (some (.ref (s.length+1+1))) (some (.ref (q+1))) w6 w7 y6 S F1 F2 F2 x10 sub
 have e13:=jv G.toFLoad (n+1) sh L (.ref (s.length+1+1)) (.lst [.int y6]::(S++[.lst (F1.map fV), .lst (F2.map fV)])) (by simp [hL]) l5
 have e14:=qN F n sh o1 (aZ L) sL (.lst [.int y6]::(S++[.lst (F1.map fV), .lst (F2.map fV)]))
 have e15:=jv G.toFLoad (n+1) sh M (.ref (q+1)) (.lst [.int y6]::(S++[.lst (F1.map fV), .lst (F2.map fV)])) (by simp [hM]) h1
 have e16:=qN F n sh o1 (aZ M) sM (.lst [.int y6]::(S++[.lst (F1.map fV), .lst (F2.map fV)]))
 rw [←hF1] at e9 e14
 rw [←hF2] at e11 e16
 have hb:(F1.isEmpty&& !F2.isEmpty)=false:=by
  cases F1 with
  |nil=>
   cases F2 with
   |nil=>rfl
   |cons f r=>exact absurd (sub f (by simp)) (by simp)
  |cons f r=>rfl
 have hW2:s++[.lst (Bs.map aL), .lst (L.map aT)]=W:=hW.symm
 unfold ft at e7
 unfold oQ ft
 simp at e1 e3 e5 e6 e7 e9 e11
 rw [hW2] at e5
 have hP0:=hP []
 rw [List.append_nil] at hP0
 simp [e1,e2,e3,e5,hP0,new,e6]
 rw [e7]
 simp [e8,e9,wJ,e11]
 rw [e12]
 simp [e13,e14,e15,e16,hb]
 exact ⟨_,_,⟨rfl,rfl⟩,⟨y6,_,rfl,by lia,by lia⟩,_,_,_,_,_,_,_,_,_,rfl⟩
theorem BM {P:Pg} (G:RB.FG P) (F:FFault P) (h79:P.fn 79=some wZ) (n:Nat) (ns:List Int) (hn:ns.length<=63):call P (n+8) 79 [sV ns] []= .ok (.bl true) []:=by
 rw [aq h79 _ _ _ rfl]
 unfold wZ
 have hl:((cut (ns.map Val.int) none (some 60)).length:Int)/20<=3:=by
  simp [cut,bA]
  lia
 have hb:(1+((cut (ns.map Val.int) none (some 60)).length:Int)/20)<16777216:=by lia
 have hb2:0<=(1+((cut (ns.map Val.int) none (some 60)).length:Int)/20):=by lia
 simp [new,hb,hb2]
 obtain ⟨env',st',e,hI⟩:=pR (t:= .var 2) (body:=fY P (call P (n+7)) oQ) (chk:=[]) (DI ns) (aX 0 (1+((cut (ns.map Val.int) none (some 60)).length:Int)/20).toNat) [some (sV ns),some (.ref 0),none,none,none,none,none,none,none,none,none]
  [.lst [.int 0], .lst (cut (ns.map .int) none (some 60))] ⟨⟨0,_,rfl,by lia,by lia⟩,_,_,_,_,_,_,_,_,_,rfl⟩ (fun _ _ st _=>bD st) fun i v env st e hI=>by
   obtain ⟨rfl,li⟩:=pN _ _ _ _ e
   obtain ⟨env2,st2,e2,h2⟩:=EV G F n ns i (by lia) (.int (0+i)) env st hI
   refine ⟨env.set 2 (some (.int (0+i))), ?_,env2,st2, .inl e2,h2⟩
   obtain ⟨_,x2,x3,x4,x5,x6,x7,x8,x9,x10,rfl⟩:=hI
   simp
 unfold oQ ft at e
 rw [e]
 simp
end PI
namespace K09
open PySem PI L2
noncomputable def tp (i:Nat):Stmt:=PySem.Challenge.pw_stowhold_k09_fewer_boxes.main.body.getD i (.Pass ⟨0,0,0,0⟩)
noncomputable def mt (i j:Nat):Stmt:=match tp i with
 | .ClassDef _ _ _ b _ _ _ _ _ _ _=>b.getD j (.Pass ⟨0,0,0,0⟩)
 |s=>s
theorem l0 {Q:List Value->Prop} (h:Q []) (us:List Value) (e:us.length=0):Q us:=match us,e with|[],_=>h
theorem l1 {Q:List Value->Prop} (h:∀a,Q [a]) (us:List Value) (e:us.length=1):Q us:=match us,e with|[_],_=>h _
theorem l2 {Q:List Value->Prop} (h:∀a b,Q [a,b]) (us:List Value) (e:us.length=2):Q us:=match us,e with|[_,_],_=>h _ _
theorem l3 {Q:List Value->Prop} (h:∀a b c,Q [a,b,c]) (us:List Value) (e:us.length=3):Q us:=match us,e with|[_,_,_],_=>h _ _ _
theorem l4 {Q:List Value->Prop} (h:∀a b c d,Q [a,b,c,d]) (us:List Value) (e:us.length=4):Q us:=match us,e with|[_,_,_,_],_=>h _ _ _ _
theorem l5 {Q:List Value->Prop} (h:∀a b c d e,Q [a,b,c,d,e]) (us:List Value) (e:us.length=5):Q us:=match us,e with|[_,_,_,_,_],_=>h _ _ _ _ _
noncomputable def dt:Dt:=⟨[(("StowError":Str),(Gv.err 0:Gv)),(("NoShip":Str),(Gv.err 1:Gv)),(("OutOfShip":Str),(Gv.err 2:Gv)),(("NoLoad":Str),(Gv.err 3:Gv)),(("MOST_CELLS":Str),(Gv.val (.int 9):Gv)),(("Ship":Str),(Gv.cls 9 true:Gv)),(("kept_bay":Str),(Gv.fn 4:Gv)),(("kept_stack":Str),(Gv.fn 5:Gv)),(("kept_part":Str),(Gv.fn 6:Gv)),(("checked_part":Str),(Gv.fn 7:Gv)),(("rising_below":Str),(Gv.fn 8:Gv)),(("parts_of":Str),(Gv.fn 9:Gv)),(("part_at":Str),(Gv.fn 12:Gv)),(("stack_at":Str),(Gv.fn 13:Gv)),(("has_part":Str),(Gv.fn 14:Gv)),(("has_cell":Str),(Gv.fn 31:Gv)),(("cell_order":Str),(Gv.fn 32:Gv)),(("Load":Str),(Gv.cls 10 true:Gv)),(("pair_order":Str),(Gv.fn 34:Gv)),(("check_load":Str),(Gv.fn 35:Gv)),(("stands_on_something":Str),(Gv.fn 36:Gv)),(("box_at":Str),(Gv.fn 37:Gv)),(("Rule":Str),(Gv.cls 11 false:Gv)),(("Strength":Str),(Gv.cls 12 false:Gv)),(("Height":Str),(Gv.cls 13 false:Gv)),(("Cold":Str),(Gv.cls 14 false:Gv)),(("Apart":Str),(Gv.cls 15 false:Gv)),(("Lash":Str),(Gv.cls 16 false:Gv)),(("all_rules":Str),(Gv.fn 73:Gv)),(("boxes_up_to":Str),(Gv.fn 65:Gv)),(("are_foes":Str),(Gv.fn 66:Gv)),(("near":Str),(Gv.fn 67:Gv)),(("cells_near":Str),(Gv.fn 68:Gv)),(("faults_of":Str),(Gv.fn 74:Gv)),(("sound":Str),(Gv.fn 75:Gv)),(("_law_next":Str),(Gv.fn 15:Gv)),(("_law_names":Str),(Gv.fn 40:Gv)),(("_law_part":Str),(Gv.fn 17:Gv)),(("_law_ship":Str),(Gv.fn 41:Gv)),(("_law_box":Str),(Gv.fn 42:Gv)),(("_law_boxes":Str),(Gv.fn 43:Gv)),(("_law_placed":Str),(Gv.fn 44:Gv)),(("law":Str),(Gv.fn 79:Gv))],["len","abs","int","tuple","list","sum","any","dict","range","enumerate","sorted","ValueError"],["bays","foes","trim","heel","ship","placed","box_by_cell","cell_by_name"],[],["box_by_cell","cell_by_name"]⟩
noncomputable def d3:Df:=⟨3,some "Ship","__init__","Ship.__init__",mt 7 0,["self","bays","foes","trim","heel"]⟩
noncomputable def d4:Df:=⟨4,none,"kept_bay","kept_bay",tp 8,["bay"]⟩
noncomputable def d5:Df:=⟨5,none,"kept_stack","kept_stack",tp 9,["stack"]⟩
noncomputable def d6:Df:=⟨6,none,"kept_part","kept_part",tp 10,["part"]⟩
noncomputable def d7:Df:=⟨7,none,"checked_part","checked_part",tp 11,["cells","strength","height","plugs","lash"]⟩
noncomputable def d8:Df:=⟨8,none,"rising_below","rising_below",tp 12,["numbers","end"]⟩
noncomputable def d9:Df:=⟨9,none,"parts_of","parts_of",tp 13,["ship"]⟩
noncomputable def d12:Df:=⟨12,none,"part_at","part_at",tp 14,["ship","part"]⟩
noncomputable def d13:Df:=⟨13,none,"stack_at","stack_at",tp 15,["ship","part"]⟩
noncomputable def d14:Df:=⟨14,none,"has_part","has_part",tp 16,["ship","part"]⟩
noncomputable def d31:Df:=⟨31,none,"has_cell","has_cell",tp 17,["ship","cell"]⟩
noncomputable def d32:Df:=⟨32,none,"cell_order","cell_order",tp 18,["cell"]⟩
noncomputable def d33:Df:=⟨33,some "Load","__init__","Load.__init__",mt 20 0,["self","ship","placed"]⟩
noncomputable def d34:Df:=⟨34,none,"pair_order","pair_order",tp 21,["pair"]⟩
noncomputable def d35:Df:=⟨35,none,"check_load","check_load",tp 22,["load"]⟩
noncomputable def d36:Df:=⟨36,none,"stands_on_something","stands_on_something",tp 23,["load","cell"]⟩
noncomputable def d37:Df:=⟨37,none,"box_at","box_at",tp 24,["load","cell"]⟩
noncomputable def d52:Df:=⟨52,some "Rule","word","Rule.word",mt 26 0,["self"]⟩
noncomputable def d53:Df:=⟨53,some "Rule","broken","Rule.broken",mt 26 1,["self","load","cell"]⟩
noncomputable def d54:Df:=⟨54,some "Rule","breaks","Rule.breaks",mt 26 2,["self","load","cell"]⟩
noncomputable def d55:Df:=⟨55,some "Strength","word","Strength.word",mt 27 0,["self"]⟩
noncomputable def d56:Df:=⟨56,some "Strength","breaks","Strength.breaks",mt 27 1,["self","load","cell"]⟩
noncomputable def d57:Df:=⟨57,some "Height","word","Height.word",mt 28 0,["self"]⟩
noncomputable def d58:Df:=⟨58,some "Height","breaks","Height.breaks",mt 28 1,["self","load","cell"]⟩
noncomputable def d59:Df:=⟨59,some "Cold","word","Cold.word",mt 29 0,["self"]⟩
noncomputable def d60:Df:=⟨60,some "Cold","breaks","Cold.breaks",mt 29 1,["self","load","cell"]⟩
noncomputable def d61:Df:=⟨61,some "Apart","word","Apart.word",mt 30 0,["self"]⟩
noncomputable def d62:Df:=⟨62,some "Apart","breaks","Apart.breaks",mt 30 1,["self","load","cell"]⟩
noncomputable def d63:Df:=⟨63,some "Lash","word","Lash.word",mt 31 0,["self"]⟩
noncomputable def d64:Df:=⟨64,some "Lash","breaks","Lash.breaks",mt 31 1,["self","load","cell"]⟩
noncomputable def d73:Df:=⟨73,none,"all_rules","all_rules",tp 32,[]⟩
noncomputable def d65:Df:=⟨65,none,"boxes_up_to","boxes_up_to",tp 33,["load","cell"]⟩
noncomputable def d66:Df:=⟨66,none,"are_foes","are_foes",tp 34,["ship","one_sort","other_sort"]⟩
noncomputable def d67:Df:=⟨67,none,"near","near",tp 35,["one","other"]⟩
noncomputable def d68:Df:=⟨68,none,"cells_near","cells_near",tp 36,["cell"]⟩
noncomputable def d74:Df:=⟨74,none,"faults_of","faults_of",tp 37,["load"]⟩
noncomputable def d75:Df:=⟨75,none,"sound","sound",tp 38,["load"]⟩
noncomputable def d15:Df:=⟨15,none,"_law_next","_law_next",tp 40,["_law_script","_law_at"]⟩
noncomputable def d40:Df:=⟨40,none,"_law_names","_law_names",tp 41,["_law_script","_law_at","_law_many"]⟩
noncomputable def d17:Df:=⟨17,none,"_law_part","_law_part",tp 42,["_law_script","_law_at","_law_most"]⟩
noncomputable def d41:Df:=⟨41,none,"_law_ship","_law_ship",tp 43,["_law_script","_law_at","_law_bays","_law_stacks","_law_cells"]⟩
noncomputable def d42:Df:=⟨42,none,"_law_box","_law_box",tp 44,["_law_script","_law_at","_law_name"]⟩
noncomputable def d43:Df:=⟨43,none,"_law_boxes","_law_boxes",tp 45,["_law_script","_law_at","_law_many"]⟩
noncomputable def d44:Df:=⟨44,none,"_law_placed","_law_placed",tp 46,["_law_script","_law_at","_law_ship_here","_law_boxes_here"]⟩
noncomputable def d79:Df:=⟨79,none,"law","law",tp 47,["_law_script"]⟩
noncomputable def ds:List Df:=[d3,d4,d5,d6,d7,d8,d9,d12,d13,d14,d31,d32,d33,d34,d35,d36,d37,d52,d53,d54,d55,d56,d57,d58,d59,d60,d61,d62,d63,d64,d73,d65,d66,d67,d68,d74,d75,d15,d40,d17,d41,d42,d43,d44,d79]
theorem s3:DS dt d3:=⟨fun _ _ _ _ _ _=>l5 fun _ _ _ _ _=>rfl,by decide+kernel,by decide+kernel⟩
theorem s4:DS dt d4:=⟨fun _ _ _ _ _ _=>l1 fun _=>rfl,by decide+kernel,by decide+kernel⟩
theorem s5:DS dt d5:=⟨fun _ _ _ _ _ _=>l1 fun _=>rfl,by decide+kernel,by decide+kernel⟩
theorem s6:DS dt d6:=⟨fun _ _ _ _ _ _=>l1 fun _=>rfl,by decide+kernel,by decide+kernel⟩
theorem s7:DS dt d7:=⟨fun _ _ _ _ _ _=>l5 fun _ _ _ _ _=>rfl,by decide+kernel,by decide+kernel⟩
theorem s8:DS dt d8:=⟨fun _ _ _ _ _ _=>l2 fun _ _=>rfl,by decide+kernel,by decide+kernel⟩
theorem s9:DS dt d9:=⟨fun _ _ _ _ _ _=>l1 fun _=>rfl,by decide+kernel,by decide+kernel⟩
theorem s12:DS dt d12:=⟨fun _ _ _ _ _ _=>l2 fun _ _=>rfl,by decide+kernel,by decide+kernel⟩
theorem s13:DS dt d13:=⟨fun _ _ _ _ _ _=>l2 fun _ _=>rfl,by decide+kernel,by decide+kernel⟩
theorem s14:DS dt d14:=⟨fun _ _ _ _ _ _=>l2 fun _ _=>rfl,by decide+kernel,by decide+kernel⟩
theorem s31:DS dt d31:=⟨fun _ _ _ _ _ _=>l2 fun _ _=>rfl,by decide+kernel,by decide+kernel⟩
theorem s32:DS dt d32:=⟨fun _ _ _ _ _ _=>l1 fun _=>rfl,by decide+kernel,by decide+kernel⟩
theorem s33:DS dt d33:=⟨fun _ _ _ _ _ _=>l3 fun _ _ _=>rfl,by decide+kernel,by decide+kernel⟩
theorem s34:DS dt d34:=⟨fun _ _ _ _ _ _=>l1 fun _=>rfl,by decide+kernel,by decide+kernel⟩
theorem s35:DS dt d35:=⟨fun _ _ _ _ _ _=>l1 fun _=>rfl,by decide+kernel,by decide+kernel⟩
theorem s36:DS dt d36:=⟨fun _ _ _ _ _ _=>l2 fun _ _=>rfl,by decide+kernel,by decide+kernel⟩
theorem s37:DS dt d37:=⟨fun _ _ _ _ _ _=>l2 fun _ _=>rfl,by decide+kernel,by decide+kernel⟩
theorem s52:DS dt d52:=⟨fun _ _ _ _ _ _=>l1 fun _=>rfl,by decide+kernel,by decide+kernel⟩
theorem s53:DS dt d53:=⟨fun _ _ _ _ _ _=>l3 fun _ _ _=>rfl,by decide+kernel,by decide+kernel⟩
theorem s54:DS dt d54:=⟨fun _ _ _ _ _ _=>l3 fun _ _ _=>rfl,by decide+kernel,by decide+kernel⟩
theorem s55:DS dt d55:=⟨fun _ _ _ _ _ _=>l1 fun _=>rfl,by decide+kernel,by decide+kernel⟩
theorem s56:DS dt d56:=⟨fun _ _ _ _ _ _=>l3 fun _ _ _=>rfl,by decide+kernel,by decide+kernel⟩
theorem s57:DS dt d57:=⟨fun _ _ _ _ _ _=>l1 fun _=>rfl,by decide+kernel,by decide+kernel⟩
theorem s58:DS dt d58:=⟨fun _ _ _ _ _ _=>l3 fun _ _ _=>rfl,by decide+kernel,by decide+kernel⟩
theorem s59:DS dt d59:=⟨fun _ _ _ _ _ _=>l1 fun _=>rfl,by decide+kernel,by decide+kernel⟩
theorem s60:DS dt d60:=⟨fun _ _ _ _ _ _=>l3 fun _ _ _=>rfl,by decide+kernel,by decide+kernel⟩
theorem s61:DS dt d61:=⟨fun _ _ _ _ _ _=>l1 fun _=>rfl,by decide+kernel,by decide+kernel⟩
theorem s62:DS dt d62:=⟨fun _ _ _ _ _ _=>l3 fun _ _ _=>rfl,by decide+kernel,by decide+kernel⟩
theorem s63:DS dt d63:=⟨fun _ _ _ _ _ _=>l1 fun _=>rfl,by decide+kernel,by decide+kernel⟩
theorem s64:DS dt d64:=⟨fun _ _ _ _ _ _=>l3 fun _ _ _=>rfl,by decide+kernel,by decide+kernel⟩
theorem s73:DS dt d73:=⟨fun _ _ _ _ _ _=>l0 rfl,by decide+kernel,by decide+kernel⟩
theorem s65:DS dt d65:=⟨fun _ _ _ _ _ _=>l2 fun _ _=>rfl,by decide+kernel,by decide+kernel⟩
theorem s66:DS dt d66:=⟨fun _ _ _ _ _ _=>l3 fun _ _ _=>rfl,by decide+kernel,by decide+kernel⟩
theorem s67:DS dt d67:=⟨fun _ _ _ _ _ _=>l2 fun _ _=>rfl,by decide+kernel,by decide+kernel⟩
theorem s68:DS dt d68:=⟨fun _ _ _ _ _ _=>l1 fun _=>rfl,by decide+kernel,by decide+kernel⟩
theorem s74:DS dt d74:=⟨fun _ _ _ _ _ _=>l1 fun _=>rfl,by decide+kernel,by decide+kernel⟩
theorem s75:DS dt d75:=⟨fun _ _ _ _ _ _=>l1 fun _=>rfl,by decide+kernel,by decide+kernel⟩
theorem s15:DS dt d15:=⟨fun _ _ _ _ _ _=>l2 fun _ _=>rfl,by decide+kernel,by decide+kernel⟩
theorem s40:DS dt d40:=⟨fun _ _ _ _ _ _=>l3 fun _ _ _=>rfl,by decide+kernel,by decide+kernel⟩
theorem s17:DS dt d17:=⟨fun _ _ _ _ _ _=>l3 fun _ _ _=>rfl,by decide+kernel,by decide+kernel⟩
theorem s41:DS dt d41:=⟨fun _ _ _ _ _ _=>l5 fun _ _ _ _ _=>rfl,by decide+kernel,by decide+kernel⟩
theorem s42:DS dt d42:=⟨fun _ _ _ _ _ _=>l3 fun _ _ _=>rfl,by decide+kernel,by decide+kernel⟩
theorem s43:DS dt d43:=⟨fun _ _ _ _ _ _=>l3 fun _ _ _=>rfl,by decide+kernel,by decide+kernel⟩
theorem s44:DS dt d44:=⟨fun _ _ _ _ _ _=>l4 fun _ _ _ _=>rfl,by decide+kernel,by decide+kernel⟩
theorem s79:DS dt d79:=⟨fun _ _ _ _ _ _=>l1 fun _=>rfl,by decide+kernel,by decide+kernel⟩
theorem Je:∀d∈ds,DS dt d:=ab s3 (ab s4 (ab s5 (ab s6 (ab s7 (ab s8 (ab s9 (ab s12 (ab s13 (ab s14 (ab s31 (ab s32 (ab s33 (ab s34 (ab s35 (ab s36 (ab s37 (ab s52 (ab s53 (ab s54 (ab s55 (ab s56 (ab s57 (ab s58 (ab s59 (ab s60 (ab s61 (ab s62 (ab s63 (ab s64 (ab s73 (ab s65 (ab s66 (ab s67 (ab s68 (ab s74 (ab s75 (ab s15 (ab s40 (ab s17 (ab s41 (ab s42 (ab s43 (ab s44 (ab s79 (aI)))))))))))))))))))))))))))))))))))))))))))))
noncomputable def cls:List (Nat×Cl):=[(0,⟨[],none,[],[0,1000],true,false⟩),(1,⟨[],none,[],[1,0,1000],true,false⟩),(2,⟨[],none,[],[2,0,1000],true,false⟩),(3,⟨[],none,[],[3,0,1000],true,false⟩),(9,⟨["bays","foes","trim","heel"],some 3,[],[9],false,false⟩),(10,⟨["ship","placed","box_by_cell","cell_by_name"],some 33,[],[10],false,false⟩),(11,⟨[],none,[("word",52),("broken",53),("breaks",54)],[11],false,false⟩),(12,⟨[],none,[("word",55),("breaks",56),("broken",53)],[12,11],false,false⟩),(13,⟨[],none,[("word",57),("breaks",58),("broken",53)],[13,11],false,false⟩),(14,⟨[],none,[("word",59),("breaks",60),("broken",53)],[14,11],false,false⟩),(15,⟨[],none,[("word",61),("breaks",62),("broken",53)],[15,11],false,false⟩),(16,⟨[],none,[("word",63),("breaks",64),("broken",53)],[16,11],false,false⟩)]
noncomputable def cn:List (Nat×Str):=[(0,"StowError"),(1,"NoShip"),(2,"OutOfShip"),(3,"NoLoad"),(9,"Ship"),(10,"Load"),(11,"Rule"),(12,"Strength"),(13,"Height"),(14,"Cold"),(15,"Apart"),(16,"Lash")]
noncomputable def xc (c:Nat):Bool:=((cls.lookup c).map (·.exc)).getD false
noncomputable abbrev pg:Pg:=dU dt ds cls 0
theorem fn3:pg.fn 3=some Ci:=by with_unfolding_all rfl
theorem fn4:pg.fn 4=some zZ:=by with_unfolding_all rfl
theorem fn5:pg.fn 5=some wj:=by with_unfolding_all rfl
theorem fn6:pg.fn 6=some su:=by with_unfolding_all rfl
theorem fn7:pg.fn 7=some pI:=by with_unfolding_all rfl
theorem fn8:pg.fn 8=some mV:=by with_unfolding_all rfl
theorem fn9:pg.fn 9=some Dc:=by with_unfolding_all rfl
theorem EC:pg.fn 12=some xX:=by with_unfolding_all rfl
theorem C3:pg.fn 13=some xr:=by with_unfolding_all rfl
theorem D3:pg.fn 14=some yR:=by with_unfolding_all rfl
theorem ED:pg.fn 31=some xy:=by with_unfolding_all rfl
theorem C6:pg.fn 32=some yD:=by with_unfolding_all rfl
theorem CW:pg.fn 33=some yE:=by with_unfolding_all rfl
theorem DK:pg.fn 34=some yd:=by with_unfolding_all rfl
theorem D9:pg.fn 35=some yi:=by with_unfolding_all rfl
theorem EI:pg.fn 36=some yz:=by with_unfolding_all rfl
theorem C7:pg.fn 37=some xD:=by with_unfolding_all rfl
theorem Jz:pg.fn 52=some Eu:=by with_unfolding_all rfl
theorem JC:pg.fn 53=some xU:=by with_unfolding_all rfl
theorem JO:pg.fn 54=some Cd:=by with_unfolding_all rfl
theorem IH:pg.fn 55=some zG:=by with_unfolding_all rfl
theorem Hq:pg.fn 56=some zr:=by with_unfolding_all rfl
theorem IM:pg.fn 57=some xW:=by with_unfolding_all rfl
theorem Jn:pg.fn 58=some yf:=by with_unfolding_all rfl
theorem Hi:pg.fn 59=some wV:=by with_unfolding_all rfl
theorem IQ:pg.fn 60=some yI:=by with_unfolding_all rfl
theorem Jc:pg.fn 61=some w4:=by with_unfolding_all rfl
theorem Ji:pg.fn 62=some xN:=by with_unfolding_all rfl
theorem IU:pg.fn 63=some yP:=by with_unfolding_all rfl
theorem JF:pg.fn 64=some wR:=by with_unfolding_all rfl
theorem HP:pg.fn 73=some zo:=by with_unfolding_all rfl
theorem Ia:pg.fn 65=some xB:=by with_unfolding_all rfl
theorem JD:pg.fn 66=some yW:=by with_unfolding_all rfl
theorem Jd:pg.fn 67=some zv:=by with_unfolding_all rfl
theorem HA:pg.fn 68=some xC:=by with_unfolding_all rfl
theorem Jf:pg.fn 74=some xf:=by with_unfolding_all rfl
theorem JX:pg.fn 75=some xO:=by with_unfolding_all rfl
theorem IE:pg.fn 15=some yJ:=by with_unfolding_all rfl
theorem Jp:pg.fn 40=some xm:=by with_unfolding_all rfl
theorem Iw:pg.fn 17=some zm:=by with_unfolding_all rfl
theorem J9:pg.fn 41=some zJ:=by with_unfolding_all rfl
theorem HS:pg.fn 42=some xS:=by with_unfolding_all rfl
theorem Ke:pg.fn 43=some yr:=by with_unfolding_all rfl
theorem Ii:pg.fn 44=some zj:=by with_unfolding_all rfl
theorem Ij:pg.fn 79=some wZ:=by with_unfolding_all rfl
end K09
namespace K09
open PySem PI
theorem g:PI.RB.FG pg:={f3:=fn3,f4:=fn4,f5:=fn5,f6:=fn6,f7:=fn7,f8:=fn8,f9:=fn9,f12:=EC,f13:=C3,f14:=D3,f31:=ED,f32:=C6,f33:=CW,f34:=DK,f35:=D9,f36:=EI,f37:=C7,f15:=IE,f17:=Iw,f40:=Jp,f41:=J9,f42:=HS,f43:=Ke,f44:=Ii,c9:=⟨rfl,rfl,by decide+kernel,by decide+kernel,by decide+kernel,by decide+kernel⟩,i10:=rfl,g10:=rfl,hs:=by decide+kernel,hp:=by decide+kernel,hc:=by decide+kernel,hn:=by decide+kernel}
theorem f:PI.FFault pg:={f3:=fn3,f4:=fn4,f5:=fn5,f6:=fn6,f7:=fn7,f8:=fn8,f9:=fn9,f12:=EC,f13:=C3,f14:=D3,f31:=ED,f32:=C6,f33:=CW,f34:=DK,f35:=D9,f36:=EI,f37:=C7,f52:=Jz,f53:=JC,f54:=JO,f55:=IH,f56:=Hq,f57:=IM,f58:=Jn,f59:=Hi,f60:=IQ,f61:=Jc,f62:=Ji,f63:=IU,f64:=JF,f65:=Ia,f66:=JD,f67:=Jd,f68:=HA,f73:=HP,f74:=Jf,f75:=JX,c9:=⟨rfl,rfl,by decide+kernel,by decide+kernel,by decide+kernel,by decide+kernel⟩,i10:=rfl,g10:=rfl,hs:=by decide+kernel,hp:=by decide+kernel,hc:=by decide+kernel,hn:=by decide+kernel,i11:=⟨rfl,rfl⟩,i12:=⟨rfl,rfl⟩,i13:=⟨rfl,rfl⟩,i14:=⟨rfl,rfl⟩,i15:=⟨rfl,rfl⟩,i16:=⟨rfl,rfl⟩,m11:=rfl,m12:=rfl,m13:=rfl,m14:=rfl,m15:=rfl,m16:=rfl}
end K09
section
set_option maxHeartbeats 0
namespace Hd
open PySem PySem.W PySem.Calls PyProof.Rows
noncomputable def fN {α:Type} (n:Nat) (k:Nat->α):α:= @Nat.rec (fun _=>α) (k 0) (fun m _=>k (Nat.succ m)) n
theorem zO {α:Type} (n:Nat) (k:Nat->α):fN n k=k n:=by cases n<;>rfl
noncomputable def ev:List Obj->List Obj
 |a::_::r=>a::ev r
 |l=>l
noncomputable def od:List Obj->List Obj
 |_::b::r=>b::od r
 |_=>[]
noncomputable def CH:Nat->List Obj->BT
 |0,_=> .nil
 |_+1,[]=> .nil
 |n+1,x::r=> .node x (CH n (ev r)) (CH n (od r))
noncomputable def ug (tb:String->Option Builtin) (p:Program) (w:World) (n₀:Nat) (ann:Option Value) (os:OsState):Nat->SharedT->Thread->Option SharedT:=
 fun N=> @Nat.rec (fun _=>SharedT->Thread->Option SharedT) (fun _ _=>none) (fun _ ih s t=>match through t with
  |true=>some s
  |false=>match stepOk n₀ ann t with
   |false=>none
   |true=>match stepT (denote tb) p w s t with
    |none=>none
    |some (⟨T,n,life,gens,drawn,toks,_⟩,t')=>fN n fun n=>fN toks fun toks=>match gens,drawn with
     |⟨l⟩,⟨a,b,c,d⟩=>ih ⟨T,n,life,⟨l⟩,⟨a,b,c,d⟩,toks,os⟩ t') N
theorem r9 {tb:String->Option Builtin} {p:Program} {w:World} {n₀:Nat} {ann:Option Value} {os:OsState}:∀{N:Nat} {s r:SharedT} {t:Thread},s.os=os->ug tb p w n₀ ann os N s t=some r->topRun tb p w n₀ ann N s.abs t=some r.abs/\r.os=os
 |0,s,r,t,_,h=>by cases h
 |N+1,s,r,t,ho,h=>by
  unfold topRun
  unfold ug at h
  dsimp only at h
  cases ht:through t with
  |true=>
   rw [ht] at h
   cases h
   exact ⟨rfl,ho⟩
  |false=>
   rw [ht] at h
   cases hk:stepOk n₀ ann t with
   |false=>rw [hk] at h;cases h
   |true=>
    rw [hk] at h
    dsimp only at h⊢
    cases hs:stepT (denote tb) p w s t with
    |none=>rw [hs] at h;cases h
    |some x=>
     obtain ⟨⟨T,n,life,gens,drawn,toks,os'⟩,t'⟩:=x
     rw [hs] at h
     have e:=stepT_spec hs
     rw [e]
     dsimp only at h⊢
     have eo:os'=os:=by
      have z:=step_os_same e (by
       unfold stepOk at hk
       revert hk
       cases t.cur<;>simp)
      exact (show os'=s.os from z).trans ho
     subst eo
     rw [zO,zO] at h
     cases gens
     cases drawn
     exact r9 rfl h
theorem Bg {p:Program} {loose:List Str} {Xt:Shared->Bool} {α:Type} {Yf:Shared->α} {Ya:World->α} {N:Nat} {g0:Bool} {H₀:Params->Heap} {T0:Params->BT} {n0:Nat} {life0:Life} {k₀:Nat} {m₀:Nat} {ann:Option Value} {M:Nat}
  (open_:∀w:World,(fencedOpening treeTable p w N).map (fun s=>(s.heap,s.gens,s.drawn,s.toks))=some (H₀ w.params,Array.mk [],d₀,k₀))
  (abs0:∀P,absHeap (T0 P) n0 life0=H₀ P)
  (size:∀w:World,((H₀ w.params).isNs mainGlobals&&(Array.mk []:Array GenState).size==0,(H₀ w.params).objs.size,(H₀ w.params).nsMap mainGlobals "__annotations__")=(true,m₀,ann))
  (le:Nat.ble M N=true)
  (run:∀(w:World) (os:OsState),(ug treeTable p w m₀ ann os M ⟨T0 w.params,n0,life0,Array.mk [],d₀,k₀,os⟩ (topStub p)).map (fun r=>((staticsOk (importedModules p.main.body) (H₀ w.params) r.abs.heap&&namesBound p r.abs.heap&&gensDone r.abs&&laidKept (H₀ w.params) r.abs.heap),
    openSeen q loose (importedModules p.main.body) Xt g0 r.abs,Yf r.abs))=some (true,openGood q loose,Ya w)):LeftO p q loose Xt Yf Ya N g0:=fun w=>by
 obtain ⟨⟨h,gs,d,k,os⟩,e,e'⟩:=Option.map_eq_some_iff.mp (open_ w)
 obtain ⟨rfl,rfl,rfl,rfl⟩:h=H₀ w.params/\gs=Array.mk []/\d=d₀/\k=k₀:=by simpa using e'
 obtain ⟨z1,z2,z3⟩:_/\_/\_:=by simpa only [Prod.mk.injEq] using size w
 obtain ⟨rT,hr,hl⟩:=Option.map_eq_some_iff.mp (run w os)
 obtain ⟨l1,l2,l3⟩:_/\_/\_:=by simpa only [Prod.mk.injEq] using hl
 have hr':=(r9 (os:=os) (s:=⟨T0 w.params,n0,life0,Array.mk [],d,k,os⟩) rfl hr).1
 have ea:SharedT.abs ⟨T0 w.params,n0,life0,Array.mk [],d,k,os⟩=⟨H₀ w.params,Array.mk [],d,k,os⟩:=by
  unfold SharedT.abs
  rw [abs0]
 rw [ea] at hr'
 have r:=topRun_mono (N-M) _ _ _ _ hr'
 rw [show M+(N-M)=N by have:=Nat.le_of_ble_eq_true le;lia] at r
 have t:topFrom treeTable p w N ⟨H₀ w.params,Array.mk [],d,k,os⟩=some rT.abs:=by
  unfold topFrom
  dsimp only
  rw [z1,z2,z3,r]
  show (match staticsOk (importedModules p.main.body) (H₀ w.params) rT.abs.heap&&namesBound p rT.abs.heap&&gensDone rT.abs&&laidKept (H₀ w.params) rT.abs.heap with|true=>_|false=>_)=_
  rw [l1]
 unfold openEnds
 rw [e]
 show (topFrom treeTable p w N _).map _=_
 rw [t]
 exact congrArg some (Prod.ext l2 l3)
theorem HU {α β γ δ:Type} {x:Option α} {f:α->β} {g:α->γ} {k:α->δ} {a:β} {b:γ} {c:δ} (e1:x.map f=some a) (e2:x.map g=some b) (e3:x.map k=some c):x.map (fun r=>(f r,g r,k r))=some (a,b,c):=by
 cases x with
 |none=>cases e1
 |some r=>cases e1;cases e2;cases e3;rfl
end Hd
namespace K09H
open PySem PySem.W PyProof.Rows
noncomputable abbrev pw:Program:=PySem.Challenge.pw_stowhold_k09_fewer_boxes
noncomputable def tp (i:Nat):Stmt:=pw.main.body.getD i (.Pass ⟨0,0,0,0⟩)
noncomputable def vw:Program:={pw with main:={pw.main with body:=[tp 1,tp 2,tp 3,tp 4,tp 6,tp 7,tp 8,tp 9,tp 10,tp 11,tp 12,tp 13,tp 14,tp 15,tp 16,tp 17,tp 18,tp 20,tp 21,tp 22,tp 23,tp 24,tp 26,tp 27,tp 28,tp 29,tp 30,tp 31,tp 32,tp 33,tp 34,tp 35,tp 36,tp 37,tp 38,tp 40,tp 41,tp 42,tp 43,tp 44,tp 45,tp 46,tp 47]}}
local macro_rules
 |`(tactic|o_head $H)=>do
  let hw:=Lean.mkIdent `hw
  let hc:=Lean.mkIdent `hc
  `(tactic|refine holds_open (q:=K09H.vw) (loose:=[]) (Xt:=fun s=>xlAt K09H.vw [] s&&recOk (RowW.records _) s) (XP:=XL K09H.vw []) (Yf:=Hook.obs $H) (Ya:=Hook.val $H) (YP:=Hook.says $H) (N:=7866) (And.left ?$hc) (Hook.of $H) (Hook.keeps $H) (fun s e=>xl_of s (Bool.and_eq_true_iff.mp e).1) XL.keeps (by rfl) (by rfl) (by rfl) (fun s e=>recFacts_of (Bool.and_eq_true_iff.mp e).2) (by rfl) (by first|assumption|decide+kernel) (by decide+kernel) ⟨rfl,rfl,rfl,rfl,rfl,by decide+kernel⟩ ?$hw (And.right ?$hc))
open_top eG for PySem.Challenge.rw_stowhold_k09_fewer_boxes
end K09H
namespace K09H
open PySem PySem.W PyProof.Rows
noncomputable abbrev HL:=List (Addr×Obj)
noncomputable abbrev Pk {T:Type} (y:T):Type:=∀x:T,x=y->T
noncomputable def fq (s:Stmt) (x q:Str) (g:Addr) (c:List (Str×Addr)) (d k dc pm:Value) (an:Option Addr) (cd ct:Value) (b:Addr):Data:= .func ⟨x,q,L2.cY s, .stmts (L2.bg s),L2.ax s,g,c,d,k,dc,pm,an,cd,ct,b⟩
noncomputable def hq (P:Params) (i n:Nat):HL:=((K09H.eG.heap_39 P).drop i).take n
noncomputable def b0 (P:Params):HL:=by refine (?f:Pk (hq P 0 4)) [_,_,_,_] rfl;exact fun x _=>x
noncomputable def b1 (P:Params):HL:=by refine (?f:Pk (hq P 4 4)) [_,_,_,_] rfl;exact fun x _=>x
noncomputable def b2 (P:Params):HL:=by refine (?f:Pk (hq P 8 4)) [_,_,_,_] rfl;exact fun x _=>x
noncomputable def b3 (P:Params):HL:=by refine (?f:Pk (hq P 12 4)) [_,_,_,_] rfl;exact fun x _=>x
noncomputable def b4 (P:Params):HL:=by refine (?f:Pk (hq P 16 4)) [_,_,_,_] rfl;exact fun x _=>x
noncomputable def b5 (P:Params):HL:=by refine (?f:Pk (hq P 20 1)) [_] rfl;exact fun x _=>x
noncomputable def b6 (P:Params):HL:=by refine (?f:Pk (hq P 21 1)) [(_,⟨_,_,fq (L2.inClass (tp 7) 0) _ _ _ _ _ _ _ _ _ _ _ _,_⟩)] rfl;exact fun x _=>x
noncomputable def b7 (P:Params):HL:=by refine (?f:Pk (hq P 22 4)) [_,_,_,_] rfl;exact fun x _=>x
noncomputable def b8 (P:Params):HL:=by refine (?f:Pk (hq P 26 3)) [_,_,_] rfl;exact fun x _=>x
noncomputable def b9 (P:Params):HL:=by refine (?f:Pk (hq P 29 1)) [(_,⟨_,_,fq (tp 8) _ _ _ _ _ _ _ _ _ _ _ _,_⟩)] rfl;exact fun x _=>x
noncomputable def b10 (P:Params):HL:=by refine (?f:Pk (hq P 30 4)) [_,_,_,_] rfl;exact fun x _=>x
noncomputable def b11 (P:Params):HL:=by refine (?f:Pk (hq P 34 1)) [(_,⟨_,_,fq (tp 9) _ _ _ _ _ _ _ _ _ _ _ _,_⟩)] rfl;exact fun x _=>x
noncomputable def b12 (P:Params):HL:=by refine (?f:Pk (hq P 35 4)) [_,_,_,_] rfl;exact fun x _=>x
noncomputable def b13 (P:Params):HL:=by refine (?f:Pk (hq P 39 1)) [(_,⟨_,_,fq (tp 10) _ _ _ _ _ _ _ _ _ _ _ _,_⟩)] rfl;exact fun x _=>x
noncomputable def b14 (P:Params):HL:=by refine (?f:Pk (hq P 40 4)) [_,_,_,_] rfl;exact fun x _=>x
noncomputable def b15 (P:Params):HL:=by refine (?f:Pk (hq P 44 1)) [(_,⟨_,_,fq (tp 11) _ _ _ _ _ _ _ _ _ _ _ _,_⟩)] rfl;exact fun x _=>x
noncomputable def b16 (P:Params):HL:=by refine (?f:Pk (hq P 45 4)) [_,_,_,_] rfl;exact fun x _=>x
noncomputable def b17 (P:Params):HL:=by refine (?f:Pk (hq P 49 1)) [(_,⟨_,_,fq (tp 12) _ _ _ _ _ _ _ _ _ _ _ _,_⟩)] rfl;exact fun x _=>x
noncomputable def b18 (P:Params):HL:=by refine (?f:Pk (hq P 50 2)) [_,_] rfl;exact fun x _=>x
noncomputable def b19 (P:Params):HL:=by refine (?f:Pk (hq P 52 1)) [(_,⟨_,_,fq (tp 13) _ _ _ _ _ _ _ _ _ _ _ _,_⟩)] rfl;exact fun x _=>x
noncomputable def b20 (P:Params):HL:=by refine (?f:Pk (hq P 53 4)) [_,_,_,_] rfl;exact fun x _=>x
noncomputable def b21 (P:Params):HL:=by refine (?f:Pk (hq P 57 1)) [(_,⟨_,_,fq (tp 14) _ _ _ _ _ _ _ _ _ _ _ _,_⟩)] rfl;exact fun x _=>x
noncomputable def b22 (P:Params):HL:=by refine (?f:Pk (hq P 58 4)) [_,_,_,_] rfl;exact fun x _=>x
noncomputable def b23 (P:Params):HL:=by refine (?f:Pk (hq P 62 1)) [(_,⟨_,_,fq (tp 15) _ _ _ _ _ _ _ _ _ _ _ _,_⟩)] rfl;exact fun x _=>x
noncomputable def b24 (P:Params):HL:=by refine (?f:Pk (hq P 63 4)) [_,_,_,_] rfl;exact fun x _=>x
noncomputable def b25 (P:Params):HL:=by refine (?f:Pk (hq P 67 1)) [(_,⟨_,_,fq (tp 16) _ _ _ _ _ _ _ _ _ _ _ _,_⟩)] rfl;exact fun x _=>x
noncomputable def b26 (P:Params):HL:=by refine (?f:Pk (hq P 68 4)) [_,_,_,_] rfl;exact fun x _=>x
noncomputable def b27 (P:Params):HL:=by refine (?f:Pk (hq P 72 1)) [(_,⟨_,_,fq (tp 17) _ _ _ _ _ _ _ _ _ _ _ _,_⟩)] rfl;exact fun x _=>x
noncomputable def b28 (P:Params):HL:=by refine (?f:Pk (hq P 73 4)) [_,_,_,_] rfl;exact fun x _=>x
noncomputable def b29 (P:Params):HL:=by refine (?f:Pk (hq P 77 1)) [(_,⟨_,_,fq (tp 18) _ _ _ _ _ _ _ _ _ _ _ _,_⟩)] rfl;exact fun x _=>x
noncomputable def b30 (P:Params):HL:=by refine (?f:Pk (hq P 78 2)) [_,_] rfl;exact fun x _=>x
noncomputable def b31 (P:Params):HL:=by refine (?f:Pk (hq P 80 1)) [(_,⟨_,_,fq (L2.inClass (tp 20) 0) _ _ _ _ _ _ _ _ _ _ _ _,_⟩)] rfl;exact fun x _=>x
noncomputable def b32 (P:Params):HL:=by refine (?f:Pk (hq P 81 4)) [_,_,_,_] rfl;exact fun x _=>x
noncomputable def b33 (P:Params):HL:=by refine (?f:Pk (hq P 85 4)) [_,_,_,_] rfl;exact fun x _=>x
noncomputable def b34 (P:Params):HL:=by refine (?f:Pk (hq P 89 1)) [_] rfl;exact fun x _=>x
noncomputable def b35 (P:Params):HL:=by refine (?f:Pk (hq P 90 1)) [(_,⟨_,_,fq (tp 21) _ _ _ _ _ _ _ _ _ _ _ _,_⟩)] rfl;exact fun x _=>x
noncomputable def b36 (P:Params):HL:=by refine (?f:Pk (hq P 91 4)) [_,_,_,_] rfl;exact fun x _=>x
noncomputable def b37 (P:Params):HL:=by refine (?f:Pk (hq P 95 1)) [(_,⟨_,_,fq (tp 22) _ _ _ _ _ _ _ _ _ _ _ _,_⟩)] rfl;exact fun x _=>x
noncomputable def b38 (P:Params):HL:=by refine (?f:Pk (hq P 96 4)) [_,_,_,_] rfl;exact fun x _=>x
noncomputable def b39 (P:Params):HL:=by refine (?f:Pk (hq P 100 1)) [(_,⟨_,_,fq (tp 23) _ _ _ _ _ _ _ _ _ _ _ _,_⟩)] rfl;exact fun x _=>x
noncomputable def b40 (P:Params):HL:=by refine (?f:Pk (hq P 101 4)) [_,_,_,_] rfl;exact fun x _=>x
noncomputable def b41 (P:Params):HL:=by refine (?f:Pk (hq P 105 1)) [(_,⟨_,_,fq (tp 24) _ _ _ _ _ _ _ _ _ _ _ _,_⟩)] rfl;exact fun x _=>x
noncomputable def b42 (P:Params):HL:=by refine (?f:Pk (hq P 106 4)) [_,_,_,_] rfl;exact fun x _=>x
noncomputable def b43 (P:Params):HL:=by refine (?f:Pk (hq P 110 1)) [(_,⟨_,_,fq (L2.inClass (tp 26) 0) _ _ _ _ _ _ _ _ _ _ _ _,_⟩)] rfl;exact fun x _=>x
noncomputable def b44 (P:Params):HL:=by refine (?f:Pk (hq P 111 4)) [_,_,_,_] rfl;exact fun x _=>x
noncomputable def b45 (P:Params):HL:=by refine (?f:Pk (hq P 115 1)) [(_,⟨_,_,fq (L2.inClass (tp 26) 1) _ _ _ _ _ _ _ _ _ _ _ _,_⟩)] rfl;exact fun x _=>x
noncomputable def b46 (P:Params):HL:=by refine (?f:Pk (hq P 116 4)) [_,_,_,_] rfl;exact fun x _=>x
noncomputable def b47 (P:Params):HL:=by refine (?f:Pk (hq P 120 1)) [(_,⟨_,_,fq (L2.inClass (tp 26) 2) _ _ _ _ _ _ _ _ _ _ _ _,_⟩)] rfl;exact fun x _=>x
noncomputable def b48 (P:Params):HL:=by refine (?f:Pk (hq P 121 4)) [_,_,_,_] rfl;exact fun x _=>x
noncomputable def b49 (P:Params):HL:=by refine (?f:Pk (hq P 125 4)) [_,_,_,_] rfl;exact fun x _=>x
noncomputable def b50 (P:Params):HL:=by refine (?f:Pk (hq P 129 2)) [_,_] rfl;exact fun x _=>x
noncomputable def b51 (P:Params):HL:=by refine (?f:Pk (hq P 131 1)) [(_,⟨_,_,fq (L2.inClass (tp 27) 0) _ _ _ _ _ _ _ _ _ _ _ _,_⟩)] rfl;exact fun x _=>x
noncomputable def b52 (P:Params):HL:=by refine (?f:Pk (hq P 132 2)) [_,_] rfl;exact fun x _=>x
noncomputable def b53 (P:Params):HL:=by refine (?f:Pk (hq P 134 1)) [(_,⟨_,_,fq (L2.inClass (tp 27) 1) _ _ _ _ _ _ _ _ _ _ _ _,_⟩)] rfl;exact fun x _=>x
noncomputable def b54 (P:Params):HL:=by refine (?f:Pk (hq P 135 4)) [_,_,_,_] rfl;exact fun x _=>x
noncomputable def b55 (P:Params):HL:=by refine (?f:Pk (hq P 139 4)) [_,_,_,_] rfl;exact fun x _=>x
noncomputable def b56 (P:Params):HL:=by refine (?f:Pk (hq P 143 1)) [(_,⟨_,_,fq (L2.inClass (tp 28) 0) _ _ _ _ _ _ _ _ _ _ _ _,_⟩)] rfl;exact fun x _=>x
noncomputable def b57 (P:Params):HL:=by refine (?f:Pk (hq P 144 2)) [_,_] rfl;exact fun x _=>x
noncomputable def b58 (P:Params):HL:=by refine (?f:Pk (hq P 146 1)) [(_,⟨_,_,fq (L2.inClass (tp 28) 1) _ _ _ _ _ _ _ _ _ _ _ _,_⟩)] rfl;exact fun x _=>x
noncomputable def b59 (P:Params):HL:=by refine (?f:Pk (hq P 147 4)) [_,_,_,_] rfl;exact fun x _=>x
noncomputable def b60 (P:Params):HL:=by refine (?f:Pk (hq P 151 4)) [_,_,_,_] rfl;exact fun x _=>x
noncomputable def b61 (P:Params):HL:=by refine (?f:Pk (hq P 155 1)) [(_,⟨_,_,fq (L2.inClass (tp 29) 0) _ _ _ _ _ _ _ _ _ _ _ _,_⟩)] rfl;exact fun x _=>x
noncomputable def b62 (P:Params):HL:=by refine (?f:Pk (hq P 156 4)) [_,_,_,_] rfl;exact fun x _=>x
noncomputable def b63 (P:Params):HL:=by refine (?f:Pk (hq P 160 1)) [(_,⟨_,_,fq (L2.inClass (tp 29) 1) _ _ _ _ _ _ _ _ _ _ _ _,_⟩)] rfl;exact fun x _=>x
noncomputable def b64 (P:Params):HL:=by refine (?f:Pk (hq P 161 4)) [_,_,_,_] rfl;exact fun x _=>x
noncomputable def b65 (P:Params):HL:=by refine (?f:Pk (hq P 165 4)) [_,_,_,_] rfl;exact fun x _=>x
noncomputable def b66 (P:Params):HL:=by refine (?f:Pk (hq P 169 1)) [(_,⟨_,_,fq (L2.inClass (tp 30) 0) _ _ _ _ _ _ _ _ _ _ _ _,_⟩)] rfl;exact fun x _=>x
noncomputable def b67 (P:Params):HL:=by refine (?f:Pk (hq P 170 2)) [_,_] rfl;exact fun x _=>x
noncomputable def b68 (P:Params):HL:=by refine (?f:Pk (hq P 172 1)) [(_,⟨_,_,fq (L2.inClass (tp 30) 1) _ _ _ _ _ _ _ _ _ _ _ _,_⟩)] rfl;exact fun x _=>x
noncomputable def b69 (P:Params):HL:=by refine (?f:Pk (hq P 173 4)) [_,_,_,_] rfl;exact fun x _=>x
noncomputable def b70 (P:Params):HL:=by refine (?f:Pk (hq P 177 4)) [_,_,_,_] rfl;exact fun x _=>x
noncomputable def b71 (P:Params):HL:=by refine (?f:Pk (hq P 181 1)) [(_,⟨_,_,fq (L2.inClass (tp 31) 0) _ _ _ _ _ _ _ _ _ _ _ _,_⟩)] rfl;exact fun x _=>x
noncomputable def b72 (P:Params):HL:=by refine (?f:Pk (hq P 182 2)) [_,_] rfl;exact fun x _=>x
noncomputable def b73 (P:Params):HL:=by refine (?f:Pk (hq P 184 1)) [(_,⟨_,_,fq (L2.inClass (tp 31) 1) _ _ _ _ _ _ _ _ _ _ _ _,_⟩)] rfl;exact fun x _=>x
noncomputable def b74 (P:Params):HL:=by refine (?f:Pk (hq P 185 4)) [_,_,_,_] rfl;exact fun x _=>x
noncomputable def b75 (P:Params):HL:=by refine (?f:Pk (hq P 189 3)) [_,_,_] rfl;exact fun x _=>x
noncomputable def b76 (P:Params):HL:=by refine (?f:Pk (hq P 192 1)) [(_,⟨_,_,fq (tp 32) _ _ _ _ _ _ _ _ _ _ _ _,_⟩)] rfl;exact fun x _=>x
noncomputable def b77 (P:Params):HL:=by refine (?f:Pk (hq P 193 2)) [_,_] rfl;exact fun x _=>x
noncomputable def b78 (P:Params):HL:=by refine (?f:Pk (hq P 195 1)) [(_,⟨_,_,fq (tp 33) _ _ _ _ _ _ _ _ _ _ _ _,_⟩)] rfl;exact fun x _=>x
noncomputable def b79 (P:Params):HL:=by refine (?f:Pk (hq P 196 4)) [_,_,_,_] rfl;exact fun x _=>x
noncomputable def b80 (P:Params):HL:=by refine (?f:Pk (hq P 200 1)) [(_,⟨_,_,fq (tp 34) _ _ _ _ _ _ _ _ _ _ _ _,_⟩)] rfl;exact fun x _=>x
noncomputable def b81 (P:Params):HL:=by refine (?f:Pk (hq P 201 4)) [_,_,_,_] rfl;exact fun x _=>x
noncomputable def b82 (P:Params):HL:=by refine (?f:Pk (hq P 205 1)) [(_,⟨_,_,fq (tp 35) _ _ _ _ _ _ _ _ _ _ _ _,_⟩)] rfl;exact fun x _=>x
noncomputable def b83 (P:Params):HL:=by refine (?f:Pk (hq P 206 2)) [_,_] rfl;exact fun x _=>x
noncomputable def b84 (P:Params):HL:=by refine (?f:Pk (hq P 208 1)) [(_,⟨_,_,fq (tp 36) _ _ _ _ _ _ _ _ _ _ _ _,_⟩)] rfl;exact fun x _=>x
noncomputable def b85 (P:Params):HL:=by refine (?f:Pk (hq P 209 2)) [_,_] rfl;exact fun x _=>x
noncomputable def b86 (P:Params):HL:=by refine (?f:Pk (hq P 211 1)) [(_,⟨_,_,fq (tp 37) _ _ _ _ _ _ _ _ _ _ _ _,_⟩)] rfl;exact fun x _=>x
noncomputable def b87 (P:Params):HL:=by refine (?f:Pk (hq P 212 4)) [_,_,_,_] rfl;exact fun x _=>x
noncomputable def b88 (P:Params):HL:=by refine (?f:Pk (hq P 216 1)) [(_,⟨_,_,fq (tp 38) _ _ _ _ _ _ _ _ _ _ _ _,_⟩)] rfl;exact fun x _=>x
noncomputable def b89 (P:Params):HL:=by refine (?f:Pk (hq P 217 4)) [_,_,_,_] rfl;exact fun x _=>x
noncomputable def b90 (P:Params):HL:=by refine (?f:Pk (hq P 221 1)) [(_,⟨_,_,fq (tp 40) _ _ _ _ _ _ _ _ _ _ _ _,_⟩)] rfl;exact fun x _=>x
noncomputable def b91 (P:Params):HL:=by refine (?f:Pk (hq P 222 4)) [_,_,_,_] rfl;exact fun x _=>x
noncomputable def b92 (P:Params):HL:=by refine (?f:Pk (hq P 226 1)) [(_,⟨_,_,fq (tp 41) _ _ _ _ _ _ _ _ _ _ _ _,_⟩)] rfl;exact fun x _=>x
noncomputable def b93 (P:Params):HL:=by refine (?f:Pk (hq P 227 2)) [_,_] rfl;exact fun x _=>x
noncomputable def b94 (P:Params):HL:=by refine (?f:Pk (hq P 229 1)) [(_,⟨_,_,fq (tp 42) _ _ _ _ _ _ _ _ _ _ _ _,_⟩)] rfl;exact fun x _=>x
noncomputable def b95 (P:Params):HL:=by refine (?f:Pk (hq P 230 4)) [_,_,_,_] rfl;exact fun x _=>x
noncomputable def b96 (P:Params):HL:=by refine (?f:Pk (hq P 234 1)) [(_,⟨_,_,fq (tp 43) _ _ _ _ _ _ _ _ _ _ _ _,_⟩)] rfl;exact fun x _=>x
noncomputable def b97 (P:Params):HL:=by refine (?f:Pk (hq P 235 4)) [_,_,_,_] rfl;exact fun x _=>x
noncomputable def b98 (P:Params):HL:=by refine (?f:Pk (hq P 239 1)) [(_,⟨_,_,fq (tp 44) _ _ _ _ _ _ _ _ _ _ _ _,_⟩)] rfl;exact fun x _=>x
noncomputable def b99 (P:Params):HL:=by refine (?f:Pk (hq P 240 2)) [_,_] rfl;exact fun x _=>x
noncomputable def Hg (P:Params):HL:=by refine (?f:Pk (hq P 242 1)) [(_,⟨_,_,fq (tp 45) _ _ _ _ _ _ _ _ _ _ _ _,_⟩)] rfl;exact fun x _=>x
noncomputable def Jk (P:Params):HL:=by refine (?f:Pk (hq P 243 4)) [_,_,_,_] rfl;exact fun x _=>x
noncomputable def Jj (P:Params):HL:=by refine (?f:Pk (hq P 247 1)) [(_,⟨_,_,fq (tp 46) _ _ _ _ _ _ _ _ _ _ _ _,_⟩)] rfl;exact fun x _=>x
noncomputable def Hh (P:Params):HL:=by refine (?f:Pk (hq P 248 2)) [_,_] rfl;exact fun x _=>x
noncomputable def HZ (P:Params):HL:=by refine (?f:Pk (hq P 250 1)) [(_,⟨_,_,fq (tp 47) _ _ _ _ _ _ _ _ _ _ _ _,_⟩)] rfl;exact fun x _=>x
noncomputable def e0 (P:Params):HL:=(b0 P++(b1 P++(b2 P++(b3 P++(b4 P++(b5 P++(b6 P++(b7 P++(b8 P++(b9 P))))))))))
noncomputable def e1 (P:Params):HL:=(b10 P++(b11 P++(b12 P++(b13 P++(b14 P++(b15 P++(b16 P++(b17 P++(b18 P++(b19 P))))))))))
noncomputable def e2 (P:Params):HL:=(b20 P++(b21 P++(b22 P++(b23 P++(b24 P++(b25 P++(b26 P++(b27 P++(b28 P++(b29 P))))))))))
noncomputable def e3 (P:Params):HL:=(b30 P++(b31 P++(b32 P++(b33 P++(b34 P++(b35 P++(b36 P++(b37 P++(b38 P++(b39 P))))))))))
noncomputable def e4 (P:Params):HL:=(b40 P++(b41 P++(b42 P++(b43 P++(b44 P++(b45 P++(b46 P++(b47 P++(b48 P++(b49 P))))))))))
noncomputable def e5 (P:Params):HL:=(b50 P++(b51 P++(b52 P++(b53 P++(b54 P++(b55 P++(b56 P++(b57 P++(b58 P++(b59 P))))))))))
noncomputable def e6 (P:Params):HL:=(b60 P++(b61 P++(b62 P++(b63 P++(b64 P++(b65 P++(b66 P++(b67 P++(b68 P++(b69 P))))))))))
noncomputable def e7 (P:Params):HL:=(b70 P++(b71 P++(b72 P++(b73 P++(b74 P++(b75 P++(b76 P++(b77 P++(b78 P++(b79 P))))))))))
noncomputable def e8 (P:Params):HL:=(b80 P++(b81 P++(b82 P++(b83 P++(b84 P++(b85 P++(b86 P++(b87 P++(b88 P++(b89 P))))))))))
noncomputable def e9 (P:Params):HL:=(b90 P++(b91 P++(b92 P++(b93 P++(b94 P++(b95 P++(b96 P++(b97 P++(b98 P++(b99 P))))))))))
noncomputable def wJ (P:Params):HL:=(Hg P++(Jk P++(Jj P++(Hh P++(HZ P)))))
noncomputable def eq (P:Params):HL:=(e0 P++(e1 P++(e2 P++(e3 P++(e4 P++(e5 P++(e6 P++(e7 P++(e8 P++(e9 P++(wJ P)))))))))))
theorem eq_eq (P:Params):eq P=K09H.eG.heap_39 P:=by kernel_rfl
noncomputable def asK:List Nat:=[2,3,15,22,23,24,25,28,35,36,37,40,47,48,49,52,59,60,61,71,74,75,76,77,78,79,80,83,86,87,88,90,91,93,94,95,97,98,100,101,102,104,105,107,108,109,111,112,114,115,116,119,120,121,123,124,126,127,128,130,131,133,134,135,137,138,140,141,142,144,145,147,148,149,151,152,154,155,163,166,167,168,169,170,171,172,175,177,178,180,181,182,184,185,187,188,189,191,192,194,195,196,198,199,201,202,210,212,213,215,216,217,219,220,222,223,224,226,227,229,230,231,232,233,234,235,238,245,247,248,250,251,252,255,256,257,258,259,262,269,271,272,274,275,276,279,280,281,282,283,286,293,295,296,298,299,300,302,303,305,306,307,308,309,312,319,321,322,324,325,326,329,330,331,332,333,336,343,345,346,348,349,350,353,354,355,356,357,360,362,363,365,366,367,370,371,372,374,375,377,378,379,381,382,384,385,386,389,390,391,394,395,396,398,399,401,402,403,405,406,408,409,410,412,413,415,416,417,420,421,422,424,425,427,428,429,431,432,434,435,436,439,440,441,443,444,446,447,448,451,452]
noncomputable def T0 (P:Params):BT:=Hd.CH 6 (boot_heap P).objs.toList
noncomputable def rn (w:World) (os:OsState):=Hd.ug treeTable pw w 11 (some (.ref 6)) os 4083 ⟨T0 w.params,11,{},Array.mk [],boot_drawn,boot_toks,os⟩ (topStub pw)
noncomputable def r1 (w:World) (os:OsState):=(rn w os).map fun r=>(staticsOk (importedModules pw.main.body) (boot_heap w.params) r.abs.heap&&namesBound pw r.abs.heap&&gensDone r.abs&&laidKept (boot_heap w.params) r.abs.heap)
theorem J6:r1=r1:=rfl
name_quick K09Hr1 for K09H.r1 by K09H.J6
theorem o1 (w:World) (os:OsState):r1 w os=some true:=(congrFun (congrFun PySem.W.Fast.K09Hr1_eq w) os).trans (by kernel_rfl:PySem.W.Fast.K09Hr1 w os=some true)
noncomputable def r2 (w:World) (os:OsState):=(rn w os).map fun r=>openSeen vw [] (importedModules pw.main.body) (fun s=>xlAt vw [] s&&recOk PySem.Challenge.rw_stowhold_k09_fewer_boxes.row.records s) true r.abs
theorem J5:r2=r2:=rfl
name_quick K09Hr2 for K09H.r2 by K09H.J5
noncomputable def g2 (w:World):=some (openGood vw [])
theorem Jt:g2=g2:=rfl
name_quick K09Hg2 for K09H.g2 by K09H.Jt
theorem o2 (w:World) (os:OsState):r2 w os=g2 w:=((congrFun (congrFun PySem.W.Fast.K09Hr2_eq w) os).trans (by kernel_rfl:PySem.W.Fast.K09Hr2 w os=PySem.W.Fast.K09Hg2 w)).trans (congrFun PySem.W.Fast.K09Hg2_eq w).symm
noncomputable def r3 (w:World) (os:OsState):=(rn w os).map fun r=>asK.map r.abs.heap.get?
theorem J4:r3=r3:=rfl
name_quick K09Hr3 for K09H.r3 by K09H.J4
noncomputable def g3 (w:World):=some ((eq w.params).map fun p=>some p.2)
theorem II:g3=g3:=rfl
name_quick K09Hg3 for K09H.g3 by K09H.II
theorem o3 (w:World) (os:OsState):r3 w os=g3 w:=((congrFun (congrFun PySem.W.Fast.K09Hr3_eq w) os).trans (by kernel_rfl:PySem.W.Fast.K09Hr3 w os=PySem.W.Fast.K09Hg3 w)).trans (congrFun PySem.W.Fast.K09Hg3_eq w).symm
theorem left:LeftO PySem.Challenge.rw_stowhold_k09_fewer_boxes.row.prog vw [] (fun s=>xlAt vw [] s&&recOk PySem.Challenge.rw_stowhold_k09_fewer_boxes.row.records s) (fun s=>asK.map s.heap.get?) (fun w=>(K09H.eG.heap_39 w.params).map fun p=>some p.2) 7866:=
 Hd.Bg (p:=pw) (H₀:=boot_heap) (T0:=T0) (n0:=11) (life0:={}) (d₀:=boot_drawn) (k₀:=boot_toks) (m₀:=11) (ann:=some (.ref 6)) (M:=4083)
  (boot_open (by kernel_rfl) (by decide) (fun s=>by kernel_rfl)) (fun P=>by kernel_rfl) (fun w=>by kernel_rfl) (by decide) (fun w os=>by
   have h:=o3 w os
   unfold g3 at h
   rw [eq_eq] at h
   exact Hd.HU (o1 w os) (o2 w os) h)
end K09H
end
open PySem PySem.W PyProof.Rows
open PI (ab aI aE bx aR jo qP eg v8 gF cZ bM) in
set_option maxRecDepth 100000 in
set_option maxHeartbeats 0 in
theorem PySem.Challenge.cw_stowhold_k09_fewer_boxes_holds : PySem.Challenge.rw_stowhold_k09_fewer_boxes.Holds := by
 refine K09H.eG ⟨K09H.left, ?_⟩
 k_fill
 refine PI.Fp (l:=PySem.Challenge.rw_stowhold_k09_fewer_boxes) (D:=K09.dt) (ds:=K09.ds) (cls:=K09.cls) (cn:=K09.cn) (xc:=K09.xc) (wn:=0) (n:=8) (f:=79) (x:="_law_script") rfl rfl ⟨rfl,by decide,by decide⟩ (fun w h Y=>PySem.W.kIn_of Y) K09.Je rfl rfl rfl rfl (PI.FU (by decide)) ?F (fun ns hn=>PI.BM K09.g K09.f K09.Ij 0 ns hn)
 case F=>
  intro w
  refine' ⟨ab (bx ?_ ?_ ?_ ?_ ?_) (ab (aE ?_ ?_ ?_ ?_) (ab (aE ?_ ?_ ?_ ?_) (ab (aE ?_ ?_ ?_ ?_) (ab (aE ?_ ?_ ?_ ?_) (ab (aE ?_ ?_ ?_ ?_) (ab (aE ?_ ?_ ?_ ?_) (ab (aE ?_ ?_ ?_ ?_) (ab (aE ?_ ?_ ?_ ?_) (ab (aE ?_ ?_ ?_ ?_) (ab (aE ?_ ?_ ?_ ?_) (ab (aE ?_ ?_ ?_ ?_) (ab (bx ?_ ?_ ?_ ?_ ?_) (ab (aE ?_ ?_ ?_ ?_) (ab (aE ?_ ?_ ?_ ?_) (ab (aE ?_ ?_ ?_ ?_) (ab (aE ?_ ?_ ?_ ?_) (ab (bx ?_ ?_ ?_ ?_ ?_) (ab (bx ?_ ?_ ?_ ?_ ?_) (ab (bx ?_ ?_ ?_ ?_ ?_) (ab (bx ?_ ?_ ?_ ?_ ?_) (ab (bx ?_ ?_ ?_ ?_ ?_) (ab (bx ?_ ?_ ?_ ?_ ?_) (ab (bx ?_ ?_ ?_ ?_ ?_) (ab (bx ?_ ?_ ?_ ?_ ?_) (ab (bx ?_ ?_ ?_ ?_ ?_) (ab (bx ?_ ?_ ?_ ?_ ?_) (ab (bx ?_ ?_ ?_ ?_ ?_) (ab (bx ?_ ?_ ?_ ?_ ?_) (ab (bx ?_ ?_ ?_ ?_ ?_) (ab (aE ?_ ?_ ?_ ?_) (ab (aE ?_ ?_ ?_ ?_) (ab (aE ?_ ?_ ?_ ?_) (ab (aE ?_ ?_ ?_ ?_) (ab (aE ?_ ?_ ?_ ?_) (ab (aE ?_ ?_ ?_ ?_) (ab (aE ?_ ?_ ?_ ?_) (ab (aE ?_ ?_ ?_ ?_) (ab (aE ?_ ?_ ?_ ?_) (ab (aE ?_ ?_ ?_ ?_) (ab (aE ?_ ?_ ?_ ?_) (ab (aE ?_ ?_ ?_ ?_) (ab (aE ?_ ?_ ?_ ?_) (ab (aE ?_ ?_ ?_ ?_) (ab (aE ?_ ?_ ?_ ?_) (aI))))))))))))))))))))))))))))))))))))))))))))),ab (jo ?_ rfl rfl rfl rfl ?_) (ab (jo ?_ rfl rfl rfl rfl ?_) (ab (jo ?_ rfl rfl rfl rfl ?_) (ab (jo ?_ rfl rfl rfl rfl ?_) (ab (v8 ?_) (ab (qP ?_ rfl rfl rfl ?_ ?_ rfl rfl rfl rfl ?_ ?_) (ab (aR rfl rfl rfl) (ab (aR rfl rfl rfl) (ab (aR rfl rfl rfl) (ab (aR rfl rfl rfl) (ab (aR rfl rfl rfl) (ab (aR rfl rfl rfl) (ab (aR rfl rfl rfl) (ab (aR rfl rfl rfl) (ab (aR rfl rfl rfl) (ab (aR rfl rfl rfl) (ab (aR rfl rfl rfl) (ab (qP ?_ rfl rfl rfl ?_ ?_ rfl rfl rfl rfl ?_ ?_) (ab (aR rfl rfl rfl) (ab (aR rfl rfl rfl) (ab (aR rfl rfl rfl) (ab (aR rfl rfl rfl) (ab (eg ?_ rfl rfl rfl ?_ ?_ rfl ?_) (ab (eg ?_ rfl rfl rfl ?_ ?_ rfl ?_) (ab (eg ?_ rfl rfl rfl ?_ ?_ rfl ?_) (ab (eg ?_ rfl rfl rfl ?_ ?_ rfl ?_) (ab (eg ?_ rfl rfl rfl ?_ ?_ rfl ?_) (ab (eg ?_ rfl rfl rfl ?_ ?_ rfl ?_) (ab (aR rfl rfl rfl) (ab (aR rfl rfl rfl) (ab (aR rfl rfl rfl) (ab (aR rfl rfl rfl) (ab (aR rfl rfl rfl) (ab (aR rfl rfl rfl) (ab (aR rfl rfl rfl) (ab (aR rfl rfl rfl) (ab (aR rfl rfl rfl) (ab (aR rfl rfl rfl) (ab (aR rfl rfl rfl) (ab (aR rfl rfl rfl) (ab (aR rfl rfl rfl) (ab (aR rfl rfl rfl) (ab (aR rfl rfl rfl) (aI))))))))))))))))))))))))))))))))))))))))))),PI.yq (ab (aI) (ab (aI) (ab (aI) (ab (aI) (ab (aI) (ab (aI) (ab (ab (bM rfl rfl ?_ ?_ ?_ rfl rfl rfl ?_ ?_) (ab (bM rfl rfl ?_ ?_ ?_ rfl rfl rfl ?_ ?_) (ab (bM rfl rfl ?_ ?_ ?_ rfl rfl rfl ?_ ?_) (aI)))) (ab (ab (bM rfl rfl ?_ ?_ ?_ rfl rfl rfl ?_ ?_) (ab (bM rfl rfl ?_ ?_ ?_ rfl rfl rfl ?_ ?_) (ab (bM rfl rfl ?_ ?_ ?_ rfl rfl rfl ?_ ?_) (aI)))) (ab (ab (bM rfl rfl ?_ ?_ ?_ rfl rfl rfl ?_ ?_) (ab (bM rfl rfl ?_ ?_ ?_ rfl rfl rfl ?_ ?_) (ab (bM rfl rfl ?_ ?_ ?_ rfl rfl rfl ?_ ?_) (aI)))) (ab (ab (bM rfl rfl ?_ ?_ ?_ rfl rfl rfl ?_ ?_) (ab (bM rfl rfl ?_ ?_ ?_ rfl rfl rfl ?_ ?_) (ab (bM rfl rfl ?_ ?_ ?_ rfl rfl rfl ?_ ?_) (aI)))) (ab (ab (bM rfl rfl ?_ ?_ ?_ rfl rfl rfl ?_ ?_) (ab (bM rfl rfl ?_ ?_ ?_ rfl rfl rfl ?_ ?_) (ab (bM rfl rfl ?_ ?_ ?_ rfl rfl rfl ?_ ?_) (aI)))) (ab (ab (bM rfl rfl ?_ ?_ ?_ rfl rfl rfl ?_ ?_) (ab (bM rfl rfl ?_ ?_ ?_ rfl rfl rfl ?_ ?_) (ab (bM rfl rfl ?_ ?_ ?_ rfl rfl rfl ?_ ?_) (aI)))) (aI))))))))))))),ab (?_) (ab (?_) (ab (?_) (ab (?_) (ab (?_) (ab (?_) (ab (?_) (ab (?_) (ab (?_) (ab (?_) (ab (?_) (ab (?_) (aI)))))))))))),PI.Dj (ab (gF rfl rfl) (ab (gF rfl rfl) (ab (gF rfl rfl) (ab (gF rfl rfl) (ab (cZ rfl rfl ?_ ?_ ?_ ?_ ?_ (ab (?_) (ab (?_) (ab (?_) (ab (?_) (aI)))))) (ab (cZ rfl rfl ?_ ?_ ?_ ?_ ?_ (ab (?_) (ab (?_) (ab (?_) (ab (?_) (aI)))))) (ab (cZ rfl rfl ?_ ?_ ?_ ?_ ?_ (aI)) (ab (cZ rfl rfl ?_ ?_ ?_ ?_ ?_ (aI)) (ab (cZ rfl rfl ?_ ?_ ?_ ?_ ?_ (aI)) (ab (cZ rfl rfl ?_ ?_ ?_ ?_ ?_ (aI)) (ab (cZ rfl rfl ?_ ?_ ?_ ?_ ?_ (aI)) (ab (cZ rfl rfl ?_ ?_ ?_ ?_ ?_ (aI)) (aI))))))))))))),PI.aI,PI.aI⟩
  any_goals first|k_is|k_exc
end
