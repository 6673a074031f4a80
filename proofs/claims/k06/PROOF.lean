import PyProof.Rows.All
import Wide.All
import OpenK.AllK
import Wide.FinOn
import Lean
import PyProof.EqAt
import PyProof.EqKinds
import PyProof.TupleCall
import KE.KSortTup
import PySem.Challenge.RW_stowhold_k06_near
set_option Elab.async false
set_option linter.all false
set_option maxRecDepth 100000
namespace L2
open PySem PySem.Spec PyProof.Rows
abbrev Key := Sum Int Str
def keyIs : Key → Value → Bool
 | .inl k, v => Value.isInt k v
 | .inr x, v => Value.isStrOf x v
def keyH (w : World) : Key → Int
 | .inl k => hashInt k
 | .inr x => hashStr w x
theorem keyIs_shape : ∀ {k : Key} {v : Value}, keyIs k v = true → (∃ i t, k = Sum.inl i ∧ v = Value.int i t) ∨ (∃ x t, k = Sum.inr x ∧ v = Value.str x t)
 | .inl i, v, h => by
  obtain ⟨t, e⟩ := Value.isInt_shape (k := i) (v := v) h
  exact .inl ⟨i, t, rfl, e⟩
 | .inr x, v, h => by
  obtain ⟨t, e⟩ := Value.isStrOf_shape (x := x) (v := v) h
  exact .inr ⟨x, t, rfl, e⟩
theorem keyIs_int (i : Int) (t : Tok) : keyIs (.inl i) (.int i t) = true := by simp [keyIs, Value.isInt]
theorem keyIs_str (x : Str) (t : Tok) : keyIs (.inr x) (.str x t) = true := by simp [keyIs, Value.isStrOf]
theorem key_ll (a b : Int) : decide ((Sum.inl a : Key) = Sum.inl b) = (a == b) := by
 by_cases e : a = b
 ·subst e; simp
 ·have h : ¬ (Sum.inl a : Key) = Sum.inl b := fun q => e (Sum.inl.inj q)
  rw [decide_eq_false h]
  exact (beq_eq_false_iff_ne.mpr e).symm
theorem key_rr (a b : Str) : decide ((Sum.inr a : Key) = Sum.inr b) = decide (a = b) := by
 by_cases e : a = b
 ·subst e; simp
 ·have h : ¬ (Sum.inr a : Key) = Sum.inr b := fun q => e (Sum.inr.inj q)
  rw [decide_eq_false h, decide_eq_false e]
theorem key_lr (a : Int) (b : Str) : decide ((Sum.inl a : Key) = Sum.inr b) = false := decide_eq_false (fun q => nomatch q)
theorem key_rl (a : Str) (b : Int) : decide ((Sum.inr a : Key) = Sum.inl b) = false := decide_eq_false (fun q => nomatch q)
def mixKind (prog : Program) (w : World) : PySem.KeyKind prog w Key where
 is := keyIs
 hash := keyH w
 inj := fun v a b ha hb => by
  rcases keyIs_shape ha with ⟨i, t, rfl, rfl⟩ | ⟨x, t, rfl, rfl⟩
  ·rcases keyIs_shape hb with ⟨j, u, rfl, e⟩ | ⟨y, u, rfl, e⟩
   ·injection e with e1 _; rw [e1]
   ·exact nomatch e
  ·rcases keyIs_shape hb with ⟨j, u, rfl, e⟩ | ⟨y, u, rfl, e⟩
   ·exact nomatch e
   ·injection e with e1 _; rw [e1]
 byValue := fun k v h => by
  rcases keyIs_shape h with ⟨i, t, rfl, rfl⟩ | ⟨x, t, rfl, rfl⟩ <;> rfl
 pyHash := fun hv h => by
  rcases keyIs_shape hv with ⟨i, t, rfl, rfl⟩ | ⟨x, t, rfl, rfl⟩
  ·exact wpAny_pyHash_int h
  ·exact wpAny_pyHash_str h
 eqBool := fun hu hv h => by
  rcases keyIs_shape hu with ⟨i, t, rfl, rfl⟩ | ⟨x, t, rfl, rfl⟩
  ·rcases keyIs_shape hv with ⟨j, u, rfl, rfl⟩ | ⟨y, u, rfl, rfl⟩
   ·rw [key_ll] at h; exact wpAny_eqBool_int h
   ·rw [key_lr] at h; exact SeqAt.EqAt.int_str i t y u _ _ _ _ h
  ·rcases keyIs_shape hv with ⟨j, u, rfl, rfl⟩ | ⟨y, u, rfl, rfl⟩
   ·rw [key_rl] at h; exact SeqAt.EqAt.str_int x t j u _ _ _ _ h
   ·rw [key_rr] at h; exact wpAny_eqBool_str h
 «strs» := fun k x t v h => by
  rcases keyIs_shape h with ⟨i, u, rfl, e⟩ | ⟨y, u, rfl, e⟩
  ·exact nomatch e
  ·injection e with e1 _
   subst e1
   cases v <;> rfl
theorem mixKind_int (prog : Program) (w : World) (i : Int) (t : Tok) : (mixKind prog w).is (.inl i) (.int i t) = true := keyIs_int i t
theorem mixKind_str (prog : Program) (w : World) (x : Str) (t : Tok) : (mixKind prog w).is (.inr x) (.str x t) = true := keyIs_str x t
end L2
namespace L2
open PySem PySem.Spec PyProof.Rows
inductive V where
 | non | bl (b : Bool) | int (i : Int) | str (x : Str) | byt (b : Array UInt8) | flt (b : UInt64) | ref (a : Addr) | ty (n : String)
 deriving DecidableEq
def RelV : V → Value → Prop
 | .non, u => u = Value.none
 | .bl b, u => u = Value.bool b
 | .int i, u => ∃ t, u = Value.int i t
 | .str x, u => ∃ t, u = Value.str x t
 | .byt b, u => ∃ t, u = Value.bytes b t
 | .flt b, u => ∃ t, u = Value.float b t
 | .ref a, u => u = Value.ref a
 | .ty n, u => u = Value.type n
abbrev Vals : List V → List Value → Prop := Paired RelV
theorem Vals.length {xs : List V} {us : List Value} (r : Vals xs us) : xs.length = us.length := Paired.length r
theorem Vals.get : ∀ {xs : List V} {us : List Value} {i : Nat} {x : V}, Vals xs us → xs[i]? = some x → ∃ u, us[i]? = some u ∧ RelV x u
 | _, _, _, _, .nil, e => by simp at e
 | _, _, 0, _, .cons r _, e => by simp at e; subst e; exact ⟨_, rfl, r⟩
 | _, _, i + 1, x, .cons _ t, e => by
  obtain ⟨u, h1, h2⟩ := Vals.get (i := i) (x := x) t (by simpa using e)
  exact ⟨u, by simpa using h1, h2⟩
theorem Vals.set {x : V} {u : Value} (r : RelV x u) : ∀ {xs : List V} {us : List Value} (i : Nat), Vals xs us → Vals (xs.set i x) (us.set i u)
 | _, _, _, .nil => .nil
 | _, _, 0, .cons _ t => .cons r t
 | _, _, i + 1, .cons q t => .cons q (Vals.set r i t)
theorem Vals.append : ∀ {xs ys : List V} {us ws : List Value}, Vals xs us → Vals ys ws → Vals (xs ++ ys) (us ++ ws)
 | _, _, _, _, .nil, s => s
 | _, _, _, _, .cons r t, s => .cons r (Vals.append t s)
theorem Vals.take : ∀ {xs : List V} {us : List Value} (n : Nat), Vals xs us → Vals (xs.take n) (us.take n)
 | _, _, 0, _ => .nil
 | _, _, _ + 1, .nil => .nil
 | _, _, n + 1, .cons r t => .cons r (Vals.take n t)
theorem Vals.drop : ∀ {xs : List V} {us : List Value} (n : Nat), Vals xs us → Vals (xs.drop n) (us.drop n)
 | _, _, 0, r => r
 | _, _, _ + 1, .nil => .nil
 | _, _, n + 1, .cons _ t => Vals.drop n t
def RelO : Option V → Option Value → Prop
 | some v, some u => RelV v u
 | none, none => True
 | _, _ => False
def KV {κ : Type} : List (κ × V) → List (κ × Value) → Prop := Paired fun (p : κ × V) (q : κ × Value) => p.1 = q.1 ∧ RelV p.2 q.2
def kV : Key → V
 | .inl i => .int i
 | .inr x => .str x
inductive HO where
 | lst (xs : List V)
 | tup (xs : List V)
 | dK (kvs : List (Key × V)) | dT (kvs : List (List Key × V))
 | set (S : Int → Bool) (n : Nat)
 | ins (C dx : Addr) (fs : List (Str × V))
 | own (x : Addr)
 | xd (fs : List (Str × V))
 | met (f x : Addr)
 | rng (lo hi : Int)
 | frz (o : Obj) (u : HO)
 | tbl (ps : Array Value)
 | ext (φ : Heap → Prop)
abbrev Hp := Addr → Option HO
def upd (H : Hp) (a : Addr) (o : HO) : Hp := fun b => if b = a then some o else H b
theorem upd_same {H : Hp} {a : Addr} {o : HO} : upd H a o a = some o := by unfold upd; rw [if_pos rfl]
theorem upd_ne {H : Hp} {a b : Addr} {o : HO} (h : b ≠ a) : upd H a o b = H b := by unfold upd; rw [if_neg h]
theorem upd_upd {H : Hp} {a : Addr} {o u : HO} : upd (upd H a o) a u = upd H a u := by
 funext b; unfold upd; split <;> rfl
theorem ne_of_none {H : Hp} {a b : Addr} {o : HO} (h : H a = some o) (h' : H b = none) : a ≠ b := by
 intro e; subst e; rw [h] at h'; cases h'
section
variable (P : Program) (w : World)
def ObjOk (H : Hp) (h : Heap) (a : Addr) : HO → Prop
 | .lst xs => xs.length ≤ sizeLine ∧ ∃ (its : List Value) (n : Nat), Vals xs its ∧ h.get? a = some { cls := .type "list", data := .seq its.toArray n }
 | .tup xs => xs.length ≤ sizeLine ∧ ∃ its : List Value, Vals xs its ∧ IsTup h a its.toArray
 | .dK kvs => kvs.length ≤ sizeLine ∧ (a == sysModules) = false ∧ ∃ vs, KV kvs vs ∧ h.DictOf (mixKind P w) a vs
 | .dT kvs => kvs.length ≤ sizeLine ∧ (a == sysModules) = false ∧ ∃ xs : List (List Key × Addr × Value),
   Paired (fun (p : List Key × V) (q : List Key × Addr × Value) => p.1 = q.1 ∧ H q.2.1 = some (.tup (p.1.map kV)) ∧ RelV p.2 q.2.2) kvs xs ∧
   ∃ o es ep, h.get? a = some o ∧ o.ExactDict ∧ o.data = .dict es ep ∧ es.toList = xs.map (entryOfKey (tupleKind (mixKind P w))) ∧ (xs.map (·.1)).Nodup
 | .set S n => h.SetOf (intKind P w) a S n
 | .ins C dx fs => H dx = some (.own a) ∧ fs.length ≤ 1000 ∧ dx ≠ a ∧ h.get? a = some (PySem.W.instObj C dx) ∧
   ∃ mA, h.Ns1 dx mA ∧ (∀ f, RelO (fs.lookup f) (mA f)) ∧ PySem.Within mA (fs.map (·.1))
 | .own _ => ∃ o, h.get? a = some o
 | .xd fs => ∃ mA, h.Ns1 a mA ∧ ∀ f, RelO (fs.lookup f) (mA f)
 | .rng lo hi => ∃ t u v, h.get? a = some { cls := .type "range", data := .fields #[.int lo t, .int hi u, .int 1 v] }
 | .frz o u => h.get? a = some o ∧ ObjOk H h a u
 | .tbl ps => h.get? a = some { cls := .none, data := .fields ps }
 | .met f x => h.get? a = some (PySem.W.methodObj (.ref f) (.ref x))
 | .ext φ => φ h ∧ (∃ o, h.get? a = some o) ∧ ∀ h1 h2 : Heap, φ h1 → (∀ o, h1.get? a = some o → h2.get? a = some o) → φ h2
def HOk (H : Hp) (h : Heap) : Prop := ∀ a o, H a = some o → ObjOk P w H h a o
end
section
variable {P : Program} {w : World} {H H' : Hp} {h h' : Heap} {a : Addr} {o : HO}
theorem ObjOk.lt (x : ObjOk P w H h a o) : a < h.objs.size := by
 cases o with
 | lst xs => obtain ⟨_, _, _, _, e⟩ := x; exact Heap.lt_size e
 | tup xs => obtain ⟨_, _, _, p⟩ := x; exact p.lt
 | dK kvs => obtain ⟨_, _, _, _, o, _, _, e, _⟩ := x; exact Heap.lt_size e
 | dT kvs => obtain ⟨_, _, _, _, o, _, _, e, _⟩ := x; exact Heap.lt_size e
 | set S n => obtain ⟨o, _, _, _, e, _⟩ := x; exact Heap.lt_size e
 | ins C dx fs => obtain ⟨_, _, _, e, _⟩ := x; exact Heap.lt_size e
 | own y => obtain ⟨_, e⟩ := x; exact Heap.lt_size e
 | xd fs => obtain ⟨_, ⟨_, _, _, e, _⟩, _⟩ := x; exact Heap.lt_size e
 | rng lo hi => obtain ⟨_, _, _, e⟩ := x; exact Heap.lt_size e
 | frz ob u => obtain ⟨e, _⟩ := x; exact Heap.lt_size e
 | tbl ps => exact Heap.lt_size (show h.get? a = some _ from x)
 | met f y => exact Heap.lt_size (show h.get? a = some _ from x)
 | ext φ => obtain ⟨_, ⟨_, e⟩, _⟩ := x; exact Heap.lt_size e
theorem Paired.mapP {α β : Type} {F G : α → β → Prop} : ∀ {l₁ : List α} {l₂ : List β}, Paired F l₁ l₂ → (∀ a b, F a b → G a b) → Paired G l₁ l₂
 | _, _, .nil, _ => .nil
 | _, _, .cons r t, f => .cons (f _ _ r) (Paired.mapP t f)
theorem ObjOk.stay (x : ObjOk P w H h a o) (k : ∀ b u, (b = a ∨ H b = some (.own a)) → h.get? b = some u → h'.get? b = some u)
  (ho : ∀ b, H b = some (.own a) → H' b = some (.own a)) (ht : ∀ b xs, H b = some (.tup xs) → H' b = some (.tup xs)) : ObjOk P w H' h' a o := by
 induction o with
 | lst xs => obtain ⟨z, its, n, r, e⟩ := x; exact ⟨z, its, n, r, k _ _ (.inl rfl) e⟩
 | tup xs => obtain ⟨z, its, r, ob, e, c⟩ := x; exact ⟨z, its, r, ob, k _ _ (.inl rfl) e, c⟩
 | dK kvs => obtain ⟨z, y, vs, r, ob, es, ep, e, c⟩ := x; exact ⟨z, y, vs, r, ob, es, ep, k _ _ (.inl rfl) e, c⟩
 | dT kvs =>
  obtain ⟨z, y, xs, r, ob, es, ep, e, c⟩ := x
  exact ⟨z, y, xs, Paired.mapP r fun p q z => ⟨z.1, ht _ _ z.2.1, z.2.2⟩, ob, es, ep, k _ _ (.inl rfl) e, c⟩
 | set S n => obtain ⟨ob, es, ep, t, e, c⟩ := x; exact ⟨ob, es, ep, t, k _ _ (.inl rfl) e, c⟩
 | ins C dx fs =>
  obtain ⟨d, z, ne, e, mA, ⟨od, es, ep, e2, c⟩, r⟩ := x
  exact ⟨ho _ d, z, ne, k _ _ (.inl rfl) e, mA, ⟨od, es, ep, k _ _ (.inr d) e2, c⟩, r⟩
 | own y => obtain ⟨ob, e⟩ := x; exact ⟨ob, k _ _ (.inl rfl) e⟩
 | xd fs => obtain ⟨mA, ⟨od, es, ep, e, c⟩, r⟩ := x; exact ⟨mA, ⟨od, es, ep, k _ _ (.inl rfl) e, c⟩, r⟩
 | rng lo hi => obtain ⟨t, u, v, e⟩ := x; exact ⟨t, u, v, k _ _ (.inl rfl) e⟩
 | frz ob u ih => obtain ⟨e, q⟩ := x; exact ⟨k _ _ (.inl rfl) e, ih q⟩
 | tbl ps =>
  have e : h.get? a = some { cls := .none, data := .fields ps } := x
  show h'.get? a = some { cls := .none, data := .fields ps }
  exact k a _ (.inl rfl) e
 | met f y =>
  have e : h.get? a = some (PySem.W.methodObj (.ref f) (.ref y)) := x
  show h'.get? a = some (PySem.W.methodObj (.ref f) (.ref y))
  exact k a _ (.inl rfl) e
 | ext φ => obtain ⟨p, ⟨o, e⟩, st⟩ := x; exact ⟨st _ _ p fun o q => k _ _ (.inl rfl) q, ⟨o, k _ _ (.inl rfl) e⟩, st⟩
theorem HOk.lt (x : HOk P w H h) (e : H a = some o) : a < h.objs.size := (x a o e).lt
theorem HOk.fresh (x : HOk P w H h) (e : h.objs.size ≤ a) : H a = none := by
 cases q : H a with
 | none => rfl
 | some u => exact absurd (Nat.lt_of_lt_of_le (x.lt q) e) (Nat.lt_irrefl _)
theorem HOk.kept (x : HOk P w H h) (k : ∀ b u, h.get? b = some u → h'.get? b = some u) : HOk P w H h' := fun a o e =>
 (x a o e).stay (fun b u _ q => k b u q) (fun _ q => q) fun _ _ q => q
theorem HOk.laid (x : HOk P w H h) (k : ∀ b u, h.get? b = some u → h'.get? b = some u) (hp : h.objs.size ≤ a) (new : ObjOk P w (upd H a o) h' a o) : HOk P w (upd H a o) h' := fun b u e => by
 have hn := x.fresh hp
 by_cases hb : b = a
 ·subst hb; rw [upd_same] at e; cases e; exact new
 ·rw [upd_ne hb] at e
  exact (x b u e).stay (fun c v _ q => k c v q) (fun c q => by rw [upd_ne (ne_of_none q hn)]; exact q) fun c xs q => by rw [upd_ne (ne_of_none q hn)]; exact q
end
def Rd (H : Hp) (a : Addr) (u : HO) : Prop := H a = some u ∨ ∃ o, H a = some (.frz o u)
theorem Rd.ok {P : Program} {w : World} {H : Hp} {h : Heap} {a : Addr} {u : HO} (r : Rd H a u) (x : HOk P w H h) : ObjOk P w H h a u := by
 rcases r with r | ⟨o, r⟩
 ·exact x a u r
 ·obtain ⟨_, q⟩ := x a _ r
  exact q
def Mut : Option HO → Prop
 | some (.lst _) => True
 | some (.dK _) => True
 | some (.dT _) => True
 | some (.set _ _) => True
 | some (.ins _ _ _) => True
 | some (.ext _) => True
 | _ => False
section
variable {P : Program} {w : World} {H : Hp} {h h' : Heap} {x e : Addr} {o' : HO}
theorem HOk.write (ok : HOk P w H h) (mu : Mut (H x)) (he : e = x ∨ H e = some (.own x)) (k : ∀ b u, b ≠ e → h.get? b = some u → h'.get? b = some u) (heo : ∃ u, h'.get? e = some u)
  (new : ObjOk P w (upd H x o') h' x o') : HOk P w (upd H x o') h' := fun b u q => by
 have nown : ∀ c y, H c = some (.own y) → c ≠ x := fun c y r z => by subst z; rw [r] at mu; exact mu
 have ntup : ∀ c xs, H c = some (.tup xs) → c ≠ x := fun c xs r z => by subst z; rw [r] at mu; exact mu
 by_cases hb : b = x
 ·subst hb; rw [upd_same] at q; cases q; exact new
 ·rw [upd_ne hb] at q
  by_cases hbe : b = e
  ·have q' : H b = some (.own x) := by
    rcases he with z | z
    ·exact absurd (hbe.trans z) hb
    ·rw [hbe]; exact z
   rw [q] at q'; cases q'
   obtain ⟨v, hv⟩ := heo
   exact ⟨v, by rw [hbe]; exact hv⟩
  ·refine (ok b u q).stay (fun c v hc r => k c v ?_ r) (fun c r => by rw [upd_ne (nown c b r)]; exact r) fun c xs r => by rw [upd_ne (ntup c xs r)]; exact r
   rcases hc with rfl | hc
   ·exact hbe
   ·rintro rfl
    rcases he with z | z
    ·exact nown c b hc z
    ·rw [hc] at z; cases z; exact hb rfl
end
structure Un (fs ex : List Addr) (H H' : Hp) (h h' : Heap) : Prop where
 keep : ∀ b o, h.get? b = some o → H b = none → b ∉ fs → b ∉ ex → h'.get? b = some o
 slot : ∀ b o, h.get? b = some o → H b = none → b ∈ fs → b ∉ ex → ∃ sl, h'.get? b = some { o with slots := sl }
 free : ∀ b o, h.get? b = some o → H b = none → b ∉ ex → H' b = none
 there : ∀ b o, h.get? b = some o → b ∉ ex → ∃ o', h'.get? b = some o'
 tups : ∀ b xs, H b = some (.tup xs) → H' b = some (.tup xs)
 frzs : ∀ b o u, H b = some (.frz o u) → H' b = some (.frz o u)
 tbls : ∀ b ps, H b = some (.tbl ps) → ∃ more, H' b = some (.tbl (ps ++ more))
section
variable {fs fs' ex ex' : List Addr} {H H1 H2 : Hp} {h h1 h2 h' : Heap} {a x e : Addr} {o : HO}
theorem Un.any (u : Un fs ex H H1 h h1) {b : Addr} {ob : Obj} (q : h.get? b = some ob) (n : H b = none) (hx : b ∉ ex) : ∃ sl, h1.get? b = some { ob with slots := sl } := by
 by_cases hb : b ∈ fs
 ·exact u.slot b ob q n hb hx
 ·exact ⟨ob.slots, u.keep b ob q n hb hx⟩
theorem Un.kept (k : ∀ b u, h.get? b = some u → h'.get? b = some u) : Un fs ex H H h h' :=
 ⟨fun b ob q _ _ _ => k b ob q, fun b ob q _ _ _ => ⟨ob.slots, k b ob q⟩, fun _ _ _ n _ => n, fun b ob q _ => ⟨ob, k b ob q⟩, fun _ _ q => q, fun _ _ _ q => q, fun _ ps q => ⟨#[], by rw [q]; simp⟩⟩
theorem Un.refl : Un fs ex H H h h := Un.kept fun _ _ q => q
theorem Un.laid (k : ∀ b u, h.get? b = some u → h'.get? b = some u) (hp : h.objs.size ≤ a) (hn : H a = none) : Un fs ex H (upd H a o) h h' where
 keep := fun b u q _ _ _ => k b u q
 slot := fun b u q _ _ _ => ⟨u.slots, k b u q⟩
 free := fun b u q n _ => by rw [upd_ne (Nat.ne_of_lt (Nat.lt_of_lt_of_le (Heap.lt_size q) hp))]; exact n
 there := fun b u q _ => ⟨u, k b u q⟩
 tups := fun b xs q => by rw [upd_ne (ne_of_none q hn)]; exact q
 frzs := fun b u xs q => by rw [upd_ne (ne_of_none q hn)]; exact q
 tbls := fun b ps q => ⟨#[], by rw [upd_ne (ne_of_none q hn), q]; simp⟩
theorem Un.write (mu : Mut (H x)) (he : e = x ∨ H e = some (.own x)) (k : ∀ b u, b ≠ e → h.get? b = some u → h'.get? b = some u) (heo : ∃ u, h'.get? e = some u) : Un fs ex H (upd H x o) h h' := by
 have hx : ∀ b, H b = none → b ≠ x := fun b n z => by subst z; rw [n] at mu; exact mu
 have hb : ∀ b, H b = none → b ≠ e := fun b n z => by
  subst z
  rcases he with r | r
  ·exact hx b n r
  ·rw [n] at r; cases r
 have hm : ∀ b u, H b = some u → ¬ Mut (some u) → b ≠ x := fun b u q nm z => by subst z; rw [q] at mu; exact nm mu
 refine ⟨fun b u q n _ _ => k b u (hb b n) q, fun b u q n _ _ => ⟨u.slots, k b u (hb b n) q⟩, fun b u q n _ => by rw [upd_ne (hx b n)]; exact n, fun b u q _ => ?_,
  fun b xs q => by rw [upd_ne (hm b _ q fun z => z)]; exact q, fun b u xs q => by rw [upd_ne (hm b _ q fun z => z)]; exact q, fun b ps q => ⟨#[], by rw [upd_ne (hm b _ q fun z => z), q]; simp⟩⟩
 by_cases hbe : b = e
 ·subst hbe; exact heo
 ·exact ⟨u, k b u hbe q⟩
theorem Un.mono (u : Un fs ex H H1 h h1) (hs : ∀ b ∈ fs, b ∈ fs') (hx : ∀ b ∈ ex, b ∈ ex') : Un fs' ex' H H1 h h1 :=
 ⟨fun b ob q n hb he => u.keep b ob q n (fun z => hb (hs b z)) fun z => he (hx b z), fun _ _ q n _ he => u.any q n fun z => he (hx _ z), fun b ob q n he => u.free b ob q n fun z => he (hx b z), fun b ob q he => u.there b ob q fun z => he (hx b z), u.tups, u.frzs, u.tbls⟩
end
def trk (h : Heap) (H : Hp) : List Addr := (List.range h.objs.size).filter fun a => (H a).isSome
def hidT (h : Heap) (H : Hp) : Heap := PySem.W.hideAll h (trk h H)
theorem hidT_size (h : Heap) (H : Hp) : (hidT h H).objs.size = h.objs.size := PySem.W.hideAll_size _ _
theorem hidT_get {h : Heap} {H : Hp} {b : Addr} {o : Obj} (e : h.get? b = some o) (n : H b = none) : (hidT h H).get? b = some o :=
 PySem.W.hideAll_get _ e fun hm => by
  have q : (H b).isSome = true := (List.mem_filter.mp hm).2
  rw [n] at q; simp at q
theorem of_hidT {h : Heap} {H : Hp} {b : Addr} {o : Obj} (e : (hidT h H).get? b = some o) : h.get? b = some o ∧ H b = none := by
 have e' : h.get? b = some o := PySem.W.of_hideAll (trk h H) e
 refine ⟨e', ?_⟩
 cases q : H b with
 | none => rfl
 | some x =>
  have hm : b ∈ trk h H := List.mem_filter.mpr ⟨List.mem_range.mpr (Heap.lt_size e'), by simp [q]⟩
  have z : (hidT h H).get? b = none := PySem.W.hideAll_none (trk h H) hm
  rw [z] at e; cases e
def allNews (g h : Heap) (L : Addr) : List (Addr × Obj) := (List.range h.objs.size).filterMap fun a => if a = L ∨ (g.get? a).isSome = true then none else (h.get? a).map fun o => (a, o)
def rest (g h : Heap) (L d : Addr) : List (Addr × Obj) := (allNews g h L).filter fun p => decide (p.1 ≠ d)
end L2
namespace L2
open PySem PySem.Spec PyProof.Rows
structure Mod (K : PySem.W.Frag) (mg : Str → Option Value) (base : Heap) : Prop where
 kin : K.In base
 glob : base.Ns mainGlobals mg
 blt : ∃ mb, base.Ns builtinsNs mb ∧ ∀ x : Str, x ≠ "__name__" → mb x = bootBuiltins x
 nolimit : base.NoLimit
structure Cx where
 prog : Program
 w : World
 K : PySem.W.Frag
 mg : Str → Option Value
 base : Heap
 A : Around
 N : List Str
 s₀ : Shared
 H₀ : Hp
 env : Env
 outer : List Env
 stack : List Env
 ex : List Addr
 fn : Str → Bool
 calm : Bool
 pn : List (Addr × Obj)
 xe : Value → Shared → Prop
def frs (l : List Env) : List Addr := l.filterMap (·.frame)
abbrev Cx.fs (X : Cx) : List Addr := frs X.outer
def Vis (sc : Scope) (x : Str) : Prop := sc.names.lookup x = some .local ∨ sc.names.lookup x = some .cell ∨ sc.names.lookup x = some .free
def Loc (sc : Scope) (x : Str) : Prop := sc.names.lookup x = some .local ∨ sc.names.lookup x = some .cell
def Look (env : Env) (h : Heap) (m : Str → Option Value) (x : Str) (u : Value) : Prop :=
 (env.kindOf x = some .local ∧ m x = some u) ∨ ((env.kindOf x = some .cell ∨ env.kindOf x = some .free) ∧ ∃ c, env.cells.lookup x = some c ∧ h.IsCell c (some u))
structure Cx.Ok (X : Cx) : Prop where
 mod : Mod X.K X.mg X.base
 kind : X.env.scope.kind = .function
 glob : X.env.globals = mainGlobals
 blt : X.env.builtins = builtinsNs
 above : X.s₀.heap.objs.size ≤ X.env.locals
 inj : ∀ x y c, X.env.cells.lookup x = some c → X.env.cells.lookup y = some c → x = y
 has : ∀ x, (X.env.kindOf x = some .cell ∨ X.env.kindOf x = some .free) → ∃ c, X.env.cells.lookup x = some c
 cab : ∀ x c, X.fn x = true → X.env.cells.lookup x = some c → X.s₀.heap.objs.size ≤ c
 hd : X.calm = true → X.A.handled = none
 frames : X.A.frames = some X.stack
 stk : X.stack = X.outer ∨ (X.stack = X.env :: X.outer ∧ X.env.frame = some X.env.locals)
 exf : ∀ b ∈ X.ex, b ≠ X.env.locals ∧ ∀ x c, X.env.cells.lookup x = some c → c ≠ b
 bs : ∀ b o, X.base.get? b = some o → X.s₀.heap.get? b = some o ∧ X.H₀ b = none
 bsz : X.base.objs.size ≤ X.s₀.heap.objs.size
 noex : ∀ b o, X.base.get? b = some o → b ∉ X.ex
 exfs : ∀ b ∈ X.ex, b ∉ X.fs
 funs : X.s₀.heap.FunFrames X.base X.outer
 frf : ∀ b ∈ X.fs, X.H₀ b = none
structure Inv (X : Cx) (pins : List (Addr × Obj)) (σ : List (Option V)) (H : Hp) (s : Shared) : Prop where
 ok : X.Ok
 os : s.os = X.s₀.os
 bare : AllBare s.gens
 base : Un X.fs X.ex X.H₀ H X.s₀.heap s.heap
 loc : ∃ m, s.heap.Ns X.env.locals m ∧ ∀ (i : Nat) (x : Str) (v : V), X.N[i]? = some x → σ[i]? = some (some v) → Vis X.env.scope x → ∃ u, RelV v u ∧ Look X.env s.heap m x u
 cell : ∀ x c, X.env.cells.lookup x = some c → ∃ v, s.heap.IsCell c v
 free : H X.env.locals = none
 freeC : ∀ x c, X.env.cells.lookup x = some c → H c = none
 pin : ∀ p ∈ X.pn ++ pins, s.heap.get? p.1 = some p.2 ∧ H p.1 = none ∧ p.1 ≠ X.env.locals ∧ p.1 ∉ X.fs ∧ ∀ v, p.2.data ≠ .cell v
 hok : HOk X.prog X.w H s.heap
 len : σ.length = X.N.length
section
variable {X : Cx} {pins : List (Addr × Obj)} {σ : List (Option V)} {H H' : Hp} {s : Shared} {h' : Heap}
theorem Cx.Ok.nofr (ok : X.Ok) {b : Addr} {o : Obj} (e : X.base.get? b = some o) : b ∉ X.fs := fun hb => by
 have := (ok.funs.mem hb).1
 rw [e] at this; cases this
theorem Inv.bs (I : Inv X pins σ H s) : ∀ b o, X.base.get? b = some o → s.heap.get? b = some o ∧ H b = none := fun b o e =>
 ⟨I.base.keep b o (I.ok.bs b o e).1 (I.ok.bs b o e).2 (I.ok.nofr e) (I.ok.noex b o e), I.base.free b o (I.ok.bs b o e).1 (I.ok.bs b o e).2 (I.ok.noex b o e)⟩
theorem Inv.bk (I : Inv X pins σ H s) : ∀ b o, X.base.get? b = some o → s.heap.get? b = some o := fun b o e => (I.bs b o e).1
theorem Inv.mod (I : Inv X pins σ H s) : Mod X.K X.mg X.base := I.ok.mod
theorem Inv.kIn (I : Inv X pins σ H s) : X.K.In s.heap := I.ok.mod.kin.keeps I.bk
theorem Inv.lt (I : Inv X pins σ H s) : X.env.locals < s.heap.objs.size := let ⟨_, hn, _⟩ := I.loc; hn.lt
theorem Inv.sz (I : Inv X pins σ H s) : X.s₀.heap.objs.size ≤ s.heap.objs.size := Nat.le_trans I.ok.above (Nat.le_of_lt I.lt)
theorem Inv.nofs (I : Inv X pins σ H s) {a : Addr} (h : s.heap.objs.size ≤ a) : a ∉ X.fs := fun hb => by
 obtain ⟨_, o, ho, _⟩ := I.ok.funs.mem hb
 exact absurd (Nat.lt_of_lt_of_le (Heap.lt_size ho) (Nat.le_trans I.sz h)) (Nat.lt_irrefl _)
theorem Inv.cne (I : Inv X pins σ H s) : ∀ x c, X.env.cells.lookup x = some c → c ≠ X.env.locals := fun x c e z => by
 obtain ⟨v, o, ho, hd⟩ := I.cell x c e
 obtain ⟨m, ⟨o', es, ep, ho', hd', _⟩, _⟩ := I.loc
 rw [z, ho'] at ho; cases ho; rw [hd'] at hd; cases hd
theorem Inv.funs (I : Inv X pins σ H s) : s.heap.FunFrames X.base X.outer := by
 have all : ∀ (l : List Env), (∀ b ∈ frs l, b ∈ X.fs) → X.s₀.heap.FunFrames X.base l → s.heap.FunFrames X.base l := by
  intro l
  induction l with
  | nil => intro _ _; trivial
  | cons env r ih =>
   intro hs hl
   obtain ⟨hk, ⟨L, o, hf, hn, ho, hd⟩, hr⟩ := hl
   have hL : L ∈ X.fs := hs L (by unfold frs; rw [List.filterMap_cons, hf]; exact List.mem_cons_self)
   obtain ⟨sl, e⟩ := I.base.slot L o ho (I.ok.frf L hL) hL fun z => I.ok.exfs L z hL
   exact ⟨hk, ⟨L, _, hf, hn, e, hd⟩, ih (fun b hb => hs b (by unfold frs; rw [List.filterMap_cons, hf]; exact List.mem_cons_of_mem _ hb)) hr⟩
 exact all X.outer (fun _ hb => hb) I.ok.funs
theorem Inv.stack (I : Inv X pins σ H s) : s.heap.FunFrames X.base X.stack := by
 rcases I.ok.stk with e | ⟨e, hf⟩
 ·rw [e]; exact I.funs
 ·rw [e]
  obtain ⟨m, hn, _⟩ := I.loc
  refine .cons (by rw [I.ok.kind]; decide) hf hn ?_ I.funs
  exact Heap.get?_none_of_le (Nat.le_trans I.ok.bsz I.ok.above)
theorem Inv.stkSub (I : Inv X pins σ H s) : ∀ b ∈ frs X.stack, b ∈ X.env.locals :: X.fs := fun b hb => by
 rcases I.ok.stk with e | ⟨e, hf⟩
 ·rw [e] at hb; exact List.mem_cons_of_mem _ hb
 ·rw [e] at hb
  unfold frs at hb
  rw [List.filterMap_cons, hf] at hb
  exact hb
theorem Inv.stkFree (I : Inv X pins σ H s) : ∀ b ∈ frs X.stack, H b = none := fun b hb => by
 rcases List.mem_cons.mp (I.stkSub b hb) with e | hb
 ·rw [e]; exact I.free
 ·obtain ⟨_, o, ho, _⟩ := I.ok.funs.mem hb
  exact I.base.free b o ho (I.ok.frf b hb) fun z => I.ok.exfs b z hb
theorem Inv.step {g' : Array GenState} {t' : Nat} {d' : Drawn} {ch : List Addr} (I : Inv X pins σ H s)
  (hch : ∀ b ∈ ch, (b ∈ X.ex ∨ X.s₀.heap.objs.size ≤ b) ∧ b ≠ X.env.locals ∧ (∀ x c, X.env.cells.lookup x = some c → c ≠ b) ∧ ∀ p ∈ X.pn ++ pins, p.1 ≠ b)
  (keep : ∀ b o, b ≠ X.env.locals → b ∉ X.fs → b ∉ ch → s.heap.get? b = some o → H b = none → h'.get? b = some o)
  (slot : ∀ b o, b ≠ X.env.locals → b ∈ X.fs → b ∉ ch → s.heap.get? b = some o → H b = none → ∃ sl, h'.get? b = some { o with slots := sl }) (free : ∀ b o, b ∉ ch → s.heap.get? b = some o → H b = none → H' b = none)
  (there : ∀ b o, b ∉ ch → s.heap.get? b = some o → ∃ o', h'.get? b = some o')
  (tups : ∀ b xs, H b = some (.tup xs) → H' b = some (.tup xs)) (frzs : ∀ b o u, H b = some (.frz o u) → H' b = some (.frz o u)) (tbls : ∀ b ps, H b = some (.tbl ps) → ∃ more, H' b = some (.tbl (ps ++ more)))
  (ns : ∀ m, s.heap.Ns X.env.locals m → h'.Ns X.env.locals m) (hok : HOk X.prog X.w H' h') (hg : AllBare g') :
  Inv X pins σ H' { s with heap := h', gens := g', drawn := d', toks := t' } := by
 have neL : ∀ b o, X.s₀.heap.get? b = some o → b ≠ X.env.locals := fun b o e => Nat.ne_of_lt (Nat.lt_of_lt_of_le (Heap.lt_size e) I.ok.above)
 have neC : ∀ b o, X.s₀.heap.get? b = some o → b ∉ X.ex → b ∉ ch := fun b o e hx hb => by
  rcases (hch b hb).1 with z | z
  ·exact hx z
  ·exact absurd (Nat.lt_of_lt_of_le (Heap.lt_size e) z) (Nat.lt_irrefl _)
 have cellK : ∀ x c, X.env.cells.lookup x = some c → ∀ v, s.heap.IsCell c v → h'.IsCell c v := fun x c e v ⟨o, ho, hd⟩ => by
  have nch : c ∉ ch := fun z => (hch c z).2.2.1 x c e rfl
  by_cases hc : c ∈ X.fs
  ·obtain ⟨sl, q⟩ := slot c o (I.cne x c e) hc nch ho (I.freeC x c e)
   exact ⟨_, q, hd⟩
  ·exact ⟨o, keep c o (I.cne x c e) hc nch ho (I.freeC x c e), hd⟩
 refine ⟨I.ok, I.os, hg, ⟨fun b o e n hb hx => ?_, fun b o e n hb hx => ?_, fun b o e n hx => ?_, fun b o e hx => ?_, fun b xs e => tups b xs (I.base.tups b xs e), fun b o xs e => frzs b o xs (I.base.frzs b o xs e), fun b ps e => ?_⟩, ?_, fun x c e => ?_, ?_, fun x c e => ?_, fun p hp => ?_, hok, I.len⟩
 ·exact keep b o (neL b o e) hb (neC b o e hx) (I.base.keep b o e n hb hx) (I.base.free b o e n hx)
 ·obtain ⟨sl, e1⟩ := I.base.slot b o e n hb hx
  obtain ⟨sl', e2⟩ := slot b _ (neL b o e) hb (neC b o e hx) e1 (I.base.free b o e n hx)
  exact ⟨sl', e2⟩
 ·obtain ⟨o', e1⟩ := I.base.there b o e hx
  exact free b o' (neC b o e hx) e1 (I.base.free b o e n hx)
 ·obtain ⟨o', e1⟩ := I.base.there b o e hx
  exact there b o' (neC b o e hx) e1
 ·obtain ⟨m1, e1⟩ := I.base.tbls b ps e
  obtain ⟨m2, e2⟩ := tbls b _ e1
  exact ⟨m1 ++ m2, by rw [e2, Array.append_assoc]⟩
 ·obtain ⟨m, hn, hl⟩ := I.loc
  refine ⟨m, ns m hn, fun i x v e1 e2 e3 => ?_⟩
  obtain ⟨u, r, l⟩ := hl i x v e1 e2 e3
  refine ⟨u, r, ?_⟩
  rcases l with l | ⟨k, c, e, z⟩
  ·exact .inl l
  ·exact .inr ⟨k, c, e, cellK x c e _ z⟩
 ·obtain ⟨v, z⟩ := I.cell x c e
  exact ⟨v, cellK x c e v z⟩
 ·obtain ⟨m, ⟨o, _, _, ho, _⟩, _⟩ := I.loc
  exact free _ o (fun z => (hch _ z).2.1 rfl) ho I.free
 ·obtain ⟨v, o, ho, hd⟩ := I.cell x c e
  exact free c o (fun z => (hch c z).2.2.1 x c e rfl) ho (I.freeC x c e)
 ·obtain ⟨e, n, ne, nf, d⟩ := I.pin p hp
  have nch : p.1 ∉ ch := fun z => (hch p.1 z).2.2.2 p hp rfl
  exact ⟨keep p.1 p.2 ne nf nch e n, free p.1 p.2 nch e n, ne, nf, d⟩
theorem Inv.un {t' : Nat} (I : Inv X pins σ H s) (u : Un X.fs [] H H' s.heap h') (hok : HOk X.prog X.w H' h') : Inv X pins σ H' { s with heap := h', toks := t' } := by
 obtain ⟨m, ⟨o, es, ep, ho, r⟩, _⟩ := id I.loc
 obtain ⟨sl, hL⟩ := u.any ho I.free (by simp)
 exact I.step (g' := s.gens) (d' := s.drawn) (ch := []) (fun _ z => nomatch z) (fun b o _ hb _ e n => u.keep b o e n hb (by simp)) (fun b o _ hb _ e n => u.slot b o e n hb (by simp)) (fun b o _ e n => u.free b o e n (by simp)) (fun b o _ e => u.there b o e (by simp)) u.tups u.frzs u.tbls (fun m' hm => by
  obtain ⟨o', es', ep', ho', r'⟩ := hm
  rw [ho] at ho'; cases ho'
  exact ⟨_, es', ep', hL, r'⟩) hok I.bare
theorem Inv.call {g' : Array GenState} {t' : Nat} {d' : Drawn} {ch : List Addr} (I : Inv X pins σ H s) (u : Un (frs X.stack) ch H H' s.heap h') (hok : HOk X.prog X.w H' h') (hg : AllBare g')
  (hch : ∀ b ∈ ch, (b ∈ X.ex ∨ X.s₀.heap.objs.size ≤ b) ∧ b ≠ X.env.locals ∧ (∀ x c, X.env.cells.lookup x = some c → c ≠ b) ∧ ∀ p ∈ X.pn ++ pins, p.1 ≠ b) :
  Inv X pins σ H' { s with heap := h', gens := g', drawn := d', toks := t' } := by
 obtain ⟨m, ⟨o, es, ep, ho, r⟩, _⟩ := id I.loc
 obtain ⟨sl, hL⟩ := u.any ho I.free fun z => (hch _ z).2.1 rfl
 exact I.step (ch := ch) hch (fun b o hL hb hc e n => u.keep b o e n (fun z => (List.mem_cons.mp (I.stkSub b z)).elim hL hb) hc) (fun b o _ _ hc e n => u.any e n hc) (fun b o hc e n => u.free b o e n hc) (fun b o hc e => u.there b o e hc) u.tups u.frzs u.tbls (fun m' hm => by
  obtain ⟨o', es', ep', ho', r'⟩ := hm
  rw [ho] at ho'; cases ho'
  exact ⟨_, es', ep', hL, r'⟩) hok hg
theorem Inv.turned {t' : Nat} {it : Addr} (I : Inv X pins σ H s) (k : ∀ b o, b ≠ it → s.heap.get? b = some o → h'.get? b = some o) (hn : H it = none) (hL : it ≠ X.env.locals)
  (h1 : it ∈ X.ex ∨ X.s₀.heap.objs.size ≤ it) (h2 : ∀ x c, X.env.cells.lookup x = some c → c ≠ it) (h3 : ∀ p ∈ X.pn ++ pins, p.1 ≠ it) : Inv X pins σ H { s with heap := h', toks := t' } := by
 have nit : ∀ b u, H b = some u → b ≠ it := fun b u e z => by rw [z, hn] at e; cases e
 refine I.step (g' := s.gens) (d' := s.drawn) (ch := [it]) (fun b hb => ?_) (fun b o _ _ hc e _ => k b o (fun z => hc (by simp [z])) e) (fun b o _ _ hc e _ => ⟨o.slots, k b o (fun z => hc (by simp [z])) e⟩) (fun _ _ _ _ n => n)
  (fun b o hc e => ⟨o, k b o (fun z => hc (by simp [z])) e⟩) (fun _ _ e => e) (fun _ _ _ e => e) (fun b ps e => ⟨#[], by rw [e]; simp⟩) (fun m hm => ?_) (fun b u e => ?_) I.bare
 ·have e : b = it := by simpa using hb
  subst e
  exact ⟨h1, hL, h2, h3⟩
 ·obtain ⟨o, es, ep, ho, r⟩ := hm
  exact ⟨o, es, ep, k _ o (Ne.symm hL) ho, r⟩
 ·refine (I.hok b u e).stay (fun c v hc q => k c v ?_ q) (fun _ q => q) fun _ _ q => q
  rcases hc with z | z
  ·rw [z]; exact nit b u e
  ·exact nit c _ z
theorem Inv.tok (I : Inv X pins σ H s) (t : Nat) : Inv X pins σ H { s with toks := t } := I.un (h' := s.heap) (t' := t) Un.refl I.hok
theorem Inv.kept {t' : Nat} (I : Inv X pins σ H s) (k : ∀ b u, s.heap.get? b = some u → h'.get? b = some u) : Inv X pins σ H { s with heap := h', toks := t' } := I.un (Un.kept k) (I.hok.kept k)
theorem Inv.laid {a : Addr} {o : HO} {t' : Nat} (I : Inv X pins σ H s) (k : ∀ b u, s.heap.get? b = some u → h'.get? b = some u) (hp : s.heap.objs.size ≤ a) (new : ObjOk X.prog X.w (upd H a o) h' a o) :
  Inv X pins σ (upd H a o) { s with heap := h', toks := t' } := I.un (Un.laid k hp (I.hok.fresh hp)) (I.hok.laid k hp new)
theorem Inv.write {x e : Addr} {o : HO} {t' : Nat} (I : Inv X pins σ H s) (mu : Mut (H x)) (he : e = x ∨ H e = some (.own x)) (k : ∀ b u, b ≠ e → s.heap.get? b = some u → h'.get? b = some u) (heo : ∃ u, h'.get? e = some u)
  (new : ObjOk X.prog X.w (upd H x o) h' x o) : Inv X pins σ (upd H x o) { s with heap := h', toks := t' } := I.un (Un.write mu he k heo) (I.hok.write mu he k heo new)
theorem Inv.pins_of {pins' : List (Addr × Obj)} (I : Inv X pins σ H s) (h : ∀ p ∈ pins', s.heap.get? p.1 = some p.2 ∧ H p.1 = none ∧ p.1 ≠ X.env.locals ∧ p.1 ∉ X.fs ∧ ∀ v, p.2.data ≠ .cell v) : Inv X pins' σ H s :=
 ⟨I.ok, I.os, I.bare, I.base, I.loc, I.cell, I.free, I.freeC, fun p hp => (List.mem_append.mp hp).elim (fun z => I.pin p (List.mem_append_left _ z)) (h p), I.hok, I.len⟩
theorem nodup_ix {N : List Str} (hN : N.Nodup) {i j : Nat} {x : Str} (a : N[i]? = some x) (b : N[j]? = some x) : i = j := by
 obtain ⟨h1, e1⟩ := List.getElem?_eq_some_iff.mp a
 obtain ⟨h2, e2⟩ := List.getElem?_eq_some_iff.mp b
 exact (List.getElem_inj hN).mp (e1.trans e2.symm)
theorem store_ok2 {M : Model} {A : Around} {E : Value → Shared → Prop} {i : Nat} {x : Str} {v : V} {u : Value} {Q : Unit → Shared → Prop} (I : Inv X pins σ H s) (hN : X.N.Nodup) (hi : X.N[i]? = some x) (hx : Loc X.env.scope x) (r : RelV v u)
  (h : ∀ s', Inv X pins (σ.set i (some v)) H s' → (∃ a, Heap.SameBut a s.heap s'.heap ∧ (a = X.env.locals ∨ X.env.cells.lookup x = some a)) → Q () s') (hf : X.fn x = true ∨ X.env.scope.names.lookup x = some .local := by first | exact .inl rfl | exact .inr rfl | assumption) : wpAny M A (storeName X.env x u) Q E s := by
 obtain ⟨m, hn, hl⟩ := id I.loc
 have hcls : (X.env.scope.kind == .class || (X.env.scope.kind == .module && X.env.locals != X.env.globals)) = false := by rw [I.ok.kind]; rfl
 have hiσ : i < σ.length := by rw [I.len]; exact (List.getElem?_eq_some_iff.mp hi).1
 have cne := I.cne
 have tracked : ∀ {a : Addr} {h' : Heap}, (∃ o, s.heap.get? a = some o ∧ H a = none) → Heap.SameBut a s.heap h' → HOk X.prog X.w H h' := fun {a h'} ha hs b ob e => by
  obtain ⟨_, _, hfree⟩ := ha
  refine (I.hok b ob e).stay (fun c w' hc q => (hs.2 c ?_).trans q) (fun _ q => q) fun _ _ q => q
  rintro rfl
  rcases hc with rfl | hc
  ·rw [hfree] at e; cases e
  ·rw [hfree] at hc; cases hc
 rcases hx with hk | hk
 ·refine wpAny_storeName_local hk hn (fun h' hn' hs => ?_) hcls
  obtain ⟨oL, _, _, hoL, _⟩ := id hn
  refine h _ ⟨I.ok, I.os, I.bare, ⟨fun b o e n hb hx => ?_, fun b o e n hb hx => ?_, I.base.free, fun b o e hx => ?_, I.base.tups, I.base.frzs, I.base.tbls⟩, ⟨_, hn', fun j y v' e1 e2 e3 => ?_⟩, fun y c e => ?_, I.free, I.freeC, fun p hp => ?_, tracked ⟨oL, hoL, I.free⟩ hs, by simpa using I.len⟩ ⟨_, hs, .inl rfl⟩
  ·exact (hs.2 b (Nat.ne_of_lt (Nat.lt_of_lt_of_le (Heap.lt_size e) I.ok.above))).trans (I.base.keep b o e n hb hx)
  ·obtain ⟨sl, e1⟩ := I.base.slot b o e n hb hx
   exact ⟨sl, (hs.2 b (Nat.ne_of_lt (Nat.lt_of_lt_of_le (Heap.lt_size e) I.ok.above))).trans e1⟩
  ·obtain ⟨o', e1⟩ := I.base.there b o e hx
   exact ⟨o', (hs.2 b (Nat.ne_of_lt (Nat.lt_of_lt_of_le (Heap.lt_size e) I.ok.above))).trans e1⟩
  ·by_cases hj : j = i
   ·subst hj
    rw [hi] at e1; cases e1
    rw [List.getElem?_set_self hiσ] at e2
    cases e2
    exact ⟨u, r, .inl ⟨hk, by simp⟩⟩
   ·rw [List.getElem?_set_ne (Ne.symm hj)] at e2
    obtain ⟨u', r', q⟩ := hl j y v' e1 e2 e3
    refine ⟨u', r', ?_⟩
    rcases q with ⟨k, e⟩ | ⟨k, c, e, z⟩
    ·refine .inl ⟨k, ?_⟩
     have : y ≠ x := fun e => hj (nodup_ix hN e1 (e ▸ hi))
     simp [this, e]
    ·exact .inr ⟨k, c, e, z.sameBut hs (cne y c e)⟩
  ·obtain ⟨w', z⟩ := I.cell y c e
   exact ⟨w', z.sameBut hs (cne y c e)⟩
  ·obtain ⟨e, n, ne, nf, d⟩ := I.pin p hp
   exact ⟨(hs.2 p.1 ne).trans e, n, ne, nf, d⟩
 ·have hfn : X.fn x = true := by
   rcases hf with z | z
   ·exact z
   ·rw [z] at hk; cases hk
  obtain ⟨c, hc⟩ := I.ok.has x (.inl hk)
  obtain ⟨w', z⟩ := I.cell x c hc
  refine wpAny_storeName_cell I.ok.kind hk hc z (fun h' hc' hs => ?_)
  obtain ⟨oc, hoc, hocd⟩ := id z
  refine h { s with heap := h' } ⟨I.ok, I.os, I.bare, ⟨fun b o e n hb hx => ?_, fun b o e n hb hx => ?_, I.base.free, fun b o e hx => ?_, I.base.tups, I.base.frzs, I.base.tbls⟩, ⟨m, hn.sameBut hs (Ne.symm (cne x c hc)), fun j y v' e1 e2 e3 => ?_⟩, fun y c' e => ?_, I.free, I.freeC, fun p hp => ?_, tracked ⟨oc, hoc, I.freeC x c hc⟩ hs, by simpa using I.len⟩ ⟨c, hs, .inr hc⟩
  ·exact (hs.2 b (Nat.ne_of_lt (Nat.lt_of_lt_of_le (Heap.lt_size e) (I.ok.cab x c hfn hc)))).trans (I.base.keep b o e n hb hx)
  ·obtain ⟨sl, e1⟩ := I.base.slot b o e n hb hx
   exact ⟨sl, (hs.2 b (Nat.ne_of_lt (Nat.lt_of_lt_of_le (Heap.lt_size e) (I.ok.cab x c hfn hc)))).trans e1⟩
  ·obtain ⟨o', e1⟩ := I.base.there b o e hx
   exact ⟨o', (hs.2 b (Nat.ne_of_lt (Nat.lt_of_lt_of_le (Heap.lt_size e) (I.ok.cab x c hfn hc)))).trans e1⟩
  ·by_cases hj : j = i
   ·subst hj
    rw [hi] at e1; cases e1
    rw [List.getElem?_set_self hiσ] at e2
    cases e2
    exact ⟨u, r, .inr ⟨.inl hk, c, hc, hc'⟩⟩
   ·rw [List.getElem?_set_ne (Ne.symm hj)] at e2
    obtain ⟨u', r', q⟩ := hl j y v' e1 e2 e3
    refine ⟨u', r', ?_⟩
    rcases q with q | ⟨k, c', e, z'⟩
    ·exact .inl q
    ·refine .inr ⟨k, c', e, z'.sameBut hs ?_⟩
     rintro rfl
     exact hj (nodup_ix hN e1 (I.ok.inj _ _ _ e hc ▸ hi))
  ·by_cases hcc : c' = c
   ·subst hcc; exact ⟨_, hc'⟩
   ·obtain ⟨w2, z2⟩ := I.cell y c' e
    exact ⟨w2, z2.sameBut hs hcc⟩
  ·obtain ⟨e, n, ne, nf, d⟩ := I.pin p hp
   refine ⟨(hs.2 p.1 ?_).trans e, n, ne, nf, d⟩
   intro q
   rw [q, hoc] at e
   have q' : oc = p.2 := Option.some.inj e
   exact d w' (by rw [← q']; exact hocd)
theorem store_ok {M : Model} {A : Around} {E : Value → Shared → Prop} {i : Nat} {x : Str} {v : V} {u : Value} {Q : Unit → Shared → Prop} (I : Inv X pins σ H s) (hN : X.N.Nodup) (hi : X.N[i]? = some x) (hx : Loc X.env.scope x) (r : RelV v u)
  (h : ∀ s', Inv X pins (σ.set i (some v)) H s' → Q () s') (hf : X.fn x = true ∨ X.env.scope.names.lookup x = some .local := by first | exact .inl rfl | exact .inr rfl | assumption) : wpAny M A (storeName X.env x u) Q E s :=
 store_ok2 I hN hi hx r (fun s' I' _ => h s' I') hf
theorem Inv.call' {s' : Shared} {ch : List Addr} (I : Inv X pins σ H s) (ho : s'.os = s.os) (u : Un (frs X.stack) ch H H' s.heap s'.heap) (hok : HOk X.prog X.w H' s'.heap) (hg : AllBare s'.gens)
  (hch : ∀ b ∈ ch, (b ∈ X.ex ∨ X.s₀.heap.objs.size ≤ b) ∧ b ≠ X.env.locals ∧ (∀ x c, X.env.cells.lookup x = some c → c ≠ b) ∧ ∀ p ∈ X.pn ++ pins, p.1 ≠ b) : Inv X pins σ H' s' := by
 obtain ⟨h', g', d', t', o'⟩ := s'
 have e : o' = s.os := ho
 subst e
 exact I.call (g' := g') (t' := t') (d' := d') u hok hg hch
end
abbrev XK := Value → Option Addr → Hp → Prop
abbrev St := List (Option V)
abbrev VK := V → Hp → Prop
abbrev TE := St → Hp → VK → Prop
abbrev TT := St → Hp → (Bool → Hp → Prop) → Prop
abbrev TA := St → Hp → (List V → Hp → Prop) → Prop
structure Ends where
 nx : St → Hp → Prop
 rt : VK
 bk : St → Hp → Prop := fun _ _ => False
 ct : St → Hp → Prop := fun _ _ => False
abbrev TS := Ends → St → Hp → Prop
def EP (X : Cx) (pins : List (Addr × Obj)) (σ : St) (Q : VK) (u : Value) (s' : Shared) : Prop := ∃ v H', Inv X pins σ H' s' ∧ RelV v u ∧ Q v H'
def TP (X : Cx) (pins : List (Addr × Obj)) (σ : St) (Q : Bool → Hp → Prop) (b : Bool) (s' : Shared) : Prop := ∃ H', Inv X pins σ H' s' ∧ Q b H'
def AP (X : Cx) (pins : List (Addr × Obj)) (σ : St) (Q : List V → Hp → Prop) (us : List Value) (s' : Shared) : Prop := ∃ vs H', Inv X pins σ H' s' ∧ Vals vs us ∧ Q vs H'
def SP (X : Cx) (pins : List (Addr × Obj)) (D : Ends) (f : Flow) (s' : Shared) : Prop :=
 match f with
 | .next => ∃ σ' H', Inv X pins σ' H' s' ∧ D.nx σ' H'
 | .brk => ∃ σ' H', Inv X pins σ' H' s' ∧ D.bk σ' H'
 | .cont => ∃ σ' H', Inv X pins σ' H' s' ∧ D.ct σ' H'
 | .ret u => ∃ v σ' H', Inv X pins σ' H' s' ∧ RelV v u ∧ D.rt v H'
def PE (X : Cx) (e : Expr) (t : TE) : Prop :=
 ∀ (pins : List (Addr × Obj)) (s : Shared) (σ : St) (H : Hp) (Q : VK), Inv X pins σ H s → t σ H Q → wpAny (model X.prog X.w) X.A (eval e X.env) (EP X pins σ Q) X.xe s
def PT (X : Cx) (e : Expr) (t : TT) : Prop :=
 ∀ (pins : List (Addr × Obj)) (s : Shared) (σ : St) (H : Hp) (Q : Bool → Hp → Prop), Inv X pins σ H s → t σ H Q → wpAny (model X.prog X.w) X.A (isTrue e X.env (eval e X.env)) (TP X pins σ Q) X.xe s
def PW (X : Cx) (e : Expr) (t : TT) : Prop :=
 ∀ (whole : Sem Value) (pins : List (Addr × Obj)) (s : Shared) (σ : St) (H : Hp) (Q : Bool → Hp → Prop), Inv X pins σ H s → t σ H Q → wpAny (model X.prog X.w) X.A (isTrue e X.env whole) (TP X pins σ Q) X.xe s
theorem PW.pt {X : Cx} {e : Expr} {t : TT} (h : PW X e t) : PT X e t := h _
def PA (X : Cx) (es : List Expr) (t : TA) : Prop :=
 ∀ (pos : Pos) (pins : List (Addr × Obj)) (s : Shared) (σ : St) (H : Hp) (Q : List V → Hp → Prop), Inv X pins σ H s → t σ H Q → wpAny (model X.prog X.w) X.A (spliced (backTo pos (starEach es X.env))) (AP X pins σ Q) X.xe s
def PS (X : Cx) (st : Stmt) (t : TS) : Prop :=
 ∀ (pins : List (Addr × Obj)) (s : Shared) (σ : St) (H : Hp) (D : Ends), Inv X pins σ H s → t D σ H → wpAny (model X.prog X.w) X.A (exec st X.env) (SP X pins D) X.xe s
def PSs (X : Cx) (st : List Stmt) (t : TS) : Prop :=
 ∀ (pins : List (Addr × Obj)) (s : Shared) (σ : St) (H : Hp) (D : Ends), Inv X pins σ H s → t D σ H → wpAny (model X.prog X.w) X.A (execs st X.env) (SP X pins D) X.xe s
theorem thn {α : Type} {t : Sem α} {Q Q' : α → Shared → Prop} {M : Model} {A : Around} {E : Value → Shared → Prop} {s : Shared} (h : wpAny M A t Q E s) (hQ : ∀ a s, Q a s → Q' a s) : wpAny M A t Q' E s := wpAny_mono h hQ fun _ _ x => x
end L2
namespace L2
open PySem PySem.Spec PyProof.Rows
section
variable {X : Cx}
def tVar (i : Nat) : TE := fun σ H Q => ∃ v, σ[i]? = some (some v) ∧ Q v H
def tC (v : V) : TE := fun _ H Q => Q v H
theorem pe_var {i : Nat} {x : Str} {pos : Pos} (hN : X.N[i]? = some x) (hv : Vis X.env.scope x) (hd : (x == ("__debug__" : Str)) = false := by decide) (hcd : (x == ("__classdict__" : Str)) = false := by decide) : PE X (.Name x pos) (tVar i) := by
 intro pins s σ H Q I h
 obtain ⟨v, e, h⟩ := h
 obtain ⟨m, hn, hl⟩ := I.loc
 obtain ⟨u, r, l⟩ := hl i x v hN e hv
 have fin : EP X pins σ Q u s := ⟨v, H, I, r, h⟩
 rcases l with ⟨hk, hm⟩ | ⟨hk, c, hc, hcell⟩
 ·exact wpAny_Name (wpAny_loadName_local I.ok.kind hk hn hm fin) hd
 ·rcases hk with hk | hk
  ·exact wpAny_Name (wpAny_loadName_cell I.ok.kind hk hc hcell fin) hd
  ·exact wpAny_Name (wpAny_loadName_free I.ok.kind hk hc hcell fin hcd) hd
theorem pe_int {i j pos} : PE X (.Constant (.int i) j pos) (tC (.int i)) := fun _ _ _ H _ I h => wpAny_Constant_int ⟨.int i, H, I.tok _, ⟨_, rfl⟩, h⟩
theorem pe_bl {b j pos} : PE X (.Constant (.bool b) j pos) (tC (.bl b)) := fun _ _ _ H _ I h => Constant_bool ⟨.bl b, H, I, rfl, h⟩
theorem pe_non {j pos} : PE X (.Constant .none j pos) (tC .non) := fun _ _ _ H _ I h => Constant_none ⟨.non, H, I, rfl, h⟩
theorem pe_str {x j pos} : PE X (.Constant (.str x) j pos) (tC (.str x)) := fun _ _ _ H _ I h => Calls.Constant_str ⟨.str x, H, I.tok _, ⟨_, rfl⟩, h⟩
def Gl (X : Cx) (x : Str) : Prop := X.env.kindOf x = some .globalImplicit
theorem ld_glob {E : Value → Shared → Prop} {pins : List (Addr × Obj)} {s : Shared} {σ : St} {H : Hp} {x : Str} {u : Value} {pos : Pos} {Q : Value → Shared → Prop} (I : Inv X pins σ H s) (hg : Gl X x) (hm : X.mg x = some u) (h : Q u s)
  (hd : (x == ("__debug__" : Str)) = false := by decide) : wpAny (model X.prog X.w) X.A (eval (.Name x pos) X.env) Q E s :=
 Calls.Name_function_global I.ok.kind hg (Calls.loadGlobal_global (by rw [I.ok.glob]; exact I.mod.glob.keeps I.bk) hm h) hd
theorem ld_blt {E : Value → Shared → Prop} {pins : List (Addr × Obj)} {s : Shared} {σ : St} {H : Hp} {x : Str} {u : Value} {pos : Pos} {Q : Value → Shared → Prop} (I : Inv X pins σ H s) (hg : Gl X x) (hm : X.mg x = none) (hv : bootBuiltins x = some u) (h : Q u s)
  (hn : x ≠ "__name__" := by decide) (hd : (x == ("__debug__" : Str)) = false := by decide) : wpAny (model X.prog X.w) X.A (eval (.Name x pos) X.env) Q E s := by
 obtain ⟨mb, h1, h2⟩ := I.mod.blt
 exact Calls.Name_function_global I.ok.kind hg (Calls.loadGlobal_builtin (by rw [I.ok.glob]; exact I.mod.glob.keeps I.bk) hm (by rw [I.ok.blt]; exact h1.keeps I.bk) ((h2 x hn).trans hv) h) hd
theorem pe_bltn {x : Str} {v : V} {u : Value} {pos : Pos} (hg : Gl X x) (hm : X.mg x = none) (hv : bootBuiltins x = some u) (r : RelV v u) (hn : x ≠ "__name__" := by decide) (hd : (x == ("__debug__" : Str)) = false := by decide) : PE X (.Name x pos) (tC v) :=
 fun _ _ _ H _ I h => ld_blt I hg hm hv ⟨v, H, I, r, h⟩ hn hd
variable {a b : Expr} {ta tb : TE} {pos : Pos}
variable {tA tB' : TT} {rest : List Expr}
def tAnd (t u : TT) : TT := fun σ H Q => t σ H fun c H1 => if c = true then u σ H1 Q else Q false H1
def tOr (t u : TT) : TT := fun σ H Q => t σ H fun c H1 => if c = true then Q true H1 else u σ H1 Q
def tNot (t : TT) : TT := fun σ H Q => t σ H fun c H1 => Q (!c) H1
theorem pw_and1 (ha : PT X a tA) : PW X (.BoolOp .And [a] pos) tA := by
 intro wh pins s σ H Q I h
 refine isTrue_and (thn (ha pins s σ H Q I h) fun c s1 e => ?_)
 cases c with
 | true => exact isTrue_and_nil e
 | false => exact e
theorem pw_or1 (ha : PT X a tA) : PW X (.BoolOp .Or [a] pos) tA := by
 intro wh pins s σ H Q I h
 refine isTrue_or (thn (ha pins s σ H Q I h) fun c s1 e => ?_)
 cases c with
 | false => exact isTrue_or_nil e
 | true => exact e
theorem pw_and (ha : PT X a tA) (hb : PW X (.BoolOp .And (b :: rest) pos) tB') : PW X (.BoolOp .And (a :: b :: rest) pos) (tAnd tA tB') := by
 intro wh pins s σ H Q I h
 refine isTrue_and (thn (ha pins s σ H _ I h) fun c s1 ⟨H1, I1, q1⟩ => ?_)
 cases c with
 | true => exact hb wh pins s1 σ H1 Q I1 q1
 | false => exact ⟨H1, I1, q1⟩
theorem pw_or (ha : PT X a tA) (hb : PW X (.BoolOp .Or (b :: rest) pos) tB') : PW X (.BoolOp .Or (a :: b :: rest) pos) (tOr tA tB') := by
 intro wh pins s σ H Q I h
 refine isTrue_or (thn (ha pins s σ H _ I h) fun c s1 ⟨H1, I1, q1⟩ => ?_)
 cases c with
 | true => exact ⟨H1, I1, q1⟩
 | false => exact hb wh pins s1 σ H1 Q I1 q1
theorem pt_not (ha : PT X a tA) : PT X (.UnaryOp .Not a pos) (tNot tA) := by
 intro pins s σ H Q I h
 exact isTrue_not (ha pins s σ H (fun c H1 => Q (!c) H1) I h)
def tAndV (ta tb : TE) : TE := fun σ H Q => ta σ H fun x H1 => ∃ c, x = .bl c ∧ if c = true then tb σ H1 Q else Q (.bl false) H1
def tOrV (ta tb : TE) : TE := fun σ H Q => ta σ H fun x H1 => ∃ c, x = .bl c ∧ if c = true then Q (.bl true) H1 else tb σ H1 Q
def tNotV (ta : TE) : TE := fun σ H Q => ta σ H fun x H1 => ∃ c, x = .bl c ∧ Q (.bl (!c)) H1
theorem pe_one {op} {t : TE} (h : PE X a t) : PE X (.BoolOp op [a] pos) t := fun pins s σ H Q I hw => BoolOp_one (h pins s σ H Q I hw)
theorem pe_and (ha : PE X a ta) (hb : PE X (.BoolOp .And (b :: rest) pos) tb) : PE X (.BoolOp .And (a :: b :: rest) pos) (tAndV ta tb) := by
 intro pins s σ H Q I h
 refine BoolOp_and (thn (ha pins s σ H _ I h) fun v s1 ⟨x, H1, I1, r1, q1⟩ => ?_)
 obtain ⟨c, rfl, q1⟩ := q1
 cases r1
 refine wpAny_truthy_bool ?_
 cases c with
 | true => exact hb pins s1 σ H1 Q I1 q1
 | false => exact ⟨.bl false, H1, I1, rfl, q1⟩
theorem pe_or (ha : PE X a ta) (hb : PE X (.BoolOp .Or (b :: rest) pos) tb) : PE X (.BoolOp .Or (a :: b :: rest) pos) (tOrV ta tb) := by
 intro pins s σ H Q I h
 refine BoolOp_or (thn (ha pins s σ H _ I h) fun v s1 ⟨x, H1, I1, r1, q1⟩ => ?_)
 obtain ⟨c, rfl, q1⟩ := q1
 cases r1
 refine wpAny_truthy_bool ?_
 cases c with
 | false => exact hb pins s1 σ H1 Q I1 q1
 | true => exact ⟨.bl true, H1, I1, rfl, q1⟩
theorem pe_not (ha : PE X a ta) : PE X (.UnaryOp .Not a pos) (tNotV ta) := by
 intro pins s σ H Q I h
 refine UnaryOp_ (thn (ha pins s σ H _ I h) fun v s1 ⟨x, H1, I1, r1, q1⟩ => ?_)
 obtain ⟨c, rfl, q1⟩ := q1
 cases r1
 exact not_of (wpAny_truthy_bool ⟨.bl (!c), H1, I1, rfl, q1⟩)
def tIf (t : TT) (ta tb : TE) : TE := fun σ H Q => t σ H fun c H1 => if c = true then ta σ H1 Q else tb σ H1 Q
theorem pe_ifExp {c : Expr} (hc : PT X c tA) (ha : PE X a ta) (hb : PE X b tb) : PE X (.IfExp c a b pos) (tIf tA ta tb) := by
 intro pins s σ H Q I h
 refine wpAny_IfExp (thn (hc pins s σ H _ I h) fun d s1 ⟨H1, I1, q1⟩ => ?_)
 cases d with
 | true => exact ha pins s1 σ H1 Q I1 q1
 | false => exact hb pins s1 σ H1 Q I1 q1
end
end L2
namespace L2
open PySem PySem.Spec PyProof.Rows
def SqL (K : PySem.W.Frag) (H : Hp) (a : Addr) (xs : List V) : Prop :=
 Rd H a (.lst xs) ∨
  ∃ (o : Obj) (its : Array Value) (n : Nat), K.lookup a = some o ∧ o.cls = .type "list" ∧ o.dict = none ∧ o.data = .seq its n ∧ its.size ≤ sizeLine ∧ Vals xs its.toList
def SqT (K : PySem.W.Frag) (H : Hp) (a : Addr) (xs : List V) : Prop :=
 Rd H a (.tup xs) ∨
  ∃ (o : Obj) (its : Array Value) (n : Nat), K.lookup a = some o ∧ o.cls = .type "tuple" ∧ o.data = .seq its n ∧ its.size ≤ sizeLine ∧ Vals xs its.toList
def absV : Value → Option V
 | .none => some .non
 | .bool b => some (.bl b)
 | .int i _ => some (.int i)
 | .str x _ => some (.str x)
 | .bytes b _ => some (.byt b)
 | .float b _ => some (.flt b)
 | .ref a => some (.ref a)
 | .type n => some (.ty n)
 | _ => none
theorem RelV.abs {x : V} {u : Value} (r : RelV x u) : absV u = some x := by
 cases x with
 | non => cases r; rfl
 | bl _ => cases r; rfl
 | int _ => obtain ⟨t, rfl⟩ := r; rfl
 | str _ => obtain ⟨t, rfl⟩ := r; rfl
 | byt _ => obtain ⟨t, rfl⟩ := r; rfl
 | flt _ => obtain ⟨t, rfl⟩ := r; rfl
 | ref _ => cases r; rfl
 | ty _ => cases r; rfl
theorem RelV.inj {x y : V} {u : Value} (r : RelV x u) (q : RelV y u) : x = y := Option.some.inj (r.abs.symm.trans q.abs)
theorem Vals.inj : ∀ {xs ys : List V} {us : List Value}, Vals xs us → Vals ys us → xs = ys
 | _, _, _, .nil, .nil => rfl
 | _, _, _, .cons r t, .cons r' t' => by rw [r.inj r', Vals.inj t t']
section
variable {X : Cx} {pins : List (Addr × Obj)} {σ : St} {H : Hp} {s : Shared} {a : Addr} {xs ys : List V}
theorem Inv.list (I : Inv X pins σ H s) (h : SqL X.K H a xs) : ∃ its : List Value, Vals xs its ∧ PlainL s.heap a its.toArray ∧ xs.length ≤ sizeLine := by
 rcases h with h | ⟨o, its, n, hk, hc, hd, hs, hz, r⟩
 ·obtain ⟨z, its, n, r, e⟩ := h.ok I.hok
  exact ⟨its, r, ⟨_, n, e, rfl, rfl, rfl⟩, z⟩
 ·refine ⟨its.toList, r, ⟨o, n, I.kIn a o hk, hc, hd, by simpa using hs⟩, ?_⟩
  have e := r.length
  simp only [Array.length_toList] at e
  omega
theorem Inv.tuple (I : Inv X pins σ H s) (h : SqT X.K H a xs) : ∃ its : List Value, Vals xs its ∧ IsTup s.heap a its.toArray ∧ xs.length ≤ sizeLine := by
 rcases h with h | ⟨o, its, n, hk, hc, hs, hz, r⟩
 ·obtain ⟨z, its, r, p⟩ := h.ok I.hok
  exact ⟨its, r, p, z⟩
 ·refine ⟨its.toList, r, ⟨o, I.kIn a o hk, hc, n, by simpa using hs⟩, ?_⟩
  have e := r.length
  simp only [Array.length_toList] at e
  omega
theorem Inv.list_inj (I : Inv X pins σ H s) (h : SqL X.K H a xs) (h' : SqL X.K H a ys) : xs = ys := by
 obtain ⟨its, r, ⟨o, n, e, _, _, d⟩, _⟩ := I.list h
 obtain ⟨its', r', ⟨o', n', e', _, _, d'⟩, _⟩ := I.list h'
 rw [e] at e'; cases e'
 rw [d] at d'
 injection d' with d1 _
 have : its = its' := by simpa using congrArg Array.toList d1
 subst this
 exact r.inj r'
theorem Inv.tuple_inj (I : Inv X pins σ H s) (h : SqT X.K H a xs) (h' : SqT X.K H a ys) : xs = ys := by
 obtain ⟨its, r, ⟨o, e, _, n, d⟩, _⟩ := I.tuple h
 obtain ⟨its', r', ⟨o', e', _, n', d'⟩, _⟩ := I.tuple h'
 rw [e] at e'; cases e'
 rw [d] at d'
 injection d' with d1 _
 have : its = its' := by simpa using congrArg Array.toList d1
 subst this
 exact r.inj r'
end
abbrev Cx.wish (X : Cx) (E : Value → Shared → Prop) : Cx := { X with xe := E }
abbrev Cx.nox (X : Cx) : Cx := X.wish fun _ _ => False
theorem Cx.Ok.wish {X : Cx} (ok : X.Ok) (E : Value → Shared → Prop) : (X.wish E).Ok :=
 ⟨ok.mod, ok.kind, ok.glob, ok.blt, ok.above, ok.inj, ok.has, ok.cab, ok.hd, ok.frames, ok.stk, ok.exf, ok.bs, ok.bsz, ok.noex, ok.exfs, ok.funs, ok.frf⟩
theorem Cx.Ok.unwish {X : Cx} {E : Value → Shared → Prop} (ok : (X.wish E).Ok) : X.Ok :=
 ⟨ok.mod, ok.kind, ok.glob, ok.blt, ok.above, ok.inj, ok.has, ok.cab, ok.hd, ok.frames, ok.stk, ok.exf, ok.bs, ok.bsz, ok.noex, ok.exfs, ok.funs, ok.frf⟩
section
variable {X : Cx} {pins : List (Addr × Obj)} {σ : St} {H : Hp} {s : Shared} {E : Value → Shared → Prop}
theorem Inv.wish (I : Inv X pins σ H s) (E : Value → Shared → Prop) : Inv (X.wish E) pins σ H s := ⟨I.ok.wish E, I.os, I.bare, I.base, I.loc, I.cell, I.free, I.freeC, I.pin, I.hok, I.len⟩
theorem Inv.unwish (I : Inv (X.wish E) pins σ H s) : Inv X pins σ H s := ⟨I.ok.unwish, I.os, I.bare, I.base, I.loc, I.cell, I.free, I.freeC, I.pin, I.hok, I.len⟩
theorem SP.unwish {D : Ends} {f : Flow} {s' : Shared} (h : SP (X.wish E) pins D f s') : SP X pins D f s' := by
 cases f with
 | next => obtain ⟨σ', H', I, q⟩ := h; exact ⟨σ', H', I.unwish, q⟩
 | brk => obtain ⟨σ', H', I, q⟩ := h; exact ⟨σ', H', I.unwish, q⟩
 | cont => obtain ⟨σ', H', I, q⟩ := h; exact ⟨σ', H', I.unwish, q⟩
 | ret u => obtain ⟨v, σ', H', I, r, q⟩ := h; exact ⟨v, σ', H', I.unwish, r, q⟩
end
section
variable {X : Cx} {st : Stmt} {rest : List Stmt} {t u : TS} {e : Expr} {te : TE} {pos : Pos}
def tNext : TS := fun D σ H => D.nx σ H
def tSeq (t u : TS) : TS := fun D σ H => t { D with nx := u D } σ H
theorem pss_nil : PSs X [] tNext := fun _ _ σ H _ I h => wpAny_execs_nil ⟨σ, H, I, h⟩
theorem pss_cons (h1 : PS X st t) (h2 : PSs X rest u) : PSs X (st :: rest) (tSeq t u) := by
 intro pins s σ H D I h
 refine wpAny_execs_cons (thn (h1 pins s σ H { D with nx := u D } I h) fun f s1 q => ?_)
 cases f with
 | next =>
  obtain ⟨σ', H', I', q⟩ := q
  exact h2 pins s1 σ' H' D I' q
 | ret v => exact q
 | brk => exact q
 | cont => exact q
def tBreak : TS := fun D σ H => D.bk σ H
def tCont : TS := fun D σ H => D.ct σ H
theorem ps_pass : PS X (.Pass pos) tNext := fun _ _ σ H _ I h => wpAny_Pass ⟨σ, H, I, h⟩
theorem ps_break : PS X (.Break pos) tBreak := fun _ _ σ H _ I h => wpAny_Break ⟨σ, H, I, h⟩
theorem ps_continue : PS X (.Continue pos) tCont := fun _ _ σ H _ I h => wpAny_Continue ⟨σ, H, I, h⟩
theorem Inv.quiet {pins : List (Addr × Obj)} {σ : St} {H : Hp} {s : Shared} (I : Inv X pins σ H s) : interactive X.env = false := by simp [interactive, I.ok.kind]
def tDrop (te : TE) : TS := fun D σ H => te σ H fun _ H1 => D.nx σ H1
theorem ps_expr (he : PE X e te) (hs : swapsWith e none pos.line X.env = pure false := by rfl) : PS X (.Expr e pos) (tDrop te) := by
 intro pins s σ H D I h
 exact wpAny_Expr_any (thn (he pins s σ H _ I h) fun v s1 ⟨x, H1, I1, r1, q1⟩ => ⟨σ, H1, I1, q1⟩) I.quiet hs
def tRet (te : TE) : TS := fun D σ H => te σ H D.rt
theorem ps_ret (he : PE X e te) : PS X (.Return (some e) pos) (tRet te) := by
 intro pins s σ H D I h
 exact wpAny_Return_some (thn (he pins s σ H _ I h) fun v s1 ⟨x, H1, I1, r1, q1⟩ => ⟨x, σ, H1, I1, r1, q1⟩)
def tRetN : TS := fun D _ H => D.rt .non H
theorem ps_retN : PS X (.Return none pos) tRetN := fun _ _ σ H _ I h => wpAny_Return_none ⟨.non, σ, H, I, rfl, h⟩
def tIfS (c : TT) (t u : TS) : TS := fun D σ H => c σ H fun b H1 => if b = true then t D σ H1 else u D σ H1
theorem ps_if {c : Expr} {a b : List Stmt} {tc : TT} (hc : PT X c tc) (ha : PSs X a t) (hb : PSs X b u) : PS X (.If c a b pos) (tIfS tc t u) := by
 intro pins s σ H D I h
 refine wpAny_If (thn (hc pins s σ H _ I h) fun d s1 ⟨H1, I1, q1⟩ => ?_)
 cases d with
 | true => exact ha pins s1 σ H1 D I1 q1
 | false => exact hb pins s1 σ H1 D I1 q1
end
abbrev TG := V → St → Hp → (St → Hp → Prop) → Prop
abbrev TGs := List V → St → Hp → (St → Hp → Prop) → Prop
def PG (X : Cx) (target : Expr) (t : TG) : Prop :=
 ∀ (pins : List (Addr × Obj)) (s : Shared) (σ : St) (H : Hp) (v : V) (u : Value) (Q : St → Hp → Prop), Inv X pins σ H s → RelV v u → t v σ H Q →
  wpAny (model X.prog X.w) X.A (assign target X.env u) (fun _ s' => ∃ σ' H', Inv X pins σ' H' s' ∧ Q σ' H') X.xe s
def PGs (X : Cx) (ts : List Expr) (t : TGs) : Prop :=
 ∀ (pins : List (Addr × Obj)) (s : Shared) (σ : St) (H : Hp) (vs : List V) (us : List Value) (Q : St → Hp → Prop), Inv X pins σ H s → Vals vs us → t vs σ H Q →
  wpAny (model X.prog X.w) X.A (assignInOrder ((assignEach ts X.env).map (·.2)) us) (fun _ s' => ∃ σ' H', Inv X pins σ' H' s' ∧ Q σ' H') X.xe s
abbrev TSet := V → V → V → Hp → (Hp → Prop) → Prop
def PSet (X : Cx) (t : TSet) : Prop :=
 ∀ (pins : List (Addr × Obj)) (s : Shared) (σ : St) (H : Hp) (o i v : V) (ov iv u : Value) (Q : Hp → Prop), Inv X pins σ H s → RelV o ov → RelV i iv → RelV v u → t o i v H Q →
  wpAny (model X.prog X.w) X.A (setItem ov iv u) (fun _ s' => ∃ H', Inv X pins σ H' s' ∧ Q H') X.xe s
section
variable {X : Cx} {pos : Pos}
def gName (i : Nat) : TG := fun v σ H Q => Q (σ.set i (some v)) H
theorem pg_name {i : Nat} {x : Str} (hN : X.N.Nodup) (hi : X.N[i]? = some x) (hx : Loc X.env.scope x) (hf : X.fn x = true ∨ X.env.scope.names.lookup x = some .local := by first | exact .inl rfl | exact .inr rfl | assumption) : PG X (.Name x pos) (gName i) := by
 intro pins s σ H v u Q I r h
 exact wpAny_assign_Name (store_ok I hN hi hx r (fun s' I' => ⟨_, H, I', h⟩) hf)
def gNil : TGs := fun vs σ H Q => vs = [] ∧ Q σ H
def gCons (t : TG) (u : TGs) : TGs := fun vs σ H Q => ∃ v r, vs = v :: r ∧ t v σ H fun σ' H' => u r σ' H' Q
theorem pgs_nil : PGs X [] gNil := by
 intro pins s σ H vs us Q I r h
 obtain ⟨e, h⟩ := h
 subst e
 cases r
 exact assignInOrder_nil ⟨σ, H, I, h⟩
theorem pgs_cons {e : Expr} {es : List Expr} {t : TG} {u : TGs} (h1 : PG X e t) (h2 : PGs X es u)
  (hs : (assignEach (e :: es) X.env).map (·.2) = assign e X.env :: (assignEach es X.env).map (·.2) := by rfl) : PGs X (e :: es) (gCons t u) := by
 intro pins s σ H vs us Q I r h
 obtain ⟨v, vr, e1, h⟩ := h
 subst e1
 cases r with
 | cons r rr =>
  rw [hs]
  refine assignInOrder_cons (thn (h1 pins s σ H _ _ _ I r h) fun _ s1 ⟨σ1, H1, I1, q1⟩ => ?_)
  exact h2 pins s1 σ1 H1 _ _ Q I1 rr q1
def gTup (K : PySem.W.Frag) (n : Nat) (t : TGs) : TG := fun v σ H Q => ∃ a xs, v = .ref a ∧ SqT K H a xs ∧ xs.length = n ∧ t xs σ H Q
theorem pg_tup {es : List Expr} {k : Nat} {t : TGs} {n : Nat} (hc : X.calm = true) (h : PGs X es t)
  (hn : (assignEach es X.env).length = n := by rfl) (hst : (assignEach es X.env).findIdx? (·.1) = none := by rfl) : PG X (.Tuple es k pos) (gTup X.K n t) := by
 intro pins s σ H v u Q I r hw
 obtain ⟨a, xs, e1, hq, hl, hw⟩ := hw
 subst e1
 cases r
 obtain ⟨its, rv, ht, hz⟩ := I.tuple hq
 refine assign_Tuple_tuple (I.ok.hd hc) ht (by simp [hn, ← hl, rv.length]) hst fun h' hx => ?_
 have I1 : Inv X pins σ H { s with heap := h' } := I.kept (t' := s.toks) fun b o e => hx b o (Nat.ne_of_lt (Heap.lt_size e)) e
 exact h pins _ σ H xs _ Q I1 (by simpa using rv) hw
def gSub (to ti : TE) (t : TSet) : TG := fun v σ H Q => to σ H fun o H1 => ti σ H1 fun i H2 => t o i v H2 fun H3 => Q σ H3
theorem pg_sub {o i : Expr} {to ti : TE} {t : TSet} (ho : PE X o to) (hi : PE X i ti) (hs : PSet X t)
  (ha : ∀ v, assign (.Subscript o i pos) X.env v = (do
   let ov ← holding [v] (eval o X.env)
   let iv ← holding [v, ov] (eval i X.env)
   standAt pos
   holding [v, ov, iv] (setItem ov iv v)
   release [v, ov, iv] []) := by intro _; rfl) : PG X (.Subscript o i pos) (gSub to ti t) := by
 intro pins s σ H v u Q I r h
 rw [ha]
 refine wpAny_bind (wpAny_holding (thn (ho pins s σ H _ I h) fun ov s1 ⟨x, H1, I1, r1, q1⟩ => ?_))
 refine wpAny_bind (wpAny_holding (thn (hi pins s1 σ H1 _ I1 q1) fun iv s2 ⟨y, H2, I2, r2, q2⟩ => ?_))
 refine wpAny_bind (wpAny_standAt (wpAny_bind (wpAny_holding (thn (hs pins s2 σ H2 x y v ov iv u _ I2 r1 r2 r q2) fun _ s3 ⟨H3, I3, q3⟩ => ?_))))
 exact wpAny_release ⟨σ, H3, I3, q3⟩
def tAsg (te : TE) (g : TG) : TS := fun D σ H => te σ H fun x H1 => g x σ H1 D.nx
theorem ps_asg {tg e : Expr} {te : TE} {g : TG} (he : PE X e te) (hg : PG X tg g) (hs : swapsWithSole [tg] e pos.line X.env = pure false := by rfl) (hw : swappedStores [tg] e X.env = pure none := by rfl)
  (h1 : (assignEach [tg] X.env).map (·.2) = [assign tg X.env] := by rfl) : PS X (.Assign [tg] e pos) (tAsg te g) := by
 intro pins s σ H D I h
 refine wpAny_Assign_stores (thn (he pins s σ H _ I h) fun v s1 ⟨x, H1, I1, r1, q1⟩ => ?_) hs hw
 rw [h1]
 exact thn (hg pins s1 σ H1 x v _ I1 r1 q1) fun _ s2 q => q
theorem ps_set {i : Nat} {x : Str} {e : Expr} {te : TE} {pos' : Pos} (hN : X.N.Nodup) (hi : X.N[i]? = some x) (hx : Loc X.env.scope x) (he : PE X e te) (hs : swapsWith e (some (.Name x pos')) pos.line X.env = pure false := by rfl) (hf : X.fn x = true ∨ X.env.scope.names.lookup x = some .local := by first | exact .inl rfl | exact .inr rfl | assumption) :
  PS X (.Assign [.Name x pos'] e pos) (tAsg te (gName i)) := by
 intro pins s σ H D I h
 refine wpAny_Assign_Name (thn (he pins s σ H _ I h) fun v s1 ⟨y, H1, I1, r1, q1⟩ => ?_) hs
 exact store_ok I1 hN hi hx r1 (fun s2 I2 => ⟨_, H1, I2, q1⟩) hf
end
section
variable {X : Cx} {pos : Pos}
end
structure It where
 go : Nat → Hp → Prop
 yld : Nat → Hp → V → Hp → Prop
 stop : Nat → Hp → Prop
def FpOk (X : Cx) (pins : List (Addr × Obj)) (H : Hp) (b : Addr) : Prop :=
 H b = none ∧ b ≠ X.env.locals ∧ b ∉ X.fs ∧ (b ∈ X.ex ∨ X.s₀.heap.objs.size ≤ b) ∧ (∀ x c, X.env.cells.lookup x = some c → c ≠ b) ∧ ∀ p ∈ X.pn ++ pins, p.1 ≠ b
theorem Inv.fpOk {X : Cx} {pins : List (Addr × Obj)} {σ : St} {H H' : Hp} {s : Shared} {b : Addr} (I : Inv X pins σ H s) (hb : s.heap.objs.size ≤ b) (hn : H' b = none) : FpOk X pins H' b := by
 refine ⟨hn, Nat.ne_of_gt (Nat.lt_of_lt_of_le I.lt hb), I.nofs hb, .inr (Nat.le_trans I.sz hb), fun x c e z => ?_, fun p hp z => ?_⟩
 ·obtain ⟨v, q⟩ := I.cell x c e
  exact absurd (Nat.lt_of_lt_of_le q.lt (by rw [z]; exact hb)) (Nat.lt_irrefl _)
 ·exact absurd (Nat.lt_of_lt_of_le (Heap.lt_size (I.pin p hp).1) (by rw [z]; exact hb)) (Nat.lt_irrefl _)
structure Turn (P : Program) (w : World) (K : PySem.W.Frag) (tg : Expr) (J : It) (fp : List Addr) (it : Addr) (tn : Nat → Heap → Prop) : Prop where
 mem : it ∈ fp
 obj : ∀ i h, tn i h → ∀ b ∈ fp, ∃ o, h.get? b = some o ∧ ∀ v, o.data ≠ .cell v
 keep : ∀ i h h', tn i h → (∀ b ∈ fp, ∀ o, h.get? b = some o → h'.get? b = some o) → tn i h'
 item : ∀ (X : Cx), X.prog = P → X.w = w → X.K = K → X.calm = true → ∀ (i : Nat) (pins : List (Addr × Obj)) (s : Shared) (σ : St) (H : Hp) (E : Value → Shared → Prop), Inv X pins σ H s → (∀ b ∈ fp, FpOk X pins H b) → tn i s.heap → J.go i H →
  wpAny (model P w) X.A (pyNext (.ref it)) (fun r s1 => ∃ u, r = some u ∧
   wpAny (model P w) X.A (letOwnedTupleGo tg (.ref it) u) (fun _ s2 => ∃ x H', Inv X pins σ H' s2 ∧ RelV x u ∧ J.yld i H x H' ∧ tn (i + 1) s2.heap ∧ ∀ b ∈ fp, H' b = none) E s1) E s
 done : ∀ (X : Cx), X.prog = P → X.w = w → X.K = K → X.calm = true → ∀ (i : Nat) (pins : List (Addr × Obj)) (s : Shared) (σ : St) (H : Hp) (E : Value → Shared → Prop), Inv X pins σ H s → (∀ b ∈ fp, FpOk X pins H b) → tn i s.heap → J.stop i H →
  wpAny (model P w) X.A (pyNext (.ref it)) (fun r s1 => r = none ∧ Inv X pins σ H s1) E s
 self : ∀ (A : Around) (i : Nat) (s : Shared) (Q : Value → Shared → Prop) (E : Value → Shared → Prop), tn i s.heap → Q (.ref it) s → wpAny (model P w) A (pyIter (.ref it)) Q E s
abbrev TI := St → Hp → (It → Hp → Prop) → Prop
def PIE (X : Cx) (pins : List (Addr × Obj)) (σ : St) (tg : Expr) (R : It → Hp → Prop) (itv : Value) (s2 : Shared) : Prop :=
 ∃ (it : Addr) (fp : List Addr) (tn : Nat → Heap → Prop) (J : It) (H' : Hp), itv = .ref it ∧ Inv X pins σ H' s2 ∧ Turn X.prog X.w X.K tg J fp it tn ∧ tn 0 s2.heap ∧ (∀ b ∈ fp, FpOk X pins H' b) ∧ R J H'
def PI (X : Cx) (tg iter : Expr) (wi : TI) : Prop :=
 ∀ (pins : List (Addr × Obj)) (s : Shared) (σ : St) (H : Hp) (R : It → Hp → Prop), Inv X pins σ H s → wi σ H R →
  wpAny (model X.prog X.w) X.A (eval iter X.env) (fun v s1 => wpAny (model X.prog X.w) X.A (pyIter v) (PIE X pins σ tg R) X.xe s1) X.xe s
theorem go_of {M : Model} {A : Around} {E : Value → Shared → Prop} {s : Shared} {tg : Expr} {it : Addr} {u : Value} {o : Obj} {n : String} {vs : Array Value} {Q : Unit → Shared → Prop} (ho : s.heap.get? it = some o) (hc : o.cls = .type n) (hd : o.data = .fields vs)
  (hn : ["enumerate", "zip", "dict_itemiterator", "dict_reverseitemiterator", "odict_iterator", "itertools.zip_longest", "itertools.pairwise"].contains n = false) (hQ : Q () s) : wpAny M A (letOwnedTupleGo tg (.ref it) u) Q E s := by
 unfold letOwnedTupleGo
 cases tg <;> first
  | exact wpAny_pure hQ
  | (cases u <;> first
    | exact wpAny_pure hQ
    | (refine wpAny_bind (wpAny_load ho ?_)
       rw [hc, hd]
       show wpAny M A (if (["enumerate", "zip", "dict_itemiterator", "dict_reverseitemiterator", "odict_iterator", "itertools.zip_longest", "itertools.pairwise"].contains n && vs[0]? == some (rawInt _)) = true then _ else _) Q E s
       rw [if_neg (by intro h; rw [hn, Bool.false_and] at h; cases h)]
       exact wpAny_pure hQ))
def Itl (K : PySem.W.Frag) (a : Addr) : It :=
 ⟨fun i H => ∃ xs x, SqL K H a xs ∧ xs[i]? = some x, fun i H x H' => H' = H ∧ ∀ xs, SqL K H a xs → xs[i]? = some x, fun i H => ∃ xs, SqL K H a xs ∧ xs.length ≤ i⟩
def Itt (K : PySem.W.Frag) (a : Addr) : It :=
 ⟨fun i H => ∃ xs x, SqT K H a xs ∧ xs[i]? = some x, fun i H x H' => H' = H ∧ ∀ xs, SqT K H a xs → xs[i]? = some x, fun i H => ∃ xs, SqT K H a xs ∧ xs.length ≤ i⟩
def Itr (lo : Int) (n : Nat) : It := ⟨fun i _ => i < n, fun i H x H' => H' = H ∧ x = .int (lo + i), fun i _ => n ≤ i⟩
theorem turn_list {P : Program} {w : World} {K : PySem.W.Frag} {tg : Expr} (a it : Addr) : Turn P w K tg (Itl K a) [it] it (fun i h => h.IsListIter it a i) where
 mem := by simp
 obj := fun i h st b hb => by
  have e : b = it := by simpa using hb
  subst e
  obtain ⟨o, e, c, d⟩ := st
  exact ⟨o, e, fun v z => by rw [d] at z; cases z⟩
 keep := fun i h h' st k => st.at fun o e => k it (by simp) o e
 item := by
  intro X hP hw hK hc i pins s σ H E I hf st hg
  subst hP hw hK
  obtain ⟨xs, x, hq, hx⟩ := hg
  obtain ⟨its, rv, p, hz⟩ := I.list hq
  obtain ⟨u, hu, ru⟩ := rv.get hx
  obtain ⟨f0, f1, f2, f3, f4, f5⟩ := hf it (by simp)
  refine wpAny_pyNext_list_item st p.isList (x := u) (by simpa using hu) fun h' st' sb => ?_
  have I1 : Inv X pins σ H { s with heap := h' } := I.turned (t' := s.toks) (fun b o hb e => (sb.2 b hb).trans e) f0 f1 f3 f4 f5
  obtain ⟨o, e, c, d⟩ := id st'
  exact ⟨u, rfl, go_of (s := { s with heap := h' }) e c d (by decide) ⟨x, H, I1, ru, ⟨rfl, fun ys hy => by rw [I.list_inj hy hq]; exact hx⟩, st', fun b hb => (hf b hb).1⟩⟩
 done := by
  intro X hP hw hK hc i pins s σ H E I hf st hg
  subst hP hw hK
  obtain ⟨xs, hq, hx⟩ := hg
  obtain ⟨its, rv, p, hz⟩ := I.list hq
  obtain ⟨f0, f1, f2, f3, f4, f5⟩ := hf it (by simp)
  have hl := rv.length
  exact wpAny_pyNext_list_end (I.ok.hd hc) st p.isList (by simp; omega) fun h' eb => ⟨rfl, I.turned (t' := s.toks) (fun b o hb e => eb b o hb e) f0 f1 f3 f4 f5⟩
 self := fun _ _ _ _ _ st h => wpAny_pyIter_listiter st h
theorem turn_tuple {P : Program} {w : World} {K : PySem.W.Frag} {tg : Expr} (a it : Addr) : Turn P w K tg (Itt K a) [it] it (fun i h => h.IsTupleIter it a i) where
 mem := by simp
 obj := fun i h st b hb => by
  have e : b = it := by simpa using hb
  subst e
  obtain ⟨o, e, c, d⟩ := st
  exact ⟨o, e, fun v z => by rw [d] at z; cases z⟩
 keep := fun i h h' st k => st.at fun o e => k it (by simp) o e
 item := by
  intro X hP hw hK hc i pins s σ H E I hf st hg
  subst hP hw hK
  obtain ⟨xs, x, hq, hx⟩ := hg
  obtain ⟨its, rv, p, hz⟩ := I.tuple hq
  obtain ⟨u, hu, ru⟩ := rv.get hx
  obtain ⟨f0, f1, f2, f3, f4, f5⟩ := hf it (by simp)
  refine wpAny_pyNext_tuple_item st (show s.heap.IsTuple a its.toArray from p) (x := u) (by simpa using hu) fun h' st' sb => ?_
  have I1 : Inv X pins σ H { s with heap := h' } := I.turned (t' := s.toks) (fun b o hb e => (sb.2 b hb).trans e) f0 f1 f3 f4 f5
  obtain ⟨o, e, c, d⟩ := id st'
  exact ⟨u, rfl, go_of (s := { s with heap := h' }) e c d (by decide) ⟨x, H, I1, ru, ⟨rfl, fun ys hy => by rw [I.tuple_inj hy hq]; exact hx⟩, st', fun b hb => (hf b hb).1⟩⟩
 done := by
  intro X hP hw hK hc i pins s σ H E I hf st hg
  subst hP hw hK
  obtain ⟨xs, hq, hx⟩ := hg
  obtain ⟨its, rv, p, hz⟩ := I.tuple hq
  obtain ⟨f0, f1, f2, f3, f4, f5⟩ := hf it (by simp)
  have hl := rv.length
  exact wpAny_pyNext_tuple_end (I.ok.hd hc) st (show s.heap.IsTuple a its.toArray from p) (by simp; omega) fun h' eb => ⟨rfl, I.turned (t' := s.toks) (fun b o hb e => eb b o hb e) f0 f1 f3 f4 f5⟩
 self := fun _ _ _ _ _ st h => wpAny_pyIter_tupleiter st h
theorem turn_range {P : Program} {w : World} {K : PySem.W.Frag} {tg : Expr} (it : Addr) (lo : Int) (n : Nat) : Turn P w K tg (Itr lo n) [it] it (fun i h => IsRangeIter h it (lo + (i : Nat) * 1) ((n : Int) - (i : Nat)) 1) where
 mem := by simp
 obj := fun i h st b hb => by
  have e : b = it := by simpa using hb
  subst e
  exact ⟨_, st, fun v z => by
   have z' : Data.fields _ = Data.cell v := z
   cases z'⟩
 keep := fun i h h' st k => k it (by simp) _ st
 item := by
  intro X hP hw hK hc i pins s σ H E I hf st hg
  subst hP hw hK
  obtain ⟨f0, f1, f2, f3, f4, f5⟩ := hf it (by simp)
  have W := Walks.range (prog := X.prog) (w := X.w) (I.ok.hd hc) it lo 1 n
  refine W.item i s _ _ hg st fun v h' tk hv st' kk => ?_
  obtain ⟨t, rfl⟩ := hv
  have I1 : Inv X pins σ H { s with heap := h', toks := tk } := I.turned (fun b o hb e => kk b o (by simpa using hb) e) f0 f1 f3 f4 f5
  refine ⟨_, rfl, go_of (s := { s with heap := h', toks := tk }) (n := "range_iterator") st' rfl rfl (by decide) ⟨.int (lo + i), H, I1, ⟨t, ?_⟩, ⟨rfl, rfl⟩, st', fun b hb => (hf b hb).1⟩⟩
  rw [Int.mul_one]
 done := by
  intro X hP hw hK hc i pins s σ H E I hf st hg
  subst hP hw hK
  obtain ⟨f0, f1, f2, f3, f4, f5⟩ := hf it (by simp)
  exact wpAny_pyNext_range_end (I.ok.hd hc) st (by have : n ≤ i := hg; omega) fun h' eb => ⟨rfl, I.turned (t' := s.toks) (fun b o hb e => eb b o hb e) f0 f1 f3 f4 f5⟩
 self := fun _ _ _ _ _ st h => wpAny_pyIter_rangeiter st h
end L2
namespace L2
open PySem PySem.Spec PyProof.Rows
section
variable {X : Cx} {tg : Expr}
theorem range_it {pins : List (Addr × Obj)} {σ : St} {H : Hp} {s : Shared} {R : It → Hp → Prop} {E : Value → Shared → Prop} {lo hi : Int} {t u v : Tok} {tk : Nat} (I : Inv X pins σ H s) (h1 : -(2 ^ 62) ≤ lo) (h2 : lo < 2 ^ 62) (h3 : -(2 ^ 62) ≤ hi) (h4 : hi < 2 ^ 62)
  (q : R (Itr lo (hi - lo).toNat) H) : wpAny (model X.prog X.w) X.A (pyIter (.ref s.heap.objs.size)) (PIE X pins σ tg R) E { s with heap := s.heap.push { cls := .type "range", data := .fields #[.int lo t, .int hi u, .int 1 v] }, toks := tk } := by
 refine wpAny_pyIter_range (IsRange.new ..) (small_one h1 h2 h3 h4) ?_
 have I1 : Inv X pins σ H { s with heap := s.heap.push { cls := .type "range", data := .fields #[.int lo t, .int hi u, .int 1 v] }, toks := tk } := I.kept fun b o e => Heap.get?_push_of_some _ e
 refine ⟨(s.heap.push { cls := .type "range", data := .fields #[.int lo t, .int hi u, .int 1 v] }).objs.size, [(s.heap.push { cls := .type "range", data := .fields #[.int lo t, .int hi u, .int 1 v] }).objs.size], _, _, H, rfl,
  I1.kept (t' := tk) fun b o e => Heap.get?_push_of_some _ e, turn_range _ lo (hi - lo).toNat, ?_, fun b hb => ?_, q⟩
 ·have e1 : lo + ((0 : Nat) : Int) * 1 = lo := by simp
  have e2 : (((hi - lo).toNat : Nat) : Int) - ((0 : Nat) : Int) = Builtin.Range.rangeSize lo hi 1 := by rw [rangeSize_one]; split <;> omega
  show IsRangeIter _ _ (lo + ((0 : Nat) : Int) * 1) ((((hi - lo).toNat : Nat) : Int) - ((0 : Nat) : Int)) 1
  rw [e1, e2]
  exact Heap.get?_push_size _ rfl
 ·have e : b = (s.heap.push { cls := .type "range", data := .fields #[.int lo t, .int hi u, .int 1 v] }).objs.size := by simpa using hb
  subst e
  exact I1.fpOk (Nat.le_refl _) (I1.hok.fresh (Nat.le_refl _))
def iRng1 (ta : TA) : TI := fun σ H R => ta σ H fun vs H1 => ∃ j : Int, vs = [.int j] ∧ -(2 ^ 62) ≤ j ∧ j < 2 ^ 62 ∧ R (Itr 0 j.toNat) H1
def iRng2 (ta : TA) : TI := fun σ H R => ta σ H fun vs H1 => ∃ i j : Int, vs = [.int i, .int j] ∧ (-(2 ^ 62) ≤ i ∧ i < 2 ^ 62 ∧ -(2 ^ 62) ≤ j ∧ j < 2 ^ 62) ∧ R (Itr i (j - i).toNat) H1
theorem pi_range1 {a : Expr} {ta : TA} {p pos : Pos} (hg : Gl X "range") (hm : X.mg "range" = none) (ha : PA X [a] ta) (hs : starEach [a] X.env = [(false, eval a X.env)] := by rfl) : PI X tg (.Call (.Name "range" p) [a] [] pos) (iRng1 ta) := by
 intro pins s σ H R I h
 refine Call_ (ld_blt I hg hm boot_range (PyProof.Rows.callWith_type1 (thn (ha pos pins s σ H _ I h) fun us s1 ⟨vs, H1, I1, r1, q1⟩ => ?_) hs rfl))
 obtain ⟨j, e, q1, q2, q⟩ := q1
 subst e
 cases r1 with
 | cons r rr =>
  cases rr
  obtain ⟨t, rfl⟩ := r
  exact call_range_1 (range_it I1 (by omega) (by omega) q1 q2 (by simpa using q))
theorem pi_range2 {a b : Expr} {ta : TA} {p pos : Pos} (hg : Gl X "range") (hm : X.mg "range" = none) (ha : PA X [a, b] ta) (hs : starEach [a, b] X.env = [(false, eval a X.env), (false, eval b X.env)] := by rfl) (hs2 : starEach [b] X.env = [(false, eval b X.env)] := by rfl) :
  PI X tg (.Call (.Name "range" p) [a, b] [] pos) (iRng2 ta) := by
 intro pins s σ H R I h
 refine Call_ (ld_blt I hg hm boot_range (PyProof.Rows.callWith_type1 (thn (ha pos pins s σ H _ I h) fun us s1 ⟨vs, H1, I1, r1, q1⟩ => ?_) (by rw [hs, hs2]) (by rw [hs2]; rfl)))
 obtain ⟨i, j, e, ⟨q1, q2, q3, q4⟩, q⟩ := q1
 subst e
 cases r1 with
 | cons r rr =>
  cases rr with
  | cons r' rr =>
   cases rr
   obtain ⟨t, rfl⟩ := r
   obtain ⟨t', rfl⟩ := r'
   exact call_range_2 (range_it I1 q1 q2 q3 q4 q)
def tFor (wi : TI) (g : TG) (tb : TS) : TS := fun D σ H => wi σ H fun J H1 => ∃ W : Nat → Nat → St → Hp → Prop, (∃ m, W 0 m σ H1) ∧ ∀ i m σ H, W i m σ H →
 (J.stop i H ∧ D.nx σ H) ∨ (J.go i H ∧ ∃ N : St → Hp → Prop, (∀ σ' H', N σ' H' → ∃ m', m' < m ∧ W (i + 1) m' σ' H') ∧ ∀ x H', J.yld i H x H' → g x σ H' fun σ2 H2 => tb { D with nx := N, ct := N, bk := D.nx } σ2 H2)
def pinsAt (fp : List Addr) (h : Heap) : List (Addr × Obj) := fp.filterMap fun b => (h.get? b).map fun o => (b, o)
theorem mem_pinsAt {fp : List Addr} {h : Heap} {b : Addr} {o : Obj} (hb : b ∈ fp) (e : h.get? b = some o) : (b, o) ∈ pinsAt fp h := List.mem_filterMap.mpr ⟨b, hb, by rw [e]; rfl⟩
theorem of_pinsAt {fp : List Addr} {h : Heap} {p : Addr × Obj} (hp : p ∈ pinsAt fp h) : p.1 ∈ fp ∧ h.get? p.1 = some p.2 := by
 obtain ⟨b, hb, e⟩ := List.mem_filterMap.mp hp
 cases q : h.get? b with
 | none => rw [q] at e; cases e
 | some o =>
  rw [q] at e
  have e' : (b, o) = p := Option.some.inj e
  subst e'
  exact ⟨hb, q⟩
theorem Inv.pinned {pins : List (Addr × Obj)} {σ : St} {H : Hp} {s : Shared} {fp : List Addr} (I : Inv X pins σ H s) (hf : ∀ b ∈ fp, FpOk X pins H b) (ho : ∀ b ∈ fp, ∃ o, s.heap.get? b = some o ∧ ∀ v, o.data ≠ .cell v) : Inv X (pins ++ pinsAt fp s.heap) σ H s :=
 I.pins_of fun p hp => (List.mem_append.mp hp).elim (fun z => I.pin p (List.mem_append_right _ z)) fun z => by
  obtain ⟨hb, e⟩ := of_pinsAt z
  obtain ⟨f0, f1, f2, _⟩ := hf p.1 hb
  obtain ⟨o, e', d⟩ := ho p.1 hb
  rw [e] at e'; cases e'
  exact ⟨e, f0, f1, f2, d⟩
theorem Inv.unpinned {pins pl : List (Addr × Obj)} {σ : St} {H : Hp} {s : Shared} (I : Inv X (pins ++ pl) σ H s) : Inv X pins σ H s := I.pins_of fun p hp => I.pin p (List.mem_append_right _ (List.mem_append_left _ hp))
theorem ps_for {iter : Expr} {body : List Stmt} {wi : TI} {g : TG} {tb : TS} {pos : Pos} (hp : PassesOwn (model X.prog X.w) X.A X.env X.xe) (hc : X.calm = true) (hi : PI X tg iter wi) (hg : PG X tg g) (hb : PSs X body tb)
  (hs : ∀ x, foldedSetIterable iter X.env x = pure x := by intro _; rfl) : PS X (.For tg iter body [] pos) (tFor wi g tb) := by
 intro pins s σ H D I h
 refine wpAny_For (thn (hi pins s σ H _ I h) fun v s1 h1 => thn h1 fun itv s2 h2 => ?_) hs
 obtain ⟨it, fp, tn, J, H2, e, I2, T, st2, f2, W, ⟨m0, w0⟩, turn⟩ := h2
 subst e
 have stat : ∀ {H' : Hp}, (∀ b ∈ fp, H' b = none) → ∀ b ∈ fp, FpOk X pins H' b := fun hn b hb => ⟨hn b hb, (f2 b hb).2⟩
 refine codeAny_forLoop_any (fun n s' => ∃ i σ' H', Inv X pins σ' H' s' ∧ tn i s'.heap ∧ (∀ b ∈ fp, H' b = none) ∧ W i n σ' H') ?_ m0 ⟨0, σ, H2, I2, st2, fun b hb => (f2 b hb).1, w0⟩
 rintro n s3 ⟨i, σ3, H3, I3, st3, fr3, w3⟩
 rcases turn i n σ3 H3 w3 with ⟨stop, qn⟩ | ⟨go, N, hN, step⟩
 ·refine wpAny_passesOwn hp (thn (T.done X rfl rfl rfl hc i pins s3 σ3 H3 X.xe I3 (stat fr3) st3 stop) fun r s4 ⟨hr, I4⟩ => ?_)
  subst hr
  exact wpAny_execs_nil ⟨σ3, H3, I4, qn⟩
 ·refine wpAny_passesOwn hp (thn (T.item X rfl rfl rfl hc i pins s3 σ3 H3 X.xe I3 (stat fr3) st3 go) fun r s4 ⟨u, hr, h4⟩ => ?_)
  subst hr
  refine wpAny_passesOwn hp (thn h4 fun _ s5 ⟨x, H5, I5, r5, y5, st5, fr5⟩ => ?_)
  have I5' := I5.pinned (stat fr5) (T.obj _ _ st5)
  refine wpAny_passesOwn hp (thn (hg _ s5 σ3 H5 x u _ I5' r5 (step x H5 y5)) fun _ s6 ⟨σ6, H6, I6, q6⟩ => ?_)
  refine wpAny_passesOwn hp (thn (hb _ s6 σ6 H6 _ I6 q6) fun f s7 q7 => ?_)
  have again : ∀ {σ7 : St} {H7 : Hp}, Inv X (pins ++ pinsAt fp s5.heap) σ7 H7 s7 → N σ7 H7 → ∃ m, m < n ∧ ∃ i σ' H', Inv X pins σ' H' s7 ∧ tn i s7.heap ∧ (∀ b ∈ fp, H' b = none) ∧ W i m σ' H' := fun {σ7 H7} I7 n7 => by
   obtain ⟨m', hm, w7⟩ := hN σ7 H7 n7
   refine ⟨m', hm, i + 1, σ7, H7, I7.unpinned, T.keep _ _ _ st5 fun b hb o e => (I7.pin (b, o) (List.mem_append_right _ (List.mem_append_right _ (mem_pinsAt hb e)))).1, fun b hb => ?_, w7⟩
   obtain ⟨o, e, d⟩ := T.obj _ _ st5 b hb
   exact (I7.pin (b, o) (List.mem_append_right _ (List.mem_append_right _ (mem_pinsAt hb e)))).2.1
  cases f with
  | next => obtain ⟨σ7, H7, I7, n7⟩ := q7; exact again I7 n7
  | cont => obtain ⟨σ7, H7, I7, n7⟩ := q7; exact again I7 n7
  | brk => obtain ⟨σ7, H7, I7, q7⟩ := q7; exact ⟨σ7, H7, I7.unpinned, q7⟩
  | ret v => obtain ⟨x7, σ7, H7, I7, r7, q7⟩ := q7; exact ⟨x7, σ7, H7, I7.unpinned, r7, q7⟩
end
end L2
namespace L2
open PySem PySem.Spec PyProof.Rows
abbrev R2 := V → V → Hp → VK → Prop
def OpR (X : Cx) (f : Value → Value → Sem Value) (r : R2) : Prop :=
 ∀ (pins : List (Addr × Obj)) (s : Shared) (σ : St) (H : Hp) (x y : V) (v u : Value) (Q : VK), Inv X pins σ H s → RelV x v → RelV y u → r x y H Q →
  wpAny (model X.prog X.w) X.A (f v u) (EP X pins σ Q) X.xe s
def UnR (X : Cx) (f : Value → Sem Value) (r : V → Hp → VK → Prop) : Prop :=
 ∀ (pins : List (Addr × Obj)) (s : Shared) (σ : St) (H : Hp) (x : V) (v : Value) (Q : VK), Inv X pins σ H s → RelV x v → r x H Q →
  wpAny (model X.prog X.w) X.A (f v) (EP X pins σ Q) X.xe s
def CallR (X : Cx) (f : Value) (r : List V → Hp → VK → Prop) : Prop :=
 ∀ (pins : List (Addr × Obj)) (s : Shared) (σ : St) (H : Hp) (xs : List V) (us : List Value) (Q : VK), Inv X pins σ H s → Vals xs us → r xs H Q →
  wpAny (model X.prog X.w) X.A (call f us) (EP X pins σ Q) X.xe s
def TruR (X : Cx) (r : V → Hp → (Bool → Hp → Prop) → Prop) : Prop :=
 ∀ (pins : List (Addr × Obj)) (s : Shared) (σ : St) (H : Hp) (x : V) (v : Value) (Q : Bool → Hp → Prop), Inv X pins σ H s → RelV x v → r x H Q →
  wpAny (model X.prog X.w) X.A (truthy v) (TP X pins σ Q) X.xe s
def tOp (r : R2) (ta tb : TE) : TE := fun σ H Q => ta σ H fun x H1 => tb σ H1 fun y H2 => r x y H2 Q
def tUn (r : V → Hp → VK → Prop) (ta : TE) : TE := fun σ H Q => ta σ H fun x H1 => r x H1 Q
def rI (C : Int → Int → Prop) (g : Int → Int → V) : R2 := fun x y H Q => ∃ i j, x = .int i ∧ y = .int j ∧ C i j ∧ Q (g i j) H
def rI0 (g : Int → Int → V) : R2 := fun x y H Q => ∃ i j, x = .int i ∧ y = .int j ∧ Q (g i j) H
def rU (g : Int → V) : V → Hp → VK → Prop := fun x H Q => ∃ i, x = .int i ∧ Q (g i) H
section
variable {X : Cx} {a b c : Expr} {ta tb tc : TE} {pos : Pos}
theorem binT (ha : PE X a ta) (hb : PE X b tb) {pins : List (Addr × Obj)} {s : Shared} {σ : St} {H : Hp} {R : V → V → Hp → Prop} (I : Inv X pins σ H s)
  (h : ta σ H fun x H1 => tb σ H1 fun y H2 => R x y H2) {Q : Value → Shared → Prop} {f : Value → Value → Sem Value}
  (hf : ∀ v u s2 x y H2, Inv X pins σ H2 s2 → RelV x v → RelV y u → R x y H2 → wpAny (model X.prog X.w) X.A (f v u) Q X.xe s2) :
  wpAny (model X.prog X.w) X.A (eval a X.env) (fun v s₁ => wpAny (model X.prog X.w) X.A (eval b X.env) (fun u s₂ => wpAny (model X.prog X.w) X.A (f v u) Q X.xe s₂) X.xe s₁) X.xe s := by
 refine thn (ha pins s σ H _ I h) fun v s1 ⟨x, H1, I1, r1, q1⟩ => ?_
 refine thn (hb pins s1 σ H1 _ I1 q1) fun u s2 ⟨y, H2, I2, r2, q2⟩ => ?_
 exact hf v u s2 x y H2 I2 r1 r2 q2
theorem pe_op {op : Operator} {r : R2} (ho : OpR X (binaryOp op) r) (ha : PE X a ta) (hb : PE X b tb) : PE X (.BinOp a op b pos) (tOp r ta tb) := by
 intro pins s σ H Q I h
 exact wpAny_BinOp (binT ha hb I h fun v u s2 x y H2 I2 rx ry q => ho pins s2 σ H2 x y v u Q I2 rx ry q)
theorem pe_un {op : UnaryOp} {r : V → Hp → VK → Prop} (ho : UnR X (unaryOp op) r) (ha : PE X a ta) : PE X (.UnaryOp op a pos) (tUn r ta) := by
 intro pins s σ H Q I h
 exact UnaryOp_ (thn (ha pins s σ H _ I h) fun v s1 ⟨x, H1, I1, r1, q1⟩ => ho pins s1 σ H1 x v Q I1 r1 q1)
theorem opI {f : Value → Value → Sem Value} {C : Int → Int → Prop} {g : Int → Int → Int}
  (rule : ∀ (i j : Int) (t u : Tok) (s : Shared) (Q : Value → Shared → Prop) (E : Value → Shared → Prop), C i j → Q (.int (g i j) s.toks) { s with toks := s.toks + 1 } → wpAny (model X.prog X.w) X.A (f (.int i t) (.int j u)) Q E s) :
  OpR X f (rI C fun i j => .int (g i j)) := by
 intro pins s σ H x y v u Q I rx ry h
 obtain ⟨i, j, rfl, rfl, hc, q⟩ := h
 obtain ⟨t, rfl⟩ := rx
 obtain ⟨t', rfl⟩ := ry
 exact rule i j t t' s _ _ hc ⟨.int (g i j), H, I.tok _, ⟨_, rfl⟩, q⟩
theorem opI0 {f : Value → Value → Sem Value} {g : Int → Int → Int}
  (rule : ∀ (i j : Int) (t u : Tok) (s : Shared) (Q : Value → Shared → Prop) (E : Value → Shared → Prop), Q (.int (g i j) s.toks) { s with toks := s.toks + 1 } → wpAny (model X.prog X.w) X.A (f (.int i t) (.int j u)) Q E s) :
  OpR X f (rI0 fun i j => .int (g i j)) := by
 intro pins s σ H x y v u Q I rx ry h
 obtain ⟨i, j, rfl, rfl, q⟩ := h
 obtain ⟨t, rfl⟩ := rx
 obtain ⟨t', rfl⟩ := ry
 exact rule i j t t' s _ _ ⟨.int (g i j), H, I.tok _, ⟨_, rfl⟩, q⟩
theorem opB0 {f : Value → Value → Sem Value} {g : Int → Int → Bool}
  (rule : ∀ (i j : Int) (t u : Tok) (s : Shared) (Q : Value → Shared → Prop) (E : Value → Shared → Prop), Q (.bool (g i j)) s → wpAny (model X.prog X.w) X.A (f (.int i t) (.int j u)) Q E s) :
  OpR X f (rI0 fun i j => .bl (g i j)) := by
 intro pins s σ H x y v u Q I rx ry h
 obtain ⟨i, j, rfl, rfl, q⟩ := h
 obtain ⟨t, rfl⟩ := rx
 obtain ⟨t', rfl⟩ := ry
 exact rule i j t t' s _ _ ⟨.bl (g i j), H, I, rfl, q⟩
def CPow (i j : Int) : Prop := 0 ≤ j ∧ j ≤ 1000000 ∧ i.natAbs < 2 ^ 64
theorem op_add : OpR X (binaryOp .Add) (rI0 fun i j => .int (i + j)) := opI0 fun _ _ _ _ _ _ _ q => add_int q
theorem op_sub : OpR X (binaryOp .Sub) (rI0 fun i j => .int (i - j)) := opI0 fun _ _ _ _ _ _ _ q => sub_int q
theorem op_modN : OpR X (binaryOp .Mod) (rI (fun _ j => j ≠ 0) fun i j => .int (i.fmod j)) := opI fun _ _ _ _ _ _ _ hc q => mod_int' hc q
theorem op_pow : OpR X (binaryOp .Pow) (rI CPow fun i j => .int (i ^ j.toNat)) := opI fun _ _ _ _ _ _ _ hc q => pow_int_small hc.1 hc.2.1 hc.2.2 q
theorem unI {f : Value → Sem Value} {g : Int → Int}
  (rule : ∀ (i : Int) (t : Tok) (s : Shared) (Q : Value → Shared → Prop) (E : Value → Shared → Prop), Q (.int (g i) s.toks) { s with toks := s.toks + 1 } → wpAny (model X.prog X.w) X.A (f (.int i t)) Q E s) :
  UnR X f (rU fun i => .int (g i)) := by
 intro pins s σ H x v Q I rx h
 obtain ⟨i, rfl, q⟩ := h
 obtain ⟨t, rfl⟩ := rx
 exact rule i t s _ _ ⟨.int (g i), H, I.tok _, ⟨_, rfl⟩, q⟩
theorem un_neg : UnR X (unaryOp .USub) (rU fun i => .int (-i)) := unI fun _ _ _ _ _ q => neg_int q
end
section
variable {X : Cx} {a b c : Expr} {ta tb tc : TE} {pos : Pos}
theorem fin_bl {pins : List (Addr × Obj)} {σ : St} {H : Hp} {s : Shared} {Q : VK} {k k' : Bool} (I : Inv X pins σ H s) (q : Q (.bl k) H) (e : k = k') : EP X pins σ Q (.bool k') s := by
 subst e
 exact ⟨.bl k, H, I, rfl, q⟩
theorem op_lt : OpR X (compareOp .Lt) (rI0 fun i j => .bl (decide (i < j))) := opB0 fun _ _ _ _ _ _ _ q => lt_int q
theorem op_le : OpR X (compareOp .LtE) (rI0 fun i j => .bl (decide (i ≤ j))) := opB0 fun _ _ _ _ _ _ _ q => le_int q
theorem op_gt : OpR X (compareOp .Gt) (rI0 fun i j => .bl (decide (j < i))) := opB0 fun _ _ _ _ _ _ _ q => gt_int q
theorem op_ge : OpR X (compareOp .GtE) (rI0 fun i j => .bl (decide (j ≤ i))) := opB0 fun _ _ _ _ _ _ _ q => ge_int q
theorem op_isN : OpR X (compareOp .Is) (fun x y H Q => y = .non ∧ Q (.bl (decide (x = .non))) H) := by
 intro pins s σ H x y v u Q I rx ry h
 obtain ⟨rfl, q⟩ := h
 cases ry
 refine is_none_gen (fin_bl I q ?_)
 cases x <;> first
  | (cases rx; rfl)
  | (obtain ⟨t, rfl⟩ := rx; rfl)
theorem op_notN : OpR X (compareOp .IsNot) (fun x y H Q => y = .non ∧ Q (.bl (!decide (x = .non))) H) := by
 intro pins s σ H x y v u Q I rx ry h
 obtain ⟨rfl, q⟩ := h
 cases ry
 refine isnot_none_gen (fin_bl I q ?_)
 cases x <;> first
  | (cases rx; rfl)
  | (obtain ⟨t, rfl⟩ := rx; rfl)
theorem OpR.or {f : Value → Value → Sem Value} {r r' : R2} (h : OpR X f r) (h' : OpR X f r') : OpR X f (fun x y H Q => r x y H Q ∨ r' x y H Q) := by
 intro pins s σ H x y v u Q I rx ry q
 rcases q with q | q
 ·exact h pins s σ H x y v u Q I rx ry q
 ·exact h' pins s σ H x y v u Q I rx ry q
theorem pe_cmpR {op : CmpOp} {r : R2} (ho : OpR X (compareOp op) r) (ha : PE X a ta) (hb : PE X b tb) (hm : behindInMarks op b = false) : PE X (.Compare a [op] [b] pos) (tOp r ta tb) := by
 intro pins s σ H Q I h
 exact wpAny_Compare1 (binT ha hb I h fun v u s2 x y H2 I2 rx ry q => ho pins s2 σ H2 x y v u Q I2 rx ry q) hm
def tTest (t : TE) : TT := fun σ H Q => t σ H fun x H' => ∃ k, x = .bl k ∧ Q k H'
theorem pt_cmpR {op : CmpOp} {r : R2} (ho : OpR X (compareOp op) r) (ha : PE X a ta) (hb : PE X b tb) (hm : behindInMarks op b = false) : PT X (.Compare a [op] [b] pos) (tTest (tOp r ta tb)) := by
 intro pins s σ H Q I h
 refine wpAny_isTrue_Compare1 (thn (ha pins s σ H _ I h) fun v s1 ⟨x, H1, I1, r1, q1⟩ => thn (hb pins s1 σ H1 _ I1 q1) fun u s2 ⟨y, H2, I2, r2, q2⟩ =>
  thn (ho pins s2 σ H2 x y v u _ I2 r1 r2 q2) fun c s3 ⟨z, H3, I3, r3, k, e, q3⟩ => ?_) hm
 subst e
 cases r3
 exact wpAny_truthy_bool ⟨H3, I3, q3⟩
def TruV (K : PySem.W.Frag) (x : V) (H : Hp) (k : Bool) : Prop :=
 match x with
 | .non => k = false
 | .bl b => k = b
 | .int i => k = (i != 0)
 | .str y => y.length ≤ sizeLine ∧ k = ((y.length : Int) != 0)
 | .byt y => y.size ≤ sizeLine ∧ k = ((y.size : Int) != 0)
 | .ref p => (∃ xs, SqL K H p xs ∧ k = !xs.isEmpty) ∨ (∃ xs, SqT K H p xs ∧ k = !xs.isEmpty) ∨ ∃ kvs, H p = some (.dK kvs) ∧ k = !kvs.isEmpty
 | _ => False
theorem isEmpty_kv {κ : Type} {kvs : List (κ × V)} {vs : List (κ × Value)} (r : KV kvs vs) : (!vs.isEmpty) = !kvs.isEmpty := by
 cases r <;> rfl
theorem isEmpty_of {xs : List V} {its : List Value} (r : Vals xs its) : (!its.toArray.isEmpty) = !xs.isEmpty := by
 cases r <;> simp
theorem line63 : (sizeLine : Nat) < 2 ^ 63 := by rw [sizeLine_eq]; decide
theorem tru_ok : TruR X (fun x H Q => ∃ k, TruV X.K x H k ∧ Q k H) := by
 intro pins s σ H x v Q I rx h
 obtain ⟨k, e, q⟩ := h
 have hl := line63
 have hs : sizeLine = 16777216 := sizeLine_eq
 cases x with
 | non =>
  cases rx
  have e' : k = false := e
  subst e'
  exact truthy_none ⟨H, I, q⟩
 | bl b =>
  cases rx
  have e' : k = b := e
  subst e'
  exact wpAny_truthy_bool ⟨H, I, q⟩
 | int i =>
  obtain ⟨t, rfl⟩ := rx
  have e' : k = (i != 0) := e
  subst e'
  exact PySem.P.truthy_int ⟨H, I, q⟩
 | str y =>
  obtain ⟨t, rfl⟩ := rx
  obtain ⟨hy, e'⟩ : y.length ≤ sizeLine ∧ k = ((y.length : Int) != 0) := e
  subst e'
  exact PySem.P.truthy_str (by omega) ⟨H, I.tok _, q⟩
 | byt y =>
  obtain ⟨t, rfl⟩ := rx
  obtain ⟨hy, e'⟩ : y.size ≤ sizeLine ∧ k = ((y.size : Int) != 0) := e
  subst e'
  exact PySem.W.truthy_bytes (by omega) ⟨H, I.tok _, q⟩
 | ref p =>
  cases rx
  have e' : (∃ xs, SqL X.K H p xs ∧ k = !xs.isEmpty) ∨ (∃ xs, SqT X.K H p xs ∧ k = !xs.isEmpty) ∨ ∃ kvs, H p = some (.dK kvs) ∧ k = !kvs.isEmpty := e
  rcases e' with ⟨xs, hx, e'⟩ | ⟨xs, hx, e'⟩ | ⟨kvs, hx, e'⟩
  ·subst e'
   obtain ⟨its, r, pl, hz⟩ := I.list hx
   have hlen := r.length
   exact wpAny_truthy_list pl.isList (by simp only [List.size_toArray]; omega) ⟨H, I.tok _, by rw [isEmpty_of r]; exact q⟩
  ·subst e'
   obtain ⟨its, r, pl, hz⟩ := I.tuple hx
   have hlen := r.length
   exact truthy_tuple pl (by simp only [List.size_toArray]; omega) ⟨H, I.tok _, by rw [isEmpty_of r]; exact q⟩
  ·subst e'
   obtain ⟨hz, hS, vs, r, m⟩ : kvs.length ≤ sizeLine ∧ (p == sysModules) = false ∧ ∃ vs, KV kvs vs ∧ s.heap.DictOf (mixKind X.prog X.w) p vs := I.hok p _ hx
   have hlen : kvs.length = vs.length := Paired.length r
   exact wpAny_truthy_dict hS m (by omega) ⟨H, I.tok _, by rw [isEmpty_kv r]; exact q⟩
 | _ => exact (show False from e).elim
theorem pt_truth (ha : PE X a ta) (he : ∀ whole, isTrue a X.env whole = (do let v ← whole; standAt a.pos; holding [v] (truthy v))) :
  PT X a (fun σ H Q => ta σ H fun x H' => ∃ k, TruV X.K x H' k ∧ Q k H') := by
 intro pins s σ H Q I h
 exact isTrue_plain (thn (ha pins s σ H _ I h) fun v s1 ⟨x, H1, I1, r1, q1⟩ => tru_ok pins s1 σ H1 x v Q I1 r1 q1) (he _)
theorem op_add_str : OpR X (binaryOp .Add) (fun x y H Q => ∃ i j, x = .str i ∧ y = .str j ∧ i.length + j.length ≤ sizeLine ∧ Q (.str (i ++ j)) H) := by
 intro pins s σ H x y v u Q I rx ry h
 obtain ⟨i, j, rfl, rfl, hz, q⟩ := h
 obtain ⟨t, rfl⟩ := rx
 obtain ⟨t', rfl⟩ := ry
 exact add_str (fun t' tk => ⟨.str (i ++ j), H, I.tok _, ⟨_, rfl⟩, q⟩) hz
theorem vals1 {x : V} {us : List Value} (r : Vals [x] us) : ∃ u, us = [u] ∧ RelV x u := by
 cases r with
 | cons r1 r2 => cases r2; exact ⟨_, rfl, r1⟩
theorem call_abs : CallR X (.builtin "abs") (fun xs H Q => ∃ i, xs = [.int i] ∧ Q (.int (if i < 0 then -i else i)) H) := by
 intro pins s σ H xs us Q I r h
 obtain ⟨i, rfl, q⟩ := h
 obtain ⟨u, rfl, t, rfl⟩ := vals1 r
 exact call_abs_int fun u tk => ⟨.int (if i < 0 then -i else i), H, I.tok _, ⟨_, rfl⟩, q⟩
theorem call_int1 : CallR X (.type "int") (fun xs H Q => (∃ i, xs = [.int i] ∧ Q (.int i) H) ∨ ∃ k, xs = [.bl k] ∧ Q (.int (if k then 1 else 0)) H) := by
 intro pins s σ H xs us Q I r h
 rcases h with ⟨i, rfl, q⟩ | ⟨k, rfl, q⟩
 ·obtain ⟨u, rfl, t, rfl⟩ := vals1 r
  exact call_int_int ⟨.int i, H, I, ⟨_, rfl⟩, q⟩
 ·obtain ⟨u, rfl, r1⟩ := vals1 r
  cases r1
  exact call_int_bool ⟨.int (if k then 1 else 0), H, I.tok _, ⟨_, rfl⟩, q⟩
end
end L2
namespace L2
open PySem PySem.Spec PyProof.Rows
structure ObjM (h : Heap) (x dx C : Addr) (mA : Str → Option Value) : Prop where
 obj : h.get? x = some (PySem.W.instObj C dx)
 ns : h.Ns1 dx mA
 ne : dx ≠ x
theorem lookIn_ns {h : Heap} {dx : Addr} {mA : Str → Option Value} (n : h.Ns1 dx mA) : ∃ od, h.get? dx = some od ∧ ∀ name, PySem.W.lookIn name od = some (mA name) := by
 obtain ⟨o, es, ep, ho, hd, hk, _, hm⟩ := n
 refine ⟨o, ho, fun name => ?_⟩
 have e := hm name
 unfold nsFind findBy at e
 rw [← Array.find?_toList] at e
 unfold PySem.W.lookIn
 rw [hd]
 dsimp only
 split
 ·rename_i y q
  rw [q] at e
  exact congrArg some e
 ·rename_i q
  rw [q] at e
  have a : es.toList.any (·.refKey) = false := by
   rw [List.any_eq_false]
   intro y hy
   obtain ⟨z, t, hkey⟩ := hk y (Array.mem_toList_iff.mp hy)
   simp [DictEntry.refKey, hkey]
  have a' : ¬ es.toList.any (·.refKey) = true := by rw [a]; exact Bool.false_ne_true
  rw [if_neg a']
  exact congrArg some e
theorem ObjM.look {h : Heap} {x dx C : Addr} {mA : Str → Option Value} (I : ObjM h x dx C mA) : ∃ od, PySem.W.InstAt h x (PySem.W.instObj C dx) C (some od) ∧ ∀ name, PySem.W.lookIn name od = some (mA name) :=
 let ⟨od, ho, hl⟩ := lookIn_ns I.ns
 ⟨od, ⟨I.obj, rfl, rfl, ho⟩, hl⟩
section
variable {prog : Program} {w : World} {A : Around} {E : Value → Shared → Prop} {s : Shared} {K : PySem.W.Frag} {x dx C f : Addr} {mA : Str → Option Value} {name : Str} {v : Value}
theorem get_map {expr : Bool} {Q : Value → Shared → Prop} (X : K.In s.heap) (I : ObjM s.heap x dx C mA) (hg : PySem.W.plainGet K C name = true) (hh : PySem.W.hasDictIn K C = true)
  (ha : PySem.W.findIn K (.ref C) name = some none) (hv : mA name = some v) (hv' : PySem.W.handedIn v = true) (h : Q v { s with toks := s.toks + 1 }) :
  wpAny (model prog w) A (getAttr (.ref x) name expr) Q E s := by
 obtain ⟨od, J, hl⟩ := I.look
 exact PySem.W.get_value X J (PySem.W.plainGet_of hg).1 (PySem.W.findObj_own hh ha rfl (by rw [hl, hv])) hv' h
end
def putF (f : Str) (v : V) : List (Str × V) → List (Str × V)
 | [] => [(f, v)]
 | (g, x) :: r => if g = f then (g, v) :: r else (g, x) :: putF f v r
theorem RelO.some_of {v : V} {o : Option Value} (r : RelO (some v) o) : ∃ u, o = some u ∧ RelV v u := by
 cases o with
 | none => exact (show False from r).elim
 | some u => exact ⟨u, rfl, r⟩
theorem handed_of {v : V} {u : Value} (r : RelV v u) : PySem.W.handedIn u = true := by
 cases v with
 | non => cases (show u = Value.none from r); rfl
 | bl b => cases (show u = Value.bool b from r); rfl
 | int i => obtain ⟨t, e⟩ := (show ∃ t, u = Value.int i t from r); cases e; rfl
 | str x => obtain ⟨t, e⟩ := (show ∃ t, u = Value.str x t from r); cases e; rfl
 | byt b => obtain ⟨t, e⟩ := (show ∃ t, u = Value.bytes b t from r); cases e; rfl
 | flt b => obtain ⟨t, e⟩ := (show ∃ t, u = Value.float b t from r); cases e; rfl
 | ref a => cases (show u = Value.ref a from r); rfl
 | ty n => cases (show u = Value.type n from r); rfl
section
variable {P : Program} {w : World} {H H' : Hp} {h h' : Heap} {a C dx : Addr} {fs fs' : List (Str × V)}
theorem ins_get (hok : HOk P w H h) (e : H a = some (.ins C dx fs)) : ∃ mA, ObjM h a dx C mA ∧ (∀ f, RelO (fs.lookup f) (mA f)) ∧ PySem.Within mA (fs.map (·.1)) ∧ fs.length ≤ 1000 ∧ H dx = some (.own a) := by
 obtain ⟨d, z, ne, ob, mA, n, r, q⟩ := (show ObjOk P w H h a (.ins C dx fs) from hok a _ e)
 exact ⟨mA, ⟨ob, n, ne⟩, r, q, z, d⟩
end
structure Cls (K : PySem.W.Frag) (C : Addr) : Prop where
 pg : PySem.W.plainGet K C Str.empty = true
 hd : PySem.W.hasDictIn K C = true
 po : PySem.W.plainOver K C = true
 sa : PySem.W.findIn K (.ref C) "__setattr__" = some (some (.builtin "object.__setattr__"))
theorem Cls.get {K : PySem.W.Frag} {C : Addr} (c : Cls K C) (f : Str) : PySem.W.plainGet K C f = true := c.pg
def NoAttr (K : PySem.W.Frag) (C : Addr) (f : Str) : Prop := PySem.W.findIn K (.ref C) f = some none
structure Con (K : PySem.W.Frag) (C : Addr) (f : Str) (v : V) (u : Value) : Prop where
 at_ : PySem.W.findIn K (.ref C) f = some (some u)
 rel : RelV v u
 get : PySem.W.specialIn K u "__get__" = some none
 cp : PySem.W.copiedNames.contains f = false
structure Meth (K : PySem.W.Frag) (C : Addr) (m : Str) (f : Addr) : Prop where
 at_ : PySem.W.findIn K (.ref C) m = some (some (.ref f))
 fn : PySem.W.isFn K (.ref f) = true
 kp : PySem.W.keepIn K (.ref f) = true
section
variable {X : Cx} {pins : List (Addr × Obj)} {σ : St} {H : Hp} {s : Shared} {a C dx : Addr} {fs : List (Str × V)} {f : Str} {v : V} {A : Around} {E : Value → Shared → Prop}
theorem getattr_ok {b : Bool} {Q : Value → Shared → Prop} (I : Inv X pins σ H s) (e : H a = some (.ins C dx fs)) (c : Cls X.K C) (n : NoAttr X.K C f) (l : fs.lookup f = some v)
  (h : ∀ u s', Inv X pins σ H s' → RelV v u → Q u s') : wpAny (model X.prog X.w) A (getAttr (.ref a) f b) Q E s := by
 obtain ⟨mA, O, r, _, _, _⟩ := ins_get I.hok e
 obtain ⟨u, hu, ru⟩ := RelO.some_of (v := v) (o := mA f) (by rw [← l]; exact r f)
 exact get_map I.kIn O (c.get f) c.hd n hu (handed_of ru) (h u _ (I.tok _) ru)
theorem attr_of {prog : Program} {w : World} {env : Env} {e : Expr} {f : Str} {pos : Pos} {s : Shared} {Q : Value → Shared → Prop} (hb : attributeBase e f env (eval e env) = eval e env)
  (h : wpAny (model prog w) A (eval e env) (fun o s₁ => wpAny (model prog w) A (getAttr o f true) Q E s₁) E s) : wpAny (model prog w) A (eval (.Attribute e f pos) env) Q E s :=
 Attribute_any_ h (by rw [arm_eval_Attribute, hb])
end
def tFld (K : PySem.W.Frag) (ta : TE) (f : Str) : TE := fun σ H Q => ta σ H fun x H1 => ∃ a C dx fs v, x = .ref a ∧ H1 a = some (.ins C dx fs) ∧ Cls K C ∧ NoAttr K C f ∧ fs.lookup f = some v ∧ Q v H1
section
variable {X : Cx} {o e value : Expr} {f : Str} {pos pos' tpos : Pos} {ta tv : TE}
theorem pe_fld (he : PE X e ta) (hb : attributeBase e f X.env (eval e X.env) = eval e X.env) : PE X (.Attribute e f pos) (tFld X.K ta f) := by
 intro pins s σ H Q I h
 refine attr_of hb (thn (he pins s σ H _ I h) fun u s1 ⟨x, H1, I1, rx, a, C, dx, fs, v, ex, ea, c, n, l, q⟩ => ?_)
 subst ex
 obtain rfl : u = Value.ref a := rx
 exact getattr_ok I1 ea c n l fun u' s2 I2 ru => ⟨v, H1, I2, ru, q⟩
end
section
variable {X : Cx} {pins : List (Addr × Obj)} {σ : St} {H : Hp} {s : Shared} {A : Around} {E : Value → Shared → Prop} {Q : Value → Shared → Prop} {c : Value} {b : Bool}
inductive TyOf (K : PySem.W.Frag) (H : Hp) : V → Value → Prop where
 | non : TyOf K H .non (.type "NoneType")
 | bl (x : Bool) : TyOf K H (.bl x) (.type "bool")
 | int (i : Int) : TyOf K H (.int i) (.type "int")
 | str (x : Str) : TyOf K H (.str x) (.type "str")
 | flt (x : UInt64) : TyOf K H (.flt x) (.type "float")
 | lst {a : Addr} {xs : List V} (e : H a = some (.lst xs)) : TyOf K H (.ref a) (.type "list")
 | frz {a : Addr} {o : Obj} {xs : List V} (e : H a = some (.frz o (.lst xs))) : TyOf K H (.ref a) (.type "list")
 | tup {a : Addr} {xs : List V} (e : H a = some (.tup xs)) : TyOf K H (.ref a) (.type "tuple")
 | dK {a : Addr} {kvs : List (Key × V)} (e : H a = some (.dK kvs)) : TyOf K H (.ref a) (.type "dict")
 | dT {a : Addr} {kvs : List (List Key × V)} (e : H a = some (.dT kvs)) : TyOf K H (.ref a) (.type "dict")
 | ins {a C dx : Addr} {fs : List (Str × V)} (e : H a = some (.ins C dx fs)) (cl : Cls K C) (ha : PySem.W.findIn K (.ref C) "__class__" = some (some (.builtin "object.__class__")))
   (hn : PySem.W.specialIn K (.builtin "object.__class__") "__get__" = some (some (.builtin "getset_descriptor.__get__"))) (htk : PySem.W.takesIn K (.builtin "object.__class__") = some true)
   (hm : PySem.W.mroIn K C (.type "object") = some true) : TyOf K H (.ref a) (.ref C)
theorem isinst_ok {x : V} {u t : Value} (I : Inv X pins σ H s) (rx : RelV x u) (ty : TyOf X.K H x t) (e : PySem.W.kitOne X.K t c = some b) (h : ∀ tk, Q (.bool b) { s with toks := tk }) :
  wpAny (model X.prog X.w) A (call (.builtin "isinstance") [u, c]) Q E s := by
 cases ty with
 | non => cases (show u = Value.none from rx); exact PySem.W.kia_one PySem.W.kitx_none I.kIn True.intro e (fun z => nomatch z) h
 | bl y => cases (show u = Value.bool y from rx); exact PySem.W.kia_one PySem.W.kitx_bool I.kIn True.intro e (fun z => nomatch z) h
 | int i => obtain ⟨t, q⟩ := (show ∃ t, u = Value.int i t from rx); cases q; exact PySem.W.kia_one PySem.W.kitx_int I.kIn True.intro e (fun z => nomatch z) h
 | str y => obtain ⟨t, q⟩ := (show ∃ t, u = Value.str y t from rx); cases q; exact PySem.W.kia_one PySem.W.kitx_str I.kIn True.intro e (fun z => nomatch z) h
 | flt y => obtain ⟨t, q⟩ := (show ∃ t, u = Value.float y t from rx); cases q; exact PySem.W.kia_one PySem.W.kitx_float I.kIn True.intro e (fun z => nomatch z) h
 | @lst a xs ea =>
  cases (show u = Value.ref a from rx)
  obtain ⟨_, _, n, _, h1⟩ := (show ObjOk X.prog X.w H s.heap a (.lst xs) from I.hok a _ ea)
  exact PySem.W.kia_one PySem.W.kitx_list I.kIn ⟨_, h1, rfl⟩ e (fun z => nomatch z) h
 | @frz a ob xs ea =>
  cases (show u = Value.ref a from rx)
  obtain ⟨_, _, _, n, _, h1⟩ := (show ObjOk X.prog X.w H s.heap a (.frz ob (.lst xs)) from I.hok a _ ea)
  exact PySem.W.kia_one PySem.W.kitx_list I.kIn ⟨_, h1, rfl⟩ e (fun z => nomatch z) h
 | @tup a xs ea =>
  cases (show u = Value.ref a from rx)
  obtain ⟨_, _, _, p⟩ := (show ObjOk X.prog X.w H s.heap a (.tup xs) from I.hok a _ ea)
  obtain ⟨o, h1, h2, _⟩ := p
  exact PySem.W.kia_one PySem.W.kitx_tuple I.kIn ⟨o, h1, h2⟩ e (fun z => nomatch z) h
 | @dK a kvs ea =>
  cases (show u = Value.ref a from rx)
  obtain ⟨_, _, vs, _, p⟩ := (show ObjOk X.prog X.w H s.heap a (.dK kvs) from I.hok a _ ea)
  obtain ⟨o, es, ep, h1, h2, _⟩ := p
  exact PySem.W.kia_one PySem.W.kitx_dict I.kIn ⟨o, h1, h2.1⟩ e (fun z => nomatch z) h
 | @dT a kvs ea =>
  cases (show u = Value.ref a from rx)
  obtain ⟨_, _, xs, _, o, es, ep, h1, h2, _⟩ := (show ObjOk X.prog X.w H s.heap a (.dT kvs) from I.hok a _ ea)
  exact PySem.W.kia_one PySem.W.kitx_dict I.kIn ⟨o, h1, h2.1⟩ e (fun z => nomatch z) h
 | @ins a C dx fs ea cl ha hn htk hm =>
  cases (show u = Value.ref a from rx)
  obtain ⟨mA, O, _⟩ := ins_get I.hok ea
  obtain ⟨od, J, _⟩ := O.look
  exact PySem.W.kia_one (PySem.W.kitx_own (cl.get _) cl.hd ha hn htk hm) I.kIn J e (fun z => nomatch z) h
end
end L2
namespace L2
open PySem PySem.Spec PyProof.Rows
structure Room (k : Nat) (A : Around) : Prop where
 hd : A.handled = none
 dp : A.depth + 3 * k + 5 < recursionLimit
 un : A.units + 16 * k + 200 < cLine
theorem Room.deeper {k : Nat} {A : Around} (r : Room (k + 1) A) (env : Env) : Room k (A.deeper env) :=
 ⟨r.hd, by have := r.dp; show A.depth + 1 + 3 * k + 5 < _; omega, by have := r.un; show A.units + 3 + 16 * k + 200 < _; omega⟩
theorem Room.depth {k : Nat} {A : Around} (r : Room k A) : A.depth < recursionLimit := by have := r.dp; omega
def tNil : TA := fun _ H Q => Q [] H
def tCons (ta : TE) (tr : TA) : TA := fun σ H Q => ta σ H fun x H1 => tr σ H1 fun xs H2 => Q (x :: xs) H2
section
variable {X : Cx} {e : Expr} {es : List Expr} {te : TE} {t : TA} {pos : Pos}
theorem pa_nil : PA X [] tNil := fun _ _ _ _ H Q I h => Calls.spliced_nil ⟨[], H, I, .nil, h⟩
theorem pa_cons (ha : PE X e te) (hr : PA X es t) (hs : starEach (e :: es) X.env = (false, eval e X.env) :: starEach es X.env := by rfl) : PA X (e :: es) (tCons te t) := by
 intro pos pins s σ H Q I h
 rw [hs]
 show wpAny _ _ (spliced ((false, eval e X.env) :: backTo pos (starEach es X.env))) _ _ s
 refine Calls.spliced_cons (thn (ha pins s σ H _ I h) fun u s1 ⟨x, H1, I1, r1, q1⟩ => ?_)
 exact thn (hr pos pins s1 σ H1 _ I1 q1) fun us s2 ⟨xs, H2, I2, r2, q2⟩ => ⟨x :: xs, H2, I2, .cons r1 r2, q2⟩
def tTup (t : TA) : TE := fun σ H Q => t σ H fun xs H1 => xs.length ≤ sizeLine ∧ ∀ p, H1 p = none → Q (.ref p) (upd H1 p (.tup xs))
def tLst (t : TA) : TE := fun σ H Q => t σ H fun xs H1 => xs.length ≤ sizeLine ∧ ∀ p, H1 p = none → Q (.ref p) (upd H1 p (.lst xs))
theorem pe_tup {x1} (h : PA X es t) : PE X (.Tuple es x1 pos) (tTup t) := by
 intro pins s σ H Q I hq
 refine wpAny_Tuple_spliced (thn (h pos pins s σ H _ I hq) fun us s1 ⟨xs, H1, I1, r, z, q⟩ => ⟨by rw [← r.length]; exact z, ?_⟩)
 have hf : H1 s1.heap.objs.size = none := I1.hok.fresh (Nat.le_refl _)
 refine ⟨.ref s1.heap.objs.size, upd H1 s1.heap.objs.size (.tup xs), I1.laid (t' := s1.toks) (fun b u e => Heap.get?_push_of_some _ e) (Nat.le_refl _) ?_, rfl, q _ hf⟩
 exact ⟨z, us, r, ⟨_, Heap.get?_push_size _ rfl, rfl, _, rfl⟩⟩
theorem pe_lst (h : PA X es t) : PE X (.List es pos) (tLst t) := by
 intro pins s σ H Q I hq
 refine wpAny_List_spliced (thn (h pos pins s σ H _ I hq) fun us s1 ⟨xs, H1, I1, r, z, q⟩ => ⟨by rw [← r.length]; exact z, ?_⟩)
 have hf : H1 s1.heap.objs.size = none := I1.hok.fresh (Nat.le_refl _)
 refine ⟨.ref s1.heap.objs.size, upd H1 s1.heap.objs.size (.lst xs), I1.laid (t' := s1.toks) (fun b u e => Heap.get?_push_of_some _ e) (Nat.le_refl _) ?_, rfl, q _ hf⟩
 exact ⟨z, us, 0, r, Heap.get?_push_size _ rfl⟩
end
abbrev Sp := List V → Hp → VK → XK → Prop
abbrev CXT := List Env → Hp → Shared → XK → Value → Shared → Prop
structure Env0 (P : Program) (w : World) (K : PySem.W.Frag) (mg : Str → Option Value) (base : Heap) (A : Around) (outer : List Env) (s : Shared) (H : Hp) : Prop where
 frames : A.frames = some outer
 mod : Mod K mg base
 bs : ∀ b o, base.get? b = some o → s.heap.get? b = some o ∧ H b = none
 bsz : base.objs.size ≤ s.heap.objs.size
 funs : s.heap.FunFrames base outer
 frf : ∀ b ∈ frs outer, H b = none
 hok : HOk P w H s.heap
 bare : AllBare s.gens
def CE (outer : List Env) (P : Program) (w : World) (H : Hp) (s : Shared) (Q : VK) (u : Value) (s' : Shared) : Prop :=
 ∃ v H', s'.os = s.os ∧ AllBare s'.gens ∧ Un (frs outer) [] H H' s.heap s'.heap ∧ HOk P w H' s'.heap ∧ RelV v u ∧ Q v H'
def CR (CX : CXT) (outer : List Env) (P : Program) (w : World) (H : Hp) (s : Shared) (Q : VK) (E : XK) (r : Result) (s' : Shared) : Prop :=
 match r with
 | .ok (.ret u) => CE outer P w H s Q u s'
 | .ok _ => False
 | .error e => CX outer H s E e s'
structure FnOk (P : Program) (w : World) (K : PySem.W.Frag) (mg : Str → Option Value) (base : Heap) (CX : CXT) (k : Nat) (f : Addr) (fd : FuncData) (ps : List Str) (sp : Sp) : Prop where
 len : ∀ vs H Q E, sp vs H Q E → vs.length = ps.length
 run : ∀ (A : Around) (outer : List Env) (s : Shared) (H : Hp) (args : Args) (us : List Value) (vs : List V) (Q : VK) (E : XK), Room k A → Env0 P w K mg base A outer s H → BindsTo s fd args (ps.zip us) → Vals vs us → sp vs H Q E →
  codeAny (model P w) A (.call (.ref f) args) (CR CX outer P w H s Q E) s
section
variable {X : Cx} {pins : List (Addr × Obj)} {σ : St} {H : Hp} {s s' : Shared}
theorem Inv.env0 (I : Inv X pins σ H s) : Env0 X.prog X.w X.K X.mg X.base X.A X.stack s H :=
 ⟨I.ok.frames, I.ok.mod, I.bs, Nat.le_trans I.ok.bsz I.sz, I.stack, I.stkFree, I.hok, I.bare⟩
theorem Inv.after {Q : VK} {u : Value} (I : Inv X pins σ H s) (h : CE X.stack X.prog X.w H s Q u s') : EP X pins σ Q u s' := by
 obtain ⟨v, H', os, bare, un, hok, r, q⟩ := h
 obtain ⟨hh, g, d, t, os'⟩ := s'
 obtain rfl : os' = s.os := os
 exact ⟨v, H', I.call (h' := hh) (g' := g) (d' := d) (t' := t) (ch := []) un hok bare (fun b z => absurd z (by simp)), r, q⟩
end
def Binds (K : PySem.W.Frag) (fd : FuncData) (ps : List Str) (ds : List Value) : Prop :=
 ∀ (s : Shared) (us : List Value), K.In s.heap → (us ++ ds).length = ps.length → BindsTo s fd ⟨us, []⟩ (ps.zip (us ++ ds))
theorem Binds.all {K : PySem.W.Frag} {fd : FuncData} {ps : List Str} (h : ∀ us : List Value, us.length = ps.length → bindArgs fd ⟨us, []⟩ = pure (ps.zip us)) : Binds K fd ps [] := fun s us _ hl => by
 rw [List.append_nil] at hl ⊢
 exact .of_eq (h us hl)
section
variable {X : Cx} {CX : CXT} {k : Nat} {f C : Addr} {fd : FuncData} {ps : List Str} {sp : Sp} {dvs : List V} {ds : List Value} {E : XK} {x m : Str} {p pos apos : Pos} {e o : Expr} {es : List Expr} {ta : TE} {t : TA}
structure Mk (K : PySem.W.Frag) (C f : Addr) : Prop where
 makes : PySem.W.makesIn K C = true
 init : PySem.W.findIn K (.ref C) "__init__" = some (some (.ref f))
 fn : PySem.W.isFn K (.ref f) = true
 kp : PySem.W.keepIn K (.ref C) = true
end
section
variable {X : Cx} {CX : CXT} {k : Nat} {f C : Addr} {fd : FuncData} {ps ks : List Str} {sp : Sp} {E : XK} {x m : Str} {p pos apos kpos : Pos} {e o : Expr} {es : List Expr} {kws : List Keyword} {te ta : TE} {t tk : TA} {nm : Option Str}
structure KBinds (K : PySem.W.Frag) (fd : FuncData) (ps ks : List Str) (g : List Value → List Value → List Value) (gV : List V → List V → List V) : Prop where
 to : ∀ (s : Shared) (us ws : List Value), K.In s.heap → (g us ws).length = ps.length → BindsTo s fd ⟨us, ks.zip ws⟩ (ps.zip (g us ws))
 rel : ∀ {vs : List V} {us : List Value} {zs : List V} {ws : List Value}, Vals vs us → Vals zs ws → Vals (gV vs zs) (g us ws)
variable {g : List Value → List Value → List Value} {gV : List V → List V → List V}
end
structure FnScope (N P : List Str) (sc : Scope) : Prop where
 kind : sc.kind = .function
 co : sc.isCoroutine = false
 gen : sc.isGenerator = false
 nd : N.Nodup
 pre : N.take P.length = P
 par : ∀ x ∈ P, sc.names.lookup x = some .local ∨ sc.names.lookup x = some .cell
 nofree : ∀ y ∈ sc.names, y.2 ≠ .free
theorem bindL_out {kindOf : Str → Option NameKind} {x : Str} : ∀ {binds : List (Str × Value)} {m : Str → Option Value}, (∀ v, (x, v) ∉ binds) → bindL kindOf binds m x = m x
 | [], _, _ => rfl
 | (n, v) :: r, m, h => by
  unfold bindL
  rw [bindL_out fun w hw => h w (List.mem_cons_of_mem _ hw)]
  split
  ·have : x ≠ n := by rintro rfl; exact h v List.mem_cons_self
   simp [this]
  ·rfl
theorem bindC_out {kindOf : Str → Option NameKind} {x : Str} : ∀ {binds : List (Str × Value)} {m : Str → Option Value}, (∀ v, (x, v) ∉ binds) → bindC kindOf binds m x = m x
 | [], _, _ => rfl
 | (n, v) :: r, m, h => by
  unfold bindC
  rw [bindC_out fun w hw => h w (List.mem_cons_of_mem _ hw)]
  split
  ·rfl
  ·have : x ≠ n := by rintro rfl; exact h v List.mem_cons_self
   simp [this]
theorem bindL_get {kindOf : Str → Option NameKind} {x : Str} {v : Value} : ∀ {P : List Str} {vs : List Value} {i : Nat} {m : Str → Option Value}, P.Nodup → P[i]? = some x → vs[i]? = some v → kindOf x = some .local →
  bindL kindOf (P.zip vs) m x = some v
 | [], _, _, _, _, h, _, _ => by simp at h
 | _ :: _, [], _, _, _, _, h, _ => by simp at h
 | p :: P, w :: vs, 0, m, nd, h1, h2, hk => by
  simp at h1 h2; subst h1; subst h2
  show bindL kindOf ((p, w) :: P.zip vs) m p = _
  unfold bindL
  rw [bindL_out fun v hv => (List.nodup_cons.mp nd).1 (List.of_mem_zip hv).1, if_pos hk]
  simp
 | p :: P, w :: vs, i + 1, m, nd, h1, h2, hk => by
  show bindL kindOf ((p, w) :: P.zip vs) m x = _
  unfold bindL
  exact bindL_get (i := i) (List.nodup_cons.mp nd).2 (by simpa using h1) (by simpa using h2) hk
theorem bindC_get {kindOf : Str → Option NameKind} {x : Str} {v : Value} : ∀ {P : List Str} {vs : List Value} {i : Nat} {m : Str → Option Value}, P.Nodup → P[i]? = some x → vs[i]? = some v → kindOf x ≠ some .local →
  bindC kindOf (P.zip vs) m x = some v
 | [], _, _, _, _, h, _, _ => by simp at h
 | _ :: _, [], _, _, _, _, h, _ => by simp at h
 | p :: P, w :: vs, 0, m, nd, h1, h2, hk => by
  simp at h1 h2; subst h1; subst h2
  show bindC kindOf ((p, w) :: P.zip vs) m p = _
  unfold bindC
  rw [bindC_out fun v hv => (List.nodup_cons.mp nd).1 (List.of_mem_zip hv).1, if_neg hk]
  simp
 | p :: P, w :: vs, i + 1, m, nd, h1, h2, hk => by
  show bindC kindOf ((p, w) :: P.zip vs) m x = _
  unfold bindC
  exact bindC_get (i := i) (List.nodup_cons.mp nd).2 (by simpa using h1) (by simpa using h2) hk
def start (N : List Str) (vs : List V) : St := vs.map some ++ List.replicate (N.length - vs.length) none
def cxOf (CX : CXT) (P : Program) (w : World) (K : PySem.W.Frag) (mg : Str → Option Value) (base : Heap) (N : List Str) (qual : Str) (scope : Scope) (f : Addr) (cd : Value) (A : Around) (outer : List Env) (s : Shared) (H : Hp) (E : XK) : Cx where
 prog := P
 w := w
 K := K
 mg := mg
 base := base
 A := A.deeper (envOfC qual scope s.heap.objs.size f cd)
 N := N
 s₀ := s
 H₀ := H
 env := envOfC qual scope s.heap.objs.size f cd
 outer := outer
 stack := envOfC qual scope s.heap.objs.size f cd :: outer
 ex := []
 calm := true
 fn := fun _ => true
 pn := []
 xe := fun e s' => wpAny (model P w) (A.deeper (envOfC qual scope s.heap.objs.size f cd)) (leaving (envOfC qual scope s.heap.objs.size f cd) e) (fun _ s'' => CX outer H s E e s'') (fun e' s'' => CX outer H s E e' s'') s'
theorem cell_has {sc : Scope} {n : Nat} {x : Str} (h : sc.names.lookup x = some .cell) : ∃ c, (cellsFrom n sc.names []).lookup x = some c := by
 have q := PySem.W.cellsFrom_some sc.names n [] (.inl h)
 exact Option.isSome_iff_exists.mp q
theorem inv_start {CX : CXT} {P : Program} {w : World} {K : PySem.W.Frag} {mg : Str → Option Value} {base : Heap} {N ps : List Str} {qual : Str} {scope : Scope} {f : Addr} {cd : Value} {A : Around} {outer : List Env} {s s1 : Shared} {H : Hp} {E : XK} {us : List Value} {vs : List V}
  (S : FnScope N ps scope) (hd : A.handled = none) (e0 : Env0 P w K mg base A outer s H) (hl : vs.length = ps.length) (r : Vals vs us)
  (x : InCallC s s.heap.objs.size (bindL (envOfC qual scope s.heap.objs.size f cd).kindOf (ps.zip us) fun _ => none) (cellsFrom (s.heap.objs.size + 1) scope.names []) (bindC (envOfC qual scope s.heap.objs.size f cd).kindOf (ps.zip us) fun _ => none) s1) :
  Inv (cxOf CX P w K mg base N qual scope f cd A outer s H E) [] (start N vs) H s1 := by
 have hpl : ps.length ≤ N.length := by have := congrArg List.length S.pre; rw [List.length_take] at this; omega
 obtain ⟨h1, tk, rfl, hk⟩ := x.done
 have noA : ∀ b : Addr, b ∉ (cxOf CX P w K mg base N qual scope f cd A outer s H E).ex := fun b z => absurd (show b ∈ ([] : List Addr) from z) (by simp)
 refine ⟨⟨e0.mod, S.kind, rfl, rfl, Nat.le_refl _, fun y z c h1 h2 => ?_, fun y hy => ?_, fun y c _ h => ?_, fun _ => hd, Around.frames_deeper e0.frames, .inr ⟨rfl, rfl⟩, fun b z => absurd z (noA b), e0.bs, e0.bsz, fun b _ _ => noA b, fun b z => absurd z (noA b), e0.funs, e0.frf⟩,
  rfl, e0.bare, Un.kept hk, ⟨_, x.toInCall.ns, fun i y v h1 h2 h3 => ?_⟩, fun y c h => ⟨_, x.cell y c h⟩, e0.hok.fresh (Nat.le_refl _), fun y c h => ?_, fun p hp => absurd (show p ∈ ([] : List (Addr × Obj)) from hp) (by simp), e0.hok.kept hk, ?_⟩
 ·exact name_of_addr x.apart (PySem.mem_of_lookup h1) (PySem.mem_of_lookup h2)
 ·have hy : scope.names.lookup y = some .cell ∨ scope.names.lookup y = some .free := hy
  rcases hy with hy | hy
  ·exact cell_has hy
  ·exact absurd rfl (S.nofree _ (PySem.mem_of_lookup hy))
 ·exact Nat.le_of_lt (x.above y c (PySem.mem_of_lookup h))
 ·have hi : i < vs.length := by
   unfold start at h2
   by_cases hi : i < vs.length
   ·exact hi
   ·rw [List.getElem?_append_right (by simpa using hi)] at h2
    rw [List.getElem?_replicate] at h2
    split at h2 <;> cases h2
  have ha : vs[i]? = some v := by
   unfold start at h2
   rw [List.getElem?_append_left (by simpa using hi), List.getElem?_map] at h2
   cases e : vs[i]? with
   | none => rw [e] at h2; cases h2
   | some a => rw [e] at h2; cases h2; rfl
  obtain ⟨u, hu, rv⟩ := r.get ha
  have hp : ps[i]? = some y := by
   rw [← S.pre, List.getElem?_take_of_lt (by omega)]; exact h1
  have ndP : ps.Nodup := by rw [← S.pre]; exact S.nd.sublist (List.take_sublist _ _)
  refine ⟨u, rv, ?_⟩
  rcases S.par y (List.mem_of_getElem? hp) with k | k
  ·exact .inl ⟨k, bindL_get ndP hp hu k⟩
  ·obtain ⟨c, e⟩ := cell_has (n := s.heap.objs.size + 1) k
   refine .inr ⟨.inl k, c, e, ?_⟩
   have q := x.cell y c e
   rw [bindC_get ndP hp hu (by show scope.names.lookup y ≠ _; rw [k]; decide)] at q
   exact q
 ·exact e0.hok.fresh (Nat.le_of_lt (x.above y c (PySem.mem_of_lookup h)))
 ·unfold start
  show _ = N.length
  rw [List.length_append, List.length_map, List.length_replicate]
  omega
theorem fn_of {CX : CXT} {P : Program} {w : World} {K : PySem.W.Frag} {mg : Str → Option Value} {base : Heap} {k : Nat} {f : Addr} {name qual : Str} {params : Arguments} {body : List Stmt} {scope : Scope} {dV kV doc pm cdv ct oc : Value} {an od : Option Addr}
  {osl : Array (Option Value)} {N ps : List Str} {sp : Sp} (lk : K.lookup f = some ⟨oc, od, .func (PySem.W.fnOf name qual params body scope dV kV doc pm an cdv ct), osl⟩) (hcd : PySem.W.codeIn K cdv qual = true) (S : FnScope N ps scope)
  (len : ∀ vs H Q E, sp vs H Q E → vs.length = ps.length)
  (hbody : ∀ (A : Around) (outer : List Env) (s : Shared) (H : Hp) (vs : List V) (Q : VK) (E : XK), Room k (A.deeper (envOfC qual scope s.heap.objs.size f cdv)) → sp vs H Q E →
   ∃ t, PSs (cxOf CX P w K mg base N qual scope f cdv A outer s H E) body t ∧ t { nx := fun _ H' => Q .non H', rt := Q } (start N vs) H) :
  FnOk P w K mg base CX (k + 1) f (PySem.W.fnOf name qual params body scope dV kV doc pm an cdv ct) ps sp := by
 refine ⟨len, fun A outer s H args us vs Q E hr e0 hb r hsp => ?_⟩
 have hl := len _ _ _ _ hsp
 have KX : K.In s.heap := e0.mod.kin.keeps fun b o e => (e0.bs b o e).1
 have lim : s.heap.NoLimit := e0.mod.nolimit.keeps fun b o e => (e0.bs b o e).1
 have hkind : ∀ y ∈ ps.zip us, scope.names.lookup y.1 = some .local ∨ (scope.names.lookup y.1 = some .cell ∧ ((cellsFrom (s.heap.objs.size + 1) scope.names []).lookup y.1).isSome = true) := fun ⟨n, v⟩ hy => by
  rcases S.par n (List.of_mem_zip hy).1 with q | q
  ·exact .inl q
  ·exact .inr ⟨q, PySem.W.cellsFrom_some _ _ _ (.inl q)⟩
 refine codeAny_call_function hr.depth (KX _ _ lk) rfl S.co S.gen rfl (PySem.W.codeRec_of KX hcd) (hb _ _ _ _ ?_)
 refine wpAny_newFunctionEnv_cells S.kind hkind fun env he s1 x => ?_
 subst he
 refine ⟨lim.keeps x.toInCall.keep, codeAny_func ?_⟩
 obtain ⟨t, ht, hq⟩ := hbody A outer s H vs Q E (hr.deeper _) hsp
 have I : Inv (cxOf CX P w K mg base N qual scope f cdv A outer s H E) [] (start N vs) H s1 := inv_start S hr.hd e0 hl r x
 refine wpAny_mono (ht [] s1 (start N vs) H _ I hq) (fun fl s' hs => ?_) fun e s' hs => hs
 have fin : ∀ {σ' : St} {H' : Hp} {v : V} {u : Value}, Inv (cxOf CX P w K mg base N qual scope f cdv A outer s H E) [] σ' H' s' → RelV v u → Q v H' → CE outer P w H s Q u s' :=
  fun {σ' H' v u} J rv q => ⟨v, H', J.os, J.bare, J.base, J.hok, rv, q⟩
 cases fl with
 | ret u =>
  obtain ⟨v, σ', H', J, rv, q⟩ := hs
  exact fin J rv q
 | next =>
  obtain ⟨σ', H', J, q⟩ := hs
  exact fin (v := V.non) (u := Value.none) J rfl q
 | brk =>
  obtain ⟨_, _, _, q⟩ := hs
  exact False.elim q
 | cont =>
  obtain ⟨_, _, _, q⟩ := hs
  exact False.elim q
end L2
namespace L2
open PySem PySem.Spec PyProof.Rows
section
variable {X : Cx} {x : Str} {p pos : Pos} {e : Expr} {es : List Expr} {t : TA} {id T : String} {r : List V → Hp → VK → Prop}
def tCB (r : List V → Hp → VK → Prop) (t : TA) : TE := fun σ H Q => t σ H fun vs H1 => r vs H1 Q
theorem pe_callB (hc : CallR X (.builtin id) r) (hg : Gl X x) (hm : X.mg x = none) (hv : bootBuiltins x = some (.builtin id)) (ha : PA X (e :: es) t) (hn : x ≠ "__name__" := by decide) (hdb : (x == ("__debug__" : Str)) = false := by decide)
  (he : starEach (e :: es) X.env = (false, eval e X.env) :: starEach es X.env := by rfl) (hpl : (backTo pos (starEach es X.env)).any (·.1) = false := by rfl) : PE X (.Call (.Name x p) (e :: es) [] pos) (tCB r t) := by
 intro pins s σ H Q I h
 refine wpAny_Call_Name_kw (ld_blt I hg hm hv ?_ hn hdb)
 exact PyProof.Rows.callWith_builtin1 (thn (ha pos pins s σ H _ I h) fun us s1 ⟨vs, H1, I1, r1, q1⟩ => hc pins s1 σ H1 vs us Q I1 r1 q1) he hpl
theorem pe_callTy (hc : CallR X (.type T) r) (hg : Gl X x) (hm : X.mg x = none) (hv : bootBuiltins x = some (.type T)) (ha : PA X (e :: es) t) (hn : x ≠ "__name__" := by decide) (hdb : (x == ("__debug__" : Str)) = false := by decide)
  (he : starEach (e :: es) X.env = (false, eval e X.env) :: starEach es X.env := by rfl) (hpl : (backTo pos (starEach es X.env)).any (·.1) = false := by rfl) : PE X (.Call (.Name x p) (e :: es) [] pos) (tCB r t) := by
 intro pins s σ H Q I h
 refine wpAny_Call_Name_kw (ld_blt I hg hm hv ?_ hn hdb)
 exact PyProof.Rows.callWith_type1 (thn (ha pos pins s σ H _ I h) fun us s1 ⟨vs, H1, I1, r1, q1⟩ => hc pins s1 σ H1 vs us Q I1 r1 q1) he hpl
end
end L2
namespace HT
open PySem PyProof.Rows
section
open PySem.SeqAt
open PySem.AutoSeq1 (wpAny_loadPart')
open PySem.MeetsSeq PySem.MeetsSeq2 PySem.MeetsSeq3
end
section
variable {prog : Program} {w : World} {A : Around} {E : Value → Shared → Prop} {s : Shared}
theorem cat_tup {t b : Addr} {vs ws : List Value} {Q : Value → Shared → Prop} (ht : IsTup s.heap t vs.toArray) (hb : IsTup s.heap b ws.toArray) (hv : vs ≠ [])
  (h1 : ws = [] → Q (.ref t) s) (h2 : ws ≠ [] → Q (.ref s.heap.objs.size) { s with heap := s.heap.push { cls := .type "tuple", data := .seq (vs ++ ws).toArray } })
  (hsz : vs.length + ws.length ≤ sizeLine) : wpAny (model prog w) A (binaryOp .Add (.ref t) (.ref b)) Q E s := by
 obtain ⟨⟨cls, dd, data, sl⟩, ho, hc, n, hd⟩ := id ht
 obtain ⟨⟨cls2, dd2, data2, sl2⟩, ho2, hc2, n2, hd2⟩ := id hb
 simp only at hc hd hc2 hd2
 subst hc hd hc2 hd2
 have e : vs.toArray ++ ws.toArray = (vs ++ ws).toArray := by simp
 by_cases hw : ws = []
 ·exact concat_meets ⟨_, ho, rfl⟩ ⟨_, ho2, rfl⟩ noFill_tuple_add seq_tuple_add PySem.F.slot_tuple_add PySem.F.entry_tuple_add (PySem.F.args_tuple_add_2 _ _)
   (tuple_addW1 t b vs.toArray ws.toArray n n2 dd dd2 sl sl2 (by simpa using hv) (by simp [hw])) ⟨ho, ho2, h1 hw⟩
 ·refine concat_meets ⟨_, ho, rfl⟩ ⟨_, ho2, rfl⟩ noFill_tuple_add seq_tuple_add PySem.F.slot_tuple_add PySem.F.entry_tuple_add (PySem.F.args_tuple_add_2 _ _)
   (tuple_addW2 t b vs.toArray ws.toArray n n2 dd dd2 sl sl2 (by simpa using hv) (by simpa using hw) (by rw [List.size_toArray, List.size_toArray]; exact hsz)) ⟨ho, ho2, ?_⟩
  rw [e]
  exact h2 hw
def sIx (n d : Nat) : Option Int → Nat
 | none => d
 | some v => if v < 0 then (v + (n : Int)).toNat else min v.toNat n
theorem sIx_le (n d : Nat) (hd : d ≤ n) (o : Option Int) : sIx n d o ≤ n := by
 cases o with
 | none => exact hd
 | some v =>
  show (if v < 0 then (v + (n : Int)).toNat else min v.toNat n) ≤ n
  by_cases hv : v < 0
  ·rw [if_pos hv]; omega
  ·rw [if_neg hv]; exact Nat.min_le_right _ _
theorem clip_eq (v : Int) (n d : Nat) : (if v < 0 then max (v + (n : Int)) 0 else min v (n : Int)) = ((sIx n d (some v) : Nat) : Int) := by
 show (if v < 0 then max (v + (n : Int)) 0 else min v (n : Int)) = (((if v < 0 then (v + (n : Int)).toNat else min v.toNat n) : Nat) : Int)
 by_cases hv : v < 0
 ·simp only [if_pos hv]; omega
 ·simp only [if_neg hv]; omega
theorem adjust_gen (lo hi : Option Int) (n : Nat) : Builtin.Slice.sliceAdjust lo hi 1 (n : Int) = (((sIx n 0 lo : Nat) : Int), ((sIx n n hi : Nat) : Int)) := by
 have h1 : ¬ ((1 : Int) < 0) := by omega
 unfold Builtin.Slice.sliceAdjust
 simp only [h1, if_false]
 refine Prod.ext ?_ ?_
 ·cases lo with
  | none => rfl
  | some v => exact clip_eq v n 0
 ·cases hi with
  | none => rfl
  | some v => exact clip_eq v n n
theorem places_gen (i j : Nat) : Builtin.Slice.slicePlaces (i : Int) (j : Int) 1 = j - i := by
 unfold Builtin.Slice.slicePlaces
 have h1 : (1 : Int) > 0 := by omega
 simp only [h1, if_true, Int.ediv_one]
 split <;> omega
theorem slicePart_ {v : Value} {o : Option Int} {Q : Option Int → Shared → Prop} (p : IsPart v o) (h : Q o s) : wpAny (model prog w) A (Builtin.Slice.slicePartIndex v) Q E s := by
 cases p with
 | none => exact slicePart_none h
 | int i t => exact slicePart_int h
theorem sliceApplied_gen {sl : Addr} {vl vu : Value} {lo hi : Option Int} {n : Nat} {Q : Int × Int × Nat → Shared → Prop} (hs : s.heap.IsSliceOf sl vl vu .none) (pl : IsPart vl lo) (pu : IsPart vu hi)
  (h : Q (((sIx n 0 lo : Nat) : Int), 1, sIx n n hi - sIx n 0 lo) s) : wpAny (model prog w) A (Builtin.Slice.sliceApplied (.ref sl) (pure (n : Int))) Q E s := by
 obtain ⟨os, hos, hcs, hds⟩ := id hs
 unfold Builtin.Slice.sliceApplied Builtin.Slice.sliceFields
 refine wpAny_bind (wpAny_bind (wpAny_field hos hds (x := vl) rfl (wpAny_bind (wpAny_field hos hds (x := vu) rfl (wpAny_bind (wpAny_field hos hds (x := .none) rfl (wpAny_pure ?_)))))))
 refine wpAny_bind (slicePart_none ?_)
 show wpAny _ _ (if ((1 : Int) == 0) = true then _ else _) _ _ s
 rw [if_neg (by decide)]
 refine wpAny_bind (slicePart_ pl (wpAny_bind (slicePart_ pu (wpAny_bind (wpAny_pure ?_)))))
 show wpAny _ _ (match Builtin.Slice.sliceAdjust lo hi 1 (n : Int) with | (lo, hi) => pure (lo, (1 : Int), Builtin.Slice.slicePlaces lo hi 1)) _ _ s
 rw [adjust_gen lo hi n]
 show wpAny _ _ (pure (((sIx n 0 lo : Nat) : Int), (1 : Int), Builtin.Slice.slicePlaces ((sIx n 0 lo : Nat) : Int) ((sIx n n hi : Nat) : Int) 1)) _ _ s
 rw [places_gen]
 exact wpAny_pure h
theorem pick_gen (xs : Array Value) (i k : Nat) : ((List.range k).filterMap fun (m : Nat) => xs[((i : Int) + (m : Int) * 1).toNat]?).toArray = ((xs.toList.drop i).take k).toArray := by
 have e : (fun (m : Nat) => xs[((i : Int) + (m : Int) * 1).toNat]?) = fun m => xs[i + m]? := by
  funext m
  have : ((i : Int) + (m : Int) * 1).toNat = i + m := by omega
  rw [this]
 rw [e]
 have := pick_run xs i k
 rw [List.filterMap_map] at this
 have e2 : ((fun x => xs[x]?) ∘ fun x => i + x) = fun m => xs[i + m]? := rfl
 rw [e2] at this
 rw [this]
theorem getItem_tuple_cut {t sl : Addr} {items : Array Value} {vl vu : Value} {lo hi : Option Int} {Q : Value → Shared → Prop} (ht : IsTup s.heap t items) (hs : s.heap.IsSliceOf sl vl vu .none) (pl : IsPart vl lo) (pu : IsPart vu hi)
  (hw : ¬ (sIx items.size 0 lo = 0 ∧ sIx items.size items.size hi = items.size))
  (h : Q (.ref s.heap.objs.size) { s with heap := s.heap.push { cls := .type "tuple", data := .seq ((items.toList.drop (sIx items.size 0 lo)).take (sIx items.size items.size hi - sIx items.size 0 lo)).toArray } })
  (hsz : items.size ≤ sizeLine) : wpAny (model prog w) A (getItem (.ref t) (.ref sl)) Q E s := by
 have htake : sizeOk (.seq ((items.toList.drop (sIx items.size 0 lo)).take (sIx items.size items.size hi - sIx items.size 0 lo)).toArray) := by
  show ((items.toList.drop (sIx items.size 0 lo)).take (sIx items.size items.size hi - sIx items.size 0 lo)).toArray.size ≤ sizeLine
  rw [List.size_toArray, List.length_take, List.length_drop, Array.length_toList]
  omega
 have hj : sIx items.size items.size hi ≤ items.size := sIx_le _ _ (Nat.le_refl _) hi
 obtain ⟨os, hos, hcs, hds⟩ := id hs
 have hTs : s.TypeIs (.ref sl) "slice" := ⟨os, hos, hcs⟩
 unfold getItem
 try with_reducible refine wpAny_holding ?_
 first | refine wpAny_bind (wpAny_pure ?_) | skip
 refine wpAny_bind (wpAny_sequenceKey ht.typeIs (by decide) ?_)
 refine wpAny_bind (wpAny_callSpecial?_slot (name := Str.ofString "__getitem__") ht.typeIs PyProof.Rows.slot_tuple_getitem
  (wpAny_call_entry PyProof.Rows.slot_tuple_getitem ht.typeIs entry_tuple_getitem ?_ (args_tuple_getitem _ _)))
 show wpAny _ _ (Builtin.Tuple.tupleItemsOf (.ref t) >>= _) _ _ s
 refine wpAny_bind (tupleItemsOf_ ht ?_)
 refine wpAny_bind (wpAny_typeOf hTs ?_)
 rw [if_pos (by decide)]
 refine wpAny_bind (sliceApplied_gen hs pl pu ?_)
 have hno : ¬ ((((sIx items.size 0 lo : Nat) : Int) == 0 && (1 : Int) == 1 && (sIx items.size items.size hi - sIx items.size 0 lo) == items.size) = true) := by
  intro q
  rw [Bool.and_eq_true, Bool.and_eq_true] at q
  have q1 : ((sIx items.size 0 lo : Nat) : Int) = 0 := eq_of_beq q.1.1
  have q2 : sIx items.size items.size hi - sIx items.size 0 lo = items.size := eq_of_beq q.2
  exact hw ⟨by omega, by omega⟩
 show wpAny _ _ (if (((sIx items.size 0 lo : Nat) : Int) == 0 && (1 : Int) == 1 && (sIx items.size items.size hi - sIx items.size 0 lo) == items.size) = true then _ else _) _ _ s
 rw [if_neg hno, pick_gen]
 first
  | exact wpAny_bind (m := Builtin.Tuple.tupleExact _) (wpAny_newObj_type (wpAny_pure ⟨_, rfl, wpAny_pure h⟩) htake)
  | exact wpAny_bind (m := Builtin.Tuple.tupleExact _) (wpAny_newObj_type (wpAny_bind (wpAny_pure (wpAny_pure ⟨_, rfl, wpAny_pure h⟩))) htake)
  | exact wpAny_bind (wpAny_bind (m := Builtin.Tuple.tupleExact _) (wpAny_newObj_type (wpAny_pure (wpAny_pure ⟨_, rfl, wpAny_pure h⟩)) htake))
  | exact wpAny_bind (wpAny_bind (m := Builtin.Tuple.tupleExact _) (wpAny_newObj_type (wpAny_pure ⟨_, rfl, wpAny_pure h⟩) htake))
end
end HT
namespace L2
open PySem PySem.Spec PyProof.Rows
abbrev TO := St → Hp → (Option Int → Hp → Prop) → Prop
def PO (X : Cx) (e : Option Expr) (t : TO) : Prop :=
 ∀ (pins : List (Addr × Obj)) (s : Shared) (σ : St) (H : Hp) (Q : Option Int → Hp → Prop), Inv X pins σ H s → t σ H Q →
  wpAny (model X.prog X.w) X.A (evalPart e X.env) (fun u s' => ∃ o H', Inv X pins σ H' s' ∧ IsPart u o ∧ Q o H') X.xe s
def tNoPart : TO := fun _ H Q => Q none H
def tPart (t : TE) : TO := fun σ H Q => t σ H fun x H1 => ∃ i, x = .int i ∧ Q (some i) H1
section
variable {X : Cx} {e : Expr} {te : TE} {lo hi : Option Expr} {tl th : TO} {pos p2 : Pos}
theorem po_none : PO X none tNoPart := by
 intro pins s σ H Q I h
 rw [evalPart_none]
 exact wpAny_pure ⟨none, H, I, .none, h⟩
theorem po_some (h : PE X e te) : PO X (some e) (tPart te) := by
 intro pins s σ H Q I hw
 rw [evalPart_some]
 refine thn (h pins s σ H _ I hw) fun u s1 ⟨x, H1, I1, r1, q1⟩ => ?_
 obtain ⟨i, rfl, q⟩ := q1
 obtain ⟨t, rfl⟩ := r1
 exact ⟨some i, H1, I1, .int i t, q⟩
def SlR (X : Cx) (r : V → Option Int → Option Int → Hp → VK → Prop) : Prop :=
 ∀ (pins : List (Addr × Obj)) (s : Shared) (σ : St) (H : Hp) (x : V) (v vl vu : Value) (lo hi : Option Int) (sl : Addr) (Q : VK), Inv X pins σ H s → RelV x v → s.heap.IsSliceOf sl vl vu .none → IsPart vl lo → IsPart vu hi → r x lo hi H Q →
  ∃ T id, typeLookup (.type T) "__getitem__" = pure (some (.builtin id)) ∧ s.TypeIs v T ∧ wpAny (model X.prog X.w) X.A (getItem v (.ref sl)) (EP X pins σ Q) X.xe s
theorem SlR.or {r r' : V → Option Int → Option Int → Hp → VK → Prop} (h : SlR X r) (h' : SlR X r') : SlR X (fun x lo hi H Q => r x lo hi H Q ∨ r' x lo hi H Q) := by
 intro pins s σ H x v vl vu lo hi sl Q I rx hs pl pu q
 rcases q with q | q
 ·exact h pins s σ H x v vl vu lo hi sl Q I rx hs pl pu q
 ·exact h' pins s σ H x v vl vu lo hi sl Q I rx hs pl pu q
def tSl (r : V → Option Int → Option Int → Hp → VK → Prop) (te : TE) (tl th : TO) : TE := fun σ H Q => te σ H fun x H1 => tl σ H1 fun l H2 => th σ H2 fun u H3 => r x l u H3 Q
theorem pe_slice {r : V → Option Int → Option Int → Hp → VK → Prop} (hr : SlR X r) (he : PE X e te) (hl : PO X lo tl) (hu : PO X hi th) : PE X (.Subscript e (.Slice lo hi none p2) pos) (tSl r te tl th) := by
 intro pins s σ H Q I h
 refine Subscript_ (thn (he pins s σ H _ I h) fun v s1 ⟨x, H1, I1, r1, q1⟩ => ?_)
 refine wpAny_Slice (thn (hl pins s1 σ H1 _ I1 q1) fun vl s2 ⟨l, H2, I2, pl, q2⟩ => thn (hu pins s2 σ H2 _ I2 q2) fun vu s3 ⟨u, H3, I3, pu, q3⟩ => ?_)
 rw [evalPart_none]
 refine wpAny_pure ?_
 have I4 : Inv X pins σ H3 { s3 with heap := s3.heap.push { cls := .type "slice", data := .fields #[vl, vu, .none] } } := I3.kept (t' := s3.toks) fun b ob q => Heap.get?_push_of_some _ q
 obtain ⟨T, id, hT, ht, hg⟩ := hr pins { s3 with heap := s3.heap.push { cls := .type "slice", data := .fields #[vl, vu, .none] } } σ H3 x v vl vu l u s3.heap.objs.size Q I4 r1 (Heap.IsSliceOf.new ..) pl pu q3
 show wpAny (model X.prog X.w) X.A (subscriptTail e (.Slice lo hi none p2) v (.ref s3.heap.objs.size)) (EP X pins σ Q) X.xe { s3 with heap := s3.heap.push { cls := .type "slice", data := .fields #[vl, vu, .none] } }
 exact tail_any (ops := [.ref s3.heap.objs.size, v]) ht hT hg (by with_unfolding_all rfl)
def cutV (xs : List V) (lo hi : Option Int) : List V := (xs.drop (HT.sIx xs.length 0 lo)).take (HT.sIx xs.length xs.length hi - HT.sIx xs.length 0 lo)
theorem cutV_length (xs : List V) (lo hi : Option Int) : (cutV xs lo hi).length ≤ xs.length := by
 unfold cutV
 rw [List.length_take, List.length_drop]
 omega
def rSlT (K : PySem.W.Frag) : V → Option Int → Option Int → Hp → VK → Prop := fun x lo hi H Q => ∃ a xs, x = .ref a ∧ SqT K H a xs ∧
 ¬ (HT.sIx xs.length 0 lo = 0 ∧ HT.sIx xs.length xs.length hi = xs.length) ∧ ∀ p, H p = none → Q (.ref p) (upd H p (.tup (cutV xs lo hi)))
theorem sl_tup : SlR X (rSlT X.K) := by
 intro pins s σ H x v vl vu lo hi sl Q I rx hs pl pu h
 obtain ⟨a, xs, rfl, hx, hw, q⟩ := h
 cases rx
 obtain ⟨its, r, ht, hz⟩ := I.tuple hx
 have hlen : its.toArray.size = xs.length := by rw [List.size_toArray]; exact r.length.symm
 refine ⟨"tuple", _, PyProof.Rows.slot_tuple_getitem.lookup, ht.typeIs, ?_⟩
 refine HT.getItem_tuple_cut ht hs pl pu (by rw [hlen]; exact hw) ?_ (by rw [hlen]; exact hz)
 rw [hlen]
 refine ⟨.ref s.heap.objs.size, _, I.laid (t' := s.toks) (o := .tup (cutV xs lo hi)) (fun b ob q => Heap.get?_push_of_some _ q) (Nat.le_refl _) ?_, rfl, q _ (I.hok.fresh (Nat.le_refl _))⟩
 exact ⟨Nat.le_trans (cutV_length xs lo hi) hz, _, (r.drop (HT.sIx xs.length 0 lo)).take (HT.sIx xs.length xs.length hi - HT.sIx xs.length 0 lo), IsTup.new _ _⟩
def rCatT (K : PySem.W.Frag) : R2 := fun x y H Q => ∃ a b xs ys, x = .ref a ∧ y = .ref b ∧ SqT K H a xs ∧ SqT K H b ys ∧ xs ≠ [] ∧ xs.length + ys.length ≤ sizeLine ∧
 (ys = [] → Q (.ref a) H) ∧ (ys ≠ [] → ∀ p, H p = none → Q (.ref p) (upd H p (.tup (xs ++ ys))))
theorem Vals.nil_iff {xs : List V} {us : List Value} (r : Vals xs us) : us = [] ↔ xs = [] := by
 cases r with
 | nil => simp
 | cons _ _ => simp
theorem op_catT : OpR X (binaryOp .Add) (rCatT X.K) := by
 intro pins s σ H x y v u Q I rx ry h
 obtain ⟨a, b, xs, ys, rfl, rfl, ha, hb, hx, hz, q1, q2⟩ := h
 cases rx
 cases ry
 obtain ⟨its, r1, p1, _⟩ := I.tuple ha
 obtain ⟨its2, r2, p2, _⟩ := I.tuple hb
 refine HT.cat_tup p1 p2 (fun z => hx (r1.nil_iff.mp z)) (fun z => ⟨.ref a, H, I, rfl, q1 (r2.nil_iff.mp z)⟩) (fun z => ?_) (by rw [← r1.length, ← r2.length]; exact hz)
 refine ⟨.ref s.heap.objs.size, _, I.laid (t' := s.toks) (o := .tup (xs ++ ys)) (fun b ob q => Heap.get?_push_of_some _ q) (Nat.le_refl _) ?_, rfl, q2 (fun w => z (r2.nil_iff.mpr w)) _ (I.hok.fresh (Nat.le_refl _))⟩
 exact ⟨by rw [List.length_append]; exact hz, _, r1.append r2, IsTup.new _ _⟩
end
end L2
namespace L2
open PySem PySem.Spec PyProof.Rows
def ixN (n : Nat) (i : Int) : Option Nat := if 0 ≤ i then (if i < n then some i.toNat else none) else if -(n : Int) ≤ i then some (i + n).toNat else none
def atI {α : Type} (xs : List α) (i : Int) : Option α := (ixN xs.length i).bind fun j => xs[j]?
theorem ixN_seq {n : Nat} {i : Int} {j : Nat} (h : ixN n i = some j) : seqIndex? i n = some j ∧ j < n ∧ -(n : Int) ≤ i ∧ i < n := by
 unfold ixN at h
 by_cases h0 : 0 ≤ i
 ·rw [if_pos h0] at h
  by_cases h1 : i < n
  ·rw [if_pos h1] at h
   have e : i.toNat = j := Option.some.inj h
   exact ⟨by rw [seqIndex_of h0 h1, e], by omega, by omega, h1⟩
  ·rw [if_neg h1] at h; cases h
 ·rw [if_neg h0] at h
  by_cases h1 : -(n : Int) ≤ i
  ·rw [if_pos h1] at h
   have e : (i + n).toNat = j := Option.some.inj h
   exact ⟨by rw [seqIndex_neg (by omega) h1, e], by omega, h1, by omega⟩
  ·rw [if_neg h1] at h; cases h
theorem atI_get {α : Type} {xs : List α} {i : Int} {v : α} (h : atI xs i = some v) : ∃ j, seqIndex? i xs.length = some j ∧ xs[j]? = some v ∧ j < xs.length ∧ -(xs.length : Int) ≤ i ∧ i < xs.length := by
 unfold atI at h
 cases e : ixN xs.length i with
 | none => rw [e] at h; cases h
 | some j =>
  rw [e] at h
  obtain ⟨h1, h2, h3, h4⟩ := ixN_seq e
  exact ⟨j, h1, h, h2, h3, h4⟩
def PlainIx (b : Expr) : Prop := ∀ o i, subscripted b false o i = operate [o, i] (getItem o i)
def IxR (X : Cx) (r : R2) : Prop :=
 ∀ (value slice : Expr) (pins : List (Addr × Obj)) (s : Shared) (σ : St) (H : Hp) (x y : V) (v u : Value) (Q : VK), Inv X pins σ H s → RelV x v → RelV y u → r x y H Q →
  subscripted slice false v u = operate [v, u] (getItem v u) → wpAny (model X.prog X.w) X.A (subscriptTail value slice v u) (EP X pins σ Q) X.xe s
section
variable {X : Cx} {a b : Expr} {ta tb : TE} {pos : Pos}
theorem IxR.or {r r' : R2} (h : IxR X r) (h' : IxR X r') : IxR X (fun x y H Q => r x y H Q ∨ r' x y H Q) := by
 intro value slice pins s σ H x y v u Q I rx ry q hs
 rcases q with q | q
 ·exact h value slice pins s σ H x y v u Q I rx ry q hs
 ·exact h' value slice pins s σ H x y v u Q I rx ry q hs
theorem pe_ix {r : R2} (hr : IxR X r) (ha : PE X a ta) (hb : PE X b tb) (hs : PlainIx b) : PE X (.Subscript a b pos) (tOp r ta tb) := by
 intro pins s σ H Q I h
 exact Subscript_ (binT ha hb I h fun v u s2 x y H2 I2 rx ry q => hr a b pins s2 σ H2 x y v u Q I2 rx ry q (hs _ _))
def rIxL (K : PySem.W.Frag) : R2 := fun x y H Q => ∃ p xs i v, x = .ref p ∧ y = .int i ∧ SqL K H p xs ∧ atI xs i = some v ∧ Q v H
def rIxT (K : PySem.W.Frag) : R2 := fun x y H Q => ∃ p xs i v, x = .ref p ∧ y = .int i ∧ SqT K H p xs ∧ atI xs i = some v ∧ Q v H
def rIxS : R2 := fun x y H Q => ∃ z i c, x = .str z ∧ y = .int i ∧ z.length ≤ sizeLine ∧ atI z.cps.toList i = some c ∧ Q (.str ⟨#[c]⟩) H
theorem ix_list : IxR X (rIxL X.K) := by
 intro value slice pins s σ H x y v u Q I rx ry h hs
 obtain ⟨p, xs, i, z, rfl, rfl, hq, he, q⟩ := h
 cases rx
 obtain ⟨t, rfl⟩ := ry
 obtain ⟨its, r, pl, hz⟩ := I.list hq
 obtain ⟨j, h1, h2, h3, h4, h5⟩ := atI_get he
 obtain ⟨w, ew, rw'⟩ := r.get h2
 have hl := r.length
 have hn := line63
 have fin : EP X pins σ Q w s := ⟨z, H, I, rw', q⟩
 by_cases h0 : 0 ≤ i
 ·have hj : i.toNat = j := by
   rw [seqIndex_of h0 h5] at h1
   exact Option.some.inj h1
  exact item_listR pl.isList h0 (by omega) (by rw [hj]; simpa using ew) fin hs
 ·have hj : (i + (its.toArray.size : Int)).toNat = j := by
   rw [seqIndex_neg (by omega) h4] at h1
   rw [List.size_toArray, ← hl]
   exact Option.some.inj h1
  exact subscriptTail_builtinR (x := w) pl.isList.typeIs slot_list_getitem.lookup
   (wpAny_getItem_list_neg (Q := fun r s' => r = w ∧ EP X pins σ Q r s') pl.isList (by omega) (by rw [List.size_toArray] <;> omega) (by omega) (by rw [hj]; simpa using ew) ⟨rfl, fin⟩) hs
theorem ix_tup : IxR X (rIxT X.K) := by
 intro value slice pins s σ H x y v u Q I rx ry h hs
 obtain ⟨p, xs, i, z, rfl, rfl, hq, he, q⟩ := h
 cases rx
 obtain ⟨t, rfl⟩ := ry
 obtain ⟨its, r, pl, hz⟩ := I.tuple hq
 obtain ⟨j, h1, h2, h3, h4, h5⟩ := atI_get he
 obtain ⟨w, ew, rw'⟩ := r.get h2
 have hl := r.length
 have hn := line63
 have fin : EP X pins σ Q w s := ⟨z, H, I, rw', q⟩
 exact subscriptTail_builtinR (x := w) pl.typeIs slot_tuple_getitem.lookup
  (getItem_tuple (j := j) (Q := fun r s' => r = w ∧ EP X pins σ Q r s') pl (by omega) (by omega) (by rw [List.size_toArray, ← hl]; exact h1) (by simpa using ew) ⟨rfl, fin⟩) hs
theorem ix_str : IxR X rIxS := by
 intro value slice pins s σ H x y v u Q I rx ry h hs
 obtain ⟨z, i, c, rfl, rfl, hz, he, q⟩ := h
 obtain ⟨t, rfl⟩ := rx
 obtain ⟨t', rfl⟩ := ry
 obtain ⟨j, h1, h2, h3, h4, h5⟩ := atI_get he
 have hl : z.cps.toList.length = z.length := by simp [Str.length]
 rw [hl] at h1 h4 h5
 have hn := line63
 exact tail_any (typeIs_str s z t) slot_str_getitem.lookup (getItem_str (c := c) (by
  have e1 : decide (i < -(2 ^ 63 : Int)) = false := decide_eq_false (by omega)
  have e2 : decide (i ≥ 2 ^ 63) = false := decide_eq_false (by omega)
  rw [e1, e2, Bool.or_false]) (by rw [h1]; simpa using h2) ⟨.str ⟨#[c]⟩, H, I.tok _, ⟨_, rfl⟩, q⟩) hs
def rIx (K : PySem.W.Frag) : R2 := fun x y H Q => rIxL K x y H Q ∨ rIxT K x y H Q ∨ rIxS x y H Q
theorem ix_seq : IxR X (rIx X.K) := ix_list.or (ix_tup.or ix_str)
theorem mapSeq_set (its : List Value) (n j : Nat) (u : Value) : Obj.mapSeq (·.setIfInBounds j u) { cls := .type "list", data := .seq its.toArray n } = { cls := .type "list", data := .seq (its.set j u).toArray n } := by
 simp [Obj.mapSeq]
theorem Inv.lst {pins : List (Addr × Obj)} {σ : St} {H : Hp} {s : Shared} {p : Addr} {xs : List V} (I : Inv X pins σ H s) (h : H p = some (.lst xs)) :
  ∃ (its : List Value) (n : Nat), Vals xs its ∧ s.heap.get? p = some { cls := .type "list", data := .seq its.toArray n } ∧ xs.length ≤ sizeLine := by
 obtain ⟨z, its, n, r, e⟩ := I.hok p _ h
 exact ⟨its, n, r, e, z⟩
theorem Inv.lstUpd {pins : List (Addr × Obj)} {σ : St} {H : Hp} {s : Shared} {p : Addr} {xs ys : List V} {its its' : List Value} {n n' : Nat} {f : Obj → Obj} (I : Inv X pins σ H s) (h : H p = some (.lst xs))
  (ho : s.heap.get? p = some { cls := .type "list", data := .seq its.toArray n }) (hf : f { cls := .type "list", data := .seq its.toArray n } = { cls := .type "list", data := .seq its'.toArray n' }) (r : Vals ys its') (hz : ys.length ≤ sizeLine) (t : Nat) :
  Inv X pins σ (upd H p (.lst ys)) { s with heap := s.heap.update p f, toks := t } := by
 have e : (s.heap.update p f).get? p = some { cls := .type "list", data := .seq its'.toArray n' } := by
  rw [Heap.get?_update_self f ho (by rw [hf] <;> rfl), hf]
 refine I.write (x := p) (e := p) (by rw [h]; trivial) (.inl rfl) (fun b u hb q => (Heap.get?_update_other _ _ (Ne.symm hb)).trans q) ⟨_, e⟩ ?_
 exact ⟨hz, its', n', r, e⟩
def rSetL : V → V → V → Hp → (Hp → Prop) → Prop := fun o i v H Q => ∃ p xs k j, o = .ref p ∧ i = .int k ∧ H p = some (.lst xs) ∧ ixN xs.length k = some j ∧ Q (upd H p (.lst (xs.set j v)))
theorem set_list : PSet X rSetL := by
 intro pins s σ H o i v ov iv u Q I ro ri rv h
 obtain ⟨p, xs, k, j, rfl, rfl, hp, hj, q⟩ := h
 cases ro
 obtain ⟨t, rfl⟩ := ri
 obtain ⟨its, n, r, ho, hz⟩ := I.lst hp
 obtain ⟨h1, h2, h3, h4⟩ := ixN_seq hj
 have hl := r.length
 have hn := line63
 have I' : Inv X pins σ (upd H p (.lst (xs.set j v))) { s with heap := s.heap.update p (Obj.mapSeq (·.setIfInBounds j u)) } :=
  I.lstUpd hp ho (mapSeq_set its n j u) (r.set rv j) (by rw [List.length_set]; exact hz) s.toks
 by_cases h0 : 0 ≤ k
 ·have hk : k.toNat = j := by
   rw [seqIndex_of h0 h4] at h1
   exact Option.some.inj h1
  exact PySem.W.ki_setAt ho h0 (by omega) (by rw [List.size_toArray, ← hl]; exact h4) (by rw [hk]; exact ⟨_, I', q⟩)
 ·have hk : (k + (its.toArray.size : Int)).toNat = j := by
   rw [seqIndex_neg (by omega) h3] at h1
   rw [List.size_toArray, ← hl]
   exact Option.some.inj h1
  exact PySem.W.ki_setBack ho (by omega) (by rw [List.size_toArray, ← hl]; exact h3) (by omega) (by rw [hk]; exact ⟨_, I', q⟩)
theorem slice_bounds (lo hi : Option Int) (n : Nat) : (sliceBounds lo hi none n).1 = ((HT.sIx n 0 lo : Nat) : Int) ∧ (sliceBounds lo hi none n).2.1 = ((HT.sIx n n hi : Nat) : Int) ∧ (sliceBounds lo hi none n).2.2 = 1 := by
 refine ⟨?_, ?_, rfl⟩
 ·cases lo with
  | none => simp [sliceBounds, HT.sIx]
  | some i =>
   simp only [sliceBounds, HT.sIx, Option.getD_none, show (1 : Int) > 0 by decide, if_true]
   by_cases h : i < 0
   ·simp only [h, if_true] <;> omega
   ·simp only [h, if_false] <;> omega
 ·cases hi with
  | none => simp [sliceBounds, HT.sIx]
  | some i =>
   simp only [sliceBounds, HT.sIx, Option.getD_none, show (1 : Int) > 0 by decide, if_true]
   by_cases h : i < 0
   ·simp only [h, if_true] <;> omega
   ·simp only [h, if_false] <;> omega
theorem slicePick_cut (its : List Value) (lo hi : Option Int) : slicePick its.toArray lo hi none = ((its.drop (HT.sIx its.length 0 lo)).take (HT.sIx its.length its.length hi - HT.sIx its.length 0 lo)).toArray := by
 obtain ⟨h1, h2, h3⟩ := slice_bounds lo hi its.toArray.size
 unfold slicePick
 rw [h1, h2, h3]
 simp only [sliceRange_one, pick_run, List.size_toArray] <;> rfl
def rSlL (K : PySem.W.Frag) : V → Option Int → Option Int → Hp → VK → Prop := fun x lo hi H Q => ∃ a xs, x = .ref a ∧ SqL K H a xs ∧ ∀ p, H p = none → Q (.ref p) (upd H p (.lst (cutV xs lo hi)))
theorem sl_list : SlR X (rSlL X.K) := by
 intro pins s σ H x v vl vu lo hi sl Q I rx hs pl pu h
 obtain ⟨a, xs, rfl, hx, q⟩ := h
 cases rx
 obtain ⟨its, r, ht, hz⟩ := I.list hx
 have hlen := r.length
 refine ⟨"list", _, slot_list_getitem.lookup, ht.isList.typeIs, ?_⟩
 refine wpAny_getItem_list_slice ht.isList hs pl pu .none (by simp) ?_ (by rw [List.size_toArray] <;> omega)
 rw [slicePick_cut, ← hlen]
 refine ⟨.ref s.heap.objs.size, _, I.laid (t' := s.toks) (o := .lst (cutV xs lo hi)) (fun b ob q => Heap.get?_push_of_some _ q) (Nat.le_refl _) ?_, rfl, q _ (I.hok.fresh (Nat.le_refl _))⟩
 exact ⟨Nat.le_trans (cutV_length xs lo hi) hz, _, 0, (r.drop (HT.sIx xs.length 0 lo)).take (HT.sIx xs.length xs.length hi - HT.sIx xs.length 0 lo), Heap.get?_push_size _ rfl⟩
def flatV : V → Bool
 | .non => true
 | .bl _ => true
 | .int _ => true
 | .str _ => true
 | _ => false
def eqV : V → V → Bool
 | .non, .non => true
 | .bl a, .bl b => a == b
 | .bl a, .int b => (if a then 1 else 0) == b
 | .int a, .bl b => a == (if b then 1 else 0)
 | .int a, .int b => a == b
 | .str a, .str b => a == b
 | _, _ => false
theorem eqAt_V {A : Around} {s : Shared} {y x : V} {u v : Value} (ry : RelV y u) (rx : RelV x v) (fy : flatV y = true) (fx : flatV x = true) : SeqAt.EqAt A s u v (eqV y x) := by
 cases y with
 | non =>
  cases ry
  cases x with
  | non => cases rx; exact SeqAt.EqAt.same _
  | bl b => cases rx; exact SeqAt.EqAt.none_bool b
  | int b => obtain ⟨t, rfl⟩ := rx; exact SeqAt.EqAt.none_int b t
  | str b => obtain ⟨t, rfl⟩ := rx; exact SeqAt.EqAt.none_str b t
  | _ => exact absurd (show false = true from fx) Bool.false_ne_true
 | bl a =>
  cases ry
  cases x with
  | non => cases rx; exact SeqAt.EqAt.bool_none a
  | bl b => cases rx; exact SeqAt.EqAt.bool_bool a b
  | int b => obtain ⟨t, rfl⟩ := rx; exact SeqAt.EqAt.bool_int a b t
  | str b => obtain ⟨t, rfl⟩ := rx; exact SeqAt.EqAt.bool_str a b t
  | _ => exact absurd (show false = true from fx) Bool.false_ne_true
 | int a =>
  obtain ⟨t', rfl⟩ := ry
  cases x with
  | non => cases rx; exact SeqAt.EqAt.int_none a t'
  | bl b => cases rx; exact SeqAt.EqAt.int_bool a t' b
  | int b => obtain ⟨t, rfl⟩ := rx; exact SeqAt.EqAt.int_int a t' b t
  | str b => obtain ⟨t, rfl⟩ := rx; exact SeqAt.EqAt.int_str a t' b t
  | _ => exact absurd (show false = true from fx) Bool.false_ne_true
 | str a =>
  obtain ⟨t', rfl⟩ := ry
  cases x with
  | non => cases rx; exact SeqAt.EqAt.str_none a t'
  | bl b => cases rx; exact SeqAt.EqAt.str_bool a t' b
  | int b => obtain ⟨t, rfl⟩ := rx; exact SeqAt.EqAt.str_int a t' b t
  | str b => obtain ⟨t, rfl⟩ := rx; exact SeqAt.EqAt.str_str a t' b t
  | _ => exact absurd (show false = true from fx) Bool.false_ne_true
 | _ => exact absurd (show false = true from fy) Bool.false_ne_true
def inV (x : V) (xs : List V) : Bool := xs.any fun y => eqV y x
theorem call_len_seq : CallR X (.builtin "len") (fun xs H Q => ∃ p ys, xs = [.ref p] ∧ (SqL X.K H p ys ∨ SqT X.K H p ys) ∧ Q (.int ys.length) H) := by
 intro pins s σ H xs us Q I r h
 obtain ⟨p, ys, rfl, hq, q⟩ := h
 obtain ⟨u, rfl, rx⟩ := vals1 r
 cases rx
 have hn := line63
 rcases hq with hq | hq
 ·obtain ⟨its, r', pl, hz⟩ := I.list hq
  have hlen := r'.length
  exact Calls.call_len_list pl.isList (by simp only [List.size_toArray] <;> omega) ⟨.int ys.length, H, I.tok _, ⟨s.toks + 1, by rw [List.size_toArray, hlen]⟩, q⟩
 ·obtain ⟨its, r', pl, hz⟩ := I.tuple hq
  have hlen := r'.length
  exact len_tuple pl (by simp only [List.size_toArray] <;> omega) ⟨.int ys.length, H, I.tok _, ⟨s.toks + 1, by rw [List.size_toArray, hlen]⟩, q⟩
theorem call_len_str : CallR X (.builtin "len") (fun xs H Q => ∃ z, xs = [.str z] ∧ z.length ≤ sizeLine ∧ Q (.int z.length) H) := by
 intro pins s σ H xs us Q I r h
 obtain ⟨z, rfl, hz, q⟩ := h
 obtain ⟨u, rfl, t, rfl⟩ := vals1 r
 have hn := line63
 exact len_str (by omega) ⟨.int z.length, H, I.tok _, ⟨_, rfl⟩, q⟩
theorem CallR.or {f : Value} {r r' : List V → Hp → VK → Prop} (h : CallR X f r) (h' : CallR X f r') : CallR X f (fun xs H Q => r xs H Q ∨ r' xs H Q) := by
 intro pins s σ H xs us Q I rs q
 rcases q with q | q
 ·exact h pins s σ H xs us Q I rs q
 ·exact h' pins s σ H xs us Q I rs q
theorem call_list_of : CallR X (.type "list") (fun xs H Q => ∃ p ys, xs = [.ref p] ∧ (SqL X.K H p ys ∨ SqT X.K H p ys) ∧ ∀ l, H l = none → Q (.ref l) (upd H l (.lst ys))) := by
 intro pins s σ H xs us Q I r h
 obtain ⟨p, ys, rfl, hq, q⟩ := h
 obtain ⟨u, rfl, rx⟩ := vals1 r
 cases rx
 have fin : ∀ (its : List Value), Vals ys its → ys.length ≤ sizeLine → ∀ (h' : Heap) (c' : Nat), (∀ b o', s.heap.get? b = some o' → h'.get? b = some o') →
   h'.get? s.heap.objs.size = some { cls := .type "list", dict := none, data := .seq its.toArray c', slots := #[] } → EP X pins σ Q (.ref s.heap.objs.size) { s with heap := h' } := fun its r' hz h' c' kp e =>
  ⟨.ref s.heap.objs.size, _, I.laid (t' := s.toks) kp (Nat.le_refl _) (show ObjOk X.prog X.w _ h' _ (.lst ys) from ⟨hz, its, c', r', e⟩), rfl, q _ (I.hok.fresh (Nat.le_refl _))⟩
 rcases hq with hq | hq
 ·obtain ⟨its, r', pl, hz⟩ := I.list hq
  have hlen := r'.length
  obtain ⟨o, ho, hc, n, hd⟩ := pl.isList
  exact call_list_seq p (.inl rfl) ho hc hd (fun h' c' kp e => fin its r' hz h' c' kp e) (by simp only [List.size_toArray] <;> omega)
 ·obtain ⟨its, r', pl, hz⟩ := I.tuple hq
  have hlen := r'.length
  obtain ⟨o, ho, hc, n, hd⟩ := pl
  exact call_list_seq p (.inr rfl) ho hc hd (fun h' c' kp e => fin its r' hz h' c' kp e) (by simp only [List.size_toArray] <;> omega)
theorem call_tuple_of : CallR X (.type "tuple") (fun xs H Q => ∃ p ys, xs = [.ref p] ∧ ((SqL X.K H p ys ∧ ∀ l, H l = none → Q (.ref l) (upd H l (.tup ys))) ∨ (SqT X.K H p ys ∧ Q (.ref p) H))) := by
 intro pins s σ H xs us Q I r h
 obtain ⟨p, ys, rfl, h⟩ := h
 obtain ⟨u, rfl, rx⟩ := vals1 r
 cases rx
 rcases h with ⟨hq, q⟩ | ⟨hq, q⟩
 ·obtain ⟨its, r', pl, hz⟩ := I.list hq
  have hlen := r'.length
  refine call_tuple_list pl.isList (fun h' kp => ?_) (by simp only [List.size_toArray] <;> omega)
  have I1 : Inv X pins σ H { s with heap := h' } := I.kept (t' := s.toks) kp
  have I2 : Inv X pins σ (upd H h'.objs.size (.tup ys)) { s with heap := h'.push { cls := .type "tuple", data := .seq its.toArray } } :=
   I1.laid (t' := s.toks) (fun b o e => Heap.get?_push_of_some _ e) (Nat.le_refl _) (show ObjOk X.prog X.w _ _ _ (.tup ys) from ⟨hz, its, r', IsTup.new _ _⟩)
  exact ⟨.ref h'.objs.size, _, I2, rfl, q _ (I1.hok.fresh (Nat.le_refl _))⟩
 ·obtain ⟨its, r', pl, hz⟩ := I.tuple hq
  exact call_tuple_same pl ⟨.ref p, H, I, rfl, q⟩
variable {o e : Expr} {es : List Expr} {to : TE} {t : TA} {name : Str} {apos cpos : Pos} {T id : String} {r : V → List V → Hp → VK → Prop}
end
end L2
namespace L2
open PySem PySem.Spec PyProof.Rows
def MtM (X : Cx) (id : String) (r : V → List V → Hp → VK → Prop) : Prop :=
 ∀ (pins : List (Addr × Obj)) (s : Shared) (σ : St) (H : Hp) (x : V) (xs : List V) (v : Value) (us : List Value) (Q : VK), Inv X pins σ H s → RelV x v → Vals xs us → r x xs H Q →
  wpAny (model X.prog X.w) X.A (call (.builtin id) (v :: us)) (EP X pins σ Q) X.xe s
theorem Vals.one : ∀ {x : V} {us : List Value}, Vals [x] us → ∃ u, us = [u] ∧ RelV x u
 | _, _, .cons r .nil => ⟨_, rfl, r⟩
theorem Vals.two : ∀ {x y : V} {us : List Value}, Vals [x, y] us → ∃ u v, us = [u, v] ∧ RelV x u ∧ RelV y v
 | _, _, _, .cons r (.cons q .nil) => ⟨_, _, rfl, r, q⟩
section
variable {X : Cx} {pins : List (Addr × Obj)} {σ : St} {H : Hp} {s : Shared} {l b : Addr} {xs ys zs : List V}
theorem Inv.lset {its its' : List Value} {n : Nat} {f : Array Value → Array Value} {t' : Nat} (I : Inv X pins σ H s) (hH : H l = some (.lst xs))
  (e : s.heap.get? l = some { cls := .type "list", data := .seq its.toArray n }) (hf : f its.toArray = its'.toArray) (hv : Vals ys its') (hz : ys.length ≤ sizeLine) :
  Inv X pins σ (upd H l (.lst ys)) { s with heap := s.heap.update l (Obj.mapSeq f), toks := t' } := by
 have q := PySem.IsL.update e f
 rw [hf] at q
 refine I.write (x := l) (e := l) (by rw [hH]; exact trivial) (.inl rfl) (fun b' u hb hu => (Heap.get?_update_other s.heap (Obj.mapSeq f) (Ne.symm hb)).trans hu) ⟨_, q⟩ ?_
 exact ⟨hz, its', _, hv, q⟩
theorem Inv.lnew {its : List Value} {t' : Nat} (I : Inv X pins σ H s) (hv : Vals ys its) (hz : ys.length ≤ sizeLine) :
  Inv X pins σ (upd H s.heap.objs.size (.lst ys)) { s with heap := s.heap.push { cls := .type "list", data := .seq its.toArray }, toks := t' } :=
 I.laid (fun _ _ q => Heap.get?_push_of_some _ q) (Nat.le_refl _) ⟨hz, its, 0, hv, Heap.get?_push_size _ rfl⟩
theorem Inv.fresh (I : Inv X pins σ H s) : H s.heap.objs.size = none := I.hok.fresh (Nat.le_refl _)
theorem Inv.lstM (I : Inv X pins σ H s) (hH : H l = some (.lst xs)) : xs.length ≤ sizeLine ∧ ∃ (its : List Value) (n : Nat), Vals xs its ∧ xs.length = its.length ∧ s.heap.get? l = some { cls := .type "list", data := .seq its.toArray n } := by
 obtain ⟨z, its, n, r, e⟩ := I.hok l _ hH
 exact ⟨z, its, n, r, r.length, e⟩
end
section
variable {X : Cx}
def rAppend : V → List V → Hp → VK → Prop := fun x vs H Q => ∃ l xs y, x = .ref l ∧ vs = [y] ∧ H l = some (.lst xs) ∧ xs.length < sizeLine ∧ Q .non (upd H l (.lst (xs ++ [y])))
theorem mt_append : MtM X "list.append" rAppend := by
 intro pins s σ H x vs v us Q I rx rv h
 obtain ⟨l, xs, y, rfl, rfl, hH, hz, q⟩ := h
 cases rx
 obtain ⟨u, rfl, ru⟩ := rv.one
 obtain ⟨z, its, n, r, hl, e⟩ := I.lstM hH
 refine call_meets F.slot_list_append ⟨_, e, rfl⟩ F.entry_list_append (F.args_list_append_2 _ _) (PySem.list_append l its.toArray n u (by rw [List.size_toArray]; omega)) ⟨e, ?_⟩
 refine ⟨.non, _, I.lset (its' := its ++ [u]) hH e (by simp) (r.append (.cons ru .nil)) ?_, rfl, q⟩
 rw [List.length_append, List.length_singleton]
 omega
end
section
variable {prog : Program} {w : World} {A : Around} {E : Value → Shared → Prop} {s : Shared}
end
section
variable {X : Cx}
end
end L2
namespace Att
open PySem PySem.W PySem.Calls PyProof.Rows
theorem ints_of_wellAll {P : Params} {h : Heap} : ∀ (ns : List Int) (vs : List Value), WellAll P h vs (ns.map WData.int) → IntsAre vs ns := by
 intro ns
 induction ns with
 | nil =>
  intro vs w
  rw [List.map_nil] at w
  cases w
  exact .nil
 | cons n ns ih =>
  intro vs w
  rw [List.map_cons] at w
  cases w with
  | cons a b =>
   cases a
   exact .cons _ _ (ih _ b)
theorem script_of {l : OpenLaw} {n : Nat} (hn : l.most = some n) {P : Params} {h : Heap} {args : List WData} {vals : List Value}
  (hpre : l.row.toRowW.claim.pre args = true) (hwl : WellAll P h vals args) :
  ∃ a vs ns, vals = [Value.ref a] ∧ args = [WData.list (ns.map WData.int)] ∧ h.get? a = some { cls := .type "list", data := .seq vs.toArray } ∧ IntsAre vs ns ∧ ns.length ≤ n := by
 have hsh : WShape.hasAll [] args [.list .int] = true := (pre_splitW hpre).1
 have hc : l.pre.holds [] { args := args } = true := (pre_splitW hpre).2
 obtain ⟨d, r, rfl, h1, h2⟩ := hasAllW_cons hsh
 obtain rfl := hasAllW_nil h2
 obtain ⟨xs, rfl, h3⟩ := hasW_list h1
 obtain ⟨ns, rfl⟩ := items_int h3
 have hlen : ns.length ≤ n := by
  unfold OpenLaw.pre at hc
  have h4 : (WTm.not (.lt (.lit (.int (n : Int))) (.len (.arg 0)))).holds [] { args := [.list (ns.map .int)] } = true := by
   have h4 := (holds_andW hc).1
   rw [hn] at h4
   exact h4
  have h5 := condW_of h4 (w_not (w_lt w_lit (w_len_list (w_arg rfl))))
  rw [List.length_map] at h5
  refine Nat.le_of_not_lt fun q => ?_
  have q' : (n : Int) < ((ns.length : Nat) : Int) := by omega
  first
   | (rw [decide_eq_true q'] at h5; exact absurd h5 (by decide))
   | (simp at h5; omega)
 cases hwl with
 | cons w1 w2 =>
  cases w2
  cases w1 with
  | list ho hall => exact ⟨_, _, ns, rfl, rfl, ho, ints_of_wellAll ns _ hall, hlen⟩
theorem post_true (l : OpenLaw) (args : List WData) : l.row.toRowW.claim.post args (.bool true) args = true :=
 postW_of (r := l.row.toRowW) (X := (true == true))
  (show WShape.has [] (.bool true) .bool = true by first | rfl | decide | simp [WShape.has, WShape.arms, WShape.armsAll])
  (show (WTm.eq .res (.lit (.bool true))).value [] { args := args, res := some (.bool true), after := args } = some (.bool (true == true)) from w_eq_bool (w_res rfl) w_lit) rfl
theorem attach_call {l : OpenLaw} {n : Nat} {q : Program} {loose : List Str} {XP : (Str → Option Value) → Heap → Prop} {YP : World → Heap → Prop} {d : DefRec}
  (hn : l.most = some n) (hdf : d.params.defaults = [])
  (call : ∀ (w : World) (s₀ s₁ : Shared) (mg mb : Str → Option Value) (fa : Addr) (o : Obj) (pm cd doc : Value) (a : Addr) (vs : List Value) (ns : List Int),
   Ground q loose [] XP w s₀ mg mb s₁.heap → YP w s₁.heap →
   s₁.heap.get? fa = some o → o.data = .func (docDef d.name d.params d.body d.scope pm cd doc) → s₁.heap.CodeRec cd d.name → mg d.name = some (.ref fa) →
   s₁.heap.get? a = some { cls := .type "list", data := .seq vs.toArray } → IntsAre vs ns → ns.length ≤ n → s₁.gens = #[] →
   codeAny (model l.prog w) callerA (.call (.ref fa) ⟨[.ref a], []⟩) (fun r s' => r = .ok (.ret (.bool true)) ∧ OldK s₁.heap s'.heap ∧ s'.os = s₁.os ∧ AllBare s'.gens) s₁) :
  WalkO q loose XP YP l.row.toRowW d [] (fun f vs => PySem.call f vs) := by
 intro w s₀ s₁ mg mb G Y fa o pm cd doc dV kV ho hd hcd hD hmg hg args vals as hpre hlay hrd hwl hlo
 obtain rfl : dV = .none := Dflts.none hD hdf
 obtain rfl : kV = .none := Dflts.noKw hD
 obtain ⟨a, vs, ns, rfl, rfl, hobj, hints, hlen⟩ := script_of hn hpre hwl
 refine enter_call (codeAny_mono (call w s₀ s₁ mg mb fa o pm cd doc a vs ns G Y ho (fd_plain hd) hcd hmg hobj hints hlen hg) fun r s' hq => ?_)
 obtain ⟨rfl, h2, h3, h4⟩ := hq
 exact ⟨.inl ⟨.bool true, .bool true, [], rfl, fun _ => rfl, .bool true, post_true l _, fun _ => ⟨List.Pairwise.nil, fun _ hm => (nomatch hm)⟩⟩, h2, h3, h4⟩
section
variable {prog : Program} {w : World} {A : Around} {E : Value → Shared → Prop} {s : Shared} {K : Frag}
end
end Att
namespace L2
open PySem PySem.Spec PyProof.Rows
theorem vals_ints : ∀ {vs : List Value} {ns : List Int}, IntsAre vs ns → Vals (ns.map V.int) vs
 | _, _, .nil => .nil
 | _, _, .cons n t h => .cons ⟨t, rfl⟩ (vals_ints h)
def Only (H : Hp) : Prop := ∀ b, H b = none ∨ ∃ o xs, H b = some (.frz o (.lst xs))
theorem law_call {P : Program} {w : World} {K : PySem.W.Frag} {mg mb : Str → Option Value} {CX : CXT} {k : Nat} {fa a : Addr} {fd : FuncData} {x : Str} {sp : Sp} {s₁ : Shared} {vs : List Value} {ns : List Int}
  (KX : K.In s₁.heap) (hns : s₁.heap.Ns mainGlobals mg) (hb : s₁.heap.Ns builtinsNs mb) (hbb : ∀ x : Str, x ≠ "__name__" → mb x = bootBuiltins x) (hlim : s₁.heap.NoLimit) (hg : s₁.gens = #[])
  (ha : s₁.heap.get? a = some { cls := .type "list", data := .seq vs.toArray }) (hi : IntsAre vs ns) (hl : ns.length ≤ sizeLine) (hr : Room k callerA)
  (F : ∀ base : Heap, K.In base → base.Ns mainGlobals mg → FnOk P w K mg base CX k fa fd [x] sp) (hbind : ∀ (s : Shared) (u : Value), BindsTo s fd ⟨[u], []⟩ [(x, u)])
  (hsp : ∀ H : Hp, Only H → SqL K H a (ns.map V.int) → sp [.ref a] H (fun v _ => v = .bl true) fun _ _ _ => False)
  (hCX : ∀ H e s', CX [] H s₁ (fun _ _ _ => False) e s' → False) :
  codeAny (model P w) callerA (.call (.ref fa) ⟨[.ref a], []⟩) (fun r s' => r = .ok (.ret (.bool true)) ∧ OldK s₁.heap s'.heap ∧ s'.os = s₁.os ∧ AllBare s'.gens) s₁ := by
 have rv := vals_ints hi
 have lenV := hi.length
 have core : ∀ H : Hp, Only H → SqL K H a (ns.map V.int) → HOk P w H s₁.heap → (∀ b, H b ≠ none → b = a) → (H a ≠ none → K.lookup a = none) →
   codeAny (model P w) callerA (.call (.ref fa) ⟨[.ref a], []⟩) (fun r s' => r = .ok (.ret (.bool true)) ∧ OldK s₁.heap s'.heap ∧ s'.os = s₁.os ∧ AllBare s'.gens) s₁ := by
  intro H hO hS hok hA hK
  have base_of : ∀ {b : Addr} {o : Obj}, s₁.heap.get? b = some o → H b = none → (hidT s₁.heap H).get? b = some o := fun e n => hidT_get e n
  have noA : ∀ {b : Addr} {o : Obj} {es : Array DictEntry} {ep : Nat}, s₁.heap.get? b = some o → o.data = .dict es ep → H b = none := fun {b o es ep} e d => by
   cases q : H b with
   | none => rfl
   | some u =>
    have e' : b = a := hA b (by rw [q]; simp)
    subst e'
    rw [ha] at e; cases e
    have d' : Data.seq vs.toArray _ = Data.dict es ep := d
    cases d'
  have nsK : ∀ {b : Addr} {m : Str → Option Value}, s₁.heap.Ns b m → (hidT s₁.heap H).Ns b m := fun {b m} ⟨o, es, ep, e, d, r⟩ => ⟨o, es, ep, base_of e (noA e d), d, r⟩
  have hKb : K.In (hidT s₁.heap H) := fun b o e => base_of (KX b o e) (by
   cases q : H b with
   | none => rfl
   | some u =>
    have e' : b = a := hA b (by rw [q]; simp)
    subst e'
    rw [hK (by rw [q]; simp)] at e; cases e)
  have hM : Mod K mg (hidT s₁.heap H) := ⟨hKb, nsK hns, ⟨mb, nsK hb, hbb⟩, let ⟨mc, h1, h2⟩ := hlim; ⟨mc, nsK h1, h2⟩⟩
  have e0 : Env0 P w K mg (hidT s₁.heap H) callerA [] s₁ H := ⟨rfl, hM, fun b o e => of_hidT e, Nat.le_of_eq (hidT_size _ _), trivial, fun b hb => absurd (show b ∈ ([] : List Addr) from hb) (by simp), hok, .of_eq hg⟩
  refine codeAny_mono ((F _ hKb (nsK hns)).run callerA [] s₁ H ⟨[.ref a], []⟩ [.ref a] [.ref a] _ _ hr e0 (hbind s₁ (.ref a)) (.cons rfl .nil) (hsp H hO hS)) fun r s' h => ?_
  cases r with
  | error e => exact (hCX H e s' h).elim
  | ok fl =>
   cases fl with
   | next => exact False.elim h
   | brk => exact False.elim h
   | cont => exact False.elim h
   | ret u =>
    obtain ⟨v, H', os, bare, un, hok', r', q⟩ := h
    have q' : v = .bl true := q
    subst q'
    obtain rfl : u = Value.bool true := r'
    refine ⟨rfl, OldK.of_keep fun b o e => ?_, os, bare⟩
    cases q : H b with
    | none => exact un.keep b o e q (by intro z; exact absurd (show b ∈ ([] : List Addr) from z) (by simp)) (by simp)
    | some u =>
     rcases hO b with z | ⟨ob, xs, z⟩
     ·rw [q] at z; cases z
     ·have z2 := un.frzs b ob _ z
      obtain ⟨e1, _⟩ := hok b _ z
      obtain ⟨e2, _⟩ := hok' b _ z2
      rw [e] at e1; cases e1
      exact e2
 cases hk : K.lookup a with
 | some o =>
  have e := KX a o hk
  rw [ha] at e
  cases e
  refine core (fun _ => none) (fun _ => .inl rfl) (.inr ⟨_, vs.toArray, _, hk, rfl, rfl, rfl, by rw [List.size_toArray, lenV]; exact hl, by simpa using rv⟩) (fun b u z => by have z' : (none : Option HO) = some u := z; cases z') (fun b z => absurd rfl z) fun z => absurd rfl z
 | none =>
  refine core (fun b => if b = a then some (.frz { cls := .type "list", data := .seq vs.toArray } (.lst (ns.map V.int))) else none) (fun b => ?_) (.inl (.inr ⟨{ cls := .type "list", data := .seq vs.toArray }, if_pos rfl⟩)) (fun b u z => ?_) (fun b z => ?_) fun _ => hk
  ·by_cases hb : b = a
   ·exact .inr ⟨_, _, if_pos hb⟩
   ·exact .inl (if_neg hb)
  ·by_cases hb : b = a
   ·have z' := (if_pos hb).symm.trans z
    cases z'
    subst hb
    exact ⟨ha, by rw [List.length_map]; exact hl, vs, _, rv, ha⟩
   ·have z' := (if_neg hb).symm.trans z
    cases z'
  ·by_cases hb : b = a
   ·exact hb
   ·exact absurd (if_neg hb) z
end L2
namespace L2
open PySem PySem.Spec PyProof.Rows
theorem walk_of {l : PySem.W.OpenLaw} {n k : Nat} {q : Program} {loose : List Str} {XP : (Str → Option Value) → Heap → Prop} {YP : World → Heap → Prop} {d : DefRec} {K : Params → PySem.W.Frag} {CX : World → CXT} {sp : World → Sp} {x : Str}
  (hn : l.most = some n) (hn2 : n ≤ sizeLine) (hdf : d.params.defaults = []) (hr : Room k callerA)
  (hY : ∀ (w : World) (h : Heap), YP w h → (K w.params).In h)
  (F : ∀ (w : World) (mg : Str → Option Value) (fa : Addr) (h : Heap), (K w.params).In h → h.Ns mainGlobals mg → mg d.name = some (.ref fa) →
   ∃ fd : FuncData, (∀ (s : Shared) (u : Value), BindsTo s fd ⟨[u], []⟩ [(x, u)]) ∧
    ∀ base : Heap, (K w.params).In base → base.Ns mainGlobals mg → FnOk l.prog w (K w.params) mg base (CX w) k fa fd [x] (sp w))
  (hsp : ∀ (w : World) (H : Hp) (a : Addr) (ns : List Int), ns.length ≤ n → Only H → SqL (K w.params) H a (ns.map V.int) → sp w [.ref a] H (fun v _ => v = .bl true) fun _ _ _ => False)
  (hCX : ∀ (w : World) (H : Hp) (s : Shared) (e : Value) (s' : Shared), CX w [] H s (fun _ _ _ => False) e s' → False) :
  PySem.W.WalkO q loose XP YP l.row.toRowW d [] (fun f vs => PySem.call f vs) := by
 refine Att.attach_call hn hdf fun w s₀ s₁ mg mb fa o pm cd doc a vs ns G Y ho hd hcd hmg hobj hints hlen hg => ?_
 have KX := hY w _ Y
 obtain ⟨fd, hb, hF⟩ := F w mg fa _ KX G.T.g hmg
 exact law_call KX G.T.g G.T.b G.T.builtins G.T.nolimit hg hobj hints (Nat.le_trans hlen hn2) hr hF hb (fun H hO hS => hsp w H a ns hlen hO hS) fun H e s' => hCX w H s₁ e s'
end L2
namespace L2
open PySem PySem.Spec PyProof.Rows
def defArgs (s : Stmt) : Arguments := match s with
 | .FunctionDef _ a _ _ _ _ _ _ _ _ => a
 | _ => { posonlyargs := [], args := [], vararg := none, kwonlyargs := [], kw_defaults := [], kwarg := none, defaults := [] }
def defBody (s : Stmt) : List Stmt := match s with
 | .FunctionDef _ _ b _ _ _ _ _ _ _ => b
 | _ => []
def defScope (s : Stmt) : Scope := match s with
 | .FunctionDef _ _ _ _ _ _ sc _ _ _ => sc
 | _ => { kind := .function, names := [], isGenerator := false, isCoroutine := false }
structure Fun (K : PySem.W.Frag) (x qual : Str) (st : Stmt) (f : Addr) (fd : FuncData) : Prop where
 ex : ∃ (oc : Value) (od : Option Addr) (kV doc pm : Value) (an : Option Addr) (cdv ct : Value) (osl : Array (Option Value)),
  fd = PySem.W.fnOf x qual (defArgs st) (defBody st) (defScope st) .none kV doc pm an cdv ct ∧ K.lookup f = some ⟨oc, od, .func fd, osl⟩ ∧ PySem.W.codeIn K cdv qual = true
 kp : PySem.W.keepIn K (.ref f) = true
section
variable {P : Program} {w : World} {K : PySem.W.Frag} {mg : Str → Option Value} {base : Heap}
theorem Fun.binds {x qual : Str} {st : Stmt} {f : Addr} {fd : FuncData} {ps : List Str} (F : Fun K x qual st f fd)
  (h : ∀ (kV doc pm : Value) (an : Option Addr) (cdv ct : Value) (us : List Value), us.length = ps.length → bindArgs (PySem.W.fnOf x qual (defArgs st) (defBody st) (defScope st) .none kV doc pm an cdv ct) ⟨us, []⟩ = pure (ps.zip us)) : Binds K fd ps [] := by
 obtain ⟨oc, od, kV, doc, pm, an, cdv, ct, osl, rfl, lk, hcd⟩ := F.ex
 exact .all (h kV doc pm an cdv ct)
theorem fun_mk {x qual : Str} {st : Stmt} {f : Addr} {oc : Value} {od an : Option Addr} {osl : Array (Option Value)} {kV doc pm cdv ct : Value} (l : K.lookup f = some ⟨oc, od, .func (PySem.W.fnOf x qual (defArgs st) (defBody st) (defScope st) .none kV doc pm an cdv ct), osl⟩)
  (c : PySem.W.codeIn K cdv qual = true) (k : PySem.W.keepIn K (.ref f) = true) : Fun K x qual st f (PySem.W.fnOf x qual (defArgs st) (defBody st) (defScope st) .none kV doc pm an cdv ct) := ⟨⟨oc, od, kV, doc, pm, an, cdv, ct, osl, rfl, l, c⟩, k⟩
end
theorem small1000 {n : Nat} (h : n ≤ 1000) : n < sizeLine := Nat.lt_of_le_of_lt h (by decide)
section
variable {X : Cx}
end
theorem iteF {A B : Prop} (h : B) : if false = true then A else B := by
 rw [if_neg Bool.false_ne_true]
 exact h
theorem iteT {A B : Prop} (h : A) : if true = true then A else B := by
 rw [if_pos rfl]
 exact h
end L2
namespace L2.L3
open PySem PySem.Spec PyProof.Rows
section
variable {P : Program} {w : World} {H : Hp} {h : Heap} {a : Addr} {o : HO}
theorem obj_there (x : ObjOk P w H h a o) : ∃ ob, h.get? a = some ob := by
 cases o with
 | lst xs => exact let ⟨_, _, _, _, e⟩ := x; ⟨_, e⟩
 | tup xs => exact let ⟨_, _, _, ob, e, _⟩ := x; ⟨ob, e⟩
 | dK kvs => exact let ⟨_, _, _, _, ob, _, _, e, _⟩ := x; ⟨ob, e⟩
 | dT kvs => exact let ⟨_, _, _, _, ob, _, _, e, _⟩ := x; ⟨ob, e⟩
 | set S n => exact let ⟨ob, _, _, _, e, _⟩ := x; ⟨ob, e⟩
 | ins C dx fs => exact let ⟨_, _, _, e, _⟩ := x; ⟨_, e⟩
 | own y => exact x
 | xd fs => exact let ⟨_, ⟨ob, _, _, e, _⟩, _⟩ := x; ⟨ob, e⟩
 | rng lo hi => exact let ⟨_, _, _, e⟩ := x; ⟨_, e⟩
 | frz ob u => exact ⟨ob, x.1⟩
 | tbl ps => exact ⟨_, (show h.get? a = some _ from x)⟩
 | met f y => exact ⟨_, (show h.get? a = some _ from x)⟩
 | ext φ => exact x.2.1
theorem hok_none (x : HOk P w H h) (e : h.get? a = none) : H a = none := by
 cases q : H a with
 | none => rfl
 | some u =>
  obtain ⟨ob, z⟩ := obj_there (x a u q)
  rw [e] at z
  cases z
end
def wide (X : Cx) (ch : List Addr) : Cx := { X with ex := ch ++ X.ex }
section
variable {X : Cx} {pins : List (Addr × Obj)} {σ : St} {H H' : Hp} {s s' : Shared} {ch : List Addr}
theorem widen (I : Inv X pins σ H s) (hc : ∀ b ∈ ch, X.s₀.heap.get? b = none ∧ b ≠ X.env.locals ∧ (∀ x c, X.env.cells.lookup x = some c → c ≠ b) ∧ b ∉ X.fs) : Inv (wide X ch) pins σ H s := by
 have ok : (wide X ch).Ok := by
  refine ⟨I.ok.mod, I.ok.kind, I.ok.glob, I.ok.blt, I.ok.above, I.ok.inj, I.ok.has, I.ok.cab, I.ok.hd, I.ok.frames, I.ok.stk, ?_, I.ok.bs, I.ok.bsz, ?_, ?_, I.ok.funs, I.ok.frf⟩
  ·intro b hb
   rcases List.mem_append.mp hb with z | z
   ·exact ⟨(hc b z).2.1, (hc b z).2.2.1⟩
   ·exact I.ok.exf b z
  ·intro b o e hb
   rcases List.mem_append.mp hb with z | z
   ·have q := (I.ok.bs b o e).1
    rw [(hc b z).1] at q
    cases q
   ·exact I.ok.noex b o e z
  ·intro b hb
   rcases List.mem_append.mp hb with z | z
   ·exact (hc b z).2.2.2
   ·exact I.ok.exfs b z
 have un : Un X.fs (ch ++ X.ex) X.H₀ H X.s₀.heap s.heap := I.base.mono (fun _ z => z) fun _ z => List.mem_append_right _ z
 exact ⟨ok, I.os, I.bare, un, I.loc, I.cell, I.free, I.freeC, I.pin, I.hok, I.len⟩
theorem narrow (I : Inv (wide X ch) pins σ H s) (ok : X.Ok) (hc : ∀ b ∈ ch, X.s₀.heap.get? b = none) : Inv X pins σ H s := by
 have nc : ∀ b o, X.s₀.heap.get? b = some o → b ∉ X.ex → b ∉ ch ++ X.ex := fun b o e nx z => by
  rcases List.mem_append.mp z with z | z
  ·rw [hc b z] at e
   cases e
  ·exact nx z
 have B : Un X.fs (ch ++ X.ex) X.H₀ H X.s₀.heap s.heap := I.base
 have un : Un X.fs X.ex X.H₀ H X.s₀.heap s.heap :=
  ⟨fun b o e n f x => B.keep b o e n f (nc b o e x), fun b o e n f x => B.slot b o e n f (nc b o e x), fun b o e n x => B.free b o e n (nc b o e x), fun b o e x => B.there b o e (nc b o e x), B.tups, B.frzs, B.tbls⟩
 exact ⟨ok, I.os, I.bare, un, I.loc, I.cell, I.free, I.freeC, I.pin, I.hok, I.len⟩
theorem callY (I : Inv X pins σ H s) (ho : s'.os = s.os) (u : Un (frs X.stack) ch H H' s.heap s'.heap) (hok : HOk X.prog X.w H' s'.heap) (hg : AllBare s'.gens)
  (hc : ∀ b ∈ ch, X.s₀.heap.get? b = none ∧ b ≠ X.env.locals ∧ (∀ x c, X.env.cells.lookup x = some c → c ≠ b) ∧ b ∉ X.fs ∧ ∀ p ∈ X.pn ++ pins, p.1 ≠ b) : Inv X pins σ H' s' := by
 have J : Inv (wide X ch) pins σ H s := widen I fun b hb => ⟨(hc b hb).1, (hc b hb).2.1, (hc b hb).2.2.1, (hc b hb).2.2.2.1⟩
 have J' : Inv (wide X ch) pins σ H' s' := J.call' (ch := ch) ho u hok hg fun b hb => ⟨.inl (List.mem_append_left _ hb), (hc b hb).2.1, (hc b hb).2.2.1, (hc b hb).2.2.2.2⟩
 exact narrow J' I.ok fun b hb => (hc b hb).1
theorem track {a : Addr} {o : HO} (I : Inv X pins σ H s) (hn : H a = none) (hy : X.s₀.heap.get? a = none) (h1 : a ≠ X.env.locals) (h2 : ∀ x c, X.env.cells.lookup x = some c → c ≠ a) (h3 : ∀ p ∈ X.pn ++ pins, p.1 ≠ a)
  (new : ObjOk X.prog X.w (upd H a o) s.heap a o) : Inv X pins σ (upd H a o) s := by
 have ne : ∀ b u, X.s₀.heap.get? b = some u → b ≠ a := fun b u e z => by
  rw [z, hy] at e
  cases e
 have up : ∀ b u, H b = some u → upd H a o b = some u := fun b u q => by
  rw [upd_ne (ne_of_none q hn)]
  exact q
 have un : Un X.fs X.ex X.H₀ (upd H a o) X.s₀.heap s.heap := by
  refine ⟨I.base.keep, I.base.slot, fun b u e n x => ?_, I.base.there, fun b xs q => up _ _ (I.base.tups b xs q), fun b u v q => up _ _ (I.base.frzs b u v q), fun b ps q => ?_⟩
  ·rw [upd_ne (ne b u e)]
   exact I.base.free b u e n x
  ·obtain ⟨more, z⟩ := I.base.tbls b ps q
   exact ⟨more, up _ _ z⟩
 refine ⟨I.ok, I.os, I.bare, un, I.loc, I.cell, ?_, fun x c e => ?_, fun p hp => ?_, fun b u e => ?_, I.len⟩
 ·rw [upd_ne h1.symm]
  exact I.free
 ·rw [upd_ne (h2 x c e)]
  exact I.freeC x c e
 ·obtain ⟨p1, p2, p3⟩ := I.pin p hp
  exact ⟨p1, by rw [upd_ne (h3 p hp)]; exact p2, p3⟩
 ·by_cases hb : b = a
  ·subst hb
   rw [upd_same] at e
   cases e
   exact new
  ·rw [upd_ne hb] at e
   exact (I.hok b u e).stay (fun _ _ _ q => q) (fun c q => up _ _ q) fun c xs q => up _ _ q
theorem rec_ne {b : Addr} {o : Obj} {vs : Array Value} (I : Inv X pins σ H s) (e : s.heap.get? b = some o) (d : o.data = .fields vs) :
  b ≠ X.env.locals ∧ (∀ x c, X.env.cells.lookup x = some c → c ≠ b) ∧ b ∉ X.fs ∧ b ∉ frs X.stack := by
 refine ⟨fun z => ?_, fun x c q z => ?_, fun z => ?_, fun z => ?_⟩
 ·obtain ⟨m, ⟨o', es, ep, ho, hd, _⟩, _⟩ := I.loc
  rw [z, ho] at e
  cases e
  rw [hd] at d
  cases d
 ·obtain ⟨v, o', ho, hd⟩ := I.cell x c q
  rw [z, e] at ho
  cases ho
  rw [d] at hd
  cases hd
 ·obtain ⟨_, o', ho, hd⟩ := I.funs.mem z
  rw [e] at ho
  cases ho
  exact hd vs d
 ·obtain ⟨_, o', ho, hd⟩ := I.stack.mem z
  rw [e] at ho
  cases ho
  exact hd vs d
end
def ExcAt (h : Heap) (e : Addr) (cls : Value) (dx : Option Addr) (tb : Option (Addr × Value)) : Prop :=
 ∃ oe vs, h.get? e = some oe ∧ oe.cls = cls ∧ oe.dict = dx ∧ oe.data = .fields vs ∧ 1 < vs.size ∧
  match tb with
  | none => vs[1]? = some .none
  | some p => vs[1]? = some (.ref p.1) ∧ p.1 ≠ e ∧ ∃ oT ts, h.get? p.1 = some oT ∧ oT.data = .fields ts ∧ ts[3]? = some p.2
theorem dict_mapFields (o : Obj) (f : Array Value → Array Value) : (o.mapFields f).dict = o.dict := by
 obtain ⟨c, d, dt, sl⟩ := o
 cases dt <;> rfl
theorem noteFrame_env {e : Value} {a b : Env} (q : a.frame = b.frame) : noteFrame e a = noteFrame e b := by
 unfold noteFrame PySem.frameOf
 rw [q]
structure Moved (fs ch : List Addr) (h h' : Heap) : Prop where
 keep : ∀ b o, b ∉ fs → b ∉ ch → h.get? b = some o → h'.get? b = some o
 slot : ∀ b o, b ∉ ch → h.get? b = some o → ∃ sl, h'.get? b = some { o with slots := sl }
theorem Moved.refl {fs ch : List Addr} (h : Heap) : Moved fs ch h h := ⟨fun _ _ _ _ e => e, fun _ o _ e => ⟨o.slots, e⟩⟩
theorem Moved.trans {fs ch : List Addr} {h h1 h2 : Heap} (x : Moved fs ch h h1) (y : Moved fs ch h1 h2) : Moved fs ch h h2 :=
 ⟨fun b o f c e => y.keep b o f c (x.keep b o f c e), fun b o c e => let ⟨_, e1⟩ := x.slot b o c e; let ⟨sl, e2⟩ := y.slot b _ c e1; ⟨sl, e2⟩⟩
theorem Moved.mono {fs ch ch' : List Addr} {h h' : Heap} (x : Moved fs ch h h') (k : ∀ b ∈ ch, b ∈ ch') : Moved fs ch' h h' :=
 ⟨fun b o f c e => x.keep b o f (fun z => c (k b z)) e, fun b o c e => x.slot b o (fun z => c (k b z)) e⟩
theorem Moved.un {fs ch : List Addr} {H : Hp} {h h' : Heap} (x : Moved fs ch h h') : Un fs ch H H h h' :=
 ⟨fun b o e _ f c => x.keep b o f c e, fun b o e _ _ c => x.slot b o c e, fun _ _ _ n _ => n, fun b o e c => let ⟨sl, z⟩ := x.slot b o c e; ⟨_, z⟩, fun _ _ q => q, fun _ _ _ q => q, fun _ ps q => ⟨#[], by rw [q]; simp⟩⟩
theorem Moved.hok {fs ch : List Addr} {P : Program} {w : World} {H : Hp} {h h' : Heap} (x : Moved fs ch h h') (k : HOk P w H h) (hf : ∀ b ∈ fs, H b = none) (hc : ∀ b ∈ ch, H b = none) : HOk P w H h' := fun a o e => by
 have nn : ∀ b u, H b = some u → b ∉ fs ∧ b ∉ ch := fun b u q => ⟨fun z => (by rw [hf b z] at q; cases q), fun z => (by rw [hc b z] at q; cases q)⟩
 refine (k a o e).stay (fun b u hb q => ?_) (fun _ q => q) fun _ _ q => q
 rcases hb with rfl | hb
 ·exact x.keep b u (nn b _ e).1 (nn b _ e).2 q
 ·exact x.keep b u (nn b _ hb).1 (nn b _ hb).2 q
section
variable {M : Model} {A : Around} {E : Value → Shared → Prop} {s : Shared} {F env : Env} {rest : List Env} {L e : Addr} {bs : Heap} {oe : Obj} {vs : Array Value} {head : Value} {Q : Unit → Shared → Prop}
theorem entry_ok {had : Bool} (hA : A.frames = some (F :: rest)) (hF : F.frame = some L) (hl : s.heap.FunFrames bs (F :: rest)) (he : s.heap.get? e = some oe) (hd : oe.data = .fields vs) (hz : 1 < vs.size)
  (h : ∀ h' T, Moved (frs (F :: rest)) [e] s.heap h' → s.heap.get? T = none → h'.get? e = some (oe.mapFields (·.setIfInBounds 1 (.ref T))) →
   (∃ oT ts, h'.get? T = some oT ∧ oT.data = .fields ts ∧ ts[3]? = some (rawInt L)) → Q () { s with heap := h' }) :
  wpAny M A (do let a ← PySem.frameOf F; let pl ← entryPlaceOf L had; let b ← EntryCells.newEntry head a .none (rawInt L) .none pl; setField (.ref e) 1 b) Q E s := by
 have ne : e ∉ frs (F :: rest) := fun z => by
  obtain ⟨_, o', q, nf⟩ := hl.mem z
  rw [he] at q
  cases q
  exact nf vs hd
 refine wpAny_bind (wpAny_frameOf_fun hA hl hF fun g1 so => ?_)
 have e1 : g1.get? e = some oe := (so.2.1 e ne).trans he
 refine wpAny_bind (wpAny_entryPlaceOf fun pl ip => ?_)
 unfold EntryCells.newEntry newFields
 refine wpAny_bind (wpAny_newObj_type ?_ (ip.sizeOk5 _ _ _ _ _))
 generalize hob : ({ cls := .type "traceback", dict := none, data := .fields ([head, .ref L, .none, rawInt L, .none] ++ (if pl.isEmpty then List.replicate 6 Value.none else pl)).toArray } : Obj) = ob
 have obd : ∃ ts, ob.data = .fields ts ∧ ts[3]? = some (rawInt L) := by
  rw [← hob]
  exact ⟨_, rfl, by simp⟩
 obtain ⟨ts, od, o3⟩ := obd
 have e2 := Heap.get?_push_of_some (h := g1) ob e1
 refine wpAny_setField e2 hd hz ?_
 have nT : g1.objs.size ≠ e := Nat.ne_of_gt (Heap.lt_size e1)
 have dd := Obj.data_mapFields hd (·.setIfInBounds 1 (Value.ref g1.objs.size))
 have oth : ∀ b o, b ≠ e → g1.get? b = some o → ((g1.push ob).update e (Obj.mapFields (·.setIfInBounds 1 (Value.ref g1.objs.size)))).get? b = some o := fun b o nb q => by
  rw [Heap.get?_update_other _ _ (Ne.symm nb)]
  exact Heap.get?_push_of_some _ q
 refine h _ g1.objs.size ⟨fun b o f c q => ?_, fun b o c q => ?_⟩ (Heap.get?_none_of_le (by rw [so.1]; exact Nat.le_refl _)) (Heap.get?_update_self _ e2 (Obj.isFreed_of_fields dd)) ⟨ob, ts, ?_, od, o3⟩
 ·exact oth b o (by simpa using c) ((so.2.1 b f).trans q)
 ·obtain ⟨sl, z⟩ := so.2.2 b o q
  exact ⟨sl, oth b _ (by simpa using c) z⟩
 ·rw [Heap.get?_update_other _ _ (Ne.symm nT)]
  refine Heap.get?_push_size g1 ?_
  rw [← hob]
  rfl
theorem note_ok {cls : Value} {dx : Option Addr} {tb : Option (Addr × Value)} (hA : A.frames = some (F :: rest)) (hF : F.frame = some L) (hv : env.frame = some L) (hl : s.heap.FunFrames bs (F :: rest)) (x : ExcAt s.heap e cls dx tb)
  (h : ∀ h' T, Moved (frs (F :: rest)) (e :: (tb.map (·.1)).toList) s.heap h' → (s.heap.get? T = none ∨ tb.map (·.1) = some T) → ExcAt h' e cls dx (some (T, rawInt L)) → Q () { s with heap := h' }) :
  wpAny M A (noteFrame (.ref e) env) Q E s := by
 rw [noteFrame_env (hv.trans hF.symm)]
 obtain ⟨oe, vs, he, hc, hx, hd, hz, x⟩ := x
 have tail : ∀ (s1 : Shared) (head : Value) (had : Bool), s1 = { s with heap := s1.heap } → Moved (frs (F :: rest)) (e :: (tb.map (·.1)).toList) s.heap s1.heap → (∀ b, s1.heap.get? b = none → s.heap.get? b = none) → s1.heap.FunFrames bs (F :: rest) → s1.heap.get? e = some oe →
   wpAny M A (do let a ← PySem.frameOf F; let pl ← entryPlaceOf L had; let b ← EntryCells.newEntry head a .none (rawInt L) .none pl; setField (.ref e) 1 b) Q E s1 := by
  intro s1 head had es mv new hl1 he1
  refine entry_ok hA hF hl1 he1 hd hz fun h' T m1 nT e1 ⟨oT, ts, q1, q2, q3⟩ => ?_
  have dd := Obj.data_mapFields hd (·.setIfInBounds 1 (Value.ref T))
  have r : Q () { s with heap := h' } := by
   refine h h' T (mv.trans (m1.mono fun b hb => by simp only [List.mem_singleton] at hb; simp [hb])) (.inl (new T nT)) ⟨_, _, e1, (Obj.cls_mapFields _ _).trans hc, (dict_mapFields _ _).trans hx, dd, by simpa using hz, by simp [hz], ?_, oT, ts, q1, q2, q3⟩
   rintro rfl
   rw [he1] at nT
   cases nT
  rw [es]
  exact r
 unfold noteFrame
 simp only [hF]
 cases tb with
 | none =>
  refine wpAny_bind (wpAny_field he hd x ?_)
  rw [if_neg (by decide)]
  exact tail s .none _ rfl (Moved.refl _) (fun _ q => q) hl he
 | some p =>
  obtain ⟨T, fl⟩ := p
  obtain ⟨x1, x2, oT, ts, x3, x4, x5⟩ := x
  refine wpAny_bind (wpAny_field he hd x1 ?_)
  rw [if_pos (show (Value.ref T != Value.none) = true from by simp)]
  refine wpAny_bind (wpAny_field x3 x4 x5 ?_)
  by_cases z : (fl == rawInt L) = true
  rotate_left
  ·rw [if_neg z]
   refine wpAny_bind (wpAny_setField x3 x4 (Array.getElem?_eq_some_iff.mp x5).1 ?_)
   have oth : ∀ b, b ≠ T → (s.heap.update T (Obj.mapFields (·.setIfInBounds 3 Value.none))).get? b = s.heap.get? b := fun b hb => Heap.get?_update_other _ _ (Ne.symm hb)
   have tT := Heap.get?_update_self (Obj.mapFields (·.setIfInBounds 3 Value.none)) x3 (Obj.isFreed_of_fields (Obj.data_mapFields x4 _))
   refine tail { s with heap := s.heap.update T (Obj.mapFields (·.setIfInBounds 3 Value.none)) } (.ref T) _ rfl ⟨fun b o f c q => ?_, fun b o c q => ?_⟩ (fun b q => ?_) ?_ ((oth e (Ne.symm x2)).trans he)
   ·exact (oth b (fun z => c (by simp [z]))).trans q
   ·exact ⟨o.slots, (oth b (fun z => c (by simp [z]))).trans q⟩
   ·by_cases hb : b = T
    ·subst hb
     have q' : (s.heap.update b (Obj.mapFields (·.setIfInBounds 3 Value.none))).get? b = none := q
     rw [tT] at q'
     cases q'
    ·exact (oth b hb).symm.trans q
   ·refine hl.of_keeps fun b o q nf => ⟨o, (oth b fun z => ?_).trans q, rfl⟩
    rw [z, x3] at q
    cases q
    exact nf ts x4
  ·obtain rfl : fl = rawInt L := beq_iff_eq.mp z
   rw [if_pos (show (rawInt L == rawInt L) = true from beq_self_eq_true _)]
   exact wpAny_pure (h s.heap T (Moved.refl _) (.inr rfl) ⟨oe, vs, he, hc, hx, hd, hz, x1, x2, oT, ts, x3, x4, x5⟩)
theorem flight_ok {cls : Value} {dx : Option Addr} {T : Addr} {fl : Value} {fr : Option Addr} (x : ExcAt s.heap e cls dx (some (T, fl)))
  (h : ∀ h', Moved [] [T] s.heap h' → ExcAt h' e cls dx (some (T, fr.elim .none fun f => rawInt f)) → Q () { s with heap := h' }) : wpAny M A (setFlight (.ref e) fr) Q E s := by
 obtain ⟨oe, vs, he, hc, hx, hd, hz, x1, x2, oT, ts, x3, x4, x5⟩ := x
 have z3 := (Array.getElem?_eq_some_iff.mp x5).1
 unfold setFlight
 refine wpAny_bind (wpAny_field he hd x1 ?_)
 rw [if_pos (show (Value.ref T != Value.none) = true from by simp)]
 refine wpAny_setField x3 x4 z3 ?_
 have oth : ∀ b, b ≠ T → (s.heap.update T (Obj.mapFields (·.setIfInBounds 3 (fr.elim Value.none fun f => rawInt f)))).get? b = s.heap.get? b := fun b hb => Heap.get?_update_other _ _ (Ne.symm hb)
 have dd := Obj.data_mapFields x4 (·.setIfInBounds 3 (fr.elim Value.none fun f => rawInt f))
 refine h _ ⟨fun b o _ c q => (oth b (by simpa using c)).trans q, fun b o c q => ⟨o.slots, (oth b (by simpa using c)).trans q⟩⟩ ⟨oe, vs, (oth e (Ne.symm x2)).trans he, hc, hx, hd, hz, x1, x2, _, _, Heap.get?_update_self _ x3 (Obj.isFreed_of_fields dd), dd, by simp [z3]⟩
end
end L2.L3
namespace L2.L3
open PySem PySem.Spec PyProof.Rows
structure Young (X : Cx) (H : Hp) (b : Addr) : Prop where
 new : X.s₀.heap.get? b = none
 npn : ∀ p ∈ X.pn, p.1 ≠ b
 free : H b = none
def Held (X : Cx) : Prop := ∀ b ∈ X.ex, ∃ o, (b, o) ∈ X.pn
def Framed (X : Cx) : Prop := ∃ (F : Env) (rest : List Env) (L : Addr), X.stack = F :: rest ∧ F.frame = some L ∧ X.env.frame = some L
def XEm (X : Cx) (E : XK) (mk : Option (Addr × Value) → Prop) : Value → Shared → Prop := fun e s =>
 ∃ (σ : St) (H : Hp) (ea : Addr) (cls : Value) (dx : Option Addr) (tb : Option (Addr × Value)), e = .ref ea ∧ Inv X.nox [] σ H s ∧ ExcAt s.heap ea cls dx tb ∧ Young X H ea ∧
  (∀ p, tb = some p → Young X H p.1) ∧ mk tb ∧ E cls dx H
abbrev XE (X : Cx) (E : XK) : Value → Shared → Prop := XEm X E fun _ => True
abbrev XT (X : Cx) (E : XK) : Value → Shared → Prop := XEm X E fun tb => ∃ p, tb = some p
abbrev XL (X : Cx) (E : XK) : Value → Shared → Prop := XEm X E fun tb => ∃ T, tb = some (T, .none)
section
variable {X : Cx} {pins : List (Addr × Obj)} {σ : St} {H : Hp} {s s' : Shared} {E : XK} {e : Value}
theorem inv_moved {h' : Heap} {ch : List Addr} (I : Inv X pins σ H s) (m : Moved (frs X.stack) ch s.heap h')
  (hc : ∀ b ∈ ch, X.s₀.heap.get? b = none ∧ (∀ p ∈ X.pn ++ pins, p.1 ≠ b) ∧ H b = none ∧ ∃ o vs, s.heap.get? b = some o ∧ o.data = .fields vs) : Inv X pins σ H { s with heap := h' } := by
 refine callY (s' := { s with heap := h' }) I rfl m.un (m.hok I.hok I.stkFree fun b hb => (hc b hb).2.2.1) I.bare fun b hb => ?_
 obtain ⟨h1, h2, h3, o, vs, h4, h5⟩ := hc b hb
 obtain ⟨r1, r2, r3, _⟩ := rec_ne I h4 h5
 exact ⟨h1, r1, r2, r3, h2⟩
theorem new_of (hx : Held X) (I : Inv X pins σ H s) {T : Addr} (n : s.heap.get? T = none) : X.s₀.heap.get? T = none ∧ (∀ p ∈ X.pn, p.1 ≠ T) ∧ H T = none := by
 have pn : ∀ p ∈ X.pn, p.1 ≠ T := fun p hp z => by
  have q := (I.pin p (List.mem_append_left _ hp)).1
  rw [z, n] at q
  cases q
 refine ⟨?_, pn, hok_none I.hok n⟩
 cases q : X.s₀.heap.get? T with
 | none => rfl
 | some o =>
  exfalso
  by_cases hb : T ∈ X.ex
  ·obtain ⟨o', m⟩ := hx T hb
   exact pn _ m rfl
  ·obtain ⟨o', z⟩ := I.base.there T o q hb
   rw [n] at z
   cases z
theorem exc_rec {h : Heap} {ea : Addr} {cls : Value} {dx : Option Addr} {tb : Option (Addr × Value)} (x : ExcAt h ea cls dx tb) : (∃ o vs, h.get? ea = some o ∧ o.data = .fields vs) ∧ ∀ p, tb = some p → ∃ o vs, h.get? p.1 = some o ∧ o.data = .fields vs := by
 obtain ⟨oe, vs, he, _, _, hd, _, x⟩ := x
 refine ⟨⟨oe, vs, he, hd⟩, fun p hp => ?_⟩
 subst hp
 obtain ⟨_, _, oT, ts, q1, q2, _⟩ := x
 exact ⟨oT, ts, q1, q2⟩
end
def CXE (P : Program) (w : World) : CXT := fun outer H s E e s' =>
 ∃ (ea : Addr) (cls : Value) (dx : Option Addr) (T : Addr) (H' : Hp), e = .ref ea ∧ s'.os = s.os ∧ AllBare s'.gens ∧ Un (frs outer) [] H H' s.heap s'.heap ∧ HOk P w H' s'.heap ∧ ExcAt s'.heap ea cls dx (some (T, .none)) ∧
  s.heap.get? ea = none ∧ s.heap.get? T = none ∧ H' ea = none ∧ H' T = none ∧ E cls dx H'
end L2.L3
namespace L2.L3
open PySem PySem.Spec PyProof.Rows
def closL (env : Env) : List (Str × NameKind) → List (Str × Addr) → List (Str × Addr)
 | [], cs => cs
 | (n, k) :: r, cs => closL env r (if k == .free then (n, (env.cells.lookup n).getD 0) :: cs else cs)
theorem closureFor_eq {scope : Scope} {env : Env} (h : ∀ x ∈ scope.names, x.2 = .free → ∃ c, env.cells.lookup x.1 = some c) : closureFor scope env = pure (closL env scope.names []) := by
 simp only [closureFor]
 generalize scope.names = l at h ⊢
 generalize ([] : List (Str × Addr)) = cs
 induction l generalizing cs with
 | nil => rfl
 | cons x r ih =>
  obtain ⟨n, k⟩ := x
  rw [List.forIn_cons]
  have hr := fun y hy => h y (List.mem_cons_of_mem _ hy)
  by_cases hk : k = .free
  ·subst hk
   obtain ⟨c, hc⟩ := h (n, .free) List.mem_cons_self rfl
   have hc' : List.lookup n env.cells = some c := hc
   have e : cellOf env n = pure c := by
    unfold cellOf
    rw [hc']
   have q := ih hr ((n, c) :: cs)
   show (((cellOf env n >>= fun d => pure (ForInStep.yield ((n, d) :: cs))) >>= _) >>= _) = pure (closL env r ((n, (List.lookup n env.cells).getD 0) :: cs))
   rw [e, hc']
   exact q
  ·have hb : (k == NameKind.free) = false := by simpa using hk
   have q := ih hr cs
   show ((((if (k == NameKind.free) = true then _ else _) : Sem _) >>= _) >>= _) = pure (closL env r (if (k == NameKind.free) = true then _ else cs))
   rw [hb]
   exact q
theorem closL_look {env : Env} {x : Str} {c : Addr} : ∀ (l : List (Str × NameKind)) (cs : List (Str × Addr)), (∀ y ∈ l, y.2 = .free → ∃ d, env.cells.lookup y.1 = some d) → (∀ y d, cs.lookup y = some d → env.cells.lookup y = some d) → (closL env l cs).lookup x = some c → env.cells.lookup x = some c
 | [], cs, _, k, e => k x c e
 | (n, q) :: r, cs, h, k, e => by
  refine closL_look r _ (fun y hy => h y (List.mem_cons_of_mem _ hy)) (fun y d hd => ?_) e
  split at hd
  ·rename_i hq
   rw [List.lookup_cons] at hd
   split at hd
   ·rename_i hy
    obtain ⟨d', hd'⟩ := h (n, q) List.mem_cons_self (by simpa using hq)
    have hd'' : List.lookup n env.cells = some d' := hd'
    rw [hd''] at hd
    cases hd
    rw [beq_iff_eq.mp hy]
    exact hd''
   ·exact k y d hd
  ·exact k y d hd
theorem closL_has {env : Env} {x : Str} : ∀ (l : List (Str × NameKind)) (cs : List (Str × Addr)), ((x, NameKind.free) ∈ l ∨ (cs.lookup x).isSome = true) → ((closL env l cs).lookup x).isSome = true
 | [], cs, h => h.elim (fun z => by cases z) fun z => z
 | (n, q) :: r, cs, h => by
  refine closL_has r _ ?_
  rcases h with h | h
  ·rcases List.mem_cons.mp h with e | h
   ·cases e
    right
    simp
   ·exact .inl h
  ·right
   split
   ·rw [List.lookup_cons]
    split
    ·rfl
    ·exact h
   ·exact h
theorem relabel_look {env : Env} {x : Str} : ∀ (l : List (Str × NameKind)), (l.map fun (n, k) => if (k == NameKind.free && env.scope.kind == .function && env.kindOf n == some .cell) then (n, NameKind.cell) else (n, k)).lookup x =
  (l.lookup x).map fun k => if (k == NameKind.free && env.scope.kind == .function && env.kindOf x == some .cell) then NameKind.cell else k
 | [] => rfl
 | (n, k) :: r => by
  have ih := relabel_look (env := env) (x := x) r
  show List.lookup x ((if (k == NameKind.free && env.scope.kind == .function && env.kindOf n == some .cell) = true then (n, NameKind.cell) else (n, k)) :: _) = _
  cases hx : x == n with
  | true =>
   have e : x = n := beq_iff_eq.mp hx
   subst e
   by_cases hc : (k == NameKind.free && env.scope.kind == .function && env.kindOf x == some .cell) = true
   ·rw [if_pos hc, List.lookup_cons, List.lookup_cons]
    simp only [hx]
    show some NameKind.cell = some (if (k == NameKind.free && env.scope.kind == .function && env.kindOf x == some .cell) = true then NameKind.cell else k)
    rw [if_pos hc]
   ·rw [if_neg hc, List.lookup_cons, List.lookup_cons]
    simp only [hx]
    show some k = some (if (k == NameKind.free && env.scope.kind == .function && env.kindOf x == some .cell) = true then NameKind.cell else k)
    rw [if_neg hc]
  | false =>
   by_cases hc : (k == NameKind.free && env.scope.kind == .function && env.kindOf n == some .cell) = true
   ·rw [if_pos hc]
    simp only [List.lookup_cons, hx]
    exact ih
   ·rw [if_neg hc]
    simp only [List.lookup_cons, hx]
    exact ih
structure BlockOk (S sc : Scope) : Prop where
 kind : sc.kind = .function
 cell : ∀ y ∈ sc.names, y.2 ≠ .cell
 names : ∀ y ∈ sc.names, y.2 = .local → sc.names.lookup y.1 = some .local
 free : ∀ y ∈ sc.names, y.2 = .free → S.names.lookup y.1 = some .cell ∨ S.names.lookup y.1 = some .free
def cxC (X : Cx) (ws : List Str) (caps : List Nat) (sc : Scope) (C : Addr) (fp : List Addr) (pn : List (Addr × Obj)) (s : Shared) (H : Hp) : Cx :=
 { X with
  N := ws ++ caps.map fun i => X.N.getD i Str.empty
  s₀ := s
  H₀ := H
  env := compEnvC sc (closL X.env sc.names []) C X.env
  outer := X.stack
  ex := fp
  fn := fun _ => false
  pn := pn
  xe := fun _ _ => False }
def stC (ws : List Str) (caps : List Nat) (σ : St) : St := ws.map (fun _ => none) ++ caps.map fun i => (σ[i]?).getD none
section
variable {X : Cx} {pins : List (Addr × Obj)} {σ : St} {H : Hp} {s : Shared} {ws : List Str} {caps : List Nat} {sc : Scope} {C : Addr} {fp : List Addr} {pn : List (Addr × Obj)}
theorem fp_stack (I : Inv X pins σ H s) {b : Addr} (f : FpOk X pins H b) : b ∉ frs X.stack := fun z => by
 obtain ⟨_, f1, f2, _⟩ := f
 rcases List.mem_cons.mp (I.stkSub b z) with q | q
 ·exact f1 q
 ·exact f2 q
end
end L2.L3
namespace L2.L3
open PySem PySem.Spec PyProof.Rows
def PTs (X : Cx) (ifs : List Expr) (t : TT) : Prop :=
 ∀ (pins : List (Addr × Obj)) (s : Shared) (σ : St) (H : Hp) (Q : Bool → Hp → Prop), Inv X pins σ H s → t σ H Q →
  wpAny (model X.prog X.w) X.A (forIn ifs true fun c r => if r = true then do let ok ← isTrue c X.env (eval c X.env); pure (ForInStep.yield ok) else pure (ForInStep.yield r)) (TP X pins σ Q) X.xe s
def tYes : TT := fun _ H Q => Q true H
theorem pts_nil {X : Cx} : PTs X [] tYes := fun pins s σ H Q I h => wpAny_pure (show TP X pins σ Q true s from ⟨H, I, h⟩)
theorem pts_one {X : Cx} {c : Expr} {t : TT} (hc : PT X c t) : PTs X [c] t := fun pins s σ H Q I h => wpAny_tests_one (hc pins s σ H Q I h)
section
variable {prog : Program} {w : World} {A : Around} {R : Result → Shared → Prop} {s : Shared}
theorem comp_loop {elt tg iter : Expr} {ifs : List Expr} {sc : Scope} {pos : Pos} {it acc : Value} {env : Env} (J : Nat → Shared → Prop)
  (turn : ∀ n s, J n s → wpAny (model prog w) A (pyNext it) (fun r s1 => match r with
   | none => R (.ok .next) s1
   | some v => wpAny (model prog w) A (letOwnedTupleGo tg it v) (fun _ s2 => wpAny (model prog w) A (assign tg env v) (fun _ s3 =>
     wpAny (model prog w) A (forIn ifs true fun c r => if r = true then do let ok ← isTrue c env (eval c env); pure (ForInStep.yield ok) else pure (ForInStep.yield r)) (fun ok s4 =>
      if ok = true then wpAny (model prog w) A (eval elt env) (fun x s5 =>
       wpAny (model prog w) A (call (.builtin "list.append") [acc, x]) (fun _ s6 => ∃ m, m < n ∧ J m s6) (notedBy (model prog w) A env fun e s' => R (.error e) s') s5) (notedBy (model prog w) A env fun e s' => R (.error e) s') s4
      else ∃ m, m < n ∧ J m s4) (notedBy (model prog w) A env fun e s' => R (.error e) s') s3) (notedBy (model prog w) A env fun e s' => R (.error e) s') s2) (notedBy (model prog w) A env fun e s' => R (.error e) s') s1)
   (notedBy (model prog w) A env fun e s' => R (.error e) s') s)
  (n : Nat) (h : J n s) : codeAny (model prog w) A (.compLoop (.ListComp elt [⟨tg, iter, ifs, 0⟩] sc pos) 0 it acc env) R s := by
 refine codeAny_loop rfl J (fun n s hJ => ?_) n h
 show wpAny _ A ((compTurn (.ListComp elt [⟨tg, iter, ifs, 0⟩] sc pos) 0 it acc env).onRaise (fun x => do noteFrame x env; theTreesLotGoes x)) _ _ s
 refine wpAny_noted ?_
 rw [compTurn_list]
 refine wpAny_bind (wpAny_standAt (wpAny_bind (thn (turn n s hJ) fun r s1 q1 => ?_)))
 cases r with
 | none => exact wpAny_pure q1
 | some v =>
  refine wpAny_bind (thn q1 fun _ s2 q2 => wpAny_bind (thn q2 fun _ s3 q3 => wpAny_bind (thn q3 fun ok s4 q4 => ?_)))
  cases ok with
  | false => exact wpAny_pure ⟨rfl, q4⟩
  | true => exact wpAny_bind (wpAny_bind (thn q4 fun x s5 q5 => wpAny_bind (thn q5 fun _ s6 q6 => wpAny_pure (wpAny_pure ⟨rfl, q6⟩))))
end
def repn (X : Cx) (pn : List (Addr × Obj)) : Cx := { X with pn := pn }
section
variable {X : Cx} {pins : List (Addr × Obj)} {σ : St} {H : Hp} {s : Shared}
theorem Ok_repn (ok : X.Ok) (pn : List (Addr × Obj)) : (repn X pn).Ok :=
 ⟨ok.mod, ok.kind, ok.glob, ok.blt, ok.above, ok.inj, ok.has, ok.cab, ok.hd, ok.frames, ok.stk, ok.exf, ok.bs, ok.bsz, ok.noex, ok.exfs, ok.funs, ok.frf⟩
theorem inv_repn {qn q : List (Addr × Obj)} (I : Inv X pins σ H s) (k : ∀ p ∈ qn ++ q, p ∈ X.pn ++ pins) : Inv (repn X qn) q σ H s :=
 ⟨Ok_repn I.ok qn, I.os, I.bare, I.base, I.loc, I.cell, I.free, I.freeC, fun p hp => I.pin p (k p hp), I.hok, I.len⟩
theorem untrack {a : Addr} {xs : List V} (I : Inv X pins σ (upd H a (.lst xs)) s) (hn : H a = none) : Inv X pins σ H s := by
 have dn : ∀ b u, upd H a (.lst xs) b = some u → (∀ ys, u ≠ .lst ys) → H b = some u := fun b u q nl => by
  by_cases hb : b = a
  ·subst hb
   rw [upd_same] at q
   cases q
   exact absurd rfl (nl xs)
  ·rw [upd_ne hb] at q
   exact q
 have fn : ∀ b, upd H a (.lst xs) b = none → H b = none := fun b q => by
  by_cases hb : b = a
  ·rw [hb]
   exact hn
  ·rw [upd_ne hb] at q
   exact q
 refine ⟨I.ok, I.os, I.bare, ⟨I.base.keep, I.base.slot, fun b o e n x => fn b (I.base.free b o e n x), I.base.there, fun b ys q => dn b _ (I.base.tups b ys q) fun _ z => (by cases z), fun b o u q => dn b _ (I.base.frzs b o u q) fun _ z => (by cases z), fun b ps q => ?_⟩,
  I.loc, I.cell, fn _ I.free, fun x c e => fn c (I.freeC x c e), fun p hp => ?_, fun b u e => ?_, I.len⟩
 ·obtain ⟨more, z⟩ := I.base.tbls b ps q
  exact ⟨more, dn b _ z fun _ z => by cases z⟩
 ·obtain ⟨p1, p2, p3⟩ := I.pin p hp
  exact ⟨p1, fn _ p2, p3⟩
 ·have hb : b ≠ a := fun z => by
   rw [z, hn] at e
   cases e
  have e' : upd H a (.lst xs) b = some u := by
   rw [upd_ne hb]
   exact e
  exact (I.hok b u e').stay (fun _ _ _ q => q) (fun c q => dn c _ q fun _ z => (by cases z)) fun c ys q => dn c _ q fun _ z => (by cases z)
end
def runC (g : TG) (tt : TT) (te : TE) (J : It) (σ : St) (H : Hp) (Z : List V → Hp → Prop) : Prop :=
 ∃ W : Nat → Nat → List V → St → Hp → Prop, (∃ m, W 0 m [] σ H) ∧ ∀ i m ys σ H, W i m ys σ H →
  (J.stop i H ∧ Z ys H) ∨ (J.go i H ∧ ∃ N : List V → St → Hp → Prop, (∀ ys' σ' H', N ys' σ' H' → ∃ m', m' < m ∧ W (i + 1) m' ys' σ' H') ∧ ∀ x H2, J.yld i H x H2 → g x σ H2 fun σ3 H3 => tt σ3 H3 fun ok H4 =>
   if ok = true then te σ3 H4 fun v H5 => ys.length < sizeLine ∧ N (ys ++ [v]) σ3 H5 else N ys σ3 H4)
def lobj (its : List Value) (n : Nat) : Obj := { cls := .type "list", data := .seq its.toArray n }
section
variable {X : Cx} {E : XK} {pins : List (Addr × Obj)} {σ : St} {H : Hp} {s : Shared} {ws : List Str} {caps : List Nat} {sc : Scope} {tg iter elt : Expr} {ifs : List Expr} {pos : Pos} {g : TG} {tt : TT} {te : TE} {it : Addr} {fp : List Addr} {tn : Nat → Heap → Prop} {J : It} {Z : List V → Hp → Prop}
 {RR : Value → Addr → Result → Shared → Prop} {E' : Value → Shared → Prop}
end
section
variable {K : PySem.W.Frag} {a : Addr} {xs : List V} {g : TG} {tt : TT} {te : TE} {σ : St} {H : Hp} {Z : List V → Hp → Prop}
end
end L2.L3
namespace L2.L3
open PySem PySem.Spec PyProof.Rows
def tComp (ws : List Str) (caps : List Nat) (wi : TI) (g : TG) (tt : TT) (te : TE) : TE := fun σ H Q => wi σ H fun J H1 => runC g tt te J (stC ws caps σ) H1 fun ys H' => ∀ D, H' D = none → Q (.ref D) (upd H' D (.lst ys))
def sComp (i : Nat) (ws : List Str) (caps : List Nat) (wi : TI) (g : TG) (tt : TT) (te : TE) : TS := fun D σ H => wi σ H fun J H1 => runC g tt te J (stC ws caps σ) H1 fun ys H' => ∀ a, H' a = none → D.nx (σ.set i (some (.ref a))) (upd H' a (.lst ys))
section
variable {X : Cx} {E : XK} {ws : List Str} {caps : List Nat} {sc : Scope} {tg iter elt : Expr} {ifs : List Expr} {pos py spos : Pos} {wi : TI} {g : TG} {tt : TT} {te : TE}
end
abbrev cxD (P : Program) (w : World) (K : PySem.W.Frag) (mg : Str → Option Value) (base : Heap) (N : List Str) (qual : Str) (sc : Scope) (f : Addr) (cd : Value) (A : Around) (outer : List Env) (s : Shared) (H : Hp) (E : XK) : Cx := cxOf (CXE P w) P w K mg base N qual sc f cd A outer s H E
section
variable {P : Program} {w : World} {K : PySem.W.Frag} {mg : Str → Option Value} {base : Heap} {N : List Str} {qual : Str} {sc : Scope} {f : Addr} {cd : Value} {A : Around} {outer : List Env} {s : Shared} {H : Hp} {E : XK}
theorem fmD : Framed (cxD P w K mg base N qual sc f cd A outer s H E) := ⟨_, _, _, rfl, rfl, rfl⟩
theorem hxD : Held (cxD P w K mg base N qual sc f cd A outer s H E) := fun b hb => by cases hb
end
section
variable {X : Cx} {E : XK} {C : Addr} {x : Str} {np cpos pos : Pos} {e : Expr} {es : List Expr} {t : TA}
end
end L2.L3
namespace L2.L3
open PySem PySem.Spec PyProof.Rows
def IsExc (ea C : Addr) (dx : Option Addr) : Heap → Prop := fun h => ∃ o vs, h.get? ea = some o ∧ o.cls = .ref C ∧ o.dict = dx ∧ o.data = .fields vs
section
variable {X : Cx} {pins : List (Addr × Obj)} {σ : St} {H : Hp} {s : Shared} {ea : Addr}
end
section
variable {X : Cx} {E : XK} {B : Addr} {cn x : Str} {i : Nat} {np pos hpos : Pos} {body : List Stmt} {st : Stmt} {suite : List Stmt} {tb : XK → TS} {th : TS}
end
end L2.L3
namespace L2.L3
open PySem PySem.Spec PyProof.Rows
structure Mv (N : Addr → Prop) (H H' : Hp) : Prop where
 tup : ∀ b xs, H b = some (.tup xs) → H' b = some (.tup xs)
 lst : ∀ b xs, N b → H b = some (.lst xs) → H' b = some (.lst xs)
section
variable {N M : Addr → Prop} {H H' H2 : Hp} {a : Addr} {xs : List V}
end
def iSeq (K : PySem.W.Frag) (tl : TE) : TI := fun σ H R => tl σ H fun x H1 => ∃ a, x = .ref a ∧ (((∃ xs, SqL K H1 a xs) ∧ R (Itl K a) H1) ∨ ((∃ xs, SqT K H1 a xs) ∧ R (Itt K a) H1))
theorem pi_seq {X : Cx} {tg l : Expr} {tl : TE} (hl : PE X l tl) : PI X tg l (iSeq X.K tl) := by
 intro pins s σ H R I h
 refine thn (hl pins s σ H _ I h) fun v s1 ⟨x, H1, I1, r1, q1⟩ => ?_
 obtain ⟨a, e, q⟩ := q1
 subst e
 cases r1
 have fp : ∀ b ∈ [s1.heap.objs.size], FpOk X pins H1 b := fun b hb => by
  have e : b = s1.heap.objs.size := by simpa using hb
  subst e
  exact I1.fpOk (Nat.le_refl _) (I1.hok.fresh (Nat.le_refl _))
 rcases q with ⟨⟨xs, hq⟩, q⟩ | ⟨⟨xs, hq⟩, q⟩
 ·obtain ⟨its, rv, p, hz⟩ := I1.list hq
  refine wpAny_pyIter_list p.isList ?_
  exact ⟨s1.heap.objs.size, [s1.heap.objs.size], _, _, H1, rfl, I1.kept (t' := s1.toks) fun b o e => Heap.get?_push_of_some _ e, turn_list a _, ⟨_, Heap.get?_push_size _ rfl, rfl, rfl⟩, fp, q⟩
 ·obtain ⟨its, rv, p, hz⟩ := I1.tuple hq
  refine wpAny_pyIter_tuple (show s1.heap.IsTuple a its.toArray from p) ?_
  exact ⟨s1.heap.objs.size, [s1.heap.objs.size], _, _, H1, rfl, I1.kept (t' := s1.toks) fun b o e => Heap.get?_push_of_some _ e, turn_tuple a _, ⟨_, Heap.get?_push_size _ rfl, rfl, rfl⟩, fp, q⟩
def rTup (K : PySem.W.Frag) : List V → Hp → VK → Prop := fun xs H Q => ∃ p ys, xs = [.ref p] ∧ ((SqL K H p ys ∧ ∀ l, H l = none → Q (.ref l) (upd H l (.tup ys))) ∨ (SqT K H p ys ∧ Q (.ref p) H))
theorem call_tup {X : Cx} : CallR X (.type "tuple") (rTup X.K) := call_tuple_of
def rLst (K : PySem.W.Frag) : List V → Hp → VK → Prop := fun xs H Q => ∃ p ys, xs = [.ref p] ∧ (SqL K H p ys ∨ SqT K H p ys) ∧ ∀ l, H l = none → Q (.ref l) (upd H l (.lst ys))
theorem call_lst {X : Cx} : CallR X (.type "list") (rLst X.K) := call_list_of
section
variable {N : Addr → Prop} {K : PySem.W.Frag} {a : Addr} {xs : List V} {σ : St} {H : Hp}
end
end L2.L3
namespace L2.L3
open PySem PySem.Spec PyProof.Rows
section
variable {prog : Program} {w : World} {A : Around} {E : Value → Shared → Prop} {s : Shared}
end
def SVl (b : Bool) (h : Heap) (a : Addr) (xs : Array Value) : Prop := cond b (h.IsList a xs) (h.IsTuple a xs)
def SqB (b : Bool) (K : PySem.W.Frag) (H : Hp) (a : Addr) (xs : List V) : Prop := cond b (SqL K H a xs) (SqT K H a xs)
section
variable {X : Cx} {pins : List (Addr × Obj)} {σ : St} {H : Hp} {s : Shared} {a : Addr} {xs ys : List V} {b : Bool}
theorem seq_vals (I : Inv X pins σ H s) (h : SqB b X.K H a xs) : ∃ its : List Value, Vals xs its ∧ SVl b s.heap a its.toArray ∧ xs.length ≤ sizeLine := by
 cases b
 ·exact I.tuple h
 ·obtain ⟨its, r, p, z⟩ := I.list h
  exact ⟨its, r, p.isList, z⟩
end
end L2.L3
namespace L2.L3
open PySem PySem.Spec PyProof.Rows
def rIsTy (K : PySem.W.Frag) : List V → Hp → VK → Prop := fun xs H Q => ∃ x t n b, xs = [x, .ty n] ∧ TyOf K H x t ∧ PySem.W.kitOne K t (.type n) = some b ∧ Q (.bl b) H
theorem call_isty {X : Cx} : CallR X (.builtin "isinstance") (rIsTy X.K) := by
 intro pins s σ H xs us Q I r h
 obtain ⟨x, t, n, b, rfl, ty, kb, q⟩ := h
 obtain ⟨u, v, rfl, r1, r2⟩ := Vals.two r
 cases r2
 exact isinst_ok I r1 ty kb fun tk => ⟨.bl b, H, I.tok tk, rfl, q⟩
def rAll (K : PySem.W.Frag) : List V → Hp → VK → Prop := fun xs H Q => ∃ p, ∃ ys : List Bool, xs = [.ref p] ∧ SqL K H p (ys.map V.bl) ∧ Q (.bl (ys.all id)) H
theorem range_all (ys : List Bool) : (List.range ys.length).all (fun i => (ys[i]?).getD true) = ys.all id := by
 rw [Bool.eq_iff_iff, List.all_eq_true, List.all_eq_true]
 constructor
 ·intro h y hy
  obtain ⟨i, hi, e⟩ := List.getElem_of_mem hy
  have := h i (List.mem_range.mpr hi)
  rw [List.getElem?_eq_getElem hi, e] at this
  exact this
 ·intro h i hi
  have hi' := List.mem_range.mp hi
  rw [List.getElem?_eq_getElem hi']
  exact h _ (List.getElem_mem hi')
theorem call_all {X : Cx} (hc : X.calm = true) : CallR X (.builtin "all") (rAll X.K) := by
 intro pins s σ H xs us Q I r h
 obtain ⟨p, ys, rfl, hp, q⟩ := h
 obtain ⟨u, rfl, r1⟩ := Vals.one r
 cases r1
 obtain ⟨its, rv, g, hz⟩ := I.list hp
 have lt : p < s.heap.objs.size := by
  obtain ⟨o, n, e, _⟩ := g
  exact Heap.lt_size e
 have hl : its.length = ys.length := by rw [← rv.length, List.length_map]
 have hsz : its.toArray.size = ys.length := by rw [List.size_toArray, hl]
 refine call_all_walk (wpAny_pyIter_list g.isList ⟨s.heap.objs.size, [s.heap.objs.size, p], [s.heap.objs.size], its.toArray.size, _, _, fun i => (ys[i]?).getD true, rfl, Walks.list (A := X.A.in1) (I.ok.hd hc) s.heap.objs.size p (Nat.ne_of_lt lt) its.toArray,
  ⟨⟨_, Heap.get?_push_size _ rfl, rfl, rfl⟩, g.isList.push _⟩, fun i v s1 Q1 E1 hv hq => ?_, fun h' tk hk => ?_⟩)
 ·have hv' : its[i]? = some v := by simpa using hv
  have hi : i < ys.length := by
   have := (List.getElem?_eq_some_iff.mp hv').1
   omega
  obtain ⟨w', hw, rw'⟩ := rv.get (i := i) (x := V.bl ys[i]) (by rw [List.getElem?_map, List.getElem?_eq_getElem hi]; rfl)
  rw [hv'] at hw
  cases hw
  cases rw'
  replace hq : Q1 ((ys[i]?).getD true) s1 := hq
  rw [List.getElem?_eq_getElem hi] at hq
  exact wpAny_truthy_bool hq
 ·refine ⟨.bl (ys.all id), H, I.kept (t' := tk) fun b o e => hk b o (fun z => ?_) (Heap.get?_push_of_some _ e), ?_, q⟩
  ·rw [List.mem_singleton.mp z] at e
   exact absurd (Heap.lt_size e) (Nat.lt_irrefl _)
  ·show Value.bool _ = _
   rw [hsz, range_all]
end L2.L3
namespace L2
open PySem PySem.Spec PyProof.Rows
section
variable {κ : Type} [DecidableEq κ]
theorem KV.length {kvs : List (κ × V)} {vs : List (κ × Value)} (r : KV kvs vs) : kvs.length = vs.length := Paired.length r
end
theorem kV_is {P : Program} {w : World} {k : Key} {u : Value} (r : RelV (kV k) u) : (mixKind P w).is k u = true := by
 cases k with
 | inl i => obtain ⟨t, e⟩ := (show ∃ t, u = Value.int i t from r); subst e; exact mixKind_int P w i t
 | inr x => obtain ⟨t, e⟩ := (show ∃ t, u = Value.str x t from r); subst e; exact mixKind_str P w x t
theorem items_are {P : Program} {w : World} : ∀ {ks : List Key} {us : List Value}, Vals (ks.map kV) us → ItemsAre (mixKind P w) ks us
 | [], _, r => by rw [List.map_nil] at r; cases r; exact .nil
 | k :: ks, _, r => by
  rw [List.map_cons] at r
  cases r with
  | cons h t => exact .cons (kV_is h) (items_are t)
abbrev KT (H : Hp) : List (List Key × V) → List (List Key × Addr × Value) → Prop := Paired fun p q => p.1 = q.1 ∧ H q.2.1 = some (.tup (p.1.map kV)) ∧ RelV p.2 q.2.2
section
variable {P : Program} {w : World} {H : Hp} {h : Heap} {a : Addr}
theorem rd_of {u : HO} (ok : HOk P w H h) (e : Rd H a u) : ObjOk P w H h a u := e.ok ok
theorem dk_rd {kvs : List (Key × V)} (ok : HOk P w H h) (e : Rd H a (.dK kvs)) : kvs.length ≤ sizeLine ∧ (a == sysModules) = false ∧ ∃ vs, KV kvs vs ∧ h.DictOf (mixKind P w) a vs :=
 show ObjOk P w H h a (.dK kvs) from rd_of ok e
theorem key_of {ks : List Key} (ok : HOk P w H h) (e : H a = some (.tup (ks.map kV))) : (tupleKind (mixKind P w)).is h ks a := by
 obtain ⟨_, its, r, o, h1, h2, n, h3⟩ := (show ObjOk P w H h a (.tup (ks.map kV)) from ok a _ e)
 exact ⟨o, its.toArray, n, h1, h2, h3, by simpa using items_are r⟩
theorem dt_rd {kvs : List (List Key × V)} (ok : HOk P w H h) (e : Rd H a (.dT kvs)) : kvs.length ≤ sizeLine ∧ (a == sysModules) = false ∧
  ∃ xs, KT H kvs xs ∧ h.DictOfH (tupleKind (mixKind P w)) a xs := by
 obtain ⟨z, y, xs, r, o, es, ep, h1, h2, h3, h4, h5⟩ := (show ObjOk P w H h a (.dT kvs) from rd_of ok e)
 refine ⟨z, y, xs, r, o, es, ep, h1, h2, h3, h4, fun x hx => ?_, h5⟩
 have all : ∀ {l : List (List Key × V)} {m : List (List Key × Addr × Value)}, KT H l m → ∀ x ∈ m, (tupleKind (mixKind P w)).is h x.1 x.2.1 := by
  intro l m q
  induction q with
  | nil => intro x hx; exact nomatch hx
  | @cons p q ps qs hq t ih =>
   intro x hx
   rcases List.mem_cons.mp hx with e | hx
   ·subst e
    exact key_of ok (by rw [← hq.1]; exact hq.2.1)
   ·exact ih x hx
 exact all r x hx
end
section
variable {X : Cx} {pins : List (Addr × Obj)} {σ : St} {H : Hp} {s : Shared} {a : Addr} {y v : V} {u r : Value} {o : Option V} {A : Around} {E : Value → Shared → Prop}
end
section
variable {X : Cx} {pins : List (Addr × Obj)} {σ : St} {H : Hp} {s : Shared} {a : Addr} {kvs : List (Key × V)} {k : Key} {u : Value} {A : Around} {E : Value → Shared → Prop}
theorem d_len {Q : Value → Shared → Prop} (I : Inv X pins σ H s) (e : Rd H a (.dK kvs)) (h : ∀ t s', Inv X pins σ H s' → Q (.int kvs.length t) s') : wpAny (model X.prog X.w) A (call (.builtin "len") [.ref a]) Q E s := by
 obtain ⟨z, hd, vs, rel, dd⟩ := dk_rd I.hok e
 refine call_len_dict hd dd (by rw [← rel.length]; rw [sizeLine_eq] at z; omega) ?_
 rw [← rel.length]
 exact h _ _ (I.tok _)
end
section
variable {X : Cx} {o i e value : Expr} {pos pos' tpos : Pos} {td ty tv : TE}
end
section
variable {X : Cx} {pos : Pos}
end
structure M1 (X : Cx) (o : Expr) (m : Str) (apos : Pos) (e : Expr) (cpos : Pos) : Prop where
 base : attributeBase o m X.env (eval o X.env) = eval o X.env
 few : ((backTo cpos (starEach [e] X.env)).all (fun x => !x.1) && (backToKw cpos (keywordEach [] X.env)).all (fun x => x.1.isSome)
  && decide (([e] : List Expr).length + ([] : List Keyword).length + (if ([] : List Keyword).isEmpty then 0 else 1) < 30)) = true
 line : (apos.endLine == cpos.line) = true
 trees : backTo cpos (starEach [e] X.env) = [(false, eval e X.env)]
structure M2 (X : Cx) (o : Expr) (m : Str) (apos : Pos) (e f : Expr) (cpos : Pos) : Prop where
 base : attributeBase o m X.env (eval o X.env) = eval o X.env
 few : ((backTo cpos (starEach [e, f] X.env)).all (fun x => !x.1) && (backToKw cpos (keywordEach [] X.env)).all (fun x => x.1.isSome)
  && decide (([e, f] : List Expr).length + ([] : List Keyword).length + (if ([] : List Keyword).isEmpty then 0 else 1) < 30)) = true
 line : (apos.endLine == cpos.line) = true
 trees : backTo cpos (starEach [e, f] X.env) = [(false, eval e X.env), (false, eval f X.env)]
section
variable {X : Cx} {pins : List (Addr × Obj)} {σ : St} {H : Hp} {s : Shared} {a : Addr} {y d : V} {u r : Value} {o : Option V} {A : Around} {E : Value → Shared → Prop}
end
section
variable {X : Cx} {o e f : Expr} {apos cpos : Pos} {td ty tx : TE}
end
section
variable {X : Cx} {pins : List (Addr × Obj)} {σ : St} {H : Hp} {s : Shared} {a : Addr} {kvs : List (Key × V)} {A : Around} {E : Value → Shared → Prop}
end
section
variable {X : Cx} {pins : List (Addr × Obj)} {σ : St} {H : Hp} {s : Shared} {a : Addr} {y : V} {u : Value} {A : Around} {E : Value → Shared → Prop}
end
end L2
namespace L2.L3
open PySem PySem.Spec PyProof.Rows PySem.W
section
variable {κ : Type} [DecidableEq κ]
end
def rTupF (K : PySem.W.Frag) : List V → Hp → VK → Prop := fun xs H Q => ∃ p ys, xs = [.ref p] ∧ SqL K H p ys ∧ ∀ l o, H l = none → o.dict = none → Q (.ref l) (upd H l (.frz o (.tup ys)))
theorem call_tupF {X : Cx} : CallR X (.type "tuple") (rTupF X.K) := by
 intro pins s σ H xs us Q I r h
 obtain ⟨p, ys, rfl, hq, q⟩ := h
 obtain ⟨u, rfl, rx⟩ := vals1 r
 cases (show u = Value.ref p from rx)
 obtain ⟨its, r', pl, hz⟩ := I.list hq
 have hlen := r'.length
 refine call_tuple_list pl.isList (fun h' kp => ?_) (by simp only [List.size_toArray] <;> omega)
 have I1 : Inv X pins σ H { s with heap := h' } := I.kept (t' := s.toks) kp
 have I2 : Inv X pins σ (upd H h'.objs.size (.frz { cls := .type "tuple", data := .seq its.toArray } (.tup ys))) { s with heap := h'.push { cls := .type "tuple", data := .seq its.toArray } } :=
  I1.laid (t' := s.toks) (fun b o e => Heap.get?_push_of_some _ e) (Nat.le_refl _) (show ObjOk X.prog X.w _ _ _ (.frz _ (.tup ys)) from ⟨Heap.get?_push_size _ rfl, hz, its, r', IsTup.new _ _⟩)
 exact ⟨.ref h'.objs.size, _, I2, rfl, q _ _ (I1.hok.fresh (Nat.le_refl _)) rfl⟩
end L2.L3
namespace L2.L3
open PySem PySem.Spec PyProof.Rows PySem.W PySem.Builtin.Str
def strCut (x : Str) (lo hi : Option Int) : Str := if (strSliceIndices lo hi 1 x.length).length == x.length then x else ⟨((strSliceIndices lo hi 1 x.length).filterMap (x.cps[·]?)).toArray⟩
def rSlS : V → Option Int → Option Int → Hp → VK → Prop := fun x lo hi H Q => ∃ z : Str, x = .str z ∧ z.length ≤ 1000 ∧ (strCut z lo hi).length ≤ 1000 ∧ Q (.str (strCut z lo hi)) H
theorem part_of {v : Value} {lo : Option Int} (h : IsPart v lo) : ∃ l : Option (Int × Tok), v = partValue l ∧ l.map (·.1) = lo := by
 cases h with
 | none => exact ⟨none, rfl, rfl⟩
 | int i t => exact ⟨some (i, t), rfl, rfl⟩
theorem sl_str {X : Cx} : SlR X rSlS := by
 intro pins s σ H x v vl vu lo hi sl Q I rx hs pl pu h
 obtain ⟨z, rfl, hz, hz2, q⟩ := h
 obtain ⟨t, rfl⟩ := (show ∃ t, v = Value.str z t from rx)
 obtain ⟨l, rfl, el⟩ := part_of pl
 obtain ⟨u, rfl, eu⟩ := part_of pu
 refine ⟨"str", _, F.slot_str_getitem.lookup, typeIs_str _ _ _, wpAny_getItem_str_slice (l := l) (u := u) (st := none) hs rfl ?_⟩
 have e : slicePicked z l u none = strSliceIndices lo hi 1 z.length := by
  unfold slicePicked
  rw [el, eu]
  rfl
 unfold sliceMade
 rw [e]
 unfold strCut at q hz2
 by_cases w : ((strSliceIndices lo hi 1 z.length).length == z.length) = true
 ·rw [if_pos w] at q
  rw [if_pos (by simpa using w)]
  exact ⟨.str z, H, I, ⟨t, rfl⟩, q⟩
 ·rw [if_neg w] at q hz2
  rw [if_neg (by simpa using w)]
  exact ⟨Nat.le_of_lt (small1000 hz2), .str _, H, I.tok _, ⟨_, rfl⟩, q⟩
end L2.L3
namespace L2.L3
open PySem PySem.Spec PyProof.Rows PySem.W
def RawD (h : Heap) (d : Addr) (es : Array DictEntry) (ep : Nat) : Prop := ∃ o, h.get? d = some o ∧ o.ExactDict ∧ o.data = .dict es ep
theorem RawD.ty {s : Shared} {d : Addr} {es : Array DictEntry} {ep : Nat} (x : RawD s.heap d es ep) : s.TypeIs (.ref d) "dict" := let ⟨o, e, c, _⟩ := x; ⟨o, e, c.1⟩
section
variable {prog : Program} {w : World} {A : Around} {E : Value → Shared → Prop} {s : Shared} {d : Addr} {es : Array DictEntry} {ep : Nat}
theorem raw_len {Q : Value → Shared → Prop} (hd : (d == sysModules) = false) (x : RawD s.heap d es ep) (hf : (es.size : Int) < 2 ^ 63) (h : ∀ t k, Q (.int es.size t) { s with toks := k }) :
  wpAny (model prog w) A (call (.builtin "len") [.ref d]) Q E s := by
 refine Calls.call_function_entry kind_len plain_len entry_len (args_len1 _) ?_
 unfold Builtin.«len»
 refine wpAny_bind (m := oneArg "len" _) (wpAny_pure ?_)
 refine wpAny_bind (m := callSpecial? (.ref d) (Str.ofString "__len__")) (wpAny_callSpecial?_slot (name := Str.ofString "__len__") x.ty F.slot_dict_len (wpAny_call_entry F.slot_dict_len x.ty F.entry_dict_len ?_ (F.args_dict_len_1 _)))
 obtain ⟨o, ho, hc, hdat⟩ := id x
 unfold Builtin.«dict.__len__»
 refine wpAny_bind (wpAny_bind (wpAny_notOrdered_dict x.ty (wpAny_pure ?_)))
 show wpAny _ _ (dictSize d >>= _) _ _ s; unfold dictSize
 refine wpAny_bind (wpAny_bind (wpAny_dictEntries ho hdat (wpAny_pure ?_))); show wpAny _ _ (Builtin.Dict.pendingCount d >>= _) _ _ s
 refine wpAny_bind (wpAny_pendingCount_other hd ?_)
 refine wpAny_bind (wpAny_mkInt (wpAny_pure ⟨_, rfl, ?_⟩))
 show wpAny _ _ (holding [Value.int ((es.size : Int) + (0 : Nat)) s.toks] (asIndex _) >>= _) _ _ _; refine wpAny_bind (wpAny_holding (wpAny_pure ?_))
 refine wpAny_bind (wpAny_letGo ?_)
 have e : ((es.size : Int) + ((0 : Nat) : Int)) = es.size := by omega
 rw [e]; rw [if_neg (by omega)]
 show wpAny _ _ (if ((es.size : Nat) : Int) ≥ 2 ^ 63 then _ else _) _ _ _; rw [if_neg (by omega)]
 refine wpAny_bind (wpAny_mkInt (wpAny_pure ⟨_, rfl, h _ _⟩))
end
end L2.L3
namespace L2.L3
open PySem PySem.Spec PyProof.Rows PySem.W
section
variable {X : Cx} {pins : List (Addr × Obj)} {σ : St} {H : Hp} {s : Shared} {a : Addr}
end
def rLenD : List V → Hp → VK → Prop := fun xs H Q => ∃ a, xs = [.ref a] ∧ ((∃ kvs, Rd H a (.dT kvs) ∧ Q (.int kvs.length) H) ∨ ∃ kvs, Rd H a (.dK kvs) ∧ Q (.int kvs.length) H)
theorem call_lenB {X : Cx} : CallR X (.builtin "len") rLenD := by
 intro pins s σ H xs us Q I r h
 obtain ⟨a, rfl, h⟩ := h
 obtain ⟨u, rfl, rx⟩ := vals1 r
 cases (show u = Value.ref a from rx)
 rcases h with ⟨kvs, e, q⟩ | ⟨kvs, e, q⟩
 ·obtain ⟨z, hd, xs, rel, o, es, ep, h1, h2, h3, h4, _⟩ := dt_rd I.hok e
  have hz : es.size = kvs.length := by
   rw [Paired.length rel, ← Array.length_toList, h4, List.length_map]
  refine raw_len hd ⟨o, h1, h2, h3⟩ (by rw [hz]; rw [sizeLine_eq] at z; omega) fun t k => ⟨.int kvs.length, H, I.tok k, ⟨t, by rw [hz]⟩, q⟩
 ·exact d_len I e fun t s' I' => ⟨.int kvs.length, H, I', ⟨t, rfl⟩, q⟩
end L2.L3
namespace L2.L3
open PySem PySem.Spec PyProof.Rows
structure BlockOkC (S sc : Scope) : Prop where
 kind : sc.kind = .function
 names : ∀ y ∈ sc.names, y.2 = .local → sc.names.lookup y.1 = some .local
 free : ∀ y ∈ sc.names, y.2 = .free → S.names.lookup y.1 = some .cell ∨ S.names.lookup y.1 = some .free
 cells : ∀ y ∈ sc.names, y.2 = .cell → sc.names.lookup y.1 = some .cell
theorem ne_above {a b c : Nat} (h : b < a) (k : a ≤ c) : c ≠ b := fun e => Nat.lt_irrefl _ (Nat.lt_of_lt_of_le h (e ▸ k))
def cxK (X : Cx) (own : List (Str × Addr)) (ws : List Str) (caps : List Nat) (sc : Scope) (C : Addr) (fp : List Addr) (pn : List (Addr × Obj)) (s : Shared) (H : Hp) : Cx := { cxC X ws caps sc C fp pn s H with env := compEnvC sc (own ++ closL X.env sc.names []) C X.env, fn := fun x => sc.names.lookup x == some .cell }
abbrev cxKE (X : Cx) (E : XK) (own : List (Str × Addr)) (ws : List Str) (caps : List Nat) (sc : Scope) (C : Addr) (fp : List Addr) (pn : List (Addr × Obj)) (s : Shared) (H : Hp) : Cx :=
 (cxK X own ws caps sc C fp pn s H).wish (XE (cxK X own ws caps sc C fp pn s H) E)
structure OwnOk (sc : Scope) (own : List (Str × Addr)) (s : Shared) (C : Addr) : Prop where
 pl : ∀ x c, own.lookup x = some c → s.heap.objs.size ≤ c ∧ c ≠ C ∧ sc.names.lookup x = some .cell
 inj : ∀ x y c, own.lookup x = some c → own.lookup y = some c → x = y
 has : ∀ x, sc.names.lookup x = some .cell → (own.lookup x).isSome = true
section
variable {X : Cx} {pins : List (Addr × Obj)} {σ : St} {H : Hp} {s : Shared} {ws : List Str} {caps : List Nat} {sc : Scope} {C : Addr} {fp : List Addr} {pn : List (Addr × Obj)} {own : List (Str × Addr)}
theorem free_cellsK (I : Inv X pins σ H s) (B : BlockOkC X.env.scope sc) : ∀ x ∈ sc.names, x.2 = .free → ∃ c, X.env.cells.lookup x.1 = some c := fun x hx hf => I.ok.has x.1 (B.free x hx hf)
theorem clos_outK (I : Inv X pins σ H s) (B : BlockOkC X.env.scope sc) {x : Str} {c : Addr} (e : (closL X.env sc.names []).lookup x = some c) : X.env.cells.lookup x = some c :=
 closL_look sc.names [] (free_cellsK I B) (fun _ _ z => by cases z) e
theorem look_app {l l' : List (Str × Addr)} {x : Str} : (l ++ l').lookup x = (l.lookup x).or (l'.lookup x) := by
 induction l with
 | nil => rfl
 | cons a t ih =>
  rw [List.cons_append, List.lookup_cons, List.lookup_cons]
  cases x == a.1 with
  | true => rfl
  | false => exact ih
theorem outK (I : Inv X pins σ H s) (B : BlockOkC X.env.scope sc) {x : Str} {c : Addr} (e : (own ++ closL X.env sc.names []).lookup x = some c) : own.lookup x = some c ∨ X.env.cells.lookup x = some c := by
 rw [look_app] at e
 cases q : own.lookup x with
 | some d =>
  rw [q] at e
  exact .inl e
 | none =>
  rw [q] at e
  exact .inr (clos_outK I B e)
theorem freeK (O : OwnOk sc own s C) {x : Str} {c : Addr} (fr : sc.names.lookup x = some .free) (e : (closL X.env sc.names []).lookup x = some c) : (own ++ closL X.env sc.names []).lookup x = some c := by
 rw [look_app]
 cases q : own.lookup x with
 | some d =>
  have := (O.pl x d q).2.2
  rw [fr] at this
  cases this
 | none => exact e
theorem cab_own (O : OwnOk sc own s C) {x : Str} {c : Addr} (z : (sc.names.lookup x == some NameKind.cell) = true) (e : (own ++ closL X.env sc.names []).lookup x = some c) : s.heap.objs.size ≤ c := by
 have z' : sc.names.lookup x = some NameKind.cell := beq_iff_eq.mp z
 obtain ⟨d, hd⟩ := Option.isSome_iff_exists.mp (O.has x z')
 rw [look_app, hd] at e
 cases e
 exact (O.pl x _ hd).1
theorem cellK_inj (I : Inv X pins σ H s) (O : OwnOk sc own s C) (B : BlockOkC X.env.scope sc) {x y : Str} {c : Addr} (e1 : (own ++ closL X.env sc.names []).lookup x = some c) (e2 : (own ++ closL X.env sc.names []).lookup y = some c) : x = y := by
 have old : ∀ z, X.env.cells.lookup z = some c → c < s.heap.objs.size := fun z h => let ⟨v, q⟩ := I.cell z c h; q.lt
 rcases outK I B e1 with a | a <;> rcases outK I B e2 with b | b
 ·exact O.inj x y c a b
 ·exact absurd (old y b) (Nat.not_lt.mpr (O.pl x c a).1)
 ·exact absurd (old x a) (Nat.not_lt.mpr (O.pl y c b).1)
 ·exact I.ok.inj x y c a b
theorem cellK_has (O : OwnOk sc own s C) (B : BlockOkC X.env.scope sc) {x : Str} (h : (compEnvC sc (own ++ closL X.env sc.names []) C X.env).kindOf x = some .cell ∨ (compEnvC sc (own ++ closL X.env sc.names []) C X.env).kindOf x = some .free) :
  ∃ c, (own ++ closL X.env sc.names []).lookup x = some c := by
 have e : (compEnvC sc (own ++ closL X.env sc.names []) C X.env).kindOf x = (sc.names.lookup x).map fun k => if (k == NameKind.free && X.env.scope.kind == .function && X.env.kindOf x == some .cell) then NameKind.cell else k := relabel_look sc.names
 rw [e] at h
 cases q : sc.names.lookup x with
 | none =>
  rw [q] at h
  rcases h with h | h <;> cases h
 | some k =>
  have mem := PySem.mem_of_lookup q
  rw [q] at h
  by_cases hk : k = .free
  ·subst hk
   obtain ⟨c, hc⟩ := Option.isSome_iff_exists.mp (closL_has (env := X.env) sc.names [] (.inl mem))
   exact ⟨c, freeK O q hc⟩
  ·have hb : (k == NameKind.free) = false := by simpa using hk
   simp only [Option.map_some, hb, Bool.false_and, Bool.false_eq_true, if_false, Option.some.injEq] at h
   rcases h with h | h
   ·subst h
    obtain ⟨c, hc⟩ := Option.isSome_iff_exists.mp (O.has x q)
    refine ⟨c, ?_⟩
    rw [look_app, hc]
    rfl
   ·exact absurd h hk
theorem cxK_ok (I : Inv X pins σ H s) (O : OwnOk sc own s C) (B : BlockOkC X.env.scope sc) (hf : ∀ b ∈ fp, FpOk X pins H b) (ho : ∀ b ∈ fp, ∃ o, s.heap.get? b = some o) (hC : s.heap.objs.size ≤ C) : (cxK X own ws caps sc C fp pn s H).Ok where
 mod := I.ok.mod
 kind := B.kind
 glob := I.ok.glob
 blt := I.ok.blt
 above := hC
 inj := fun x y c e1 e2 => cellK_inj I O B e1 e2
 has := fun x hx => cellK_has O B hx
 cab := fun x c z e => cab_own O z e
 hd := I.ok.hd
 frames := I.ok.frames
 stk := .inl rfl
 exf := fun b hb => by
  obtain ⟨o, e⟩ := ho b hb
  obtain ⟨_, _, _, _, f4, _⟩ := hf b hb
  exact ⟨Nat.ne_of_lt (Nat.lt_of_lt_of_le (Heap.lt_size e) hC), fun x c q => (outK I B q).elim (fun z => ne_above (Heap.lt_size e) (O.pl x c z).1) (f4 x c)⟩
 bs := I.bs
 bsz := Nat.le_trans I.ok.bsz I.sz
 noex := fun b o e hb => by
  obtain ⟨_, _, _, f3, _⟩ := hf b hb
  rcases f3 with z | z
  ·exact I.ok.noex b o e z
  ·exact absurd (Nat.lt_of_lt_of_le (Heap.lt_size e) (Nat.le_trans I.ok.bsz z)) (Nat.lt_irrefl _)
 exfs := fun b hb => fp_stack I (hf b hb)
 funs := I.stack
 frf := I.stkFree
theorem block_startK {h1 : Heap} {m : Str → Option Value} {t : Nat} (I : Inv X pins σ H s) (O : OwnOk sc own s C) (B : BlockOkC X.env.scope sc) (hf : ∀ b ∈ fp, FpOk X pins H b) (ho : ∀ b ∈ fp, ∃ o, s.heap.get? b = some o) (hC : s.heap.objs.size ≤ C)
  (hcap : ∀ k ∈ caps, sc.names.lookup (X.N.getD k Str.empty) = some .free) (k : ∀ b o, s.heap.get? b = some o → h1.get? b = some o) (hn : h1.Ns C m) (hw : ∀ x c, own.lookup x = some c → ∃ v, h1.IsCell c v) :
  Inv (cxK X own ws caps sc C fp [] s H) [] (stC ws caps σ) H { s with heap := h1, toks := t } := by
 refine ⟨cxK_ok I O B hf ho hC, rfl, I.bare, Un.kept k, ⟨m, hn, fun i x v e1 e2 e3 => ?_⟩, fun x c e => ?_, I.hok.fresh hC, fun x c e => (outK I B e).elim (fun z => I.hok.fresh (O.pl x c z).1) (I.freeC x c), fun p hp => absurd (show p ∈ ([] : List (Addr × Obj)) from hp) (by simp), I.hok.kept k, ?_⟩
 ·have e1' : (ws ++ caps.map fun i => X.N.getD i Str.empty)[i]? = some x := e1
  have e2' : (ws.map (fun _ => (none : Option V)) ++ caps.map fun i => (σ[i]?).getD none)[i]? = some (some v) := e2
  by_cases hi : i < ws.length
  ·rw [List.getElem?_append_left (by simpa using hi), List.getElem?_map] at e2'
   cases q : ws[i]? with
   | none =>
    rw [q] at e2'
    cases e2'
   | some y =>
    rw [q] at e2'
    cases e2'
  ·rw [List.getElem?_append_right (by omega)] at e1'
   rw [List.getElem?_append_right (by simp; omega), List.length_map] at e2'
   rw [List.getElem?_map] at e1' e2'
   cases q : caps[i - ws.length]? with
   | none =>
    rw [q] at e1'
    cases e1'
   | some j =>
    rw [q] at e1' e2'
    have x1 : X.N.getD j Str.empty = x := Option.some.inj e1'
    have x2 : (σ[j]?).getD none = some v := Option.some.inj e2'
    have x3 : σ[j]? = some (some v) := by
     cases z : σ[j]? with
     | none =>
      rw [z] at x2
      cases x2
     | some u =>
      rw [z] at x2
      exact congrArg some x2
    have hj : j < X.N.length := by
     rw [← I.len]
     exact (List.getElem?_eq_some_iff.mp x3).1
    have x4 : X.N[j]? = some x := by
     rw [← x1, List.getD_eq_getElem?_getD, List.getElem?_eq_getElem hj]
     rfl
    have fr : sc.names.lookup x = some .free := by
     rw [← x1]
     exact hcap j (List.mem_of_getElem? q)
    have out := B.free _ (PySem.mem_of_lookup fr) rfl
    have vis : Vis X.env.scope x := .inr out
    obtain ⟨m', hn', hl⟩ := I.loc
    obtain ⟨u, r, lk⟩ := hl j x v x4 x3 vis
    refine ⟨u, r, ?_⟩
    rcases lk with ⟨hk, _⟩ | ⟨_, c, hc, hcell⟩
    ·exfalso
     have hk' : X.env.scope.names.lookup x = some .local := hk
     rcases out with z | z
     ·have z' : X.env.scope.names.lookup x = some .cell := z
      rw [hk'] at z'
      cases z'
     ·have z' : X.env.scope.names.lookup x = some .free := z
      rw [hk'] at z'
      cases z'
    ·obtain ⟨c', hc'⟩ := Option.isSome_iff_exists.mp (closL_has (env := X.env) sc.names [] (.inl (PySem.mem_of_lookup fr)))
     have ec := clos_outK I B hc'
     rw [hc] at ec
     cases ec
     refine .inr ⟨?_, c, freeK O fr hc', ?_⟩
     ·have e : (compEnvC sc (own ++ closL X.env sc.names []) C X.env).kindOf x = (sc.names.lookup x).map fun k => if (k == NameKind.free && X.env.scope.kind == .function && X.env.kindOf x == some .cell) then NameKind.cell else k := relabel_look sc.names
      show (compEnvC sc (own ++ closL X.env sc.names []) C X.env).kindOf x = some .cell ∨ (compEnvC sc (own ++ closL X.env sc.names []) C X.env).kindOf x = some .free
      rw [e, fr]
      simp only [Option.map_some]
      split
      ·exact .inl rfl
      ·exact .inr rfl
     ·obtain ⟨o, z1, z2⟩ := hcell
      exact ⟨o, k _ _ z1, z2⟩
 ·rcases outK I B e with z | z
  ·exact hw x c z
  ·obtain ⟨v, o, z1, z2⟩ := I.cell x c z
   exact ⟨v, o, k _ _ z1, z2⟩
 ·show (stC ws caps σ).length = (ws ++ caps.map fun i => X.N.getD i Str.empty).length
  unfold stC
  simp
theorem block_endK {pn : List (Addr × Obj)} {pins' : List (Addr × Obj)} {σ' : St} {H' H2 : Hp} {s' : Shared} {h' : Heap} (I : Inv X pins σ H s) (hf : ∀ b ∈ fp, FpOk X pins H b) (J : Inv (cxK X own ws caps sc C fp pn s H) pins' σ' H' s')
  (sb : Heap.SameBut C s'.heap h') (fr : ∀ b o, s.heap.get? b = some o → H b = none → b ∉ fp → H2 b = none) (tu : ∀ b xs, H' b = some (.tup xs) → H2 b = some (.tup xs)) (fz : ∀ b o u, H' b = some (.frz o u) → H2 b = some (.frz o u)) (tb : ∀ b ps, H' b = some (.tbl ps) → H2 b = some (.tbl ps))
  (hok : HOk X.prog X.w H2 h') : Inv X pins σ H2 { s' with heap := h' } := by
 have B : Un (frs X.stack) fp H H' s.heap s'.heap := J.base
 have nC : ∀ b o, s.heap.get? b = some o → b ≠ C := fun b o e => Nat.ne_of_lt (Nat.lt_of_lt_of_le (Heap.lt_size e) J.ok.above)
 have un : Un (frs X.stack) fp H H2 s.heap h' := by
  refine ⟨fun b o e n f c => ?_, fun b o e n f c => ?_, fun b o e n c => fr b o e n c, fun b o e c => ?_, fun b xs q => tu b xs (B.tups b xs q), fun b o u q => fz b o u (B.frzs b o u q), fun b ps q => ?_⟩
  ·exact (sb.2 b (nC b o e)).trans (B.keep b o e n f c)
  ·obtain ⟨sl, z⟩ := B.slot b o e n f c
   exact ⟨sl, (sb.2 b (nC b o e)).trans z⟩
  ·obtain ⟨o', z⟩ := B.there b o e c
   exact ⟨o', (sb.2 b (nC b o e)).trans z⟩
  ·obtain ⟨more, z⟩ := B.tbls b ps q
   exact ⟨more, tb b _ z⟩
 exact I.call' (s' := { s' with heap := h' }) (ch := fp) J.os un hok J.bare fun b hb => by
  obtain ⟨_, f1, _, f3, f4, f5⟩ := hf b hb
  exact ⟨f3, f1, f4, f5⟩
end
theorem cells_app : ∀ (l : List (Str × NameKind)) (n : Nat) (acc : List (Str × Addr)), cellsFrom n l acc = cellsFrom n l [] ++ acc
 | [], _, _ => rfl
 | (x, k) :: r, n, acc => by
  unfold cellsFrom
  split
  ·rw [cells_app r _ ((x, n) :: acc), cells_app r _ [(x, n)], List.append_assoc]
   rfl
  ·exact cells_app r n acc
theorem cells_mem {x : Str} {c : Addr} : ∀ (l : List (Str × NameKind)) (n : Nat) (acc : List (Str × Addr)), (x, c) ∈ cellsFrom n l acc → (x, c) ∈ acc ∨ (x, NameKind.cell) ∈ l
 | [], _, _, h => .inl h
 | (y, k) :: r, n, acc, h => by
  unfold cellsFrom at h
  split at h
  ·rename_i hk
   rcases cells_mem r _ _ h with z | z
   ·rcases List.mem_cons.mp z with e | z
    ·cases e
     rw [show k = .cell by simpa using hk]
     exact .inr List.mem_cons_self
    ·exact .inl z
   ·exact .inr (List.mem_cons_of_mem _ z)
  ·exact (cells_mem r _ _ h).imp id (List.mem_cons_of_mem _)
theorem cells_has {x : Str} : ∀ (l : List (Str × NameKind)) (n : Nat) (acc : List (Str × Addr)), ((x, NameKind.cell) ∈ l ∨ (acc.lookup x).isSome = true) → ((cellsFrom n l acc).lookup x).isSome = true
 | [], _, _, h => h.elim (fun z => by cases z) id
 | (y, k) :: r, n, acc, h => by
  unfold cellsFrom
  split
  ·refine cells_has r _ _ ?_
   rcases h with h | h
   ·rcases List.mem_cons.mp h with e | h
    ·cases e
     right
     simp
    ·exact .inl h
   ·right
    rw [List.lookup_cons]
    split
    ·rfl
    ·exact h
  ·rename_i hk
   refine cells_has r _ _ ?_
   rcases h with h | h
   ·rcases List.mem_cons.mp h with e | h
    ·cases e
     exact absurd rfl hk
    ·exact .inl h
   ·exact .inr h
theorem new_env {M : Model} {A : Around} {E : Value → Shared → Prop} {s : Shared} {sc : Scope} {globals : Addr} {closure : List (Str × Addr)} {qual : Str} {outer : Env} {Q : Env → Shared → Prop}
  (hQ : ∀ h1 own, h1.Ns s.heap.objs.size (fun _ => none) → (∀ b o, s.heap.get? b = some o → h1.get? b = some o) →
   ((∀ x c, own.lookup x = some c → h1.IsCell c none ∧ s.heap.objs.size < c) ∧ (∀ x c, own.lookup x = some c → (x, NameKind.cell) ∈ sc.names) ∧ (∀ x y c, own.lookup x = some c → own.lookup y = some c → x = y) ∧ ∀ x, sc.names.lookup x = some .cell → (own.lookup x).isSome = true) →
   Q (newEnv sc s.heap.objs.size globals (own ++ closure) qual none .none (some outer) builtinsNs) { s with heap := h1 }) :
  wpAny M A (newFunctionEnv sc globals closure [] qual none .none (some outer)) Q E s := by
 simp only [newFunctionEnv, Option.isSome_some, if_true]
 refine wpAny_bind (wpAny_alloc ?_)
 refine wpAny_bind (wpAny_layCells _ (fun name kind cells => by cases hkc : kind == NameKind.cell <;> simp [hkc]) _ _ _ _ ?_)
 have ok := cellsFrom_ok sc.names (s.heap.push { cls := .type "dict", data := .dict #[] }) (s.heap.objs.size + 1) [] ⟨fun _ _ hm => (nomatch hm), List.Pairwise.nil⟩ (by rw [Heap.size_push]; exact Nat.le_refl _)
 rw [Heap.size_push] at ok
 rw [show ({ s with heap := s.heap.push { cls := .type "dict", data := .dict #[] } } : Shared).heap.objs.size = s.heap.objs.size + 1 from Heap.size_push ..]
 refine wpAny_bind ?_
 rw [List.forIn_nil]
 refine wpAny_pure (wpAny_pure ?_)
 rw [cells_app]
 have q := hQ (pushCells (s.heap.push { cls := .type "dict", data := .dict #[] }) sc.names) (cellsFrom (s.heap.objs.size + 1) sc.names [])
  ((Heap.Ns.new s.heap (.type "dict")).keeps (pushCells_keeps _ _)) (fun b o e => pushCells_keeps _ _ b o (Heap.get?_push_of_some _ e))
  ⟨fun x c e => ok.empty x c (PySem.mem_of_lookup e), fun x c e => (cells_mem _ _ _ (PySem.mem_of_lookup e)).elim (fun z => by cases z) id, fun x y c e1 e2 => name_of_addr ok.apart (PySem.mem_of_lookup e1) (PySem.mem_of_lookup e2), fun x e => cells_has _ _ _ (.inl (PySem.mem_of_lookup e))⟩
 exact q
section
variable {X : Cx} {E : XK} {pins : List (Addr × Obj)} {σ : St} {H : Hp} {s : Shared} {ws : List Str} {caps : List Nat} {sc : Scope} {tg iter elt : Expr} {ifs : List Expr} {pos : Pos} {g : TG} {tt : TT} {te : TE} {it : Addr} {fp : List Addr} {tn : Nat → Heap → Prop} {J : It} {Z : List V → Hp → Prop}
 {RR : Value → Addr → Result → Shared → Prop} {E' : Value → Shared → Prop}
end
section
variable {X : Cx} {E : XK} {ws : List Str} {caps : List Nat} {sc : Scope} {tg iter elt : Expr} {ifs : List Expr} {pos py spos : Pos} {wi : TI} {g : TG} {tt : TT} {te : TE}
end
end L2.L3
namespace L2.L4
open PySem PySem.Spec L2.L3
open PyProof.Rows hiding lobj
def XEm (X : Cx) (E : St → XK) (mk : Option (Addr × Value) → Prop) : Value → Shared → Prop := fun e s =>
 ∃ (σ : St) (H : Hp) (ea : Addr) (cls : Value) (dx : Option Addr) (tb : Option (Addr × Value)), e = .ref ea ∧ Inv X.nox [] σ H s ∧ ExcAt s.heap ea cls dx tb ∧ Young X H ea ∧
  (∀ p, tb = some p → Young X H p.1) ∧ mk tb ∧ E σ cls dx H
abbrev XE (X : Cx) (E : St → XK) : Value → Shared → Prop := XEm X E fun _ => True
abbrev XT (X : Cx) (E : St → XK) : Value → Shared → Prop := XEm X E fun tb => ∃ p, tb = some p
abbrev XL (X : Cx) (E : St → XK) : Value → Shared → Prop := XEm X E fun tb => ∃ T, tb = some (T, .none)
section
variable {X : Cx} {pins : List (Addr × Obj)} {σ : St} {H : Hp} {s s' : Shared} {E : St → XK} {e : Value}
theorem note_x {M : Model} {E' : Value → Shared → Prop} {mk : Option (Addr × Value) → Prop} (fr : Framed X) (hx : Held X) (h : XEm X E mk e s) : wpAny M X.A (noteFrame e X.env) (fun _ s' => XT X E e s') E' s := by
 obtain ⟨F, rest, L, hst, hF, hv⟩ := fr
 obtain ⟨σ, H, ea, cls, dx, tb, rfl, I, x, y, yt, _, q⟩ := h
 have fr' : X.A.frames = some (F :: rest) := by
  rw [← hst]
  exact I.ok.frames
 have fl : s.heap.FunFrames X.base (F :: rest) := by
  rw [← hst]
  exact I.stack
 refine note_ok (bs := X.base) fr' hF hv fl x fun h' T m n x' => ?_
 rw [← hst] at m
 have yT : Young X H T := by
  rcases n with n | n
  ·obtain ⟨a, b, c⟩ := new_of (X := X.nox) hx I n
   exact ⟨a, b, c⟩
  ·cases tb with
   | none => cases n
   | some p =>
    cases n
    exact yt p rfl
 have I' : Inv X.nox [] σ H { s with heap := h' } := by
  refine inv_moved I m fun b hb => ?_
  rcases List.mem_cons.mp hb with z | z
  ·subst z
   exact ⟨y.new, (by rw [List.append_nil]; exact y.npn), y.free, (exc_rec x).1⟩
  ·cases tb with
   | none => cases z
   | some p =>
    have z' : b = p.1 := by simpa using z
    subst z'
    exact ⟨(yt p rfl).new, (by rw [List.append_nil]; exact (yt p rfl).npn), (yt p rfl).free, (exc_rec x).2 p rfl⟩
 exact ⟨σ, H, ea, cls, dx, some (T, rawInt L), rfl, I', x', y, fun p hp => (by cases hp; exact yT), ⟨_, rfl⟩, q⟩
theorem flight_x {M : Model} {E' : Value → Shared → Prop} {fr : Option Addr} (h : XT X E e s) :
  wpAny M X.A (setFlight e fr) (fun _ s' => XEm X E (fun tb => ∃ T, tb = some (T, fr.elim .none fun f => rawInt f)) e s') E' s := by
 obtain ⟨σ, H, ea, cls, dx, tb, rfl, I, x, y, yt, ⟨⟨T, fl⟩, rfl⟩, q⟩ := h
 refine flight_ok x fun h' m x' => ?_
 have m' : Moved (frs X.nox.stack) [T] s.heap h' := ⟨fun b o _ c e => m.keep b o (by simp) c e, m.slot⟩
 have yT := yt _ rfl
 have I' : Inv X.nox [] σ H { s with heap := h' } := by
  refine inv_moved I m' fun b hb => ?_
  have z : b = T := by simpa using hb
  subst z
  exact ⟨yT.new, (by rw [List.append_nil]; exact yT.npn), yT.free, (exc_rec x).2 _ rfl⟩
 refine ⟨σ, H, ea, cls, dx, _, rfl, I', x', y, fun p hp => ?_, ⟨_, rfl⟩, q⟩
 cases hp
 exact yT
theorem came_x {M : Model} (h : XT X E e s) : cameBackBy M X.A X.env (XE X E) e s := by
 have h0 := h
 obtain ⟨σ, H, ea, cls, dx, tb, rfl, I, x, y, yt, ⟨⟨T, fl⟩, rfl⟩, q⟩ := h
 obtain ⟨oe, vs, he, hc, hx, hd, hz, x1, x2⟩ := x
 unfold cameBackBy
 refine wpAny_bind (wpAny_field he hd x1 ?_)
 rw [if_neg (show ¬ ((Value.ref T == Value.none) = true) from by simp)]
 exact thn (flight_x h0) fun _ s1 ⟨σ1, H1, e1, c1, d1, t1, a1, a2, a3, a4, a5, _, a6⟩ => ⟨σ1, H1, e1, c1, d1, t1, a1, a2, a3, a4, a5, trivial, a6⟩
theorem own_x {M : Model} (fr : Framed X) (hx : Held X) : PassesOwn M X.A X.env (XE X E) := fun e s h => thn (note_x fr hx h) fun _ s1 h1 => came_x h1
theorem pass_on_x {α : Type} {M : Model} {what : String} {cenv : Env} {Q : α → Shared → Prop} (h : XT X E e s) : wpAny M X.A (PySem.passOn what e cenv : Sem α) Q (XE X E) s := by
 have h0 := h
 obtain ⟨σ, H, ea, cls, dx, tb, rfl, I, x, y, yt, ⟨⟨T, fl⟩, rfl⟩, q⟩ := h
 obtain ⟨oe, vs, he, hc, hx, hd, hz, x1, x2⟩ := x
 unfold PySem.passOn
 refine wpAny_bind (wpAny_field he hd x1 ?_)
 rw [if_neg (show ¬ ((Value.ref T == Value.none) = true) from by simp)]
 exact wpAny_bind (thn (flight_x h0) fun _ s1 ⟨σ1, H1, e1, c1, d1, t1, a1, a2, a3, a4, a5, _, a6⟩ => wpAny_throw ⟨σ1, H1, e1, c1, d1, t1, a1, a2, a3, a4, a5, trivial, a6⟩)
end
theorem leave_x {X : Cx} {E : XK} {e : Value} {s : Shared} {E' : Value → Shared → Prop} {M : Model} (fr : Framed X) (hex : X.ex = []) (h : XE X (fun _ => E) e s) : wpAny M X.A (leaving X.env e) (fun _ s' => CXE X.prog X.w X.outer X.H₀ X.s₀ E e s') E' s := by
 have hx : Held X := fun b hb => by
  rw [hex] at hb
  cases hb
 unfold leaving
 refine wpAny_bind (thn (note_x fr hx h) fun _ s1 h1 => thn (flight_x (fr := none) h1) fun _ s2 h2 => ?_)
 obtain ⟨σ, H, ea, cls, dx, tb, rfl, I, x, y, yt, ⟨T, rfl⟩, q⟩ := h2
 have B : Un X.fs X.ex X.H₀ H X.s₀.heap s2.heap := I.base
 rw [hex] at B
 exact ⟨ea, cls, dx, T, H, rfl, I.os, I.bare, B, I.hok, x, y.new, (yt _ rfl).new, y.free, (yt _ rfl).free, q⟩
theorem pass_x {X : Cx} {E : St → XK} (hx : Held X) {pins : List (Addr × Obj)} {σ : St} {H : Hp} {s s' : Shared} {e : Value} (I : Inv (X.wish (XE X E)) pins σ H s) (h : CXE X.prog X.w X.stack H s (E σ) e s') : XE X E e s' := by
 obtain ⟨ea, cls, dx, T, H', rfl, h1, h2, h3, h4, h5, h6, h7, h8, h9, q⟩ := h
 have I1 : Inv (X.wish (XE X E)) pins σ H' s' := I.call' (ch := []) h1 h3 h4 h2 fun b z => absurd z (by simp)
 have I2 : Inv X.nox [] σ H' s' := (I1.unwish.wish fun _ _ => False).pins_of fun p hp => absurd hp (by simp)
 obtain ⟨a1, a2, _⟩ := new_of (X := X.wish (XE X E)) hx I h6
 obtain ⟨b1, b2, _⟩ := new_of (X := X.wish (XE X E)) hx I h7
 exact ⟨σ, H', ea, cls, dx, _, rfl, I2, h5, ⟨a1, a2, h8⟩, fun p hp => (by cases hp; exact ⟨b1, b2, h9⟩), trivial, q⟩
end L2.L4
namespace L2.L4
open PySem PySem.Spec L2.L3
open PyProof.Rows hiding lobj
abbrev cxKE (X : Cx) (E : St → XK) (own : List (Str × Addr)) (ws : List Str) (caps : List Nat) (sc : Scope) (C : Addr) (fp : List Addr) (pn : List (Addr × Obj)) (s : Shared) (H : Hp) : Cx :=
 (cxK X own ws caps sc C fp pn s H).wish (XE (cxK X own ws caps sc C fp pn s H) E)
section
variable {X : Cx} {E : St → XK} {pins : List (Addr × Obj)} {σ : St} {H : Hp} {s : Shared} {ws : List Str} {caps : List Nat} {sc : Scope} {tg iter elt : Expr} {ifs : List Expr} {pos : Pos} {g : TG} {tt : TT} {te : TE} {it : Addr} {fp : List Addr} {tn : Nat → Heap → Prop} {J : It} {Z : List V → Hp → Prop}
 {RR : Value → Addr → Result → Shared → Prop} {E' : Value → Shared → Prop}
theorem block_okK (fm : Framed X) (hx : Held X) (B : BlockOkC X.env.scope sc) (hc : X.calm = true) (hcap : ∀ k ∈ caps, sc.names.lookup (X.N.getD k Str.empty) = some .free)
  (hg : ∀ own C pn s H, (∀ b ∈ fp, ∃ o, (b, o) ∈ pn) → PG (cxKE X (fun _ => E σ) own ws caps sc C fp pn s H) tg g) (ht : ∀ own C pn s H, (∀ b ∈ fp, ∃ o, (b, o) ∈ pn) → PTs (cxKE X (fun _ => E σ) own ws caps sc C fp pn s H) ifs tt) (he : ∀ own C pn s H, (∀ b ∈ fp, ∃ o, (b, o) ∈ pn) → PE (cxKE X (fun _ => E σ) own ws caps sc C fp pn s H) elt te)
  (I : Inv (X.wish (XE X E)) pins σ H s) (T : Turn X.prog X.w X.K tg J fp it tn) (st : tn 0 s.heap) (hf : ∀ b ∈ fp, FpOk (X.wish (XE X E)) pins H b) (h : runC g tt te J (stC ws caps σ) H Z)
  (hdone : ∀ D C s' H' ys, H' D = none → H' C = none → D ≠ C → Z ys H' → (∃ m, s'.heap.Ns C m) → s.heap.objs.size ≤ C → (∀ h', Heap.SameBut C s'.heap h' → Inv (X.wish (XE X E)) pins σ (upd H' D (.lst ys)) { s' with heap := h' }) → RR (.ref D) C (.ok .next) s')
  (herr : ∀ D C e s', (∃ m, s'.heap.Ns C m) → (∀ h', Heap.SameBut C s'.heap h' → XT X E e { s' with heap := h' }) → RR (.ref D) C (.error e) s') :
  wpAny (model X.prog X.w) X.A (newList []) (fun acc s3 => wpAny (model X.prog X.w) X.A (newFunctionEnv sc X.env.globals (closL X.env sc.names []) [] X.env.qual none .none (some X.env)) (fun cenv s4 =>
   codeAny (model X.prog X.w) X.A (.compStart (.ListComp elt [⟨tg, iter, ifs, 0⟩] sc pos) 0 (.ref it) acc { cenv with scope := relabel sc X.env }) (RR acc cenv.locals) s4) E' s3) E' s := by
 refine wpAny_newObj_type (new_env (fun h1 own hns hsb hw0 => ?_))
 dsimp only at hns hsb hw0 ⊢
 generalize hP : s.heap.push { cls := .type "list", dict := none, data := .seq ([] : List Value).toArray } = P2 at hns hsb hw0 ⊢
 have zC : P2.objs.size = s.heap.objs.size + 1 := by rw [← hP, Heap.size_push]
 have leC : s.heap.objs.size ≤ P2.objs.size := by rw [zC]; exact Nat.le_succ _
 have nDC : s.heap.objs.size ≠ P2.objs.size := by rw [zC]; exact Nat.ne_of_lt (Nat.lt_succ_self _)
 have old : ∀ b o, s.heap.get? b = some o → h1.get? b = some o := fun b o e =>
  hsb _ _ (hP ▸ Heap.get?_push_of_some _ e)
 have acc0 : h1.get? s.heap.objs.size = some (lobj [] 0) := hsb _ _ (hP ▸ Heap.get?_push_size _ rfl)
 have OO : OwnOk sc own s P2.objs.size := ⟨fun x c e => ⟨Nat.le_trans leC (Nat.le_of_lt (hw0.1 x c e).2), Nat.ne_of_gt (hw0.1 x c e).2, B.cells _ (hw0.2.1 x c e) rfl⟩, hw0.2.2.1, hw0.2.2.2⟩
 have hw : ∀ x c, own.lookup x = some c → ∃ v, h1.IsCell c v := fun x c e => ⟨none, (hw0.1 x c e).1⟩
 have abv : ∀ x c, own.lookup x = some c → s.heap.objs.size < c := fun x c e => Nat.lt_of_le_of_lt leC (hw0.1 x c e).2
 clear hw0
 have there : ∀ b ∈ fp, ∃ o, s.heap.get? b = some o := fun b hb => let ⟨o, e, _⟩ := T.obj 0 s.heap st b hb; ⟨o, e⟩
 generalize hD : s.heap.objs.size = D at *
 generalize hCC : P2.objs.size = C at *
 have I0 : Inv X pins σ H s := I.unwish
 have hf0 : ∀ b ∈ fp, FpOk X pins H b := hf
 have st1 : tn 0 h1 := T.keep 0 s.heap h1 st fun b _ o e => old b o e
 have J0 : Inv (cxK X own ws caps sc C fp [] s H) [] (stC ws caps σ) H { s with heap := h1 } := block_startK (t := s.toks) I0 OO B hf0 there (by omega) hcap old hns hw
 have D0 : H D = none := I0.hok.fresh (by omega)
 have nD1 : D ≠ C := nDC
 have nDc : ∀ x c, (own ++ closL X.env sc.names []).lookup x = some c → c ≠ D := fun x c e z => by
  rcases outK I0 B e with w | w
  ·exact absurd (abv x c w) (by rw [z]; exact Nat.lt_irrefl _)
  obtain ⟨v, q⟩ := I0.cell x c w
  have lt := q.lt
  rw [z, hD] at lt
  exact Nat.lt_irrefl _ lt
 have nDs : D ∉ frs X.stack := fun z => by
  obtain ⟨_, o, e, _⟩ := I0.stack.mem z
  have lt := Heap.lt_size e
  rw [hD] at lt
  exact Nat.lt_irrefl _ lt
 have nDf : D ∉ fp := fun z => by
  obtain ⟨o, e⟩ := there D z
  have lt := Heap.lt_size e
  rw [hD] at lt
  exact Nat.lt_irrefl _ lt
 have sD : s.heap.get? D = none := Heap.get?_none_of_le (by omega)
 have stat : ∀ {H' : Hp} {p : List (Addr × Obj)}, (∀ b ∈ fp, H' b = none) → (∀ q ∈ p, q.1 ∉ fp) → ∀ b ∈ fp, FpOk (cxK X own ws caps sc C fp [] s H) p H' b := fun {H' p} hn hp b hb => by
  obtain ⟨o, e⟩ := there b hb
  have lt := Heap.lt_size e
  obtain ⟨_, _, _, _, f4, _⟩ := hf0 b hb
  exact ⟨hn b hb, (by rw [hD] at lt; exact Nat.ne_of_lt (Nat.lt_of_lt_of_le lt leC)), fp_stack I0 (hf0 b hb), .inl hb, fun x c q => (outK I0 B q).elim (fun z => ne_above lt (OO.pl x c z).1) (f4 x c), fun q hq z => hp q hq (by rw [z]; exact hb)⟩
 have err : ∀ {pn : List (Addr × Obj)} {e : Value} {s' : Shared}, (∀ b ∈ fp, ∃ o, (b, o) ∈ pn) → XE (cxK X own ws caps sc C fp pn s H) (fun _ => E σ) e s' →
   notedBy (model X.prog X.w) X.A (compEnvC sc (own ++ closL X.env sc.names []) C X.env) (fun e s' => RR (.ref D) C (.error e) s') e s' := fun {pn e s'} hh x => by
  have fm' : Framed (cxK X own ws caps sc C fp pn s H) := fm
  refine thn (note_x (X := cxK X own ws caps sc C fp pn s H) fm' hh x) fun _ s2 x2 => ?_
  obtain ⟨σ2, H2, ea, cls, dx, tb, rfl, K2, y2, y3, y4, ⟨p, rfl⟩, q2⟩ := x2
  obtain ⟨mC, nC, _⟩ := K2.loc
  have K3 : Inv (cxK X own ws caps sc C fp pn s H) [] σ2 H2 s2 := K2
  refine herr D C _ s2 ⟨mC, nC⟩ fun h' sb => ?_
  have r1 := (exc_rec y2).1
  have r2 := (exc_rec y2).2 p rfl
  have ne1 : ea ≠ C := by obtain ⟨o, vs, e1, e2⟩ := r1; exact (rec_ne K2 e1 e2).1
  have ne2 : p.1 ≠ C := by obtain ⟨o, vs, e1, e2⟩ := r2; exact (rec_ne K2 e1 e2).1
  have hk : HOk X.prog X.w H2 h' := by
   refine (Moved.hok (fs := []) (ch := [C]) ⟨fun b o _ c e => (sb.2 b (by simpa using c)).trans e, fun b o c e => ⟨o.slots, (sb.2 b (by simpa using c)).trans e⟩⟩ K2.hok (fun b hb => absurd hb (by simp)) fun b hb => ?_)
   have z : b = C := by simpa using hb
   rw [z]
   exact K2.free
  have I3 : Inv X pins σ H2 { s2 with heap := h' } := block_endK I0 hf0 K3 sb (fun b o e n c => K3.base.free b o e n c) (fun _ _ q => q) (fun _ _ _ q => q) (fun _ _ q => q) hk
  have I4 : Inv X.nox [] σ H2 { s2 with heap := h' } := (I3.wish fun _ _ => False).pins_of fun p hp => absurd hp (by simp)
  have yo : ∀ b, Young (cxK X own ws caps sc C fp pn s H) H2 b → Young X H2 b := fun b y => by
   obtain ⟨a1, a2, _⟩ := new_of hx I0 y.new
   exact ⟨a1, a2, y.free⟩
  refine ⟨σ, H2, ea, cls, dx, some p, rfl, I4, ?_, yo _ y3, fun p' hp' => (by cases hp'; exact yo _ (y4 p rfl)), ⟨p, rfl⟩, q2⟩
  obtain ⟨oe, vs, e1, e2, e3, e4, e5, e6, e7, oT, ts, e8, e9, e10⟩ := y2
  exact ⟨oe, vs, (sb.2 _ ne1).trans e1, e2, e3, e4, e5, e6, e7, oT, ts, (sb.2 _ ne2).trans e8, e9, e10⟩
 obtain ⟨W, ⟨m0, w0⟩, turn⟩ := h
 have loop : codeAny (model X.prog X.w) X.A (.compLoop (.ListComp elt [⟨tg, iter, ifs, 0⟩] sc pos) 0 (.ref it) (.ref D) (compEnvC sc (own ++ closL X.env sc.names []) C X.env)) (RR (.ref D) C) { s with heap := h1 } := by
  refine comp_loop (fun n s' => ∃ i ys its k σ' H', Inv (cxK X own ws caps sc C fp [] s H) [(D, lobj its k)] σ' H' s' ∧ Vals ys its ∧ ys.length ≤ sizeLine ∧ tn i s'.heap ∧ (∀ b ∈ fp, H' b = none) ∧ W i n ys σ' H') ?_ m0
   ⟨0, [], [], 0, stC ws caps σ, H, J0.pins_of fun p hp => ?_, .nil, Nat.zero_le _, st1, fun b hb => (hf0 b hb).1, w0⟩
  rotate_left
  ·have z : p = (D, lobj [] 0) := by simpa using hp
   subst z
   exact ⟨acc0, D0, nD1, nDs, fun v z => by cases z⟩
  rintro n s1 ⟨i, ys, its, k, σ1, H1, I1, rv, hz, st1', fr1, w1⟩
  have nq : ∀ q ∈ [(D, lobj its k)], q.1 ∉ fp := fun q hq => by
   have z : q = (D, lobj its k) := by simpa using hq
   rw [z]
   exact nDf
  rcases turn i n ys σ1 H1 w1 with ⟨stop, zq⟩ | ⟨go, N, hN, step⟩
  ·refine wpAny_mono (T.done (cxK X own ws caps sc C fp [] s H) rfl rfl rfl hc i [(D, lobj its k)] s1 σ1 H1 (fun _ _ => False) I1 (stat fr1 nq) st1' stop) (fun r s2 ⟨hr, I2⟩ => ?_) fun _ _ z => z.elim
   subst hr
   obtain ⟨mC, nC, _⟩ := I2.loc
   have p2 := I2.pin (D, lobj its k) (by simp)
   refine hdone D C s2 H1 ys p2.2.1 I2.free nD1 zq ⟨mC, nC⟩ (by omega) fun h' sb => ?_
   have hk : HOk X.prog X.w (upd H1 D (.lst ys)) h' := by
    have t1 : Inv (cxK X own ws caps sc C fp [] s H) [] σ1 (upd H1 D (.lst ys)) s2 := track (o := .lst ys) (I2.pins_of (pins' := []) fun p hp => absurd hp (by simp)) p2.2.1 sD nD1 nDc (fun p hp => absurd (show p ∈ ([] : List (Addr × Obj)) from hp) (by simp)) ⟨hz, its, k, rv, p2.1⟩
    refine (Moved.hok (fs := []) (ch := [C]) ⟨fun b o _ c e => (sb.2 b (by simpa using c)).trans e, fun b o c e => ⟨o.slots, (sb.2 b (by simpa using c)).trans e⟩⟩ t1.hok (fun b hb => absurd hb (by simp)) fun b hb => ?_)
    have z : b = C := by simpa using hb
    rw [z]
    exact t1.free
   have nn : ∀ b u, H1 b = some u → upd H1 D (.lst ys) b = some u := fun b u q => by
    rw [upd_ne (ne_of_none q p2.2.1)]
    exact q
   exact (block_endK I0 hf0 I2 sb (fun b o e nb c => by
    have hb : b ≠ D := fun z => by rw [z, sD] at e; cases e
    rw [upd_ne hb]
    exact I2.base.free b o e nb c) (fun b xs q => nn _ _ q) (fun b o u q => nn _ _ q) (fun b ps q => nn _ _ q) hk).wish _
  ·refine wpAny_mono (T.item (cxK X own ws caps sc C fp [] s H) rfl rfl rfl hc i [(D, lobj its k)] s1 σ1 H1 (fun _ _ => False) I1 (stat fr1 nq) st1' go) (fun r s2 ⟨u, hr, h2⟩ => ?_) fun _ _ z => z.elim
   subst hr
   refine wpAny_mono h2 (fun _ s3 ⟨x, H3, I3, r3, y3, st3, fr3⟩ => ?_) fun _ _ z => z.elim
   have p3 := I3.pin (D, lobj its k) (by simp)
   have hh : ∀ b ∈ fp, ∃ o, (b, o) ∈ (D, lobj its k) :: pinsAt fp s3.heap := fun b hb => by
    obtain ⟨o, e, _⟩ := T.obj _ _ st3 b hb
    exact ⟨o, List.mem_cons_of_mem _ (mem_pinsAt hb e)⟩
   have I3' : Inv (cxKE X (fun _ => E σ) own ws caps sc C fp ((D, lobj its k) :: pinsAt fp s3.heap) s H) [] σ1 H3 s3 := by
    have q : Inv (cxK X own ws caps sc C fp ((D, lobj its k) :: pinsAt fp s3.heap) s H) [] σ1 H3 s3 := by
     have i4 := I3.pinned (stat fr3 nq) (T.obj _ _ st3)
     exact inv_repn (qn := (D, lobj its k) :: pinsAt fp s3.heap) (q := []) i4 fun p hp => by simpa [cxK, cxC] using hp
    exact q.wish _
   refine wpAny_mono (hg own C ((D, lobj its k) :: pinsAt fp s3.heap) s H hh [] s3 σ1 H3 x u _ I3' r3 (step x H3 y3)) (fun _ s4 ⟨σ4, H4, I4, q4⟩ => ?_) fun e s' z => err hh z
   refine wpAny_mono (ht own C ((D, lobj its k) :: pinsAt fp s3.heap) s H hh [] s4 σ4 H4 _ I4 q4) (fun ok s5 ⟨H5, I5, q5⟩ => ?_) fun e s' z => err hh z
   have back : ∀ {σ9 : St} {H9 : Hp} {s9 : Shared}, Inv (cxKE X (fun _ => E σ) own ws caps sc C fp ((D, lobj its k) :: pinsAt fp s3.heap) s H) [] σ9 H9 s9 → Inv (cxK X own ws caps sc C fp [] s H) [(D, lobj its k)] σ9 H9 s9 ∧ tn (i + 1) s9.heap ∧ ∀ b ∈ fp, H9 b = none := fun {σ9 H9 s9} I9 => by
    have i1 : Inv (cxK X own ws caps sc C fp ((D, lobj its k) :: pinsAt fp s3.heap) s H) [] σ9 H9 s9 := I9.unwish
    refine ⟨inv_repn (qn := []) (q := [(D, lobj its k)]) i1 fun p hp => ?_, T.keep _ _ _ st3 fun b hb o e => ?_, fun b hb => ?_⟩
    ·have z : p = (D, lobj its k) := by simpa using hp
     subst z
     simp [cxK, cxC]
    ·exact (i1.pin (b, o) (List.mem_append_left _ (List.mem_cons_of_mem _ (mem_pinsAt hb e)))).1
    ·obtain ⟨o, e, _⟩ := T.obj _ _ st3 b hb
     exact (i1.pin (b, o) (List.mem_append_left _ (List.mem_cons_of_mem _ (mem_pinsAt hb e)))).2.1
   cases ok with
   | false =>
    rw [if_neg Bool.false_ne_true] at q5 ⊢
    obtain ⟨m', hm, w5⟩ := hN _ _ _ q5
    obtain ⟨b1, b2, b3⟩ := back I5
    exact ⟨m', hm, i + 1, ys, its, k, σ4, H5, b1, rv, hz, b2, b3, w5⟩
   | true =>
    rw [if_pos rfl] at q5 ⊢
    refine wpAny_mono (he own C ((D, lobj its k) :: pinsAt fp s3.heap) s H hh [] s5 σ4 H5 _ I5 q5) (fun v s6 ⟨xv, H6, I6, r6, hlt, nq⟩ => ?_) fun e s' z => err hh z
    obtain ⟨m', hm, w6⟩ := hN _ _ _ nq
    obtain ⟨b1, b2, b3⟩ := back I6
    have p6 := b1.pin (D, lobj its k) (by simp)
    have t1 : Inv (cxK X own ws caps sc C fp [] s H) (pinsAt fp s6.heap) σ4 (upd H6 D (.lst ys)) s6 := by
     have c1 := (b1.pins_of (pins' := []) fun p hp => absurd hp (by simp)).pinned (fp := fp) (stat b3 fun q hq => absurd hq (by simp)) (T.obj _ _ b2)
     refine track (o := .lst ys) c1 p6.2.1 sD nD1 nDc (fun p hp => ?_) ⟨hz, its, k, rv, p6.1⟩
     have hp' : p ∈ pinsAt fp s6.heap := by simpa [cxK, cxC] using hp
     intro z
     exact nDf (z ▸ (of_pinsAt hp').1)
    refine wpAny_mono (mt_append (X := cxK X own ws caps sc C fp [] s H) (pinsAt fp s6.heap) s6 σ4 (upd H6 D (.lst ys)) (.ref D) [xv] (.ref D) [v] (fun _ H7 => H7 = upd (upd H6 D (.lst ys)) D (.lst (ys ++ [xv]))) t1 rfl (.cons r6 .nil) ⟨D, ys, xv, rfl, rfl, upd_same, hlt, rfl⟩) (fun _ s7 ⟨_, H7, I7, _, q7⟩ => ?_) fun _ _ z => z.elim
    subst q7
    rw [upd_upd] at I7
    obtain ⟨z7, its7, n7, v7, l7, e7⟩ := I7.lstM upd_same
    have I8 := untrack I7 p6.2.1
    refine ⟨m', hm, i + 1, ys ++ [xv], its7, n7, σ4, H6, ?_, v7, z7, T.keep _ _ _ b2 fun b hb o e => ?_, b3, w6⟩
    ·refine I8.pins_of fun p hp => ?_
     have z : p = (D, lobj its7 n7) := by simpa using hp
     subst z
     exact ⟨e7, p6.2.1, nD1, nDs, fun v z => by cases z⟩
    ·exact (I8.pin (b, o) (List.mem_append_right _ (mem_pinsAt hb e))).1
 exact codeAny_compStart_list loop (T.self _ 0 _ _ _ st1 loop)
end
def tComp (ws : List Str) (caps : List Nat) (wi : TI) (g : TG) (tt : St → TT) (te : St → TE) : TE := fun σ H Q => wi σ H fun J H1 => runC g (tt σ) (te σ) J (stC ws caps σ) H1 fun ys H' => ∀ D, H' D = none → Q (.ref D) (upd H' D (.lst ys))
def sComp (i : Nat) (ws : List Str) (caps : List Nat) (wi : TI) (g : TG) (tt : St → TT) (te : St → TE) : TS := fun D σ H => wi σ H fun J H1 => runC g (tt σ) (te σ) J (stC ws caps σ) H1 fun ys H' => ∀ a, H' a = none → D.nx (σ.set i (some (.ref a))) (upd H' a (.lst ys))
section
variable {X : Cx} {E : St → XK} {ws : List Str} {caps : List Nat} {sc : Scope} {tg iter elt : Expr} {ifs : List Expr} {pos py spos : Pos} {wi : TI} {g : TG} {tt : St → TT} {te : St → TE}
theorem pe_compK (fm : Framed X) (hx : Held X) (B : BlockOkC X.env.scope sc) (hc : X.calm = true) (hcap : ∀ k ∈ caps, sc.names.lookup (X.N.getD k Str.empty) = some .free) (hi : PI (X.wish (XE X E)) tg iter wi)
  (hg : ∀ σ own C fp pn s H, (∀ b ∈ fp, ∃ o, (b, o) ∈ pn) → PG (cxKE X (fun _ => E σ) own ws caps sc C fp pn s H) tg g) (ht : ∀ σ own C fp pn s H, (∀ b ∈ fp, ∃ o, (b, o) ∈ pn) → PTs (cxKE X (fun _ => E σ) own ws caps sc C fp pn s H) ifs (tt σ))
  (he : ∀ σ own C fp pn s H, (∀ b ∈ fp, ∃ o, (b, o) ∈ pn) → PE (cxKE X (fun _ => E σ) own ws caps sc C fp pn s H) elt (te σ)) (hs : ∀ x, foldedSetIterable iter X.env x = pure x := by intro _; rfl) :
  PE (X.wish (XE X E)) (.ListComp elt [⟨tg, iter, ifs, 0⟩] sc pos) (tComp ws caps wi g tt te) := by
 intro pins s σ H Q I h
 have fc := free_cellsK I.unwish B
 show wpAny (model X.prog X.w) X.A (eval (.ListComp elt [⟨tg, iter, ifs, 0⟩] sc pos) X.env) _ (XE X E) s
 rw [eval_ListComp]
 refine wpAny_comprehension_free (use := none) (cl := closL X.env sc.names []) rfl hs (closureFor_eq fc) B.kind B.names (thn (hi pins s σ H _ I h) fun v s1 h1 => thn h1 fun itv s2 h2 => ?_)
 obtain ⟨it, fp, tn, J, H2, e, I2, T, st, f2, q⟩ := h2
 subst e
 refine block_okK (RR := fun acc C => compPost (model X.prog X.w) X.A (XE X E) none (EP (X.wish (XE X E)) pins σ Q) acc C) fm hx B hc hcap (fun own C pn s H => hg σ own C fp pn s H) (fun own C pn s H => ht σ own C fp pn s H) (fun own C pn s H => he σ own C fp pn s H) I2 T st f2 q
  (fun D C s' H' ys hD _ _ z ⟨m, hn⟩ _ k => ⟨m, hn, fun h' sb => ⟨.ref D, _, k h' sb, rfl, z D hD⟩⟩) fun D C e s' ⟨m, hn⟩ k => ⟨m, hn, fun h' sb cenv _ => pass_on_x (k h' sb)⟩
theorem ps_compK {i : Nat} {y : Str} (fm : Framed X) (hx : Held X) (B : BlockOkC X.env.scope sc) (hc : X.calm = true) (hcap : ∀ k ∈ caps, sc.names.lookup (X.N.getD k Str.empty) = some .free) (hN : X.N.Nodup) (hy : X.N[i]? = some y) (hl : X.env.scope.names.lookup y = some .local)
  (hi : PI (X.wish (XE X E)) tg iter wi)
  (hg : ∀ σ own C fp pn s H, (∀ b ∈ fp, ∃ o, (b, o) ∈ pn) → PG (cxKE X (fun _ => E σ) own ws caps sc C fp pn s H) tg g) (ht : ∀ σ own C fp pn s H, (∀ b ∈ fp, ∃ o, (b, o) ∈ pn) → PTs (cxKE X (fun _ => E σ) own ws caps sc C fp pn s H) ifs (tt σ))
  (he : ∀ σ own C fp pn s H, (∀ b ∈ fp, ∃ o, (b, o) ∈ pn) → PE (cxKE X (fun _ => E σ) own ws caps sc C fp pn s H) elt (te σ))
  (hsw : swapsWith (.ListComp elt [⟨tg, iter, ifs, 0⟩] sc pos) (some (.Name y py)) spos.line X.env = pure true := by rfl) (hs : ∀ x, foldedSetIterable iter X.env x = pure x := by intro _; rfl) :
  PS (X.wish (XE X E)) (.Assign [.Name y py] (.ListComp elt [⟨tg, iter, ifs, 0⟩] sc pos) spos) (sComp i ws caps wi g tt te) := by
 intro pins s σ H D I h
 show wpAny (model X.prog X.w) X.A (exec (.Assign [.Name y py] (.ListComp elt [⟨tg, iter, ifs, 0⟩] sc pos) spos) X.env) _ _ s
 rw [exec_Assign_Name_used _ _ _ _ hsw]
 refine wpAny_bind (wpAny_standAt (wpAny_bind ?_))
 show wpAny _ X.A (do let _ ← comprehension (.ListComp elt [⟨tg, iter, ifs, 0⟩] sc pos) sc X.env _ (newList []) false (eval iter X.env) (some (assign (.Name y py) X.env))) _ _ s
 refine wpAny_bind (thn (wpAny_comprehension_free (use := some (assign (.Name y py) X.env)) (cl := closL X.env sc.names []) (Q := fun _ s' => SP (X.wish (XE X E)) pins D .next s') rfl hs (closureFor_eq (free_cellsK I.unwish B)) B.kind B.names
  (thn (hi pins s σ H _ I h) fun v s1 h1 => thn h1 fun itv s2 h2 => ?_)) fun _ s' q => wpAny_pure (wpAny_pure q))
 obtain ⟨it, fp, tn, J, H2, e, I2, T, st, f2, q⟩ := h2
 subst e
 refine block_okK (RR := fun acc C => compPost (model X.prog X.w) X.A (XE X E) (some (assign (.Name y py) X.env)) (fun _ s' => SP (X.wish (XE X E)) pins D .next s') acc C) fm hx B hc hcap (fun own C pn s H => hg σ own C fp pn s H) (fun own C pn s H => ht σ own C fp pn s H) (fun own C pn s H => he σ own C fp pn s H) I2 T st f2 q
  (fun a C s' H' ys hD fC naC z ⟨m, hn⟩ hC k => ?_) fun D C e s' ⟨m, hn⟩ k => ⟨m, hn, fun h' sb cenv _ => pass_on_x (k h' sb)⟩
 have k0 := k s'.heap (.refl ..)
 have I3 : Inv X pins σ (upd H' a (.lst ys)) s' := Inv.unwish k0
 show wpAny (model X.prog X.w) X.A (assign (.Name y py) X.env (.ref a)) _ _ s'
 have nL : X.env.locals ≠ C := Nat.ne_of_lt (Nat.lt_of_lt_of_le I2.unwish.lt hC)
 have nC : ∀ x c, X.env.cells.lookup x = some c → c ≠ C := fun x c e => by
  obtain ⟨v, q⟩ := I2.unwish.cell x c e
  exact Nat.ne_of_lt (Nat.lt_of_lt_of_le q.lt hC)
 refine wpAny_assign_Name (store_ok2 (X := X) I3 hN hy (.inl hl) (show RelV (.ref a) (.ref a) from rfl) (fun s3 I4 ⟨b, sb, hb⟩ => ?_) (.inr hl))
 have nb : C ≠ b := by
  rcases hb with rfl | hb
  ·exact nL.symm
  ·exact (nC _ _ hb).symm
 refine ⟨m, hn.sameBut sb nb, fun h' sb' => ?_⟩
 have mv : Moved (frs X.stack) [C] s3.heap h' := ⟨fun b o _ c e => (sb'.2 b (by simpa using c)).trans e, fun b o c e => ⟨o.slots, (sb'.2 b (by simpa using c)).trans e⟩⟩
 have uC : upd H' a (.lst ys) C = none := by
  rw [upd_ne naC.symm]
  exact fC
 have I5 : Inv X pins (σ.set i (some (.ref a))) (upd H' a (.lst ys)) { s3 with heap := h' } := by
  refine callY (s' := { s3 with heap := h' }) (ch := [C]) I4 rfl mv.un (mv.hok I4.hok I4.stkFree fun b hb => ?_) I4.bare fun b hb => ?_
  ·have e : b = C := by simpa using hb
   rw [e]
   exact uC
  ·have e : b = C := by simpa using hb
   subst e
   refine ⟨Heap.get?_none_of_le (Nat.le_trans I2.unwish.sz hC), nL.symm, nC, I2.unwish.nofs hC, fun p hp => ?_⟩
   exact Nat.ne_of_lt (Nat.lt_of_lt_of_le (Heap.lt_size (I2.unwish.pin p hp).1) hC)
 exact ⟨_, _, I5.wish _, z a hD⟩
end
end L2.L4
namespace PI
open PySem
noncomputable section
inductive Val where
 | non | bl (b : Bool) | int (i : Int) | str (x : Str) | tup (f : Bool) (xs : List Val) | lst (xs : List Val) | dct (ks vs : List Val) | obj (c : Nat) (ns : List Str) (vs : List Val) | ref (n : Nat)
deriving Inhabited
inductive Ob where
 | lst (xs : List Val) | dct (ks vs : List Val) | ins (c : Nat) (ns : List Str) (vs : List Val)
abbrev Store := List Ob
abbrev Env := List (Option Val)
structure Exn where
 c : Nat
 ns : List Str
 vs : List Val
inductive R (α : Type) where
 | ok (a : α) (st : Store) | exc (x : Exn) (st : Store) | stuck
namespace R
def bind {α β : Type} (r : R α) (f : α → Store → R β) : R β := match r with
 | .ok a st => f a st
 | .exc x st => .exc x st
 | .stuck => .stuck
@[simp] theorem bind_ok {α β : Type} (a : α) (st : Store) (f : α → Store → R β) : (R.ok a st).bind f = f a st := rfl
@[simp] theorem bind_exc {α β : Type} (x : Exn) (st : Store) (f : α → Store → R β) : (R.exc x st : R α).bind f = .exc x st := rfl
@[simp] theorem bind_stuck {α β : Type} (f : α → Store → R β) : (R.stuck : R α).bind f = .stuck := rfl
def ofO {α : Type} (o : Option α) (st : Store) : R α := match o with
 | some a => .ok a st
 | none => .stuck
@[simp] theorem ofO_some {α : Type} (a : α) (st : Store) : ofO (some a) st = .ok a st := rfl
@[simp] theorem ofO_none {α : Type} (st : Store) : (ofO none st : R α) = .stuck := rfl
end R
mutual
def Val.bd (n : Nat) : Val → Bool
 | .tup _ xs => bds n xs
 | .lst xs => bds n xs
 | .dct ks vs => bds n ks && bds n vs
 | .obj _ _ vs => bds n vs
 | .ref k => decide (k < n)
 | _ => true
def bds (n : Nat) : List Val → Bool
 | [] => true
 | v :: r => v.bd n && bds n r
end
def Ob.bd (n : Nat) : Ob → Bool
 | .lst xs => bds n xs
 | .dct ks vs => bds n ks && bds n vs
 | .ins _ _ vs => bds n vs
mutual
def Val.sub (f : Nat → Option Val) : Val → Option Val
 | .tup g xs => (subs f xs).map fun xs => .tup g xs
 | .lst xs => (subs f xs).map .lst
 | .dct ks vs => (subs f vs).map fun vs => .dct ks vs
 | .obj c ns vs => (subs f vs).map fun vs => .obj c ns vs
 | .ref k => f k
 | v => some v
def subs (f : Nat → Option Val) : List Val → Option (List Val)
 | [] => some []
 | v :: r => (v.sub f).bind fun v => (subs f r).map fun r => v :: r
end
def frzR (st : Store) (n x : Nat) : Nat → Nat → Option Val
 | 0, k => if k < n then some (.ref k) else none
 | d + 1, k => if k < n then some (.ref k) else if k = x then none else match st[k]? with
  | some (.lst xs) => (subs (frzR st n x d) xs).map .lst
  | some (.dct ks vs) => (subs (frzR st n x d) vs).map fun vs => .dct ks vs
  | some (.ins c ns vs) => (subs (frzR st n x d) vs).map fun vs => .obj c ns vs
  | none => none
def Val.frz (st : Store) (n x : Nat) (v : Val) : Option Val := v.sub (frzR st n x 6)
def frzs (st : Store) (n x : Nat) (vs : List Val) : Option (List Val) := subs (frzR st n x 6) vs
def Old (st st' : Store) : Prop := st.length ≤ st'.length ∧ ∀ (i : Nat) o, i < st.length → st'[i]? = some o → st[i]? = some o ∨ o.bd st.length = true
inductive Bi where
 | len | tuple | list | dict | abs | sum | all | any | min | max | int | str | bool | sorted | isTy (n : String)
inductive Bm where
 | append | extend | insert | pop | clear | reverse | remove | get | join | split | isdigit | count | index | keys | values
inductive T where
 | var (i : Nat) | tup (ts : List T)
mutual
inductive E where
 | const (v : Val) | var (i : Nat)
 | bin (op : Operator) (a b : E) | neg (a : E) | cmp (op : CmpOp) (a b : E) | cmp2 (op op' : CmpOp) (a b c : E)
 | and (a b : E) | or (a b : E) | not (a : E) | ite (c a b : E)
 | tup (es : List E) | lst (es : List E) | dct (ks vs : List E)
 | fld (o : E) (f : Str) | idx (o i : E) | slc (o : E) (lo hi : Option E)
 | call (f : Nat) (es : List E) | make (c : Nat) (es : List E) | meth (o : E) (m : Str) (es : List E)
 | bi (b : Bi) (es : List E) | bm (m : Bm) (o : E) (es : List E) | isI (e : E) (c : Nat)
 | comp (nw : Nat) (caps : List Nat) (t : T) (q : Q) (c : Option E) (e : E)
 | sortK (q : E) (f : Nat) | fz (e : E)
inductive Q where
 | val (e : E) | rng1 (a : E) | rng2 (a b : E) | zip (a b : E) | enm (a : E) | items (a : E) | rev (a : E)
end
inductive S where
 | set (t : T) (e : E) | setI (o i e : E) | setF (o : E) (f : Str) (e : E)
 | aug (i : Nat) (op : Operator) (e : E) | augI (o i : E) (op : Operator) (e : E) | augF (o : E) (f : Str) (op : Operator) (e : E)
 | expr (e : E) | ret (e : E) | retN | pass | brk | cont
 | ife (c : E) (a b : List S) | whl (c : E) (b : List S) | for (t : T) (q : Q) (b : List S)
 | raise (c : Nat) (es : List E) | try_ (b : List S) (c : Nat) (x : Option Nat) (h : List S)
structure Fn where
 np : Nat
 ns : Nat
 body : List S
structure Cl where
 flds : List Str
 init : Option Nat
 meths : List (Str × Nat)
 sup : List Nat
 exc : Bool
 chg : Bool
structure Pg where
 fns : List (Nat × Fn)
 cls : List (Nat × Cl)
 w : Nat
def Pg.fn (P : Pg) (i : Nat) : Option Fn := P.fns.lookup i
def Pg.cl (P : Pg) (i : Nat) : Option Cl := P.cls.lookup i
def lookF (ns : List Str) (vs : List Val) (f : Str) : Option Val := match ns, vs with
 | n :: ns, v :: vs => if n = f then some v else lookF ns vs f
 | _, _ => none
def putF (ns : List Str) (vs : List Val) (f : Str) (x : Val) : List Str × List Val := match ns, vs with
 | n :: ns, v :: vs => if n = f then (n :: ns, x :: vs) else let r := putF ns vs f x; (n :: r.1, v :: r.2)
 | _, _ => ([f], [x])
def resO (k : Nat) : Option Ob → Val
 | some (.lst xs) => .lst xs
 | some (.dct ks vs) => .dct ks vs
 | some (.ins c ns vs) => .obj c ns vs
 | none => .ref k
def res (st : Store) : Val → Val
 | .ref k => resO k st[k]?
 | .non => .non
 | .bl b => .bl b
 | .int i => .int i
 | .str x => .str x
 | .tup f xs => .tup f xs
 | .lst xs => .lst xs
 | .dct ks vs => .dct ks vs
 | .obj c ns vs => .obj c ns vs
def new (o : Ob) (st : Store) : R Val := .ok (.ref st.length) (st ++ [o])
def eqvs (f : Val → Val → Option Bool) : List Val → List Val → Option Bool
 | [], [] => some true
 | [], _ :: _ => some false
 | _ :: _, [] => some false
 | x :: xs, y :: ys => (f x y).bind fun a => (eqvs f xs ys).map fun b => a && b
def Val.kd : Val → Nat
 | .non => 0
 | .int _ => 1
 | .str _ => 2
 | .tup _ _ => 3
 | .lst _ => 4
 | .bl _ => 5
 | .dct _ _ => 6
 | .obj _ _ _ => 7
 | .ref _ => 8
def apart (i j : Nat) : Option Bool := if i < 4 ∧ j < 4 ∨ i = 3 ∧ j = 4 ∨ i = 4 ∧ j = 3 then some false else none
def eqv : Nat → Val → Val → Option Bool
 | _, .non, .non => some true
 | _, .bl a, .bl b => some (a == b)
 | _, .int a, .int b => some (a == b)
 | _, .str a, .str b => some (decide (a = b))
 | d + 1, .tup _ xs, .tup _ ys => eqvs (eqv d) xs ys
 | 0, .tup _ _, .tup _ _ => none
 | d + 1, .lst xs, .lst ys => eqvs (eqv d) xs ys
 | 0, .lst _, .lst _ => none
 | _, v, w => if v.kd = w.kd then none else apart v.kd w.kd
def memv (x : Val) : List Val → Option Bool
 | [] => some false
 | y :: ys => (eqv 8 y x).bind fun a => (memv x ys).map fun b => a || b
def keyK : Val → Bool
 | .int _ => true
 | .str _ => true
 | _ => false
def keyV : Val → Bool
 | .int _ => true
 | .str _ => true
 | .tup f xs => !f && xs.all keyK
 | _ => false
def getD (k : Val) : List Val → List Val → Option (Option Val)
 | a :: ks, v :: vs => (eqv 8 a k).bind fun b => if b = true then some (some v) else getD k ks vs
 | _, _ => some none
def truth : Val → Option Bool
 | .non => some false
 | .bl b => some b
 | .int i => some (i != 0)
 | .str x => if x.length ≤ 1000 then some ((x.length : Int) != 0) else none
 | .tup _ xs => some !xs.isEmpty
 | .lst xs => some !xs.isEmpty
 | _ => none
def lenV : Val → Option Int
 | .tup _ xs => some xs.length
 | .lst xs => some xs.length
 | .dct ks _ => some ks.length
 | .str x => if x.length ≤ 1000 then some (x.length : Int) else none
 | _ => none
def ixOf (n : Nat) (i : Int) : Option Nat := if 0 ≤ i then (if i < n then some i.toNat else none) else if -(n : Int) ≤ i then some (i + n).toNat else none
def atV (xs : List Val) (i : Int) : Option Val := (ixOf xs.length i).bind fun j => xs[j]?
def cutN (n d : Nat) : Option Int → Nat
 | none => d
 | some v => if v < 0 then (v + (n : Int)).toNat else min v.toNat n
def cut {α : Type} (xs : List α) (lo hi : Option Int) : List α := (xs.drop (cutN xs.length 0 lo)).take (cutN xs.length xs.length hi - cutN xs.length 0 lo)
def big (i : Int) : Prop := i.natAbs < 2 ^ 1000
def mulOk (i j : Int) : Prop := i.natAbs < 2 ^ 64 ∨ j.natAbs < 2 ^ 64 ∨ (big i ∧ big j)
def iff {α : Type} (c : Prop) (r : R α) : R α := @ite _ c (Classical.propDecidable c) r .stuck
theorem iff_t {α : Type} {c : Prop} {r : R α} (h : c) : iff c r = r := if_pos h
def int2 {α : Type} (f : Int → Int → Store → R α) (i : Int) : Val → Store → R α
 | .int j, st => f i j st
 | _, _ => .stuck
def int1 {α : Type} (f : Int → Int → Store → R α) : Val → Val → Store → R α
 | .int i, y, st => int2 f i y st
 | _, _, _ => .stuck
def addS (i : Str) : Val → Store → R Val
 | .str j, st => iff (i.length + j.length ≤ 100000) (.ok (.str (i ++ j)) st)
 | _, _ => .stuck
def addT (xs : List Val) : Val → Store → R Val
 | .tup _ ys, st => iff (xs ≠ [] ∧ ys ≠ [] ∧ xs.length + ys.length ≤ 10000) (.ok (.tup false (xs ++ ys)) st)
 | _, _ => .stuck
def addL (xs : List Val) : Val → Store → R Val
 | .lst ys, st => iff (xs.length + ys.length ≤ 10000) (new (.lst (xs ++ ys)) st)
 | _, _ => .stuck
def addV : Val → Val → Store → R Val
 | .int i, y, st => int2 (fun i j st => .ok (.int (i + j)) st) i y st
 | .str i, y, st => addS i y st
 | .tup _ xs, y, st => addT xs y st
 | .lst xs, y, st => addL xs y st
 | _, _, _ => .stuck
def mulI (i j : Int) (st : Store) : R Val := iff (mulOk i j) (.ok (.int (i * j)) st)
def divI (i j : Int) (st : Store) : R Val := iff (j ≠ 0 ∧ big j) (.ok (.int (i.fdiv j)) st)
def modI (i j : Int) (st : Store) : R Val := iff (j ≠ 0) (.ok (.int (i.fmod j)) st)
def powI (i j : Int) (st : Store) : R Val := iff (0 ≤ j ∧ j ≤ 1000 ∧ i.natAbs < 2 ^ 64) (.ok (.int (i ^ j.toNat)) st)
def binV : Operator → Val → Val → Store → R Val
 | .Add, x, y, st => addV x y st
 | .Sub, x, y, st => int1 (fun i j st => .ok (.int (i - j)) st) x y st
 | .Mult, x, y, st => int1 mulI x y st
 | .FloorDiv, x, y, st => int1 divI x y st
 | .Mod, x, y, st => int1 modI x y st
 | .Pow, x, y, st => int1 powI x y st
 | _, _, _, _ => .stuck
def isNon : Val → Bool
 | .non => true
 | .bl _ => false
 | .int _ => false
 | .str _ => false
 | .tup _ _ => false
 | .lst _ => false
 | .dct _ _ => false
 | .obj _ _ _ => false
 | .ref _ => false
def isV (neg : Bool) (x : Val) : Val → Store → R Bool
 | .non, st => .ok (if neg = true then !isNon x else isNon x) st
 | _, _ => .stuck
def inV (neg : Bool) (x : Val) : Val → Store → R Bool
 | .tup _ ys, st => R.ofO ((memv x ys).map fun b => if neg = true then !b else b) st
 | .lst ys, st => R.ofO ((memv x ys).map fun b => if neg = true then !b else b) st
 | .dct ks vs, st => iff (keyV x = true) (R.ofO ((getD x ks vs).map fun o => if neg = true then o.isNone else o.isSome) st)
 | _, _ => .stuck
def cmpV : CmpOp → Val → Val → Store → R Bool
 | .Eq, x, y, st => R.ofO (eqv 8 x y) st
 | .NotEq, x, y, st => R.ofO ((eqv 8 x y).map fun b => !b) st
 | .Lt, x, y, st => int1 (fun i j st => .ok (decide (i < j)) st) x y st
 | .LtE, x, y, st => int1 (fun i j st => .ok (decide (i ≤ j)) st) x y st
 | .Gt, x, y, st => int1 (fun i j st => .ok (decide (j < i)) st) x y st
 | .GtE, x, y, st => int1 (fun i j st => .ok (decide (j ≤ i)) st) x y st
 | .Is, x, y, st => isV false x y st
 | .IsNot, x, y, st => isV true x y st
 | .In, x, y, st => inV false x y st
 | .NotIn, x, y, st => inV true x y st
def blR (r : R Bool) : R Val := r.bind fun b st => .ok (.bl b) st
def idxV : Val → Val → Store → R Val
 | .tup _ xs, .int k, st => R.ofO (atV xs k) st
 | .lst xs, .int k, st => R.ofO (atV xs k) st
 | .str x, .int k, st => iff (x.length ≤ 1000) (R.ofO (((ixOf x.length k).bind fun j => x.cps.toList[j]?).map fun c => .str ⟨#[c]⟩) st)
 | _, _, _ => .stuck
def slcV : Val → Option Int → Option Int → Store → R Val
 | .tup _ xs, lo, hi, st => iff (¬ (cutN xs.length 0 lo = 0 ∧ cutN xs.length xs.length hi = xs.length)) (.ok (.tup false (cut xs lo hi)) st)
 | .lst xs, lo, hi, st => new (.lst (cut xs lo hi)) st
 | .str x, lo, hi, st => iff (x.length ≤ 1000) (.ok (.str ⟨(cut x.cps.toList lo hi).toArray⟩) st)
 | _, _, _, _ => .stuck
def allB : List Val → Option Bool
 | [] => some true
 | .bl b :: r => (allB r).map fun c => b && c
 | _ => none
def anyB : List Val → Option Bool
 | [] => some false
 | .bl b :: r => (anyB r).map fun c => b || c
 | _ => none
def sumI : Int → List Val → Option Int
 | a, [] => some a
 | a, .int i :: r => sumI (a + i) r
 | _, _ => none
def isTy (n : String) : Val → Option Bool
 | .non => some false
 | .bl _ => some (n == "bool" || n == "int")
 | .int _ => some (n == "int")
 | .str _ => some (n == "str")
 | .tup _ _ => some (n == "tuple")
 | .lst _ => some (n == "list")
 | .dct _ _ => some (n == "dict")
 | .obj _ _ _ => none
 | .ref _ => none
def bi1 : Bi → Val → Store → R Val
 | .len, x, st => R.ofO ((lenV x).map .int) st
 | .tuple, .tup f xs, st => .ok (.tup f xs) st
 | .tuple, .lst xs, st => .ok (.tup true xs) st
 | .list, .tup _ xs, st => new (.lst xs) st
 | .list, .lst xs, st => new (.lst xs) st
 | .abs, .int i, st => .ok (.int i.natAbs) st
 | .all, .lst xs, st => R.ofO ((allB xs).map .bl) st
 | .any, .lst xs, st => R.ofO ((anyB xs).map .bl) st
 | .sum, .lst xs, st => R.ofO ((sumI 0 xs).map .int) st
 | .int, .bl b, st => .ok (.int (if b = true then 1 else 0)) st
 | .int, .int i, st => .ok (.int i) st
 | .isTy n, x, st => R.ofO ((isTy n x).map .bl) st
 | _, _, _ => .stuck
def biV (b : Bi) : List Val → Store → R Val
 | [x], st => bi1 b x st
 | _, _ => .stuck
def lmV : Bm → Nat → List Val → List Val → Store → R Val
 | .append, k, ys, [x], st => iff (ys.length < 10000) (.ok .non (st.set k (.lst (ys ++ [x]))))
 | .insert, k, ys, [.int i, x], st => iff (0 ≤ i ∧ i ≤ ys.length ∧ ys.length ≤ 1000) (.ok .non (st.set k (.lst (ys.take i.toNat ++ [x] ++ ys.drop i.toNat))))
 | .clear, k, _, [], st => .ok .non (st.set k (.lst []))
 | .reverse, k, ys, [], st => .ok .non (st.set k (.lst ys.reverse))
 | .pop, k, ys, [], st => (R.ofO ys.getLast? st).bind fun y st => .ok y (st.set k (.lst ys.dropLast))
 | _, _, _, _, _ => .stuck
def lxV (k : Nat) (ys : List Val) : Val → Store → R Val
 | .lst zs, st => iff (ys.length + zs.length ≤ 10000) (.ok .non (st.set k (.lst (ys ++ zs))))
 | .tup _ zs, st => iff (ys.length + zs.length ≤ 10000) (.ok .non (st.set k (.lst (ys ++ zs))))
 | _, _ => .stuck
def lpV (m : Bm) (k : Nat) (xs : List Val) (st : Store) : Option Ob → R Val
 | some (.lst ys) => match m, xs with
  | .extend, [x] => lxV k ys (res st x) st
  | m, xs => lmV m k ys xs st
 | _ => .stuck
def dgV : Val → List Val → Store → R Val
 | .dct ks vs, [k], st => iff (keyV k = true) (R.ofO ((getD k ks vs).map fun o => o.getD .non) st)
 | .dct ks vs, [k, d], st => iff (keyV k = true) (R.ofO ((getD k ks vs).map fun o => o.getD d) st)
 | _, _, _ => .stuck
def bmV : Bm → Val → List Val → Store → R Val
 | .get, o, xs, st => dgV (res st o) xs st
 | m, .ref k, xs, st => lpV m k xs st st[k]?
 | _, _, _, _ => .stuck
mutual
def T.put (v : Val) (env : Env) : T → Option Env
 | .var i => if i < env.length then some (env.set i (some v)) else none
 | .tup ts => match v with
  | .tup _ xs => putTs xs env ts
  | _ => none
def putTs (vs : List Val) (env : Env) : List T → Option Env
 | [] => match vs with
  | [] => some env
  | _ => none
 | t :: ts => match vs with
  | v :: vs => (t.put v env).bind fun env => putTs vs env ts
  | [] => none
end
mutual
def T.low (n : Nat) : T → Bool
 | .var i => decide (i < n)
 | .tup ts => lows n ts
def lows (n : Nat) : List T → Bool
 | [] => true
 | t :: ts => t.low n && lows n ts
end
def Kept (chk : List (Nat × Ob)) (st : Store) : Prop := ∀ p ∈ chk, st[p.1]? = some p.2
end
end PI
namespace PI
open PySem
noncomputable section
def chgs (P : Pg) (c : Nat) : Bool := (((P.cl c)).map (·.chg)).getD false
def finR (P : Pg) (n : Nat) (k : Nat) (st' : Store) : Option Ob → R Val
 | some (.lst xs) => (R.ofO (frzs st' n k xs) st').bind fun ys st' => .ok (.ref n) (st'.take n ++ [.lst ys])
 | some (.dct ks vs) => (R.ofO (frzs st' n k vs) st').bind fun vs st' => .ok (.ref n) (st'.take n ++ [.dct ks vs])
 | some (.ins c ns vs) => if chgs P c = true then .ok (.ref k) st' else (R.ofO (frzs st' n st'.length vs) st').bind fun vs st' => .ok (.obj c ns vs) (st'.take n)
 | none => .stuck
def isRef : Val → Option Nat
 | .ref k => some k
 | .non => none
 | .bl _ => none
 | .int _ => none
 | .str _ => none
 | .tup _ _ => none
 | .lst _ => none
 | .dct _ _ => none
 | .obj _ _ _ => none
def finV (P : Pg) (n : Nat) (v : Val) (st' : Store) : Option Nat → R Val
 | some k => if k < n then .ok v (st'.take n) else finR P n k st' st'[k]?
 | none => (R.ofO (v.frz st' n st'.length) st').bind fun v st' => .ok v (st'.take n)
open Classical in
def fin (P : Pg) (st : Store) (v : Val) (st' : Store) : R Val := if Old st st' then finV P st.length v st' (isRef v) else .ok v st'
open Classical in
def finX (st : Store) (x : Exn) (st' : Store) : R Val :=
 if Old st st' then (R.ofO (frzs st' st.length st'.length x.vs) st').bind fun vs st' => .exc { x with vs := vs } (st'.take st.length) else .exc x st'
open Classical in
def fzV (st : Store) (v : Val) (st' : Store) : R Val :=
 if Old st st' then (R.ofO (v.frz st' st.length st'.length) st').bind fun v st' => .ok v (st'.take st.length) else .ok v st'
inductive F where
 | next (env : Env) (st : Store) | ret (v : Val) (st : Store) | brk (env : Env) (st : Store) | cont (env : Env) (st : Store) | exc (x : Exn) (env : Env) (st : Store) | stuck
def F.bind : F → (Env → Store → F) → F
 | .next env st, k => k env st
 | .ret v st, _ => .ret v st
 | .brk env st, _ => .brk env st
 | .cont env st, _ => .cont env st
 | .exc x env st, _ => .exc x env st
 | .stuck, _ => .stuck
def F.of {α : Type} (env : Env) : R α → (α → Store → F) → F
 | .ok a st, k => k a st
 | .exc x st, _ => .exc x env st
 | .stuck, _ => .stuck
def F.ofO (st : Store) : Option Env → F
 | some env => .next env st
 | none => .stuck
abbrev Cal := Nat → List Val → Store → R Val
def itO (k : Nat) : Option Ob → Option (List Val × List (Nat × Ob))
 | some (.lst xs) => some (xs, [(k, .lst xs)])
 | some (.dct _ _) => none
 | some (.ins _ _ _) => none
 | none => none
def itemsOf (st : Store) : Val → Option (List Val × List (Nat × Ob))
 | .tup _ xs => some (xs, [])
 | .lst xs => some (xs, [])
 | .dct _ _ => none
 | .ref k => itO k st[k]?
 | .non => none
 | .bl _ => none
 | .int _ => none
 | .str _ => none
 | .obj _ _ _ => none
def zipV : List Val → List Val → List Val
 | x :: xs, y :: ys => .tup false [x, y] :: zipV xs ys
 | _, _ => []
def enmV : Int → List Val → List Val
 | i, x :: xs => .tup false [.int i, x] :: enmV (i + 1) xs
 | _, [] => []
def rngV (lo : Int) : Nat → List Val
 | 0 => []
 | n + 1 => .int lo :: rngV (lo + 1) n
def rng1R : Val → Store → R (List Val × List (Nat × Ob))
 | .int n, st => iff (-(2 ^ 60) < n ∧ n < 2 ^ 24) (.ok (rngV 0 n.toNat, []) st)
 | _, _ => .stuck
def rng2R (a : Int) : Val → Store → R (List Val × List (Nat × Ob))
 | .int b, st => iff (b - a < 2 ^ 24 ∧ -(2 ^ 60) < a ∧ a < 2 ^ 60 ∧ -(2 ^ 60) < b) (.ok (rngV a (b - a).toNat, []) st)
 | _, _ => .stuck
def rng2V : Val → Val → Store → R (List Val × List (Nat × Ob))
 | .int a, y, st => rng2R a y st
 | _, _, _ => .stuck
def consO : Option Val → List Val → List Val
 | some x, r => x :: r
 | none, r => r
open Classical in
def compL (f : Val → Store → R (Option Val)) (chk : List (Nat × Ob)) : List Val → Store → R (List Val)
 | [], st => iff (Kept chk st) (.ok [] st)
 | v :: vs, st => iff (Kept chk st) ((f v st).bind fun o st => (compL f chk vs st).bind fun r st => .ok (consO o r) st)
def capEnv (nw : Nat) (caps : List Nat) (env : Env) : Env := List.replicate nw none ++ caps.map fun i => (env[i]?).bind id
def boolR : Val → Store → R Bool
 | .bl b, st => .ok b st
 | _, _ => .stuck
def isDm : Bm → Bool
 | .get => true
 | .keys => true
 | .values => true
 | _ => false
def mOk (m : Bm) : Val → Bool
 | .lst _ => !isDm m
 | .dct _ _ => isDm m
 | _ => false
def negV : Val → Store → R Val
 | .int i, st => .ok (.int (-i)) st
 | _, _ => .stuck
def intO : Option Val → Store → R (Option Int)
 | none, st => .ok none st
 | some (.int i), st => .ok (some i) st
 | _, _ => .stuck
def hasF (P : Pg) (c : Nat) (f : Str) : Bool := (((P.cl c)).map fun k => k.flds.contains f).getD false
def fldV (P : Pg) (f : Str) : Val → Store → R Val
 | .obj c ns vs, st => iff (hasF P c f = true) (R.ofO (lookF ns vs f) st)
 | _, _ => .stuck
def isIV (P : Pg) (c : Nat) : Val → Store → R Val
 | .obj k _ _, st => R.ofO (((P.cl k)).map fun k => .bl (k.sup.contains c)) st
 | .non, st => .ok (.bl false) st
 | .bl _, st => .ok (.bl false) st
 | .int _, st => .ok (.bl false) st
 | .str _, st => .ok (.bl false) st
 | .tup _ _, st => .ok (.bl false) st
 | .lst _, st => .ok (.bl false) st
 | .dct _ _, st => .ok (.bl false) st
 | .ref _, _ => .stuck
def makeV (P : Pg) (cl : Cal) (c : Nat) (xs : List Val) (st : Store) : Option (Option Nat) → R Val
 | some (some f) => (cl f (.ref st.length :: xs) (st ++ [.ins c [] []])).bind fun _ st' => fin P st (.ref st.length) st'
 | some none => if xs.isEmpty then fin P st (.ref st.length) (st ++ [.ins c [] []]) else .stuck
 | none => .stuck
def methV (P : Pg) (cl : Cal) (m : Str) (x : Val) (xs : List Val) (st : Store) : Val → R Val
 | .obj c _ _ => (R.ofO (((P.cl c)).bind fun k => k.meths.lookup m) st).bind fun f st => cl f (x :: xs) st
 | _ => .stuck
def ifB {α : Type} : Bool → R α → R α → R α
 | true, a, _ => a
 | false, _, b => b
def turnC (o : Option Env) (c : Env → Store → R Bool) (e : Env → Store → R Val) (st : Store) : R (Option Val) := (R.ofO o st).bind fun env st =>
 (c env st).bind fun b st => ifB b ((e env st).bind fun x st => .ok (some x) st) (.ok none st)
def zipR : Option (List Val × List (Nat × Ob)) → Option (List Val × List (Nat × Ob)) → Store → R (List Val × List (Nat × Ob))
 | some (xs, c), some (ys, d), st => iff (xs.length = ys.length) (.ok (zipV xs ys, c ++ d) st)
 | _, _, _ => .stuck
mutual
def E.run (P : Pg) (cl : Cal) : E → Env → Store → R Val
 | .const v, _, st => .ok v st
 | .var i, env, st => R.ofO ((env[i]?).bind id) st
 | .bin op a b, env, st => (a.run P cl env st).bind fun x st => (b.run P cl env st).bind fun y st => binV op (res st x) (res st y) st
 | .neg a, env, st => (a.run P cl env st).bind fun x st => negV x st
 | .cmp op a b, env, st => (a.run P cl env st).bind fun x st => (b.run P cl env st).bind fun y st => blR (cmpV op (res st x) (res st y) st)
 | .cmp2 op op' a b c, env, st => (a.run P cl env st).bind fun x st => (b.run P cl env st).bind fun y st => (cmpV op (res st x) (res st y) st).bind fun z st => ifB z ((c.run P cl env st).bind fun w st => blR (cmpV op' (res st y) (res st w) st)) (.ok (.bl false) st)
 | .and a b, env, st => (a.run P cl env st).bind fun x st => (boolR x st).bind fun t st => ifB t (b.run P cl env st) (.ok (.bl false) st)
 | .or a b, env, st => (a.run P cl env st).bind fun x st => (boolR x st).bind fun t st => ifB t (.ok (.bl true) st) (b.run P cl env st)
 | .not a, env, st => (a.run P cl env st).bind fun x st => (boolR x st).bind fun t st => .ok (.bl !t) st
 | .ite c a b, env, st => (c.run P cl env st).bind fun x st => (R.ofO (truth (res st x)) st).bind fun t st => ifB t (a.run P cl env st) (b.run P cl env st)
 | .tup es, env, st => (runEs P cl es env st).bind fun xs st => iff (xs.length ≤ 1000) (.ok (.tup false xs) st)
 | .lst es, env, st => (runEs P cl es env st).bind fun xs st => iff (xs.length ≤ 1000) (new (.lst xs) st)
 | .dct _ _, _, _ => .stuck
 | .fld o f, env, st => (o.run P cl env st).bind fun x st => fldV P f (res st x) st
 | .idx o i, env, st => (o.run P cl env st).bind fun x st => (i.run P cl env st).bind fun y st => idxV (res st x) y st
 | .slc o lo hi, env, st => (o.run P cl env st).bind fun x st => ((runO P cl lo env st).bind fun a st => intO a st).bind fun a st => ((runO P cl hi env st).bind fun b st => intO b st).bind fun b st => slcV (res st x) a b st
 | .call f es, env, st => (runEs P cl es env st).bind fun xs st => cl f xs st
 | .make c es, env, st => (runEs P cl es env st).bind fun xs st => makeV P cl c xs st (((P.cl c)).map (·.init))
 | .meth o m es, env, st => (o.run P cl env st).bind fun x st => (runEs P cl es env st).bind fun xs st => methV P cl m x xs st (res st x)
 | .bi b es, env, st => (runEs P cl es env st).bind fun xs st => biV b (xs.map (res st)) st
 | .bm m o es, env, st => (o.run P cl env st).bind fun x st => iff (mOk m (res st x) = true) ((runEs P cl es env st).bind fun xs st => bmV m x xs st)
 | .isI e c, env, st => (e.run P cl env st).bind fun x st => isIV P c (res st x) st
 | .comp nw caps t q c e, env, st => (q.run P cl env st).bind fun it st => iff (t.low nw = true ∧ it.1.length ≤ 10000) ((compL (fun v st => turnC (t.put v (capEnv nw caps env)) (runC P cl c) (e.run P cl) st) it.2 it.1 st).bind fun xs st => new (.lst xs) st)
 | .sortK _ _, _, _ => .stuck
 | .fz e, env, st => (e.run P cl env st).bind fun v st' => fzV st v st'
def runEs (P : Pg) (cl : Cal) : List E → Env → Store → R (List Val)
 | [], _, st => .ok [] st
 | e :: es, env, st => (e.run P cl env st).bind fun x st => (runEs P cl es env st).bind fun xs st => .ok (x :: xs) st
def runO (P : Pg) (cl : Cal) : Option E → Env → Store → R (Option Val)
 | none, _, st => .ok none st
 | some e, env, st => (e.run P cl env st).bind fun x st => .ok (some x) st
def runC (P : Pg) (cl : Cal) : Option E → Env → Store → R Bool
 | none, _, st => .ok true st
 | some e, env, st => (e.run P cl env st).bind fun x st => R.ofO (truth (res st x)) st
def Q.run (P : Pg) (cl : Cal) : Q → Env → Store → R (List Val × List (Nat × Ob))
 | .val e, env, st => (e.run P cl env st).bind fun x st => R.ofO (itemsOf st x) st
 | .rng1 a, env, st => (a.run P cl env st).bind fun x st => rng1R x st
 | .rng2 a b, env, st => (a.run P cl env st).bind fun x st => (b.run P cl env st).bind fun y st => rng2V x y st
 | .zip a b, env, st => (a.run P cl env st).bind fun x st => (b.run P cl env st).bind fun y st => zipR (itemsOf st x) (itemsOf st y) st
 | .enm a, env, st => (a.run P cl env st).bind fun x st => (R.ofO (itemsOf st x) st).bind fun p st => .ok (enmV 0 p.1, p.2) st
 | .items _, _, _ => .stuck
 | .rev _, _, _ => .stuck
end
def F.turn : F → (Env → Store → F) → F
 | .next env st, k => k env st
 | .cont env st, k => k env st
 | .brk env st, _ => .next env st
 | .ret v st, _ => .ret v st
 | .exc x env st, _ => .exc x env st
 | .stuck, _ => .stuck
def iffF (c : Prop) (r : F) : F := @ite _ c (Classical.propDecidable c) r .stuck
theorem iffF_t {c : Prop} {r : F} (h : c) : iffF c r = r := if_pos h
open Classical in
def forL (t : T) (body : Env → Store → F) (chk : List (Nat × Ob)) : List Val → Env → Store → F
 | [], env, st => iffF (Kept chk st) (.next env st)
 | v :: vs, env, st => iffF (Kept chk st) ((F.ofO st (t.put v env)).bind fun env st => (body env st).turn fun env st => forL t body chk vs env st)
def ifF : Bool → F → F → F
 | true, a, _ => a
 | false, _, b => b
def whlL (test : Env → Store → R Bool) (body : Env → Store → F) : Nat → Env → Store → F
 | 0, _, _ => .stuck
 | n + 1, env, st => F.of env (test env st) fun b st => ifF b ((body env st).turn fun env st => whlL test body n env st) (.next env st)
def setFO (P : Pg) (k : Nat) (f : Str) (x : Val) (st : Store) : Option Ob → R Unit
 | some (.ins c ns vs) => iff (hasF P c f = true ∧ ns.length < 100) (.ok () (st.set k (.ins c (putF ns vs f x).1 (putF ns vs f x).2)))
 | _ => .stuck
def setF (P : Pg) (f : Str) (x : Val) : Val → Store → R Unit
 | .ref k, st => setFO P k f x st st[k]?
 | _, _ => .stuck
def setIO (k : Nat) (x : Val) (st : Store) : Option Ob → Val → R Unit
 | some (.lst xs), .int j => (R.ofO (ixOf xs.length j) st).bind fun j st => .ok () (st.set k (.lst (xs.set j x)))
 | _, _ => .stuck
def setI (i x : Val) : Val → Store → R Unit
 | .ref k, st => setIO k x st st[k]? i
 | _, _ => .stuck
def isub (P : Pg) (c k : Nat) : Bool := (((P.cl k)).map fun k => k.sup.contains c).getD false
def unset (x : Option Nat) (env : Env) : Env := match x with
 | some i => env.set i none
 | none => env
def F.unset (x : Option Nat) : F → F
 | .next env st => .next (PI.unset x env) st
 | .brk env st => .brk (PI.unset x env) st
 | .cont env st => .cont (PI.unset x env) st
 | .exc y env st => .exc y (PI.unset x env) st
 | .ret v st => .ret v st
 | .stuck => .stuck
def hset (x : Option Nat) (y : Exn) (env : Env) : Env := match x with
 | some i => env.set i (some (.obj y.c y.ns y.vs))
 | none => env
def F.catch (P : Pg) (c : Nat) (x : Option Nat) (h : Env → Store → F) : F → F
 | .exc y env st => ifF (isub P c y.c) ((h (hset x y env) st).unset x) (.exc y env st)
 | .next env st => .next env st
 | .brk env st => .brk env st
 | .cont env st => .cont env st
 | .ret v st => .ret v st
 | .stuck => .stuck
def raiseV (env : Env) (st : Store) : Val → F
 | .obj c ns vs => .exc ⟨c, ns, vs⟩ env st
 | _ => .stuck
def raiseF (P : Pg) (cl : Cal) (c : Nat) (xs : List Val) (env : Env) (st : Store) : Option (Option Nat) → F
 | some (some f) => F.of env ((cl f (.ref st.length :: xs) (st ++ [.ins c [] []])).bind fun _ st' => fin P st (.ref st.length) st') fun v st => raiseV env st v
 | some none => .exc ⟨c, [], []⟩ env st
 | none => .stuck
mutual
def S.run (P : Pg) (cl : Cal) : S → Env → Store → F
 | .set t e, env, st => F.of env (e.run P cl env st) fun x st => F.ofO st (t.put x env)
 | .setI o i e, env, st => F.of env ((e.run P cl env st).bind fun x st => (o.run P cl env st).bind fun y st => (i.run P cl env st).bind fun z st => setI z x y st) fun _ st => .next env st
 | .setF o f e, env, st => F.of env ((e.run P cl env st).bind fun x st => (o.run P cl env st).bind fun y st => setF P f x y st) fun _ st => .next env st
 | .aug i op e, env, st => F.of env ((R.ofO ((env[i]?).bind id) st).bind fun x st => (e.run P cl env st).bind fun y st => binV op x (res st y) st) fun x st => .next (env.set i (some x)) st
 | .augI _ _ _ _, _, _ => .stuck
 | .augF _ _ _ _, _, _ => .stuck
 | .expr e, env, st => F.of env (e.run P cl env st) fun _ st => .next env st
 | .ret e, env, st => F.of env (e.run P cl env st) fun x st => .ret x st
 | .retN, _, st => .ret .non st
 | .pass, env, st => .next env st
 | .brk, env, st => .brk env st
 | .cont, env, st => .cont env st
 | .ife c a b, env, st => F.of env (runC P cl (some c) env st) fun t st => ifF t (runSs P cl a env st) (runSs P cl b env st)
 | .whl c b, env, st => whlL (fun env st => runC P cl (some c) env st) (fun env st => runSs P cl b env st) P.w env st
 | .for t q b, env, st => F.of env (q.run P cl env st) fun it st => forL t (fun env st => runSs P cl b env st) it.2 it.1 env st
 | .raise c es, env, st => F.of env (runEs P cl es env st) fun xs st => raiseF P cl c xs env st (((P.cl c)).map (·.init))
 | .try_ b c x h, env, st => (runSs P cl b env st).catch P c x fun env st => runSs P cl h env st
def runSs (P : Pg) (cl : Cal) : List S → Env → Store → F
 | [], env, st => .next env st
 | s :: ss, env, st => (s.run P cl env st).bind fun env st => runSs P cl ss env st
end
def F.fin (P : Pg) (st : Store) : F → R Val
 | .next _ st' => PI.fin P st .non st'
 | .ret v st' => PI.fin P st v st'
 | .exc x _ st' => finX st x st'
 | .brk _ _ => .stuck
 | .cont _ _ => .stuck
 | .stuck => .stuck
def runFn (P : Pg) (cl : Cal) (xs : List Val) (st : Store) : Option Fn → R Val
 | some d => iff (xs.length = d.np) ((runSs P cl d.body (xs.map some ++ List.replicate (d.ns - d.np) none) st).fin P st)
 | none => .stuck
def call (P : Pg) : Nat → Cal
 | 0, _, _, _ => .stuck
 | n + 1, f, xs, st => runFn P (call P n) xs st (P.fn f)
end
theorem old_refl (st : Store) : Old st st := ⟨Nat.le_refl _, fun _ _ _ h => .inl h⟩
theorem old_set (st g : Store) (k : Nat) (o : Ob) (h : o.bd st.length = true) : Old st (st.set k o ++ g) := ⟨by simp, fun i u hi e => by
 rw [List.getElem?_append_left (by simpa using hi), List.getElem?_set] at e
 split at e
 ·split at e
  ·exact .inr (by cases e; exact h)
  ·cases e
 ·exact .inl e⟩
theorem old_set0 (st : Store) (k : Nat) (o : Ob) (h : o.bd st.length = true) : Old st (st.set k o) := by
 have := old_set st [] k o h
 rwa [List.append_nil] at this
end PI
set_option autoImplicit true
set_option relaxedAutoImplicit true
namespace PI
open PySem
@[simp] theorem resO_q1 (k : Nat) : resO k (some (.lst xs)) = .lst xs := rfl
@[simp] theorem resO_q2 (k : Nat) : resO k (some (.dct ks vs)) = .dct ks vs := rfl
@[simp] theorem resO_q3 (k : Nat) : resO k (some (.ins c ns vs)) = .obj c ns vs := rfl
@[simp] theorem resO_q4 (k : Nat) : resO k none = .ref k := rfl
@[simp] theorem res_q1 (st : Store) : res st (.ref k) = resO k st[k]? := rfl
@[simp] theorem res_q2 (st : Store) : res st .non = .non := rfl
@[simp] theorem res_q3 (st : Store) : res st (.bl b) = .bl b := rfl
@[simp] theorem res_q4 (st : Store) : res st (.int i) = .int i := rfl
@[simp] theorem res_q5 (st : Store) : res st (.str x) = .str x := rfl
@[simp] theorem res_q6 (st : Store) : res st (.tup f xs) = .tup f xs := rfl
@[simp] theorem res_q7 (st : Store) : res st (.lst xs) = .lst xs := rfl
@[simp] theorem res_q8 (st : Store) : res st (.dct ks vs) = .dct ks vs := rfl
@[simp] theorem res_q9 (st : Store) : res st (.obj c ns vs) = .obj c ns vs := rfl
@[simp] theorem int2_q1 {α : Type} (f : Int → Int → Store → R α) (i : Int) : int2 f i (.int j) st = f i j st := rfl
@[simp] theorem int1_q1 {α : Type} (f : Int → Int → Store → R α) : int1 f (.int i) y st = int2 f i y st := rfl
@[simp] theorem addS_q1 (i : Str) : addS i (.str j) st = iff (i.length + j.length ≤ 100000) (.ok (.str (i ++ j)) st) := rfl
@[simp] theorem addT_q1 (xs : List Val) : addT xs (.tup w1_ ys) st = iff (xs ≠ [] ∧ ys ≠ [] ∧ xs.length + ys.length ≤ 10000) (.ok (.tup false (xs ++ ys)) st) := rfl
@[simp] theorem addL_q1 (xs : List Val) : addL xs (.lst ys) st = iff (xs.length + ys.length ≤ 10000) (new (.lst (xs ++ ys)) st) := rfl
@[simp] theorem addV_q1  : addV  (.int i) y st = int2 (fun i j st => .ok (.int (i + j)) st) i y st := rfl
@[simp] theorem addV_q2  : addV  (.str i) y st = addS i y st := rfl
@[simp] theorem addV_q3  : addV  (.tup w1_ xs) y st = addT xs y st := rfl
@[simp] theorem addV_q4  : addV  (.lst xs) y st = addL xs y st := rfl
@[simp] theorem binV_q1  : binV  .Add x y st = addV x y st := rfl
@[simp] theorem binV_q2  : binV  .Sub x y st = int1 (fun i j st => .ok (.int (i - j)) st) x y st := rfl
@[simp] theorem binV_q3  : binV  .Mult x y st = int1 mulI x y st := rfl
@[simp] theorem binV_q4  : binV  .FloorDiv x y st = int1 divI x y st := rfl
@[simp] theorem binV_q5  : binV  .Mod x y st = int1 modI x y st := rfl
@[simp] theorem binV_q6  : binV  .Pow x y st = int1 powI x y st := rfl
@[simp] theorem isV_q1 (neg : Bool) (x : Val) : isV neg x .non st = .ok (if neg = true then !isNon x else isNon x) st := rfl
@[simp] theorem inV_q1 (neg : Bool) (x : Val) : inV neg x (.tup w1_ ys) st = R.ofO ((memv x ys).map fun b => if neg = true then !b else b) st := rfl
@[simp] theorem inV_q2 (neg : Bool) (x : Val) : inV neg x (.lst ys) st = R.ofO ((memv x ys).map fun b => if neg = true then !b else b) st := rfl
@[simp] theorem inV_q3 (neg : Bool) (x : Val) : inV neg x (.dct ks vs) st = iff (keyV x = true) (R.ofO ((getD x ks vs).map fun o => if neg = true then o.isNone else o.isSome) st) := rfl
@[simp] theorem cmpV_q1  : cmpV  .Eq x y st = R.ofO (eqv 8 x y) st := rfl
@[simp] theorem cmpV_q2  : cmpV  .NotEq x y st = R.ofO ((eqv 8 x y).map fun b => !b) st := rfl
@[simp] theorem cmpV_q3  : cmpV  .Lt x y st = int1 (fun i j st => .ok (decide (i < j)) st) x y st := rfl
@[simp] theorem cmpV_q4  : cmpV  .LtE x y st = int1 (fun i j st => .ok (decide (i ≤ j)) st) x y st := rfl
@[simp] theorem cmpV_q5  : cmpV  .Gt x y st = int1 (fun i j st => .ok (decide (j < i)) st) x y st := rfl
@[simp] theorem cmpV_q6  : cmpV  .GtE x y st = int1 (fun i j st => .ok (decide (j ≤ i)) st) x y st := rfl
@[simp] theorem cmpV_q7  : cmpV  .Is x y st = isV false x y st := rfl
@[simp] theorem cmpV_q8  : cmpV  .IsNot x y st = isV true x y st := rfl
@[simp] theorem cmpV_q9  : cmpV  .In x y st = inV false x y st := rfl
@[simp] theorem cmpV_q10  : cmpV  .NotIn x y st = inV true x y st := rfl
@[simp] theorem isNon_q1  : isNon  .non = true := rfl
@[simp] theorem isNon_q2  : isNon  (.bl w1_) = false := rfl
@[simp] theorem isNon_q3  : isNon  (.int w1_) = false := rfl
@[simp] theorem isNon_q4  : isNon  (.str w1_) = false := rfl
@[simp] theorem isNon_q5  : isNon  (.tup w1_ w2_) = false := rfl
@[simp] theorem isNon_q6  : isNon  (.lst w1_) = false := rfl
@[simp] theorem isNon_q7  : isNon  (.dct w1_ w2_) = false := rfl
@[simp] theorem isNon_q8  : isNon  (.obj w1_ w2_ w3_) = false := rfl
@[simp] theorem isNon_q9  : isNon  (.ref w1_) = false := rfl
@[simp] theorem idxV_q1  : idxV  (.tup w1_ xs) (.int k) st = R.ofO (atV xs k) st := rfl
@[simp] theorem idxV_q2  : idxV  (.lst xs) (.int k) st = R.ofO (atV xs k) st := rfl
@[simp] theorem idxV_q3  : idxV  (.str x) (.int k) st = iff (x.length ≤ 1000) (R.ofO (((ixOf x.length k).bind fun j => x.cps.toList[j]?).map fun c => .str ⟨#[c]⟩) st) := rfl
@[simp] theorem slcV_q1  : slcV  (.tup w1_ xs) lo hi st = iff (¬ (cutN xs.length 0 lo = 0 ∧ cutN xs.length xs.length hi = xs.length)) (.ok (.tup false (cut xs lo hi)) st) := rfl
@[simp] theorem slcV_q2  : slcV  (.lst xs) lo hi st = new (.lst (cut xs lo hi)) st := rfl
@[simp] theorem slcV_q3  : slcV  (.str x) lo hi st = iff (x.length ≤ 1000) (.ok (.str ⟨(cut x.cps.toList lo hi).toArray⟩) st) := rfl
@[simp] theorem truth_q1  : truth  .non = some false := rfl
@[simp] theorem truth_q2  : truth  (.bl b) = some b := rfl
@[simp] theorem truth_q3  : truth  (.int i) = some (i != 0) := rfl
@[simp] theorem truth_q4  : truth  (.str x) = if x.length ≤ 1000 then some ((x.length : Int) != 0) else none := rfl
@[simp] theorem truth_q5  : truth  (.tup w1_ xs) = some !xs.isEmpty := rfl
@[simp] theorem truth_q6  : truth  (.lst xs) = some !xs.isEmpty := rfl
@[simp] theorem lenV_q1  : lenV  (.tup w1_ xs) = some xs.length := rfl
@[simp] theorem lenV_q2  : lenV  (.lst xs) = some xs.length := rfl
@[simp] theorem lenV_q3  : lenV  (.dct ks w1_) = some ks.length := rfl
@[simp] theorem lenV_q4  : lenV  (.str x) = if x.length ≤ 1000 then some (x.length : Int) else none := rfl
@[simp] theorem bi1_q1  : bi1  .len x st = R.ofO ((lenV x).map .int) st := rfl
@[simp] theorem bi1_q2  : bi1  .tuple (.tup f xs) st = .ok (.tup f xs) st := rfl
@[simp] theorem bi1_q3  : bi1  .tuple (.lst xs) st = .ok (.tup true xs) st := rfl
@[simp] theorem bi1_q4  : bi1  .list (.tup w1_ xs) st = new (.lst xs) st := rfl
@[simp] theorem bi1_q5  : bi1  .list (.lst xs) st = new (.lst xs) st := rfl
@[simp] theorem bi1_q6  : bi1  .abs (.int i) st = .ok (.int i.natAbs) st := rfl
@[simp] theorem bi1_q7  : bi1  .all (.lst xs) st = R.ofO ((allB xs).map .bl) st := rfl
@[simp] theorem bi1_q8  : bi1  .any (.lst xs) st = R.ofO ((anyB xs).map .bl) st := rfl
@[simp] theorem bi1_q9  : bi1  .sum (.lst xs) st = R.ofO ((sumI 0 xs).map .int) st := rfl
@[simp] theorem bi1_q10  : bi1  .int (.bl b) st = .ok (.int (if b = true then 1 else 0)) st := rfl
@[simp] theorem bi1_q11  : bi1  .int (.int i) st = .ok (.int i) st := rfl
@[simp] theorem bi1_q12  : bi1  (.isTy n) x st = R.ofO ((isTy n x).map .bl) st := rfl
@[simp] theorem biV_q1 (b : Bi) : biV b [x] st = bi1 b x st := rfl
@[simp] theorem lmV_q1  : lmV  .append k ys [x] st = iff (ys.length < 10000) (.ok .non (st.set k (.lst (ys ++ [x])))) := rfl
@[simp] theorem lmV_q2  : lmV  .insert k ys [.int i, x] st = iff (0 ≤ i ∧ i ≤ ys.length ∧ ys.length ≤ 1000) (.ok .non (st.set k (.lst (ys.take i.toNat ++ [x] ++ ys.drop i.toNat)))) := rfl
@[simp] theorem lmV_q3  : lmV  .clear k w1_ [] st = .ok .non (st.set k (.lst [])) := rfl
@[simp] theorem lmV_q4  : lmV  .reverse k ys [] st = .ok .non (st.set k (.lst ys.reverse)) := rfl
@[simp] theorem lmV_q5  : lmV  .pop k ys [] st = (R.ofO ys.getLast? st).bind fun y st => .ok y (st.set k (.lst ys.dropLast)) := rfl
@[simp] theorem lxV_q1 (k : Nat) (ys : List Val) : lxV k ys (.lst zs) st = iff (ys.length + zs.length ≤ 10000) (.ok .non (st.set k (.lst (ys ++ zs)))) := rfl
@[simp] theorem lxV_q2 (k : Nat) (ys : List Val) : lxV k ys (.tup w1_ zs) st = iff (ys.length + zs.length ≤ 10000) (.ok .non (st.set k (.lst (ys ++ zs)))) := rfl
@[simp] theorem dgV_q1  : dgV  (.dct ks vs) [k] st = iff (keyV k = true) (R.ofO ((getD k ks vs).map fun o => o.getD .non) st) := rfl
@[simp] theorem dgV_q2  : dgV  (.dct ks vs) [k, d] st = iff (keyV k = true) (R.ofO ((getD k ks vs).map fun o => o.getD d) st) := rfl
@[simp] theorem isRef_q1  : isRef  (.ref k) = some k := by simp only [isRef]
@[simp] theorem isRef_q2  : isRef  .non = none := by simp only [isRef]
@[simp] theorem isRef_q3  : isRef  (.bl w1_) = none := by simp only [isRef]
@[simp] theorem isRef_q4  : isRef  (.int w1_) = none := by simp only [isRef]
@[simp] theorem isRef_q5  : isRef  (.str w1_) = none := by simp only [isRef]
@[simp] theorem isRef_q6  : isRef  (.tup w1_ w2_) = none := by simp only [isRef]
@[simp] theorem isRef_q7  : isRef  (.lst w1_) = none := by simp only [isRef]
@[simp] theorem isRef_q8  : isRef  (.dct w1_ w2_) = none := by simp only [isRef]
@[simp] theorem isRef_q9  : isRef  (.obj w1_ w2_ w3_) = none := by simp only [isRef]
@[simp] theorem finR_q1 (P : Pg) (n : Nat) (k : Nat) (st' : Store) : finR P n k st' (some (.lst xs)) = (R.ofO (frzs st' n k xs) st').bind fun ys st' => .ok (.ref n) (st'.take n ++ [.lst ys]) := rfl
@[simp] theorem finR_q2 (P : Pg) (n : Nat) (k : Nat) (st' : Store) : finR P n k st' (some (.dct ks vs)) = (R.ofO (frzs st' n k vs) st').bind fun vs st' => .ok (.ref n) (st'.take n ++ [.dct ks vs]) := rfl
@[simp] theorem finR_q3 (P : Pg) (n : Nat) (k : Nat) (st' : Store) : finR P n k st' (some (.ins c ns vs)) = if chgs P c = true then .ok (.ref k) st' else (R.ofO (frzs st' n st'.length vs) st').bind fun vs st' => .ok (.obj c ns vs) (st'.take n) := rfl
@[simp] theorem finR_q4 (P : Pg) (n : Nat) (k : Nat) (st' : Store) : finR P n k st' none = .stuck := rfl
@[simp] theorem finV_q1 (P : Pg) (n : Nat) (v : Val) (st' : Store) : finV P n v st' (some k) = if k < n then .ok v (st'.take n) else finR P n k st' st'[k]? := rfl
@[simp] theorem finV_q2 (P : Pg) (n : Nat) (v : Val) (st' : Store) : finV P n v st' none = (R.ofO (v.frz st' n st'.length) st').bind fun v st' => .ok v (st'.take n) := rfl
@[simp] theorem F_bind_q1  : F.bind  (.next env st) k = k env st := rfl
@[simp] theorem F_bind_q2  : F.bind  (.ret v st) w1_ = .ret v st := rfl
@[simp] theorem F_bind_q3  : F.bind  (.brk env st) w1_ = .brk env st := rfl
@[simp] theorem F_bind_q4  : F.bind  (.cont env st) w1_ = .cont env st := rfl
@[simp] theorem F_bind_q5  : F.bind  (.exc x env st) w1_ = .exc x env st := rfl
@[simp] theorem F_of_q1 {α : Type} (env : Env) : F.of env (.ok a st) k = k a st := rfl
@[simp] theorem F_of_q2 {α : Type} (env : Env) : F.of env (.exc x st) w1_ = .exc x env st := rfl
@[simp] theorem F_ofO_q1 (st : Store) : F.ofO st (some env) = .next env st := rfl
@[simp] theorem F_ofO_q2 (st : Store) : F.ofO st none = .stuck := rfl
@[simp] theorem itO_q1 (k : Nat) : itO k (some (.lst xs)) = some (xs, [(k, .lst xs)]) := rfl
@[simp] theorem itO_q2 (k : Nat) : itO k (some (.dct w1_ w2_)) = none := rfl
@[simp] theorem itO_q3 (k : Nat) : itO k (some (.ins w1_ w2_ w3_)) = none := rfl
@[simp] theorem itO_q4 (k : Nat) : itO k none = none := rfl
@[simp] theorem itemsOf_q1 (st : Store) : itemsOf st (.tup w1_ xs) = some (xs, []) := rfl
@[simp] theorem itemsOf_q2 (st : Store) : itemsOf st (.lst xs) = some (xs, []) := rfl
@[simp] theorem itemsOf_q3 (st : Store) : itemsOf st (.dct w1_ w2_) = none := rfl
@[simp] theorem itemsOf_q4 (st : Store) : itemsOf st (.ref k) = itO k st[k]? := rfl
@[simp] theorem itemsOf_q5 (st : Store) : itemsOf st .non = none := rfl
@[simp] theorem itemsOf_q6 (st : Store) : itemsOf st (.bl w1_) = none := rfl
@[simp] theorem itemsOf_q7 (st : Store) : itemsOf st (.int w1_) = none := rfl
@[simp] theorem itemsOf_q8 (st : Store) : itemsOf st (.str w1_) = none := rfl
@[simp] theorem itemsOf_q9 (st : Store) : itemsOf st (.obj w1_ w2_ w3_) = none := rfl
@[simp] theorem rng2V_q1  : rng2V  (.int a) y st = rng2R a y st := rfl
@[simp] theorem consO_q1  : consO  (some x) r = x :: r := rfl
@[simp] theorem consO_q2  : consO  none r = r := rfl
@[simp] theorem negV_q1  : negV  (.int i) st = .ok (.int (-i)) st := rfl
@[simp] theorem boolR_q1  : boolR  (.bl b) st = .ok b st := rfl
@[simp] theorem intO_q1  : intO  none st = .ok none st := rfl
@[simp] theorem intO_q2  : intO  (some (.int i)) st = .ok (some i) st := rfl
@[simp] theorem fldV_q1 (P : Pg) (f : Str) : fldV P f (.obj c ns vs) st = iff (hasF P c f = true) (R.ofO (lookF ns vs f) st) := rfl
@[simp] theorem isIV_q1 (P : Pg) (c : Nat) : isIV P c (.obj k w1_ w2_) st = R.ofO (((P.cl k)).map fun k => .bl (k.sup.contains c)) st := rfl
@[simp] theorem isIV_q2 (P : Pg) (c : Nat) : isIV P c .non st = .ok (.bl false) st := rfl
@[simp] theorem isIV_q3 (P : Pg) (c : Nat) : isIV P c (.bl w1_) st = .ok (.bl false) st := rfl
@[simp] theorem isIV_q4 (P : Pg) (c : Nat) : isIV P c (.int w1_) st = .ok (.bl false) st := rfl
@[simp] theorem isIV_q5 (P : Pg) (c : Nat) : isIV P c (.str w1_) st = .ok (.bl false) st := rfl
@[simp] theorem isIV_q6 (P : Pg) (c : Nat) : isIV P c (.tup w1_ w2_) st = .ok (.bl false) st := rfl
@[simp] theorem isIV_q7 (P : Pg) (c : Nat) : isIV P c (.lst w1_) st = .ok (.bl false) st := rfl
@[simp] theorem isIV_q8 (P : Pg) (c : Nat) : isIV P c (.dct w1_ w2_) st = .ok (.bl false) st := rfl
@[simp] theorem makeV_q1 (P : Pg) (cl : Cal) (c : Nat) (xs : List Val) (st : Store) : makeV P cl c xs st (some (some f)) = (cl f (.ref st.length :: xs) (st ++ [.ins c [] []])).bind fun _ st' => fin P st (.ref st.length) st' := rfl
@[simp] theorem makeV_q2 (P : Pg) (cl : Cal) (c : Nat) (xs : List Val) (st : Store) : makeV P cl c xs st (some none) = if xs.isEmpty then fin P st (.ref st.length) (st ++ [.ins c [] []]) else .stuck := rfl
@[simp] theorem makeV_q3 (P : Pg) (cl : Cal) (c : Nat) (xs : List Val) (st : Store) : makeV P cl c xs st none = .stuck := rfl
@[simp] theorem methV_q1 (P : Pg) (cl : Cal) (m : Str) (x : Val) (xs : List Val) (st : Store) : methV P cl m x xs st (.obj c w1_ w2_) = (R.ofO (((P.cl c)).bind fun k => k.meths.lookup m) st).bind fun f st => cl f (x :: xs) st := rfl
@[simp] theorem ifB_q1 {α : Type} : ifB  true a w1_ = a := rfl
@[simp] theorem ifB_q2 {α : Type} : ifB  false w1_ b = b := rfl
@[simp] theorem zipR_q1  : zipR  (some (xs, c)) (some (ys, d)) st = iff (xs.length = ys.length) (.ok (zipV xs ys, c ++ d) st) := rfl
@[simp] theorem F_turn_q1  : F.turn  (.next env st) k = k env st := rfl
@[simp] theorem F_turn_q2  : F.turn  (.cont env st) k = k env st := rfl
@[simp] theorem F_turn_q3  : F.turn  (.brk env st) w1_ = .next env st := rfl
@[simp] theorem F_turn_q4  : F.turn  (.ret v st) w1_ = .ret v st := rfl
@[simp] theorem F_turn_q5  : F.turn  (.exc x env st) w1_ = .exc x env st := rfl
@[simp] theorem ifF_q1  : ifF  true a w1_ = a := rfl
@[simp] theorem ifF_q2  : ifF  false w1_ b = b := rfl
@[simp] theorem setFO_q1 (P : Pg) (k : Nat) (f : Str) (x : Val) (st : Store) : setFO P k f x st (some (.ins c ns vs)) = iff (hasF P c f = true ∧ ns.length < 100) (.ok () (st.set k (.ins c (putF ns vs f x).1 (putF ns vs f x).2))) := rfl
@[simp] theorem setF_q1 (P : Pg) (f : Str) (x : Val) : setF P f x (.ref k) st = setFO P k f x st st[k]? := rfl
@[simp] theorem setIO_q1 (k : Nat) (x : Val) (st : Store) : setIO k x st (some (.lst xs)) (.int j) = (R.ofO (ixOf xs.length j) st).bind fun j st => .ok () (st.set k (.lst (xs.set j x))) := rfl
@[simp] theorem setI_q1 (i x : Val) : setI i x (.ref k) st = setIO k x st st[k]? i := rfl
@[simp] theorem F_unset_q1 (x : Option Nat) : F.unset x (.next env st) = .next (PI.unset x env) st := rfl
@[simp] theorem F_unset_q2 (x : Option Nat) : F.unset x (.brk env st) = .brk (PI.unset x env) st := rfl
@[simp] theorem F_unset_q3 (x : Option Nat) : F.unset x (.cont env st) = .cont (PI.unset x env) st := rfl
@[simp] theorem F_unset_q4 (x : Option Nat) : F.unset x (.exc y env st) = .exc y (PI.unset x env) st := rfl
@[simp] theorem F_unset_q5 (x : Option Nat) : F.unset x (.ret v st) = .ret v st := rfl
@[simp] theorem F_unset_q6 (x : Option Nat) : F.unset x .stuck = .stuck := rfl
@[simp] theorem F_catch_q1 (P : Pg) (c : Nat) (x : Option Nat) (h : Env → Store → F) : F.catch P c x h (.exc y env st) = ifF (isub P c y.c) ((h (hset x y env) st).unset x) (.exc y env st) := rfl
@[simp] theorem F_catch_q2 (P : Pg) (c : Nat) (x : Option Nat) (h : Env → Store → F) : F.catch P c x h (.next env st) = .next env st := rfl
@[simp] theorem F_catch_q3 (P : Pg) (c : Nat) (x : Option Nat) (h : Env → Store → F) : F.catch P c x h (.brk env st) = .brk env st := rfl
@[simp] theorem F_catch_q4 (P : Pg) (c : Nat) (x : Option Nat) (h : Env → Store → F) : F.catch P c x h (.cont env st) = .cont env st := rfl
@[simp] theorem F_catch_q5 (P : Pg) (c : Nat) (x : Option Nat) (h : Env → Store → F) : F.catch P c x h (.ret v st) = .ret v st := rfl
@[simp] theorem F_catch_q6 (P : Pg) (c : Nat) (x : Option Nat) (h : Env → Store → F) : F.catch P c x h .stuck = .stuck := rfl
@[simp] theorem raiseV_q1 (env : Env) (st : Store) : raiseV env st (.obj c ns vs) = .exc ⟨c, ns, vs⟩ env st := rfl
@[simp] theorem raiseF_q1 (P : Pg) (cl : Cal) (c : Nat) (xs : List Val) (env : Env) (st : Store) : raiseF P cl c xs env st (some (some f)) = F.of env ((cl f (.ref st.length :: xs) (st ++ [.ins c [] []])).bind fun _ st' => fin P st (.ref st.length) st') fun v st => raiseV env st v := rfl
@[simp] theorem raiseF_q2 (P : Pg) (cl : Cal) (c : Nat) (xs : List Val) (env : Env) (st : Store) : raiseF P cl c xs env st (some none) = .exc ⟨c, [], []⟩ env st := rfl
@[simp] theorem raiseF_q3 (P : Pg) (cl : Cal) (c : Nat) (xs : List Val) (env : Env) (st : Store) : raiseF P cl c xs env st none = .stuck := rfl
@[simp] theorem F_fin_q1 (P : Pg) (st : Store) : F.fin P st (.next w1_ st') = PI.fin P st .non st' := rfl
@[simp] theorem F_fin_q2 (P : Pg) (st : Store) : F.fin P st (.ret v st') = PI.fin P st v st' := rfl
@[simp] theorem F_fin_q3 (P : Pg) (st : Store) : F.fin P st (.exc x w1_ st') = finX st x st' := rfl
@[simp] theorem F_fin_q4 (P : Pg) (st : Store) : F.fin P st (.brk w1_ w2_) = .stuck := rfl
@[simp] theorem F_fin_q5 (P : Pg) (st : Store) : F.fin P st (.cont w1_ w2_) = .stuck := rfl
@[simp] theorem F_fin_q6 (P : Pg) (st : Store) : F.fin P st .stuck = .stuck := rfl
@[simp] theorem runFn_q1 (P : Pg) (cl : Cal) (xs : List Val) (st : Store) : runFn P cl xs st (some d) = iff (xs.length = d.np) ((runSs P cl d.body (xs.map some ++ List.replicate (d.ns - d.np) none) st).fin P st) := rfl
@[simp] theorem runFn_q2 (P : Pg) (cl : Cal) (xs : List Val) (st : Store) : runFn P cl xs st none = .stuck := rfl
@[simp] theorem allB_q1  : allB  [] = some true := rfl
@[simp] theorem allB_q2  : allB  (.bl b :: r) = (allB r).map fun c => b && c := rfl
@[simp] theorem anyB_q1  : anyB  [] = some false := rfl
@[simp] theorem anyB_q2  : anyB  (.bl b :: r) = (anyB r).map fun c => b || c := rfl
@[simp] theorem sumI_q1  : sumI  a [] = some a := rfl
@[simp] theorem sumI_q2  : sumI  a (.int i :: r) = sumI (a + i) r := rfl
@[simp] theorem isTy_q1 (n : String) : isTy n .non = some false := rfl
@[simp] theorem isTy_q2 (n : String) : isTy n (.bl w1_) = some (n == "bool" || n == "int") := rfl
@[simp] theorem isTy_q3 (n : String) : isTy n (.int w1_) = some (n == "int") := rfl
@[simp] theorem isTy_q4 (n : String) : isTy n (.str w1_) = some (n == "str") := rfl
@[simp] theorem isTy_q5 (n : String) : isTy n (.tup w1_ w2_) = some (n == "tuple") := rfl
@[simp] theorem isTy_q6 (n : String) : isTy n (.lst w1_) = some (n == "list") := rfl
@[simp] theorem isTy_q7 (n : String) : isTy n (.dct w1_ w2_) = some (n == "dict") := rfl
@[simp] theorem isTy_q8 (n : String) : isTy n (.obj w1_ w2_ w3_) = none := rfl
@[simp] theorem isTy_q9 (n : String) : isTy n (.ref w1_) = none := rfl
@[simp] theorem mOk_q1 (m : Bm) : mOk m (.lst w1_) = !isDm m := rfl
@[simp] theorem mOk_q2 (m : Bm) : mOk m (.dct w1_ w2_) = isDm m := rfl
@[simp] theorem E_run_q1 (P : Pg) (cl : Cal) : E.run P cl (.const v) w1_ st = .ok v st := rfl
@[simp] theorem E_run_q2 (P : Pg) (cl : Cal) : E.run P cl (.var i) env st = R.ofO ((env[i]?).bind id) st := rfl
@[simp] theorem E_run_q3 (P : Pg) (cl : Cal) : E.run P cl (.bin op a b) env st = (a.run P cl env st).bind fun x st => (b.run P cl env st).bind fun y st => binV op (res st x) (res st y) st := rfl
@[simp] theorem E_run_q4 (P : Pg) (cl : Cal) : E.run P cl (.neg a) env st = (a.run P cl env st).bind fun x st => negV x st := rfl
@[simp] theorem E_run_q5 (P : Pg) (cl : Cal) : E.run P cl (.cmp op a b) env st = (a.run P cl env st).bind fun x st => (b.run P cl env st).bind fun y st => blR (cmpV op (res st x) (res st y) st) := rfl
@[simp] theorem E_run_q6 (P : Pg) (cl : Cal) : E.run P cl (.cmp2 op op' a b c) env st = (a.run P cl env st).bind fun x st => (b.run P cl env st).bind fun y st => (cmpV op (res st x) (res st y) st).bind fun z st => ifB z ((c.run P cl env st).bind fun w st => blR (cmpV op' (res st y) (res st w) st)) (.ok (.bl false) st) := rfl
@[simp] theorem E_run_q7 (P : Pg) (cl : Cal) : E.run P cl (.and a b) env st = (a.run P cl env st).bind fun x st => (boolR x st).bind fun t st => ifB t (b.run P cl env st) (.ok (.bl false) st) := rfl
@[simp] theorem E_run_q8 (P : Pg) (cl : Cal) : E.run P cl (.or a b) env st = (a.run P cl env st).bind fun x st => (boolR x st).bind fun t st => ifB t (.ok (.bl true) st) (b.run P cl env st) := rfl
@[simp] theorem E_run_q9 (P : Pg) (cl : Cal) : E.run P cl (.not a) env st = (a.run P cl env st).bind fun x st => (boolR x st).bind fun t st => .ok (.bl !t) st := rfl
@[simp] theorem E_run_q10 (P : Pg) (cl : Cal) : E.run P cl (.ite c a b) env st = (c.run P cl env st).bind fun x st => (R.ofO (truth (res st x)) st).bind fun t st => ifB t (a.run P cl env st) (b.run P cl env st) := rfl
@[simp] theorem E_run_q11 (P : Pg) (cl : Cal) : E.run P cl (.tup es) env st = (runEs P cl es env st).bind fun xs st => iff (xs.length ≤ 1000) (.ok (.tup false xs) st) := rfl
@[simp] theorem E_run_q12 (P : Pg) (cl : Cal) : E.run P cl (.lst es) env st = (runEs P cl es env st).bind fun xs st => iff (xs.length ≤ 1000) (new (.lst xs) st) := rfl
@[simp] theorem E_run_q14 (P : Pg) (cl : Cal) : E.run P cl (.fld o f) env st = (o.run P cl env st).bind fun x st => fldV P f (res st x) st := rfl
@[simp] theorem E_run_q15 (P : Pg) (cl : Cal) : E.run P cl (.idx o i) env st = (o.run P cl env st).bind fun x st => (i.run P cl env st).bind fun y st => idxV (res st x) y st := rfl
@[simp] theorem E_run_q16 (P : Pg) (cl : Cal) : E.run P cl (.slc o lo hi) env st = (o.run P cl env st).bind fun x st => ((runO P cl lo env st).bind fun a st => intO a st).bind fun a st => ((runO P cl hi env st).bind fun b st => intO b st).bind fun b st => slcV (res st x) a b st := rfl
@[simp] theorem E_run_q17 (P : Pg) (cl : Cal) : E.run P cl (.call f es) env st = (runEs P cl es env st).bind fun xs st => cl f xs st := rfl
@[simp] theorem E_run_q18 (P : Pg) (cl : Cal) : E.run P cl (.make c es) env st = (runEs P cl es env st).bind fun xs st => makeV P cl c xs st (((P.cl c)).map (·.init)) := rfl
@[simp] theorem E_run_q19 (P : Pg) (cl : Cal) : E.run P cl (.meth o m es) env st = (o.run P cl env st).bind fun x st => (runEs P cl es env st).bind fun xs st => methV P cl m x xs st (res st x) := rfl
@[simp] theorem E_run_q20 (P : Pg) (cl : Cal) : E.run P cl (.bi b es) env st = (runEs P cl es env st).bind fun xs st => biV b (xs.map (res st)) st := rfl
@[simp] theorem E_run_q21 (P : Pg) (cl : Cal) : E.run P cl (.bm m o es) env st = (o.run P cl env st).bind fun x st => iff (mOk m (res st x) = true) ((runEs P cl es env st).bind fun xs st => bmV m x xs st) := rfl
@[simp] theorem E_run_q22 (P : Pg) (cl : Cal) : E.run P cl (.isI e c) env st = (e.run P cl env st).bind fun x st => isIV P c (res st x) st := rfl
@[simp] theorem E_run_q23 (P : Pg) (cl : Cal) : E.run P cl (.comp nw caps t q c e) env st = (q.run P cl env st).bind fun it st => iff (t.low nw = true ∧ it.1.length ≤ 10000) ((compL (fun v st => turnC (t.put v (capEnv nw caps env)) (runC P cl c) (e.run P cl) st) it.2 it.1 st).bind fun xs st => new (.lst xs) st) := rfl
@[simp] theorem E_run_q25 (P : Pg) (cl : Cal) : E.run P cl (.fz e) env st = (e.run P cl env st).bind fun v st' => fzV st v st' := rfl
@[simp] theorem runEs_q1 (P : Pg) (cl : Cal) : runEs P cl [] w1_ st = .ok [] st := rfl
@[simp] theorem runEs_q2 (P : Pg) (cl : Cal) : runEs P cl (e :: es) env st = (e.run P cl env st).bind fun x st => (runEs P cl es env st).bind fun xs st => .ok (x :: xs) st := rfl
@[simp] theorem runO_q1 (P : Pg) (cl : Cal) : runO P cl none w1_ st = .ok none st := rfl
@[simp] theorem runO_q2 (P : Pg) (cl : Cal) : runO P cl (some e) env st = (e.run P cl env st).bind fun x st => .ok (some x) st := rfl
@[simp] theorem runC_q1 (P : Pg) (cl : Cal) : runC P cl none w1_ st = .ok true st := rfl
@[simp] theorem runC_q2 (P : Pg) (cl : Cal) : runC P cl (some e) env st = (e.run P cl env st).bind fun x st => R.ofO (truth (res st x)) st := rfl
@[simp] theorem Q_run_q1 (P : Pg) (cl : Cal) : Q.run P cl (.val e) env st = (e.run P cl env st).bind fun x st => R.ofO (itemsOf st x) st := rfl
@[simp] theorem Q_run_q2 (P : Pg) (cl : Cal) : Q.run P cl (.rng1 a) env st = (a.run P cl env st).bind fun x st => rng1R x st := rfl
@[simp] theorem Q_run_q3 (P : Pg) (cl : Cal) : Q.run P cl (.rng2 a b) env st = (a.run P cl env st).bind fun x st => (b.run P cl env st).bind fun y st => rng2V x y st := rfl
@[simp] theorem Q_run_q4 (P : Pg) (cl : Cal) : Q.run P cl (.zip a b) env st = (a.run P cl env st).bind fun x st => (b.run P cl env st).bind fun y st => zipR (itemsOf st x) (itemsOf st y) st := rfl
@[simp] theorem Q_run_q5 (P : Pg) (cl : Cal) : Q.run P cl (.enm a) env st = (a.run P cl env st).bind fun x st => (R.ofO (itemsOf st x) st).bind fun p st => .ok (enmV 0 p.1, p.2) st := rfl
@[simp] theorem eqvs_q1 (f : Val → Val → Option Bool) : eqvs f [] [] = some true := rfl
@[simp] theorem eqvs_q2 (f : Val → Val → Option Bool) : eqvs f [] (w1_ :: w2_) = some false := rfl
@[simp] theorem eqvs_q3 (f : Val → Val → Option Bool) : eqvs f (w1_ :: w2_) [] = some false := rfl
@[simp] theorem eqvs_q4 (f : Val → Val → Option Bool) : eqvs f (x :: xs) (y :: ys) = (f x y).bind fun a => (eqvs f xs ys).map fun b => a && b := rfl
@[simp] theorem put_var (v : Val) (env : Env) (i : Nat) : T.put v env (.var i) = if i < env.length then some (env.set i (some v)) else none := by simp only [T.put]
@[simp] theorem put_tup (f : Bool) (xs : List Val) (env : Env) (ts : List T) : T.put (.tup f xs) env (.tup ts) = putTs xs env ts := by simp only [T.put]
@[simp] theorem puts_nil (env : Env) : putTs [] env [] = some env := by simp only [putTs]
@[simp] theorem puts_cons (v : Val) (vs : List Val) (env : Env) (t : T) (ts : List T) : putTs (v :: vs) env (t :: ts) = (t.put v env).bind fun env => putTs vs env ts := by simp only [putTs]
@[simp] theorem atV_eq (xs : List Val) (i : Int) : atV xs i = (ixOf xs.length i).bind fun j => xs[j]? := rfl
@[simp] theorem ixOf_eq (n : Nat) (i : Int) : ixOf n i = if 0 ≤ i then (if i < n then some i.toNat else none) else if -(n : Int) ≤ i then some (i + n).toNat else none := rfl
@[simp] theorem blR_eq (r : R Bool) : blR r = r.bind fun b st => .ok (.bl b) st := rfl
@[simp] theorem eqv_non (d : Nat) : eqv d .non .non = some true := by cases d <;> rfl
@[simp] theorem eqv_bl (d : Nat) (a b : Bool) : eqv d (.bl a) (.bl b) = some (a == b) := by cases d <;> rfl
@[simp] theorem eqv_int (d : Nat) (a b : Int) : eqv d (.int a) (.int b) = some (a == b) := by cases d <;> rfl
@[simp] theorem eqv_str (d : Nat) (a b : Str) : eqv d (.str a) (.str b) = some (decide (a = b)) := by cases d <;> rfl
@[simp] theorem eqv_tup (d : Nat) (f g : Bool) (xs ys : List Val) : eqv (d + 1) (.tup f xs) (.tup g ys) = eqvs (eqv d) xs ys := rfl
@[simp] theorem eqv_lst (d : Nat) (xs ys : List Val) : eqv (d + 1) (.lst xs) (.lst ys) = eqvs (eqv d) xs ys := rfl
@[simp] theorem eqv_non_int (d : Nat) (a : Int) : eqv d .non (.int a) = some false := by cases d <;> rfl
@[simp] theorem eqv_non_str (d : Nat) (s : Str) : eqv d .non (.str s) = some false := by cases d <;> rfl
@[simp] theorem eqv_non_tup (d : Nat) (f : Bool) (xs : List Val) : eqv d .non (.tup f xs) = some false := by cases d <;> rfl
@[simp] theorem eqv_int_non (d : Nat) (a : Int) : eqv d (.int a) .non = some false := by cases d <;> rfl
@[simp] theorem eqv_int_str (d : Nat) (a : Int) (s : Str) : eqv d (.int a) (.str s) = some false := by cases d <;> rfl
@[simp] theorem eqv_int_tup (d : Nat) (a : Int) (f : Bool) (xs : List Val) : eqv d (.int a) (.tup f xs) = some false := by cases d <;> rfl
@[simp] theorem eqv_str_non (d : Nat) (s : Str) : eqv d (.str s) .non = some false := by cases d <;> rfl
@[simp] theorem eqv_str_int (d : Nat) (s : Str) (a : Int) : eqv d (.str s) (.int a) = some false := by cases d <;> rfl
@[simp] theorem eqv_str_tup (d : Nat) (s : Str) (f : Bool) (xs : List Val) : eqv d (.str s) (.tup f xs) = some false := by cases d <;> rfl
@[simp] theorem eqv_tup_non (d : Nat) (f : Bool) (xs : List Val) : eqv d (.tup f xs) .non = some false := by cases d <;> rfl
@[simp] theorem eqv_tup_int (d : Nat) (f : Bool) (xs : List Val) (a : Int) : eqv d (.tup f xs) (.int a) = some false := by cases d <;> rfl
@[simp] theorem eqv_tup_str (d : Nat) (f : Bool) (xs : List Val) (s : Str) : eqv d (.tup f xs) (.str s) = some false := by cases d <;> rfl
@[simp] theorem eqv_tup_lst (d : Nat) (f : Bool) (xs ys : List Val) : eqv d (.tup f xs) (.lst ys) = some false := by cases d <;> rfl
@[simp] theorem eqv_lst_tup (d : Nat) (f : Bool) (xs ys : List Val) : eqv d (.lst ys) (.tup f xs) = some false := by cases d <;> rfl
@[simp] theorem bd_non (n : Nat) : Val.non.bd n = true := by simp only [Val.bd]
@[simp] theorem bd_bl (n : Nat) (b : Bool) : (Val.bl b).bd n = true := by simp only [Val.bd]
@[simp] theorem bd_int (n : Nat) (b : Int) : (Val.int b).bd n = true := by simp only [Val.bd]
@[simp] theorem bd_str (n : Nat) (b : Str) : (Val.str b).bd n = true := by simp only [Val.bd]
@[simp] theorem bd_tup (n : Nat) (f : Bool) (xs : List Val) : (Val.tup f xs).bd n = bds n xs := by simp only [Val.bd]
@[simp] theorem bd_lst (n : Nat) (xs : List Val) : (Val.lst xs).bd n = bds n xs := by simp only [Val.bd]
@[simp] theorem bd_dct (n : Nat) (ks vs : List Val) : (Val.dct ks vs).bd n = (bds n ks && bds n vs) := by simp only [Val.bd]
@[simp] theorem bd_obj (n c : Nat) (ns : List Str) (vs : List Val) : (Val.obj c ns vs).bd n = bds n vs := by simp only [Val.bd]
@[simp] theorem bd_ref (n k : Nat) : (Val.ref k).bd n = decide (k < n) := by simp only [Val.bd]
@[simp] theorem bds_nil (n : Nat) : bds n [] = true := by simp only [bds]
@[simp] theorem bds_cons (n : Nat) (v : Val) (r : List Val) : bds n (v :: r) = (v.bd n && bds n r) := by simp only [bds]
end PI
namespace PI
open PySem L2 L2.L3
def keyO : Val → Option Key
 | .int i => some (.inl i)
 | .str x => some (.inr x)
 | _ => none
def keysO : List Val → Option (List Key)
 | [] => some []
 | v :: r => (keyO v).bind fun k => (keysO r).map fun r => k :: r
def keyT : Val → Option (List Key)
 | .tup _ xs => keysO xs
 | _ => none
def keyTs : List Val → Option (List (List Key))
 | [] => some []
 | v :: r => (keyT v).bind fun k => (keyTs r).map fun r => k :: r
def DctAt (H : Hp) (a : Addr) (ks : List Val) (us : List L2.V) : Prop :=
 (∃ kk, keysO ks = some kk ∧ kk.length = us.length ∧ Rd H a (.dK (kk.zip us))) ∨ (∃ kk, keyTs ks = some kk ∧ kk.length = us.length ∧ Rd H a (.dT (kk.zip us)))
def DctX (H : Hp) (a : Addr) (ks : List Val) (us : List L2.V) : Prop :=
 (∃ kk, keysO ks = some kk ∧ kk.length = us.length ∧ H a = some (.dK (kk.zip us))) ∨ (∃ kk, keyTs ks = some kk ∧ kk.length = us.length ∧ H a = some (.dT (kk.zip us)))
theorem DctX.at {H : Hp} {a : Addr} {ks : List Val} {us : List L2.V} (h : DctX H a ks us) : DctAt H a ks us := h.imp (fun ⟨k, e, n, r⟩ => ⟨k, e, n, .inl r⟩) fun ⟨k, e, n, r⟩ => ⟨k, e, n, .inl r⟩
structure CT where
 K : PySem.W.Frag
 ca : Nat → Addr
 xc : Nat → Bool
def TupAt (G : Hp) (a : Addr) (f : Bool) (us : List L2.V) : Prop := cond f (∃ o : Obj, G a = some (.frz o (.tup us)) ∧ o.dict = none) (G a = some (.tup us))
mutual
def Rel (T : CT) (as : List Addr) (G : Hp) : Val → L2.V → Prop
 | .non, u => u = .non
 | .bl b, u => u = .bl b
 | .int i, u => u = .int i
 | .str x, u => u = .str x
 | .tup f xs, u => ∃ a us, u = .ref a ∧ TupAt G a f us ∧ Rels T as G xs us
 | .lst xs, u => ∃ a us, u = .ref a ∧ SqL T.K G a us ∧ Rels T as G xs us
 | .dct ks vs, u => ∃ a us, u = .ref a ∧ DctAt G a ks us ∧ Rels T as G vs us
 | .obj c ns vs, u => ∃ a us, u = .ref a ∧ ns.length = us.length ∧ Rels T as G vs us ∧
   if T.xc c = true then ∃ dx, G a = some (.ext (IsExc a (T.ca c) dx)) ∧ ((dx = none ∧ ns = []) ∨ ∃ d, dx = some d ∧ G d = some (.xd (ns.zip us)))
   else ∃ dx, G a = some (.ins (T.ca c) dx (ns.zip us))
 | .ref n, u => ∃ a, as[n]? = some a ∧ u = .ref a
def Rels (T : CT) (as : List Addr) (G : Hp) : List Val → List L2.V → Prop
 | [], us => us = []
 | v :: r, us => ∃ u t, us = u :: t ∧ Rel T as G v u ∧ Rels T as G r t
end
def isD : HO → Bool
 | .dK _ => true
 | .dT _ => true
 | _ => false
def Le (G H : Hp) : Prop := ∀ a o, G a = some o → H a = some o ∨ (isD o = true ∧ ∃ ob, H a = some (.frz ob o))
theorem Le.ex {G H : Hp} (l : Le G H) {a : Addr} {o : HO} (e : G a = some o) (n : isD o = false) : H a = some o := (l a o e).elim id fun z => by rw [n] at z; cases z.1
theorem Le.refl (G : Hp) : Le G G := fun _ _ e => .inl e
theorem Le.trans {A B C : Hp} (x : Le A B) (y : Le B C) : Le A C := fun a o e => by
 rcases x a o e with q | ⟨q, ob, z⟩
 ·exact y a o q
 ·exact .inr ⟨q, ob, y.ex z rfl⟩
theorem Le.new {G : Hp} {a : Addr} {o : HO} (h : G a = none) : Le G (upd G a o) := fun b u e => by
 rw [upd_ne (ne_of_none e h)]
 exact .inl e
theorem Rd.le {G H : Hp} {a : Addr} {o : HO} (l : Le G H) (h : Rd G a o) : Rd H a o := h.elim (fun e => (l _ _ e).imp id fun z => z.2) fun ⟨u, e⟩ => .inr ⟨u, l.ex e rfl⟩
theorem tup_le {G H : Hp} {a : Addr} {f : Bool} {xs : List L2.V} (l : Le G H) (h : TupAt G a f xs) : TupAt H a f xs := by
 cases f
 ·exact l.ex h rfl
 ·exact h.imp fun o q => ⟨l.ex q.1 rfl, q.2⟩
theorem sqt_of {K : PySem.W.Frag} {G : Hp} {a : Addr} {f : Bool} {xs : List L2.V} (h : TupAt G a f xs) : SqT K G a xs := by
 cases f
 ·exact .inl (.inl h)
 ·obtain ⟨o, e, _⟩ := h
  exact .inl (.inr ⟨o, e⟩)
theorem sqt_le {K : PySem.W.Frag} {G H : Hp} {a : Addr} {f : Bool} {xs : List L2.V} (l : Le G H) (h : TupAt G a f xs) : SqT K H a xs := sqt_of (tup_le l h)
theorem sq_le {K : PySem.W.Frag} {G H : Hp} {a : Addr} {xs : List L2.V} (l : Le G H) (h : SqT K G a xs) : SqT K H a xs := h.imp (Rd.le l) id
theorem sql_le {K : PySem.W.Frag} {G H : Hp} {a : Addr} {xs : List L2.V} (l : Le G H) (h : SqL K G a xs) : SqL K H a xs := h.imp (Rd.le l) id
theorem dct_le {G H : Hp} {a : Addr} {ks : List Val} {us : List L2.V} (l : Le G H) (h : DctAt G a ks us) : DctAt H a ks us :=
 h.imp (fun ⟨k, e, n, r⟩ => ⟨k, e, n, Rd.le l r⟩) fun ⟨k, e, n, r⟩ => ⟨k, e, n, Rd.le l r⟩
theorem pre_get {as bs : List Addr} (p : as <+: bs) {n : Nat} {a : Addr} (h : as[n]? = some a) : bs[n]? = some a := by
 obtain ⟨t, rfl⟩ := p
 rw [List.getElem?_append_left (List.getElem?_eq_some_iff.mp h).1]
 exact h
mutual
theorem Rel.mono {T : CT} {as bs : List Addr} {G H : Hp} (p : as <+: bs) (l : Le G H) : ∀ {v : Val} {u : L2.V}, Rel T as G v u → Rel T bs H v u
 | .non, _, h => h
 | .bl _, _, h => h
 | .int _, _, h => h
 | .str _, _, h => h
 | .tup _ _, _, ⟨a, us, e, q, r⟩ => ⟨a, us, e, tup_le l q, Rels.mono p l r⟩
 | .lst _, _, ⟨a, us, e, q, r⟩ => ⟨a, us, e, sql_le l q, Rels.mono p l r⟩
 | .dct _ _, _, ⟨a, us, e, q, r⟩ => ⟨a, us, e, dct_le l q, Rels.mono p l r⟩
 | .obj c ns vs, _, ⟨a, us, e, n, r, q⟩ => ⟨a, us, e, n, Rels.mono p l r, by
  split at q
  ·rename_i h
   rw [if_pos h]
   obtain ⟨dx, q1, q2⟩ := q
   exact ⟨dx, l.ex q1 rfl, q2.imp id fun ⟨d, q3, q4⟩ => ⟨d, q3, l.ex q4 rfl⟩⟩
  ·rename_i h
   rw [if_neg h]
   exact q.imp fun dx q => l.ex q rfl⟩
 | .ref _, _, ⟨a, e, q⟩ => ⟨a, pre_get p e, q⟩
theorem Rels.mono {T : CT} {as bs : List Addr} {G H : Hp} (p : as <+: bs) (l : Le G H) : ∀ {vs : List Val} {us : List L2.V}, Rels T as G vs us → Rels T bs H vs us
 | [], _, h => h
 | _ :: _, _, ⟨u, t, e, h, r⟩ => ⟨u, t, e, Rel.mono p l h, Rels.mono p l r⟩
end
def ObR (T : CT) (as : List Addr) (G H : Hp) (a : Addr) : Ob → Prop
 | .lst xs => ∃ us, H a = some (.lst us) ∧ Rels T as G xs us
 | .dct ks vs => ∃ us, DctX H a ks us ∧ Rels T as G vs us
 | .ins c ns vs => ∃ dx us, T.xc c = false ∧ H a = some (.ins (T.ca c) dx (ns.zip us)) ∧ ns.length = us.length ∧ Rels T as G vs us
structure Sim (T : CT) (st : Store) (as : List Addr) (G H : Hp) : Prop where
 len : as.length = st.length
 nd : as.Nodup
 sub : Le G H
 off : ∀ a ∈ as, G a = none
 ob : ∀ (n : Nat) o a, st[n]? = some o → as[n]? = some a → ObR T as G H a o
end PI
namespace PI
open PySem L2 L2.L3
abbrev XS := St → XK
def ExR (T : CT) (as : List Addr) (G : Hp) (x : Exn) (cls : Value) (dx : Option Addr) : Prop :=
 cls = .ref (T.ca x.c) ∧ T.xc x.c = true ∧ ((dx = none ∧ x.ns = [] ∧ x.vs = []) ∨ ∃ d us, dx = some d ∧ G d = some (.xd (x.ns.zip us)) ∧ x.ns.length = us.length ∧ Rels T as G x.vs us)
def EnvR (T : CT) (as : List Addr) (G : Hp) (env : Env) (σ : St) : Prop := env.length = σ.length ∧ ∀ (i : Nat) v, env[i]? = some (some v) → ∃ u, σ[i]? = some (some u) ∧ Rel T as G v u
theorem EnvR.mono {T : CT} {as bs : List Addr} {G H : Hp} {env : Env} {σ : St} (p : as <+: bs) (l : Le G H) (h : EnvR T as G env σ) : EnvR T bs H env σ :=
 ⟨h.1, fun i v e => (h.2 i v e).imp fun u q => ⟨q.1, q.2.mono p l⟩⟩
def Post {α : Type} (T : CT) (as : List Addr) (G : Hp) (r : R α) (Q : α → Store → List Addr → Hp → Hp → Prop) (X : XK) : Prop := match r with
 | .ok a st => ∀ as' G' H', as <+: as' → Le G G' → Sim T st as' G' H' → Q a st as' G' H'
 | .exc x st => ∀ as' G' H' cls dx, as <+: as' → Le G G' → Sim T st as' G' H' → ExR T as' G' x cls dx → X cls dx H'
 | .stuck => False
theorem Post.mono {α : Type} {T : CT} {as bs : List Addr} {G G2 : Hp} {r : R α} {Q : α → Store → List Addr → Hp → Hp → Prop} {X : XK} (p : as <+: bs) (l : Le G G2) (h : Post T as G r Q X) : Post T bs G2 r Q X := by
 cases r with
 | ok a st => exact fun as' G' H' p' l' s => h as' G' H' (p.trans p') (l.trans l') s
 | exc x st => exact fun as' G' H' cls dx p' l' s e => h as' G' H' cls dx (p.trans p') (l.trans l') s e
 | stuck => exact h
theorem Post.bind {α β : Type} {T : CT} {as : List Addr} {G : Hp} {r : R α} {f : α → Store → R β} {Q : β → Store → List Addr → Hp → Hp → Prop} {X : XK} (h : Post T as G (r.bind f) Q X) :
  Post T as G r (fun a st as' G' _ => Post T as' G' (f a st) Q X) X := by
 cases r with
 | ok a st => exact fun as' G' H' p l s => Post.mono p l h
 | exc x st => exact h
 | stuck => exact h
theorem Post.imp {α : Type} {T : CT} {as : List Addr} {G : Hp} {r : R α} {Q Q' : α → Store → List Addr → Hp → Hp → Prop} {X : XK} (h : Post T as G r Q X)
  (k : ∀ a st as' G' H', as <+: as' → Le G G' → Sim T st as' G' H' → Q a st as' G' H' → Q' a st as' G' H') : Post T as G r Q' X := by
 cases r with
 | ok a st => exact fun as' G' H' p l s => k a st as' G' H' p l s (h as' G' H' p l s)
 | exc x st => exact h
 | stuck => exact h
theorem Post.ok {α : Type} {T : CT} {as : List Addr} {G H : Hp} {a : α} {st : Store} {Q : α → Store → List Addr → Hp → Hp → Prop} {X : XK} (h : Post T as G (.ok a st) Q X) (s : Sim T st as G H) : Q a st as G H :=
 h as G H (List.prefix_refl _) (Le.refl _) s
def RelT (T : CT) (as : List Addr) (G H : Hp) : Val → L2.V → Prop
 | .tup f xs, u => ∃ a us, u = .ref a ∧ TupAt G a f us ∧ Rels T as G xs us
 | .lst xs, u => ∃ a us, u = .ref a ∧ SqL T.K H a us ∧ Rels T as G xs us
 | .dct ks vs, u => ∃ a us, u = .ref a ∧ DctAt H a ks us ∧ Rels T as G vs us
 | .obj c ns vs, u => ∃ a us, u = .ref a ∧ ns.length = us.length ∧ Rels T as G vs us ∧
   if T.xc c = true then ∃ dx, H a = some (.ext (IsExc a (T.ca c) dx)) ∧ ((dx = none ∧ ns = []) ∨ ∃ d, dx = some d ∧ H d = some (.xd (ns.zip us)))
   else ∃ dx, H a = some (.ins (T.ca c) dx (ns.zip us))
 | .non, u => u = .non
 | .bl b, u => u = .bl b
 | .int i, u => u = .int i
 | .str x, u => u = .str x
 | .ref _, _ => False
theorem Rel.top {T : CT} {as : List Addr} {G H : Hp} (l : Le G H) : ∀ {v : Val} {u : L2.V}, isRef v = none → Rel T as G v u → RelT T as G H v u
 | .non, _, _, h => h
 | .bl _, _, _, h => h
 | .int _, _, _, h => h
 | .str _, _, _, h => h
 | .tup _ _, _, _, h => h
 | .lst _, _, _, ⟨a, us, e, q, r⟩ => ⟨a, us, e, sql_le l q, r⟩
 | .dct _ _, _, _, ⟨a, us, e, q, r⟩ => ⟨a, us, e, dct_le l q, r⟩
 | .obj c ns vs, _, _, ⟨a, us, e, n, r, q⟩ => ⟨a, us, e, n, r, by
  split at q
  ·rename_i h
   rw [if_pos h]
   obtain ⟨dx, q1, q2⟩ := q
   exact ⟨dx, l.ex q1 rfl, q2.imp id fun ⟨d, q3, q4⟩ => ⟨d, q3, l.ex q4 rfl⟩⟩
  ·rename_i h
   rw [if_neg h]
   exact q.imp fun dx q => l.ex q rfl⟩
 | .ref _, _, h, _ => by cases h
theorem res_rel {T : CT} {st : Store} {as : List Addr} {G H : Hp} (s : Sim T st as G H) {v : Val} {u : L2.V} (h : Rel T as G v u) : RelT T as G H (res st v) u := by
 cases v with
 | ref k =>
  obtain ⟨a, e, rfl⟩ := h
  have hk : k < as.length := (List.getElem?_eq_some_iff.mp e).1
  rw [s.len] at hk
  have ho : st[k]? = some st[k] := List.getElem?_eq_getElem hk
  have ob := s.ob k _ a ho e
  show RelT T as G H (resO k st[k]?) _
  rw [ho]
  cases q : st[k] with
  | lst xs =>
   rw [q] at ob
   obtain ⟨us, h1, h2⟩ := ob
   exact ⟨a, us, rfl, .inl (.inl h1), h2⟩
  | dct ks vs =>
   rw [q] at ob
   obtain ⟨us, h1, h2⟩ := ob
   exact ⟨a, us, rfl, h1.at, h2⟩
  | ins c ns vs =>
   rw [q] at ob
   obtain ⟨dx, us, x0, h1, h2, h3⟩ := ob
   exact ⟨a, us, rfl, h2, h3, by rw [if_neg (by rw [x0]; decide)]; exact ⟨dx, h1⟩⟩
 | non => exact h
 | bl b => exact h
 | int i => exact h
 | str x => exact h
 | tup xs => exact Rel.top s.sub rfl h
 | lst xs => exact Rel.top s.sub rfl h
 | dct ks vs => exact Rel.top s.sub rfl h
 | obj c ns vs => exact Rel.top s.sub rfl h
theorem nd_ix {α : Type} {l : List α} (h : l.Nodup) {i j : Nat} {x : α} (a : l[i]? = some x) (b : l[j]? = some x) : i = j := by
 obtain ⟨l1, e1⟩ := List.getElem?_eq_some_iff.mp a
 obtain ⟨l2, e2⟩ := List.getElem?_eq_some_iff.mp b
 have q := List.pairwise_iff_getElem.mp h
 rcases Nat.lt_trichotomy i j with z | z | z
 ·exact absurd (e1.trans e2.symm) (q i j l1 l2 z)
 ·exact z
 ·exact absurd (e2.trans e1.symm) (q j i l2 l1 z)
theorem ObR.live {T : CT} {as : List Addr} {G H : Hp} {a : Addr} {o : Ob} (h : ObR T as G H a o) : H a ≠ none := by
 intro z
 cases o with
 | lst xs =>
  obtain ⟨us, e, _⟩ := h
  rw [z] at e
  cases e
 | dct ks vs =>
  obtain ⟨us, e, _⟩ := h
  rcases e with ⟨_, _, _, e⟩ | ⟨_, _, _, e⟩ <;> (rw [z] at e; cases e)
 | ins c ns vs =>
  obtain ⟨dx, us, _, e, _⟩ := h
  rw [z] at e
  cases e
theorem ObR.at {T : CT} {as : List Addr} {G H H' : Hp} {a : Addr} {o : Ob} (e : H' a = H a) (h : ObR T as G H a o) : ObR T as G H' a o := by
 cases o with
 | lst xs =>
  obtain ⟨us, q, r⟩ := h
  exact ⟨us, e.trans q, r⟩
 | dct ks vs =>
  obtain ⟨us, q, r⟩ := h
  refine ⟨us, ?_, r⟩
  unfold DctX at q ⊢
  rw [e]
  exact q
 | ins c ns vs =>
  obtain ⟨dx, us, x, q, r⟩ := h
  exact ⟨dx, us, x, e.trans q, r⟩
theorem ObR.mono {T : CT} {as bs : List Addr} {G G' H : Hp} {a : Addr} {o : Ob} (p : as <+: bs) (l : Le G G') (h : ObR T as G H a o) : ObR T bs G' H a o := by
 cases o with
 | lst xs =>
  obtain ⟨us, q, r⟩ := h
  exact ⟨us, q, r.mono p l⟩
 | dct ks vs =>
  obtain ⟨us, q, r⟩ := h
  exact ⟨us, q, r.mono p l⟩
 | ins c ns vs =>
  obtain ⟨dx, us, x, q, n, r⟩ := h
  exact ⟨dx, us, x, q, n, r.mono p l⟩
theorem Sim.live {T : CT} {st : Store} {as : List Addr} {G H : Hp} (s : Sim T st as G H) {a : Addr} (h : a ∈ as) : H a ≠ none := by
 obtain ⟨n, hn⟩ := List.mem_iff_getElem?.mp h
 have hk : n < as.length := (List.getElem?_eq_some_iff.mp hn).1
 rw [s.len] at hk
 exact (s.ob n _ a (List.getElem?_eq_getElem hk) hn).live
theorem Sim.fresh {T : CT} {st : Store} {as : List Addr} {G H : Hp} (s : Sim T st as G H) {p : Addr} (hp : H p = none) : p ∉ as ∧ G p = none := by
 refine ⟨fun h => s.live h hp, ?_⟩
 cases e : G p with
 | none => rfl
 | some o =>
  rcases s.sub p o e with z | ⟨_, ob, z⟩ <;> (rw [z] at hp; cases hp)
theorem Le.up {G H : Hp} {p : Addr} {o : HO} (l : Le G H) (hp : G p = none) : Le G (upd H p o) := fun b u e => by
 rw [upd_ne (ne_of_none e hp)]
 exact l b u e
theorem Sim.froze {T : CT} {st : Store} {as : List Addr} {G H : Hp} (s : Sim T st as G H) {p : Addr} {u : HO} (hp : H p = none) : Sim T st as (upd G p u) (upd H p u) := by
 obtain ⟨n1, n2⟩ := s.fresh hp
 refine ⟨s.len, s.nd, fun b o e => ?_, fun a ha => ?_, fun n o a h1 h2 => ?_⟩
 ·by_cases hb : b = p
  ·subst hb
   rw [upd_same] at e ⊢
   exact .inl e
  ·rw [upd_ne hb] at e ⊢
   exact s.sub b o e
 ·rw [upd_ne (show a ≠ p from fun z => n1 (by rw [← z]; exact ha))]
  exact s.off a ha
 ·refine ((s.ob n o a h1 h2).at (upd_ne fun z => n1 ?_)).mono (List.prefix_refl _) (Le.new n2)
  rw [← z]
  exact List.mem_of_getElem? h2
theorem Sim.push {T : CT} {st : Store} {as : List Addr} {G H : Hp} (s : Sim T st as G H) {p : Addr} {u : HO} {o : Ob} (hp : H p = none) (hu : ObR T (as ++ [p]) G (upd H p u) p o) : Sim T (st ++ [o]) (as ++ [p]) G (upd H p u) := by
 obtain ⟨n1, n2⟩ := s.fresh hp
 refine ⟨by simp [s.len], ?_, s.sub.up n2, fun a ha => ?_, fun n o' a h1 h2 => ?_⟩
 ·rw [List.nodup_append]
  refine ⟨s.nd, by simp, fun a ha b hb => ?_⟩
  rw [List.mem_singleton.mp hb]
  exact fun z => n1 (z ▸ ha)
 ·rcases List.mem_append.mp ha with h | h
  ·exact s.off a h
  ·rw [List.mem_singleton.mp h]
   exact n2
 ·by_cases hn : n < st.length
  ·rw [List.getElem?_append_left hn] at h1
   rw [List.getElem?_append_left (by rw [s.len]; exact hn)] at h2
   refine ((s.ob n o' a h1 h2).at (upd_ne fun z => n1 ?_)).mono (List.prefix_append _ _) (Le.refl _)
   rw [← z]
   exact List.mem_of_getElem? h2
  ·have z : n = st.length := by
    have := (List.getElem?_eq_some_iff.mp h1).1
    simp at this
    omega
   subst z
   rw [List.getElem?_append_right (Nat.le_refl _)] at h1
   rw [← s.len, List.getElem?_append_right (Nat.le_refl _)] at h2
   simp at h1 h2
   subst h1 h2
   exact hu
theorem Sim.set {T : CT} {st : Store} {as : List Addr} {G H : Hp} (s : Sim T st as G H) {n : Nat} {a : Addr} {u : HO} {o : Ob} (ha : as[n]? = some a) (hu : ObR T as G (upd H a u) a o) : Sim T (st.set n o) as G (upd H a u) := by
 have ma : a ∈ as := List.mem_of_getElem? ha
 refine ⟨by simp [s.len], s.nd, s.sub.up (s.off a ma), s.off, fun m o' b h1 h2 => ?_⟩
 by_cases hm : m = n
 ·subst hm
  rw [ha] at h2
  cases h2
  have hl : m < st.length := by rw [← s.len]; exact (List.getElem?_eq_some_iff.mp ha).1
  rw [List.getElem?_set_self hl] at h1
  cases h1
  exact hu
 ·rw [List.getElem?_set_ne (fun z => hm z.symm)] at h1
  refine (s.ob m o' b h1 h2).at (upd_ne fun z => hm ?_)
  subst z
  obtain ⟨l1, e1⟩ := List.getElem?_eq_some_iff.mp h2
  obtain ⟨l2, e2⟩ := List.getElem?_eq_some_iff.mp ha
  exact nd_ix s.nd h2 ha
end PI
namespace PI
open PySem L2 L2.L3
theorem key_bd {n : Nat} {v : Val} {k : Key} (h : keyO v = some k) : v.bd n = true := by
 cases v <;> first | rfl | (simp [keyO] at h)
theorem keys_bd {n : Nat} : ∀ {vs : List Val} {kk : List Key}, keysO vs = some kk → bds n vs = true
 | [], _, _ => rfl
 | v :: r, kk, h => by
  unfold keysO at h
  unfold bds
  cases e : keyO v with
  | none => rw [e] at h; cases h
  | some k =>
   cases e2 : keysO r with
   | none => rw [e, e2] at h; cases h
   | some kr => rw [key_bd e, keys_bd e2]; rfl
theorem keyT_bd {n : Nat} {v : Val} {k : List Key} (h : keyT v = some k) : v.bd n = true := by
 cases v with
 | tup fl xs => unfold Val.bd; exact keys_bd h
 | _ => cases h
theorem keyTs_bd {n : Nat} : ∀ {vs : List Val} {kk : List (List Key)}, keyTs vs = some kk → bds n vs = true
 | [], _, _ => rfl
 | v :: r, kk, h => by
  unfold keyTs at h
  unfold bds
  cases e : keyT v with
  | none => rw [e] at h; cases h
  | some k =>
   cases e2 : keyTs r with
   | none => rw [e, e2] at h; cases h
   | some kr => rw [keyT_bd e, keyTs_bd e2]; rfl
mutual
theorem Rel.bd {T : CT} {as : List Addr} {G : Hp} : ∀ {v : Val} {u : L2.V}, Rel T as G v u → v.bd as.length = true
 | .non, _, _ => rfl
 | .bl _, _, _ => rfl
 | .int _, _, _ => rfl
 | .str _, _, _ => rfl
 | .tup _ _, _, ⟨_, _, _, _, r⟩ => by unfold Val.bd; exact Rels.bd r
 | .lst _, _, ⟨_, _, _, _, r⟩ => by unfold Val.bd; exact Rels.bd r
 | .dct ks _, _, ⟨_, us, _, q, r⟩ => by
  unfold Val.bd
  rw [Rels.bd r, Bool.and_true]
  rcases q with ⟨kk, e, _, _⟩ | ⟨kk, e, _, _⟩
  ·exact keys_bd e
  ·exact keyTs_bd e
 | .obj _ _ _, _, ⟨_, _, _, _, r, _⟩ => by unfold Val.bd; exact Rels.bd r
 | .ref _, _, ⟨_, e, _⟩ => by unfold Val.bd; exact decide_eq_true (List.getElem?_eq_some_iff.mp e).1
theorem Rels.bd {T : CT} {as : List Addr} {G : Hp} : ∀ {vs : List Val} {us : List L2.V}, Rels T as G vs us → bds as.length vs = true
 | [], _, _ => rfl
 | _ :: _, _, ⟨_, _, _, h, r⟩ => by unfold bds; rw [Rel.bd h, Rels.bd r]; rfl
end
mutual
theorem Rel.cut {T : CT} {as : List Addr} {G : Hp} {n : Nat} : ∀ {v : Val} {u : L2.V}, v.bd n = true → Rel T as G v u → Rel T (as.take n) G v u
 | .non, _, _, h => h
 | .bl _, _, _, h => h
 | .int _, _, _, h => h
 | .str _, _, _, h => h
 | .tup _ _, _, b, ⟨a, us, e, q, r⟩ => ⟨a, us, e, q, Rels.cut (by unfold Val.bd at b; exact b) r⟩
 | .lst _, _, b, ⟨a, us, e, q, r⟩ => ⟨a, us, e, q, Rels.cut (by unfold Val.bd at b; exact b) r⟩
 | .dct _ _, _, b, ⟨a, us, e, q, r⟩ => ⟨a, us, e, q, Rels.cut (by unfold Val.bd at b; exact (Bool.and_eq_true _ _ ▸ b).2) r⟩
 | .obj _ _ _, _, b, ⟨a, us, e, n, r, q⟩ => ⟨a, us, e, n, Rels.cut (by unfold Val.bd at b; exact b) r, q⟩
 | .ref k, _, b, ⟨a, e, q⟩ => ⟨a, by
  unfold Val.bd at b
  rw [List.getElem?_take_of_lt (of_decide_eq_true b)]
  exact e, q⟩
theorem Rels.cut {T : CT} {as : List Addr} {G : Hp} {n : Nat} : ∀ {vs : List Val} {us : List L2.V}, bds n vs = true → Rels T as G vs us → Rels T (as.take n) G vs us
 | [], _, _, h => h
 | _ :: _, _, b, ⟨u, t, e, h, r⟩ => ⟨u, t, e, Rel.cut (by unfold bds at b; exact (Bool.and_eq_true _ _ ▸ b).1) h, Rels.cut (by unfold bds at b; exact (Bool.and_eq_true _ _ ▸ b).2) r⟩
end
open Classical in
noncomputable def frzG (G H : Hp) (as : List Addr) (n x : Nat) : Hp := fun b => if b ∈ as.drop n ∧ as[x]? ≠ some b then H b else G b
section
variable {T : CT} {st : Store} {as : List Addr} {G H : Hp} {n x : Nat}
theorem frzG_at {a : Addr} {k : Nat} (hk : n ≤ k) (hx : k ≠ x) (nd : as.Nodup) (e : as[k]? = some a) : frzG G H as n x a = H a := by
 unfold frzG
 rw [if_pos]
 refine ⟨?_, fun z => hx (nd_ix nd e z)⟩
 rw [List.mem_iff_getElem?]
 exact ⟨k - n, by rw [List.getElem?_drop, show n + (k - n) = k by omega]; exact e⟩
theorem frzG_le (s : Sim T st as G H) : Le G (frzG G H as n x) := fun a o e => by
 unfold frzG
 rw [if_neg]
 ·exact .inl e
 ·rintro ⟨h, _⟩
  rw [s.off a (List.mem_of_mem_drop h)] at e
  cases e
theorem frzG_sub (s : Sim T st as G H) : Le (frzG G H as n x) H := fun a o e => by
 unfold frzG at e
 split at e
 ·exact .inl e
 ·exact s.sub a o e
theorem take_drop {α : Type} {l : List α} (nd : l.Nodup) {n : Nat} {a : α} (h1 : a ∈ l.take n) (h2 : a ∈ l.drop n) : False := by
 rw [← List.take_append_drop n l] at nd
 exact (List.nodup_append.mp nd).2.2 a h1 a h2 rfl
theorem frzG_off (s : Sim T st as G H) : ∀ a ∈ as.take n, frzG G H as n x a = none := fun a ha => by
 unfold frzG
 rw [if_neg fun z => take_drop s.nd ha z.1]
 exact s.off a (List.mem_of_mem_take ha)
end
mutual
theorem sub_rel {T : CT} {as bs : List Addr} {G D : Hp} (l : Le G D) {f : Nat → Option Val} (hf : ∀ k v' u, f k = some v' → Rel T as G (.ref k) u → Rel T bs D v' u) : ∀ {v v' : Val} {u : L2.V}, v.sub f = some v' → Rel T as G v u → Rel T bs D v' u
 | .non, _, _, e, h => by cases e; exact h
 | .bl _, _, _, e, h => by cases e; exact h
 | .int _, _, _, e, h => by cases e; exact h
 | .str _, _, _, e, h => by cases e; exact h
 | .tup _ _, _, _, e, ⟨a, us, e1, q, r⟩ => by
  unfold Val.sub at e
  obtain ⟨ys, e2, rfl⟩ := Option.map_eq_some_iff.mp e
  exact ⟨a, us, e1, tup_le l q, subs_rel l hf e2 r⟩
 | .lst _, _, _, e, ⟨a, us, e1, q, r⟩ => by
  unfold Val.sub at e
  obtain ⟨ys, e2, rfl⟩ := Option.map_eq_some_iff.mp e
  exact ⟨a, us, e1, sql_le l q, subs_rel l hf e2 r⟩
 | .dct _ _, _, _, e, ⟨a, us, e1, q, r⟩ => by
  unfold Val.sub at e
  obtain ⟨ys, e2, rfl⟩ := Option.map_eq_some_iff.mp e
  exact ⟨a, us, e1, dct_le l q, subs_rel l hf e2 r⟩
 | .obj c _ _, _, _, e, ⟨a, us, e1, n, r, q⟩ => by
  unfold Val.sub at e
  obtain ⟨ys, e2, rfl⟩ := Option.map_eq_some_iff.mp e
  refine ⟨a, us, e1, n, subs_rel l hf e2 r, ?_⟩
  split at q
  ·rename_i h
   rw [if_pos h]
   obtain ⟨dx, q1, q2⟩ := q
   exact ⟨dx, l.ex q1 rfl, q2.imp id fun ⟨d, q3, q4⟩ => ⟨d, q3, l.ex q4 rfl⟩⟩
  ·rename_i h
   rw [if_neg h]
   exact q.imp fun dx q => l.ex q rfl
 | .ref k, _, _, e, h => by
  unfold Val.sub at e
  exact hf k _ _ e h
theorem subs_rel {T : CT} {as bs : List Addr} {G D : Hp} (l : Le G D) {f : Nat → Option Val} (hf : ∀ k v' u, f k = some v' → Rel T as G (.ref k) u → Rel T bs D v' u) : ∀ {vs vs' : List Val} {us : List L2.V}, subs f vs = some vs' → Rels T as G vs us → Rels T bs D vs' us
 | [], _, _, e, h => by cases e; exact h
 | v :: r, _, _, e, ⟨u, t, e1, h, q⟩ => by
  unfold subs at e
  cases e2 : v.sub f with
  | none => rw [e2] at e; cases e
  | some v' =>
   cases e3 : subs f r with
   | none => rw [e2, e3] at e; cases e
   | some r' =>
    rw [e2, e3] at e
    cases e
    exact ⟨u, t, e1, sub_rel l hf e2 h, subs_rel l hf e3 q⟩
end
theorem frz_ref {T : CT} {st : Store} {as : List Addr} {G H : Hp} {n x : Nat} (s : Sim T st as G H) : ∀ (d k : Nat) (v' : Val) (u : L2.V), frzR st n x d k = some v' → Rel T as G (.ref k) u → Rel T (as.take n) (frzG G H as n x) v' u
 | d, k, v', u, e, ⟨a, ea, eu⟩ => by
  by_cases hk : k < n
  ·have e' : v' = .ref k := by
    cases d <;> (unfold frzR at e; rw [if_pos hk] at e; cases e; rfl)
   subst e'
   exact ⟨a, by rw [List.getElem?_take_of_lt hk]; exact ea, eu⟩
  ·cases d with
   | zero =>
    unfold frzR at e
    rw [if_neg hk] at e
    cases e
   | succ d =>
    unfold frzR at e
    rw [if_neg hk] at e
    by_cases hx : k = x
    ·rw [if_pos hx] at e
     cases e
    rw [if_neg hx] at e
    have lk : k < st.length := by rw [← s.len]; exact (List.getElem?_eq_some_iff.mp ea).1
    have ho : st[k]? = some st[k] := List.getElem?_eq_getElem lk
    have ob := s.ob k _ a ho ea
    have ga : frzG G H as n x a = H a := frzG_at (by omega) hx s.nd ea
    rw [ho] at e
    generalize st[k] = o at e ob
    subst eu
    cases o with
    | lst xs =>
     obtain ⟨us, q, r⟩ := ob
     obtain ⟨ys, e2, rfl⟩ := Option.map_eq_some_iff.mp e
     exact ⟨a, us, rfl, .inl (.inl (ga.trans q)), subs_rel (frzG_le s) (frz_ref s d) e2 r⟩
    | dct ks vs =>
     obtain ⟨us, q, r⟩ := ob
     obtain ⟨ys, e2, rfl⟩ := Option.map_eq_some_iff.mp e
     refine ⟨a, us, rfl, ?_, subs_rel (frzG_le s) (frz_ref s d) e2 r⟩
     have q2 := q.at
     unfold DctAt Rd at q2 ⊢
     rw [ga]
     exact q2
    | ins c ns vs =>
     obtain ⟨dx, us, x0, q, m, r⟩ := ob
     obtain ⟨ys, e2, rfl⟩ := Option.map_eq_some_iff.mp e
     exact ⟨a, us, rfl, m, subs_rel (frzG_le s) (frz_ref s d) e2 r, by rw [if_neg (by rw [x0]; decide)]; exact ⟨dx, ga.trans q⟩⟩
theorem ob_cut {T : CT} {as : List Addr} {G D H : Hp} {n : Nat} {a : Addr} {o : Ob} (l : Le G D) (b : o.bd n = true) (h : ObR T as G H a o) : ObR T (as.take n) D H a o := by
 cases o with
 | lst xs =>
  obtain ⟨us, q, r⟩ := h
  exact ⟨us, q, (Rels.cut b r).mono (List.prefix_refl _) l⟩
 | dct ks vs =>
  obtain ⟨us, q, r⟩ := h
  exact ⟨us, q, (Rels.cut (by unfold Ob.bd at b; exact (Bool.and_eq_true _ _ ▸ b).2) r).mono (List.prefix_refl _) l⟩
 | ins c ns vs =>
  obtain ⟨dx, us, x0, q, m, r⟩ := h
  exact ⟨dx, us, x0, q, m, (Rels.cut b r).mono (List.prefix_refl _) l⟩
theorem ObR.bd {T : CT} {as : List Addr} {G H : Hp} {a : Addr} {o : Ob} (h : ObR T as G H a o) : o.bd as.length = true := by
 cases o with
 | lst xs =>
  obtain ⟨us, q, r⟩ := h
  exact r.bd
 | dct ks vs =>
  obtain ⟨us, q, r⟩ := h
  show (bds _ ks && bds _ vs) = true
  rw [r.bd, Bool.and_true]
  rcases q with ⟨kk, e, _, _⟩ | ⟨kk, e, _, _⟩
  ·exact keys_bd e
  ·exact keyTs_bd e
 | ins c ns vs =>
  obtain ⟨dx, us, x0, q, m, r⟩ := h
  exact r.bd
theorem Sim.cut {T : CT} {st st' : Store} {as as' : List Addr} {G G' H H' : Hp} (s : Sim T st as G H) (s' : Sim T st' as' G' H') (p : as <+: as') (o : Old st st') (x : Nat) : as'.take st.length = as ∧ Sim T (st'.take st.length) as (frzG G' H' as' st.length x) H' := by
 have e : as'.take st.length = as := by
  obtain ⟨t, rfl⟩ := p
  rw [← s.len, List.take_left']
  rfl
 refine ⟨e, ?_, s.nd, frzG_sub s', fun a ha => ?_, fun n ob a h1 h2 => ?_⟩
 ·rw [s.len, List.length_take, Nat.min_eq_left o.1]
 ·rw [← e] at ha
  exact frzG_off s' a ha
 ·have hn : n < st.length := by
   have := (List.getElem?_eq_some_iff.mp h1).1
   rw [List.length_take] at this
   omega
  rw [List.getElem?_take_of_lt hn] at h1
  have b : ob.bd st.length = true := by
   rcases o.2 n ob hn h1 with z | z
   ·rw [← s.len]
    exact (s.ob n ob a z h2).bd
   ·exact z
  have := ob_cut (n := st.length) (frzG_le (n := st.length) (x := x) s') b (s'.ob n ob a h1 (pre_get p h2))
  rw [e] at this
  exact this
section
variable {T : CT} {P : Pg} {st st' : Store} {as as' : List Addr} {G G' H H' : Hp} {X : XK}
theorem fin_ok {v : Val} {u : L2.V} {Q : VK} (s : Sim T st as G H) (s' : Sim T st' as' G' H') (p : as <+: as') (l : Le G G') (r : Rel T as' G' v u)
  (h : Post T as G (fin P st v st') (fun v _ as2 G2 H2 => ∀ u, Rel T as2 G2 v u → Q u H2) X) : Q u H' := by
 unfold fin at h
 split at h
 ·rename_i o
  cases e : isRef v with
  | none =>
   rw [e] at h
   unfold finV at h
   cases e2 : v.frz st' st.length st'.length with
   | none => rw [e2] at h; exact h.elim
   | some v' =>
    rw [e2] at h
    obtain ⟨c1, c2⟩ := Sim.cut s s' p o st'.length
    refine h as _ H' (List.prefix_refl _) (l.trans (frzG_le s')) c2 u ?_
    have := sub_rel (frzG_le s') (frz_ref s' 6) e2 r
    rw [c1] at this
    exact this
  | some k =>
   have ev : v = .ref k := by
    cases v <;> first | (cases e; rfl) | cases e
   subst ev
   rw [e] at h
   replace h : Post T as G (if k < st.length then .ok (.ref k) (st'.take st.length) else finR P st.length k st' st'[k]?) (fun v _ as2 G2 H2 => ∀ u, Rel T as2 G2 v u → Q u H2) X := h
   obtain ⟨a, ea, eu⟩ := r
   split at h
   ·rename_i hk
    obtain ⟨c1, c2⟩ := Sim.cut s s' p o st'.length
    refine h as _ H' (List.prefix_refl _) (l.trans (frzG_le s')) c2 u ⟨a, ?_, eu⟩
    rw [← c1, List.getElem?_take_of_lt hk]
    exact ea
   ·rename_i hk
    obtain ⟨c1, c2⟩ := Sim.cut s s' p o k
    have lk : k < st'.length := by rw [← s'.len]; exact (List.getElem?_eq_some_iff.mp ea).1
    have ho : st'[k]? = some st'[k] := List.getElem?_eq_getElem lk
    have ob := s'.ob k _ a ho ea
    rw [ho] at h
    generalize st'[k] = o' at h ob
    have ga : frzG G' H' as' st.length k a = none := by
     unfold frzG
     rw [if_neg fun z => z.2 ea]
     exact s'.off a (List.mem_of_getElem? ea)
    have na : a ∉ as := fun z => by
     rw [← c1] at z
     obtain ⟨i, hi⟩ := List.mem_iff_getElem?.mp z
     have li := (List.getElem?_eq_some_iff.mp hi).1
     rw [List.length_take] at li
     rw [List.getElem?_take_of_lt (by omega)] at hi
     have := nd_ix s'.nd hi ea
     omega
    have put : ∀ {o2 : Ob}, ObR T (as ++ [a]) (frzG G' H' as' st.length k) H' a o2 → Sim T (st'.take st.length ++ [o2]) (as ++ [a]) (frzG G' H' as' st.length k) H' := fun {o2} q => by
     refine ⟨by simp [c2.len], ?_, c2.sub, fun b hb => ?_, fun i ob2 b h1 h2 => ?_⟩
     ·rw [List.nodup_append]
      refine ⟨s.nd, by simp, fun b hb c hc => ?_⟩
      rw [List.mem_singleton.mp hc]
      exact fun z => na (z ▸ hb)
     ·rcases List.mem_append.mp hb with z | z
      ·exact c2.off b z
      ·rw [List.mem_singleton.mp z]
       exact ga
     ·by_cases hi : i < (st'.take st.length).length
      ·rw [List.getElem?_append_left hi] at h1
       rw [List.getElem?_append_left (by rw [c2.len]; exact hi)] at h2
       exact (c2.ob i ob2 b h1 h2).mono (List.prefix_append _ _) (Le.refl _)
      ·have z : i = (st'.take st.length).length := by
        have := (List.getElem?_eq_some_iff.mp h1).1
        rw [List.length_append] at this
        simp at this hi ⊢
        omega
       rw [z, List.getElem?_append_right (Nat.le_refl _)] at h1
       rw [z, ← c2.len, List.getElem?_append_right (Nat.le_refl _)] at h2
       simp at h1 h2
       subst h1 h2
       exact q
    have told : Rel T (as ++ [a]) (frzG G' H' as' st.length k) (.ref st.length) u := ⟨a, by
     rw [← s.len, List.getElem?_append_right (Nat.le_refl _)]
     simp, eu⟩
    cases o' with
    | lst xs =>
     replace h : Post T as G ((R.ofO (frzs st' st.length k xs) st').bind fun ys st' => .ok (.ref st.length) (st'.take st.length ++ [.lst ys])) (fun v _ as2 G2 H2 => ∀ u, Rel T as2 G2 v u → Q u H2) X := h
     cases e2 : frzs st' st.length k xs with
     | none => rw [e2] at h; exact h.elim
     | some ys =>
      rw [e2] at h
      obtain ⟨us, q, r⟩ := ob
      have r2 := subs_rel (frzG_le s') (frz_ref s' 6) e2 r
      rw [c1] at r2
      exact h (as ++ [a]) _ H' (List.prefix_append _ _) (l.trans (frzG_le s')) (put ⟨us, q, r2.mono (List.prefix_append _ _) (Le.refl _)⟩) u told
    | dct ks vs =>
     replace h : Post T as G ((R.ofO (frzs st' st.length k vs) st').bind fun vs st' => .ok (.ref st.length) (st'.take st.length ++ [.dct ks vs])) (fun v _ as2 G2 H2 => ∀ u, Rel T as2 G2 v u → Q u H2) X := h
     cases e2 : frzs st' st.length k vs with
     | none => rw [e2] at h; exact h.elim
     | some ys =>
      rw [e2] at h
      obtain ⟨us, q, r⟩ := ob
      have r2 := subs_rel (frzG_le s') (frz_ref s' 6) e2 r
      rw [c1] at r2
      exact h (as ++ [a]) _ H' (List.prefix_append _ _) (l.trans (frzG_le s')) (put ⟨us, q, r2.mono (List.prefix_append _ _) (Le.refl _)⟩) u told
    | ins c ns vs =>
     replace h : Post T as G (if chgs P c = true then .ok (.ref k) st' else (R.ofO (frzs st' st.length st'.length vs) st').bind fun vs st' => .ok (.obj c ns vs) (st'.take st.length)) (fun v _ as2 G2 H2 => ∀ u, Rel T as2 G2 v u → Q u H2) X := h
     split at h
     ·exact h as' G' H' p l s' u ⟨a, ea, eu⟩
     ·cases e2 : frzs st' st.length st'.length vs with
      | none => rw [e2] at h; exact h.elim
      | some ys =>
       rw [e2] at h
       obtain ⟨dx, us, x0, q, m, r⟩ := ob
       obtain ⟨d1, d2⟩ := Sim.cut s s' p o st'.length
       have kx : k ≠ st'.length := by omega
       have r2 := subs_rel (frzG_le (n := st.length) (x := st'.length) s') (frz_ref s' 6) e2 r
       rw [d1] at r2
       refine h as _ H' (List.prefix_refl _) (l.trans (frzG_le s')) d2 u ⟨a, us, eu, m, r2, ?_⟩
       rw [if_neg (by rw [x0]; decide)]
       exact ⟨dx, (frzG_at (by omega) kx s'.nd ea).trans q⟩
 ·exact h as' G' H' p l s' u r
theorem finX_ok {x : Exn} {cls : Value} {dx : Option Addr} {Q : Val → Store → List Addr → Hp → Hp → Prop} (s : Sim T st as G H) (s' : Sim T st' as' G' H') (p : as <+: as') (l : Le G G') (r : ExR T as' G' x cls dx)
  (h : Post T as G (finX st x st') Q X) : X cls dx H' := by
 unfold finX at h
 split at h
 ·rename_i o
  cases e2 : frzs st' st.length st'.length x.vs with
  | none => rw [e2] at h; exact h.elim
  | some ys =>
   rw [e2] at h
   obtain ⟨d1, d2⟩ := Sim.cut s s' p o st'.length
   refine h as _ H' cls dx (List.prefix_refl _) (l.trans (frzG_le s')) d2 ?_
   obtain ⟨r1, r0, r2⟩ := r
   refine ⟨r1, r0, r2.imp (fun ⟨q1, q2, q3⟩ => ⟨q1, q2, ?_⟩) fun ⟨d, us, q1, q2, q3, q4⟩ => ⟨d, us, q1, (frzG_le s').ex q2 rfl, q3, ?_⟩⟩
   ·rw [q3] at e2
    cases e2
    rfl
   ·have r2 := subs_rel (frzG_le (n := st.length) (x := st'.length) s') (frz_ref s' 6) e2 q4
    rw [d1] at r2
    exact r2
 ·exact h as' G' H' cls dx p l s' r
end
end PI
namespace PI
open PySem L2 L2.L3 L2.L4
def tE (T : CT) (P : Pg) (cl : Cal) (E : XS) (e : PI.E) : TE := fun σ H Q => ∃ env st as G, Sim T st as G H ∧ EnvR T as G env σ ∧ Post T as G (e.run P cl env st) (fun v _ as' G' H' => ∀ u, Rel T as' G' v u → Q u H') (E σ)
def tT (T : CT) (P : Pg) (cl : Cal) (E : XS) (e : PI.E) : TT := fun σ H Q => ∃ env st as G, Sim T st as G H ∧ EnvR T as G env σ ∧ Post T as G (runC P cl (some e) env st) (fun b _ _ _ H' => Q b H') (E σ)
def tEs (T : CT) (P : Pg) (cl : Cal) (E : XS) (es : List PI.E) : TA := fun σ H Q => ∃ env st as G, Sim T st as G H ∧ EnvR T as G env σ ∧ Post T as G (runEs P cl es env st) (fun vs _ as' G' H' => ∀ us, Rels T as' G' vs us → Q us H') (E σ)
theorem PE.mono {X : Cx} {e : Expr} {t t' : TE} (h : PE X e t) (k : ∀ σ H Q, t' σ H Q → t σ H Q) : PE X e t' := fun pins s σ H Q I q => h pins s σ H Q I (k σ H Q q)
theorem PT.mono {X : Cx} {e : Expr} {t t' : TT} (h : PT X e t) (k : ∀ σ H Q, t' σ H Q → t σ H Q) : PT X e t' := fun pins s σ H Q I q => h pins s σ H Q I (k σ H Q q)
theorem PA.mono {X : Cx} {es : List Expr} {t t' : TA} (h : PA X es t) (k : ∀ σ H Q, t' σ H Q → t σ H Q) : PA X es t' := fun pos pins s σ H Q I q => h pos pins s σ H Q I (k σ H Q q)
section
variable {T : CT} {P : Pg} {cl : Cal} {E : XS} {X : Cx} {pos : Pos}
theorem tE_bind {α : Type} {e : PI.E} {env : Env} {st : Store} {as : List Addr} {G H : Hp} {σ : St} {f : Val → Store → R α} {Q : α → Store → List Addr → Hp → Hp → Prop} {K : VK} (s : Sim T st as G H) (er : EnvR T as G env σ)
  (h : Post T as G ((e.run P cl env st).bind f) Q (E σ))
  (k : ∀ v st1 as1 G1 H1 u, Sim T st1 as1 G1 H1 → EnvR T as1 G1 env σ → Rel T as1 G1 v u → as <+: as1 → Le G G1 → Post T as1 G1 (f v st1) Q (E σ) → K u H1) : tE T P cl E e σ H K :=
 ⟨env, st, as, G, s, er, h.bind.imp fun v st1 as1 G1 H1 p l s1 q u r => k v st1 as1 G1 H1 u s1 (er.mono p l) r p l q⟩
theorem tEs_bind {α : Type} {es : List PI.E} {env : Env} {st : Store} {as : List Addr} {G H : Hp} {σ : St} {f : List Val → Store → R α} {Q : α → Store → List Addr → Hp → Hp → Prop} {K : List L2.V → Hp → Prop} (s : Sim T st as G H) (er : EnvR T as G env σ)
  (h : Post T as G ((runEs P cl es env st).bind f) Q (E σ))
  (k : ∀ vs st1 as1 G1 H1 us, Sim T st1 as1 G1 H1 → EnvR T as1 G1 env σ → Rels T as1 G1 vs us → as <+: as1 → Le G G1 → Post T as1 G1 (f vs st1) Q (E σ) → K us H1) : tEs T P cl E es σ H K :=
 ⟨env, st, as, G, s, er, h.bind.imp fun v st1 as1 G1 H1 p l s1 q u r => k v st1 as1 G1 H1 u s1 (er.mono p l) r p l q⟩
theorem tT_bind {α : Type} {e : PI.E} {env : Env} {st : Store} {as : List Addr} {G H : Hp} {σ : St} {f : Bool → Store → R α} {Q : α → Store → List Addr → Hp → Hp → Prop} {K : Bool → Hp → Prop} (s : Sim T st as G H) (er : EnvR T as G env σ)
  (h : Post T as G ((runC P cl (some e) env st).bind f) Q (E σ))
  (k : ∀ b st1 as1 G1 H1, Sim T st1 as1 G1 H1 → EnvR T as1 G1 env σ → as <+: as1 → Le G G1 → Post T as1 G1 (f b st1) Q (E σ) → K b H1) : tT T P cl E e σ H K :=
 ⟨env, st, as, G, s, er, h.bind.imp fun v st1 as1 G1 H1 p l s1 q => k v st1 as1 G1 H1 s1 (er.mono p l) p l q⟩
theorem Post.ofO {α β : Type} {as : List Addr} {G : Hp} {o : Option α} {st : Store} {f : α → Store → R β} {Q : β → Store → List Addr → Hp → Hp → Prop} {X : XK} (h : Post T as G ((R.ofO o st).bind f) Q X) : ∃ a, o = some a ∧ Post T as G (f a st) Q X := by
 cases o with
 | none => exact h.elim
 | some a => exact ⟨a, rfl, h⟩
theorem Post.ofO' {α : Type} {as : List Addr} {G : Hp} {o : Option α} {st : Store} {Q : α → Store → List Addr → Hp → Hp → Prop} {X : XK} (h : Post T as G (R.ofO o st) Q X) : ∃ a, o = some a ∧ Post T as G (.ok a st) Q X := by
 cases o with
 | none => exact h.elim
 | some a => exact ⟨a, rfl, h⟩
theorem Post.iff {α : Type} {as : List Addr} {G : Hp} {c : Prop} {r : R α} {Q : α → Store → List Addr → Hp → Hp → Prop} {X : XK} (h : Post T as G (iff c r) Q X) : c ∧ Post T as G r Q X := by
 unfold PI.iff at h
 split at h
 ·rename_i z
  exact ⟨z, h⟩
 ·exact h.elim
theorem s_int {i : Int} {j : Nat} : PE X (.Constant (.int i) j pos) (tE T P cl E (.const (.int i))) := PE.mono pe_int fun σ H Q ⟨env, st, as, G, s, er, h⟩ => h.ok s _ rfl
theorem s_bl {i : Bool} {j : Nat} : PE X (.Constant (.bool i) j pos) (tE T P cl E (.const (.bl i))) := PE.mono pe_bl fun σ H Q ⟨env, st, as, G, s, er, h⟩ => h.ok s _ rfl
theorem s_str {i : Str} {j : Nat} : PE X (.Constant (.str i) j pos) (tE T P cl E (.const (.str i))) := PE.mono pe_str fun σ H Q ⟨env, st, as, G, s, er, h⟩ => h.ok s _ rfl
theorem s_non {j : Nat} : PE X (.Constant .none j pos) (tE T P cl E (.const .non)) := PE.mono pe_non fun σ H Q ⟨env, st, as, G, s, er, h⟩ => h.ok s _ rfl
theorem s_var {i : Nat} {x : Str} (hN : X.N[i]? = some x) (hv : Vis X.env.scope x) (hd : (x == ("__debug__" : Str)) = false) (hcd : (x == ("__classdict__" : Str)) = false) : PE X (.Name x pos) (tE T P cl E (.var i)) :=
 PE.mono (pe_var hN hv hd hcd) fun σ H Q ⟨env, st, as, G, s, er, h⟩ => by
  obtain ⟨v, e, h⟩ := Post.ofO' h
  have e' : env[i]? = some (some v) := by
   cases q : env[i]? with
   | none => rw [q] at e; cases e
   | some o => rw [q] at e; exact congrArg some e
  obtain ⟨u, e1, r⟩ := er.2 i v e'
  exact ⟨u, e1, h.ok s u r⟩
theorem s_bin {a b : Expr} {ia ib : PI.E} {op : Operator} {r : R2} (ho : OpR X (binaryOp op) r) (ha : PE X a (tE T P cl E ia)) (hb : PE X b (tE T P cl E ib))
  (k : ∀ {st as G H x y u w} {Q : VK} {Z : XK}, Sim T st as G H → RelT T as G H (res st x) u → RelT T as G H (res st y) w → Post T as G (binV op (res st x) (res st y) st) (fun v _ as' G' H' => ∀ u, Rel T as' G' v u → Q u H') Z → r u w H Q) : PE X (.BinOp a op b pos) (tE T P cl E (.bin op ia ib)) :=
 PE.mono (pe_op ho ha hb) fun σ H Q ⟨env, st, as, G, s, er, h⟩ => by
  unfold PI.E.run at h
  refine tE_bind s er h fun x st1 as1 G1 H1 u s1 er1 r1 p1 l1 h => ?_
  refine tE_bind s1 er1 h fun y st2 as2 G2 H2 w s2 er2 r2 p2 l2 h => ?_
  exact k s2 (res_rel s2 (r1.mono p2 l2)) (res_rel s2 r2) h
theorem s_cmp {a b : Expr} {ia ib : PI.E} {op : CmpOp} {r : R2} (ho : OpR X (compareOp op) r) (hm : behindInMarks op b = false) (ha : PE X a (tE T P cl E ia)) (hb : PE X b (tE T P cl E ib))
  (k : ∀ {st as G H x y u w} {Q : VK} {Z : XK}, Sim T st as G H → RelT T as G H (res st x) u → RelT T as G H (res st y) w → Post T as G (blR (cmpV op (res st x) (res st y) st)) (fun v _ as' G' H' => ∀ u, Rel T as' G' v u → Q u H') Z → r u w H Q) : PE X (.Compare a [op] [b] pos) (tE T P cl E (.cmp op ia ib)) :=
 PE.mono (pe_cmpR ho ha hb hm) fun σ H Q ⟨env, st, as, G, s, er, h⟩ => by
  unfold PI.E.run at h
  refine tE_bind s er h fun x st1 as1 G1 H1 u s1 er1 r1 p1 l1 h => ?_
  refine tE_bind s1 er1 h fun y st2 as2 G2 H2 w s2 er2 r2 p2 l2 h => ?_
  exact k s2 (res_rel s2 (r1.mono p2 l2)) (res_rel s2 r2) h
end
end PI
namespace PI
open PySem L2 L2.L3 L2.L4 PySem.SeqAt
def eAt (f : Val → Val → Option Bool) (xs ys : List Val) (j : Nat) : Bool := (f (xs.getD j .non) (ys.getD j .non)).getD false
theorem all_succ (n : Nat) (e : Nat → Bool) : (List.range (n + 1)).all e = (e 0 && (List.range n).all fun j => e (j + 1)) := by
 rw [List.range_succ_eq_map, List.all_cons, List.all_map]
 rfl
theorem eqvs_all (f : Val → Val → Option Bool) : ∀ (xs ys : List Val) (b : Bool), eqvs f xs ys = some b →
  b = ((List.range (min xs.length ys.length)).all (eAt f xs ys) && xs.length == ys.length) ∧ ∀ (j : Nat) x y, xs[j]? = some x → ys[j]? = some y → f x y = some (eAt f xs ys j)
 | [], [], b, h => by
  cases h
  exact ⟨rfl, fun j x y e => by simp at e⟩
 | [], y :: ys, b, h => by
  cases h
  exact ⟨by simp, fun j x y e => by simp at e⟩
 | x :: xs, [], b, h => by
  cases h
  exact ⟨by simp, fun j x y e e' => by simp at e'⟩
 | x :: xs, y :: ys, b, h => by
  unfold eqvs at h
  cases e1 : f x y with
  | none => rw [e1] at h; cases h
  | some c =>
   cases e2 : eqvs f xs ys with
   | none => rw [e1, e2] at h; cases h
   | some c' =>
    rw [e1, e2] at h
    cases h
    obtain ⟨i1, i2⟩ := eqvs_all f xs ys c' e2
    have z : ∀ j, eAt f (x :: xs) (y :: ys) (j + 1) = eAt f xs ys j := fun j => rfl
    have z0 : eAt f (x :: xs) (y :: ys) 0 = c := by
     show (f x y).getD false = c
     rw [e1]
     rfl
    refine ⟨?_, fun j x' y' ex ey => ?_⟩
    ·rw [show min (x :: xs).length (y :: ys).length = min xs.length ys.length + 1 by simp [Nat.succ_min_succ], all_succ, z0, i1]
     simp only [z, List.length_cons, Bool.and_assoc]
     congr 2
     rw [Bool.eq_iff_iff]
     simp
    ·cases j with
     | zero =>
      simp at ex ey
      subst ex ey
      rw [z0]
      exact e1
     | succ j =>
      rw [z]
      exact i2 j x' y' (by simpa using ex) (by simpa using ey)
theorem Rels.get {T : CT} {as : List Addr} {G : Hp} : ∀ {vs : List Val} {us : List L2.V} {j : Nat} {v : Val}, Rels T as G vs us → vs[j]? = some v → ∃ u, us[j]? = some u ∧ Rel T as G v u
 | [], _, _, _, _, e => by simp at e
 | _ :: _, _, 0, _, ⟨u, t, e1, h, r⟩, e => by
  simp at e
  subst e e1
  exact ⟨u, rfl, h⟩
 | _ :: _, _, j + 1, _, ⟨u, t, e1, h, r⟩, e => by
  subst e1
  simpa using Rels.get r (by simpa using e)
theorem Rels.length {T : CT} {as : List Addr} {G : Hp} : ∀ {vs : List Val} {us : List L2.V}, Rels T as G vs us → vs.length = us.length
 | [], _, h => by
  cases h
  rfl
 | _ :: _, _, ⟨u, t, e1, h, r⟩ => by
  subst e1
  rw [List.length_cons, List.length_cons, Rels.length r]
section
variable {T : CT} {X : Cx} {pins : List (Addr × Obj)} {σ : St} {as : List Addr} {G H : Hp} {s : Shared}
def KindAt (s : Shared) : Nat → Value → Prop
 | 0, x => x = .none
 | 1, x => ∃ i t, x = .int i t
 | 2, x => ∃ i t, x = .str i t
 | 3, x => ∃ a its, x = .ref a ∧ s.heap.IsTuple a its
 | 4, x => ∃ a its, x = .ref a ∧ s.heap.IsList a its
 | _, _ => True
theorem kind_at (I : Inv X pins σ H s) (hK : T.K = X.K) (l : Le G H) {v : Val} {u : L2.V} {x : Value} (r : Rel T as G v u) (q : RelV u x) : KindAt s v.kd x := by
 cases v with
 | non => cases r; exact q
 | int i => cases r; exact ⟨i, q⟩
 | str i => cases r; exact ⟨i, q⟩
 | tup fl xs =>
  obtain ⟨a, us, rfl, h, _⟩ := r
  obtain ⟨its, _, h2, _⟩ := seq_vals (b := false) I (sqt_le l h)
  exact ⟨a, _, q, h2⟩
 | lst xs =>
  obtain ⟨a, us, rfl, h, _⟩ := r
  obtain ⟨its, _, h2, _⟩ := seq_vals (b := true) I (hK ▸ sql_le l h)
  exact ⟨a, _, q, h2⟩
 | _ => trivial
theorem eqv_mis {d : Nat} {v w : Val} (h : v.kd ≠ w.kd) : eqv d v w = apart v.kd w.kd := by
 cases v <;> cases w <;> first | (exact absurd rfl h) | (cases d <;> rfl)
theorem apart_at {i j : Nat} {x y : Value} {b : Bool} {A : Around} (hA : A.units < cLine) (ne : i ≠ j) (e : apart i j = some b) (hx : KindAt s i x) (hy : KindAt s j y) : EqAt A s x y b := by
 have flat : ∀ {p q : L2.V}, RelV p x → RelV q y → flatV p = true → flatV q = true → eqV p q = false → EqAt A s x y false := fun h1 h2 f1 f2 z => z ▸ eqAt_V h1 h2 f1 f2
 unfold apart at e
 split at e
 ·rename_i c
  cases e
  match i, j, ne, c, hx, hy with
  | 0, 1, _, _, h1, ⟨k, h2⟩ => exact flat (p := .non) (q := .int k) h1 h2 rfl rfl rfl
  | 0, 2, _, _, h1, ⟨k, h2⟩ => exact flat (p := .non) (q := .str k) h1 h2 rfl rfl rfl
  | 0, 3, _, _, h1, ⟨a, its, h2, h3⟩ => cases h1; cases h2; exact EqAt.none_tuple h3 hA
  | 1, 0, _, _, ⟨k, h1⟩, h2 => exact flat (p := .int k) (q := .non) h1 h2 rfl rfl rfl
  | 1, 2, _, _, ⟨k, h1⟩, ⟨m, h2⟩ => exact flat (p := .int k) (q := .str m) h1 h2 rfl rfl rfl
  | 1, 3, _, _, ⟨k, t, h1⟩, ⟨a, its, h2, h3⟩ => cases h1; cases h2; exact EqAt.int_tuple _ _ h3 hA
  | 2, 0, _, _, ⟨k, h1⟩, h2 => exact flat (p := .str k) (q := .non) h1 h2 rfl rfl rfl
  | 2, 1, _, _, ⟨k, h1⟩, ⟨m, h2⟩ => exact flat (p := .str k) (q := .int m) h1 h2 rfl rfl rfl
  | 2, 3, _, _, ⟨k, t, h1⟩, ⟨a, its, h2, h3⟩ => cases h1; cases h2; exact EqAt.str_tuple _ _ h3 hA
  | 3, 0, _, _, ⟨a, its, h2, h3⟩, h1 => cases h1; cases h2; exact EqAt.tuple_none h3 hA
  | 3, 1, _, _, ⟨a, its, h2, h3⟩, ⟨k, t, h1⟩ => cases h1; cases h2; exact EqAt.tuple_int _ _ h3 hA
  | 3, 2, _, _, ⟨a, its, h2, h3⟩, ⟨k, t, h1⟩ => cases h1; cases h2; exact EqAt.tuple_str _ _ h3 hA
  | 3, 4, _, _, ⟨a, its, h2, h3⟩, ⟨a2, its2, h4, h5⟩ => cases h2; cases h4; exact EqAt.tuple_list h3 h5 hA
  | 4, 3, _, _, ⟨a, its, h2, h3⟩, ⟨a2, its2, h4, h5⟩ => cases h2; cases h4; exact EqAt.list_tuple h3 h5 hA
  | 0, 0, n, _, _, _ => exact absurd rfl n
  | 1, 1, n, _, _, _ => exact absurd rfl n
  | 2, 2, n, _, _, _ => exact absurd rfl n
  | 3, 3, n, _, _, _ => exact absurd rfl n
  | 4, 0, _, c, _, _ => omega
  | 4, 1, _, c, _, _ => omega
  | 4, 2, _, c, _, _ => omega
  | i + 5, j, _, c, _, _ => omega
  | 0, j + 4, _, c, _, _ => omega
  | 1, j + 4, _, c, _, _ => omega
  | 2, j + 4, _, c, _, _ => omega
  | 3, j + 5, _, c, _, _ => omega
  | 4, j + 4, _, c, _, _ => omega
 ·cases e
theorem kind_one {i j : Nat} {x : Value} {b : Bool} (ne : i ≠ j) (e : apart i j = some b) (hx : KindAt s i x) (hy : KindAt s j x) : False := by
 unfold apart at e
 split at e
 ·rename_i c
  match i, j, ne, c, hx, hy with
  | 0, 1, _, _, h1, ⟨k, t, h2⟩ => rw [h1] at h2; cases h2
  | 0, 2, _, _, h1, ⟨k, t, h2⟩ => rw [h1] at h2; cases h2
  | 0, 3, _, _, h1, ⟨a, its, h2, h3⟩ => rw [h1] at h2; cases h2
  | 1, 0, _, _, ⟨k, t, h1⟩, h2 => rw [h1] at h2; cases h2
  | 1, 2, _, _, ⟨k, t, h1⟩, ⟨m, t', h2⟩ => rw [h1] at h2; cases h2
  | 1, 3, _, _, ⟨k, t, h1⟩, ⟨a, its, h2, h3⟩ => rw [h1] at h2; cases h2
  | 2, 0, _, _, ⟨k, t, h1⟩, h2 => rw [h1] at h2; cases h2
  | 2, 1, _, _, ⟨k, t, h1⟩, ⟨m, t', h2⟩ => rw [h1] at h2; cases h2
  | 2, 3, _, _, ⟨k, t, h1⟩, ⟨a, its, h2, h3⟩ => rw [h1] at h2; cases h2
  | 3, 0, _, _, ⟨a, its, h2, h3⟩, h1 => rw [h1] at h2; cases h2
  | 3, 1, _, _, ⟨a, its, h2, h3⟩, ⟨k, t, h1⟩ => rw [h1] at h2; cases h2
  | 3, 2, _, _, ⟨a, its, h2, h3⟩, ⟨k, t, h1⟩ => rw [h1] at h2; cases h2
  | 3, 4, _, _, ⟨a, its, h2, h3⟩, ⟨a2, its2, h4, h5⟩ => rw [h2] at h4; cases h4; exact ne_of_list_tuple h5 h3 rfl
  | 4, 3, _, _, ⟨a, its, h2, h3⟩, ⟨a2, its2, h4, h5⟩ => rw [h2] at h4; cases h4; exact ne_of_list_tuple h3 h5 rfl
  | 0, 0, n, _, _, _ => exact absurd rfl n
  | 1, 1, n, _, _, _ => exact absurd rfl n
  | 2, 2, n, _, _, _ => exact absurd rfl n
  | 3, 3, n, _, _, _ => exact absurd rfl n
  | 4, 0, _, c, _, _ => omega
  | 4, 1, _, c, _, _ => omega
  | 4, 2, _, c, _, _ => omega
  | i + 5, j, _, c, _, _ => omega
  | 0, j + 4, _, c, _, _ => omega
  | 1, j + 4, _, c, _, _ => omega
  | 2, j + 4, _, c, _, _ => omega
  | 3, j + 5, _, c, _, _ => omega
  | 4, j + 4, _, c, _, _ => omega
 ·cases e
theorem some_rel (u : L2.V) : ∃ x, RelV u x := by
 cases u with
 | non => exact ⟨_, rfl⟩
 | bl b => exact ⟨_, rfl⟩
 | int i => exact ⟨.int i 0, 0, rfl⟩
 | str i => exact ⟨.str i 0, 0, rfl⟩
 | byt b => exact ⟨.bytes b 0, 0, rfl⟩
 | flt b => exact ⟨.float b 0, 0, rfl⟩
 | ref a => exact ⟨_, rfl⟩
 | ty n => exact ⟨_, rfl⟩
theorem eqv_same (I : Inv X pins σ H s) (hK : T.K = X.K) (l : Le G H) : ∀ (d : Nat) (v w : Val) (u : L2.V) (b : Bool), v.kd = w.kd → eqv d v w = some b → Rel T as G v u → Rel T as G w u → b = true := by
 intro d
 induction d with
 | zero =>
  intro v w u b k e r1 r2
  cases v <;> cases w <;> first | (cases k; done) | skip
  ·cases e; rfl
  ·cases e; cases r1; cases r2; simp
  ·cases e; cases r1; cases r2; simp
  ·cases e; cases r1; cases r2; simp
  ·cases e
  ·cases e
  ·cases e
  ·cases e
  ·cases e
 | succ d ih =>
  intro v w u b k e r1 r2
  have lists : ∀ (xs ys : List Val) (us : List L2.V) (b : Bool), eqvs (eqv d) xs ys = some b → Rels T as G xs us → Rels T as G ys us → b = true := fun xs ys us b e r1 r2 => by
   obtain ⟨i1, i2⟩ := eqvs_all (eqv d) xs ys b e
   have ln : xs.length = ys.length := r1.length.trans r2.length.symm
   rw [i1, ln, beq_self_eq_true, Bool.and_true, Nat.min_self, List.all_eq_true]
   intro j hj
   have hj' : j < ys.length := by simpa using hj
   have e1 : xs[j]? = some (xs[j]'(by omega)) := List.getElem?_eq_getElem (by omega)
   have e2 : ys[j]? = some ys[j] := List.getElem?_eq_getElem hj'
   obtain ⟨u1, q1, s1⟩ := r1.get e1
   obtain ⟨u2, q2, s2⟩ := r2.get e2
   rw [q1] at q2
   cases q2
   have z := i2 j _ _ e1 e2
   by_cases kk : (xs[j]'(by omega)).kd = ys[j].kd
   ·exact ih _ _ _ _ kk z s1 s2
   ·exfalso
    rw [eqv_mis kk] at z
    obtain ⟨x, hx⟩ := some_rel u1
    exact kind_one kk z (kind_at I hK l s1 hx) (kind_at I hK l s2 hx)
  cases v <;> cases w <;> first | (cases k; done) | skip
  ·cases e; rfl
  ·cases e; cases r1; cases r2; simp
  ·cases e; cases r1; cases r2; simp
  ·cases e; cases r1; cases r2; simp
  ·obtain ⟨a, us, rfl, h1, h2⟩ := r1
   obtain ⟨a', us', e', h3, h4⟩ := r2
   cases e'
   have z : us = us' := I.tuple_inj (sqt_le l h1) (sqt_le l h3)
   subst z
   exact lists _ _ us _ e h2 h4
  ·obtain ⟨a, us, rfl, h1, h2⟩ := r1
   obtain ⟨a', us', e', h3, h4⟩ := r2
   cases e'
   have z : us = us' := I.list_inj (hK ▸ sql_le l h1) (hK ▸ sql_le l h3)
   subst z
   exact lists _ _ us _ e h2 h4
  ·cases e
  ·cases e
  ·cases e
theorem eq_tree (I : Inv X pins σ H s) (hK : T.K = X.K) (l : Le G H) : ∀ (d : Nat) (v w : Val) (u u' : L2.V) (x y : Value) (b : Bool) (A : Around), A.units + d < cLine → eqv d v w = some b → Rel T as G v u → Rel T as G w u' → RelV u x → RelV u' y → EqAt A s x y b := by
 intro d
 induction d with
 | zero =>
  intro v w u u' x y b A hA e r1 r2 q1 q2
  by_cases k : v.kd = w.kd
  ·cases v <;> cases w <;> first | (cases k; done) | skip
   ·cases e; cases r1; cases r2; cases q1; cases q2; exact EqAt.same _
   ·cases e; cases r1; cases r2; exact eqAt_V q1 q2 rfl rfl
   ·cases e; cases r1; cases r2; exact eqAt_V q1 q2 rfl rfl
   ·rename_i a c
    have z : b = eqV (.str a) (.str c) := by cases e; show decide _ = (_ == _); rw [Bool.eq_iff_iff]; simp
    rw [z]
    cases r1; cases r2; exact eqAt_V q1 q2 rfl rfl
   ·cases e
   ·cases e
   ·cases e
   ·cases e
   ·cases e
  ·rw [eqv_mis k] at e
   exact apart_at (by omega) k e (kind_at I hK l r1 q1) (kind_at I hK l r2 q2)
 | succ d ih =>
  intro v w u u' x y b A hA e r1 r2 q1 q2
  by_cases k : v.kd = w.kd
  ·have items : ∀ (xs ys : List Val) (us us' : List L2.V) (its its' : List Value), eqvs (eqv d) xs ys = some b → Rels T as G xs us → Rels T as G ys us' → Vals us its → Vals us' its' →
     ∀ j (h1 : j < its.toArray.size) (h2 : j < its'.toArray.size), EqAt A.in1 s its.toArray[j] its'.toArray[j] (eAt (eqv d) xs ys j) := fun xs ys us us' its its' e r1 r2 v1 v2 j h1 h2 => by
    have l1 : xs.length = its.length := r1.length.trans v1.length
    have l2 : ys.length = its'.length := r2.length.trans v2.length
    have h1' : j < its.length := by simpa using h1
    have h2' : j < its'.length := by simpa using h2
    have e1 : xs[j]? = some (xs[j]'(by omega)) := List.getElem?_eq_getElem (by omega)
    have e2 : ys[j]? = some (ys[j]'(by omega)) := List.getElem?_eq_getElem (by omega)
    obtain ⟨u1, a1, s1⟩ := r1.get e1
    obtain ⟨u2, a2, s2⟩ := r2.get e2
    obtain ⟨x1, b1, t1⟩ := Vals.get v1 a1
    obtain ⟨x2, b2, t2⟩ := Vals.get v2 a2
    have z1 : its.toArray[j] = x1 := by
     have := List.getElem?_eq_getElem h1'
     rw [b1] at this
     simpa using (Option.some.inj this).symm
    have z2 : its'.toArray[j] = x2 := by
     have := List.getElem?_eq_getElem h2'
     rw [b2] at this
     simpa using (Option.some.inj this).symm
    rw [z1, z2]
    exact ih _ _ _ _ _ _ _ A.in1 (by show A.units + 1 + d < cLine; omega) ((eqvs_all (eqv d) xs ys b e).2 j _ _ e1 e2) s1 s2 t1 t2
   cases v <;> cases w <;> first | (cases k; done) | skip
   ·cases e; cases r1; cases r2; cases q1; cases q2; exact EqAt.same _
   ·cases e; cases r1; cases r2; exact eqAt_V q1 q2 rfl rfl
   ·cases e; cases r1; cases r2; exact eqAt_V q1 q2 rfl rfl
   ·rename_i a c
    have z : b = eqV (.str a) (.str c) := by cases e; show decide _ = (_ == _); rw [Bool.eq_iff_iff]; simp
    rw [z]
    cases r1; cases r2; exact eqAt_V q1 q2 rfl rfl
   ·have w1 := r1
    have w2 := r2
    obtain ⟨a, us, rfl, h1, h2⟩ := r1
    obtain ⟨a', us', rfl, h3, h4⟩ := r2
    cases q1
    cases q2
    by_cases ha : a = a'
    ·subst ha
     rw [eqv_same I hK l (d + 1) _ _ _ b k e w1 w2]
     exact EqAt.same _
    ·obtain ⟨its, v1, t1, _⟩ := seq_vals (b := false) I (sqt_le l h1)
     obtain ⟨its', v2, t2, _⟩ := seq_vals (b := false) I (sqt_le l h3)
     have z := (eqvs_all (eqv d) _ _ b e).1
     have l1 := h2.length.trans v1.length
     have l2 := h4.length.trans v2.length
     have R := RcAt.tuples (A := A) t1 t2 (by omega) (items _ _ us us' its its' e h2 h4 v1 v2)
     rw [z, l1, l2]
     refine EqAt.of_refs ha ?_
     simpa using R
   ·have w1 := r1
    have w2 := r2
    obtain ⟨a, us, rfl, h1, h2⟩ := r1
    obtain ⟨a', us', rfl, h3, h4⟩ := r2
    cases q1
    cases q2
    by_cases ha : a = a'
    ·subst ha
     rw [eqv_same I hK l (d + 1) _ _ _ b k e w1 w2]
     exact EqAt.same _
    ·obtain ⟨its, v1, t1, _⟩ := seq_vals (b := true) I (hK ▸ sql_le l h1)
     obtain ⟨its', v2, t2, _⟩ := seq_vals (b := true) I (hK ▸ sql_le l h3)
     have z := (eqvs_all (eqv d) _ _ b e).1
     have l1 := h2.length.trans v1.length
     have l2 := h4.length.trans v2.length
     refine EqAt.of_refs ha ?_
     by_cases hs : its.length = its'.length
     ·have R := RcAt.lists (A := A) t1 t2 (by simpa using hs) (by omega) (items _ _ us us' its its' e h2 h4 v1 v2)
      rw [z, l1, l2, hs, beq_self_eq_true, Bool.and_true, Nat.min_self]
      rw [show its.toArray.size = its'.length by simpa using hs] at R
      exact R
     ·have R := RcAt.lists_lengths (A := A) t1 t2 (by simpa using hs) (by omega)
      rw [z, l1, l2, show (its.length == its'.length) = false by simpa using hs, Bool.and_false]
      exact R
   ·cases e
   ·cases e
   ·cases e
  ·rw [eqv_mis k] at e
   exact apart_at (by omega) k e (kind_at I hK l r1 q1) (kind_at I hK l r2 q2)
end
end PI
namespace PI
open PySem L2 L2.L3 L2.L4 PySem.SeqAt
section
variable {T : CT} {X : Cx} {pins : List (Addr × Obj)} {σ : St} {as : List Addr} {G H : Hp} {s : Shared}
theorem items_eq (I : Inv X pins σ H s) (hK : T.K = X.K) (l : Le G H) {d : Nat} {b : Bool} {A : Around} (hA : A.units + d < cLine) {xs ys : List Val} {us us' : List L2.V} {its its' : List Value} (e : eqvs (eqv d) xs ys = some b) (r1 : Rels T as G xs us) (r2 : Rels T as G ys us') (v1 : Vals us its) (v2 : Vals us' its') :
  ∀ j (h1 : j < its.toArray.size) (h2 : j < its'.toArray.size), EqAt A s its.toArray[j] its'.toArray[j] (eAt (eqv d) xs ys j) := fun j h1 h2 => by
 have l1 : xs.length = its.length := r1.length.trans v1.length
 have l2 : ys.length = its'.length := r2.length.trans v2.length
 have h1' : j < its.length := by simpa using h1
 have h2' : j < its'.length := by simpa using h2
 have e1 : xs[j]? = some (xs[j]'(by omega)) := List.getElem?_eq_getElem (by omega)
 have e2 : ys[j]? = some (ys[j]'(by omega)) := List.getElem?_eq_getElem (by omega)
 obtain ⟨u1, a1, s1⟩ := r1.get e1
 obtain ⟨u2, a2, s2⟩ := r2.get e2
 obtain ⟨x1, b1, t1⟩ := Vals.get v1 a1
 obtain ⟨x2, b2, t2⟩ := Vals.get v2 a2
 have z1 : its.toArray[j] = x1 := by
  have := List.getElem?_eq_getElem h1'
  rw [b1] at this
  simpa using (Option.some.inj this).symm
 have z2 : its'.toArray[j] = x2 := by
  have := List.getElem?_eq_getElem h2'
  rw [b2] at this
  simpa using (Option.some.inj this).symm
 rw [z1, z2]
 exact eq_tree I hK l d _ _ _ _ _ _ _ A hA ((eqvs_all (eqv d) xs ys b e).2 j _ _ e1 e2) s1 s2 t1 t2
theorem apart_eq {i j : Nat} {x y : Value} {b : Bool} {A : Around} (hA : A.units < cLine) (ne : i ≠ j) (e : apart i j = some b) (hx : KindAt s i x) (hy : KindAt s j y) : RcAt A s x y (b) := by
 unfold apart at e
 split at e
 ·rename_i c
  cases e
  match i, j, ne, c, hx, hy with
  | 0, 1, _, _, h1, ⟨k, t, h2⟩ => cases h1; cases h2; exact RcAt.none_int _ _
  | 0, 2, _, _, h1, ⟨k, t, h2⟩ => cases h1; cases h2; exact RcAt.none_str _ _
  | 0, 3, _, _, h1, ⟨a, its, h2, h3⟩ => cases h1; cases h2; exact RcAt.none_tuple h3 hA
  | 1, 0, _, _, ⟨k, t, h1⟩, h2 => cases h1; cases h2; exact RcAt.int_none _ _
  | 1, 2, _, _, ⟨k, t, h1⟩, ⟨m, t', h2⟩ => cases h1; cases h2; exact RcAt.int_str _ _ _ _
  | 1, 3, _, _, ⟨k, t, h1⟩, ⟨a, its, h2, h3⟩ => cases h1; cases h2; exact RcAt.int_tuple _ _ h3 hA
  | 2, 0, _, _, ⟨k, t, h1⟩, h2 => cases h1; cases h2; exact RcAt.str_none _ _
  | 2, 1, _, _, ⟨k, t, h1⟩, ⟨m, t', h2⟩ => cases h1; cases h2; exact RcAt.str_int _ _ _ _
  | 2, 3, _, _, ⟨k, t, h1⟩, ⟨a, its, h2, h3⟩ => cases h1; cases h2; exact RcAt.str_tuple _ _ h3 hA
  | 3, 0, _, _, ⟨a, its, h2, h3⟩, h1 => cases h1; cases h2; exact RcAt.tuple_none h3 hA
  | 3, 1, _, _, ⟨a, its, h2, h3⟩, ⟨k, t, h1⟩ => cases h1; cases h2; exact RcAt.tuple_int _ _ h3 hA
  | 3, 2, _, _, ⟨a, its, h2, h3⟩, ⟨k, t, h1⟩ => cases h1; cases h2; exact RcAt.tuple_str _ _ h3 hA
  | 3, 4, _, _, ⟨a, its, h2, h3⟩, ⟨a2, its2, h4, h5⟩ => cases h2; cases h4; exact RcAt.tuple_list h3 h5 hA
  | 4, 3, _, _, ⟨a, its, h2, h3⟩, ⟨a2, its2, h4, h5⟩ => cases h2; cases h4; exact RcAt.list_tuple h3 h5 hA
  | 0, 0, n, _, _, _ => exact absurd rfl n
  | 1, 1, n, _, _, _ => exact absurd rfl n
  | 2, 2, n, _, _, _ => exact absurd rfl n
  | 3, 3, n, _, _, _ => exact absurd rfl n
  | 4, 0, _, c, _, _ => omega
  | 4, 1, _, c, _, _ => omega
  | 4, 2, _, c, _, _ => omega
  | i + 5, j, _, c, _, _ => omega
  | 0, j + 4, _, c, _, _ => omega
  | 1, j + 4, _, c, _, _ => omega
  | 2, j + 4, _, c, _, _ => omega
  | 3, j + 5, _, c, _, _ => omega
  | 4, j + 4, _, c, _, _ => omega
 ·cases e
theorem tree_eq (I : Inv X pins σ H s) (hK : T.K = X.K) (l : Le G H) {d : Nat} {v w : Val} {u u' : L2.V} {x y : Value} {b : Bool} {A : Around} (hA : A.units + (d + 1) < cLine) (e : eqv (d + 1) v w = some b) (r1 : Rel T as G v u) (r2 : Rel T as G w u') (q1 : RelV u x) (q2 : RelV u' y) : RcAt A s x y (b) := by
 by_cases k : v.kd = w.kd
 ·have items : ∀ (xs ys : List Val) (us us' : List L2.V) (its its' : List Value), eqvs (eqv d) xs ys = some b → Rels T as G xs us → Rels T as G ys us' → Vals us its → Vals us' its' →
    ∀ j (h1 : j < its.toArray.size) (h2 : j < its'.toArray.size), EqAt A.in1 s its.toArray[j] its'.toArray[j] (eAt (eqv d) xs ys j) := fun xs ys us us' its its' e r1 r2 v1 v2 => items_eq I hK l (by show A.units + 1 + d < cLine; omega) e r1 r2 v1 v2
  cases v <;> cases w <;> first | (cases k; done) | skip
  ·cases e; cases r1; cases r2; cases q1; cases q2; exact RcAt.none_none
  ·cases e; cases r1; cases r2; cases q1; cases q2; exact RcAt.bool_bool _ _
  ·cases e; cases r1; cases r2; obtain ⟨t, rfl⟩ := q1; obtain ⟨t', rfl⟩ := q2; exact RcAt.int_int _ _ _ _
  ·rename_i a c
   have z : b = (a == c) := by cases e; rw [Bool.eq_iff_iff]; simp
   rw [z]
   cases r1; cases r2; obtain ⟨t, rfl⟩ := q1; obtain ⟨t', rfl⟩ := q2; exact RcAt.str_str _ _ _ _
  ·obtain ⟨a, us, rfl, h1, h2⟩ := r1
   obtain ⟨a', us', rfl, h3, h4⟩ := r2
   cases q1
   cases q2
   obtain ⟨its, v1, t1, _⟩ := seq_vals (b := false) I (sqt_le l h1)
   obtain ⟨its', v2, t2, _⟩ := seq_vals (b := false) I (sqt_le l h3)
   have z := (eqvs_all (eqv d) _ _ b e).1
   have l1 := h2.length.trans v1.length
   have l2 := h4.length.trans v2.length
   have R := RcAt.tuples (A := A) t1 t2 (by omega) (items _ _ us us' its its' e h2 h4 v1 v2)
   rw [z, l1, l2]
   simpa using R
  ·obtain ⟨a, us, rfl, h1, h2⟩ := r1
   obtain ⟨a', us', rfl, h3, h4⟩ := r2
   cases q1
   cases q2
   obtain ⟨its, v1, t1, _⟩ := seq_vals (b := true) I (hK ▸ sql_le l h1)
   obtain ⟨its', v2, t2, _⟩ := seq_vals (b := true) I (hK ▸ sql_le l h3)
   have z := (eqvs_all (eqv d) _ _ b e).1
   have l1 := h2.length.trans v1.length
   have l2 := h4.length.trans v2.length
   by_cases hs : its.length = its'.length
   ·have R := RcAt.lists (A := A) t1 t2 (by simpa using hs) (by omega) (items _ _ us us' its its' e h2 h4 v1 v2)
    rw [z, l1, l2, hs, beq_self_eq_true, Bool.and_true, Nat.min_self]
    rw [show its.toArray.size = its'.length by simpa using hs] at R
    exact R
   ·have R := RcAt.lists_lengths (A := A) t1 t2 (by simpa using hs) (by omega)
    rw [z, l1, l2, show (its.length == its'.length) = false by simpa using hs, Bool.and_false]
    exact R
  ·cases e
  ·cases e
  ·cases e
 ·rw [eqv_mis k] at e
  exact apart_eq (by omega) k e (kind_at I hK l r1 q1) (kind_at I hK l r2 q2)
theorem apart_ne {i j : Nat} {x y : Value} {b : Bool} {A : Around} (hA : A.units < cLine) (ne : i ≠ j) (e : apart i j = some b) (hx : KindAt s i x) (hy : KindAt s j y) : RcNeAt A s x y (!b) := by
 unfold apart at e
 split at e
 ·rename_i c
  cases e
  match i, j, ne, c, hx, hy with
  | 0, 1, _, _, h1, ⟨k, t, h2⟩ => cases h1; cases h2; exact RcNeAt.none_int _ _
  | 0, 2, _, _, h1, ⟨k, t, h2⟩ => cases h1; cases h2; exact RcNeAt.none_str _ _
  | 0, 3, _, _, h1, ⟨a, its, h2, h3⟩ => cases h1; cases h2; exact RcNeAt.none_tuple h3 hA
  | 1, 0, _, _, ⟨k, t, h1⟩, h2 => cases h1; cases h2; exact RcNeAt.int_none _ _
  | 1, 2, _, _, ⟨k, t, h1⟩, ⟨m, t', h2⟩ => cases h1; cases h2; exact RcNeAt.int_str _ _ _ _
  | 1, 3, _, _, ⟨k, t, h1⟩, ⟨a, its, h2, h3⟩ => cases h1; cases h2; exact RcNeAt.int_tuple _ _ h3 hA
  | 2, 0, _, _, ⟨k, t, h1⟩, h2 => cases h1; cases h2; exact RcNeAt.str_none _ _
  | 2, 1, _, _, ⟨k, t, h1⟩, ⟨m, t', h2⟩ => cases h1; cases h2; exact RcNeAt.str_int _ _ _ _
  | 2, 3, _, _, ⟨k, t, h1⟩, ⟨a, its, h2, h3⟩ => cases h1; cases h2; exact RcNeAt.str_tuple _ _ h3 hA
  | 3, 0, _, _, ⟨a, its, h2, h3⟩, h1 => cases h1; cases h2; exact RcNeAt.tuple_none h3 hA
  | 3, 1, _, _, ⟨a, its, h2, h3⟩, ⟨k, t, h1⟩ => cases h1; cases h2; exact RcNeAt.tuple_int _ _ h3 hA
  | 3, 2, _, _, ⟨a, its, h2, h3⟩, ⟨k, t, h1⟩ => cases h1; cases h2; exact RcNeAt.tuple_str _ _ h3 hA
  | 3, 4, _, _, ⟨a, its, h2, h3⟩, ⟨a2, its2, h4, h5⟩ => cases h2; cases h4; exact RcNeAt.tuple_list h3 h5 hA
  | 4, 3, _, _, ⟨a, its, h2, h3⟩, ⟨a2, its2, h4, h5⟩ => cases h2; cases h4; exact RcNeAt.list_tuple h3 h5 hA
  | 0, 0, n, _, _, _ => exact absurd rfl n
  | 1, 1, n, _, _, _ => exact absurd rfl n
  | 2, 2, n, _, _, _ => exact absurd rfl n
  | 3, 3, n, _, _, _ => exact absurd rfl n
  | 4, 0, _, c, _, _ => omega
  | 4, 1, _, c, _, _ => omega
  | 4, 2, _, c, _, _ => omega
  | i + 5, j, _, c, _, _ => omega
  | 0, j + 4, _, c, _, _ => omega
  | 1, j + 4, _, c, _, _ => omega
  | 2, j + 4, _, c, _, _ => omega
  | 3, j + 5, _, c, _, _ => omega
  | 4, j + 4, _, c, _, _ => omega
 ·cases e
theorem tree_ne (I : Inv X pins σ H s) (hK : T.K = X.K) (l : Le G H) {d : Nat} {v w : Val} {u u' : L2.V} {x y : Value} {b : Bool} {A : Around} (hA : A.units + (d + 1) < cLine) (e : eqv (d + 1) v w = some b) (r1 : Rel T as G v u) (r2 : Rel T as G w u') (q1 : RelV u x) (q2 : RelV u' y) : RcNeAt A s x y (!b) := by
 by_cases k : v.kd = w.kd
 ·have items : ∀ (xs ys : List Val) (us us' : List L2.V) (its its' : List Value), eqvs (eqv d) xs ys = some b → Rels T as G xs us → Rels T as G ys us' → Vals us its → Vals us' its' →
    ∀ j (h1 : j < its.toArray.size) (h2 : j < its'.toArray.size), EqAt A.in1 s its.toArray[j] its'.toArray[j] (eAt (eqv d) xs ys j) := fun xs ys us us' its its' e r1 r2 v1 v2 => items_eq I hK l (by show A.units + 1 + d < cLine; omega) e r1 r2 v1 v2
  cases v <;> cases w <;> first | (cases k; done) | skip
  ·cases e; cases r1; cases r2; cases q1; cases q2; exact RcNeAt.none_none
  ·cases e; cases r1; cases r2; cases q1; cases q2; exact RcNeAt.bool_bool _ _
  ·cases e; cases r1; cases r2; obtain ⟨t, rfl⟩ := q1; obtain ⟨t', rfl⟩ := q2; exact RcNeAt.int_int _ _ _ _
  ·rename_i a c
   have z : b = (a == c) := by cases e; rw [Bool.eq_iff_iff]; simp
   rw [z]
   cases r1; cases r2; obtain ⟨t, rfl⟩ := q1; obtain ⟨t', rfl⟩ := q2; exact RcNeAt.str_str _ _ _ _
  ·obtain ⟨a, us, rfl, h1, h2⟩ := r1
   obtain ⟨a', us', rfl, h3, h4⟩ := r2
   cases q1
   cases q2
   obtain ⟨its, v1, t1, _⟩ := seq_vals (b := false) I (sqt_le l h1)
   obtain ⟨its', v2, t2, _⟩ := seq_vals (b := false) I (sqt_le l h3)
   have z := (eqvs_all (eqv d) _ _ b e).1
   have l1 := h2.length.trans v1.length
   have l2 := h4.length.trans v2.length
   have R := RcNeAt.tuples (A := A) t1 t2 (by omega) (items _ _ us us' its its' e h2 h4 v1 v2)
   rw [z, l1, l2]
   simpa using R
  ·obtain ⟨a, us, rfl, h1, h2⟩ := r1
   obtain ⟨a', us', rfl, h3, h4⟩ := r2
   cases q1
   cases q2
   obtain ⟨its, v1, t1, _⟩ := seq_vals (b := true) I (hK ▸ sql_le l h1)
   obtain ⟨its', v2, t2, _⟩ := seq_vals (b := true) I (hK ▸ sql_le l h3)
   have z := (eqvs_all (eqv d) _ _ b e).1
   have l1 := h2.length.trans v1.length
   have l2 := h4.length.trans v2.length
   by_cases hs : its.length = its'.length
   ·have R := RcNeAt.lists (A := A) t1 t2 (by simpa using hs) (by omega) (items _ _ us us' its its' e h2 h4 v1 v2)
    rw [z, l1, l2, hs, beq_self_eq_true, Bool.and_true, Nat.min_self]
    rw [show its.toArray.size = its'.length by simpa using hs] at R
    exact R
   ·have R := RcNeAt.lists_lengths (A := A) t1 t2 (by simpa using hs) (by omega)
    rw [z, l1, l2, show (its.length == its'.length) = false by simpa using hs, Bool.and_false]
    exact R
  ·cases e
  ·cases e
  ·cases e
 ·rw [eqv_mis k] at e
  exact apart_ne (by omega) k e (kind_at I hK l r1 q1) (kind_at I hK l r2 q2)
end
theorem RelT.rel {T : CT} {as : List Addr} {G H : Hp} (l : Le G H) : ∀ {v : Val} {u : L2.V}, RelT T as G H v u → Rel T as H v u
 | .non, _, h => h
 | .bl _, _, h => h
 | .int _, _, h => h
 | .str _, _, h => h
 | .tup _ _, _, ⟨a, us, e, q, r⟩ => ⟨a, us, e, tup_le l q, r.mono (List.prefix_refl _) l⟩
 | .lst _, _, ⟨a, us, e, q, r⟩ => ⟨a, us, e, q, r.mono (List.prefix_refl _) l⟩
 | .dct _ _, _, ⟨a, us, e, q, r⟩ => ⟨a, us, e, q, r.mono (List.prefix_refl _) l⟩
 | .obj _ _ _, _, ⟨a, us, e, n, r, q⟩ => ⟨a, us, e, n, r.mono (List.prefix_refl _) l, q⟩
 | .ref n, _, h => h.elim
def rTree (T : CT) (neg : Bool) : R2 := fun u w H Q => ∃ as v v' b, Rel T as H v u ∧ Rel T as H v' w ∧ eqv 8 v v' = some b ∧ Q (.bl (if neg = true then !b else b)) H
theorem op_eq_tree {T : CT} {X : Cx} (hK : T.K = X.K) (hu : X.A.units + 8 < cLine) : OpR X (compareOp .Eq) (rTree T false) := by
 intro pins s σ H x y u v Q I rx ry h
 obtain ⟨as, v1, v2, b, r1, r2, e, q⟩ := h
 exact tree_eq I hK (Le.refl _) (A := X.A) hu e r1 r2 rx ry _ _ _ _ ⟨.bl b, H, I, rfl, q⟩
theorem op_ne_tree {T : CT} {X : Cx} (hK : T.K = X.K) (hu : X.A.units + 8 < cLine) : OpR X (compareOp .NotEq) (rTree T true) := by
 intro pins s σ H x y u v Q I rx ry h
 obtain ⟨as, v1, v2, b, r1, r2, e, q⟩ := h
 exact tree_ne I hK (Le.refl _) (A := X.A) hu e r1 r2 rx ry _ _ _ _ ⟨.bl (!b), H, I, rfl, q⟩
end PI
namespace PI
open PySem L2 L2.L3 L2.L4 PySem.SeqAt PyProof.Rows
abbrev PV (T : CT) (Q : VK) : Val → Store → List Addr → Hp → Hp → Prop := fun v _ as' G' H' => ∀ u, Rel T as' G' v u → Q u H'
def rOp (T : CT) (f : Val → Val → Store → R Val) : R2 := fun u w H Q => ∃ st as G x y Z, Sim T st as G H ∧ RelT T as G H x u ∧ RelT T as G H y w ∧ Post T as G (f x y st) (PV T Q) Z
theorem OpR.imp {X : Cx} {f : Value → Value → Sem Value} {r r' : R2} (h : OpR X f r) (k : ∀ x y H Q, r' x y H Q → r x y H Q) : OpR X f r' := fun pins s σ H x y v u Q I rx ry q => h pins s σ H x y v u Q I rx ry (k x y H Q q)
section
variable {T : CT} {X : Cx}
theorem op_int {f : Value → Value → Sem Value} {C : Int → Int → Prop} {g : Int → Int → L2.V} {h : Int → Int → Store → R Val} (ho : OpR X f (rI C g))
  (k : ∀ {st as G H Z Q} {i j : Int}, Sim T st as G H → Post T as G (h i j st) (PV T Q) Z → C i j ∧ Q (g i j) H) : OpR X f (rOp T (int1 h)) :=
 OpR.imp ho fun u w H Q ⟨st, as, G, x, y, Z, s, r1, r2, p⟩ => by
  cases x with
  | int i => cases y with
   | int j =>
    cases r1
    cases r2
    obtain ⟨c, q⟩ := k s p
    exact ⟨i, j, rfl, rfl, c, q⟩
   | _ => exact p.elim
  | _ => exact p.elim
theorem rI0_I {g : Int → Int → L2.V} {x y : L2.V} {H : Hp} {Q : VK} (h : rI (fun _ _ => True) g x y H Q) : rI0 g x y H Q := by
 obtain ⟨i, j, a, b, _, c⟩ := h
 exact ⟨i, j, a, b, c⟩
theorem op_sub' : OpR X (binaryOp .Sub) (rOp T (int1 fun i j st => .ok (.int (i - j)) st)) := op_int (OpR.imp op_sub fun _ _ _ _ => rI0_I) fun s p => ⟨trivial, p.ok s _ rfl⟩
theorem op_mod' : OpR X (binaryOp .Mod) (rOp T (int1 modI)) := op_int op_modN fun s p => by
 obtain ⟨c, p⟩ := Post.iff p
 exact ⟨c, p.ok s _ rfl⟩
theorem op_intB {f : Value → Value → Sem Value} {g : Int → Int → Bool} (ho : OpR X f (rI0 fun i j => .bl (g i j))) : OpR X f (rOp T fun x y st => blR (int1 (fun i j st => .ok (g i j) st) x y st)) :=
 OpR.imp ho fun u w H Q ⟨st, as, G, x, y, Z, s, r1, r2, p⟩ => by
  cases x with
  | int i => cases y with
   | int j =>
    cases r1
    cases r2
    exact ⟨i, j, rfl, rfl, p.ok s _ rfl⟩
   | _ => exact p.elim
  | _ => exact p.elim
theorem op_lt' : OpR X (compareOp .Lt) (rOp T fun x y st => blR (cmpV .Lt x y st)) := op_intB op_lt
theorem op_le' : OpR X (compareOp .LtE) (rOp T fun x y st => blR (cmpV .LtE x y st)) := op_intB op_le
theorem op_gt' : OpR X (compareOp .Gt) (rOp T fun x y st => blR (cmpV .Gt x y st)) := op_intB op_gt
theorem op_ge' : OpR X (compareOp .GtE) (rOp T fun x y st => blR (cmpV .GtE x y st)) := op_intB op_ge
theorem bits_big {i : Int} (h : big i) : Builtin.Int.intBits i ≤ 1000 := by
 unfold Builtin.Int.intBits
 split
 ·exact Nat.zero_le _
 ·have : i.natAbs.log2 < 1000 := by
   rcases Nat.eq_zero_or_pos i.natAbs with h0 | hp
   ·rw [h0]; decide
   ·exact (Nat.log2_lt (Nat.ne_of_gt hp)).mpr h
  omega
theorem mul_ok {i j : Int} (h : mulOk i j) : IntMulOk i j := by
 rcases h with h | h | ⟨h1, h2⟩
 ·exact IntMulOk.of_left (intBits_le_64 (by omega) (by omega))
 ·exact IntMulOk.of_right (intBits_le_64 (by omega) (by omega))
 ·have b1 := bits_big h1
  have b2 := bits_big h2
  unfold IntMulOk
  have : Builtin.Int.intTooBig (Builtin.Int.intBits i + Builtin.Int.intBits j) = false := by
   unfold Builtin.Int.intTooBig
   have z : bitsLine = 2 ^ 27 := rfl
   simp only [decide_eq_false_iff_not, z]
   omega
  rw [this, Bool.and_false]
  decide
theorem op_mul' : OpR X (binaryOp .Mult) (rOp T (int1 mulI)) := op_int (opI (C := IntMulOk) (g := fun i j => i * j) fun _ _ _ _ _ _ _ hc q => mul_int q hc) fun s p => by
 obtain ⟨c, p⟩ := Post.iff p
 exact ⟨mul_ok c, p.ok s _ rfl⟩
theorem div_ok {i j : Int} (h : big j) : Builtin.divisionGoesByPylong i j = false := by
 unfold Builtin.divisionGoesByPylong
 have : (if (j == 0) = true then 0 else j.natAbs.log2 / 30 + 1) ≤ 300 := by
  split
  ·omega
  ·have : j.natAbs.log2 < 1000 := by
    rcases Nat.eq_zero_or_pos j.natAbs with h0 | hp
    ·rw [h0]; decide
    ·exact (Nat.log2_lt (Nat.ne_of_gt hp)).mpr h
   omega
 simp only [Bool.and_eq_false_iff, decide_eq_false_iff_not]
 left
 omega
theorem op_div' : OpR X (binaryOp .FloorDiv) (rOp T (int1 divI)) := op_int (opI (C := fun i j => j ≠ 0 ∧ big j) (g := fun i j => i.fdiv j) fun _ _ _ _ _ _ _ hc q => floordiv_int hc.1 q (.inl (div_ok hc.2))) fun s p => by
 obtain ⟨c, p⟩ := Post.iff p
 exact ⟨c, p.ok s _ rfl⟩
theorem op_pow' : OpR X (binaryOp .Pow) (rOp T (int1 powI)) := op_int op_pow fun s p => by
 obtain ⟨c, p⟩ := Post.iff p
 exact ⟨⟨c.1, by omega, c.2.2⟩, p.ok s _ rfl⟩
def rCatS (K : PySem.W.Frag) : R2 := fun x y H Q => ∃ l b xs zs, x = .ref l ∧ y = .ref b ∧ SqL K H l xs ∧ SqL K H b zs ∧ xs.length + zs.length ≤ sizeLine ∧ ∀ p, H p = none → Q (.ref p) (upd H p (.lst (xs ++ zs)))
theorem op_catS : OpR X (binaryOp .Add) (rCatS X.K) := by
 intro pins s σ H x y v u Q I rx ry h
 obtain ⟨l, b, xs, zs, rfl, rfl, hH, hB, hz, q⟩ := h
 cases rx
 cases ry
 obtain ⟨vs, r1, hl, _⟩ := seq_vals (b := true) I hH
 obtain ⟨ws, r2, hb, _⟩ := seq_vals (b := true) I hB
 obtain ⟨⟨cls, dd, data, sl⟩, ho, hc, n, hd⟩ := id hl
 obtain ⟨⟨cls2, dd2, data2, sl2⟩, ho2, hc2, n2, hd2⟩ := id hb
 simp only at hc hd hc2 hd2
 subst hc hd hc2 hd2
 have e : vs.toArray ++ ws.toArray = (vs ++ ws).toArray := by simp
 refine concat_meets ⟨_, ho, rfl⟩ ⟨_, ho2, rfl⟩ noFill_list_add seq_list_add PySem.F.slot_list_add PySem.F.entry_list_add (PySem.F.args_list_add_2 _ _) (list_addW l b vs.toArray ws.toArray n n2 dd dd2 sl sl2 (by simpa [r1.length, r2.length] using hz)) ⟨ho, ho2, ?_⟩
 rw [e]
 exact ⟨.ref _, _, I.lnew (t' := s.toks) (r1.append r2) (by rw [List.length_append]; omega), rfl, q _ I.fresh⟩
theorem Rels.append {as : List Addr} {G : Hp} : ∀ {xs ys : List Val} {us ws : List L2.V}, Rels T as G xs us → Rels T as G ys ws → Rels T as G (xs ++ ys) (us ++ ws)
 | [], _, _, _, h, r => by
  cases h
  exact r
 | _ :: _, _, _, _, ⟨u, t, e, h, q⟩, r => by
  subst e
  exact ⟨u, _, rfl, h, Rels.append q r⟩
theorem tup_new {st : Store} {as : List Addr} {G H : Hp} {xs : List Val} {us : List L2.V} {Q : VK} {Z : XK} (s : Sim T st as G H) (r : Rels T as G xs us) (p : Post T as G (.ok (.tup false xs) st) (PV T Q) Z) {a : Addr} (ha : H a = none) : Q (.ref a) (upd H a (.tup us)) := by
 have l : Le G (upd G a (.tup us)) := Le.new (s.fresh ha).2
 exact p as _ _ (List.prefix_refl _) l (s.froze ha) _ ⟨a, us, rfl, (show upd G a (.tup us) a = _ from upd_same), r.mono (List.prefix_refl _) l⟩
theorem tup_newF {st : Store} {as : List Addr} {G H : Hp} {xs : List Val} {us : List L2.V} {Q : VK} {Z : XK} (s : Sim T st as G H) (r : Rels T as G xs us) (p : Post T as G (.ok (.tup true xs) st) (PV T Q) Z) {a : Addr} {o : Obj} (ha : H a = none) (ho : o.dict = none) : Q (.ref a) (upd H a (.frz o (.tup us))) := by
 have l : Le G (upd G a (.frz o (.tup us))) := Le.new (s.fresh ha).2
 exact p as _ _ (List.prefix_refl _) l (s.froze ha) _ ⟨a, us, rfl, ⟨o, upd_same, ho⟩, r.mono (List.prefix_refl _) l⟩
theorem lst_new {st : Store} {as : List Addr} {G H : Hp} {xs : List Val} {us : List L2.V} {Q : VK} {Z : XK} (s : Sim T st as G H) (r : Rels T as G xs us) (p : Post T as G (new (.lst xs) st) (PV T Q) Z) {a : Addr} (ha : H a = none) : Q (.ref a) (upd H a (.lst us)) := by
 refine p (as ++ [a]) G _ (List.prefix_append _ _) (Le.refl _) (s.push ha ⟨us, upd_same, r.mono (List.prefix_append _ _) (Le.refl _)⟩) _ ⟨a, ?_, rfl⟩
 rw [← s.len, List.getElem?_append_right (Nat.le_refl _)]
 simp
theorem op_add' (hK : T.K = X.K) : OpR X (binaryOp .Add) (rOp T addV) := by
 refine OpR.imp (((op_add (X := X)).or op_add_str).or ((op_catT (X := X)).or op_catS)) fun u w H Q ⟨st, as, G, x, y, Z, s, r1, r2, p⟩ => ?_
 cases x with
 | int i => cases y with
  | int j =>
   cases r1
   cases r2
   exact .inl (.inl ⟨i, j, rfl, rfl, p.ok s _ rfl⟩)
  | _ => exact p.elim
 | str i => cases y with
  | str j =>
   cases r1
   cases r2
   obtain ⟨c, p⟩ := Post.iff p
   have z : sizeLine = 2 ^ 24 := rfl
   exact .inl (.inr ⟨i, j, rfl, rfl, by omega, p.ok s _ rfl⟩)
  | _ => exact p.elim
 | tup fl xs => cases y with
  | tup fl ys =>
   obtain ⟨a, us, rfl, q1, s1⟩ := r1
   obtain ⟨b, ws, rfl, q2, s2⟩ := r2
   obtain ⟨c, p⟩ := Post.iff p
   have z : sizeLine = 2 ^ 24 := rfl
   refine .inr (.inl ⟨a, b, us, ws, rfl, rfl, sqt_le s.sub q1, sqt_le s.sub q2, fun z => c.1 ?_, by rw [← s1.length, ← s2.length]; omega, fun z => ?_, fun _ l hl => tup_new s (s1.append s2) p hl⟩)
   ·have := s1.length
    rw [z] at this
    exact List.eq_nil_of_length_eq_zero this
   ·refine absurd ?_ c.2.1
    have := s2.length
    rw [z] at this
    exact List.eq_nil_of_length_eq_zero this
  | _ => exact p.elim
 | lst xs => cases y with
  | lst ys =>
   obtain ⟨a, us, rfl, q1, s1⟩ := r1
   obtain ⟨b, ws, rfl, q2, s2⟩ := r2
   obtain ⟨c, p⟩ := Post.iff p
   have z : sizeLine = 2 ^ 24 := rfl
   exact .inr (.inr ⟨a, b, us, ws, rfl, rfl, hK ▸ q1, hK ▸ q2, by rw [← s1.length, ← s2.length]; omega, fun l hl => lst_new s (s1.append s2) p hl⟩)
  | _ => exact p.elim
 | _ => exact p.elim
theorem op_eq' (hK : T.K = X.K) (hu : X.A.units + 8 < cLine) : OpR X (compareOp .Eq) (rOp T fun x y st => blR (cmpV .Eq x y st)) :=
 OpR.imp (op_eq_tree hK hu) fun u w H Q ⟨st, as, G, x, y, Z, s, r1, r2, p⟩ => by
  obtain ⟨b, e, p⟩ := Post.ofO (show Post T as G ((R.ofO (eqv 8 x y) st).bind fun b st => .ok (.bl b) st) (PV T Q) Z from p)
  exact ⟨as, x, y, b, r1.rel s.sub, r2.rel s.sub, e, p.ok s _ rfl⟩
theorem op_ne' (hK : T.K = X.K) (hu : X.A.units + 8 < cLine) : OpR X (compareOp .NotEq) (rOp T fun x y st => blR (cmpV .NotEq x y st)) :=
 OpR.imp (op_ne_tree hK hu) fun u w H Q ⟨st, as, G, x, y, Z, s, r1, r2, p⟩ => by
  obtain ⟨c, e, p⟩ := Post.ofO (show Post T as G ((R.ofO ((eqv 8 x y).map fun b => !b) st).bind fun b st => .ok (.bl b) st) (PV T Q) Z from p)
  obtain ⟨b, e1, e2⟩ := Option.map_eq_some_iff.mp e
  subst e2
  exact ⟨as, x, y, b, r1.rel s.sub, r2.rel s.sub, e1, p.ok s _ rfl⟩
theorem non_iff {as : List Addr} {G H : Hp} {v : Val} {u : L2.V} (h : RelT T as G H v u) : decide (u = .non) = isNon v := by
 cases v with
 | non => cases h; rfl
 | bl b => cases h; rfl
 | int b => cases h; rfl
 | str b => cases h; rfl
 | ref k => exact h.elim
 | tup fl xs => obtain ⟨a, us, rfl, _⟩ := h; rfl
 | lst xs => obtain ⟨a, us, rfl, _⟩ := h; rfl
 | dct ks vs => obtain ⟨a, us, rfl, _⟩ := h; rfl
 | obj c ns vs => obtain ⟨a, us, rfl, _⟩ := h; rfl
theorem op_is' : OpR X (compareOp .Is) (rOp T fun x y st => blR (cmpV .Is x y st)) :=
 OpR.imp op_isN fun u w H Q ⟨st, as, G, x, y, Z, s, r1, r2, p⟩ => by
  cases y with
  | non =>
   cases r2
   refine ⟨rfl, ?_⟩
   rw [non_iff r1]
   exact p.ok s _ rfl
  | _ => exact p.elim
theorem op_isnot' : OpR X (compareOp .IsNot) (rOp T fun x y st => blR (cmpV .IsNot x y st)) :=
 OpR.imp op_notN fun u w H Q ⟨st, as, G, x, y, Z, s, r1, r2, p⟩ => by
  cases y with
  | non =>
   cases r2
   refine ⟨rfl, ?_⟩
   rw [non_iff r1]
   exact p.ok s _ rfl
  | _ => exact p.elim
end
end PI
namespace PI
open PySem L2 L2.L3 L2.L4 PySem.SeqAt
section
variable {T : CT} {P : Pg} {cl : Cal} {E : XS} {X : Cx} {pos : Pos}
theorem s_op {a b : Expr} {ia ib : PI.E} {op : Operator} (ho : OpR X (binaryOp op) (rOp T (binV op))) (ha : PE X a (tE T P cl E ia)) (hb : PE X b (tE T P cl E ib)) : PE X (.BinOp a op b pos) (tE T P cl E (.bin op ia ib)) :=
 s_bin ho ha hb fun s r1 r2 p => ⟨_, _, _, _, _, _, s, r1, r2, p⟩
theorem s_cp {a b : Expr} {ia ib : PI.E} {op : CmpOp} (ho : OpR X (compareOp op) (rOp T fun x y st => blR (cmpV op x y st))) (hm : behindInMarks op b = false) (ha : PE X a (tE T P cl E ia)) (hb : PE X b (tE T P cl E ib)) : PE X (.Compare a [op] [b] pos) (tE T P cl E (.cmp op ia ib)) :=
 s_cmp ho hm ha hb fun s r1 r2 p => ⟨_, _, _, _, _, _, s, r1, r2, p⟩
theorem s_neg {a : Expr} {ia : PI.E} (ha : PE X a (tE T P cl E ia)) : PE X (.UnaryOp .USub a pos) (tE T P cl E (.neg ia)) :=
 PE.mono (pe_un un_neg ha) fun σ H Q ⟨env, st, as, G, s, er, h⟩ => by
  unfold PI.E.run at h
  refine tE_bind s er h fun x st1 as1 G1 H1 u s1 er1 r1 p1 l1 h => ?_
  cases x with
  | int i =>
   cases r1
   exact ⟨i, rfl, h.ok s1 _ rfl⟩
  | _ => exact h.elim
theorem s_and {a b : Expr} {rest : List Expr} {ia ib : PI.E} (ha : PE X a (tE T P cl E ia)) (hb : PE X (.BoolOp .And (b :: rest) pos) (tE T P cl E ib)) : PE X (.BoolOp .And (a :: b :: rest) pos) (tE T P cl E (.and ia ib)) :=
 PE.mono (pe_and ha hb) fun σ H Q ⟨env, st, as, G, s, er, h⟩ => by
  unfold PI.E.run at h
  refine tE_bind s er h fun x st1 as1 G1 H1 u s1 er1 r1 p1 l1 h => ?_
  cases x with
  | bl t =>
   cases r1
   refine ⟨t, rfl, ?_⟩
   cases t with
   | true => exact iteT ⟨env, st1, as1, G1, s1, er1, h⟩
   | false => exact iteF (h.ok s1 _ rfl)
  | _ => exact h.elim
theorem s_or {a b : Expr} {rest : List Expr} {ia ib : PI.E} (ha : PE X a (tE T P cl E ia)) (hb : PE X (.BoolOp .Or (b :: rest) pos) (tE T P cl E ib)) : PE X (.BoolOp .Or (a :: b :: rest) pos) (tE T P cl E (.or ia ib)) :=
 PE.mono (pe_or ha hb) fun σ H Q ⟨env, st, as, G, s, er, h⟩ => by
  unfold PI.E.run at h
  refine tE_bind s er h fun x st1 as1 G1 H1 u s1 er1 r1 p1 l1 h => ?_
  cases x with
  | bl t =>
   cases r1
   refine ⟨t, rfl, ?_⟩
   cases t with
   | true => exact iteT (h.ok s1 _ rfl)
   | false => exact iteF ⟨env, st1, as1, G1, s1, er1, h⟩
  | _ => exact h.elim
theorem s_not {a : Expr} {ia : PI.E} (ha : PE X a (tE T P cl E ia)) : PE X (.UnaryOp .Not a pos) (tE T P cl E (.not ia)) :=
 PE.mono (pe_not ha) fun σ H Q ⟨env, st, as, G, s, er, h⟩ => by
  unfold PI.E.run at h
  refine tE_bind s er h fun x st1 as1 G1 H1 u s1 er1 r1 p1 l1 h => ?_
  cases x with
  | bl t =>
   cases r1
   exact ⟨t, rfl, h.ok s1 _ rfl⟩
  | _ => exact h.elim
theorem tru_of {st : Store} {as : List Addr} {G H : Hp} {x : Val} {u : L2.V} {b : Bool} (hK : T.K = X.K) (s : Sim T st as G H) (r : RelT T as G H x u) (e : truth x = some b) : TruV X.K u H b := by
 cases x with
 | non => cases r; cases e; rfl
 | bl t => cases r; cases e; rfl
 | int i => cases r; cases e; rfl
 | str y =>
  cases r
  replace e : (if y.length ≤ 1000 then some ((y.length : Int) != 0) else none) = some b := e
  split at e
  ·rename_i c
   cases e
   have z : sizeLine = 2 ^ 24 := rfl
   exact ⟨by omega, rfl⟩
  ·cases e
 | tup fl xs =>
  obtain ⟨a, us, rfl, q, r⟩ := r
  cases e
  refine .inr (.inl ⟨us, sqt_le s.sub q, ?_⟩)
  cases xs with
  | nil => cases r; rfl
  | cons x xs => obtain ⟨_, _, rfl, _⟩ := r; rfl
 | lst xs =>
  obtain ⟨a, us, rfl, q, r⟩ := r
  cases e
  refine .inl ⟨us, hK ▸ q, ?_⟩
  cases xs with
  | nil => cases r; rfl
  | cons x xs => obtain ⟨_, _, rfl, _⟩ := r; rfl
 | dct ks vs => cases e
 | obj c ns vs => cases e
 | ref k => cases e
theorem t_val {a : Expr} {ia : PI.E} (hK : T.K = X.K) (ha : PE X a (tE T P cl E ia)) (he : ∀ whole, isTrue a X.env whole = (do let v ← whole; standAt a.pos; holding [v] (truthy v))) : PT X a (tT T P cl E ia) :=
 PT.mono (pt_truth ha he) fun σ H Q ⟨env, st, as, G, s, er, h⟩ => by
  unfold runC at h
  refine tE_bind s er h fun x st1 as1 G1 H1 u s1 er1 r1 p1 l1 h => ?_
  obtain ⟨b, e, h⟩ := Post.ofO' h
  exact ⟨b, tru_of hK s1 (res_rel s1 r1) e, h.ok s1⟩
theorem t_cmp {a b : Expr} {ia ib : PI.E} {op : CmpOp} (ho : OpR X (compareOp op) (rOp T fun x y st => blR (cmpV op x y st))) (hm : behindInMarks op b = false) (ha : PE X a (tE T P cl E ia)) (hb : PE X b (tE T P cl E ib)) : PT X (.Compare a [op] [b] pos) (tT T P cl E (.cmp op ia ib)) :=
 PT.mono (pt_cmpR ho ha hb hm) fun σ H Q ⟨env, st, as, G, s, er, h⟩ => by
  unfold runC PI.E.run at h
  have h2 := h.bind
  refine tE_bind s er h2 fun x st1 as1 G1 H1 u s1 er1 r1 p1 l1 h => ?_
  refine tE_bind s1 er1 h fun y st2 as2 G2 H2 w s2 er2 r2 p2 l2 h => ?_
  refine ⟨st2, as2, G2, _, _, E σ, s2, res_rel s2 (r1.mono p2 l2), res_rel s2 r2, ?_⟩
  show Post T as2 G2 (blR (cmpV op (res st2 x) (res st2 y) st2)) _ _
  cases e : cmpV op (res st2 x) (res st2 y) st2 with
  | stuck => rw [e] at h; exact h.elim
  | exc x st => rw [e] at h; exact h
  | ok b st3 =>
   rw [e] at h
   exact fun as' G' H' p l s u ru => ⟨b, ru, (h as' G' H' p l s).ok s⟩
theorem tT_run {e : PI.E} {env : Env} {st : Store} {as : List Addr} {G H : Hp} {σ : St} {f : Val → Store → R Bool} {Q K : Bool → Hp → Prop} (s : Sim T st as G H) (er : EnvR T as G env σ)
  (h : Post T as G ((e.run P cl env st).bind f) (fun b _ _ _ H' => Q b H') (E σ))
  (k : ∀ t st1 as1 G1 H1, Sim T st1 as1 G1 H1 → EnvR T as1 G1 env σ → Post T as1 G1 (f (.bl t) st1) (fun b _ _ _ H' => Q b H') (E σ) → K t H1) (hb : ∀ v st, (∀ t, v ≠ .bl t) → f v st = .stuck) : tT T P cl E e σ H K := by
 refine ⟨env, st, as, G, s, er, ?_⟩
 unfold runC
 cases e1 : e.run P cl env st with
 | stuck => rw [e1] at h; exact h.elim
 | exc x st => rw [e1] at h; exact h
 | ok v st1 =>
  rw [e1] at h
  replace h : Post T as G (f v st1) (fun b _ _ _ H' => Q b H') (E σ) := h
  by_cases z : ∃ t, v = .bl t
  ·obtain ⟨t, rfl⟩ := z
   exact fun as' G' H' p l s' => k t st1 as' G' H' s' (er.mono p l) (h.mono p l)
  ·rw [hb v st1 fun t q => z ⟨t, q⟩] at h
   exact h.elim
theorem boolR_no {β : Type} {v : Val} {st : Store} {f : Bool → Store → R β} (h : ∀ t, v ≠ .bl t) : (boolR v st).bind f = .stuck := by
 cases v with
 | bl t => exact absurd rfl (h t)
 | _ => rfl
theorem R.bind_assoc {α β γ : Type} (r : R α) (f : α → Store → R β) (g : β → Store → R γ) : (r.bind f).bind g = r.bind fun a st => (f a st).bind g := by
 cases r <;> rfl
theorem t_not {a : Expr} {ia : PI.E} (ha : PT X a (tT T P cl E ia)) : PT X (.UnaryOp .Not a pos) (tT T P cl E (.not ia)) :=
 PT.mono (pt_not ha) fun σ H Q ⟨env, st, as, G, s, er, h⟩ => by
  unfold runC PI.E.run at h
  rw [R.bind_assoc] at h
  exact tT_run s er h (fun t st1 as1 G1 H1 s1 er1 h => h.ok s1) fun v st n => by rw [boolR_no n]; rfl
theorem t_and {a b : Expr} {rest : List Expr} {ia ib : PI.E} (ha : PT X a (tT T P cl E ia)) (hb : PW X (.BoolOp .And (b :: rest) pos) (tT T P cl E ib)) : PW X (.BoolOp .And (a :: b :: rest) pos) (tT T P cl E (.and ia ib)) := fun wh pins s0 σ H Q I ⟨env, st, as, G, s, er, h⟩ => by
 refine pw_and ha hb wh pins s0 σ H Q I ?_
 unfold runC PI.E.run at h
 rw [R.bind_assoc] at h
 refine tT_run s er h (fun t st1 as1 G1 H1 s1 er1 h => ?_) fun v st n => by rw [boolR_no n]; rfl
 cases t with
 | true => exact iteT ⟨env, st1, as1, G1, s1, er1, h⟩
 | false => exact iteF (h.ok s1)
theorem t_or {a b : Expr} {rest : List Expr} {ia ib : PI.E} (ha : PT X a (tT T P cl E ia)) (hb : PW X (.BoolOp .Or (b :: rest) pos) (tT T P cl E ib)) : PW X (.BoolOp .Or (a :: b :: rest) pos) (tT T P cl E (.or ia ib)) := fun wh pins s0 σ H Q I ⟨env, st, as, G, s, er, h⟩ => by
 refine pw_or ha hb wh pins s0 σ H Q I ?_
 unfold runC PI.E.run at h
 rw [R.bind_assoc] at h
 refine tT_run s er h (fun t st1 as1 G1 H1 s1 er1 h => ?_) fun v st n => by rw [boolR_no n]; rfl
 cases t with
 | true => exact iteT (h.ok s1)
 | false => exact iteF ⟨env, st1, as1, G1, s1, er1, h⟩
theorem s_ite {c a b : Expr} {ic ia ib : PI.E} (hc : PT X c (tT T P cl E ic)) (ha : PE X a (tE T P cl E ia)) (hb : PE X b (tE T P cl E ib)) : PE X (.IfExp c a b pos) (tE T P cl E (.ite ic ia ib)) :=
 PE.mono (pe_ifExp hc ha hb) fun σ H Q ⟨env, st, as, G, s, er, h⟩ => by
  unfold PI.E.run at h
  have z : ((ic.run P cl env st).bind fun x st => (R.ofO (truth (res st x)) st).bind fun t st => ifB t (ia.run P cl env st) (ib.run P cl env st)) = (runC P cl (some ic) env st).bind fun t st => ifB t (ia.run P cl env st) (ib.run P cl env st) := by
   unfold runC
   rw [R.bind_assoc]
  rw [z] at h
  refine tT_bind s er h fun t st1 as1 G1 H1 s1 er1 p1 l1 h => ?_
  cases t with
  | true => exact iteT ⟨env, st1, as1, G1, s1, er1, h⟩
  | false => exact iteF ⟨env, st1, as1, G1, s1, er1, h⟩
theorem a_nil : PA X [] (tEs T P cl E []) := PA.mono pa_nil fun σ H Q ⟨env, st, as, G, s, er, h⟩ => h.ok s _ rfl
theorem a_cons {e : Expr} {es : List Expr} {ie : PI.E} {ies : List PI.E} (ha : PE X e (tE T P cl E ie)) (hr : PA X es (tEs T P cl E ies)) (hs : starEach (e :: es) X.env = (false, eval e X.env) :: starEach es X.env) : PA X (e :: es) (tEs T P cl E (ie :: ies)) :=
 PA.mono (pa_cons ha hr hs) fun σ H Q ⟨env, st, as, G, s, er, h⟩ => by
  unfold runEs at h
  refine tE_bind s er h fun x st1 as1 G1 H1 u s1 er1 r1 p1 l1 h => ?_
  refine tEs_bind s1 er1 h fun xs st2 as2 G2 H2 us s2 er2 r2 p2 l2 h => ?_
  exact h.ok s2 _ ⟨u, us, rfl, r1.mono p2 l2, r2⟩
theorem s_tup {es : List Expr} {ies : List PI.E} {k : Nat} (h : PA X es (tEs T P cl E ies)) : PE X (.Tuple es k pos) (tE T P cl E (.tup ies)) :=
 PE.mono (pe_tup h) fun σ H Q ⟨env, st, as, G, s, er, h⟩ => by
  unfold PI.E.run at h
  refine tEs_bind s er h fun xs st1 as1 G1 H1 us s1 er1 r1 p1 l1 h => ?_
  obtain ⟨c, h⟩ := Post.iff h
  have z : sizeLine = 2 ^ 24 := rfl
  exact ⟨by rw [← r1.length]; omega, fun l hl => tup_new s1 r1 h hl⟩
theorem s_lst {es : List Expr} {ies : List PI.E} (h : PA X es (tEs T P cl E ies)) : PE X (.List es pos) (tE T P cl E (.lst ies)) :=
 PE.mono (pe_lst h) fun σ H Q ⟨env, st, as, G, s, er, h⟩ => by
  unfold PI.E.run at h
  refine tEs_bind s er h fun xs st1 as1 G1 H1 us s1 er1 r1 p1 l1 h => ?_
  obtain ⟨c, h⟩ := Post.iff h
  have z : sizeLine = 2 ^ 24 := rfl
  exact ⟨by rw [← r1.length]; omega, fun l hl => lst_new s1 r1 h hl⟩
end
end PI
namespace PI
open PySem L2 L2.L3 L2.L4 PySem.SeqAt
structure COk (T : CT) (P : Pg) : Prop where
 xc : ∀ (c : Nat) k, (P.cl c) = some k → T.xc c = k.exc
 cl : ∀ (c : Nat) k, (P.cl c) = some k → k.exc = false → Cls T.K (T.ca c)
 na : ∀ (c : Nat) k f, (P.cl c) = some k → k.exc = false → f ∈ k.flds → NoAttr T.K (T.ca c) f
theorem hasF_at {P : Pg} {c : Nat} {f : Str} (h : hasF P c f = true) : ∃ k, (P.cl c) = some k ∧ f ∈ k.flds := by
 unfold hasF at h
 cases e : (P.cl c) with
 | none => rw [e] at h; cases h
 | some k =>
  rw [e] at h
  exact ⟨k, rfl, by simpa using h⟩
theorem lookF_zip {T : CT} {as : List Addr} {G : Hp} {f : Str} : ∀ {ns : List Str} {vs : List Val} {us : List L2.V} {v : Val}, Rels T as G vs us → lookF ns vs f = some v → ∃ u, (ns.zip us).lookup f = some u ∧ Rel T as G v u
 | [], _, _, _, _, e => by cases e
 | _ :: _, [], _, _, _, e => by cases e
 | n :: ns, x :: vs, _, v, ⟨u, t, rfl, h, r⟩, e => by
  unfold lookF at e
  rw [List.zip_cons_cons, List.lookup_cons]
  by_cases z : n = f
  ·rw [if_pos z] at e
   cases e
   rw [show (f == n) = true by rw [z]; simp]
   exact ⟨u, rfl, h⟩
  ·rw [if_neg z] at e
   rw [show (f == n) = false by simpa using fun q => z q.symm]
   exact lookF_zip r e
section
variable {T : CT} {P : Pg} {cl : Cal} {E : XS} {X : Cx} {pos : Pos}
theorem s_fld {o : Expr} {io : PI.E} {f : Str} (hK : T.K = X.K) (C : COk T P) (ho : PE X o (tE T P cl E io)) (hb : attributeBase o f X.env (eval o X.env) = eval o X.env) (hx : ∀ (c : Nat) k, (P.cl c) = some k → f ∈ k.flds → k.exc = false) : PE X (.Attribute o f pos) (tE T P cl E (.fld io f)) :=
 PE.mono (pe_fld ho hb) fun σ H Q ⟨env, st, as, G, s, er, h⟩ => by
  unfold PI.E.run at h
  refine tE_bind s er h fun x st1 as1 G1 H1 u s1 er1 r1 p1 l1 h => ?_
  have r2 := res_rel s1 r1
  generalize res st1 x = y at h r2
  cases y with
  | obj c ns vs =>
   obtain ⟨hc, h⟩ := Post.iff h
   obtain ⟨k, e1, e2⟩ := hasF_at hc
   have ex := hx c k e1 e2
   obtain ⟨a, us, rfl, n, r, q⟩ := r2
   rw [if_neg (by rw [C.xc c k e1, ex]; decide)] at q
   obtain ⟨dx, q⟩ := q
   obtain ⟨v, e3, h⟩ := Post.ofO' h
   obtain ⟨w, e4, r4⟩ := lookF_zip r e3
   exact ⟨a, T.ca c, dx, _, w, rfl, q, hK ▸ C.cl c k e1 ex, hK ▸ C.na c k f e1 ex e2, e4, h.ok s1 _ r4⟩
  | _ => exact h.elim
end
end PI
namespace PI
open PySem L2 L2.L3 L2.L4 PySem.SeqAt
def RelTs (T : CT) (as : List Addr) (G H : Hp) : List Val → List L2.V → Prop
 | [], us => us = []
 | v :: r, us => ∃ u t, us = u :: t ∧ RelT T as G H v u ∧ RelTs T as G H r t
theorem res_rels {T : CT} {st : Store} {as : List Addr} {G H : Hp} (s : Sim T st as G H) : ∀ {vs : List Val} {us : List L2.V}, Rels T as G vs us → RelTs T as G H (vs.map (res st)) us
 | [], _, h => h
 | _ :: _, _, ⟨u, t, e, h, r⟩ => ⟨u, t, e, res_rel s h, res_rels s r⟩
def rBi (T : CT) (b : Bi) : List L2.V → Hp → VK → Prop := fun us H Q => ∃ st as G xs Z, Sim T st as G H ∧ RelTs T as G H xs us ∧ Post T as G (biV b xs st) (PV T Q) Z
theorem CallR.imp {X : Cx} {f : Value} {r r' : List L2.V → Hp → VK → Prop} (h : CallR X f r) (k : ∀ xs H Q, r' xs H Q → r xs H Q) : CallR X f r' := fun pins s σ H xs us Q I rv q => h pins s σ H xs us Q I rv (k xs H Q q)
section
variable {T : CT} {P : Pg} {cl : Cal} {E : XS} {X : Cx} {pos : Pos}
theorem s_biB {b : Bi} {id : String} {x : Str} {p : Pos} {e : Expr} {es : List Expr} {ies : List PI.E} (hc : CallR X (.builtin id) (rBi T b)) (hg : Gl X x) (hm : X.mg x = none) (hv : bootBuiltins x = some (.builtin id)) (ha : PA X (e :: es) (tEs T P cl E ies)) (hn : x ≠ "__name__") (hdb : (x == ("__debug__" : Str)) = false)
  (he : starEach (e :: es) X.env = (false, eval e X.env) :: starEach es X.env) (hpl : (backTo pos (starEach es X.env)).any (·.1) = false) : PE X (.Call (.Name x p) (e :: es) [] pos) (tE T P cl E (.bi b ies)) :=
 PE.mono (pe_callB hc hg hm hv ha hn hdb he hpl) fun σ H Q ⟨env, st, as, G, s, er, h⟩ => by
  unfold PI.E.run at h
  refine tEs_bind s er h fun xs st1 as1 G1 H1 us s1 er1 r1 p1 l1 h => ?_
  exact ⟨st1, as1, G1, _, _, s1, res_rels s1 r1, h⟩
theorem s_biT {b : Bi} {id : String} {x : Str} {p : Pos} {e : Expr} {es : List Expr} {ies : List PI.E} (hc : CallR X (.type id) (rBi T b)) (hg : Gl X x) (hm : X.mg x = none) (hv : bootBuiltins x = some (.type id)) (ha : PA X (e :: es) (tEs T P cl E ies)) (hn : x ≠ "__name__") (hdb : (x == ("__debug__" : Str)) = false)
  (he : starEach (e :: es) X.env = (false, eval e X.env) :: starEach es X.env) (hpl : (backTo pos (starEach es X.env)).any (·.1) = false) : PE X (.Call (.Name x p) (e :: es) [] pos) (tE T P cl E (.bi b ies)) :=
 PE.mono (pe_callTy hc hg hm hv ha hn hdb he hpl) fun σ H Q ⟨env, st, as, G, s, er, h⟩ => by
  unfold PI.E.run at h
  refine tEs_bind s er h fun xs st1 as1 G1 H1 us s1 er1 r1 p1 l1 h => ?_
  exact ⟨st1, as1, G1, _, _, s1, res_rels s1 r1, h⟩
theorem one_arg {as : List Addr} {G H : Hp} {x : Val} {us : List L2.V} (r : RelTs T as G H [x] us) : ∃ u, us = [u] ∧ RelT T as G H x u := by
 obtain ⟨u, t, rfl, h, r⟩ := r
 cases r
 exact ⟨u, rfl, h⟩
theorem bi_one {b : Bi} {xs : List Val} {st : Store} {as : List Addr} {G : Hp} {Q : Val → Store → List Addr → Hp → Hp → Prop} {Z : XK} (h : Post T as G (biV b xs st) Q Z) : ∃ x, xs = [x] := by
 match xs with
 | [x] => exact ⟨x, rfl⟩
 | [] => exact h.elim
 | x :: y :: r => exact h.elim
theorem dct_len {as : List Addr} {G H : Hp} {a : Addr} {ks vs : List Val} {us : List L2.V} (d : DctAt H a ks us) (r : Rels T as G vs us) : (∃ kvs, Rd H a (.dT kvs) ∧ kvs.length = ks.length) ∨ ∃ kvs, Rd H a (.dK kvs) ∧ kvs.length = ks.length := by
 have kl : ∀ {ks : List Val} {kk : List Key}, keysO ks = some kk → kk.length = ks.length := fun {ks} => by
  induction ks with
  | nil => intro kk e; cases e; rfl
  | cons k ks ih =>
   intro kk e
   unfold keysO at e
   cases e1 : keyO k with
   | none => rw [e1] at e; cases e
   | some k' =>
    cases e2 : keysO ks with
    | none => rw [e1, e2] at e; cases e
    | some r => rw [e1, e2] at e; cases e; simp [ih e2]
 have tl : ∀ {ks : List Val} {kk : List (List Key)}, keyTs ks = some kk → kk.length = ks.length := fun {ks} => by
  induction ks with
  | nil => intro kk e; cases e; rfl
  | cons k ks ih =>
   intro kk e
   unfold keyTs at e
   cases e1 : keyT k with
   | none => rw [e1] at e; cases e
   | some k' =>
    cases e2 : keyTs ks with
    | none => rw [e1, e2] at e; cases e
    | some r => rw [e1, e2] at e; cases e; simp [ih e2]
 rcases d with ⟨kk, e, n, h⟩ | ⟨kk, e, n, h⟩
 ·exact .inr ⟨_, h, by rw [List.length_zip, ← n, Nat.min_self]; exact kl e⟩
 ·exact .inl ⟨_, h, by rw [List.length_zip, ← n, Nat.min_self]; exact tl e⟩
theorem call_len' (hK : T.K = X.K) : CallR X (.builtin "len") (rBi T .len) := by
 refine CallR.imp (((call_len_seq (X := X)).or call_len_str).or call_lenB) fun us H Q ⟨st, as, G, xs, Z, s, r0, p0⟩ => ?_
 obtain ⟨x, rfl⟩ := bi_one p0
 obtain ⟨u, rfl, r⟩ := one_arg r0
 obtain ⟨v, e, p⟩ := Post.ofO' (show Post T as G (R.ofO ((lenV x).map .int) st) (PV T Q) Z from p0)
 clear r0 p0
 obtain ⟨n, e1, rfl⟩ := Option.map_eq_some_iff.mp e
 clear e
 have q := p.ok s _ rfl
 cases x with
 | tup fl xs =>
  obtain ⟨a, us, rfl, h1, h2⟩ := r
  cases e1
  exact .inl (.inl ⟨a, us, rfl, .inr (sqt_le s.sub h1), by rw [← h2.length]; exact q⟩)
 | lst xs =>
  obtain ⟨a, us, rfl, h1, h2⟩ := r
  cases e1
  exact .inl (.inl ⟨a, us, rfl, .inl (hK ▸ h1), by rw [← h2.length]; exact q⟩)
 | dct ks vs =>
  obtain ⟨a, us, rfl, h1, h2⟩ := r
  cases e1
  refine .inr ⟨a, rfl, ?_⟩
  rcases dct_len h1 h2 with ⟨kvs, h, z⟩ | ⟨kvs, h, z⟩
  ·exact .inl ⟨kvs, h, by rw [z]; exact q⟩
  ·exact .inr ⟨kvs, h, by rw [z]; exact q⟩
 | str x =>
  cases r
  replace e1 : (if x.length ≤ 1000 then some (x.length : Int) else none) = some n := e1
  split at e1
  ·cases e1
   have z : sizeLine = 2 ^ 24 := rfl
   exact .inl (.inr ⟨x, rfl, by omega, q⟩)
  ·cases e1
 | _ => cases e1
theorem call_abs' : CallR X (.builtin "abs") (rBi T .abs) := by
 refine CallR.imp call_abs fun us H Q ⟨st, as, G, xs, Z, s, r0, p0⟩ => ?_
 obtain ⟨x, rfl⟩ := bi_one p0
 obtain ⟨u, rfl, r⟩ := one_arg r0
 cases x with
 | int i =>
  cases r
  refine ⟨i, rfl, ?_⟩
  have q := p0.ok s _ rfl
  rw [show (if i < 0 then -i else i) = (i.natAbs : Int) by split <;> omega]
  exact q
 | _ => exact p0.elim
theorem call_int' : CallR X (.type "int") (rBi T .int) := by
 refine CallR.imp call_int1 fun us H Q ⟨st, as, G, xs, Z, s, r0, p0⟩ => ?_
 obtain ⟨x, rfl⟩ := bi_one p0
 obtain ⟨u, rfl, r⟩ := one_arg r0
 cases x with
 | int i =>
  cases r
  exact .inl ⟨i, rfl, p0.ok s _ rfl⟩
 | bl b =>
  cases r
  exact .inr ⟨b, rfl, p0.ok s _ rfl⟩
 | _ => exact p0.elim
theorem call_tuple' (hK : T.K = X.K) : CallR X (.type "tuple") (rBi T .tuple) := by
 refine CallR.imp ((call_tup (X := X)).or call_tupF) fun us H Q ⟨st, as, G, xs, Z, s, r0, p0⟩ => ?_
 obtain ⟨x, rfl⟩ := bi_one p0
 obtain ⟨u, rfl, r⟩ := one_arg r0
 cases x with
 | tup fl xs =>
  have r1 := r
  obtain ⟨a, us, rfl, h1, h2⟩ := r
  exact .inl ⟨a, us, rfl, .inr ⟨sqt_le s.sub h1, p0.ok s _ r1⟩⟩
 | lst xs =>
  obtain ⟨a, us, rfl, h1, h2⟩ := r
  exact .inr ⟨a, us, rfl, hK ▸ h1, fun l o hl ho => tup_newF s h2 p0 hl ho⟩
 | _ => exact p0.elim
theorem call_list' (hK : T.K = X.K) : CallR X (.type "list") (rBi T .list) := by
 refine CallR.imp call_lst fun us H Q ⟨st, as, G, xs, Z, s, r0, p0⟩ => ?_
 obtain ⟨x, rfl⟩ := bi_one p0
 obtain ⟨u, rfl, r⟩ := one_arg r0
 cases x with
 | tup fl xs =>
  obtain ⟨a, us, rfl, h1, h2⟩ := r
  exact ⟨a, us, rfl, .inr (sqt_le s.sub h1), fun l hl => lst_new s h2 p0 hl⟩
 | lst xs =>
  obtain ⟨a, us, rfl, h1, h2⟩ := r
  exact ⟨a, us, rfl, .inl (hK ▸ h1), fun l hl => lst_new s h2 p0 hl⟩
 | _ => exact p0.elim
theorem all_bools {as : List Addr} {G : Hp} : ∀ {xs : List Val} {us : List L2.V} {b : Bool}, Rels T as G xs us → allB xs = some b → ∃ ys : List Bool, us = ys.map V.bl ∧ ys.all id = b
 | [], _, _, h, e => by
  cases h
  cases e
  exact ⟨[], rfl, rfl⟩
 | .bl c :: r, _, b, ⟨u, t, z, h, q⟩, e => by
  unfold allB at e
  obtain ⟨d, e1, rfl⟩ := Option.map_eq_some_iff.mp e
  obtain ⟨ys, e2, e3⟩ := all_bools q e1
  cases h
  subst z e2
  exact ⟨c :: ys, rfl, by rw [List.all_cons, e3]; rfl⟩
 | .non :: _, _, _, _, e => by cases e
 | .int _ :: _, _, _, _, e => by cases e
 | .str _ :: _, _, _, _, e => by cases e
 | .tup _ _ :: _, _, _, _, e => by cases e
 | .lst _ :: _, _, _, _, e => by cases e
 | .dct _ _ :: _, _, _, _, e => by cases e
 | .obj _ _ _ :: _, _, _, _, e => by cases e
 | .ref _ :: _, _, _, _, e => by cases e
theorem call_all' (hK : T.K = X.K) (hc : X.calm = true) : CallR X (.builtin "all") (rBi T .all) := by
 refine CallR.imp (call_all hc) fun us H Q ⟨st, as, G, xs, Z, s, r0, p0⟩ => ?_
 obtain ⟨x, rfl⟩ := bi_one p0
 obtain ⟨u, rfl, r⟩ := one_arg r0
 cases x with
 | lst xs =>
  obtain ⟨a, us, rfl, h1, h2⟩ := r
  obtain ⟨v, e, p⟩ := Post.ofO' (show Post T as G (R.ofO ((allB xs).map .bl) st) (PV T Q) Z from p0)
  obtain ⟨b, e1, rfl⟩ := Option.map_eq_some_iff.mp e
  obtain ⟨ys, e2, e3⟩ := all_bools h2 e1
  subst e2
  exact ⟨a, ys, rfl, hK ▸ h1, by rw [e3]; exact p.ok s _ rfl⟩
 | _ => exact p0.elim
end
end PI
namespace PI
open PySem L2 L2.L3 L2.L4 PySem.SeqAt
def PostF (T : CT) (as : List Addr) (G : Hp) (r : F) (D : Ends) (E : XS) : Prop := match r with
 | .next env st => ∀ as' G' H' σ', as <+: as' → Le G G' → Sim T st as' G' H' → EnvR T as' G' env σ' → D.nx σ' H'
 | .brk env st => ∀ as' G' H' σ', as <+: as' → Le G G' → Sim T st as' G' H' → EnvR T as' G' env σ' → D.bk σ' H'
 | .cont env st => ∀ as' G' H' σ', as <+: as' → Le G G' → Sim T st as' G' H' → EnvR T as' G' env σ' → D.ct σ' H'
 | .ret v st => ∀ as' G' H' u, as <+: as' → Le G G' → Sim T st as' G' H' → Rel T as' G' v u → D.rt u H'
 | .exc x env st => ∀ as' G' H' σ' cls dx, as <+: as' → Le G G' → Sim T st as' G' H' → EnvR T as' G' env σ' → ExR T as' G' x cls dx → E σ' cls dx H'
 | .stuck => False
theorem PostF.mono {T : CT} {as bs : List Addr} {G G2 : Hp} {r : F} {D : Ends} {E : XS} (p : as <+: bs) (l : Le G G2) (h : PostF T as G r D E) : PostF T bs G2 r D E := by
 cases r with
 | next env st => exact fun as' G' H' σ' p' l' => h as' G' H' σ' (p.trans p') (l.trans l')
 | brk env st => exact fun as' G' H' σ' p' l' => h as' G' H' σ' (p.trans p') (l.trans l')
 | cont env st => exact fun as' G' H' σ' p' l' => h as' G' H' σ' (p.trans p') (l.trans l')
 | ret v st => exact fun as' G' H' u p' l' => h as' G' H' u (p.trans p') (l.trans l')
 | exc x env st => exact fun as' G' H' σ' cls dx p' l' => h as' G' H' σ' cls dx (p.trans p') (l.trans l')
 | stuck => exact h
def tS (T : CT) (P : Pg) (cl : Cal) (E : XS) (s : PI.S) : TS := fun D σ H => ∃ env st as G, Sim T st as G H ∧ EnvR T as G env σ ∧ PostF T as G (s.run P cl env st) D E
def tSs (T : CT) (P : Pg) (cl : Cal) (E : XS) (ss : List PI.S) : TS := fun D σ H => ∃ env st as G, Sim T st as G H ∧ EnvR T as G env σ ∧ PostF T as G (runSs P cl ss env st) D E
theorem PS.mono {X : Cx} {e : Stmt} {t t' : TS} (h : PS X e t) (k : ∀ D σ H, t' D σ H → t D σ H) : PS X e t' := fun pins s σ H D I q => h pins s σ H D I (k D σ H q)
theorem PSs.mono {X : Cx} {e : List Stmt} {t t' : TS} (h : PSs X e t) (k : ∀ D σ H, t' D σ H → t D σ H) : PSs X e t' := fun pins s σ H D I q => h pins s σ H D I (k D σ H q)
theorem EnvR.set {T : CT} {as : List Addr} {G : Hp} {env : Env} {σ : St} {v : Val} {u : L2.V} (h : EnvR T as G env σ) (i : Nat) (r : Rel T as G v u) : EnvR T as G (env.set i (some v)) (σ.set i (some u)) := by
 refine ⟨by simp [h.1], fun j w e => ?_⟩
 by_cases hj : j = i
 ·subst hj
  have lj : j < env.length := by
   have := (List.getElem?_eq_some_iff.mp e).1
   simpa using this
  rw [List.getElem?_set_self lj] at e
  cases e
  exact ⟨u, by rw [List.getElem?_set_self (by rw [← h.1]; exact lj)], r⟩
 ·rw [List.getElem?_set_ne (fun z => hj z.symm)] at e
  rw [List.getElem?_set_ne (fun z => hj z.symm)]
  exact h.2 j w e
section
variable {T : CT} {P : Pg} {cl : Cal} {E : XS} {X : Cx} {pos : Pos}
theorem tE_of {e : PI.E} {env : Env} {st : Store} {as : List Addr} {G H : Hp} {σ : St} {f : Val → Store → F} {D : Ends} {K : VK} (s : Sim T st as G H) (er : EnvR T as G env σ)
  (h : PostF T as G (F.of env (e.run P cl env st) f) D E)
  (k : ∀ v st1 as1 G1 H1 u, Sim T st1 as1 G1 H1 → EnvR T as1 G1 env σ → Rel T as1 G1 v u → PostF T as1 G1 (f v st1) D E → K u H1) : tE T P cl E e σ H K := by
 refine ⟨env, st, as, G, s, er, ?_⟩
 cases e1 : e.run P cl env st with
 | ok v st1 =>
  rw [e1] at h
  exact fun as' G' H' p l s' u r => k v st1 as' G' H' u s' (er.mono p l) r (PostF.mono p l h)
 | exc x st1 =>
  rw [e1] at h
  exact fun as' G' H' cls dx p l s' x => h as' G' H' σ cls dx p l s' (er.mono p l) x
 | stuck =>
  rw [e1] at h
  exact h.elim
theorem tT_of {e : PI.E} {env : Env} {st : Store} {as : List Addr} {G H : Hp} {σ : St} {f : Bool → Store → F} {D : Ends} {K : Bool → Hp → Prop} (s : Sim T st as G H) (er : EnvR T as G env σ)
  (h : PostF T as G (F.of env (runC P cl (some e) env st) f) D E)
  (k : ∀ v st1 as1 G1 H1, Sim T st1 as1 G1 H1 → EnvR T as1 G1 env σ → PostF T as1 G1 (f v st1) D E → K v H1) : tT T P cl E e σ H K := by
 refine ⟨env, st, as, G, s, er, ?_⟩
 cases e1 : runC P cl (some e) env st with
 | ok v st1 =>
  rw [e1] at h
  exact fun as' G' H' p l s' => k v st1 as' G' H' s' (er.mono p l) (PostF.mono p l h)
 | exc x st1 =>
  rw [e1] at h
  exact fun as' G' H' cls dx p l s' x => h as' G' H' σ cls dx p l s' (er.mono p l) x
 | stuck =>
  rw [e1] at h
  exact h.elim
theorem z_set {i : Nat} {x : Str} {e : Expr} {ie : PI.E} {pos' : Pos} (hN : X.N.Nodup) (hi : X.N[i]? = some x) (hx : Loc X.env.scope x) (he : PE X e (tE T P cl E ie)) (hs : swapsWith e (some (.Name x pos')) pos.line X.env = pure false) (hf : X.fn x = true ∨ X.env.scope.names.lookup x = some .local) : PS X (.Assign [.Name x pos'] e pos) (tS T P cl E (.set (.var i) ie)) :=
 PS.mono (ps_set hN hi hx he hs hf) fun D σ H ⟨env, st, as, G, s, er, h⟩ => by
  unfold PI.S.run at h
  refine tE_of s er h fun v st1 as1 G1 H1 u s1 er1 r1 h => ?_
  unfold PI.T.put at h
  split at h
  ·exact h as1 G1 H1 _ (List.prefix_refl _) (Le.refl _) s1 (er1.set i r1)
  ·exact h.elim
theorem z_expr {e : Expr} {ie : PI.E} (he : PE X e (tE T P cl E ie)) (hs : swapsWith e none pos.line X.env = pure false) : PS X (.Expr e pos) (tS T P cl E (.expr ie)) :=
 PS.mono (ps_expr he hs) fun D σ H ⟨env, st, as, G, s, er, h⟩ => by
  unfold PI.S.run at h
  exact tE_of s er h fun v st1 as1 G1 H1 u s1 er1 r1 h => h as1 G1 H1 _ (List.prefix_refl _) (Le.refl _) s1 er1
theorem z_ret {e : Expr} {ie : PI.E} (he : PE X e (tE T P cl E ie)) : PS X (.Return (some e) pos) (tS T P cl E (.ret ie)) :=
 PS.mono (ps_ret he) fun D σ H ⟨env, st, as, G, s, er, h⟩ => by
  unfold PI.S.run at h
  exact tE_of s er h fun v st1 as1 G1 H1 u s1 er1 r1 h => h as1 G1 H1 _ (List.prefix_refl _) (Le.refl _) s1 r1
theorem z_retN : PS X (.Return none pos) (tS T P cl E .retN) :=
 PS.mono ps_retN fun D σ H ⟨env, st, as, G, s, er, h⟩ => h as G H _ (List.prefix_refl _) (Le.refl _) s rfl
theorem z_if {c : Expr} {a b : List Stmt} {ic : PI.E} {ia ib : List PI.S} (hc : PT X c (tT T P cl E ic)) (ha : PSs X a (tSs T P cl E ia)) (hb : PSs X b (tSs T P cl E ib)) : PS X (.If c a b pos) (tS T P cl E (.ife ic ia ib)) :=
 PS.mono (ps_if hc ha hb) fun D σ H ⟨env, st, as, G, s, er, h⟩ => by
  unfold PI.S.run at h
  refine tT_of s er h fun t st1 as1 G1 H1 s1 er1 h => ?_
  cases t with
  | true => exact iteT ⟨env, st1, as1, G1, s1, er1, h⟩
  | false => exact iteF ⟨env, st1, as1, G1, s1, er1, h⟩
theorem z_pass : PS X (.Pass pos) (tS T P cl E .pass) := PS.mono ps_pass fun D σ H ⟨env, st, as, G, s, er, h⟩ => h as G H σ (List.prefix_refl _) (Le.refl _) s er
theorem z_brk : PS X (.Break pos) (tS T P cl E .brk) := PS.mono ps_break fun D σ H ⟨env, st, as, G, s, er, h⟩ => h as G H σ (List.prefix_refl _) (Le.refl _) s er
theorem z_cont : PS X (.Continue pos) (tS T P cl E .cont) := PS.mono ps_continue fun D σ H ⟨env, st, as, G, s, er, h⟩ => h as G H σ (List.prefix_refl _) (Le.refl _) s er
theorem zs_nil : PSs X [] (tSs T P cl E []) := PSs.mono pss_nil fun D σ H ⟨env, st, as, G, s, er, h⟩ => h as G H σ (List.prefix_refl _) (Le.refl _) s er
theorem PostF.bind {as : List Addr} {G : Hp} {r : F} {k : Env → Store → F} {D : Ends} (h : PostF T as G (r.bind k) D E) : PostF T as G r { D with nx := fun σ' H' => ∃ env st as' G', Sim T st as' G' H' ∧ EnvR T as' G' env σ' ∧ PostF T as' G' (k env st) D E } E := by
 cases r with
 | next env st => exact fun as' G' H' σ' p l s er => ⟨env, st, as', G', s, er, PostF.mono p l h⟩
 | brk env st => exact h
 | cont env st => exact h
 | ret v st => exact h
 | exc x env st => exact h
 | stuck => exact h
theorem zs_cons {a : Stmt} {b : List Stmt} {ia : PI.S} {ib : List PI.S} (ha : PS X a (tS T P cl E ia)) (hb : PSs X b (tSs T P cl E ib)) : PSs X (a :: b) (tSs T P cl E (ia :: ib)) :=
 PSs.mono (pss_cons ha hb) fun D σ H ⟨env, st, as, G, s, er, h⟩ => by
  unfold runSs at h
  exact ⟨env, st, as, G, s, er, h.bind⟩
theorem PostF.iff {as : List Addr} {G : Hp} {c : Prop} {r : F} {D : Ends} (h : PostF T as G (iffF c r) D E) : c ∧ PostF T as G r D E := by
 unfold iffF at h
 split at h
 ·rename_i z
  exact ⟨z, h⟩
 ·exact h.elim
def Src (T : CT) (b : Bool) (a : Addr) (items : List Val) (chk : List (Nat × Ob)) (as : List Addr) (G : Hp) : Prop := (∃ us, SqB b T.K G a us ∧ Rels T as G items us) ∨ (b = true ∧ ∃ k, (k, Ob.lst items) ∈ chk ∧ as[k]? = some a)
theorem Src.mono {b : Bool} {a : Addr} {items : List Val} {chk : List (Nat × Ob)} {as as' : List Addr} {G G' : Hp} (p : as <+: as') (l : Le G G') (h : Src T b a items chk as G) : Src T b a items chk as' G' := by
 rcases h with ⟨us, h1, h2⟩ | ⟨rfl, k, h1, h2⟩
 ·refine .inl ⟨us, ?_, h2.mono p l⟩
  cases b
  ·exact sq_le l h1
  ·exact sql_le l h1
 ·exact .inr ⟨rfl, k, h1, pre_get p h2⟩
theorem Src.now {b : Bool} {a : Addr} {items : List Val} {chk : List (Nat × Ob)} {st : Store} {as : List Addr} {G H : Hp} (s : Sim T st as G H) (kp : Kept chk st) (h : Src T b a items chk as G) : ∃ us, SqB b T.K H a us ∧ Rels T as G items us := by
 rcases h with ⟨us, h1, h2⟩ | ⟨rfl, k, h1, h2⟩
 ·refine ⟨us, ?_, h2⟩
  cases b
  ·exact sq_le s.sub h1
  ·exact sql_le s.sub h1
 ·obtain ⟨us, q, r⟩ := s.ob k _ a (kp _ h1) h2
  exact ⟨us, .inl (.inl q), r⟩
def Itb (K : PySem.W.Frag) (b : Bool) (a : Addr) : It := cond b (Itl K a) (Itt K a)
end
end PI
namespace PI
open PySem L2 L2.L3 L2.L4 PySem.SeqAt
def tG (T : CT) (t : PI.T) : TG := fun u σ H Q => ∃ env st as G v env', Sim T st as G H ∧ EnvR T as G env σ ∧ Rel T as G v u ∧ t.put v env = some env' ∧ ∀ σ', EnvR T as G env' σ' → Q σ' H
def tGs (T : CT) (ts : List PI.T) : TGs := fun us σ H Q => ∃ env st as G vs env', Sim T st as G H ∧ EnvR T as G env σ ∧ Rels T as G vs us ∧ putTs vs env ts = some env' ∧ ∀ σ', EnvR T as G env' σ' → Q σ' H
theorem PG.mono {X : Cx} {e : Expr} {t t' : TG} (h : PG X e t) (k : ∀ v σ H Q, t' v σ H Q → t v σ H Q) : PG X e t' := fun pins s σ H v u Q I r q => h pins s σ H v u Q I r (k v σ H Q q)
theorem PGs.mono {X : Cx} {e : List Expr} {t t' : TGs} (h : PGs X e t) (k : ∀ v σ H Q, t' v σ H Q → t v σ H Q) : PGs X e t' := fun pins s σ H v u Q I r q => h pins s σ H v u Q I r (k v σ H Q q)
section
variable {T : CT} {P : Pg} {cl : Cal} {E : XS} {X : Cx} {pos : Pos}
theorem g_var {i : Nat} {x : Str} (hN : X.N.Nodup) (hi : X.N[i]? = some x) (hx : Loc X.env.scope x) (hf : X.fn x = true ∨ X.env.scope.names.lookup x = some .local) : PG X (.Name x pos) (tG T (.var i)) :=
 PG.mono (pg_name hN hi hx hf) fun u σ H Q ⟨env, st, as, G, v, env', s, er, r, e, k⟩ => by
  unfold PI.T.put at e
  split at e
  ·cases e
   exact k _ (er.set i r)
  ·cases e
theorem gs_nil : PGs X [] (tGs T []) := PGs.mono pgs_nil fun us σ H Q ⟨env, st, as, G, vs, env', s, er, r, e, k⟩ => by
 cases vs with
 | nil =>
  cases r
  cases e
  exact ⟨rfl, k σ er⟩
 | cons v vs => cases e
theorem gs_cons {e : Expr} {es : List Expr} {t : PI.T} {ts : List PI.T} (h1 : PG X e (tG T t)) (h2 : PGs X es (tGs T ts)) (hs : (assignEach (e :: es) X.env).map (·.2) = assign e X.env :: (assignEach es X.env).map (·.2)) : PGs X (e :: es) (tGs T (t :: ts)) :=
 PGs.mono (pgs_cons h1 h2 hs) fun us σ H Q ⟨env, st, as, G, vs, env', s, er, r, e, k⟩ => by
  cases vs with
  | nil => cases e
  | cons v vs =>
   obtain ⟨u, us', rfl, r1, r2⟩ := r
   replace e : (t.put v env).bind (fun env => putTs vs env ts) = some env' := by unfold putTs at e; exact e
   cases e1 : t.put v env with
   | none => rw [e1] at e; cases e
   | some env1 =>
    rw [e1] at e
    exact ⟨u, us', rfl, env, st, as, G, v, env1, s, er, r1, e1, fun σ' er' => ⟨env1, st, as, G, vs, env', s, er', r2, e, k⟩⟩
theorem putTs_len : ∀ {ts : List PI.T} {vs : List Val} {env env' : Env}, putTs vs env ts = some env' → vs.length = ts.length
 | [], [], _, _, _ => rfl
 | [], _ :: _, _, _, e => by cases e
 | _ :: _, [], _, _, e => by cases e
 | t :: ts, v :: vs, env, env', e => by
  replace e : (t.put v env).bind (fun env => putTs vs env ts) = some env' := by unfold putTs at e; exact e
  cases e1 : t.put v env with
  | none => rw [e1] at e; cases e
  | some env1 =>
   rw [e1] at e
   rw [List.length_cons, List.length_cons, putTs_len (show putTs vs env1 ts = some env' from e)]
theorem g_tup {es : List Expr} {ts : List PI.T} {k : Nat} {n : Nat} (hK : T.K = X.K) (hc : X.calm = true) (h : PGs X es (tGs T ts)) (hl : ts.length = n) (hn : (assignEach es X.env).length = n) (hst : (assignEach es X.env).findIdx? (·.1) = none) : PG X (.Tuple es k pos) (tG T (.tup ts)) :=
 PG.mono (pg_tup hc h hn hst) fun u σ H Q ⟨env, st, as, G, v, env', s, er, r, e, k⟩ => by
  cases v with
  | tup fl xs =>
   obtain ⟨a, us, rfl, q, r⟩ := r
   replace e : putTs xs env ts = some env' := by unfold PI.T.put at e; exact e
   exact ⟨a, us, rfl, sqt_le s.sub q, by rw [← r.length, putTs_len e]; exact hl, env, st, as, G, xs, env', s, er, r, e, k⟩
  | _ => (unfold PI.T.put at e; cases e)
structure Walks (T : CT) (J : It) (items : List Val) (chk : List (Nat × Ob)) (src : List Addr → Hp → Prop) : Prop where
 mono : ∀ {as as' G G'}, as <+: as' → Le G G' → src as G → src as' G'
 stop : ∀ {st as G H}, Sim T st as G H → Kept chk st → src as G → J.stop items.length H
 go : ∀ {st as G H} {i : Nat}, i < items.length → Sim T st as G H → Kept chk st → src as G → J.go i H
 yld : ∀ {st as G H x H'} {i : Nat}, i < items.length → Sim T st as G H → Kept chk st → src as G → J.yld i H x H' → ∃ v G', items[i]? = some v ∧ Le G G' ∧ Sim T st as G' H' ∧ Rel T as G' v x
def tQ (T : CT) (P : Pg) (cl : Cal) (E : XS) (q : PI.Q) : TI := fun σ H R => ∃ env st as G, Sim T st as G H ∧ EnvR T as G env σ ∧ Post T as G (q.run P cl env st) (fun it _ as' G' H' => ∀ J src, Walks T J it.1 it.2 src → src as' G' → R J H') (E σ)
theorem PI.mono {X : Cx} {tg e : Expr} {t t' : TI} (h : L2.PI X tg e t) (k : ∀ σ H R, t' σ H R → t σ H R) : L2.PI X tg e t' := fun pins s σ H R I q => h pins s σ H R I (k σ H R q)
theorem walks_seq (b : Bool) (a : Addr) (items : List Val) (chk : List (Nat × Ob)) : Walks T (Itb T.K b a) items chk (Src T b a items chk) where
 mono p l h := h.mono p l
 stop s kp h := by
  obtain ⟨us, q, r⟩ := h.now s kp
  cases b
  ·exact ⟨us, q, by rw [r.length]; exact Nat.le_refl _⟩
  ·exact ⟨us, q, by rw [r.length]; exact Nat.le_refl _⟩
 go hi s kp h := by
  obtain ⟨us, q, r⟩ := h.now s kp
  obtain ⟨u, e, _⟩ := r.get (List.getElem?_eq_getElem hi)
  cases b
  ·exact ⟨us, u, q, e⟩
  ·exact ⟨us, u, q, e⟩
 yld hi s kp h y := by
  obtain ⟨us, q, r⟩ := h.now s kp
  obtain ⟨u, e, hr⟩ := r.get (List.getElem?_eq_getElem hi)
  cases b
  ·obtain ⟨rfl, z⟩ := y
   have := z us q
   rw [e] at this
   cases this
   exact ⟨_, _, List.getElem?_eq_getElem hi, Le.refl _, s, hr⟩
  ·obtain ⟨rfl, z⟩ := y
   have := z us q
   rw [e] at this
   cases this
   exact ⟨_, _, List.getElem?_eq_getElem hi, Le.refl _, s, hr⟩
theorem q_val {tg e : Expr} {ie : PI.E} (hK : T.K = X.K) (he : PE X e (tE T P cl E ie)) : L2.PI X tg e (tQ T P cl E (.val ie)) :=
 PI.mono (pi_seq he) fun σ H R ⟨env, st, as, G, s, er, h⟩ => by
  unfold PI.Q.run at h
  refine tE_bind s er h fun x st1 as1 G1 H1 u s1 er1 r1 p1 l1 h => ?_
  obtain ⟨it, e, h⟩ := Post.ofO' h
  have k := h.ok s1
  cases x with
  | tup fl xs =>
   cases e
   obtain ⟨a, us, rfl, q, r⟩ := r1
   exact ⟨a, rfl, .inr ⟨⟨us, sqt_le s1.sub q⟩, hK ▸ k (Itb T.K false a) _ (walks_seq false a xs []) (.inl ⟨us, sqt_of q, r⟩)⟩⟩
  | lst xs =>
   cases e
   obtain ⟨a, us, rfl, q, r⟩ := r1
   exact ⟨a, rfl, .inl ⟨⟨us, hK ▸ sql_le s1.sub q⟩, hK ▸ k (Itb T.K true a) _ (walks_seq true a xs []) (.inl ⟨us, q, r⟩)⟩⟩
  | ref n =>
   obtain ⟨a, ea, rfl⟩ := r1
   replace e : itO n st1[n]? = some it := e
   cases e1 : st1[n]? with
   | none => rw [e1] at e; cases e
   | some o =>
    rw [e1] at e
    have ob := s1.ob n o a e1 ea
    cases o with
    | lst xs =>
     cases e
     obtain ⟨us, q, r⟩ := ob
     exact ⟨a, rfl, .inl ⟨⟨us, .inl (.inl q)⟩, hK ▸ k (Itb T.K true a) _ (walks_seq true a xs [(n, .lst xs)]) (.inr ⟨rfl, n, by simp, ea⟩)⟩⟩
    | dct ks vs => cases e
    | ins c ns vs => cases e
  | _ => cases e
end
end PI
namespace PI
open PySem L2 L2.L3 L2.L4 PySem.SeqAt
section
variable {T : CT} {P : Pg} {cl : Cal} {E : XS} {X : Cx} {pos : Pos}
theorem PostF.turn {as : List Addr} {G : Hp} {r : F} {k : Env → Store → F} {D : Ends} {src : List Addr → Hp → Prop} (mo : ∀ {as as' G G'}, as <+: as' → Le G G' → src as G → src as' G') (sr : src as G) (h : PostF T as G (r.turn k) D E) {N : St → Hp → Prop}
  (hN : ∀ env st as' G' σ' H', Sim T st as' G' H' → EnvR T as' G' env σ' → src as' G' → PostF T as' G' (k env st) D E → N σ' H') : PostF T as G r { D with nx := N, ct := N, bk := D.nx } E := by
 cases r with
 | next env st => exact fun as' G' H' σ' p l s er => hN env st as' G' σ' H' s er (mo p l sr) (PostF.mono p l h)
 | cont env st => exact fun as' G' H' σ' p l s er => hN env st as' G' σ' H' s er (mo p l sr) (PostF.mono p l h)
 | brk env st => exact h
 | ret v st => exact h
 | exc x env st => exact h
 | stuck => exact h
open Classical in
theorem z_for {tg iter : Expr} {body : List Stmt} {t : PI.T} {q : PI.Q} {ib : List PI.S} (fm : Framed X) (hx : Held X) (hc : X.calm = true) (hi : L2.PI (X.wish (L4.XE X E)) tg iter (tQ T P cl E q)) (hg : PG (X.wish (L4.XE X E)) tg (tG T t)) (hb : PSs (X.wish (L4.XE X E)) body (tSs T P cl E ib)) (hs : ∀ x, foldedSetIterable iter X.env x = pure x) :
  PS (X.wish (L4.XE X E)) (.For tg iter body [] pos) (tS T P cl E (.for t q ib)) :=
 PS.mono (ps_for (L4.own_x fm hx) hc hi hg hb hs) fun D σ H ⟨env, st, as, G, s, er, h⟩ => by
  unfold PI.S.run at h
  refine ⟨env, st, as, G, s, er, ?_⟩
  cases e1 : q.run P cl env st with
  | stuck => rw [e1] at h; exact h.elim
  | exc x st1 =>
   rw [e1] at h
   exact fun as' G' H' cls dx p l s' x => h as' G' H' σ cls dx p l s' (er.mono p l) x
  | ok it st1 =>
   rw [e1] at h
   replace h : PostF T as G (forL t (fun env st => runSs P cl ib env st) it.2 it.1 env st1) D E := h
   intro as0 G0 H0 p0 l0 s0 J src wk sr0
   refine ⟨fun i m σ H => m = it.1.length - i ∧ i ≤ it.1.length ∧ ∃ env st as G, Sim T st as G H ∧ EnvR T as G env σ ∧ src as G ∧ PostF T as G (forL t (fun env st => runSs P cl ib env st) it.2 (it.1.drop i) env st) D E,
    ⟨_, rfl, Nat.zero_le _, env, st1, as0, G0, s0, er.mono p0 l0, sr0, PostF.mono p0 l0 h⟩, ?_⟩
   rintro i m σ H ⟨rfl, hi, env, st, as, G, s, er, sr, h⟩
   by_cases hl : i = it.1.length
   ·subst hl
    rw [List.drop_length] at h
    obtain ⟨kp, h⟩ := PostF.iff (show PostF T as G (iffF (Kept it.2 st) (.next env st)) D E from h)
    exact .inl ⟨wk.stop s kp sr, h as G H σ (List.prefix_refl _) (Le.refl _) s er⟩
   ·have li : i < it.1.length := by omega
    rw [List.drop_eq_getElem_cons li] at h
    obtain ⟨kp, h⟩ := PostF.iff (show PostF T as G (iffF (Kept it.2 st) ((F.ofO st (t.put it.1[i] env)).bind fun env st => (runSs P cl ib env st).turn fun env st => forL t (fun env st => runSs P cl ib env st) it.2 (it.1.drop (i + 1)) env st)) D E from h)
    refine .inr ⟨wk.go li s kp sr, fun σ' H' => ∃ env st as G, Sim T st as G H' ∧ EnvR T as G env σ' ∧ src as G ∧ PostF T as G (forL t (fun env st => runSs P cl ib env st) it.2 (it.1.drop (i + 1)) env st) D E,
     fun σ' H' w => ⟨it.1.length - (i + 1), by omega, rfl, by omega, w⟩, fun x H' y => ?_⟩
    obtain ⟨v, G', e2, l, s', rv⟩ := wk.yld li s kp sr y
    rw [List.getElem?_eq_getElem li] at e2
    cases e2
    cases e3 : t.put it.1[i] env with
    | none => rw [e3] at h; exact h.elim
    | some env1 =>
     rw [e3] at h
     replace h : PostF T as G ((runSs P cl ib env1 st).turn fun env st => forL t (fun env st => runSs P cl ib env st) it.2 (it.1.drop (i + 1)) env st) D E := h
     refine ⟨env, st, as, G', _, env1, s', er.mono (List.prefix_refl _) l, rv, e3, fun σ' er' => ⟨env1, st, as, G', s', er', ?_⟩⟩
     exact PostF.turn wk.mono (wk.mono (List.prefix_refl _) l sr) (PostF.mono (List.prefix_refl _) l h) fun env st as G σ' H' s er sr h => ⟨env, st, as, G, s, er, sr, h⟩
end
end PI
namespace PI
open PySem L2 L2.L3 L2.L4 PySem.SeqAt
open PyProof.Rows (envOfC)
def spF (T : CT) (P : Pg) (n fi : Nat) : Sp := fun vs H Q E => ∃ st as G xs, Sim T st as G H ∧ Rels T as G xs vs ∧ Post T as G (call P n fi xs st) (PV T Q) E
section
variable {T : CT} {P : Pg} {cl : Cal} {E : XS} {X : Cx} {pos : Pos}
theorem run_fnS {k : Nat} {f : Addr} {fd : FuncData} {ps : List Str} {sp : Sp} {pins : List (Addr × Obj)} {σ : St} {H : Hp} {s : Shared} {Q : VK} {us : List Value} {vs : List L2.V} (F : FnOk X.prog X.w X.K X.mg X.base (CXE X.prog X.w) k f fd ps sp) (hr : Room k X.A) (hb : Binds X.K fd ps []) (hx : Held X)
  (I : Inv (X.wish (L4.XE X E)) pins σ H s) (r : Vals vs us) (h : sp vs H Q (E σ)) : wpAny (model X.prog X.w) X.A (PySem.call (.ref f) us) (EP (X.wish (L4.XE X E)) pins σ Q) (L4.XE X E) s := by
 have hl : (us ++ []).length = ps.length := by rw [List.append_nil, ← r.length]; exact F.len _ _ _ _ h
 have hb' := hb s us I.kIn hl
 rw [List.append_nil] at hb'
 refine wpAny_call (codeAny_mono (F.run X.A X.stack s H ⟨us, []⟩ us vs Q (E σ) hr I.env0 hb' r h) fun r s' hq => ?_)
 cases r with
 | error e => exact L4.pass_x hx I hq
 | ok fl =>
  cases fl with
  | ret u => exact I.after hq
  | next => exact False.elim hq
  | brk => exact False.elim hq
  | cont => exact False.elim hq
theorem s_call {k n fi : Nat} {f : Addr} {fd : FuncData} {ps : List Str} {x : Str} {p : Pos} {e : Expr} {es : List Expr} {ies : List PI.E} (F : FnOk X.prog X.w X.K X.mg X.base (CXE X.prog X.w) k f fd ps (spF T P n fi)) (hr : Room k X.A) (hb : Binds X.K fd ps []) (hx : Held X) (hg : Gl X x) (hm : X.mg x = some (.ref f)) (hk : PySem.W.keepIn X.K (.ref f) = true)
  (ha : PA (X.wish (L4.XE X E)) (e :: es) (tEs T P (call P n) E ies)) (hdb : (x == ("__debug__" : Str)) = false) (he : starEach (e :: es) X.env = (false, eval e X.env) :: starEach es X.env) (hpl : (backTo pos (starEach es X.env)).any (·.1) = false) :
  PE (X.wish (L4.XE X E)) (.Call (.Name x p) (e :: es) [] pos) (tE T P (call P n) E (.call fi ies)) := by
 intro pins s σ H Q I ⟨env, st, as, G, sm, er, h⟩
 unfold PI.E.run at h
 have h2 := tEs_bind (K := fun us H1 => spF T P n fi us H1 Q (E σ)) sm er h fun xs st1 as1 G1 H1 us s1 er1 r1 p1 l1 h => ⟨st1, as1, G1, xs, s1, r1, h⟩
 refine wpAny_Call_Name_kw (ld_glob I hg hm ?_ hdb)
 refine PySem.W.callWith_K (h₀ := X.base) I.ok.mod.kin hk (thn (ha pos pins s σ H _ I h2) fun us s1 ⟨vs, H1, I1, r, q⟩ => ⟨I1.kIn, ?_⟩) he hpl
 exact run_fnS F hr hb hx I1 r q
theorem s_call0 {k n fi : Nat} {f : Addr} {fd : FuncData} {ps : List Str} {x : Str} {p : Pos} (F : FnOk X.prog X.w X.K X.mg X.base (CXE X.prog X.w) k f fd ps (spF T P n fi)) (hr : Room k X.A) (hb : Binds X.K fd ps []) (hx : Held X) (hg : Gl X x) (hm : X.mg x = some (.ref f)) (hk : PySem.W.keepIn X.K (.ref f) = true)
  (hdb : (x == ("__debug__" : Str)) = false) : PE (X.wish (L4.XE X E)) (.Call (.Name x p) [] [] pos) (tE T P (call P n) E (.call fi [])) := by
 intro pins s σ H Q I ⟨env, st, as, G, sm, er, h⟩
 unfold PI.E.run at h
 refine wpAny_Call_Name_kw (ld_glob I hg hm ?_ hdb)
 exact PySem.W.callWith_K0 I.kIn hk (run_fnS (us := []) F hr hb hx I .nil ⟨st, as, G, [], sm, rfl, h⟩)
end
section
variable {P' : Program} {w : World} {K : PySem.W.Frag} {mg : Str → Option Value} {base : Heap} {N : List Str} {qual : Str} {f : Addr}
theorem okS {x : Str} {st : Stmt} {fd : FuncData} {ps : List Str} {k : Nat} {sp : Sp} (F : Fun K x qual st f fd) (S : FnScope N ps (defScope st)) (len : ∀ vs H Q E, sp vs H Q E → vs.length = ps.length)
  (hbody : ∀ (cdv : Value) (A : Around) (outer : List PySem.Env) (s : Shared) (H : Hp) (vs : List L2.V) (Q : VK) (E : XK), Room k (A.deeper (envOfC qual (defScope st) s.heap.objs.size f cdv)) → sp vs H Q E →
   ∃ t, PSs ((cxD P' w K mg base N qual (defScope st) f cdv A outer s H E).wish (L4.XE (cxD P' w K mg base N qual (defScope st) f cdv A outer s H E) fun _ => E)) (defBody st) t ∧ t { nx := fun _ H' => Q .non H', rt := Q } (start N vs) H) :
  FnOk P' w K mg base (CXE P' w) (k + 1) f fd ps sp := by
 obtain ⟨oc, od, kV, doc, pm, an, cdv, ct, osl, rfl, lk, hcd⟩ := F.ex
 refine fn_of lk hcd S len fun A outer s H vs Q E hr hsp => ?_
 obtain ⟨t, h, q⟩ := hbody cdv A outer s H vs Q E hr hsp
 refine ⟨t, fun pins s1 σ1 H1 D I hw => ?_, q⟩
 exact wpAny_mono (h pins s1 σ1 H1 D (I.wish _) hw) (fun _ _ z => z.unwish) fun e s2 z => L4.leave_x fmD rfl z
variable {T : CT} {P : Pg}
theorem fn_ok {x : Str} {st : Stmt} {fd : FuncData} {ps : List Str} {k n fi : Nat} {d : Fn} (F : Fun K x qual st f fd) (S : FnScope N ps (defScope st)) (hd : (P.fn fi) = some d) (hp : d.np = ps.length) (hn : d.ns = N.length)
  (body : ∀ (cdv : Value) (A : Around) (outer : List PySem.Env) (s : Shared) (H : Hp) (E : XK), Room k (A.deeper (envOfC qual (defScope st) s.heap.objs.size f cdv)) →
   PSs ((cxD P' w K mg base N qual (defScope st) f cdv A outer s H E).wish (L4.XE (cxD P' w K mg base N qual (defScope st) f cdv A outer s H E) fun _ => E)) (defBody st) (tSs T P (call P n) (fun _ => E) d.body)) :
  FnOk P' w K mg base (CXE P' w) (k + 1) f fd ps (spF T P (n + 1) fi) := by
 have arity : ∀ {as G xs st Q X}, Post T as G (call P (n + 1) fi xs st) Q X → xs.length = d.np ∧ Post T as G ((runSs P (call P n) d.body (xs.map some ++ List.replicate (d.ns - d.np) none) st).fin P st) Q X := fun {as G xs st Q X} h => by
  unfold call at h
  rw [hd] at h
  exact Post.iff h
 refine okS F S (fun vs H Q E ⟨st, as, G, xs, s, r, h⟩ => ?_) fun cdv A outer s H vs Q E hr ⟨st, as, G, xs, sm, r, h⟩ => ⟨_, body cdv A outer s H E hr, ?_⟩
 ·rw [← r.length, (arity h).1, hp]
 ·obtain ⟨la, h⟩ := arity h
  refine ⟨xs.map some ++ List.replicate (d.ns - d.np) none, st, as, G, sm, ?_, ?_⟩
  ·have lv : vs.length = xs.length := r.length.symm
   refine ⟨by simp [L2.start, lv, la, hn], fun i v e => ?_⟩
   by_cases hi : i < xs.length
   ·rw [List.getElem?_append_left (by simpa using hi), List.getElem?_map] at e
    obtain ⟨v', e1, e2⟩ := Option.map_eq_some_iff.mp e
    cases e2
    obtain ⟨u, e3, hr⟩ := r.get e1
    refine ⟨u, ?_, hr⟩
    unfold L2.start
    rw [List.getElem?_append_left (by simpa [lv] using hi), List.getElem?_map, e3]
    rfl
   ·rw [List.getElem?_append_right (by simpa using hi), List.getElem?_replicate] at e
    split at e <;> cases e
  ·cases e1 : runSs P (call P n) d.body (xs.map some ++ List.replicate (d.ns - d.np) none) st with
   | next env st' =>
    rw [e1] at h
    exact fun as' G' H' σ' p l s' er => fin_ok (v := .non) (u := .non) sm s' p l rfl h
   | ret v st' =>
    rw [e1] at h
    exact fun as' G' H' u p l s' rv => fin_ok sm s' p l rv h
   | exc x env st' =>
    rw [e1] at h
    exact fun as' G' H' σ' cls dx p l s' er ex => finX_ok sm s' p l ex h
   | brk env st' => rw [e1] at h; exact h.elim
   | cont env st' => rw [e1] at h; exact h.elim
   | stuck => rw [e1] at h; exact h.elim
end
end PI
namespace PI
open PySem L2 L2.L3 L2.L4 PySem.SeqAt
mutual
theorem put_above {n : Nat} : ∀ {t : PI.T} {v : Val} {env env' : Env}, t.low n = true → t.put v env = some env' → env'.length = env.length ∧ ∀ (i : Nat), n ≤ i → env'[i]? = env[i]?
 | .var k, v, env, env', l, e => by
  unfold PI.T.put at e
  unfold PI.T.low at l
  split at e
  ·cases e
   refine ⟨by simp, fun i hi => ?_⟩
   have := of_decide_eq_true l
   rw [List.getElem?_set_ne (by omega)]
  ·cases e
 | .tup ts, v, env, env', l, e => by
  unfold PI.T.low at l
  cases v with
  | tup fl xs => exact puts_above l (show putTs xs env ts = some env' by unfold PI.T.put at e; exact e)
  | _ => (unfold PI.T.put at e; cases e)
theorem puts_above {n : Nat} : ∀ {ts : List PI.T} {vs : List Val} {env env' : Env}, lows n ts = true → putTs vs env ts = some env' → env'.length = env.length ∧ ∀ (i : Nat), n ≤ i → env'[i]? = env[i]?
 | [], [], _, _, _, e => by
  cases e
  exact ⟨rfl, fun _ _ => rfl⟩
 | [], _ :: _, _, _, _, e => by cases e
 | _ :: _, [], _, _, _, e => by cases e
 | t :: ts, v :: vs, env, env', l, e => by
  replace e : (t.put v env).bind (fun env => putTs vs env ts) = some env' := by unfold putTs at e; exact e
  unfold lows at l
  rw [Bool.and_eq_true] at l
  cases e1 : t.put v env with
  | none => rw [e1] at e; cases e
  | some env1 =>
   rw [e1] at e
   obtain ⟨a1, a2⟩ := put_above l.1 e1
   obtain ⟨b1, b2⟩ := puts_above l.2 (show putTs vs env1 ts = some env' from e)
   exact ⟨b1.trans a1, fun i hi => (b2 i hi).trans (a2 i hi)⟩
end
theorem cap_env {T : CT} {as : List Addr} {G : Hp} {env : Env} {σ : St} (ws : List Str) (caps : List Nat) (h : EnvR T as G env σ) : EnvR T as G (capEnv ws.length caps env) (stC ws caps σ) := by
 refine ⟨by simp [capEnv, stC], fun i v e => ?_⟩
 unfold capEnv at e
 by_cases hi : i < ws.length
 ·rw [List.getElem?_append_left (by simpa using hi), List.getElem?_replicate, if_pos hi] at e
  cases e
 ·rw [List.getElem?_append_right (by simpa using hi), List.getElem?_map] at e
  obtain ⟨c, e1, e2⟩ := Option.map_eq_some_iff.mp e
  have e3 : env[c]? = some (some v) := by
   cases q : env[c]? with
   | none => rw [q] at e2; cases e2
   | some o => rw [q] at e2; exact congrArg some e2
  obtain ⟨u, e4, r⟩ := h.2 c v e3
  refine ⟨u, ?_, r⟩
  unfold stC
  rw [List.getElem?_append_right (by simpa using hi), List.getElem?_map]
  rw [show i - (ws.map fun _ => (none : Option L2.V)).length = i - (List.replicate ws.length (none : Option Val)).length by simp, e1]
  simp [e4]
theorem cap_back {T : CT} {as : List Addr} {G : Hp} {env env1 : Env} {σ : St} {n : Nat} {caps : List Nat} {t : PI.T} {v : Val} (l : t.low n = true) (e : t.put v (capEnv n caps env) = some env1) (h : EnvR T as G env1 σ) : EnvR T as G (capEnv n caps env) σ := by
 obtain ⟨a1, a2⟩ := put_above l e
 refine ⟨by rw [← a1]; exact h.1, fun i w ew => ?_⟩
 by_cases hi : i < n
 ·unfold capEnv at ew
  rw [List.getElem?_append_left (by simpa using hi), List.getElem?_replicate, if_pos hi] at ew
  cases ew
 ·exact h.2 i w (by rw [a2 i (by omega)]; exact ew)
section
variable {T : CT} {P : Pg} {cl : Cal} {E : XS} {X : Cx} {pos : Pos}
def tO (T : CT) (P : Pg) (cl : Cal) (E : XS) (c : Option PI.E) : TT := fun σ H Q => ∃ env st as G, Sim T st as G H ∧ EnvR T as G env σ ∧ Post T as G (runC P cl c env st) (fun b _ _ _ H' => Q b H') (E σ)
theorem o_none : PTs X [] (tO T P cl E none) := fun pins s σ H Q I ⟨env, st, as, G, sm, er, h⟩ => pts_nil pins s σ H Q I (h.ok sm)
theorem o_some {c : Expr} {ic : PI.E} (hc : PT X c (tT T P cl E ic)) : PTs X [c] (tO T P cl E (some ic)) := pts_one hc
open Classical in
theorem comp_core {σ0 : St} {ws : List Str} {caps : List Nat} {t : PI.T} {c : Option PI.E} {ie : PI.E} {it : List Val × List (Nat × Ob)} {env : Env} {st : Store} {as : List Addr} {G H : Hp} {Q : Val → Store → List Addr → Hp → Hp → Prop} {Z : List L2.V → Hp → Prop} {J : It} {src : List Addr → Hp → Prop}
  (s : Sim T st as G H) (er : EnvR T as G env σ0) (wk : Walks T J it.1 it.2 src) (sr : src as G) (low : t.low ws.length = true) (len : it.1.length ≤ 10000)
  (h : Post T as G ((compL (fun v st => turnC (t.put v (capEnv ws.length caps env)) (runC P cl c) (ie.run P cl) st) it.2 it.1 st).bind fun xs st => new (.lst xs) st) Q (E σ0))
  (hZ : ∀ xs ys st as' G' H', as <+: as' → Le G G' → Sim T st as' G' H' → Rels T as' G' xs ys → Post T as' G' (new (.lst xs) st) Q (E σ0) → Z ys H') :
  L3.runC (tG T t) (tO T P cl (fun _ => E σ0) c) (tE T P cl (fun _ => E σ0) ie) J (stC ws caps σ0) H Z := by
 have sz : sizeLine = 2 ^ 24 := rfl
 refine ⟨fun i m ys σ H => m = it.1.length - i ∧ i ≤ it.1.length ∧ ∃ st as1 G1 xs, as <+: as1 ∧ Le G G1 ∧ Sim T st as1 G1 H ∧ EnvR T as1 G1 (capEnv ws.length caps env) σ ∧ src as1 G1 ∧ Rels T as1 G1 xs ys ∧ xs.length ≤ i ∧
   Post T as1 G1 ((compL (fun v st => turnC (t.put v (capEnv ws.length caps env)) (runC P cl c) (ie.run P cl) st) it.2 (it.1.drop i) st).bind fun r st => new (.lst (xs ++ r)) st) Q (E σ0),
  ⟨_, rfl, Nat.zero_le _, st, as, G, [], List.prefix_refl _, Le.refl _, s, cap_env ws caps er, sr, rfl, Nat.le_refl _, h⟩, ?_⟩
 rintro i m ys σ H ⟨rfl, hi, st, as1, G1, xs, p1, l1, s, er, sr, rx, lx, h⟩
 by_cases hl : i = it.1.length
 ·subst hl
  rw [List.drop_length] at h
  obtain ⟨kp, h⟩ := Post.iff (show Post T as1 G1 (iff (Kept it.2 st) (new (.lst (xs ++ [])) st)) Q (E σ0) by
   by_cases z : Kept it.2 st
   ·rw [iff_t z]
    have : compL (fun v st => turnC (t.put v (capEnv ws.length caps env)) (runC P cl c) (ie.run P cl) st) it.2 [] st = .ok [] st := iff_t z
    rw [this] at h
    exact h
   ·have : compL (fun v st => turnC (t.put v (capEnv ws.length caps env)) (runC P cl c) (ie.run P cl) st) it.2 [] st = .stuck := if_neg z
    rw [this] at h
    exact h.elim)
  rw [List.append_nil] at h
  exact .inl ⟨wk.stop s kp sr, hZ xs ys st as1 G1 H p1 l1 s rx h⟩
 ·have li : i < it.1.length := by omega
  rw [List.drop_eq_getElem_cons li] at h
  have ⟨kp, h⟩ : Kept it.2 st ∧ Post T as1 G1 ((turnC (t.put it.1[i] (capEnv ws.length caps env)) (runC P cl c) (ie.run P cl) st).bind fun o st => (compL (fun v st => turnC (t.put v (capEnv ws.length caps env)) (runC P cl c) (ie.run P cl) st) it.2 (it.1.drop (i + 1)) st).bind fun r st => new (.lst (xs ++ consO o r)) st) Q (E σ0) := by
   by_cases z : Kept it.2 st
   ·refine ⟨z, ?_⟩
    have : compL (fun v st => turnC (t.put v (capEnv ws.length caps env)) (runC P cl c) (ie.run P cl) st) it.2 (it.1[i] :: it.1.drop (i + 1)) st = (turnC (t.put it.1[i] (capEnv ws.length caps env)) (runC P cl c) (ie.run P cl) st).bind fun o st => (compL (fun v st => turnC (t.put v (capEnv ws.length caps env)) (runC P cl c) (ie.run P cl) st) it.2 (it.1.drop (i + 1)) st).bind fun r st => .ok (consO o r) st := iff_t z
    rw [this, R.bind_assoc] at h
    simpa only [R.bind_assoc, R.bind_ok] using h
   ·have : compL (fun v st => turnC (t.put v (capEnv ws.length caps env)) (runC P cl c) (ie.run P cl) st) it.2 (it.1[i] :: it.1.drop (i + 1)) st = .stuck := if_neg z
    rw [this] at h
    exact h.elim
  refine .inr ⟨wk.go li s kp sr, fun ys' σ' H' => ∃ st as1 G1 xs, as <+: as1 ∧ Le G G1 ∧ Sim T st as1 G1 H' ∧ EnvR T as1 G1 (capEnv ws.length caps env) σ' ∧ src as1 G1 ∧ Rels T as1 G1 xs ys' ∧ xs.length ≤ i + 1 ∧
    Post T as1 G1 ((compL (fun v st => turnC (t.put v (capEnv ws.length caps env)) (runC P cl c) (ie.run P cl) st) it.2 (it.1.drop (i + 1)) st).bind fun r st => new (.lst (xs ++ r)) st) Q (E σ0),
   fun ys' σ' H' w => ⟨it.1.length - (i + 1), by omega, rfl, by omega, w⟩, fun x H2 y => ?_⟩
  obtain ⟨v, G2, e2, l2, s2, rv⟩ := wk.yld li s kp sr y
  rw [List.getElem?_eq_getElem li] at e2
  cases e2
  unfold turnC at h
  rw [R.bind_assoc] at h
  obtain ⟨env1, e3, h⟩ := Post.ofO h
  refine ⟨capEnv ws.length caps env, st, as1, G2, _, env1, s2, er.mono (List.prefix_refl _) l2, rv, e3, fun σ3 er3 => ?_⟩
  rw [R.bind_assoc] at h
  refine ⟨env1, st, as1, G2, s2, er3, (Post.mono (List.prefix_refl _) l2 h).bind.imp fun b st4 as4 G4 H4 p4 l4 s4 h => ?_⟩
  cases b with
  | false => exact iteF ⟨st4, as4, G4, xs, p1.trans p4, l1.trans (l2.trans l4), s4, cap_back low e3 (er3.mono p4 l4), wk.mono p4 (l2.trans l4) sr, rx.mono p4 (l2.trans l4), by omega, h⟩
  | true =>
   refine iteT ?_
   replace h : Post T as4 G4 (((ie.run P cl env1 st4).bind fun x st => .ok (some x) st).bind fun o st => (compL (fun v st => turnC (t.put v (capEnv ws.length caps env)) (runC P cl c) (ie.run P cl) st) it.2 (it.1.drop (i + 1)) st).bind fun r st => new (.lst (xs ++ consO o r)) st) Q (E σ0) := h
   rw [R.bind_assoc] at h
   refine tE_bind (E := fun _ => E σ0) (σ := σ3) s4 (er3.mono p4 l4) h fun x st5 as5 G5 H5 u s5 er5 r5 p5 l5 h => ?_
   refine ⟨by rw [← rx.length]; omega, st5, as5, G5, xs ++ [x], p1.trans (p4.trans p5), l1.trans (l2.trans (l4.trans l5)), s5, cap_back low e3 er5, wk.mono (p4.trans p5) (l2.trans (l4.trans l5)) sr, Rels.append (rx.mono (p4.trans p5) (l2.trans (l4.trans l5))) ⟨u, [], rfl, r5, rfl⟩, by simp; omega, ?_⟩
   simpa [consO] using h
theorem s_comp {ws : List Str} {caps : List Nat} {sc : Scope} {tg iter elt : Expr} {ifs : List Expr} {t : PI.T} {q : PI.Q} {c : Option PI.E} {ie : PI.E} (fm : Framed X) (hx : Held X) (B : BlockOkC X.env.scope sc) (hc : X.calm = true) (hcap : ∀ k ∈ caps, sc.names.lookup (X.N.getD k Str.empty) = some .free) (hi : L2.PI (X.wish (L4.XE X E)) tg iter (tQ T P cl E q))
  (hg : ∀ σ own C fp pn s H, (∀ b ∈ fp, ∃ o, (b, o) ∈ pn) → PG (L4.cxKE X (fun _ => E σ) own ws caps sc C fp pn s H) tg (tG T t)) (ht : ∀ σ own C fp pn s H, (∀ b ∈ fp, ∃ o, (b, o) ∈ pn) → PTs (L4.cxKE X (fun _ => E σ) own ws caps sc C fp pn s H) ifs (tO T P cl (fun _ => E σ) c))
  (he : ∀ σ own C fp pn s H, (∀ b ∈ fp, ∃ o, (b, o) ∈ pn) → PE (L4.cxKE X (fun _ => E σ) own ws caps sc C fp pn s H) elt (tE T P cl (fun _ => E σ) ie)) (hs : ∀ x, foldedSetIterable iter X.env x = pure x) :
  PE (X.wish (L4.XE X E)) (.ListComp elt [⟨tg, iter, ifs, 0⟩] sc pos) (tE T P cl E (.comp ws.length caps t q c ie)) :=
 PE.mono (L4.pe_compK fm hx B hc hcap hi hg ht he hs) fun σ H Q ⟨env, st, as, G, s, er, h⟩ => by
  unfold PI.E.run at h
  refine ⟨env, st, as, G, s, er, h.bind.imp fun it st1 as1 G1 H1 p l s1 h J src wk sr => ?_⟩
  obtain ⟨⟨low, len⟩, h⟩ := Post.iff h
  exact comp_core s1 (er.mono p l) wk sr low len h fun xs ys st as' G' H' p' l' s' r h D hD => lst_new s' r h hD
theorem z_comp {i : Nat} {y : Str} {py : Pos} {ws : List Str} {caps : List Nat} {sc : Scope} {cpos : Pos} {tg iter elt : Expr} {ifs : List Expr} {t : PI.T} {q : PI.Q} {c : Option PI.E} {ie : PI.E} (fm : Framed X) (hx : Held X) (B : BlockOkC X.env.scope sc) (hc : X.calm = true) (hcap : ∀ k ∈ caps, sc.names.lookup (X.N.getD k Str.empty) = some .free) (hN : X.N.Nodup) (hy : X.N[i]? = some y) (hl : X.env.scope.names.lookup y = some .local) (hi : L2.PI (X.wish (L4.XE X E)) tg iter (tQ T P cl E q))
  (hg : ∀ σ own C fp pn s H, (∀ b ∈ fp, ∃ o, (b, o) ∈ pn) → PG (L4.cxKE X (fun _ => E σ) own ws caps sc C fp pn s H) tg (tG T t)) (ht : ∀ σ own C fp pn s H, (∀ b ∈ fp, ∃ o, (b, o) ∈ pn) → PTs (L4.cxKE X (fun _ => E σ) own ws caps sc C fp pn s H) ifs (tO T P cl (fun _ => E σ) c))
  (he : ∀ σ own C fp pn s H, (∀ b ∈ fp, ∃ o, (b, o) ∈ pn) → PE (L4.cxKE X (fun _ => E σ) own ws caps sc C fp pn s H) elt (tE T P cl (fun _ => E σ) ie)) (hsw : swapsWith (.ListComp elt [⟨tg, iter, ifs, 0⟩] sc cpos) (some (.Name y py)) pos.line X.env = pure true) (hs : ∀ x, foldedSetIterable iter X.env x = pure x) :
  PS (X.wish (L4.XE X E)) (.Assign [.Name y py] (.ListComp elt [⟨tg, iter, ifs, 0⟩] sc cpos) pos) (tS T P cl E (.set (.var i) (.comp ws.length caps t q c ie))) :=
 PS.mono (L4.ps_compK fm hx B hc hcap hN hy hl hi hg ht he hsw hs) fun D σ H ⟨env, st, as, G, s, er, h⟩ => by
  unfold PI.S.run PI.E.run at h
  refine ⟨env, st, as, G, s, er, ?_⟩
  cases e1 : q.run P cl env st with
  | stuck => rw [e1] at h; exact h.elim
  | exc x st1 =>
   rw [e1] at h
   exact fun as' G' H' cls dx p l s' x => h as' G' H' σ cls dx p l s' (er.mono p l) x
  | ok it st1 =>
   rw [e1] at h
   intro as1 G1 H1 p1 l1 s1 J src wk sr
   have h2 : Post T as G (iff (t.low ws.length = true ∧ it.1.length ≤ 10000) ((compL (fun v st => turnC (t.put v (capEnv ws.length caps env)) (runC P cl c) (ie.run P cl) st) it.2 it.1 st1).bind fun xs st => new (.lst xs) st)) (fun v st as' G' H' => ∀ u, Rel T as' G' v u → ∀ σ', EnvR T as' G' (env.set i (some v)) σ' → D.nx σ' H') (E σ) := by
    replace h : PostF T as G (F.of env (iff (t.low ws.length = true ∧ it.1.length ≤ 10000) ((compL (fun v st => turnC (t.put v (capEnv ws.length caps env)) (runC P cl c) (ie.run P cl) st) it.2 it.1 st1).bind fun xs st => new (.lst xs) st)) fun x st => F.ofO st ((PI.T.var i).put x env)) D E := h
    generalize iff (t.low ws.length = true ∧ it.1.length ≤ 10000) ((compL (fun v st => turnC (t.put v (capEnv ws.length caps env)) (runC P cl c) (ie.run P cl) st) it.2 it.1 st1).bind fun xs st => new (.lst xs) st) = r at h ⊢
    cases r with
    | stuck => exact h
    | exc x st => exact fun as' G' H' cls dx p l s' x => h as' G' H' σ cls dx p l s' (er.mono p l) x
    | ok v st =>
     intro as' G' H' p l s' u ru σ' er'
     replace h : PostF T as G (F.ofO st ((PI.T.var i).put v env)) D E := h
     unfold PI.T.put at h
     split at h
     ·exact h as' G' H' σ' p l s' er'
     ·exact h.elim
   obtain ⟨⟨low, len⟩, h3⟩ := Post.iff h2
   refine comp_core s1 (er.mono p1 l1) wk sr low len (Post.mono p1 l1 h3) fun xs ys st as' G' H' p' l' s' r h D' hD => ?_
   have h4 := h (as' ++ [D']) G' _ (List.prefix_append _ _) (Le.refl _) (s'.push hD ⟨ys, upd_same, r.mono (List.prefix_append _ _) (Le.refl _)⟩) (.ref D')
   have rn : Rel T (as' ++ [D']) G' (.ref st.length) (.ref D') := ⟨D', by rw [← s'.len, List.getElem?_append_right (Nat.le_refl _)]; simp, rfl⟩
   exact h4 rn _ ((er.mono (p1.trans (p'.trans (List.prefix_append _ _))) (l1.trans l')).set i rn)
end
end PI
namespace PI
open PySem L2 L2.L3 L2.L4 PySem.SeqAt
theorem rng_len : ∀ (n : Nat) (lo : Int), (rngV lo n).length = n
 | 0, _ => rfl
 | n + 1, lo => by
  unfold rngV
  rw [List.length_cons, rng_len n]
theorem rng_get : ∀ (n : Nat) (lo : Int) (i : Nat), i < n → (rngV lo n)[i]? = some (.int (lo + i))
 | 0, _, _, h => by omega
 | n + 1, lo, 0, _ => by
  unfold rngV
  simp
 | n + 1, lo, i + 1, h => by
  unfold rngV
  rw [List.getElem?_cons_succ, rng_get n (lo + 1) i (by omega)]
  congr 2
  push_cast
  omega
section
variable {T : CT} {P : Pg} {cl : Cal} {E : XS} {X : Cx} {pos : Pos}
theorem walks_rng (lo : Int) (n : Nat) : Walks T (Itr lo n) (rngV lo n) [] (fun _ _ => True) where
 mono _ _ h := h
 stop _ _ _ := by rw [rng_len]; exact Nat.le_refl n
 go hi _ _ _ := by rw [rng_len] at hi; exact hi
 yld hi s _ _ y := by
  rw [rng_len] at hi
  obtain ⟨rfl, rfl⟩ := y
  exact ⟨_, _, rng_get n lo _ hi, Le.refl _, s, rfl⟩
theorem tEs_one {α : Type} {e : PI.E} {env : Env} {st : Store} {as : List Addr} {G H : Hp} {σ : St} {f : Val → Store → R α} {Q : α → Store → List Addr → Hp → Hp → Prop} {K : List L2.V → Hp → Prop} (s : Sim T st as G H) (er : EnvR T as G env σ)
  (h : Post T as G ((e.run P cl env st).bind f) Q (E σ))
  (k : ∀ v st1 as1 G1 H1 u, Sim T st1 as1 G1 H1 → EnvR T as1 G1 env σ → Rel T as1 G1 v u → Post T as1 G1 (f v st1) Q (E σ) → K [u] H1) : tEs T P cl E [e] σ H K := by
 refine ⟨env, st, as, G, s, er, ?_⟩
 unfold runEs
 cases e1 : e.run P cl env st with
 | stuck => rw [e1] at h; exact h.elim
 | exc x st1 => rw [e1] at h; exact h
 | ok v st1 =>
  rw [e1] at h
  intro as1 G1 H1 p l s1 us r
  obtain ⟨u, t, rfl, r1, r2⟩ := r
  cases r2
  exact k v st1 as1 G1 H1 u s1 (er.mono p l) r1 (Post.mono p l h)
theorem tEs_two {α : Type} {e e' : PI.E} {env : Env} {st : Store} {as : List Addr} {G H : Hp} {σ : St} {f : Val → Val → Store → R α} {Q : α → Store → List Addr → Hp → Hp → Prop} {K : List L2.V → Hp → Prop} (s : Sim T st as G H) (er : EnvR T as G env σ)
  (h : Post T as G ((e.run P cl env st).bind fun x st => (e'.run P cl env st).bind fun y st => f x y st) Q (E σ))
  (k : ∀ v v' st1 as1 G1 H1 u u', Sim T st1 as1 G1 H1 → EnvR T as1 G1 env σ → Rel T as1 G1 v u → Rel T as1 G1 v' u' → Post T as1 G1 (f v v' st1) Q (E σ) → K [u, u'] H1) : tEs T P cl E [e, e'] σ H K := by
 refine ⟨env, st, as, G, s, er, ?_⟩
 unfold runEs runEs
 cases e1 : e.run P cl env st with
 | stuck => rw [e1] at h; exact h.elim
 | exc x st1 => rw [e1] at h; exact h
 | ok v st1 =>
  rw [e1] at h
  replace h : Post T as G ((e'.run P cl env st1).bind fun y st => f v y st) Q (E σ) := h
  rw [R.bind_ok]
  cases e2 : e'.run P cl env st1 with
  | stuck => rw [e2] at h; exact h.elim
  | exc x st1 => rw [e2] at h; exact h
  | ok v' st2 =>
   rw [e2] at h
   intro as1 G1 H1 p l s1 us r
   obtain ⟨u, t, rfl, r1, u', t', rfl, r2, r3⟩ := r
   cases r3
   exact k v v' st2 as1 G1 H1 u u' s1 (er.mono p l) r1 r2 (Post.mono p l h)
theorem q_rng1 {tg a : Expr} {ia : PI.E} {p : Pos} (hg : Gl X "range") (hm : X.mg "range" = none) (ha : PA X [a] (tEs T P cl E [ia])) (hs : starEach [a] X.env = [(false, eval a X.env)]) : L2.PI X tg (.Call (.Name "range" p) [a] [] pos) (tQ T P cl E (.rng1 ia)) :=
 PI.mono (pi_range1 hg hm ha hs) fun σ H R ⟨env, st, as, G, s, er, h⟩ => by
  unfold PI.Q.run at h
  refine tEs_one s er h fun x st1 as1 G1 H1 u s1 er1 r1 h => ?_
  cases x with
  | int n =>
   cases r1
   obtain ⟨c, h⟩ := Post.iff h
   exact ⟨n, rfl, by omega, by omega, h.ok s1 _ _ (walks_rng 0 n.toNat) trivial⟩
  | _ => exact h.elim
theorem q_rng2 {tg a b : Expr} {ia ib : PI.E} {p : Pos} (hg : Gl X "range") (hm : X.mg "range" = none) (ha : PA X [a, b] (tEs T P cl E [ia, ib])) (hs : starEach [a, b] X.env = [(false, eval a X.env), (false, eval b X.env)]) (hs2 : starEach [b] X.env = [(false, eval b X.env)]) : L2.PI X tg (.Call (.Name "range" p) [a, b] [] pos) (tQ T P cl E (.rng2 ia ib)) :=
 PI.mono (pi_range2 hg hm ha hs hs2) fun σ H R ⟨env, st, as, G, s, er, h⟩ => by
  unfold PI.Q.run at h
  refine tEs_two s er h fun x y st1 as1 G1 H1 u w s1 er1 r1 r2 h => ?_
  cases x with
  | int n => cases y with
   | int m =>
    cases r1
    cases r2
    obtain ⟨c, h⟩ := Post.iff h
    exact ⟨n, m, rfl, ⟨by omega, by omega, by omega, by omega⟩, h.ok s1 _ _ (walks_rng n (m - n).toNat) trivial⟩
   | _ => exact h.elim
  | _ => exact h.elim
end
end PI
namespace PI
open PySem PySem.Spec L2 L2.L3 L2.L4 PySem.SeqAt
open PyProof.Rows hiding St lobj
section
variable {T : CT} {P : Pg} {cl : Cal} {E : XS} {X : Cx} {pos : Pos}
theorem atV_atI {as : List Addr} {G : Hp} {xs : List Val} {us : List L2.V} {i : Int} {v : Val} (r : Rels T as G xs us) (e : atV xs i = some v) : ∃ u, atI us i = some u ∧ Rel T as G v u := by
 unfold atV at e
 cases e1 : ixOf xs.length i with
 | none => rw [e1] at e; cases e
 | some j =>
  rw [e1] at e
  obtain ⟨u, e2, h⟩ := r.get (show xs[j]? = some v from e)
  refine ⟨u, ?_, h⟩
  unfold atI
  rw [← r.length, show ixN xs.length i = some j from e1]
  exact e2
end
end PI
namespace PI
open PySem
inductive Gv where
 | fn (i : Nat) | cls (i : Nat) | val (v : Val)
structure Dt where
 gl : List (Str × Gv)
 fr : List Str
 fx : List Str
structure Gm where
 N : List Str
 sc : Scope
 fn : Str → Bool
def Gm.gl (g : Gm) (x : Str) : Bool := g.sc.names.lookup x == some .globalImplicit
def visB (sc : Scope) (x : Str) : Bool := sc.names.lookup x == some .local || sc.names.lookup x == some .cell || sc.names.lookup x == some .free
def locB (sc : Scope) (x : Str) : Bool := sc.names.lookup x == some .local || sc.names.lookup x == some .cell
def Gm.ix (g : Gm) (x : Str) : Option Nat := if (x == ("__debug__" : Str)) || (x == ("__classdict__" : Str)) then none else (g.N.idxOf? x).bind fun i => if visB g.sc x then some i else none
def Gm.lx (g : Gm) (x : Str) : Option Nat := (g.N.idxOf? x).bind fun i => if locB g.sc x && (g.fn x || g.sc.names.lookup x == some .local) then some i else none
def Gm.gb (g : Gm) (x : Str) : Bool := g.gl x && !(x == ("__debug__" : Str)) && !(x == ("__name__" : Str))
def Gm.gv (D : Dt) (g : Gm) (x : Str) : Option Gv := if g.gb x then D.gl.lookup x else none
def biOf (x : Str) : Option Bi := if x = "len" then some .len else if x = "abs" then some .abs else if x = "int" then some .int else if x = "tuple" then some .tuple else if x = "list" then some .list else if x = "all" then some .all else none
def relab (S sc : Scope) : Scope := { sc with names := sc.names.map fun (n, k) => if (k == .free && S.kind == .function && S.names.lookup n == some .cell) then (n, .cell) else (n, k) }
def nodupB : List Str → Bool
 | [] => true
 | x :: r => !r.contains x && nodupB r
def bokB (S sc : Scope) : Bool := (sc.kind == .function) && (sc.names.all fun y => !(y.2 == .local) || sc.names.lookup y.1 == some .local)
 && (sc.names.all fun y => !(y.2 == .free) || S.names.lookup y.1 == some .cell || S.names.lookup y.1 == some .free) && (sc.names.all fun y => !(y.2 == .cell) || sc.names.lookup y.1 == some .cell)
def wsOf (sc : Scope) : List Str := (sc.names.filter fun y => (y.2 == .local || y.2 == .cell) && !(y.1 == (".0" : Str))).map (·.1)
def capsOf (N : List Str) (sc : Scope) : List Nat := (sc.names.filter fun y => y.2 == .free).filterMap fun y => N.idxOf? y.1
def Gm.block (g : Gm) (sc : Scope) : Option Gm := let ws := wsOf sc; let caps := capsOf g.N sc; let N := ws ++ caps.map fun i => g.N.getD i Str.empty
 if bokB g.sc sc && nodupB N && (caps.all fun k => sc.names.lookup (g.N.getD k Str.empty) == some .free) then some ⟨N, relab g.sc sc, fun x => sc.names.lookup x == some .cell⟩ else none
def cC : Const → Option E
 | .none => some (.const .non)
 | .bool b => some (.const (.bl b))
 | .int i => some (.const (.int i))
 | .str s => some (.const (.str s))
 | _ => none
def opOk : Operator → Bool
 | .Add => true
 | .Sub => true
 | .Mult => true
 | .FloorDiv => true
 | .Mod => true
 | .Pow => true
 | _ => false
def cUn : UnaryOp → E → Option E
 | .USub, a => some (.neg a)
 | .Not, a => some (.not a)
 | _, _ => none
def cL {α β : Type} (f : α → Option β) : List α → Option (List β)
 | [] => some []
 | a :: r => (f a).bind fun b => (cL f r).map fun r => b :: r
def bop : BoolOp → E → E → E
 | .And, x, y => .and x y
 | .Or, x, y => .or x y
def cBool (op : BoolOp) (f : Expr → Option E) : List Expr → Option E
 | [] => none
 | [a] => f a
 | a :: r => (f a).bind fun x => (cBool op f r).map fun y => bop op x y
def notStar : Expr → Bool
 | .Starred _ _ => false
 | _ => true
def notSet : Expr → Bool
 | .Set _ _ _ => false
 | _ => true
def notSlice : Expr → Bool
 | .Slice _ _ _ _ => false
 | _ => true
def notComp : Expr → Bool
 | .ListComp _ _ _ _ => false
 | .SetComp _ _ _ _ => false
 | .DictComp _ _ _ _ _ => false
 | _ => true
def notIfE : Expr → Bool
 | .IfExp _ _ _ _ => false
 | _ => true
def notCall0 : Expr → Bool
 | .Call (.Name _ _) [] [] _ => false
 | _ => true
def isTyOf (x : Str) : Option String :=
 if x = "bool" then some "bool" else if x = "int" then some "int" else if x = "str" then some "str" else if x = "tuple" then some "tuple" else if x = "list" then some "list" else if x = "dict" then some "dict" else none
def cCall (D : Dt) (g : Gm) (x : Str) (es : List Expr) (f : Expr → Option E) : Option E := match g.gv D x with
 | some (.fn i) => if es.all notStar then (cL f es).map fun es => .call i es else none
 | some (.cls _) => none
 | some (.val _) => none
 | none => if g.gb x && D.fr.contains x && es.all notStar && !es.isEmpty then (biOf x).bind fun b => (cL f es).map fun es => .bi b es else none
def cmpOk : CmpOp → Bool
 | .In => false
 | .NotIn => false
 | _ => true
def cTg (g : Gm) : Nat → Expr → Option T
 | 0, _ => none
 | n + 1, e => match e with
  | .Name x _ => (g.lx x).map .var
  | .Tuple es _ _ => if es.all notStar then (cL (cTg g n) es).map .tup else none
  | _ => none
def cIdx (f : Expr → Option E) (o : Expr) : Expr → Option E
 | .Slice lo hi none _ => (f o).bind fun o => match lo, hi with
  | none, none => some (.slc o none none)
  | some a, none => (f a).map fun a => .slc o (some a) none
  | none, some b => (f b).map fun b => .slc o none (some b)
  | some a, some b => (f a).bind fun a => (f b).map fun b => .slc o (some a) (some b)
 | i => if notSlice i then (f o).bind fun o => (f i).map fun i => .idx o i else none
def isInst (x : Str) : Bool := x == ("isinstance" : Str)
def cIs (D : Dt) (g : Gm) (x : Str) (f : Expr → Option E) : List Expr → Option E
 | [a, .Name y _] => if notStar a && g.gb x && D.fr.contains x && g.gb y && D.fr.contains y then (isTyOf y).bind fun n => (f a).map fun a => .bi (.isTy n) [a] else none
 | _ => none
def isRange (x : Str) : Bool := x == ("range" : Str)
def oneGen : List Comprehension → Option Comprehension
 | [c] => some c
 | _ => none
def cIfs (f : Expr → Option E) : List Expr → Option (Option E)
 | [] => some none
 | [c] => if notIfE c then (f c).map some else none
 | _ => none
def cRng (D : Dt) (g : Gm) (x : Str) (f : Expr → Option E) : List Expr → Option Q
 | [a] => if g.gb x && D.fr.contains x && notStar a then (f a).map .rng1 else none
 | [a, b] => if g.gb x && D.fr.contains x && notStar a && notStar b then (f a).bind fun a => (f b).map fun b => .rng2 a b else none
 | _ => none
mutual
def cE (D : Dt) : Nat → Gm → Expr → Option E
 | 0, _, _ => none
 | n + 1, g, e => match e with
  | .Constant c _ _ => cC c
  | .Name x _ => (g.ix x).map .var
  | .BinOp a op b _ => if opOk op then (cE D n g a).bind fun a => (cE D n g b).map fun b => .bin op a b else none
  | .UnaryOp op a _ => if notIfE a then (cE D n g a).bind fun a => cUn op a else none
  | .BoolOp op vs _ => if vs.all notIfE then cBool op (cE D n g) vs else none
  | .Compare a [op] [b] _ => if notSet b && cmpOk op then (cE D n g a).bind fun a => (cE D n g b).map fun b => .cmp op a b else none
  | .IfExp c a b _ => if notIfE c then (cE D n g c).bind fun c => (cE D n g a).bind fun a => (cE D n g b).map fun b => .ite c a b else none
  | .Tuple es _ _ => if es.all notStar then (cL (cE D n g) es).map .tup else none
  | .List es _ => if es.all notStar then (cL (cE D n g) es).map .lst else none
  | .Attribute o f _ => if notCall0 o && D.fx.contains f then (cE D n g o).map fun o => .fld o f else none
  | .Subscript o i _ => cIdx (cE D n g) o i
  | .Call (.Name x _) es [] _ => if isInst x then cIs D g x (cE D n g) es else cCall D g x es (cE D n g)
  | .ListComp elt gens sc _ => (oneGen gens).bind fun c => if c.is_async == 0 && notSet c.iter then (g.block sc).bind fun h => (cQ D n g c.iter).bind fun q => (cTg h n c.target).bind fun t => (cE D n h elt).bind fun e => (cIfs (cE D n h) c.ifs).map fun c => .comp (wsOf sc).length (capsOf g.N sc) t q c e else none
  | _ => none
def cQ (D : Dt) : Nat → Gm → Expr → Option Q
 | 0, _, _ => none
 | n + 1, g, e => match e with
  | .Call (.Name x _) es [] _ => if isRange x then cRng D g x (cE D n g) es else (cE D n g e).map .val
  | _ => (cE D n g e).map .val
end
mutual
def cS (D : Dt) : Nat → Gm → Stmt → Option S
 | 0, _, _ => none
 | n + 1, g, s => match s with
  | .Return none _ => some .retN
  | .Return (some e) _ => (cE D n g e).map .ret
  | .Assign [.Name x _] e _ => (g.lx x).bind fun i => (cE D n g e).map fun e => .set (.var i) e
  | .Assign [.Subscript o i _] e _ => if notSlice i && notComp e then (cE D n g o).bind fun o => (cE D n g i).bind fun i => (cE D n g e).map fun e => .setI o i e else none
  | .Expr e _ => if notComp e then (cE D n g e).map .expr else none
  | .If c a b _ => if notIfE c then (cE D n g c).bind fun c => (cSs D n g a).bind fun a => (cSs D n g b).map fun b => .ife c a b else none
  | .For tg it b [] _ => if notSet it then (cQ D n g it).bind fun q => (cTg g n tg).bind fun t => (cSs D n g b).map fun b => .for t q b else none
  | .Pass _ => some .pass
  | .Break _ => some .brk
  | .Continue _ => some .cont
  | _ => none
def cSs (D : Dt) : Nat → Gm → List Stmt → Option (List S)
 | 0, _, _ => none
 | n + 1, g, ss => match ss with
  | [] => some []
  | s :: r => (cS D n g s).bind fun s => (cSs D n g r).map fun r => s :: r
end
def nsOf (ps : List Str) (sc : Scope) : List Str := ps ++ (sc.names.filter fun y => (y.2 == .local || y.2 == .cell) && !ps.contains y.1).map (·.1)
def cFn (D : Dt) (ps : List Str) (sc : Scope) (body : List Stmt) : Option Fn := let N := nsOf ps sc
 (cSs D 400 ⟨N, sc, fun _ => true⟩ body).map fun b => ⟨ps.length, N.length, b⟩
end PI
namespace PI
open PySem PySem.Spec L2 L2.L3 L2.L4 PySem.SeqAt
open PyProof.Rows hiding St lobj
section
variable {T : CT} {P : Pg} {cl : Cal} {E : XS} {X : Cx} {pos : Pos}
theorem cutN_sIx (n d : Nat) (o : Option Int) : cutN n d o = HT.sIx n d o := by
 cases o <;> rfl
theorem Rels.drop {as : List Addr} {G : Hp} : ∀ {xs : List Val} {us : List L2.V} (n : Nat), Rels T as G xs us → Rels T as G (xs.drop n) (us.drop n)
 | _, _, 0, h => h
 | [], _, _ + 1, h => by cases h; rfl
 | _ :: _, _, n + 1, ⟨u, t, e, h, r⟩ => by subst e; exact Rels.drop n r
theorem Rels.take {as : List Addr} {G : Hp} : ∀ {xs : List Val} {us : List L2.V} (n : Nat), Rels T as G xs us → Rels T as G (xs.take n) (us.take n)
 | _, _, 0, h => rfl
 | [], _, _ + 1, h => by cases h; rfl
 | _ :: _, _, n + 1, ⟨u, t, e, h, r⟩ => by subst e; exact ⟨u, t.take n, rfl, h, Rels.take n r⟩
theorem cut_rels {as : List Addr} {G : Hp} {xs : List Val} {us : List L2.V} (lo hi : Option Int) (r : Rels T as G xs us) : Rels T as G (cut xs lo hi) (cutV us lo hi) := by
 unfold cut cutV
 rw [cutN_sIx, cutN_sIx, r.length]
 exact (r.drop _).take _
def tOp' (T : CT) (P : Pg) (cl : Cal) (E : XS) (e : Option PI.E) : TO := fun σ H Q => ∃ env st as G, Sim T st as G H ∧ EnvR T as G env σ ∧ Post T as G ((runO P cl e env st).bind fun a st => intO a st) (fun v _ _ _ H' => Q v H') (E σ)
theorem o_no : PO X none (tOp' T P cl E none) := fun pins s σ H Q I ⟨env, st, as, G, sm, er, h⟩ => po_none pins s σ H Q I (h.ok sm)
theorem o_so {e : Expr} {ie : PI.E} (he : PE X e (tE T P cl E ie)) : PO X (some e) (tOp' T P cl E (some ie)) := fun pins s σ H Q I ⟨env, st, as, G, sm, er, h⟩ => by
 refine po_some he pins s σ H Q I ?_
 unfold runO at h
 rw [R.bind_assoc] at h
 refine tE_bind sm er h fun x st1 as1 G1 H1 u s1 er1 r1 p1 l1 h => ?_
 cases x with
 | int i =>
  cases r1
  exact ⟨i, rfl, h.ok s1⟩
 | _ => exact h.elim
theorem tO_bind {α : Type} {e : Option PI.E} {env : Env} {st : Store} {as : List Addr} {G H : Hp} {σ : St} {f : Option Int → Store → R α} {Q : α → Store → List Addr → Hp → Hp → Prop} {K : Option Int → Hp → Prop} (s : Sim T st as G H) (er : EnvR T as G env σ)
  (h : Post T as G (((runO P cl e env st).bind fun a st => intO a st).bind f) Q (E σ))
  (k : ∀ v st1 as1 G1 H1, Sim T st1 as1 G1 H1 → EnvR T as1 G1 env σ → as <+: as1 → Le G G1 → Post T as1 G1 (f v st1) Q (E σ) → K v H1) : tOp' T P cl E e σ H K :=
 ⟨env, st, as, G, s, er, h.bind.imp fun v st1 as1 G1 H1 p l s1 q => k v st1 as1 G1 H1 s1 (er.mono p l) p l q⟩
theorem range_cut {α : Type} (xs : List α) (a b : Nat) (h : b ≤ xs.length) : ((List.range (b - a)).filterMap fun i => xs[a + i]?) = (xs.drop a).take (b - a) := by
 induction xs generalizing a b with
 | nil =>
  simp at h
  subst h
  simp
 | cons x xs ih =>
  cases a with
  | zero =>
   cases b with
   | zero => simp
   | succ b =>
    have q := ih 0 b (by simpa using h)
    simp only [Nat.sub_zero, Nat.zero_add, List.drop_zero] at q ⊢
    rw [List.range_succ_eq_map, List.filterMap_cons, List.filterMap_map]
    simp only [List.getElem?_cons_zero, List.take_succ_cons]
    rw [← q]
    rfl
  | succ a =>
   cases b with
   | zero => simp
   | succ b =>
    have q := ih a b (by simpa using h)
    rw [show b + 1 - (a + 1) = b - a by omega, List.drop_succ_cons, ← q]
    congr 1
    funext i
    rw [show a + 1 + i = (a + i) + 1 by omega, List.getElem?_cons_succ]
theorem cutN_le (n : Nat) (o : Option Int) (d : Nat) (h : d ≤ n) : cutN n d o ≤ n := by
 cases o with
 | none => exact h
 | some v =>
  unfold cutN
  simp only
  split <;> omega
theorem strIdx (lo hi : Option Int) (n : Nat) : PySem.Builtin.Str.strSliceIndices lo hi 1 n = (List.range (cutN n n hi - cutN n 0 lo)).map (cutN n 0 lo + ·) := by
 have clip : ∀ (v : Option Int) (d : Nat), ((match v with | none => (d : Int) | some i => if (1 : Int) > 0 then max 0 (min (if i < 0 then i + (n : Int) else i) n) else max (-1) (min (if i < 0 then i + (n : Int) else i) ((n : Int) - 1))) : Int) = ((cutN n d v : Nat) : Int) := fun v d => by
  cases v with
  | none => rfl
  | some i =>
   simp only [cutN]
   rw [if_pos (by decide)]
   split <;> omega
 rw [← sliceRange_one, ← clip lo 0, ← clip hi n]
 rfl
theorem strCut_cut (x : Str) (lo hi : Option Int) : strCut x lo hi = ⟨(cut x.cps.toList lo hi).toArray⟩ := by
 have hl : x.cps.toList.length = x.length := by simp [Str.length]
 have hb := cutN_le x.length hi x.length (Nat.le_refl _)
 have e : ((PySem.Builtin.Str.strSliceIndices lo hi 1 x.length).filterMap (x.cps[·]?)) = cut x.cps.toList lo hi := by
  rw [strIdx, List.filterMap_map]
  unfold cut
  rw [hl, ← range_cut x.cps.toList _ _ (by rw [hl]; exact hb)]
  congr 1
  funext i
  simp
 unfold strCut
 rw [e]
 split
 ·rename_i z
  rw [strIdx] at z
  simp only [List.length_map, List.length_range, beq_iff_eq] at z
  have c0 : cutN x.length 0 lo = 0 ∨ x.length = 0 := by omega
  have c : cut x.cps.toList lo hi = x.cps.toList := by
   unfold cut
   rw [hl]
   by_cases z0 : x.length = 0
   ·have : x.cps.toList = [] := List.eq_nil_of_length_eq_zero (by rw [hl]; exact z0)
    rw [this]
    simp
   ·have c1 : cutN x.length 0 lo = 0 := by omega
    rw [c1, List.drop_zero, List.take_of_length_le (by rw [hl]; omega)]
  rw [c]
 ·rfl
theorem s_slc {o : Expr} {lo hi : Option Expr} {io : PI.E} {il ih : Option PI.E} {p2 : Pos} (hK : T.K = X.K) (ho : PE X o (tE T P cl E io)) (hl : PO X lo (tOp' T P cl E il)) (hh : PO X hi (tOp' T P cl E ih)) : PE X (.Subscript o (.Slice lo hi none p2) pos) (tE T P cl E (.slc io il ih)) :=
 PE.mono (pe_slice ((sl_tup.or sl_list).or sl_str) ho hl hh) fun σ H Q ⟨env, st, as, G, s, er, h⟩ => by
  unfold PI.E.run at h
  refine tE_bind s er h fun x st1 as1 G1 H1 u s1 er1 r1 p1 l1 h => ?_
  refine tO_bind s1 er1 h fun a st2 as2 G2 H2 s2 er2 p2 l2 h => ?_
  refine tO_bind s2 er2 h fun b st3 as3 G3 H3 s3 er3 p3 l3 h => ?_
  have rr := res_rel s3 (r1.mono (p2.trans p3) (l2.trans l3))
  generalize res st3 x = y at h rr
  cases y with
  | tup f xs =>
   obtain ⟨d, us, rfl, q, r⟩ := rr
   obtain ⟨c, h⟩ := Post.iff h
   rw [cutN_sIx, cutN_sIx, r.length] at c
   exact .inl (.inl ⟨d, us, rfl, sqt_le s3.sub q, c, fun p hp => tup_new s3 (cut_rels a b r) h hp⟩)
  | lst xs =>
   obtain ⟨d, us, rfl, q, r⟩ := rr
   exact .inl (.inr ⟨d, us, rfl, hK ▸ q, fun p hp => lst_new s3 (cut_rels a b r) h hp⟩)
  | str z =>
   cases rr
   obtain ⟨c, h⟩ := Post.iff h
   have q := h.ok s3 _ rfl
   refine .inr ⟨z, rfl, c, ?_, by rw [strCut_cut]; exact q⟩
   rw [strCut_cut]
   show (cut z.cps.toList a b).toArray.size ≤ 1000
   unfold cut
   rw [List.size_toArray, List.length_take, List.length_drop]
   have : z.cps.toList.length = z.length := by simp [Str.length]
   omega
  | _ => exact h.elim
end
end PI
namespace PI
open PySem PySem.Spec L2 L2.L3 L2.L4 PySem.SeqAt
open PyProof.Rows hiding St lobj
section
variable {T : CT} {P : Pg} {cl : Cal} {E : XS} {X : Cx} {pos : Pos}
theorem s_idx {a b : Expr} {ia ib : PI.E} (hK : T.K = X.K) (ha : PE X a (tE T P cl E ia)) (hb : PE X b (tE T P cl E ib)) (hs : PlainIx b) : PE X (.Subscript a b pos) (tE T P cl E (.idx ia ib)) :=
 PE.mono (pe_ix ix_seq ha hb hs) fun σ H Q ⟨env, st, as, G, s, er, h⟩ => by
  unfold PI.E.run at h
  refine tE_bind s er h fun x st1 as1 G1 H1 u s1 er1 r1 p1 l1 h => ?_
  refine tE_bind s1 er1 h fun y st2 as2 G2 H2 w s2 er2 r2 p2 l2 h => ?_
  have rr := res_rel s2 (r1.mono p2 l2)
  generalize res st2 x = z at h rr
  cases z with
  | tup f xs => cases y with
   | int i =>
    cases r2
    obtain ⟨d, us, rfl, q, r⟩ := rr
    obtain ⟨v, e, h⟩ := Post.ofO' h
    obtain ⟨u, e2, rv⟩ := atV_atI r e
    exact .inr (.inl ⟨d, us, i, u, rfl, rfl, sqt_le s2.sub q, e2, h.ok s2 _ rv⟩)
   | _ => exact h.elim
  | lst xs => cases y with
   | int i =>
    cases r2
    obtain ⟨d, us, rfl, q, r⟩ := rr
    obtain ⟨v, e, h⟩ := Post.ofO' h
    obtain ⟨u, e2, rv⟩ := atV_atI r e
    exact .inl ⟨d, us, i, u, rfl, rfl, hK ▸ q, e2, h.ok s2 _ rv⟩
   | _ => exact h.elim
  | str t => cases y with
   | int i =>
    cases r2
    cases rr
    obtain ⟨c, h⟩ := Post.iff h
    obtain ⟨v, e, h⟩ := Post.ofO' h
    obtain ⟨c', e1, rfl⟩ := Option.map_eq_some_iff.mp e
    have z : sizeLine = 2 ^ 24 := rfl
    refine .inr (.inr ⟨t, i, c', rfl, rfl, by omega, ?_, h.ok s2 _ rfl⟩)
    unfold atI
    rw [show t.cps.toList.length = t.length by simp [Str.length]]
    exact e1
   | _ => exact h.elim
  | dct ks vs => exact h.elim
  | _ => exact h.elim
theorem of_post {α : Type} {env : Env} {as : List Addr} {G : Hp} {σ : St} {r : R α} {k : α → Store → F} {D : Ends} (h : PostF T as G (F.of env r k) D E) (er : EnvR T as G env σ) : Post T as G r (fun a st as' G' _ => PostF T as' G' (k a st) D E) (E σ) := by
 cases r with
 | ok a st => exact fun as' G' H' p l s => PostF.mono p l h
 | exc x st => exact fun as' G' H' cls dx p l s x => h as' G' H' σ cls dx p l s (er.mono p l) x
 | stuck => exact h
theorem Rels.set {as : List Addr} {G : Hp} {v : Val} {u : L2.V} (h : Rel T as G v u) : ∀ {xs : List Val} {us : List L2.V} (j : Nat), Rels T as G xs us → Rels T as G (xs.set j v) (us.set j u)
 | [], _, _, r => by cases r; rfl
 | _ :: _, _, 0, ⟨w, t, e, _, r⟩ => by subst e; exact ⟨u, t, rfl, h, r⟩
 | _ :: _, _, j + 1, ⟨w, t, e, hw, r⟩ => by subst e; exact ⟨w, t.set j u, rfl, hw, Rels.set h j r⟩
theorem z_setI {a b e : Expr} {ia ib ie : PI.E} {tpos : Pos} (ha : PE X a (tE T P cl E ia)) (hb : PE X b (tE T P cl E ib)) (he : PE X e (tE T P cl E ie)) (hn : notSlice b = true) (hc : notComp e = true) : PS X (.Assign [.Subscript a b tpos] e pos) (tS T P cl E (.setI ia ib ie)) :=
 PS.mono (ps_asg he (pg_sub ha hb set_list (by intro v; cases b <;> first | rfl | cases hn)) (by show swapsWith e (some (.Subscript a b tpos)) pos.line X.env = pure false; cases e <;> first | rfl | cases hc) (by cases e <;> rfl) rfl) fun D σ H ⟨env, st, as, G, s, er, h⟩ => by
  unfold PI.S.run at h
  have h2 := of_post h er
  refine tE_bind s er h2 fun x st1 as1 G1 H1 u s1 er1 r1 p1 l1 h => ?_
  refine tE_bind s1 er1 h fun y st2 as2 G2 H2 w s2 er2 r2 p2 l2 h => ?_
  refine tE_bind s2 er2 h fun z st3 as3 G3 H3 i s3 er3 r3 p3 l3 h => ?_
  cases y with
  | ref k =>
   obtain ⟨d, ed, rfl⟩ := r2.mono p3 l3
   replace h : Post T as3 G3 (setIO k x st3 st3[k]? z) (fun a st as' G' _ => PostF T as' G' (.next env st) D E) (E σ) := h
   cases e1 : st3[k]? with
   | none => rw [e1] at h; exact h.elim
   | some o =>
    rw [e1] at h
    have ob := s3.ob k o d e1 ed
    cases o with
    | lst xs => cases z with
     | int j =>
      cases r3
      obtain ⟨us, q, r⟩ := ob
      obtain ⟨jj, e2, h⟩ := Post.ofO h
      have rx := r1.mono (p2.trans p3) (l2.trans l3)
      have s4 := s3.set (o := .lst (xs.set jj x)) ed ⟨us.set jj u, upd_same, Rels.set rx jj r⟩
      exact ⟨d, us, j, jj, rfl, rfl, q, by rw [← r.length]; exact e2, h.ok s4 as3 G3 _ σ (List.prefix_refl _) (Le.refl _) s4 er3⟩
     | _ => exact h.elim
    | dct ks vs => exact h.elim
    | ins c ns vs => exact h.elim
  | _ => exact h.elim
end
end PI
namespace L2.L3
open PySem PySem.Spec PyProof.Rows
def rIsAt (K : PySem.W.Frag) : List V → Hp → VK → Prop := fun xs H Q => ∃ a n b, xs = [.ref a, .ty n] ∧ ((∃ ys, SqL K H a ys ∧ PySem.W.kitOne K (.type "list") (.type n) = some b) ∨ (∃ ys, SqT K H a ys ∧ PySem.W.kitOne K (.type "tuple") (.type n) = some b) ∨
 (∃ kvs, Rd H a (.dK kvs) ∧ PySem.W.kitOne K (.type "dict") (.type n) = some b) ∨ ∃ kvs, Rd H a (.dT kvs) ∧ PySem.W.kitOne K (.type "dict") (.type n) = some b) ∧ Q (.bl b) H
theorem call_isat {X : Cx} : CallR X (.builtin "isinstance") (rIsAt X.K) := by
 intro pins s σ H xs us Q I r h
 obtain ⟨a, n, b, rfl, h, q⟩ := h
 obtain ⟨u, v, rfl, r1, r2⟩ := Vals.two r
 cases r2
 cases (show u = Value.ref a from r1)
 have fin : ∀ tk, EP X pins σ Q (.bool b) { s with toks := tk } := fun tk => ⟨.bl b, H, I.tok tk, rfl, q⟩
 rcases h with ⟨ys, h, k⟩ | ⟨ys, h, k⟩ | ⟨kvs, h, k⟩ | ⟨kvs, h, k⟩
 ·obtain ⟨its, _, ⟨o, m, e1, e2, _⟩, _⟩ := I.list h
  exact PySem.W.kia_one PySem.W.kitx_list I.kIn ⟨o, e1, e2⟩ k (fun z => nomatch z) fin
 ·obtain ⟨its, _, ⟨o, e1, e2, _⟩, _⟩ := I.tuple h
  exact PySem.W.kia_one PySem.W.kitx_tuple I.kIn ⟨o, e1, e2⟩ k (fun z => nomatch z) fin
 ·obtain ⟨_, _, vs, _, p⟩ := dk_rd I.hok h
  obtain ⟨o, es, ep, h1, h2, _⟩ := p
  exact PySem.W.kia_one PySem.W.kitx_dict I.kIn ⟨o, h1, h2.1⟩ k (fun z => nomatch z) fin
 ·obtain ⟨_, _, xs, _, o, es, ep, h1, h2, _⟩ := dt_rd I.hok h
  exact PySem.W.kia_one PySem.W.kitx_dict I.kIn ⟨o, h1, h2.1⟩ k (fun z => nomatch z) fin
end L2.L3
namespace PI
open PySem PySem.Spec L2 L2.L3 L2.L4 PySem.SeqAt
open PyProof.Rows hiding St lobj
section
variable {T : CT} {P : Pg} {cl : Cal} {E : XS} {X : Cx} {pos : Pos}
def Kits (K : PySem.W.Frag) : Prop := ∀ a n, a ∈ ["NoneType", "bool", "int", "str", "tuple", "list", "dict"] → n ∈ ["bool", "int", "str", "tuple", "list", "dict"] → PySem.W.kitOne K (.type a) (.type n) = some (a == n || (a == "bool" && n == "int"))
theorem isTyOf_in {y : Str} {n : String} (h : isTyOf y = some n) : n ∈ ["bool", "int", "str", "tuple", "list", "dict"] ∧ bootBuiltins y = some (.type n) ∧ y ≠ "__name__" ∧ (y == ("__debug__" : Str)) = false := by
 unfold isTyOf at h
 split at h
 ·rename_i z; subst z; cases h; exact ⟨by decide, PyProof.Rows.Boot.«bool», by decide, by decide⟩
 split at h
 ·rename_i z; subst z; cases h; exact ⟨by decide, PyProof.Rows.Boot.«int», by decide, by decide⟩
 split at h
 ·rename_i z; subst z; cases h; exact ⟨by decide, PyProof.Rows.Boot.«str», by decide, by decide⟩
 split at h
 ·rename_i z; subst z; cases h; exact ⟨by decide, PyProof.Rows.boot_tuple, by decide, by decide⟩
 split at h
 ·rename_i z; subst z; cases h; exact ⟨by decide, PyProof.Rows.Boot.«list», by decide, by decide⟩
 split at h
 ·rename_i z; subst z; cases h; exact ⟨by decide, PyProof.Rows.Boot.«dict», by decide, by decide⟩
 cases h
theorem isTy_at {as : List Addr} {G H : Hp} {v : Val} {u : L2.V} {n : String} {b : Bool} {Q : VK} (hK : T.K = X.K) (kt : Kits X.K) (l : Le G H) (hn : n ∈ ["bool", "int", "str", "tuple", "list", "dict"]) (r : RelT T as G H v u) (e : isTy n v = some b) (q : Q (.bl b) H) : (rIsTy X.K [u, .ty n] H Q ∨ rIsAt X.K [u, .ty n] H Q) := by
 have kk := fun a h => kt a n h hn
 have sy : ∀ a : String, (a == n) = (n == a) := fun a => by
  by_cases h : a = n
  ·rw [h]
  ·rw [beq_eq_false_iff_ne.mpr h, beq_eq_false_iff_ne.mpr (Ne.symm h)]
 have fin1 : ∀ {c : Bool} {a : String}, Q (.bl c) H → (a == "bool") = false → Q (.bl (c || (a == "bool" && n == "int"))) H := fun {c a} h e => by
  rw [e, Bool.false_and, Bool.or_false]
  exact h
 cases v with
 | non =>
  cases r; cases e
  have := kk "NoneType" (by decide)
  refine .inl ⟨_, _, n, _, rfl, .non, this, ?_⟩
  have z : ("NoneType" == n || ("NoneType" == "bool" && n == "int")) = false := by
   have : "NoneType" ≠ n := fun z => by rw [← z] at hn; exact absurd hn (by decide)
   rw [beq_eq_false_iff_ne.mpr this, show ("NoneType" == "bool") = false from by decide]
   rfl
  rw [z]
  exact q
 | bl t =>
  cases r; cases e
  refine .inl ⟨_, _, n, _, rfl, .bl t, kk "bool" (by decide), ?_⟩
  rw [sy, show ("bool" == "bool") = true from by decide, Bool.true_and]
  exact q
 | int t =>
  cases r; cases e
  refine .inl ⟨_, _, n, _, rfl, .int t, kk "int" (by decide), ?_⟩
  rw [sy]
  exact fin1 q (by decide)
 | str t =>
  cases r; cases e
  refine .inl ⟨_, _, n, _, rfl, .str t, kk "str" (by decide), ?_⟩
  rw [sy]
  exact fin1 q (by decide)
 | tup f xs =>
  obtain ⟨a, us, rfl, h1, h2⟩ := r
  cases e
  refine .inr ⟨a, n, _, rfl, .inr (.inl ⟨us, sqt_le l h1, kk "tuple" (by decide)⟩), ?_⟩
  rw [sy]
  exact fin1 q (by decide)
 | lst xs =>
  obtain ⟨a, us, rfl, h1, h2⟩ := r
  cases e
  refine .inr ⟨a, n, _, rfl, .inl ⟨us, hK ▸ h1, kk "list" (by decide)⟩, ?_⟩
  rw [sy]
  exact fin1 q (by decide)
 | dct ks vs =>
  obtain ⟨a, us, rfl, h1, h2⟩ := r
  cases e
  have q2 : Q (.bl ("dict" == n || ("dict" == "bool" && n == "int"))) H := by
   rw [sy]
   exact fin1 q (by decide)
  rcases h1 with ⟨_, _, _, h⟩ | ⟨_, _, _, h⟩
  ·exact .inr ⟨a, n, _, rfl, .inr (.inr (.inl ⟨_, h, kk "dict" (by decide)⟩)), q2⟩
  ·exact .inr ⟨a, n, _, rfl, .inr (.inr (.inr ⟨_, h, kk "dict" (by decide)⟩)), q2⟩
 | obj c ns vs => cases e
 | ref k => cases e
theorem s_isTy {a : Expr} {ia : PI.E} {n : String} {x y : Str} {p p2 : Pos} (hK : T.K = X.K) (kt : Kits X.K) (hx : x = "isinstance") (hy : isTyOf y = some n) (ha : PE X a (tE T P cl E ia)) (gx : Gl X x) (mx : X.mg x = none) (gy : Gl X y) (my : X.mg y = none) (hs : notStar a = true) :
  PE X (.Call (.Name x p) [a, .Name y p2] [] pos) (tE T P cl E (.bi (.isTy n) [ia])) := by
 subst hx
 obtain ⟨t1, t2, t3, t4⟩ := isTyOf_in hy
 refine PE.mono (pe_callB ((call_isty (X := X)).or call_isat) gx mx PyProof.Rows.Boot.«isinstance» (pa_cons ha (pa_cons (pe_bltn (v := .ty n) gy my t2 rfl t3 t4) pa_nil rfl) (by cases a <;> first | rfl | cases hs)) (by decide) (by decide) (by cases a <;> first | rfl | cases hs) rfl) fun σ H Q ⟨env, st, as, G, s, er, h⟩ => ?_
 unfold PI.E.run at h
 replace h : Post T as G (((ia.run P cl env st).bind fun x st => .ok [x] st).bind fun xs st => biV (.isTy n) (xs.map (res st)) st) (fun v _ as' G' H' => ∀ u, Rel T as' G' v u → Q u H') (E σ) := by
  have z : runEs P cl [ia] env st = (ia.run P cl env st).bind fun x st => .ok [x] st := by
   unfold runEs
   rfl
  rw [z] at h
  exact h
 rw [R.bind_assoc] at h
 refine tE_bind s er h fun x st1 as1 G1 H1 u s1 er1 r1 p1 l1 h => ?_
 obtain ⟨v, e, h⟩ := Post.ofO' (show Post T as1 G1 (R.ofO ((isTy n (res st1 x)).map .bl) st1) (fun v _ as' G' H' => ∀ u, Rel T as' G' v u → Q u H') (E σ) from h)
 obtain ⟨b, e1, rfl⟩ := Option.map_eq_some_iff.mp e
 exact isTy_at hK kt s1.sub t1 (res_rel s1 r1) e1 (h.ok s1 _ rfl)
end
end PI
namespace PI
open PySem PySem.Spec L2 L2.L3 L2.L4 PySem.SeqAt
open PyProof.Rows hiding St lobj
structure Md where
 fa : Nat → Addr
 fd : Nat → FuncData
 ps : Nat → List Str
structure MOk (D : Dt) (P : Pg) (T : CT) (M : Md) (mg : Str → Option Value) : Prop where
 fn : ∀ x i, D.gl.lookup x = some (.fn i) → mg x = some (.ref (M.fa i)) ∧ PySem.W.keepIn T.K (.ref (M.fa i)) = true ∧ Binds T.K (M.fd i) (M.ps i) []
 fr : ∀ x, D.fr.contains x = true → mg x = none
 ty : Kits T.K
 cls : COk T P
 fx : ∀ f, D.fx.contains f = true → ∀ (c : Nat) k, P.cl c = some k → f ∈ k.flds → k.exc = false
structure XOk (T : CT) (P' : Program) (w : World) (mg : Str → Option Value) (base : Heap) (k : Nat) (g : Gm) (X : Cx) : Prop where
 N : X.N = g.N
 nd : g.N.Nodup
 sc : X.env.scope = g.sc
 fn : ∀ x, g.fn x = true → X.fn x = true
 kd : g.sc.kind = .function
 fm : Framed X
 hx : Held X
 calm : X.calm = true
 K : T.K = X.K
 prog : X.prog = P'
 w : X.w = w
 mg : X.mg = mg
 base : X.base = base
 room : Room k X.A
theorem idx_at {N : List Str} {x : Str} {i : Nat} (h : N.idxOf? x = some i) : N[i]? = some x := by
 rw [List.idxOf?, List.findIdx?_eq_some_iff_getElem] at h
 obtain ⟨l, e, _⟩ := h
 rw [List.getElem?_eq_getElem l]
 exact congrArg some (by simpa using e)
section
variable {T : CT} {P : Pg} {D : Dt} {M : Md} {P' : Program} {w : World} {mg : Str → Option Value} {base : Heap} {k : Nat} {g : Gm} {X : Cx}
theorem XOk.ix (h : XOk T P' w mg base k g X) {x : Str} {i : Nat} (e : g.ix x = some i) : X.N[i]? = some x ∧ Vis X.env.scope x ∧ (x == ("__debug__" : Str)) = false ∧ (x == ("__classdict__" : Str)) = false := by
 unfold Gm.ix at e
 split at e
 ·cases e
 ·rename_i z
  rw [Bool.or_eq_true, not_or] at z
  obtain ⟨j, e1, e2⟩ := Option.bind_eq_some_iff.mp e
  split at e2
  ·rename_i v
   cases e2
   refine ⟨h.N ▸ idx_at e1, ?_, by simpa using z.1, by simpa using z.2⟩
   unfold visB at v
   rw [h.sc]
   simp only [Bool.or_eq_true, beq_iff_eq] at v
   exact or_assoc.mp v
  ·cases e2
theorem XOk.lx (h : XOk T P' w mg base k g X) {x : Str} {i : Nat} (e : g.lx x = some i) : X.N[i]? = some x ∧ Loc X.env.scope x ∧ (X.fn x = true ∨ X.env.scope.names.lookup x = some .local) := by
 unfold Gm.lx at e
 obtain ⟨j, e1, e2⟩ := Option.bind_eq_some_iff.mp e
 split at e2
 ·rename_i v
  cases e2
  rw [Bool.and_eq_true] at v
  refine ⟨h.N ▸ idx_at e1, ?_, ?_⟩
  ·have := v.1
   unfold locB at this
   rw [h.sc]
   simp only [Bool.or_eq_true, beq_iff_eq] at this
   exact this
  ·have := v.2
   rw [Bool.or_eq_true] at this
   refine this.imp (h.fn x) fun q => ?_
   rw [h.sc]
   simpa using q
 ·cases e2
theorem XOk.gb (h : XOk T P' w mg base k g X) {x : Str} (e : g.gb x = true) : Gl X x ∧ (x == ("__debug__" : Str)) = false ∧ x ≠ "__name__" := by
 unfold Gm.gb at e
 rw [Bool.and_eq_true, Bool.and_eq_true] at e
 refine ⟨?_, by simpa using e.1.2, by simpa using e.2⟩
 show X.env.scope.names.lookup x = some .globalImplicit
 rw [h.sc]
 simpa [Gm.gl] using e.1.1
theorem gv_at {x : Str} {v : Gv} (e : g.gv D x = some v) : g.gb x = true ∧ D.gl.lookup x = some v := by
 unfold Gm.gv at e
 split at e
 ·rename_i z
  exact ⟨z, e⟩
 ·cases e
end
theorem star_ok {e : Expr} {es : List Expr} {env : PySem.Env} (h : notStar e = true) : starEach (e :: es) env = (false, eval e env) :: starEach es env := by
 cases e <;> first | rfl | cases h
theorem stars_ok {env : PySem.Env} {pos : Pos} : ∀ {es : List Expr}, es.all notStar = true → (backTo pos (starEach es env)).any (·.1) = false
 | [], _ => rfl
 | e :: es, h => by
  rw [List.all_cons, Bool.and_eq_true] at h
  rw [star_ok h.1]
  show (false || (backTo pos (starEach es env)).any (·.1)) = false
  rw [stars_ok h.2]
  rfl
theorem plain_ok {b : Expr} (h : notSlice b = true) : PlainIx b := by
 intro o i
 cases b <;> first | rfl | cases h
theorem set_ok {e : Expr} {env : PySem.Env} (h : notSet e = true) : ∀ x, foldedSetIterable e env x = pure x := by
 intro x
 cases e <;> first | rfl | cases h
theorem mark_ok {op : CmpOp} {b : Expr} (h : notSet b = true) : behindInMarks op b = false := by
 cases b <;> first | rfl | cases h
theorem comp_ok {e : Expr} {t : Option Expr} {line : Nat} {env : PySem.Env} (h : notComp e = true) : swapsWith e t line env = pure false := by
 cases e <;> first | rfl | cases h
theorem base_ok {o : Expr} {f : Str} {env : PySem.Env} {whole : Sem Value} (h : notCall0 o = true) : attributeBase o f env whole = whole := by
 cases o <;> first | rfl | skip
 rename_i fn as ks pos
 cases fn <;> first | rfl | skip
 cases as <;> first | rfl | skip
 cases ks <;> first | rfl | cases h
theorem cL_cons {α β : Type} {f : α → Option β} {a : α} {r : List α} {l : List β} (h : cL f (a :: r) = some l) : ∃ b t, f a = some b ∧ cL f r = some t ∧ l = b :: t := by
 unfold cL at h
 obtain ⟨b, e1, e2⟩ := Option.bind_eq_some_iff.mp h
 obtain ⟨t, e3, e4⟩ := Option.map_eq_some_iff.mp e2
 exact ⟨b, t, e1, e3, e4.symm⟩
theorem eq2 {α β γ : Type} {x : Option α} {y : α → Option β} {f : α → β → γ} {c : γ} (h : (x.bind fun a => (y a).map fun b => f a b) = some c) : ∃ a b, x = some a ∧ y a = some b ∧ c = f a b := by
 obtain ⟨a, e1, e2⟩ := Option.bind_eq_some_iff.mp h
 obtain ⟨b, e3, e4⟩ := Option.map_eq_some_iff.mp e2
 exact ⟨a, b, e1, e3, e4.symm⟩
theorem eq3 {α β γ δ : Type} {x : Option α} {y : α → Option β} {z : α → β → Option γ} {f : α → β → γ → δ} {c : δ} (h : (x.bind fun a => (y a).bind fun b => (z a b).map fun d => f a b d) = some c) : ∃ a b d, x = some a ∧ y a = some b ∧ z a b = some d ∧ c = f a b d := by
 obtain ⟨a, e1, e2⟩ := Option.bind_eq_some_iff.mp h
 obtain ⟨b, d, e3, e4, e5⟩ := eq2 e2
 exact ⟨a, b, d, e1, e3, e4, e5⟩
theorem eqi {α : Type} {b : Bool} {x : Option α} {c : α} (h : (if b = true then x else none) = some c) : b = true ∧ x = some c := by
 split at h
 ·rename_i z
  exact ⟨z, h⟩
 ·cases h
end PI
namespace PI
open PySem PySem.Spec L2 L2.L3 L2.L4 PySem.SeqAt
open PyProof.Rows hiding St lobj
theorem nodup_ok : ∀ {l : List Str}, nodupB l = true → l.Nodup
 | [], _ => List.nodup_nil
 | x :: r, h => by
  unfold nodupB at h
  rw [Bool.and_eq_true] at h
  rw [List.nodup_cons]
  refine ⟨?_, nodup_ok h.2⟩
  have := h.1
  simpa using this
theorem bok_ok {S sc : Scope} (h : bokB S sc = true) : BlockOkC S sc := by
 unfold bokB at h
 simp only [Bool.and_eq_true, List.all_eq_true, Bool.or_eq_true, Bool.not_eq_true', beq_iff_eq, beq_eq_false_iff_ne] at h
 obtain ⟨⟨⟨h1, h2⟩, h3⟩, h4⟩ := h
 refine ⟨h1, fun y hy e => (h2 y hy).elim (fun z => absurd e z) id, fun y hy e => ?_, fun y hy e => (h4 y hy).elim (fun z => absurd e z) id⟩
 rcases h3 y hy with (z | z) | z
 ·exact absurd e z
 ·exact .inl z
 ·exact .inr z
section
variable {T : CT} {P : Pg} {D : Dt} {M : Md} {P' : Program} {w : World} {mg : Str → Option Value} {base : Heap} {k : Nat} {g : Gm} {X : Cx}
theorem XOk.block (h : XOk T P' w mg base k g X) {sc : Scope} {g' : Gm} (e : g.block sc = some g') : BlockOkC X.env.scope sc ∧ (∀ j ∈ capsOf g.N sc, sc.names.lookup (X.N.getD j Str.empty) = some .free) ∧
  ∀ own C fp pn s H, (∀ b ∈ fp, ∃ o, (b, o) ∈ pn) → XOk T P' w mg base k g' (cxK X own (wsOf sc) (capsOf g.N sc) sc C fp pn s H) := by
 unfold Gm.block at e
 simp only at e
 split at e
 ·rename_i z
  simp only [Bool.and_eq_true] at z
  obtain ⟨⟨z1, z2⟩, z3⟩ := z
  cases e
  refine ⟨h.sc ▸ bok_ok z1, fun j hj => ?_, fun own C fp pn s H hh => ⟨?_, nodup_ok z2, ?_, fun x q => q, ?_, h.fm, hh, h.calm, h.K, h.prog, h.w, h.mg, h.base, h.room⟩⟩
  ·rw [h.N]
   simpa using (List.all_eq_true.mp z3) j hj
  ·show wsOf sc ++ (capsOf g.N sc).map (fun i => X.N.getD i Str.empty) = _
   rw [h.N]
  ·show relabel sc X.env = relab g.sc sc
   rw [← h.sc]
   rfl
  ·exact (bok_ok z1).kind
 ·cases e
end
section
variable {T : CT} {X : Cx}
theorem op_ok (hK : T.K = X.K) {op : Operator} (h : opOk op = true) : OpR X (binaryOp op) (rOp T (binV op)) := by
 cases op <;> first | (cases h; done) | exact op_add' hK | exact op_sub' | exact op_mul' | exact op_div' | exact op_mod' | exact op_pow'
theorem cp_ok (hK : T.K = X.K) (hu : X.A.units + 8 < cLine) {op : CmpOp} (h : cmpOk op = true) : OpR X (compareOp op) (rOp T fun x y st => blR (cmpV op x y st)) := by
 cases op <;> first | (cases h; done) | exact op_eq' hK hu | exact op_ne' hK hu | exact op_lt' | exact op_le' | exact op_gt' | exact op_ge' | exact op_is' | exact op_isnot'
theorem bi_ok (hK : T.K = X.K) (hc : X.calm = true) {x : Str} {b : Bi} (h : biOf x = some b) : (∃ id, bootBuiltins x = some (.builtin id) ∧ CallR X (.builtin id) (rBi T b)) ∨ ∃ id, bootBuiltins x = some (.type id) ∧ CallR X (.type id) (rBi T b) := by
 unfold biOf at h
 split at h
 ·rename_i z; subst z; cases h; exact .inl ⟨"len", PySem.boot_len, call_len' hK⟩
 split at h
 ·rename_i z; subst z; cases h; exact .inl ⟨"abs", PyProof.Rows.Boot.«abs», call_abs'⟩
 split at h
 ·rename_i z; subst z; cases h; exact .inr ⟨"int", PyProof.Rows.Boot.«int», call_int'⟩
 split at h
 ·rename_i z; subst z; cases h; exact .inr ⟨"tuple", PyProof.Rows.boot_tuple, call_tuple' hK⟩
 split at h
 ·rename_i z; subst z; cases h; exact .inr ⟨"list", PyProof.Rows.Boot.«list», call_list' hK⟩
 split at h
 ·rename_i z; subst z; cases h; exact .inl ⟨"all", PyProof.Rows.Boot.«all», call_all' hK hc⟩
 cases h
end
end PI
namespace PI
open PySem PySem.Spec L2 L2.L3 L2.L4 PySem.SeqAt
open PyProof.Rows hiding St lobj
def Snd (T : CT) (P : Pg) (m : Nat) (X : Cx) (e : Expr) (ie : PI.E) : Prop := ∀ E : XS, PE (X.wish (L4.XE X E)) e (tE T P (call P m) E ie) ∧ (notIfE e = true → PT (X.wish (L4.XE X E)) e (tT T P (call P m) E ie))
section
variable {T : CT} {P : Pg} {D : Dt} {M : Md} {P' : Program} {w : World} {mg : Str → Option Value} {base : Heap} {k m : Nat} {g : Gm} {X : Cx}
theorem snd_val {e : Expr} {ie : PI.E} (O : XOk T P' w mg base k g X) (h : ∀ E : XS, PE (X.wish (L4.XE X E)) e (tE T P (call P m) E ie)) (he : ∀ whole, isTrue e X.env whole = (do let v ← whole; standAt e.pos; holding [v] (truthy v))) : Snd T P m X e ie := fun E => ⟨h E, fun _ => t_val (X := X.wish (L4.XE X E)) O.K (h E) he⟩
theorem snd_A {f : Expr → Option PI.E} (ih : ∀ e ie, f e = some ie → Snd T P m X e ie) (E : XS) : ∀ {es : List Expr} {ies : List PI.E}, es.all notStar = true → cL f es = some ies → PA (X.wish (L4.XE X E)) es (tEs T P (call P m) E ies)
 | [], _, _, h => by
  cases h
  exact a_nil
 | e :: es, ies, hs, h => by
  rw [List.all_cons, Bool.and_eq_true] at hs
  obtain ⟨b, t, e1, e2, rfl⟩ := cL_cons h
  exact a_cons (ih e b e1 E).1 (snd_A ih E hs.2 e2) (star_ok hs.1)
theorem snd_bool {f : Expr → Option PI.E} (ih : ∀ e ie, f e = some ie → Snd T P m X e ie) {op : BoolOp} {pos : Pos} (E : XS) : ∀ {vs : List Expr} {ie : PI.E}, vs.all notIfE = true → cBool op f vs = some ie →
  PE (X.wish (L4.XE X E)) (.BoolOp op vs pos) (tE T P (call P m) E ie) ∧ PW (X.wish (L4.XE X E)) (.BoolOp op vs pos) (tT T P (call P m) E ie)
 | [], _, _, h => by cases h
 | [a], ie, hn, h => by
  rw [List.all_cons, Bool.and_eq_true] at hn
  have q := ih a ie h E
  refine ⟨pe_one q.1, ?_⟩
  cases op
  ·exact pw_and1 (q.2 hn.1)
  ·exact pw_or1 (q.2 hn.1)
 | a :: b :: r, ie, hn, h => by
  rw [List.all_cons, Bool.and_eq_true] at hn
  replace h : ((f a).bind fun x => (cBool op f (b :: r)).map fun y => bop op x y) = some ie := h
  obtain ⟨x, y, e1, e2, rfl⟩ := eq2 h
  have q := ih a x e1 E
  have z := snd_bool ih (op := op) (pos := pos) E hn.2 e2
  cases op
  ·exact ⟨s_and q.1 z.1, t_and (q.2 hn.1) z.2⟩
  ·exact ⟨s_or q.1 z.1, t_or (q.2 hn.1) z.2⟩
theorem snd_call (MO : MOk D P T M mg) (hc : ∀ i, FnOk P' w T.K mg base (CXE P' w) k (M.fa i) (M.fd i) (M.ps i) (spF T P m i)) (O : XOk T P' w mg base k g X) {f : Expr → Option PI.E} (ih : ∀ e ie, f e = some ie → Snd T P m X e ie)
  {x : Str} {p pos : Pos} {es : List Expr} {ie : PI.E} (h : cCall D g x es f = some ie) (E : XS) : PE (X.wish (L4.XE X E)) (.Call (.Name x p) es [] pos) (tE T P (call P m) E ie) := by
 unfold cCall at h
 split at h
 ·rename_i i z
  obtain ⟨a1, h⟩ := eqi h
  obtain ⟨ies, e1, rfl⟩ := Option.map_eq_some_iff.mp h
  obtain ⟨z1, z2⟩ := gv_at z
  obtain ⟨g1, g2, g3⟩ := O.gb z1
  obtain ⟨f1, f2, f3⟩ := MO.fn x i z2
  have F := hc i
  rw [← O.prog, ← O.w, ← O.mg, ← O.base, O.K] at F
  have A := snd_A ih E a1 e1
  cases es with
  | nil =>
   cases e1
   exact s_call0 F O.room (O.K ▸ f3) O.hx g1 (O.mg ▸ f1) (O.K ▸ f2) g2
  | cons e es =>
   rw [List.all_cons, Bool.and_eq_true] at a1
   exact s_call F O.room (O.K ▸ f3) O.hx g1 (O.mg ▸ f1) (O.K ▸ f2) A g2 (star_ok a1.1) (stars_ok a1.2)
 ·cases h
 ·cases h
 ·rename_i z
  obtain ⟨a1, h⟩ := eqi h
  obtain ⟨b, ies, e1, e2, rfl⟩ := eq2 h
  simp only [Bool.and_eq_true] at a1
  obtain ⟨⟨⟨c1, c2⟩, c3⟩, c4⟩ := a1
  obtain ⟨g1, g2, g3⟩ := O.gb c1
  have mn := MO.fr x c2
  have A := snd_A ih E c3 e2
  cases es with
  | nil => cases c4
  | cons e es =>
   rw [List.all_cons, Bool.and_eq_true] at c3
   rcases bi_ok (X := X.wish (L4.XE X E)) O.K O.calm e1 with ⟨id, b1, b2⟩ | ⟨id, b1, b2⟩
   ·exact s_biB b2 g1 (by show X.mg x = none; rw [O.mg]; exact mn) b1 A g3 g2 (star_ok c3.1) (stars_ok c3.2)
   ·exact s_biT b2 g1 (by show X.mg x = none; rw [O.mg]; exact mn) b1 A g3 g2 (star_ok c3.1) (stars_ok c3.2)
theorem snd_T (O : XOk T P' w mg base k g X) : ∀ (n : Nat) (e : Expr) (t : PI.T) (E : XS), cTg g n e = some t → PG (X.wish (L4.XE X E)) e (tG T t) := by
 intro n
 induction n with
 | zero => intro e t E h; cases h
 | succ n ih =>
  intro e t E h
  cases e <;> first | (cases h; done) | skip
  ·rename_i x pos
   obtain ⟨i, e1, rfl⟩ := Option.map_eq_some_iff.mp (show (g.lx x).map PI.T.var = some t from h)
   obtain ⟨h1, h2, h3⟩ := O.lx e1
   exact g_var (X := X.wish (L4.XE X E)) (by show X.N.Nodup; rw [O.N]; exact O.nd) h1 h2 h3
  ·rename_i es k' pos
   obtain ⟨a1, h⟩ := eqi (show (if es.all notStar = true then (cL (cTg g n) es).map PI.T.tup else none) = some t from h)
   obtain ⟨ts, e1, rfl⟩ := Option.map_eq_some_iff.mp h
   have all : ∀ {es : List Expr} {ts : List PI.T}, es.all notStar = true → cL (cTg g n) es = some ts → PGs (X.wish (L4.XE X E)) es (tGs T ts) ∧ (assignEach es X.env).length = ts.length ∧ (assignEach es X.env).findIdx? (·.1) = none := by
    intro es
    induction es with
    | nil =>
     intro ts _ h
     cases h
     exact ⟨gs_nil, rfl, rfl⟩
    | cons e es ihs =>
     intro ts hs h
     rw [List.all_cons, Bool.and_eq_true] at hs
     obtain ⟨b, r, e1, e2, rfl⟩ := cL_cons h
     obtain ⟨q1, q2, q3⟩ := ihs hs.2 e2
     have z : assignEach (e :: es) X.env = (false, assign e X.env) :: assignEach es X.env := by
      have := hs.1
      cases e <;> first | rfl | cases this
     refine ⟨gs_cons (ih e b E e1) q1 (by show (assignEach (e :: es) X.env).map (·.2) = _; rw [z]; rfl), by rw [z]; simp [q2], ?_⟩
     rw [z, List.findIdx?_cons]
     simp [q3]
   obtain ⟨q1, q2, q3⟩ := all a1 e1
   exact g_tup (X := X.wish (L4.XE X E)) O.K O.calm q1 rfl q2 q3
end
end PI
namespace PI
open PySem PySem.Spec L2 L2.L3 L2.L4 PySem.SeqAt
open PyProof.Rows hiding St lobj
section
variable {T : CT} {P : Pg} {D : Dt} {M : Md} {P' : Program} {w : World} {mg : Str → Option Value} {base : Heap} {k m : Nat}
theorem snd_is (MO : MOk D P T M mg) {g : Gm} {X : Cx} (O : XOk T P' w mg base k g X) {f : Expr → Option PI.E} (ih : ∀ e ie, f e = some ie → Snd T P m X e ie) {x : Str} {p pos : Pos} {es : List Expr} {ie : PI.E} (zx : isInst x = true) (h : cIs D g x f es = some ie) (E : XS) :
  PE (X.wish (L4.XE X E)) (.Call (.Name x p) es [] pos) (tE T P (call P m) E ie) := by
 unfold cIs at h
 split at h
 ·rename_i a y p2
  obtain ⟨c, h⟩ := eqi h
  simp only [Bool.and_eq_true] at c
  obtain ⟨⟨⟨⟨c1, c2⟩, c3⟩, c4⟩, c5⟩ := c
  obtain ⟨ty, ia, e1, e2, rfl⟩ := eq2 h
  exact s_isTy (X := X.wish (L4.XE X E)) O.K (O.K ▸ MO.ty) (by simpa [isInst] using zx) e1 (ih a ia e2 E).1 (O.gb c2).1 (by show X.mg x = none; rw [O.mg]; exact MO.fr x c3) (O.gb c4).1 (by show X.mg y = none; rw [O.mg]; exact MO.fr y c5) c1
 ·cases h
theorem comp_parts {g : Gm} {n : Nat} {elt : Expr} {gens : List Comprehension} {sc : Scope} {pos : Pos} {ie : PI.E} (h : cE D (n + 1) g (.ListComp elt gens sc pos) = some ie) : ∃ tg iter ifs g' q t c ee, gens = [⟨tg, iter, ifs, 0⟩] ∧ notSet iter = true ∧ g.block sc = some g' ∧ cQ D n g iter = some q ∧ cTg g' n tg = some t ∧ cE D n g' elt = some ee ∧
  cIfs (cE D n g') ifs = some c ∧ ie = .comp (wsOf sc).length (capsOf g.N sc) t q c ee := by
 obtain ⟨c, o, h⟩ := Option.bind_eq_some_iff.mp (show ((oneGen gens).bind fun c => _) = some ie from h)
 obtain rfl : gens = [c] := by
  unfold oneGen at o
  split at o <;> cases o
  rfl
 obtain ⟨tg, iter, ifs, as⟩ := c
 obtain ⟨z, h⟩ := eqi (show (if (as == 0 && notSet iter) = true then _ else none) = some ie from h)
 rw [Bool.and_eq_true, beq_iff_eq] at z
 obtain ⟨rfl, z⟩ := z
 obtain ⟨g', b1, h⟩ := Option.bind_eq_some_iff.mp h
 obtain ⟨q, b2, h⟩ := Option.bind_eq_some_iff.mp h
 obtain ⟨t, b3, h⟩ := Option.bind_eq_some_iff.mp h
 obtain ⟨ee, b4, h⟩ := Option.bind_eq_some_iff.mp h
 obtain ⟨c, b5, rfl⟩ := Option.map_eq_some_iff.mp h
 exact ⟨tg, iter, ifs, g', q, t, c, ee, rfl, z, b1, b2, b3, b4, b5, rfl⟩
theorem snd_ifs {X : Cx} {f : Expr → Option PI.E} (ih : ∀ e ie, f e = some ie → Snd T P m X e ie) {ifs : List Expr} {c : Option PI.E} (h : cIfs f ifs = some c) (E : XS) : PTs (X.wish (L4.XE X E)) ifs (tO T P (call P m) E c) := by
 cases ifs with
 | nil =>
  cases h
  exact o_none
 | cons f' r => cases r with
  | cons _ _ => cases h
  | nil =>
   obtain ⟨c1, b6⟩ := eqi (show (if notIfE f' = true then (f f').map some else none) = some c from h)
   obtain ⟨x, e1, rfl⟩ := Option.map_eq_some_iff.mp b6
   exact o_some ((ih f' x e1 E).2 c1)
theorem snd_comp {g : Gm} {X : Cx} (O : XOk T P' w mg base k g X) {n : Nat} (ihE : ∀ (g : Gm) (X : Cx) (e : Expr) (ie : PI.E), XOk T P' w mg base k g X → cE D n g e = some ie → Snd T P m X e ie)
  (ihQ : ∀ (g : Gm) (X : Cx) (e : Expr) (q : PI.Q), XOk T P' w mg base k g X → cQ D n g e = some q → ∀ (E : XS) (tg : Expr), L2.PI (X.wish (L4.XE X E)) tg e (tQ T P (call P m) E q))
  {elt : Expr} {gens : List Comprehension} {sc : Scope} {pos : Pos} {ie : PI.E} (h : cE D (n + 1) g (.ListComp elt gens sc pos) = some ie) (E : XS) : PE (X.wish (L4.XE X E)) (.ListComp elt gens sc pos) (tE T P (call P m) E ie) := by
 obtain ⟨tg, iter, ifs, g', q, t, c, ee, rfl, z, b1, b2, b3, b4, b5, rfl⟩ := comp_parts h
 obtain ⟨k1, k2, k3⟩ := O.block b1
 exact s_comp O.fm O.hx k1 O.calm k2 (ihQ g X iter q O b2 E tg) (fun σ own C fp pn s H hh => snd_T (k3 own C fp pn s H hh) n tg t _ b3) (fun σ own C fp pn s H hh => snd_ifs (fun e ie => ihE g' _ e ie (k3 own C fp pn s H hh)) b5 _) (fun σ own C fp pn s H hh => (ihE g' _ elt ee (k3 own C fp pn s H hh) b4 _).1) (set_ok z)
theorem snd_E (MO : MOk D P T M mg) (hc : ∀ i, FnOk P' w T.K mg base (CXE P' w) k (M.fa i) (M.fd i) (M.ps i) (spF T P m i)) : ∀ n : Nat,
  (∀ (g : Gm) (X : Cx) (e : Expr) (ie : PI.E), XOk T P' w mg base k g X → cE D n g e = some ie → Snd T P m X e ie) ∧
  (∀ (g : Gm) (X : Cx) (e : Expr) (q : PI.Q), XOk T P' w mg base k g X → cQ D n g e = some q → ∀ (E : XS) (tg : Expr), L2.PI (X.wish (L4.XE X E)) tg e (tQ T P (call P m) E q)) := by
 intro n
 induction n with
 | zero => exact ⟨fun g X e ie _ h => (by cases h), fun g X e q _ h => (by cases h)⟩
 | succ n' ih =>
  obtain ⟨ihE, ihQ⟩ := ih
  have stepE : ∀ (g : Gm) (X : Cx) (e : Expr) (ie : PI.E), XOk T P' w mg base k g X → cE D (n' + 1) g e = some ie → Snd T P m X e ie := by
   intro g X e ie O h
   have ihs : ∀ e ie, cE D n' g e = some ie → Snd T P m X e ie := fun e ie q => ihE g X e ie O q
   cases e with
   | Constant c j pos =>
    cases c <;> first | (cases h; done) | skip
    ·cases h; exact snd_val O (fun E => s_non) fun _ => rfl
    ·cases h; exact snd_val O (fun E => s_bl) fun _ => rfl
    ·cases h; exact snd_val O (fun E => s_int) fun _ => rfl
    ·cases h; exact snd_val O (fun E => s_str) fun _ => rfl
   | Name x pos =>
    obtain ⟨i, e1, rfl⟩ := Option.map_eq_some_iff.mp (show (g.ix x).map PI.E.var = some ie from h)
    obtain ⟨h1, h2, h3, h4⟩ := O.ix e1
    exact snd_val O (fun E => s_var (X := X.wish (L4.XE X E)) h1 h2 h3 h4) fun _ => rfl
   | BinOp a op b pos =>
    obtain ⟨z, h⟩ := eqi (show (if opOk op = true then (cE D n' g a).bind fun a => (cE D n' g b).map fun b => PI.E.bin op a b else none) = some ie from h)
    obtain ⟨x, y, e1, e2, rfl⟩ := eq2 h
    exact snd_val O (fun E => s_op (op_ok (X := X.wish (L4.XE X E)) O.K z) (ihs a x e1 E).1 (ihs b y e2 E).1) fun _ => rfl
   | UnaryOp op a pos =>
    obtain ⟨z, h⟩ := eqi (show (if notIfE a = true then (cE D n' g a).bind fun a => cUn op a else none) = some ie from h)
    obtain ⟨x, e1, e2⟩ := Option.bind_eq_some_iff.mp h
    cases op <;> first | (cases e2; done) | skip
    ·cases e2
     exact fun E => ⟨s_not (ihs a x e1 E).1, fun _ => t_not ((ihs a x e1 E).2 z)⟩
    ·cases e2
     exact snd_val O (fun E => s_neg (ihs a x e1 E).1) fun _ => rfl
   | BoolOp op vs pos =>
    obtain ⟨z, h⟩ := eqi (show (if vs.all notIfE = true then cBool op (cE D n' g) vs else none) = some ie from h)
    exact fun E => ⟨(snd_bool ihs E z h).1, fun _ => (snd_bool ihs E z h).2.pt⟩
   | Compare a ops bs pos =>
    cases ops with
    | nil => cases h
    | cons op r => cases r with
     | cons _ _ => cases h
     | nil => cases bs with
      | nil => cases h
      | cons b t => cases t with
       | cons _ _ => cases h
       | nil =>
        obtain ⟨z, h⟩ := eqi (show (if (notSet b && cmpOk op) = true then (cE D n' g a).bind fun a => (cE D n' g b).map fun b => PI.E.cmp op a b else none) = some ie from h)
        obtain ⟨x, y, e1, e2, rfl⟩ := eq2 h
        rw [Bool.and_eq_true] at z
        have hu : X.A.units + 8 < cLine := by have := O.room.un; omega
        exact fun E => ⟨s_cp (cp_ok (X := X.wish (L4.XE X E)) O.K hu z.2) (mark_ok z.1) (ihs a x e1 E).1 (ihs b y e2 E).1, fun _ => t_cmp (cp_ok (X := X.wish (L4.XE X E)) O.K hu z.2) (mark_ok z.1) (ihs a x e1 E).1 (ihs b y e2 E).1⟩
   | IfExp c a b pos =>
    obtain ⟨z, h⟩ := eqi (show (if notIfE c = true then (cE D n' g c).bind fun c => (cE D n' g a).bind fun a => (cE D n' g b).map fun b => PI.E.ite c a b else none) = some ie from h)
    obtain ⟨x, y, y', e1, e2, e3, rfl⟩ := eq3 h
    exact fun E => ⟨s_ite ((ihs c x e1 E).2 z) (ihs a y e2 E).1 (ihs b y' e3 E).1, fun q => by cases q⟩
   | Tuple es j pos =>
    obtain ⟨z, h⟩ := eqi (show (if es.all notStar = true then (cL (cE D n' g) es).map PI.E.tup else none) = some ie from h)
    obtain ⟨ies, e1, rfl⟩ := Option.map_eq_some_iff.mp h
    exact snd_val O (fun E => s_tup (snd_A ihs E z e1)) fun _ => rfl
   | List es pos =>
    obtain ⟨z, h⟩ := eqi (show (if es.all notStar = true then (cL (cE D n' g) es).map PI.E.lst else none) = some ie from h)
    obtain ⟨ies, e1, rfl⟩ := Option.map_eq_some_iff.mp h
    exact snd_val O (fun E => s_lst (snd_A ihs E z e1)) fun _ => rfl
   | Attribute o f pos =>
    obtain ⟨z, h⟩ := eqi (show (if (notCall0 o && D.fx.contains f) = true then (cE D n' g o).map fun o => PI.E.fld o f else none) = some ie from h)
    obtain ⟨x, e1, rfl⟩ := Option.map_eq_some_iff.mp h
    rw [Bool.and_eq_true] at z
    exact snd_val O (fun E => s_fld (X := X.wish (L4.XE X E)) O.K MO.cls (ihs o x e1 E).1 (base_ok z.1) (MO.fx f z.2)) fun _ => rfl
   | Subscript o i pos =>
    refine snd_val O (fun E => ?_) fun _ => rfl
    replace h : cIdx (cE D n' g) o i = some ie := h
    have plain : notSlice i = true → ((cE D n' g o).bind fun o => (cE D n' g i).map fun i => PI.E.idx o i) = some ie → PE (X.wish (L4.XE X E)) (.Subscript o i pos) (tE T P (call P m) E ie) := fun z h => by
     obtain ⟨x, y, e1, e2, rfl⟩ := eq2 h
     exact s_idx (X := X.wish (L4.XE X E)) O.K (ihs o x e1 E).1 (ihs i y e2 E).1 (plain_ok z)
    cases i with
    | Slice lo hi st p2 => cases st with
     | some _ => cases h
     | none =>
      obtain ⟨x, e1, h⟩ := Option.bind_eq_some_iff.mp (show ((cE D n' g o).bind fun o => _) = some ie from h)
      cases lo with
      | none => cases hi with
       | none =>
        cases h
        exact s_slc (X := X.wish (L4.XE X E)) O.K (ihs o x e1 E).1 o_no o_no
       | some b =>
        obtain ⟨y, e2, rfl⟩ := Option.map_eq_some_iff.mp h
        exact s_slc (X := X.wish (L4.XE X E)) O.K (ihs o x e1 E).1 o_no (o_so (ihs b y e2 E).1)
      | some a => cases hi with
       | none =>
        obtain ⟨y, e2, rfl⟩ := Option.map_eq_some_iff.mp h
        exact s_slc (X := X.wish (L4.XE X E)) O.K (ihs o x e1 E).1 (o_so (ihs a y e2 E).1) o_no
       | some b =>
        obtain ⟨y, z, e2, e3, rfl⟩ := eq2 h
        exact s_slc (X := X.wish (L4.XE X E)) O.K (ihs o x e1 E).1 (o_so (ihs a y e2 E).1) (o_so (ihs b z e3 E).1)
    | _ => exact plain rfl h
   | Call f es ks pos =>
    cases f <;> first | (cases h; done) | skip
    rename_i x p
    cases ks with
    | cons _ _ => cases h
    | nil =>
     replace h : (if isInst x = true then cIs D g x (cE D n' g) es else cCall D g x es (cE D n' g)) = some ie := h
     split at h
     ·rename_i zx
      exact snd_val O (fun E => snd_is MO O ihs zx h E) fun _ => rfl
     ·exact snd_val O (fun E => snd_call MO hc O ihs h E) fun _ => rfl
   | ListComp elt gens sc pos =>
    exact snd_val O (fun E => snd_comp O ihE ihQ h E) fun _ => rfl
   | _ => cases h
  refine ⟨stepE, fun g X e q O h E tg => ?_⟩
  have ihs : ∀ e ie, cE D n' g e = some ie → Snd T P m X e ie := fun e ie q => ihE g X e ie O q
  have val : (cE D n' g e).map PI.Q.val = some q → L2.PI (X.wish (L4.XE X E)) tg e (tQ T P (call P m) E q) := fun h => by
   obtain ⟨x, e1, rfl⟩ := Option.map_eq_some_iff.mp h
   exact q_val (X := X.wish (L4.XE X E)) O.K (ihs e x e1 E).1
  cases e with
  | Call f es ks pos =>
   cases f <;> first | exact val h | skip
   rename_i x p
   cases ks with
   | cons _ _ => exact val h
   | nil =>
    by_cases zx : isRange x = true
    ·have ex : x = "range" := by simpa [isRange] using zx
     replace h : (if isRange x = true then cRng D g x (cE D n' g) es else (cE D n' g (.Call (.Name x p) es [] pos)).map PI.Q.val) = some q := h
     rw [if_pos zx] at h
     subst ex
     cases es with
     | nil => cases h
     | cons a r => cases r with
      | nil =>
       obtain ⟨c, h⟩ := eqi h
       simp only [Bool.and_eq_true] at c
       obtain ⟨⟨c1, c2⟩, c3⟩ := c
       obtain ⟨x, e1, rfl⟩ := Option.map_eq_some_iff.mp h
       exact q_rng1 (X := X.wish (L4.XE X E)) (O.gb c1).1 (by show X.mg "range" = none; rw [O.mg]; exact MO.fr _ c2) (a_cons (ihs a x e1 E).1 a_nil (star_ok c3)) (star_ok c3)
      | cons b r => cases r with
       | cons _ _ => cases h
       | nil =>
        obtain ⟨c, h⟩ := eqi h
        simp only [Bool.and_eq_true] at c
        obtain ⟨⟨⟨c1, c2⟩, c3⟩, c4⟩ := c
        obtain ⟨x, y, e1, e2, rfl⟩ := eq2 h
        refine q_rng2 (X := X.wish (L4.XE X E)) (O.gb c1).1 (by show X.mg "range" = none; rw [O.mg]; exact MO.fr _ c2) (a_cons (ihs a x e1 E).1 (a_cons (ihs b y e2 E).1 a_nil (star_ok c4)) (star_ok c3)) ?_ (star_ok c4)
        show starEach [a, b] X.env = _
        rw [star_ok c3, star_ok c4]
        rfl
    ·replace h : (if isRange x = true then cRng D g x (cE D n' g) es else (cE D n' g (.Call (.Name x p) es [] pos)).map PI.Q.val) = some q := h
     rw [if_neg zx] at h
     exact val h
  | _ => exact val h
end
end PI
namespace PI
open PySem PySem.Spec L2 L2.L3 L2.L4 PySem.SeqAt
open PyProof.Rows hiding St lobj
section
variable {T : CT} {P : Pg} {D : Dt} {M : Md} {P' : Program} {w : World} {mg : Str → Option Value} {base : Heap} {k m : Nat}
theorem swaps_at {g : Gm} {X : Cx} (O : XOk T P' w mg base k g X) {elt : Expr} {gens : List Comprehension} {sc : Scope} {cpos py : Pos} {x : Str} {line : Nat} :
  swapsWith (.ListComp elt gens sc cpos) (some (.Name x py)) line X.env = pure (g.sc.kind == .function && g.sc.names.lookup x == some .local && py.line == cpos.line && !(sc.names.any fun (n, k) => n == x && (k == .local || k == .cell))) := by
 have b : X.env.blockKind = .function := by
  unfold Env.blockKind
  rw [O.sc, O.kd]
  rfl
 show pure (X.env.blockKind == .function && X.env.scope.names.lookup x == some .local && py.line == cpos.line && !(sc.names.any fun (n, k) => n == x && (k == .local || k == .cell))) = _
 rw [b, O.sc, O.kd]
theorem snd_S (MO : MOk D P T M mg) (hc : ∀ i, FnOk P' w T.K mg base (CXE P' w) k (M.fa i) (M.fd i) (M.ps i) (spF T P m i)) : ∀ n : Nat,
  (∀ (g : Gm) (X : Cx) (s : Stmt) (is : PI.S), XOk T P' w mg base k g X → cS D n g s = some is → ∀ E : XS, PS (X.wish (L4.XE X E)) s (tS T P (call P m) E is)) ∧
  (∀ (g : Gm) (X : Cx) (ss : List Stmt) (iss : List PI.S), XOk T P' w mg base k g X → cSs D n g ss = some iss → ∀ E : XS, PSs (X.wish (L4.XE X E)) ss (tSs T P (call P m) E iss)) := by
 intro n
 induction n with
 | zero => exact ⟨fun g X s is _ h => (by cases h), fun g X ss iss _ h => (by cases h)⟩
 | succ n ih =>
  obtain ⟨ihS, ihSs⟩ := ih
  obtain ⟨sE, sQ⟩ := snd_E MO hc n
  refine ⟨fun g X s is O h E => ?_, fun g X ss iss O h E => ?_⟩
  ·have ihs : ∀ e ie, cE D n g e = some ie → Snd T P m X e ie := fun e ie q => sE g X e ie O q
   cases s with
   | Return v pos => cases v with
    | none =>
     cases h
     exact z_retN
    | some e =>
     obtain ⟨x, e1, rfl⟩ := Option.map_eq_some_iff.mp (show (cE D n g e).map PI.S.ret = some is from h)
     exact z_ret (ihs e x e1 E).1
   | Pass pos =>
    cases h
    exact z_pass
   | Break pos =>
    cases h
    exact z_brk
   | Continue pos =>
    cases h
    exact z_cont
   | Expr e pos =>
    obtain ⟨z, h⟩ := eqi (show (if notComp e = true then (cE D n g e).map PI.S.expr else none) = some is from h)
    obtain ⟨x, e1, rfl⟩ := Option.map_eq_some_iff.mp h
    exact z_expr (ihs e x e1 E).1 (comp_ok z)
   | If c a b pos =>
    obtain ⟨z, h⟩ := eqi (show (if notIfE c = true then (cE D n g c).bind fun c => (cSs D n g a).bind fun a => (cSs D n g b).map fun b => PI.S.ife c a b else none) = some is from h)
    obtain ⟨x, y, y', e1, e2, e3, rfl⟩ := eq3 h
    exact z_if ((ihs c x e1 E).2 z) (ihSs g X a y O e2 E) (ihSs g X b y' O e3 E)
   | For tg it b els pos => cases els with
    | cons _ _ => cases h
    | nil =>
     obtain ⟨z, h⟩ := eqi (show (if notSet it = true then (cQ D n g it).bind fun q => (cTg g n tg).bind fun t => (cSs D n g b).map fun b => PI.S.for t q b else none) = some is from h)
     obtain ⟨q, t, y, e1, e2, e3, rfl⟩ := eq3 h
     exact z_for O.fm O.hx O.calm (sQ g X it q O e1 E tg) (snd_T O n tg t E e2) (ihSs g X b y O e3 E) (set_ok z)
   | Assign tgs e pos => cases tgs with
    | nil => cases h
    | cons t r => cases r with
     | cons _ _ => cases t <;> cases h
     | nil =>
      cases t <;> first | (cases h; done) | skip
      ·rename_i o i tp
       obtain ⟨z, h⟩ := eqi (show (if (notSlice i && notComp e) = true then (cE D n g o).bind fun o => (cE D n g i).bind fun i => (cE D n g e).map fun e => PI.S.setI o i e else none) = some is from h)
       obtain ⟨x, y, y', e1, e2, e3, rfl⟩ := eq3 h
       rw [Bool.and_eq_true] at z
       exact z_setI (ihs o x e1 E).1 (ihs i y e2 E).1 (ihs e y' e3 E).1 z.1 z.2
      ·rename_i x py
       obtain ⟨i, ie, e1, e2, rfl⟩ := eq2 (show ((g.lx x).bind fun i => (cE D n g e).map fun e => PI.S.set (.var i) e) = some is from h)
       obtain ⟨h1, h2, h3⟩ := O.lx e1
       have nd : X.N.Nodup := by rw [O.N]; exact O.nd
       have std : swapsWith e (some (.Name x py)) pos.line X.env = pure false → PS (X.wish (L4.XE X E)) (.Assign [.Name x py] e pos) (tS T P (call P m) E (.set (.var i) ie)) := fun q => z_set (X := X.wish (L4.XE X E)) nd h1 h2 (ihs e ie e2 E).1 q h3
       cases e <;> first | exact std rfl | (cases n <;> cases e2; done) | skip
       rename_i elt gens sc cpos
       have sw := swaps_at (elt := elt) (gens := gens) (sc := sc) (cpos := cpos) (py := py) (x := x) (line := pos.line) O
       cases n with
       | zero => cases e2
       | succ n =>
        obtain ⟨sE', sQ'⟩ := snd_E MO hc n
        cases eb : (g.sc.kind == .function && g.sc.names.lookup x == some .local && py.line == cpos.line && !(sc.names.any fun (n, k) => n == x && (k == .local || k == .cell))) with
        | false => exact std (by rw [sw, eb])
        | true =>
         rw [eb] at sw
         have hl : X.env.scope.names.lookup x = some .local := by
          simp only [Bool.and_eq_true, beq_iff_eq] at eb
          rw [O.sc]
          exact eb.1.1.2
         obtain ⟨tg, iter, ifs, g', q, t, c, ee, rfl, z, b1, b2, b3, b4, b5, rfl⟩ := comp_parts e2
         obtain ⟨k1, k2, k3⟩ := O.block b1
         exact z_comp O.fm O.hx k1 O.calm k2 nd h1 hl (sQ' g X iter q O b2 E tg) (fun σ own C fp pn s H hh => snd_T (k3 own C fp pn s H hh) n tg t _ b3) (fun σ own C fp pn s H hh => snd_ifs (fun e ie => sE' g' _ e ie (k3 own C fp pn s H hh)) b5 _) (fun σ own C fp pn s H hh => (sE' g' _ elt ee (k3 own C fp pn s H hh) b4 _).1) sw (set_ok z)
   | _ => cases h
  ·cases ss with
   | nil =>
    cases h
    exact zs_nil
   | cons s r =>
    obtain ⟨x, y, e1, e2, rfl⟩ := eq2 (show ((cS D n g s).bind fun s => (cSs D n g r).map fun r => s :: r) = some iss from h)
    exact zs_cons (ihS g X s x O e1 E) (ihSs g X r y O e2 E)
structure DOk (D : Dt) (P : Pg) (T : CT) (M : Md) (base : Heap) (mg : Str → Option Value) : Prop where
 def_ : ∀ i d, P.fn i = some d → ∃ (x qual : Str) (st : Stmt), Fun T.K x qual st (M.fa i) (M.fd i) ∧ FnScope (nsOf (M.ps i) (defScope st)) (M.ps i) (defScope st) ∧ cFn D (M.ps i) (defScope st) (defBody st) = some d
theorem all_fn (MO : MOk D P T M mg) (DO : DOk D P T M base mg) : ∀ (n : Nat) (i : Nat), FnOk P' w T.K mg base (CXE P' w) n (M.fa i) (M.fd i) (M.ps i) (spF T P n i) := by
 intro n
 induction n with
 | zero => exact fun i => ⟨fun vs H Q E ⟨st, as, G, xs, s, r, h⟩ => h.elim, fun A outer s H args us vs Q E _ _ _ _ ⟨st, as, G, xs, s', r, h⟩ => h.elim⟩
 | succ n ih =>
  intro i
  cases e : P.fn i with
  | none =>
   have no : ∀ {as G xs st Q X}, ¬ Post T as G (call P (n + 1) i xs st) Q X := fun {as G xs st Q X} h => by
    unfold call at h
    rw [e] at h
    exact h
   exact ⟨fun vs H Q E ⟨st, as, G, xs, s, r, h⟩ => (no h).elim, fun A outer s H args us vs Q E _ _ _ _ ⟨st, as, G, xs, s', r, h⟩ => (no h).elim⟩
  | some d =>
   obtain ⟨x, qual, st, F, S, c⟩ := DO.def_ i d e
   obtain ⟨b, c1, rfl⟩ := Option.map_eq_some_iff.mp (show (cSs D 400 ⟨nsOf (M.ps i) (defScope st), defScope st, fun _ => true⟩ (defBody st)).map (fun b => (⟨(M.ps i).length, (nsOf (M.ps i) (defScope st)).length, b⟩ : Fn)) = some d from c)
   refine fn_ok F S e rfl rfl fun cdv A outer s H E hr => ?_
   refine (snd_S MO ih 400).2 ⟨nsOf (M.ps i) (defScope st), defScope st, fun _ => true⟩ _ _ _ ⟨rfl, S.nd, rfl, fun _ _ => rfl, S.kind, fmD, hxD, rfl, rfl, rfl, rfl, rfl, rfl, hr⟩ c1 _
end
end PI
namespace PI
open PySem PySem.Spec L2 L2.L3 L2.L4 PySem.SeqAt
open PyProof.Rows hiding St lobj
theorem kits_all (K : PySem.W.Frag) : Kits K := by
 intro a n ha hn
 simp only [List.mem_cons, List.not_mem_nil, or_false] at ha hn
 rcases ha with rfl | rfl | rfl | rfl | rfl | rfl | rfl <;> rcases hn with rfl | rfl | rfl | rfl | rfl | rfl <;> exact (by with_unfolding_all rfl)
end PI
namespace PI
open PySem PySem.Spec L2 L2.L3 L2.L4 PySem.SeqAt
open PyProof.Rows hiding St lobj
structure Df where
 i : Nat
 o : Option Str
 x : Str
 q : Str
 st : Stmt
 ps : List Str
def DefAt (K : PySem.W.Frag) (x q : Str) (st : Stmt) (f : Addr) : Prop := ∃ (oc : Value) (od : Option Addr) (kV doc pm : Value) (an : Option Addr) (cdv ct : Value) (osl : Array (Option Value)),
 K.lookup f = some ⟨oc, od, .func (PySem.W.fnOf x q (defArgs st) (defBody st) (defScope st) .none kV doc pm an cdv ct), osl⟩ ∧ PySem.W.codeIn K cdv q = true ∧ PySem.W.keepIn K (.ref f) = true
def scB (ps : List Str) (sc : Scope) : Bool := (sc.kind == .function) && !sc.isCoroutine && !sc.isGenerator && nodupB (nsOf ps sc) && (ps.all fun x => locB sc x) && (sc.names.all fun y => !(y.2 == .free))
theorem sc_ok {ps : List Str} {sc : Scope} (h : scB ps sc = true) : FnScope (nsOf ps sc) ps sc := by
 unfold scB at h
 simp only [Bool.and_eq_true, Bool.not_eq_true', beq_iff_eq, List.all_eq_true, beq_eq_false_iff_ne] at h
 obtain ⟨⟨⟨⟨⟨h1, h2⟩, h3⟩, h4⟩, h5⟩, h6⟩ := h
 refine ⟨h1, h2, h3, nodup_ok h4, ?_, fun x hx => ?_, h6⟩
 ·unfold nsOf
  simp
 ·have := h5 x hx
  unfold locB at this
  simpa only [Bool.or_eq_true, beq_iff_eq] using this
structure DS (D : Dt) (d : Df) : Prop where
 b : ∀ (kV doc pm : Value) (an : Option Addr) (cdv ct : Value) (us : List Value), us.length = d.ps.length → bindArgs (PySem.W.fnOf d.x d.q (defArgs d.st) (defBody d.st) (defScope d.st) .none kV doc pm an cdv ct) ⟨us, []⟩ = pure (d.ps.zip us)
 s : scB d.ps (defScope d.st) = true
 c : (cFn D d.ps (defScope d.st) (defBody d.st)).isSome = true
def mkP (D : Dt) (ds : List Df) (cls : List (Nat × Cl)) (w : Nat) : Pg := ⟨ds.map fun d => (d.i, (cFn D d.ps (defScope d.st) (defBody d.st)).getD ⟨0, 0, []⟩), cls, w⟩
theorem fn_find {D : Dt} {cls : List (Nat × Cl)} {w : Nat} {i : Nat} {f : Fn} : ∀ {ds : List Df}, (mkP D ds cls w).fn i = some f → ∃ d, ds.find? (fun d => d.i == i) = some d ∧ d ∈ ds ∧ f = (cFn D d.ps (defScope d.st) (defBody d.st)).getD ⟨0, 0, []⟩
 | [], h => by cases h
 | d :: ds, h => by
  replace h : ((d.i, (cFn D d.ps (defScope d.st) (defBody d.st)).getD ⟨0, 0, []⟩) :: ds.map fun d => (d.i, (cFn D d.ps (defScope d.st) (defBody d.st)).getD ⟨0, 0, []⟩)).lookup i = some f := h
  rw [List.lookup_cons] at h
  cases e : (i == d.i) with
  | true =>
   rw [e] at h
   cases h
   refine ⟨d, ?_, List.mem_cons_self, rfl⟩
   rw [List.find?_cons, show (d.i == i) = true by simpa using (beq_iff_eq.mp e).symm]
  | false =>
   rw [e] at h
   obtain ⟨d', h1, h2, h3⟩ := fn_find (D := D) (cls := cls) (w := w) (ds := ds) h
   refine ⟨d', ?_, List.mem_cons_of_mem _ h2, h3⟩
   rw [List.find?_cons, show (d.i == i) = false by simpa using fun z => (beq_eq_false_iff_ne.mp e) z.symm]
   exact h1
theorem build {K : PySem.W.Frag} {D : Dt} {ds : List Df} {fa : Nat → Addr} (h : ∀ i d, ds.find? (fun d => d.i == i) = some d → DefAt K d.x d.q d.st (fa i)) : ∃ M : Md, M.fa = fa ∧ ∀ i d, ds.find? (fun d => d.i == i) = some d → M.ps i = d.ps ∧ Fun K d.x d.q d.st (fa i) (M.fd i) := by
 have ex : ∀ i, ∃ fd : FuncData, ∀ d, ds.find? (fun d => d.i == i) = some d → Fun K d.x d.q d.st (fa i) fd := fun i => by
  cases e : ds.find? (fun d => d.i == i) with
  | none => exact ⟨PySem.W.fnOf "" "" ⟨[], [], none, [], [], none, []⟩ [] ⟨.function, [], false, false, []⟩ .none .none .none .none none .none .none, fun d z => by cases z⟩
  | some d =>
   obtain ⟨oc, od, kV, doc, pm, an, cdv, ct, osl, l, c, k⟩ := h i d e
   exact ⟨_, fun d' z => by cases z; exact fun_mk l c k⟩
 refine ⟨⟨fa, fun i => Classical.choose (ex i), fun i => ((ds.find? (fun d => d.i == i)).map (·.ps)).getD []⟩, rfl, fun i d e => ⟨?_, Classical.choose_spec (ex i) d e⟩⟩
 show ((ds.find? (fun d => d.i == i)).map (·.ps)).getD [] = d.ps
 rw [e]
 rfl
def nsAt (K : PySem.W.Frag) (x : Str) : Addr := match PySem.W.nsIn K mainGlobals x with
 | some (some (.ref a)) => a
 | _ => 0
def fnAt (K : PySem.W.Frag) (C : Addr) (m : Str) : Addr := match PySem.W.findIn K (.ref C) m with
 | some (some (.ref a)) => a
 | _ => 0
def dfAt (K : PySem.W.Frag) (d : Df) : Addr := match d.o with
 | none => nsAt K d.x
 | some c => fnAt K (nsAt K c) d.x
def faOf (K : PySem.W.Frag) (ds : List Df) (i : Nat) : Addr := ((ds.find? fun d => d.i == i).map (dfAt K)).getD 0
def caOf (K : PySem.W.Frag) (cn : List (Nat × Str)) (c : Nat) : Addr := ((cn.lookup c).map (nsAt K)).getD 0
theorem nsAt_of {K : PySem.W.Frag} {x : Str} {a : Addr} (h : PySem.W.nsIn K mainGlobals x = some (some (.ref a))) : nsAt K x = a := by
 unfold nsAt
 rw [h]
theorem fnAt_of {K : PySem.W.Frag} {C : Addr} {x : Str} {a : Addr} (h : PySem.W.findIn K (.ref C) x = some (some (.ref a))) : fnAt K C x = a := by
 unfold fnAt
 rw [h]
def GDef (K : PySem.W.Frag) (d : Df) : Prop := match d.o with
 | none => ∃ f, PySem.W.nsIn K mainGlobals d.x = some (some (.ref f)) ∧ DefAt K d.x d.q d.st f
 | some c => ∃ C f, PySem.W.nsIn K mainGlobals c = some (some (.ref C)) ∧ PySem.W.findIn K (.ref C) d.x = some (some (.ref f)) ∧ DefAt K d.x d.q d.st f
theorem gdef_at {K : PySem.W.Frag} {d : Df} (h : GDef K d) : DefAt K d.x d.q d.st (dfAt K d) := by
 unfold GDef at h
 unfold dfAt
 split at h
 ·obtain ⟨f, e, q⟩ := h
  rename_i z
  show DefAt K d.x d.q d.st (nsAt K d.x)
  rw [nsAt_of e]
  exact q
 ·obtain ⟨C, f, e1, e2, q⟩ := h
  rename_i c z
  show DefAt K d.x d.q d.st (fnAt K (nsAt K c) d.x)
  rw [nsAt_of e1, fnAt_of e2]
  exact q
def GlAt (K : PySem.W.Frag) (ds : List Df) (cn : List (Nat × Str)) : Str × Gv → Prop
 | (x, .fn i) => ∃ d, ds.find? (fun d => d.i == i) = some d ∧ d.o = none ∧ d.x = x
 | (x, .cls c) => ∃ C, PySem.W.nsIn K mainGlobals x = some (some (.ref C)) ∧ cn.lookup c = some x
 | (_, .val _) => False
theorem look_mem {α : Type} {x : Str} {v : α} : ∀ {l : List (Str × α)}, l.lookup x = some v → (x, v) ∈ l
 | [], h => by cases h
 | (y, w) :: r, h => by
  rw [List.lookup_cons] at h
  split at h
  ·rename_i e
   cases h
   rw [eq_of_beq e]
   exact List.mem_cons_self
  ·exact List.mem_cons_of_mem _ (look_mem h)
section
variable {K : PySem.W.Frag} {D : Dt} {ds : List Df} {cls : List (Nat × Cl)} {cn : List (Nat × Str)} {w : Nat} {xc : Nat → Bool} {mg : Str → Option Value} {h : Heap} {M : Md}
theorem fa_at {i : Nat} {d : Df} (e : ds.find? (fun d => d.i == i) = some d) : faOf K ds i = dfAt K d := by
 unfold faOf
 rw [e]
 rfl
theorem mok_of (X : K.In h) (G : h.Ns mainGlobals mg) (hD : ∀ d ∈ ds, GDef K d) (hM : M.fa = faOf K ds) (hF : ∀ i d, ds.find? (fun d => d.i == i) = some d → M.ps i = d.ps ∧ Fun K d.x d.q d.st (faOf K ds i) (M.fd i)) (hS : ∀ d ∈ ds, DS D d)
  (hg : ∀ p ∈ D.gl, GlAt K ds cn p) (hr : ∀ x ∈ D.fr, PySem.W.nsIn K mainGlobals x = some none) (hc : COk ⟨K, caOf K cn, xc⟩ (mkP D ds cls w)) (hx : ∀ f, D.fx.contains f = true → ∀ (c : Nat) k, (mkP D ds cls w).cl c = some k → f ∈ k.flds → k.exc = false) : MOk D (mkP D ds cls w) ⟨K, caOf K cn, xc⟩ M mg := by
 refine ⟨fun x i e => ?_, fun x e => PySem.W.mg_none_of X G (hr x (by simpa using e)), kits_all K, hc, hx⟩
 obtain ⟨d, e1, e2, e3⟩ := hg _ (look_mem e)
 obtain ⟨f1, f2⟩ := hF i d e1
 have dm := List.mem_of_find?_eq_some e1
 rw [hM]
 refine ⟨?_, f2.kp, ?_⟩
 ·have z := hD d dm
  unfold GDef at z
  rw [e2] at z
  obtain ⟨f, z1, _⟩ := z
  rw [fa_at e1]
  unfold dfAt
  rw [e2]
  show mg x = some (.ref (nsAt K d.x))
  rw [nsAt_of z1, ← e3]
  exact PySem.W.mg_of X G z1
 ·rw [f1]
  exact f2.binds (hS d dm).b
theorem dok_of {base : Heap} {ca : Nat → Addr} (hM : M.fa = faOf K ds) (hF : ∀ i d, ds.find? (fun d => d.i == i) = some d → M.ps i = d.ps ∧ Fun K d.x d.q d.st (faOf K ds i) (M.fd i)) (hS : ∀ d ∈ ds, DS D d) : DOk D (mkP D ds cls w) ⟨K, ca, xc⟩ M base mg := by
 refine ⟨fun i f e => ?_⟩
 obtain ⟨d, e1, e2, rfl⟩ := fn_find e
 obtain ⟨f1, f2⟩ := hF i d e1
 have S := hS d e2
 refine ⟨d.x, d.q, d.st, hM ▸ f2, f1 ▸ sc_ok S.s, ?_⟩
 rw [f1]
 obtain ⟨y, e3⟩ := Option.isSome_iff_exists.mp S.c
 rw [e3]
 rfl
end
theorem ints_rel {T : CT} {as : List Addr} {G : Hp} : ∀ ns : List Int, Rels T as G (ns.map .int) (ns.map V.int)
 | [] => rfl
 | n :: ns => ⟨.int n, ns.map V.int, rfl, rfl, ints_rel ns⟩
structure HeadOk (K : PySem.W.Frag) (D : Dt) (ds : List Df) (cls : List (Nat × Cl)) (cn : List (Nat × Str)) (xc : Nat → Bool) (wn : Nat) : Prop where
 d : ∀ d ∈ ds, GDef K d
 g : ∀ p ∈ D.gl, GlAt K ds cn p
 r : ∀ x ∈ D.fr, PySem.W.nsIn K mainGlobals x = some none
 c : COk ⟨K, caOf K cn, xc⟩ (mkP D ds cls wn)
theorem walkP {l : PySem.W.OpenLaw} {q : Program} {loose : List Str} {XP : (Str → Option Value) → Heap → Prop} {YP : World → Heap → Prop} {d : DefRec} {K : Params → PySem.W.Frag} {D : Dt} {ds : List Df} {cls : List (Nat × Cl)} {cn : List (Nat × Str)} {xc : Nat → Bool} {wn : Nat} {n f : Nat} {x : Str} {df : Df}
  (hn : l.most = some 63) (hdf : d.params.defaults = []) (hroom : Room n callerA) (hY : ∀ (w : World) (h : Heap), YP w h → (K w.params).In h)
  (hS : ∀ d ∈ ds, DS D d) (hf : ds.find? (fun d => d.i == f) = some df) (hps : df.ps = [x]) (ho : df.o = none) (hname : d.name = df.x) (hx : ∀ f, D.fx.contains f = true → ∀ (c : Nat) k, (mkP D ds cls wn).cl c = some k → f ∈ k.flds → k.exc = false)
  (F : ∀ w : World, HeadOk (K w.params) D ds cls cn xc wn)
  (pure_ : ∀ ns : List Int, ns.length ≤ 63 → call (mkP D ds cls wn) n f [.lst (ns.map .int)] [] = .ok (.bl true) []) :
  PySem.W.WalkO q loose XP YP l.row.toRowW d [] (fun f vs => PySem.call f vs) :=
 L2.walk_of (n := 63) (k := n) (x := x) (CX := fun w => CXE l.prog w) (K := K) (sp := fun w => spF ⟨K w.params, caOf (K w.params) cn, xc⟩ (mkP D ds cls wn) n f) hn (by decide) hdf hroom hY
  (fun w mg a h KX G hm => by
   have O := F w
   obtain ⟨M, hM, hF⟩ := build (D := D) (fa := faOf (K w.params) ds) (K := K w.params) (ds := ds) fun i d' hd' => by
    rw [fa_at hd']
    exact gdef_at (O.d d' (List.mem_of_find?_eq_some hd'))
   obtain ⟨f1, f2⟩ := hF f df hf
   have dm := List.mem_of_find?_eq_some hf
   have ea : M.fa f = a := by
    have z := O.d df dm
    unfold GDef at z
    rw [ho] at z
    obtain ⟨f', z1, _⟩ := z
    rw [hM, fa_at hf]
    unfold dfAt
    rw [ho]
    show nsAt (K w.params) df.x = a
    rw [nsAt_of z1]
    have := PySem.W.mg_of KX G z1
    rw [← hname, hm] at this
    cases this
    rfl
   refine ⟨M.fd f, fun s v => ?_, fun base _ _ => ?_⟩
   ·obtain ⟨oc, od, kV, doc, pm, an, cdv, ct, osl, efd, _⟩ := f2.ex
    rw [efd]
    have := (hS df dm).b kV doc pm an cdv ct [v] (by rw [hps]; rfl)
    rw [hps] at this
    exact .of_eq this
   ·have := all_fn (P' := l.prog) (w := w) (base := base) (mok_of KX G O.d hM hF hS O.g O.r O.c hx) (dok_of hM hF hS) n f
    rw [ea, f1, hps] at this
    exact this)
  (fun w H a ns hl hO hS => by
   refine ⟨[], [], H, [.lst (ns.map .int)], ⟨rfl, List.nodup_nil, Le.refl _, fun a h => (by cases h), fun n o a h => (by cases h)⟩, ⟨.ref a, [], rfl, ⟨a, ns.map V.int, rfl, hS, ints_rel ns⟩, rfl⟩, ?_⟩
   rw [pure_ ns hl]
   exact fun as' G' H' _ _ _ u hu => hu)
  fun _ _ _ _ _ ⟨_, _, _, _, _, _, _, _, _, _, _, _, _, _, _, z⟩ => z
theorem gdef_mk {K : PySem.W.Frag} {i : Nat} {x q : Str} {st : Stmt} {ps : List Str} {f : Addr} {oc : Value} {od an : Option Addr} {osl : Array (Option Value)} {kV doc pm cdv ct : Value} (a : PySem.W.nsIn K mainGlobals x = some (some (.ref f)))
  (l : K.lookup f = some ⟨oc, od, .func (PySem.W.fnOf x q (defArgs st) (defBody st) (defScope st) .none kV doc pm an cdv ct), osl⟩) (c : PySem.W.codeIn K cdv q = true) (k : PySem.W.keepIn K (.ref f) = true) : GDef K ⟨i, none, x, q, st, ps⟩ := ⟨f, a, oc, od, kV, doc, pm, an, cdv, ct, osl, l, c, k⟩
theorem cons_all {α : Type} {p : α → Prop} {a : α} {l : List α} (h : p a) (t : ∀ x ∈ l, p x) : ∀ x ∈ a :: l, p x := List.forall_mem_cons.mpr ⟨h, t⟩
theorem nil_all {α : Type} {p : α → Prop} : ∀ x ∈ ([] : List α), p x := fun _ h => by cases h
theorem gl_fn {K : PySem.W.Frag} {ds : List Df} {cn : List (Nat × Str)} {x : Str} {i : Nat} {d : Df} (e : ds.find? (fun d => d.i == i) = some d) (h : d.o = none) (z : d.x = x) : GlAt K ds cn (x, .fn i) := ⟨d, e, h, z⟩
end PI
namespace PI
open PySem
theorem call_at {P : Pg} {f : Nat} {d : Fn} (h : P.fn f = some d) (n : Nat) (xs : List Val) (st : Store) (hl : xs.length = d.np) : call P (n + 1) f xs st = (runSs P (call P n) d.body (xs.map some ++ List.replicate (d.ns - d.np) none) st).fin P st := by
 show runFn P (call P n) xs st (P.fn f) = _
 rw [h]
 exact iff_t hl
@[simp] theorem fin_same (P : Pg) (st : Store) (v : Val) (h : v.frz st st.length st.length = some v) (hr : isRef v = none) : fin P st v st = .ok v st := by
 unfold fin
 rw [if_pos (old_refl st), hr]
 show (R.ofO (v.frz st st.length st.length) st).bind _ = _
 rw [h]
 simp
theorem fin_tree (P : Pg) (st st' : Store) (v v' : Val) (ho : Old st st') (h : v.frz st' st.length st'.length = some v') (hr : isRef v = none) : fin P st v st' = .ok v' (st'.take st.length) := by
 unfold fin
 rw [if_pos ho, hr]
 show (R.ofO (v.frz st' st.length st'.length) st').bind _ = _
 rw [h]
 simp
@[simp] theorem frz_bl (st : Store) (n x : Nat) (b : Bool) : (Val.bl b).frz st n x = some (.bl b) := by simp [Val.frz, Val.sub]
@[simp] theorem frz_int (st : Store) (n x : Nat) (b : Int) : (Val.int b).frz st n x = some (.int b) := by simp [Val.frz, Val.sub]
@[simp] theorem frz_str (st : Store) (n x : Nat) (b : Str) : (Val.str b).frz st n x = some (.str b) := by simp [Val.frz, Val.sub]
@[simp] theorem frz_non (st : Store) (n x : Nat) : Val.non.frz st n x = some .non := by simp [Val.frz, Val.sub]
@[simp] theorem frz_tup (st : Store) (n x : Nat) (f : Bool) (xs : List Val) : (Val.tup f xs).frz st n x = (frzs st n x xs).map fun xs => .tup f xs := by simp [Val.frz, Val.sub, frzs]
@[simp] theorem frz_lst (st : Store) (n x : Nat) (xs : List Val) : (Val.lst xs).frz st n x = (frzs st n x xs).map .lst := by simp [Val.frz, Val.sub, frzs]
@[simp] theorem frzs_nil (st : Store) (n x : Nat) : frzs st n x [] = some [] := by simp [frzs, subs]
@[simp] theorem frzs_cons (st : Store) (n x : Nat) (v : Val) (r : List Val) : frzs st n x (v :: r) = (v.frz st n x).bind fun v => (frzs st n x r).map fun r => v :: r := by simp [Val.frz, subs, frzs]
@[simp] theorem fin_bl (P : Pg) (st : Store) (b : Bool) : fin P st (.bl b) st = .ok (.bl b) st := fin_same P st _ (by simp) rfl
@[simp] theorem fin_int (P : Pg) (st : Store) (b : Int) : fin P st (.int b) st = .ok (.int b) st := fin_same P st _ (by simp) rfl
@[simp] theorem fin_str (P : Pg) (st : Store) (b : Str) : fin P st (.str b) st = .ok (.str b) st := fin_same P st _ (by simp) rfl
@[simp] theorem fin_non (P : Pg) (st : Store) : fin P st .non st = .ok .non st := fin_same P st _ (by simp) rfl
@[simp] theorem iff_true' {α : Type} (r : R α) : iff True r = r := if_pos trivial
@[simp] theorem ifB_or (t b : Bool) (st : Store) : ifB t (R.ok (Val.bl true) st) (R.ok (Val.bl b) st) = R.ok (Val.bl (t || b)) st := by cases t <;> rfl
@[simp] theorem ifB_and (t b : Bool) (st : Store) : ifB t (R.ok (Val.bl b) st) (R.ok (Val.bl false) st) = R.ok (Val.bl (t && b)) st := by cases t <;> rfl
@[simp] theorem kept_nil (st : Store) : Kept [] st := fun _ h => by cases h
@[simp] theorem fin_set (P : Pg) (st : Store) (v : Val) (k : Nat) (xs : List Val) (hx : bds st.length xs = true) (h : v.frz (st.set k (.lst xs)) st.length st.length = some v) (hr : isRef v = none) : fin P st v (st.set k (.lst xs)) = .ok v (st.set k (.lst xs)) := by
 have := fin_tree P st (st.set k (.lst xs)) v v (old_set0 st k _ hx) (by simpa using h) hr
 rw [this, List.take_of_length_le (by simp)]
theorem old_nil (st : Store) : Old [] st := ⟨Nat.zero_le _, fun i o h _ => absurd h (Nat.not_lt_zero _)⟩
@[simp] theorem fin_empty (P : Pg) (st : Store) (b : Bool) : fin P [] (.bl b) st = .ok (.bl b) [] := by
 have := fin_tree P [] st (.bl b) (.bl b) (old_nil st) (by simp) rfl
 simpa using this
@[simp] theorem modI_pos (i j : Int) (st : Store) (h : 0 < j) : modI i j st = .ok (.int (i % j)) st := by
 unfold modI
 rw [iff_t (by omega), Int.fmod_eq_emod_of_nonneg _ (by omega)]
@[simp] theorem divI_pos (i j : Int) (st : Store) (h : 0 < j) (hb : j < 2 ^ 64) : divI i j st = .ok (.int (i / j)) st := by
 unfold divI
 have : big j := by
  unfold big
  exact Nat.lt_of_lt_of_le (show j.natAbs < 2 ^ 64 by omega) (Nat.pow_le_pow_right (by omega) (by omega))
 rw [iff_t ⟨by omega, this⟩, Int.fdiv_eq_ediv_of_nonneg _ (by omega)]
@[simp] theorem mulI_r (i j : Int) (st : Store) (h : j.natAbs < 2 ^ 64) : mulI i j st = .ok (.int (i * j)) st := iff_t (.inr (.inl h))
@[simp] theorem mulI_l (i j : Int) (st : Store) (h : i.natAbs < 2 ^ 64) : mulI i j st = .ok (.int (i * j)) st := iff_t (.inl h)
@[simp] theorem rng1_ok (n : Int) (st : Store) (h0 : 0 ≤ n) (h1 : n < 16777216) : rng1R (.int n) st = .ok (rngV 0 n.toNat, []) st := iff_t ⟨by omega, by omega⟩
@[simp] theorem rng2_ok (a b : Int) (st : Store) (h0 : -16777216 < a) (h1 : a < 16777216) (h2 : -16777216 < b) (h3 : b - a < 16777216) : rng2R a (.int b) st = .ok (rngV a (b - a).toNat, []) st := iff_t ⟨by omega, by omega, by omega, by omega⟩
theorem atV_ints (ns : List Int) (i : Int) (h0 : 0 ≤ i) (h1 : i < ns.length) : atV (ns.map .int) i = some (.int (ns.getD i.toNat 0)) := by
 have l : i.toNat < ns.length := by omega
 unfold atV ixOf
 rw [List.length_map, if_pos h0, if_pos h1]
 show (ns.map Val.int)[i.toNat]? = _
 rw [List.getElem?_map, List.getElem?_eq_getElem l, List.getD_eq_getElem?_getD, List.getElem?_eq_getElem l]
 rfl
@[simp high] theorem idx_ints (ns : List Int) (i : Int) (st : Store) (h0 : 0 ≤ i) (h1 : i < ns.length) : idxV (.lst (ns.map .int)) (.int i) st = .ok (.int (ns.getD i.toNat 0)) st := by
 show R.ofO (atV _ i) st = _
 rw [atV_ints ns i h0 h1]
 rfl
noncomputable def Rest (P : Pg) (cl : Cal) (ss : List S) (env : Env) (st : Store) : F := runSs P cl ss env st
noncomputable def Bra (P : Pg) (cl : Cal) (a b : List S) (env : Env) (t : Bool) (st : Store) : F := ifF t (runSs P cl a env st) (runSs P cl b env st)
noncomputable def Blk (P : Pg) (cl : Cal) (b : List S) (env : Env) (st : Store) : F := runSs P cl b env st
noncomputable def Lp (P : Pg) (cl : Cal) (t : T) (b : List S) (env : Env) (it : List Val × List (Nat × Ob)) (st : Store) : F := forL t (Blk P cl b) it.2 it.1 env st
section
variable (P : Pg) (cl : Cal) (env : Env) (st : Store)
@[simp] theorem ss_nil : runSs P cl [] env st = .next env st := rfl
@[simp] theorem ss_cons (s : S) (ss : List S) : runSs P cl (s :: ss) env st = (s.run P cl env st).bind (Rest P cl ss) := rfl
@[simp] theorem rest_at (ss : List S) : (F.next env st).bind (Rest P cl ss) = runSs P cl ss env st := rfl
@[simp] theorem rest_run (ss : List S) : Rest P cl ss env st = runSs P cl ss env st := rfl
@[simp] theorem ret_at (v : Val) (f : Env → Store → F) : (F.ret v st).bind f = .ret v st := rfl
@[simp] theorem exc_at (x : Exn) (f : Env → Store → F) : (F.exc x env st).bind f = .exc x env st := rfl
@[simp] theorem brk_at (f : Env → Store → F) : (F.brk env st).bind f = .brk env st := rfl
@[simp] theorem cont_at (f : Env → Store → F) : (F.cont env st).bind f = .cont env st := rfl
@[simp] theorem blk_at (b : List S) : Blk P cl b env st = runSs P cl b env st := rfl
@[simp] theorem bra_t (a b : List S) : Bra P cl a b env true st = runSs P cl a env st := rfl
@[simp] theorem bra_f (a b : List S) : Bra P cl a b env false st = runSs P cl b env st := rfl
@[simp] theorem lp_at (t : T) (b : List S) (xs : List Val) (c : List (Nat × Ob)) : Lp P cl t b env (xs, c) st = forL t (Blk P cl b) c xs env st := rfl
@[simp] theorem s_set (t : T) (e : E) : (S.set t e).run P cl env st = F.of env (e.run P cl env st) fun x st => F.ofO st (t.put x env) := rfl
@[simp] theorem s_setI (o i e : E) : (S.setI o i e).run P cl env st = F.of env ((e.run P cl env st).bind fun x st => (o.run P cl env st).bind fun y st => (i.run P cl env st).bind fun z st => PI.setI z x y st) fun _ st => .next env st := rfl
@[simp] theorem s_setF (o e : E) (f : Str) : (S.setF o f e).run P cl env st = F.of env ((e.run P cl env st).bind fun x st => (o.run P cl env st).bind fun y st => PI.setF P f x y st) fun _ st => .next env st := rfl
@[simp] theorem s_expr (e : E) : (S.expr e).run P cl env st = F.of env (e.run P cl env st) fun _ st => .next env st := rfl
@[simp] theorem s_ret (e : E) : (S.ret e).run P cl env st = F.of env (e.run P cl env st) fun x st => .ret x st := rfl
@[simp] theorem s_retN : (S.retN).run P cl env st = .ret .non st := rfl
@[simp] theorem s_pass : (S.pass).run P cl env st = .next env st := rfl
@[simp] theorem s_brk : (S.brk).run P cl env st = .brk env st := rfl
@[simp] theorem s_cont : (S.cont).run P cl env st = .cont env st := rfl
@[simp] theorem s_ife (c : E) (a b : List S) : (S.ife c a b).run P cl env st = F.of env (runC P cl (some c) env st) (Bra P cl a b env) := rfl
@[simp] theorem s_for (t : T) (q : Q) (b : List S) : (S.for t q b).run P cl env st = F.of env (q.run P cl env st) (Lp P cl t b env) := rfl
@[simp] theorem of_ok {α : Type} (a : α) (k : α → Store → F) : F.of env (.ok a st) k = k a st := rfl
@[simp] theorem of_exc {α : Type} (x : Exn) (k : α → Store → F) : F.of env (.exc x st : R α) k = .exc x env st := rfl
end
noncomputable def Nx (t : T) (body : Env → Store → F) (vs : List Val) (env : Env) (st : Store) : F := forL t body [] vs env st
@[simp] theorem nx_at (t : T) (body : Env → Store → F) (vs : List Val) (env : Env) (st : Store) : Nx t body vs env st = forL t body [] vs env st := rfl
open Classical in
@[simp] theorem for_nil (t : T) (body : Env → Store → F) (env : Env) (st : Store) : forL t body [] [] env st = .next env st := iffF_t (kept_nil st)
open Classical in
@[simp] theorem for_cons (t : T) (body : Env → Store → F) (v : Val) (vs : List Val) (env : Env) (st : Store) : forL t body [] (v :: vs) env st = (F.ofO st (t.put v env)).bind fun env st => (body env st).turn (Nx t body vs) := iffF_t (kept_nil st)
open Classical in
theorem forL_at {t : T} {body : Env → Store → F} {chk : List (Nat × Ob)} (I : Nat → Env → Store → Prop) : ∀ (items : List Val) (j : Nat) (env : Env) (st : Store), I j env st → (∀ i env st, I i env st → Kept chk st) →
  (∀ i v env st, items[i]? = some v → I (j + i) env st → ∃ env1, t.put v env = some env1 ∧ ∃ env' st', (body env1 st = .next env' st' ∨ body env1 st = .cont env' st') ∧ I (j + i + 1) env' st') →
  ∃ env' st', forL t body chk items env st = .next env' st' ∧ I (j + items.length) env' st'
 | [], j, env, st, h, hk, _ => ⟨env, st, iffF_t (hk j env st h), h⟩
 | v :: vs, j, env, st, h, hk, hs => by
  obtain ⟨env1, e1, env2, st2, e2, h2⟩ := hs 0 v env st rfl h
  obtain ⟨env3, st3, e3, h3⟩ := forL_at I vs (j + 1) env2 st2 h2 hk fun i w env st e q => by
   have := hs (i + 1) w env st e (by rw [show j + (i + 1) = j + 1 + i by omega]; exact q)
   rwa [show j + (i + 1) + 1 = j + 1 + i + 1 by omega] at this
  refine ⟨env3, st3, ?_, by rw [show j + (v :: vs).length = j + 1 + vs.length by simp; omega]; exact h3⟩
  show iffF (Kept chk st) ((F.ofO st (t.put v env)).bind fun env st => (body env st).turn fun env st => forL t body chk vs env st) = _
  rw [iffF_t (hk j env st h), e1]
  show (body env1 st).turn (fun env st => forL t body chk vs env st) = _
  rcases e2 with e2 | e2 <;> rw [e2] <;> exact e3
theorem forL_inv {t : T} {body : Env → Store → F} {chk : List (Nat × Ob)} (I : Nat → Env → Store → Prop) (items : List Val) (env : Env) (st : Store) (h : I 0 env st) (hk : ∀ i env st, I i env st → Kept chk st)
  (hs : ∀ i v env st, items[i]? = some v → I i env st → ∃ env1, t.put v env = some env1 ∧ ∃ env' st', (body env1 st = .next env' st' ∨ body env1 st = .cont env' st') ∧ I (i + 1) env' st') :
  ∃ env' st', forL t body chk items env st = .next env' st' ∧ I items.length env' st' := by
 obtain ⟨env', st', e, q⟩ := forL_at I items 0 env st h hk fun i v env st e q => by
  have := hs i v env st e (by rwa [Nat.zero_add] at q)
  rwa [Nat.zero_add]
 exact ⟨env', st', e, by rwa [Nat.zero_add] at q⟩
theorem rngV_get : ∀ (n : Nat) (lo : Int) (i : Nat) (v : Val), (rngV lo n)[i]? = some v → v = .int (lo + i) ∧ i < n
 | 0, _, _, _, h => by cases h
 | n + 1, lo, 0, v, h => by
  cases h
  exact ⟨by simp, by omega⟩
 | n + 1, lo, i + 1, v, h => by
  obtain ⟨h1, h2⟩ := rngV_get n (lo + 1) i v h
  exact ⟨by rw [h1]; congr 1; push_cast; omega, by omega⟩
end PI
namespace PI
open PySem
def irNear : Fn := ⟨2, 2, [.ife (.or (.cmp .NotEq (.idx (.var 0) (.const (.int 0))) (.idx (.var 1) (.const (.int 0)))) (.cmp .NotEq (.idx (.var 0) (.const (.int 2))) (.idx (.var 1) (.const (.int 2))))) [.ret (.const (.bl false))] [],
 .ret (.and (.cmp .LtE (.bi .abs [.bin .Sub (.idx (.var 0) (.const (.int 1))) (.idx (.var 1) (.const (.int 1)))]) (.const (.int 1))) (.and (.cmp .LtE (.bi .abs [.bin .Sub (.idx (.var 0) (.const (.int 3))) (.idx (.var 1) (.const (.int 3)))]) (.const (.int 1))) (.cmp .NotEq (.var 0) (.var 1))))]⟩
def cellV (f : Bool) (a b c d : Int) : Val := .tup f [.int a, .int b, .int c, .int d]
def nearB (a b c d a' b' c' d' : Int) : Bool := !(a != a' || c != c') && (decide ((b - b').natAbs ≤ 1) && (decide ((d - d').natAbs ≤ 1) && !(a == a' && (b == b' && (c == c' && d == d')))))
theorem near_ok {P : Pg} (h : P.fn 0 = some irNear) (n : Nat) (f f' : Bool) (a b c d a' b' c' d' : Int) (st : Store) : call P (n + 1) 0 [.tup f [.int a, .int b, .int c, .int d], .tup f' [.int a', .int b', .int c', .int d']] st = .ok (.bl (nearB a b c d a' b' c' d')) st := by
 rw [call_at h _ _ _ rfl]
 unfold irNear
 simp
 cases hb : (!a == a' || !c == c') with
 | true => simp [nearB, bne, hb]
 | false =>
  simp [nearB, bne, hb]
  congr 1
  ·exact decide_eq_decide.mpr (by omega)
  ·congr 1
   exact decide_eq_decide.mpr (by omega)
def irNext : Fn := ⟨2, 4, [.setI (.var 1) (.const (.int 0)) (.bin .Add (.idx (.var 1) (.const (.int 0))) (.const (.int 1))),
 .set (.var 2) (.const (.int 0)),
 .ife (.cmp .Gt (.bi .len [.var 0]) (.const (.int 0))) [.set (.var 2) (.idx (.var 0) (.bin .Mod (.idx (.var 1) (.const (.int 0))) (.bi .len [.var 0])))] [],
 .set (.var 3) (.bin .Mod (.bin .Mult (.bin .Add (.bin .Add (.bin .Mod (.var 2) (.const (.int 2147483647))) (.bin .Mult (.bin .Mult (.idx (.var 1) (.const (.int 0))) (.idx (.var 1) (.const (.int 0)))) (.const (.int 7919)))) (.const (.int 11))) (.const (.int 48271))) (.const (.int 2147483647))),
 .ret (.bin .Mod (.bin .Mult (.var 3) (.var 3)) (.const (.int 1999999973)))]⟩
def scr (ns : List Int) (z : Int) : Int := if ns = [] then 0 else ns.getD (z % ns.length).toNat 0
def nxt (ns : List Int) (z : Int) : Int := let m := (scr ns z % 2147483647 + z * z * 7919 + 11) * 48271 % 2147483647; m * m % 1999999973
theorem next_ok {P : Pg} (h : P.fn 1 = some irNext) (n : Nat) (ns : List Int) (k : Nat) (z : Int) (st : Store) (hk : st[k]? = some (.lst [.int z])) (z0 : 0 ≤ z) (z1 : z < 2 ^ 31) :
  call P (n + 1) 1 [.lst (ns.map .int), .ref k] st = .ok (.int (nxt ns (z + 1))) (st.set k (.lst [.int (z + 1)])) := by
 rw [call_at h _ _ _ rfl]
 unfold irNext
 have hl : k < st.length := (List.getElem?_eq_some_iff.mp hk).1
 have hk2 : (st.set k (.lst [.int (z + 1)]))[k]? = some (.lst [.int (z + 1)]) := by rw [List.getElem?_set_self hl]
 simp [hk, hk2]
 have zz : (z + 1).natAbs < 2 ^ 64 := by omega
 have hm : ∀ x : Int, (x % 2147483647).natAbs < 2 ^ 64 := fun x => by omega
 by_cases hn : ns = []
 ·subst hn
  simp [hk2, zz, hm, nxt, scr]
 ·have l0 : 0 < ns.length := List.length_pos_iff.mpr hn
  have l1 : (0 : Int) < ns.length := by omega
  have h0 : 0 ≤ (z + 1) % (ns.length : Int) := Int.emod_nonneg _ (by omega)
  have h1 : (z + 1) % (ns.length : Int) < ns.length := Int.emod_lt_of_pos _ (by omega)
  simp [hk2, zz, hm, nxt, scr, l0, l1, h0, h1, hn]
def irCell : Fn := ⟨2, 3, [.set (.var 2) (.call 1 [.var 0, .var 1]),
 .ret (.tup [.bin .FloorDiv (.bin .Mod (.var 2) (.const (.int 7))) (.const (.int 6)), .bin .Mod (.bin .FloorDiv (.var 2) (.const (.int 7))) (.const (.int 5)), .bin .FloorDiv (.bin .Mod (.bin .FloorDiv (.var 2) (.const (.int 35))) (.const (.int 5))) (.const (.int 3)), .bin .Mod (.bin .FloorDiv (.var 2) (.const (.int 175))) (.const (.int 5))])]⟩
def cellN (m : Int) : Val := cellV false (m % 7 / 6) (m / 7 % 5) (m / 35 % 5 / 3) (m / 175 % 5)
theorem cell_ok {P : Pg} (h1 : P.fn 1 = some irNext) (h2 : P.fn 2 = some irCell) (n : Nat) (ns : List Int) (k : Nat) (z : Int) (st : Store) (hk : st[k]? = some (.lst [.int z])) (z0 : 0 ≤ z) (z1 : z < 2 ^ 31) :
  call P (n + 2) 2 [.lst (ns.map .int), .ref k] st = .ok (cellN (nxt ns (z + 1))) (st.set k (.lst [.int (z + 1)])) := by
 rw [call_at h2 _ _ _ rfl]
 unfold irCell
 simp [next_ok h1 n ns k z st hk z0 z1, cellN, cellV]
def Turn6 (ns : List Int) (i : Nat) (env : Env) (st : Store) : Prop := (∃ z rest, st = .lst [.int z] :: rest ∧ 0 ≤ z ∧ z ≤ 2 * i) ∧ ∃ a b c d e, env = [some (.lst (ns.map .int)), some (.ref 0), a, b, c, d, e]
def tail6 : List S := [.set (.var 5) (.and (.cmp .NotEq (.var 3) (.var 4)) (.and (.cmp .Eq (.idx (.var 3) (.const (.int 0))) (.idx (.var 4) (.const (.int 0)))) (.cmp .Eq (.idx (.var 3) (.const (.int 2))) (.idx (.var 4) (.const (.int 2)))))), .set (.var 5) (.and (.var 5) (.and (.cmp .LtE (.bi .abs [.bin .Sub (.idx (.var 3) (.const (.int 1))) (.idx (.var 4) (.const (.int 1)))]) (.const (.int 1))) (.cmp .LtE (.bi .abs [.bin .Sub (.idx (.var 3) (.const (.int 3))) (.idx (.var 4) (.const (.int 3)))]) (.const (.int 1))))), .for (.var 6) (.val (.tup [.call 0 [.var 3, .var 4], .call 0 [.var 4, .var 3]])) [.ife (.or (.not (.bi (.isTy "bool") [.var 6])) (.cmp .NotEq (.var 6) (.var 5))) [.ret (.const (.bl false))] []]]
def lawBody : List S := (S.set (.var 3) (.call 2 [.var 0, .var 1])) :: (S.set (.var 4) (.call 2 [.var 0, .var 1])) :: (S.ife (.cmp .Eq (.bin .Mod (.var 2) (.const (.int 4))) (.const (.int 3))) [.set (.var 4) (.bin .Add (.slc (.var 3) none (some (.const (.int 3)))) (.tup [.bin .Add (.idx (.var 3) (.const (.int 3))) (.idx (.lst [.const (.int 0), .const (.int 1)]) (.bin .FloorDiv (.bin .Mod (.var 2) (.const (.int 8))) (.const (.int 4))))]))] []) :: tail6
theorem near_sym (a b c d a' b' c' d' : Int) : nearB a' b' c' d' a b c d = nearB a b c d a' b' c' d' := by
 rw [Bool.eq_iff_iff]
 simp [nearB]
 omega
theorem near_due (a b c d a' b' c' d' : Int) : ((!a == a' || (!b == b' || (!c == c' || !d == d'))) && (a == a' && c == c') && (decide (((b - b').natAbs : Int) ≤ 1) && decide (((d - d').natAbs : Int) ≤ 1))) = nearB a b c d a' b' c' d' := by
 rw [Bool.eq_iff_iff]
 simp [nearB]
 omega
theorem tail_ok {P : Pg} (h0 : P.fn 0 = some irNear) (n : Nat) (a b c d a' b' c' d' : Int) (f f' : Bool) (s k i5 i6 : Option Val) (r : Val) (st : Store) :
  ∃ env', runSs P (call P (n + 1)) tail6 [s, some r, k, some (cellV f a b c d), some (cellV f' a' b' c' d'), i5, i6] st = .next env' st ∧ ∃ a b c d e, env' = [s, some r, a, b, c, d, e] := by
 unfold tail6
 simp [near_ok h0, cellV, near_due, near_sym a b c d]
def irLaw : Fn := ⟨1, 7, [.set (.var 1) (.lst [.const (.int 0)]),
 .for (.var 2) (.rng1 (.bin .Add (.const (.int 4)) (.bin .FloorDiv (.bi .len [.slc (.var 0) none (some (.const (.int 72)))]) (.const (.int 2))))) lawBody,
 .ret (.const (.bl true))]⟩
theorem body_ok {P : Pg} (h0 : P.fn 0 = some irNear) (h1 : P.fn 1 = some irNext) (h2 : P.fn 2 = some irCell) (n : Nat) (ns : List Int) (i : Nat) (hi : i < 2 ^ 20) (env : Env) (st : Store) (hI : Turn6 ns i env st) :
  ∃ env' st', runSs P (call P (n + 2)) lawBody (env.set 2 (some (.int i))) st = .next env' st' ∧ Turn6 ns (i + 1) env' st' := by
 obtain ⟨⟨z, rest, rfl, z0, z1⟩, a, b, c, d, e, rfl⟩ := hI
 have q1 := cell_ok h1 h2 n ns 0 z (.lst [.int z] :: rest) rfl z0 (by omega)
 have q2 := cell_ok h1 h2 n ns 0 (z + 1) (.lst [.int (z + 1)] :: rest) rfl (by omega) (by omega)
 unfold lawBody
 simp [q1, q2]
 cases h4 : ((i : Int) % 4 == 3) with
 | false =>
  simp [cellN]
  obtain ⟨env', e1, e2⟩ := tail_ok h0 (n + 1) (nxt ns (z + 1) % 7 / 6) (nxt ns (z + 1) / 7 % 5) (nxt ns (z + 1) / 35 % 5 / 3) (nxt ns (z + 1) / 175 % 5) (nxt ns (z + 1 + 1) % 7 / 6) (nxt ns (z + 1 + 1) / 7 % 5) (nxt ns (z + 1 + 1) / 35 % 5 / 3) (nxt ns (z + 1 + 1) / 175 % 5) false false (some (.lst (ns.map .int))) (some (.int i)) d e (.ref 0) (.lst [.int (z + 1 + 1)] :: rest)
  exact ⟨env', _, e1, ⟨z + 1 + 1, rest, rfl, by omega, by omega⟩, e2⟩
 | true =>
  have h8 : (i : Int) % 8 / 4 = 0 ∨ (i : Int) % 8 / 4 = 1 := by omega
  rcases h8 with h8 | h8
  ·simp [cellN, cellV, h8, cutN, cut, new]
   obtain ⟨env', e1, e2⟩ := tail_ok h0 (n + 1) (nxt ns (z + 1) % 7 / 6) (nxt ns (z + 1) / 7 % 5) (nxt ns (z + 1) / 35 % 5 / 3) (nxt ns (z + 1) / 175 % 5) (nxt ns (z + 1) % 7 / 6) (nxt ns (z + 1) / 7 % 5) (nxt ns (z + 1) / 35 % 5 / 3) (nxt ns (z + 1) / 175 % 5) false false (some (.lst (ns.map .int))) (some (.int i)) d e (.ref 0) (.lst [.int (z + 1 + 1)] :: (rest ++ [.lst [.int 0, .int 1]]))
   exact ⟨env', _, e1, ⟨z + 1 + 1, _, rfl, by omega, by omega⟩, e2⟩
  ·simp [cellN, cellV, h8, cutN, cut, new]
   obtain ⟨env', e1, e2⟩ := tail_ok h0 (n + 1) (nxt ns (z + 1) % 7 / 6) (nxt ns (z + 1) / 7 % 5) (nxt ns (z + 1) / 35 % 5 / 3) (nxt ns (z + 1) / 175 % 5) (nxt ns (z + 1) % 7 / 6) (nxt ns (z + 1) / 7 % 5) (nxt ns (z + 1) / 35 % 5 / 3) (nxt ns (z + 1) / 175 % 5 + 1) false false (some (.lst (ns.map .int))) (some (.int i)) d e (.ref 0) (.lst [.int (z + 1 + 1)] :: (rest ++ [.lst [.int 0, .int 1]]))
   exact ⟨env', _, e1, ⟨z + 1 + 1, _, rfl, by omega, by omega⟩, e2⟩
theorem law_ok {P : Pg} (h0 : P.fn 0 = some irNear) (h1 : P.fn 1 = some irNext) (h2 : P.fn 2 = some irCell) (h3 : P.fn 3 = some irLaw) (n : Nat) (ns : List Int) (hn : ns.length ≤ 63) :
  call P (n + 3) 3 [.lst (ns.map .int)] [] = .ok (.bl true) [] := by
 rw [call_at h3 _ _ _ rfl]
 unfold irLaw
 have hl : (cut (ns.map Val.int) none (some 72)).length = ns.length := by
  simp [cut, cutN]
  omega
 have hb : (4 + (ns.length : Int) / 2) < 16777216 := by omega
 have hb2 : 0 ≤ (4 + (ns.length : Int) / 2) := by omega
 simp [new, hl, hb, hb2]
 obtain ⟨env', st', e, hI⟩ := forL_inv (t := .var 2) (body := Blk P (call P (n + 2)) lawBody) (chk := []) (Turn6 ns) (rngV 0 (4 + (ns.length : Int) / 2).toNat) [some (Val.lst (List.map Val.int ns)), some (Val.ref 0), none, none, none, none, none]
  [Ob.lst [Val.int 0], Ob.lst (cut (List.map Val.int ns) none (some 72))] ⟨⟨0, _, rfl, by omega, by omega⟩, _, _, _, _, _, rfl⟩ (fun _ _ st _ => kept_nil st) fun i v env st e hI => by
   obtain ⟨rfl, li⟩ := rngV_get _ _ _ _ e
   obtain ⟨env2, st2, e2, h2⟩ := body_ok h0 h1 h2 n ns i (by omega) env st hI
   refine ⟨env.set 2 (some (.int i)), ?_, env2, st2, .inl e2, h2⟩
   obtain ⟨_, a, b, c, d, e, rfl⟩ := hI
   simp
 rw [e]
 simp
end PI
namespace K6
open PySem PI L2
def tp (i : Nat) : Stmt := PySem.Challenge.pw_stowhold_k06_near.main.body.getD i (.Pass ⟨0, 0, 0, 0⟩)
def dt : Dt := ⟨[("near", .fn 0), ("_law_next", .fn 1), ("_law_cell", .fn 2), ("law", .fn 3)], ["len", "abs", "range", "isinstance", "bool"], []⟩
def ds : List Df := [⟨0, none, "near", "near", tp 1, ["one", "other"]⟩, ⟨1, none, "_law_next", "_law_next", tp 3, ["_law_script", "_law_at"]⟩, ⟨2, none, "_law_cell", "_law_cell", tp 4, ["_law_script", "_law_at"]⟩, ⟨3, none, "law", "law", tp 5, ["_law_script"]⟩]
theorem dsOk : ∀ d ∈ ds, DS dt d :=
 cons_all ⟨fun _ _ _ _ _ _ us hl => match us, hl with | [_, _], _ => rfl, by decide +kernel, by decide +kernel⟩
 (cons_all ⟨fun _ _ _ _ _ _ us hl => match us, hl with | [_, _], _ => rfl, by decide +kernel, by decide +kernel⟩
 (cons_all ⟨fun _ _ _ _ _ _ us hl => match us, hl with | [_, _], _ => rfl, by decide +kernel, by decide +kernel⟩
 (cons_all ⟨fun _ _ _ _ _ _ us hl => match us, hl with | [_], _ => rfl, by decide +kernel, by decide +kernel⟩ nil_all)))
abbrev pg : Pg := mkP dt ds [] 0
theorem fn0 : pg.fn 0 = some irNear := by with_unfolding_all rfl
theorem fn1 : pg.fn 1 = some irNext := by with_unfolding_all rfl
theorem fn2 : pg.fn 2 = some irCell := by with_unfolding_all rfl
theorem fn3 : pg.fn 3 = some irLaw := by with_unfolding_all rfl
end K6
open PySem PySem.W PyProof.Rows
set_option maxRecDepth 100000 in
set_option maxHeartbeats 0 in
theorem PySem.Challenge.cw_stowhold_k06_near_holds : PySem.Challenge.rw_stowhold_k06_near.Holds := by
 w_on; o_law; k_head; (case hw => w_witness2)
 k_fill
 refine PI.walkP (l := PySem.Challenge.rw_stowhold_k06_near) (D := K6.dt) (ds := K6.ds) (cls := []) (cn := []) (xc := fun _ => false) (wn := 0) (n := 3) (f := 3) (x := "_law_script") rfl rfl ⟨rfl, by decide, by decide⟩ (fun w h Y => PySem.W.kIn_of Y) K6.dsOk rfl rfl rfl rfl (fun f h => by cases h) ?F (fun ns hn => PI.law_ok K6.fn0 K6.fn1 K6.fn2 K6.fn3 0 ns hn)
 case F =>
  intro w
  refine' ⟨PI.cons_all (PI.gdef_mk ?a0 ?l0 ?c0 ?k0) (PI.cons_all (PI.gdef_mk ?a1 ?l1 ?c1 ?k1) (PI.cons_all (PI.gdef_mk ?a2 ?l2 ?c2 ?k2) (PI.cons_all (PI.gdef_mk ?a3 ?l3 ?c3 ?k3) (PI.nil_all)))), PI.cons_all (PI.gl_fn rfl rfl rfl) (PI.cons_all (PI.gl_fn rfl rfl rfl) (PI.cons_all (PI.gl_fn rfl rfl rfl) (PI.cons_all (PI.gl_fn rfl rfl rfl) PI.nil_all))), PI.cons_all ?zlen (PI.cons_all ?zabs (PI.cons_all ?zrange (PI.cons_all ?zisinstance (PI.cons_all ?zbool (PI.nil_all))))), ⟨fun c k h => (by cases h), fun c k h => (by cases h), fun c k f h => (by cases h)⟩⟩
  (case a0 => k_is)
  (case l0 => k_is)
  (case c0 => k_is)
  (case k0 => k_is)
  (case a1 => k_is)
  (case l1 => k_is)
  (case c1 => k_is)
  (case k1 => k_is)
  (case a2 => k_is)
  (case l2 => k_is)
  (case c2 => k_is)
  (case k2 => k_is)
  (case a3 => k_is)
  (case l3 => k_is)
  (case c3 => k_is)
  (case k3 => k_is)
  (case zlen => k_is)
  (case zabs => k_is)
  (case zrange => k_is)
  (case zisinstance => k_is)
  (case zbool => k_is)
