import PyProof.Rows.All
import Wide.All
import OpenK.AllK
import Wide.FinOn
import Lean
import PyProof.EqAt
import PyProof.EqKinds
import PyProof.TupleCall
import PyProof.NeData
import PyProof.P3Eq
import PyProof.StrLawsIn
import PySem.Challenge.RW_beaconvale_k43_sights_over_ground
set_option Elab.async false
set_option linter.all false
set_option maxRecDepth 100000
set_option maxHeartbeats 4000000
set_option Elab.async false
set_option linter.all false
set_option maxRecDepth 100000
namespace L2
open PySem PySem.Spec PyProof.Rows
abbrev Key:=Sum Int Str
def zpS : Key→Value→Bool
 | .inl k,v=>Value.isInt k v
 | .inr x,v=>Value.isStrOf x v
def zvy (w : World) : Key→Int
 | .inl k=>hashInt k
 | .inr x=>hashStr w x
theorem za3 : ∀ {k : Key} {v : Value},zpS k v = true→(∃ i t,k = Sum.inl i∧v = Value.int i t)∨(∃ x t,k = Sum.inr x∧v = Value.str x t)
 | .inl i,v,h=>by
  obtain ⟨t,e⟩:=Value.isInt_shape (k:=i) (v:=v) h
  exact .inl ⟨i,t,rfl,e⟩
 | .inr x,v,h=>by
  obtain ⟨t,e⟩:=Value.isStrOf_shape (x:=x) (v:=v) h
  exact .inr ⟨x,t,rfl,e⟩
theorem zsB (a b : Int) : decide ((Sum.inl a : Key) = Sum.inl b) = (a == b):=by
 by_cases e : a = b
 ·subst e; simp
 ·have h : ¬ (Sum.inl a : Key) = Sum.inl b:=fun q=>e (Sum.inl.inj q)
  rw [decide_eq_false h]
  exact (beq_eq_false_iff_ne.mpr e).symm
theorem zsb (a b : Str) : decide ((Sum.inr a : Key) = Sum.inr b) = decide (a = b):=by
 by_cases e : a = b
 ·subst e; simp
 ·have h : ¬ (Sum.inr a : Key) = Sum.inr b:=fun q=>e (Sum.inr.inj q)
  rw [decide_eq_false h,decide_eq_false e]
theorem zsD (a : Int) (b : Str) : decide ((Sum.inl a : Key) = Sum.inr b) = false:=decide_eq_false (fun q=>nomatch q)
theorem zsg (a : Str) (b : Int) : decide ((Sum.inr a : Key) = Sum.inl b) = false:=decide_eq_false (fun q=>nomatch q)
def zlN (prog : Program) (w : World) : PySem.KeyKind prog w Key where
  is:=zpS
  hash:=zvy w
  inj:=fun v a b ha hb=>by
    rcases za3 ha with ⟨i,t,rfl,rfl⟩ | ⟨x,t,rfl,rfl⟩
    · rcases za3 hb with ⟨j,u,rfl,e⟩ | ⟨y,u,rfl,e⟩
      · injection e with e1 _; rw [e1]
      · exact nomatch e
    · rcases za3 hb with ⟨j,u,rfl,e⟩ | ⟨y,u,rfl,e⟩
      · exact nomatch e
      · injection e with e1 _; rw [e1]
  byValue:=fun k v h=>by
    rcases za3 h with ⟨i,t,rfl,rfl⟩ | ⟨x,t,rfl,rfl⟩ <;> rfl
  pyHash:=fun hv h=>by
    rcases za3 hv with ⟨i,t,rfl,rfl⟩ | ⟨x,t,rfl,rfl⟩
    · exact wpAny_pyHash_int h
    · exact wpAny_pyHash_str h
  eqBool:=fun hu hv h=>by
    rcases za3 hu with ⟨i,t,rfl,rfl⟩ | ⟨x,t,rfl,rfl⟩
    · rcases za3 hv with ⟨j,u,rfl,rfl⟩ | ⟨y,u,rfl,rfl⟩
      · rw [zsB] at h; exact wpAny_eqBool_int h
      · rw [zsD] at h; exact SeqAt.EqAt.int_str i t y u _ _ _ _ h
    · rcases za3 hv with ⟨j,u,rfl,rfl⟩ | ⟨y,u,rfl,rfl⟩
      · rw [zsg] at h; exact SeqAt.EqAt.str_int x t j u _ _ _ _ h
      · rw [zsb] at h; exact wpAny_eqBool_str h
  «strs»:=fun k x t v h=>by
    rcases za3 h with ⟨i,u,rfl,e⟩ | ⟨y,u,rfl,e⟩
    · exact nomatch e
    · injection e with e1 _
      subst e1
      cases v <;> rfl
end L2
namespace L2
open PySem PySem.Spec PyProof.Rows
inductive V where
 | non | bl (b : Bool) | int (i : Int) | str (x : Str) | byt (b : Array UInt8) | flt (b : UInt64) | ref (a : Addr) | ty (n : String)
 deriving DecidableEq
def RelV : V→Value→Prop
 | .non,u=>u = Value.none
 | .bl b,u=>u = Value.bool b
 | .int i,u=>∃ t,u = Value.int i t
 | .str x,u=>∃ t,u = Value.str x t
 | .byt b,u=>∃ t,u = Value.bytes b t
 | .flt b,u=>∃ t,u = Value.float b t
 | .ref a,u=>u = Value.ref a
 | .ty n,u=>u = Value.type n
abbrev Vals : List V→List Value→Prop:=Paired RelV
theorem Vals.length {xs : List V} {us : List Value} (r : Vals xs us) : xs.length = us.length:=Paired.length r
theorem Vals.get : ∀ {xs : List V} {us : List Value} {i : Nat} {x : V},Vals xs us→xs[i]? = some x→∃ u,us[i]? = some u∧RelV x u
 | _,_,_,_,.nil,e=>by simp at e
 | _,_,0,_,.cons r _,e=>by simp at e; subst e; exact ⟨_,rfl,r⟩
 | _,_,i + 1,x,.cons _ t,e=>by
  obtain ⟨u,h1,h2⟩:=Vals.get (i:=i) (x:=x) t (by simpa using e)
  exact ⟨u,by simpa using h1,h2⟩
theorem Vals.set {x : V} {u : Value} (r : RelV x u) : ∀ {xs : List V} {us : List Value} (i : Nat),Vals xs us→Vals (xs.set i x) (us.set i u)
 | _,_,_,.nil=>.nil
 | _,_,0,.cons _ t=>.cons r t
 | _,_,i + 1,.cons q t=>.cons q (Vals.set r i t)
theorem Vals.append : ∀ {xs ys : List V} {us ws : List Value},Vals xs us→Vals ys ws→Vals (xs ++ ys) (us ++ ws)
 | _,_,_,_,.nil,s=>s
 | _,_,_,_,.cons r t,s=>.cons r (Vals.append t s)
theorem Vals.take : ∀ {xs : List V} {us : List Value} (n : Nat),Vals xs us→Vals (xs.take n) (us.take n)
 | _,_,0,_=>.nil
 | _,_,_ + 1,.nil=>.nil
 | _,_,n + 1,.cons r t=>.cons r (Vals.take n t)
theorem Vals.drop : ∀ {xs : List V} {us : List Value} (n : Nat),Vals xs us→Vals (xs.drop n) (us.drop n)
 | _,_,0,r=>r
 | _,_,_ + 1,.nil=>.nil
 | _,_,n + 1,.cons _ t=>Vals.drop n t
def zhy : Option V→Option Value→Prop
 | some v,some u=>RelV v u
 | none,none=>True
 | _,_=>False
def KV {κ : Type} : List (κ × V)→List (κ × Value)→Prop:=Paired fun (p : κ × V) (q : κ × Value)=>p.1 = q.1∧RelV p.2 q.2
def kV : Key→V
 | .inl i=>.int i
 | .inr x=>.str x
inductive HO where
 | lst (xs : List V)
 | tup (xs : List V)
 | dK (kvs : List (Key × V)) | dT (kvs : List (List Key × V))
 | set (S : Int→Bool) (n : Nat)
 | ins (C dx : Addr) (fs : List (Str × V))
 | own (x : Addr)
 | xd (fs : List (Str × V))
 | met (f x : Addr)
 | rng (lo hi : Int)
 | frz (o : Obj) (u : HO)
 | tbl (ps : Array Value)
 | ext (φ : Heap→Prop)
abbrev Hp:=Addr→Option HO
def upd (H : Hp) (a : Addr) (o : HO) : Hp:=fun b=>if b = a then some o else H b
theorem zaJ {H : Hp} {a : Addr} {o : HO} : upd H a o a = some o:=by unfold upd; rw [if_pos rfl]
theorem zad {H : Hp} {a b : Addr} {o : HO} (h : b ≠ a) : upd H a o b = H b:=by unfold upd; rw [if_neg h]
theorem zhc {H : Hp} {a b : Addr} {o u : HO} (h : H a = some o) (h' : H b = some u) (d : o ≠ u) : a ≠ b:=by
 intro e; subst e; rw [h] at h'; exact d (Option.some.inj h')
theorem zbf {H : Hp} {a b : Addr} {o : HO} (h : H a = some o) (h' : H b = none) : a ≠ b:=by
 intro e; subst e; rw [h] at h'; cases h'
section
variable (P : Program) (w : World)
def za0 (H : Hp) (h : Heap) (a : Addr) : HO→Prop
 | .lst xs=>xs.length ≤ sizeLine∧∃ (its : List Value) (n : Nat),Vals xs its∧h.get? a = some { cls:=.type "list",data:=.seq its.toArray n }
 | .tup xs=>xs.length ≤ sizeLine∧∃ its : List Value,Vals xs its∧IsTup h a its.toArray
 | .dK kvs=>kvs.length ≤ sizeLine∧(a == sysModules) = false∧∃ vs,KV kvs vs∧h.DictOf (zlN P w) a vs
 | .dT kvs=>kvs.length ≤ sizeLine∧(a == sysModules) = false∧∃ xs : List (List Key × Addr × Value),
   Paired (fun (p : List Key × V) (q : List Key × Addr × Value)=>p.1 = q.1∧H q.2.1 = some (.tup (p.1.map kV))∧RelV p.2 q.2.2) kvs xs ∧
   ∃ o es ep,h.get? a = some o∧o.ExactDict∧o.data = .dict es ep∧es.toList = xs.map (entryOfKey (tupleKind (zlN P w)))∧(xs.map (·.1)).Nodup
 | .set S n=>h.SetOf (intKind P w) a S n
 | .ins C dx fs=>H dx = some (.own a)∧fs.length ≤ 1000∧dx ≠ a∧h.get? a = some (PySem.W.instObj C dx) ∧
   ∃ mA,h.Ns1 dx mA∧(∀ f,zhy (fs.lookup f) (mA f))∧PySem.Within mA (fs.map (·.1))
 | .own _=>∃ o,h.get? a = some o
 | .xd fs=>∃ mA,h.Ns1 a mA∧∀ f,zhy (fs.lookup f) (mA f)
 | .rng lo hi=>∃ t u v,h.get? a = some { cls:=.type "range",data:=.fields #[.int lo t,.int hi u,.int 1 v] }
 | .frz o u=>h.get? a = some o∧za0 H h a u
 | .tbl ps=>h.get? a = some { cls:=.none,data:=.fields ps }
 | .met f x=>h.get? a = some (PySem.W.methodObj (.ref f) (.ref x))
 | .ext φ=>φ h∧(∃ o,h.get? a = some o)∧∀ h1 h2 : Heap,φ h1→(∀ o,h1.get? a = some o→h2.get? a = some o)→φ h2
def HOk (H : Hp) (h : Heap) : Prop:=∀ a o,H a = some o→za0 P w H h a o
end
section
variable {P : Program} {w : World} {H H' : Hp} {h h' : Heap} {a : Addr} {o : HO}
theorem za0.lt (x : za0 P w H h a o) : a < h.objs.size:=by
 cases o with
 | lst xs=>obtain ⟨_,_,_,_,e⟩:=x; exact Heap.lt_size e
 | tup xs=>obtain ⟨_,_,_,p⟩:=x; exact p.lt
 | dK kvs=>obtain ⟨_,_,_,_,o,_,_,e,_⟩:=x; exact Heap.lt_size e
 | dT kvs=>obtain ⟨_,_,_,_,o,_,_,e,_⟩:=x; exact Heap.lt_size e
 | set S n=>obtain ⟨o,_,_,_,e,_⟩:=x; exact Heap.lt_size e
 | ins C dx fs=>obtain ⟨_,_,_,e,_⟩:=x; exact Heap.lt_size e
 | own y=>obtain ⟨_,e⟩:=x; exact Heap.lt_size e
 | xd fs=>obtain ⟨_,⟨_,_,_,e,_⟩,_⟩:=x; exact Heap.lt_size e
 | rng lo hi=>obtain ⟨_,_,_,e⟩:=x; exact Heap.lt_size e
 | frz ob u=>obtain ⟨e,_⟩:=x; exact Heap.lt_size e
 | tbl ps=>exact Heap.lt_size (show h.get? a = some _ from x)
 | met f y=>exact Heap.lt_size (show h.get? a = some _ from x)
 | ext φ=>obtain ⟨_,⟨_,e⟩,_⟩:=x; exact Heap.lt_size e
theorem Paired.mapP {α β : Type} {F G : α→β→Prop} : ∀ {l₁ : List α} {l₂ : List β},Paired F l₁ l₂→(∀ a b,F a b→G a b)→Paired G l₁ l₂
 | _,_,.nil,_=>.nil
 | _,_,.cons r t,f=>.cons (f _ _ r) (Paired.mapP t f)
theorem Paired.imp' {α β : Type} {F G : α→β→Prop} (f : ∀ a b,F a b→G a b) {l₁ : List α} {l₂ : List β} (r : Paired F l₁ l₂) : Paired G l₁ l₂:=Paired.mapP r f
theorem za0.stay (x : za0 P w H h a o) (k : ∀ b u,(b = a∨H b = some (.own a))→h.get? b = some u→h'.get? b = some u)
  (ho : ∀ b,H b = some (.own a)→H' b = some (.own a)) (ht : ∀ b xs,H b = some (.tup xs)→H' b = some (.tup xs)) : za0 P w H' h' a o:=by
 induction o with
 | lst xs=>obtain ⟨z,its,n,r,e⟩:=x; exact ⟨z,its,n,r,k _ _ (.inl rfl) e⟩
 | tup xs=>obtain ⟨z,its,r,ob,e,c⟩:=x; exact ⟨z,its,r,ob,k _ _ (.inl rfl) e,c⟩
 | dK kvs=>obtain ⟨z,y,vs,r,ob,es,ep,e,c⟩:=x; exact ⟨z,y,vs,r,ob,es,ep,k _ _ (.inl rfl) e,c⟩
 | dT kvs =>
  obtain ⟨z,y,xs,r,ob,es,ep,e,c⟩:=x
  exact ⟨z,y,xs,Paired.mapP r fun p q z=>⟨z.1,ht _ _ z.2.1,z.2.2⟩,ob,es,ep,k _ _ (.inl rfl) e,c⟩
 | set S n=>obtain ⟨ob,es,ep,t,e,c⟩:=x; exact ⟨ob,es,ep,t,k _ _ (.inl rfl) e,c⟩
 | ins C dx fs =>
  obtain ⟨d,z,ne,e,mA,⟨od,es,ep,e2,c⟩,r⟩:=x
  exact ⟨ho _ d,z,ne,k _ _ (.inl rfl) e,mA,⟨od,es,ep,k _ _ (.inr d) e2,c⟩,r⟩
 | own y=>obtain ⟨ob,e⟩:=x; exact ⟨ob,k _ _ (.inl rfl) e⟩
 | xd fs=>obtain ⟨mA,⟨od,es,ep,e,c⟩,r⟩:=x; exact ⟨mA,⟨od,es,ep,k _ _ (.inl rfl) e,c⟩,r⟩
 | rng lo hi=>obtain ⟨t,u,v,e⟩:=x; exact ⟨t,u,v,k _ _ (.inl rfl) e⟩
 | frz ob u ih=>obtain ⟨e,q⟩:=x; exact ⟨k _ _ (.inl rfl) e,ih q⟩
 | tbl ps =>
  have e : h.get? a = some { cls:=.none,data:=.fields ps }:=x
  show h'.get? a = some { cls:=.none,data:=.fields ps }
  exact k a _ (.inl rfl) e
 | met f y =>
  have e : h.get? a = some (PySem.W.methodObj (.ref f) (.ref y)):=x
  show h'.get? a = some (PySem.W.methodObj (.ref f) (.ref y))
  exact k a _ (.inl rfl) e
 | ext φ=>obtain ⟨p,⟨o,e⟩,st⟩:=x; exact ⟨st _ _ p fun o q=>k _ _ (.inl rfl) q,⟨o,k _ _ (.inl rfl) e⟩,st⟩
theorem HOk.lt (x : HOk P w H h) (e : H a = some o) : a < h.objs.size:=(x a o e).lt
theorem HOk.fresh (x : HOk P w H h) (e : h.objs.size ≤ a) : H a = none:=by
 cases q : H a with
 | none=>rfl
 | some u=>exact absurd (Nat.lt_of_lt_of_le (x.lt q) e) (Nat.lt_irrefl _)
theorem HOk.kept (x : HOk P w H h) (k : ∀ b u,h.get? b = some u→h'.get? b = some u) : HOk P w H h':=fun a o e =>
 (x a o e).stay (fun b u _ q=>k b u q) (fun _ q=>q) fun _ _ q=>q
theorem HOk.laid (x : HOk P w H h) (k : ∀ b u,h.get? b = some u→h'.get? b = some u) (hp : h.objs.size ≤ a) (new : za0 P w (upd H a o) h' a o) : HOk P w (upd H a o) h':=fun b u e=>by
 have hn:=x.fresh hp
 by_cases hb : b = a
 ·subst hb; rw [zaJ] at e; cases e; exact new
 ·rw [zad hb] at e
  exact (x b u e).stay (fun c v _ q=>k c v q) (fun c q=>by rw [zad (zbf q hn)]; exact q) fun c xs q=>by rw [zad (zbf q hn)]; exact q
end
def Rd (H : Hp) (a : Addr) (u : HO) : Prop:=H a = some u∨∃ o,H a = some (.frz o u)
theorem Rd.ok {P : Program} {w : World} {H : Hp} {h : Heap} {a : Addr} {u : HO} (r : Rd H a u) (x : HOk P w H h) : za0 P w H h a u:=by
 rcases r with r | ⟨o,r⟩
 ·exact x a u r
 ·obtain ⟨_,q⟩:=x a _ r
  exact q
def Mut : Option HO→Prop
 | some (.lst _)=>True
 | some (.dK _)=>True
 | some (.dT _)=>True
 | some (.set _ _)=>True
 | some (.ins _ _ _)=>True
 | some (.ext _)=>True
 | _=>False
section
variable {P : Program} {w : World} {H : Hp} {h h' : Heap} {x e : Addr} {o' : HO}
theorem HOk.write (ok : HOk P w H h) (mu : Mut (H x)) (he : e = x∨H e = some (.own x)) (k : ∀ b u,b ≠ e→h.get? b = some u→h'.get? b = some u) (heo : ∃ u,h'.get? e = some u)
  (new : za0 P w (upd H x o') h' x o') : HOk P w (upd H x o') h':=fun b u q=>by
 have nown : ∀ c y,H c = some (.own y)→c ≠ x:=fun c y r z=>by subst z; rw [r] at mu; exact mu
 have ntup : ∀ c xs,H c = some (.tup xs)→c ≠ x:=fun c xs r z=>by subst z; rw [r] at mu; exact mu
 by_cases hb : b = x
 ·subst hb; rw [zaJ] at q; cases q; exact new
 ·rw [zad hb] at q
  by_cases hbe : b = e
  ·have q' : H b = some (.own x):=by
    rcases he with z | z
    ·exact absurd (hbe.trans z) hb
    ·rw [hbe]; exact z
   rw [q] at q'; cases q'
   obtain ⟨v,hv⟩:=heo
   exact ⟨v,by rw [hbe]; exact hv⟩
  ·refine (ok b u q).stay (fun c v hc r=>k c v ?_ r) (fun c r=>by rw [zad (nown c b r)]; exact r) fun c xs r=>by rw [zad (ntup c xs r)]; exact r
   rcases hc with rfl | hc
   ·exact hbe
   ·rintro rfl
    rcases he with z | z
    ·exact nown c b hc z
    ·rw [hc] at z; cases z; exact hb rfl
end
structure Un (fs ex : List Addr) (H H' : Hp) (h h' : Heap) : Prop where
 keep : ∀ b o,h.get? b = some o→H b = none→b ∉ fs→b ∉ ex→h'.get? b = some o
 slot : ∀ b o,h.get? b = some o→H b = none→b ∈ fs→b ∉ ex→∃ sl,h'.get? b = some { o with slots:=sl }
 free : ∀ b o,h.get? b = some o→H b = none→b ∉ ex→H' b = none
 there : ∀ b o,h.get? b = some o→b ∉ ex→∃ o',h'.get? b = some o'
 tups : ∀ b xs,H b = some (.tup xs)→H' b = some (.tup xs)
 frzs : ∀ b o u,H b = some (.frz o u)→H' b = some (.frz o u)
 tbls : ∀ b ps,H b = some (.tbl ps)→∃ more,H' b = some (.tbl (ps ++ more))
section
variable {fs fs' ex ex' : List Addr} {H H1 H2 : Hp} {h h1 h2 h' : Heap} {a x e : Addr} {o : HO}
theorem Un.any (u : Un fs ex H H1 h h1) {b : Addr} {ob : Obj} (q : h.get? b = some ob) (n : H b = none) (hx : b ∉ ex) : ∃ sl,h1.get? b = some { ob with slots:=sl }:=by
 by_cases hb : b ∈ fs
 ·exact u.slot b ob q n hb hx
 ·exact ⟨ob.slots,u.keep b ob q n hb hx⟩
theorem Un.kept (k : ∀ b u,h.get? b = some u→h'.get? b = some u) : Un fs ex H H h h' :=
 ⟨fun b ob q _ _ _=>k b ob q,fun b ob q _ _ _=>⟨ob.slots,k b ob q⟩,fun _ _ _ n _=>n,fun b ob q _=>⟨ob,k b ob q⟩,fun _ _ q=>q,fun _ _ _ q=>q,fun _ ps q=>⟨#[],by rw [q]; simp⟩⟩
theorem Un.refl : Un fs ex H H h h:=Un.kept fun _ _ q=>q
theorem Un.laid (k : ∀ b u,h.get? b = some u→h'.get? b = some u) (hp : h.objs.size ≤ a) (hn : H a = none) : Un fs ex H (upd H a o) h h' where
 keep:=fun b u q _ _ _=>k b u q
 slot:=fun b u q _ _ _=>⟨u.slots,k b u q⟩
 free:=fun b u q n _=>by rw [zad (Nat.ne_of_lt (Nat.lt_of_lt_of_le (Heap.lt_size q) hp))]; exact n
 there:=fun b u q _=>⟨u,k b u q⟩
 tups:=fun b xs q=>by rw [zad (zbf q hn)]; exact q
 frzs:=fun b u xs q=>by rw [zad (zbf q hn)]; exact q
 tbls:=fun b ps q=>⟨#[],by rw [zad (zbf q hn),q]; simp⟩
theorem Un.write (mu : Mut (H x)) (he : e = x∨H e = some (.own x)) (k : ∀ b u,b ≠ e→h.get? b = some u→h'.get? b = some u) (heo : ∃ u,h'.get? e = some u) : Un fs ex H (upd H x o) h h':=by
 have hx : ∀ b,H b = none→b ≠ x:=fun b n z=>by subst z; rw [n] at mu; exact mu
 have hb : ∀ b,H b = none→b ≠ e:=fun b n z=>by
  subst z
  rcases he with r | r
  ·exact hx b n r
  ·rw [n] at r; cases r
 have hm : ∀ b u,H b = some u→¬ Mut (some u)→b ≠ x:=fun b u q nm z=>by subst z; rw [q] at mu; exact nm mu
 refine ⟨fun b u q n _ _=>k b u (hb b n) q,fun b u q n _ _=>⟨u.slots,k b u (hb b n) q⟩,fun b u q n _=>by rw [zad (hx b n)]; exact n,fun b u q _=>?_,
  fun b xs q=>by rw [zad (hm b _ q fun z=>z)]; exact q,fun b u xs q=>by rw [zad (hm b _ q fun z=>z)]; exact q,fun b ps q=>⟨#[],by rw [zad (hm b _ q fun z=>z),q]; simp⟩⟩
 by_cases hbe : b = e
 ·subst hbe; exact heo
 ·exact ⟨u,k b u hbe q⟩
end
def trk (h : Heap) (H : Hp) : List Addr:=(List.range h.objs.size).filter fun a=>(H a).isSome
def zfS (h : Heap) (H : Hp) : Heap:=PySem.W.hideAll h (trk h H)
theorem znt (h : Heap) (H : Hp) : (zfS h H).objs.size = h.objs.size:=PySem.W.hideAll_size _ _
theorem zpz {h : Heap} {H : Hp} {b : Addr} {o : Obj} (e : h.get? b = some o) (n : H b = none) : (zfS h H).get? b = some o :=
 PySem.W.hideAll_get _ e fun hm=>by
  have q : (H b).isSome = true:=(List.mem_filter.mp hm).2
  rw [n] at q; simp at q
theorem zri {h : Heap} {H : Hp} {b : Addr} {o : Obj} (e : (zfS h H).get? b = some o) : h.get? b = some o∧H b = none:=by
 have e' : h.get? b = some o:=PySem.W.of_hideAll (trk h H) e
 refine ⟨e',?_⟩
 cases q : H b with
 | none=>rfl
 | some x =>
  have hm : b ∈ trk h H:=List.mem_filter.mpr ⟨List.mem_range.mpr (Heap.lt_size e'),by simp [q]⟩
  have z : (zfS h H).get? b = none:=PySem.W.hideAll_none (trk h H) hm
  rw [z] at e; cases e
def zqx (g h : Heap) (L : Addr) : List (Addr × Obj):=(List.range h.objs.size).filterMap fun a=>if a = L∨(g.get? a).isSome = true then none else (h.get? a).map fun o=>(a,o)
def rest (g h : Heap) (L d : Addr) : List (Addr × Obj):=(zqx g h L).filter fun p=>decide (p.1 ≠ d)
end L2
namespace L2
open PySem PySem.Spec PyProof.Rows
structure Mod (K : PySem.W.Frag) (mg : Str→Option Value) (base : Heap) : Prop where
 kin : K.In base
 glob : base.Ns mainGlobals mg
 blt : ∃ mb,base.Ns builtinsNs mb∧∀ x : Str,x ≠ "__name__"→mb x = bootBuiltins x
 nolimit : base.NoLimit
/-- the context: a def's body (or a comprehension's block) running. base: fixed through the whole law; s₀, H₀: the entry; outer: the frames whose slots others may change (a def's callers); stack: all frames that run;
   ex: iterators that were made ahead of the entry and are walked here (a comprehension's); fn: the names whose cells were made at the entry (a def: all; a comprehension's block: its own); calm: not within an except suite; pn: pins that every state bears; xe: what is wanted of an exception that leaves the code -/
structure Cx where
 prog : Program
 w : World
 K : PySem.W.Frag
 mg : Str→Option Value
 base : Heap
 A : Around
 N : List Str
 s₀ : Shared
 H₀ : Hp
 env : Env
 outer : List Env
 stack : List Env
 ex : List Addr
 fn : Str→Bool
 calm : Bool
 pn : List (Addr × Obj)
 xe : Value→Shared→Prop
def frs (l : List Env) : List Addr:=l.filterMap (·.frame)
abbrev Cx.fs (X : Cx) : List Addr:=frs X.outer
def Vis (sc : Scope) (x : Str) : Prop:=sc.names.lookup x = some .local∨sc.names.lookup x = some .cell∨sc.names.lookup x = some .free
def Loc (sc : Scope) (x : Str) : Prop:=sc.names.lookup x = some .local∨sc.names.lookup x = some .cell
def Look (env : Env) (h : Heap) (m : Str→Option Value) (x : Str) (u : Value) : Prop :=
 (env.kindOf x = some .local∧m x = some u)∨((env.kindOf x = some .cell∨env.kindOf x = some .free)∧∃ c,env.cells.lookup x = some c∧h.IsCell c (some u))
structure Cx.Ok (X : Cx) : Prop where
 mod : Mod X.K X.mg X.base
 kind : X.env.scope.kind = .function
 glob : X.env.globals = mainGlobals
 blt : X.env.builtins = builtinsNs
 above : X.s₀.heap.objs.size ≤ X.env.locals
 inj : ∀ x y c,X.env.cells.lookup x = some c→X.env.cells.lookup y = some c→x = y
 has : ∀ x,(X.env.kindOf x = some .cell∨X.env.kindOf x = some .free)→∃ c,X.env.cells.lookup x = some c
 cab : ∀ x c,X.fn x = true→X.env.cells.lookup x = some c→X.s₀.heap.objs.size ≤ c
 hd : X.calm = true→X.A.handled = none
 frames : X.A.frames = some X.stack
 stk : X.stack = X.outer∨(X.stack = X.env :: X.outer∧X.env.frame = some X.env.locals)
 exf : ∀ b ∈ X.ex,b ≠ X.env.locals∧∀ x c,X.env.cells.lookup x = some c→c ≠ b
 bs : ∀ b o,X.base.get? b = some o→X.s₀.heap.get? b = some o∧X.H₀ b = none
 bsz : X.base.objs.size ≤ X.s₀.heap.objs.size
 noex : ∀ b o,X.base.get? b = some o→b ∉ X.ex
 exfs : ∀ b ∈ X.ex,b ∉ X.fs
 funs : X.s₀.heap.FunFrames X.base X.outer
 frf : ∀ b ∈ X.fs,X.H₀ b = none
structure Inv (X : Cx) (pins : List (Addr × Obj)) (σ : List (Option V)) (H : Hp) (s : Shared) : Prop where
 ok : X.Ok
 os : s.os = X.s₀.os
 bare : AllBare s.gens
 base : Un X.fs X.ex X.H₀ H X.s₀.heap s.heap
 loc : ∃ m,s.heap.Ns X.env.locals m∧∀ (i : Nat) (x : Str) (v : V),X.N[i]? = some x→σ[i]? = some (some v)→Vis X.env.scope x→∃ u,RelV v u∧Look X.env s.heap m x u
 cell : ∀ x c,X.env.cells.lookup x = some c→∃ v,s.heap.IsCell c v
 free : H X.env.locals = none
 freeC : ∀ x c,X.env.cells.lookup x = some c→H c = none
 pin : ∀ p ∈ X.pn ++ pins,s.heap.get? p.1 = some p.2∧H p.1 = none∧p.1 ≠ X.env.locals∧p.1 ∉ X.fs∧∀ v,p.2.data ≠ .cell v
 hok : HOk X.prog X.w H s.heap
 len : σ.length = X.N.length
section
variable {X : Cx} {pins : List (Addr × Obj)} {σ : List (Option V)} {H H' : Hp} {s : Shared} {h' : Heap}
theorem Cx.Ok.nofr (ok : X.Ok) {b : Addr} {o : Obj} (e : X.base.get? b = some o) : b ∉ X.fs:=fun hb=>by
 have:=(ok.funs.mem hb).1
 rw [e] at this; cases this
theorem Inv.bs (I : Inv X pins σ H s) : ∀ b o,X.base.get? b = some o→s.heap.get? b = some o∧H b = none:=fun b o e =>
 ⟨I.base.keep b o (I.ok.bs b o e).1 (I.ok.bs b o e).2 (I.ok.nofr e) (I.ok.noex b o e),I.base.free b o (I.ok.bs b o e).1 (I.ok.bs b o e).2 (I.ok.noex b o e)⟩
theorem Inv.bk (I : Inv X pins σ H s) : ∀ b o,X.base.get? b = some o→s.heap.get? b = some o:=fun b o e=>(I.bs b o e).1
theorem Inv.mod (I : Inv X pins σ H s) : Mod X.K X.mg X.base:=I.ok.mod
theorem Inv.kIn (I : Inv X pins σ H s) : X.K.In s.heap:=I.ok.mod.kin.keeps I.bk
theorem Inv.lt (I : Inv X pins σ H s) : X.env.locals < s.heap.objs.size:=let ⟨_,hn,_⟩:=I.loc; hn.lt
theorem Inv.sz (I : Inv X pins σ H s) : X.s₀.heap.objs.size ≤ s.heap.objs.size:=Nat.le_trans I.ok.above (Nat.le_of_lt I.lt)
theorem Inv.nofs (I : Inv X pins σ H s) {a : Addr} (h : s.heap.objs.size ≤ a) : a ∉ X.fs:=fun hb=>by
 obtain ⟨_,o,ho,_⟩:=I.ok.funs.mem hb
 exact absurd (Nat.lt_of_lt_of_le (Heap.lt_size ho) (Nat.le_trans I.sz h)) (Nat.lt_irrefl _)
theorem Inv.cne (I : Inv X pins σ H s) : ∀ x c,X.env.cells.lookup x = some c→c ≠ X.env.locals:=fun x c e z=>by
 obtain ⟨v,o,ho,hd⟩:=I.cell x c e
 obtain ⟨m,⟨o',es,ep,ho',hd',_⟩,_⟩:=I.loc
 rw [z,ho'] at ho; cases ho; rw [hd'] at hd; cases hd
theorem Inv.funs (I : Inv X pins σ H s) : s.heap.FunFrames X.base X.outer:=by
 have all : ∀ (l : List Env),(∀ b ∈ frs l,b ∈ X.fs)→X.s₀.heap.FunFrames X.base l→s.heap.FunFrames X.base l:=by
  intro l
  induction l with
  | nil=>intro _ _; trivial
  | cons env r ih =>
   intro hs hl
   obtain ⟨hk,⟨L,o,hf,hn,ho,hd⟩,hr⟩:=hl
   have hL : L ∈ X.fs:=hs L (by unfold frs; rw [List.filterMap_cons,hf]; exact List.mem_cons_self)
   obtain ⟨sl,e⟩:=I.base.slot L o ho (I.ok.frf L hL) hL fun z=>I.ok.exfs L z hL
   exact ⟨hk,⟨L,_,hf,hn,e,hd⟩,ih (fun b hb=>hs b (by unfold frs; rw [List.filterMap_cons,hf]; exact List.mem_cons_of_mem _ hb)) hr⟩
 exact all X.outer (fun _ hb=>hb) I.ok.funs
theorem Inv.stack (I : Inv X pins σ H s) : s.heap.FunFrames X.base X.stack:=by
 rcases I.ok.stk with e | ⟨e,hf⟩
 ·rw [e]; exact I.funs
 ·rw [e]
  obtain ⟨m,hn,_⟩:=I.loc
  refine .cons (by rw [I.ok.kind]; decide) hf hn ?_ I.funs
  exact Heap.get?_none_of_le (Nat.le_trans I.ok.bsz I.ok.above)
theorem Inv.stkSub (I : Inv X pins σ H s) : ∀ b ∈ frs X.stack,b ∈ X.env.locals :: X.fs:=fun b hb=>by
 rcases I.ok.stk with e | ⟨e,hf⟩
 ·rw [e] at hb; exact List.mem_cons_of_mem _ hb
 ·rw [e] at hb
  unfold frs at hb
  rw [List.filterMap_cons,hf] at hb
  exact hb
theorem Inv.stkFree (I : Inv X pins σ H s) : ∀ b ∈ frs X.stack,H b = none:=fun b hb=>by
 rcases List.mem_cons.mp (I.stkSub b hb) with e | hb
 ·rw [e]; exact I.free
 ·obtain ⟨_,o,ho,_⟩:=I.ok.funs.mem hb
  exact I.base.free b o ho (I.ok.frf b hb) fun z=>I.ok.exfs b z hb
theorem Inv.step {g' : Array GenState} {t' : Nat} {d' : Drawn} {ch : List Addr} (I : Inv X pins σ H s)
  (hch : ∀ b ∈ ch,(b ∈ X.ex∨X.s₀.heap.objs.size ≤ b)∧b ≠ X.env.locals∧(∀ x c,X.env.cells.lookup x = some c→c ≠ b)∧∀ p ∈ X.pn ++ pins,p.1 ≠ b)
  (keep : ∀ b o,b ≠ X.env.locals→b ∉ X.fs→b ∉ ch→s.heap.get? b = some o→H b = none→h'.get? b = some o)
  (slot : ∀ b o,b ≠ X.env.locals→b ∈ X.fs→b ∉ ch→s.heap.get? b = some o→H b = none→∃ sl,h'.get? b = some { o with slots:=sl }) (free : ∀ b o,b ∉ ch→s.heap.get? b = some o→H b = none→H' b = none)
  (there : ∀ b o,b ∉ ch→s.heap.get? b = some o→∃ o',h'.get? b = some o')
  (tups : ∀ b xs,H b = some (.tup xs)→H' b = some (.tup xs)) (frzs : ∀ b o u,H b = some (.frz o u)→H' b = some (.frz o u)) (tbls : ∀ b ps,H b = some (.tbl ps)→∃ more,H' b = some (.tbl (ps ++ more)))
  (ns : ∀ m,s.heap.Ns X.env.locals m→h'.Ns X.env.locals m) (hok : HOk X.prog X.w H' h') (hg : AllBare g') :
  Inv X pins σ H' { s with heap:=h',gens:=g',drawn:=d',toks:=t' }:=by
 have neL : ∀ b o,X.s₀.heap.get? b = some o→b ≠ X.env.locals:=fun b o e=>Nat.ne_of_lt (Nat.lt_of_lt_of_le (Heap.lt_size e) I.ok.above)
 have neC : ∀ b o,X.s₀.heap.get? b = some o→b ∉ X.ex→b ∉ ch:=fun b o e hx hb=>by
  rcases (hch b hb).1 with z | z
  ·exact hx z
  ·exact absurd (Nat.lt_of_lt_of_le (Heap.lt_size e) z) (Nat.lt_irrefl _)
 have cellK : ∀ x c,X.env.cells.lookup x = some c→∀ v,s.heap.IsCell c v→h'.IsCell c v:=fun x c e v ⟨o,ho,hd⟩=>by
  have nch : c ∉ ch:=fun z=>(hch c z).2.2.1 x c e rfl
  by_cases hc : c ∈ X.fs
  ·obtain ⟨sl,q⟩:=slot c o (I.cne x c e) hc nch ho (I.freeC x c e)
   exact ⟨_,q,hd⟩
  ·exact ⟨o,keep c o (I.cne x c e) hc nch ho (I.freeC x c e),hd⟩
 refine ⟨I.ok,I.os,hg,⟨fun b o e n hb hx=>?_,fun b o e n hb hx=>?_,fun b o e n hx=>?_,fun b o e hx=>?_,fun b xs e=>tups b xs (I.base.tups b xs e),fun b o xs e=>frzs b o xs (I.base.frzs b o xs e),fun b ps e=>?_⟩,?_,fun x c e=>?_,?_,fun x c e=>?_,fun p hp=>?_,hok,I.len⟩
 ·exact keep b o (neL b o e) hb (neC b o e hx) (I.base.keep b o e n hb hx) (I.base.free b o e n hx)
 ·obtain ⟨sl,e1⟩:=I.base.slot b o e n hb hx
  obtain ⟨sl',e2⟩:=slot b _ (neL b o e) hb (neC b o e hx) e1 (I.base.free b o e n hx)
  exact ⟨sl',e2⟩
 ·obtain ⟨o',e1⟩:=I.base.there b o e hx
  exact free b o' (neC b o e hx) e1 (I.base.free b o e n hx)
 ·obtain ⟨o',e1⟩:=I.base.there b o e hx
  exact there b o' (neC b o e hx) e1
 ·obtain ⟨m1,e1⟩:=I.base.tbls b ps e
  obtain ⟨m2,e2⟩:=tbls b _ e1
  exact ⟨m1 ++ m2,by rw [e2,Array.append_assoc]⟩
 ·obtain ⟨m,hn,hl⟩:=I.loc
  refine ⟨m,ns m hn,fun i x v e1 e2 e3=>?_⟩
  obtain ⟨u,r,l⟩:=hl i x v e1 e2 e3
  refine ⟨u,r,?_⟩
  rcases l with l | ⟨k,c,e,z⟩
  ·exact .inl l
  ·exact .inr ⟨k,c,e,cellK x c e _ z⟩
 ·obtain ⟨v,z⟩:=I.cell x c e
  exact ⟨v,cellK x c e v z⟩
 ·obtain ⟨m,⟨o,_,_,ho,_⟩,_⟩:=I.loc
  exact free _ o (fun z=>(hch _ z).2.1 rfl) ho I.free
 ·obtain ⟨v,o,ho,hd⟩:=I.cell x c e
  exact free c o (fun z=>(hch c z).2.2.1 x c e rfl) ho (I.freeC x c e)
 ·obtain ⟨e,n,ne,nf,d⟩:=I.pin p hp
  have nch : p.1 ∉ ch:=fun z=>(hch p.1 z).2.2.2 p hp rfl
  exact ⟨keep p.1 p.2 ne nf nch e n,free p.1 p.2 nch e n,ne,nf,d⟩
theorem Inv.un {t' : Nat} (I : Inv X pins σ H s) (u : Un X.fs [] H H' s.heap h') (hok : HOk X.prog X.w H' h') : Inv X pins σ H' { s with heap:=h',toks:=t' }:=by
 obtain ⟨m,⟨o,es,ep,ho,r⟩,_⟩:=id I.loc
 obtain ⟨sl,hL⟩:=u.any ho I.free (by simp)
 exact I.step (g':=s.gens) (d':=s.drawn) (ch:=[]) (fun _ z=>nomatch z) (fun b o _ hb _ e n=>u.keep b o e n hb (by simp)) (fun b o _ hb _ e n=>u.slot b o e n hb (by simp)) (fun b o _ e n=>u.free b o e n (by simp)) (fun b o _ e=>u.there b o e (by simp)) u.tups u.frzs u.tbls (fun m' hm=>by
  obtain ⟨o',es',ep',ho',r'⟩:=hm
  rw [ho] at ho'; cases ho'
  exact ⟨_,es',ep',hL,r'⟩) hok I.bare
theorem Inv.call {g' : Array GenState} {t' : Nat} {d' : Drawn} {ch : List Addr} (I : Inv X pins σ H s) (u : Un (frs X.stack) ch H H' s.heap h') (hok : HOk X.prog X.w H' h') (hg : AllBare g')
  (hch : ∀ b ∈ ch,(b ∈ X.ex∨X.s₀.heap.objs.size ≤ b)∧b ≠ X.env.locals∧(∀ x c,X.env.cells.lookup x = some c→c ≠ b)∧∀ p ∈ X.pn ++ pins,p.1 ≠ b) :
  Inv X pins σ H' { s with heap:=h',gens:=g',drawn:=d',toks:=t' }:=by
 obtain ⟨m,⟨o,es,ep,ho,r⟩,_⟩:=id I.loc
 obtain ⟨sl,hL⟩:=u.any ho I.free fun z=>(hch _ z).2.1 rfl
 exact I.step (ch:=ch) hch (fun b o hL hb hc e n=>u.keep b o e n (fun z=>(List.mem_cons.mp (I.stkSub b z)).elim hL hb) hc) (fun b o _ _ hc e n=>u.any e n hc) (fun b o hc e n=>u.free b o e n hc) (fun b o hc e=>u.there b o e hc) u.tups u.frzs u.tbls (fun m' hm=>by
  obtain ⟨o',es',ep',ho',r'⟩:=hm
  rw [ho] at ho'; cases ho'
  exact ⟨_,es',ep',hL,r'⟩) hok hg
theorem Inv.turned {t' : Nat} {it : Addr} (I : Inv X pins σ H s) (k : ∀ b o,b ≠ it→s.heap.get? b = some o→h'.get? b = some o) (hn : H it = none) (hL : it ≠ X.env.locals)
  (h1 : it ∈ X.ex∨X.s₀.heap.objs.size ≤ it) (h2 : ∀ x c,X.env.cells.lookup x = some c→c ≠ it) (h3 : ∀ p ∈ X.pn ++ pins,p.1 ≠ it) : Inv X pins σ H { s with heap:=h',toks:=t' }:=by
 have nit : ∀ b u,H b = some u→b ≠ it:=fun b u e z=>by rw [z,hn] at e; cases e
 refine I.step (g':=s.gens) (d':=s.drawn) (ch:=[it]) (fun b hb=>?_) (fun b o _ _ hc e _=>k b o (fun z=>hc (by simp [z])) e) (fun b o _ _ hc e _=>⟨o.slots,k b o (fun z=>hc (by simp [z])) e⟩) (fun _ _ _ _ n=>n)
  (fun b o hc e=>⟨o,k b o (fun z=>hc (by simp [z])) e⟩) (fun _ _ e=>e) (fun _ _ _ e=>e) (fun b ps e=>⟨#[],by rw [e]; simp⟩) (fun m hm=>?_) (fun b u e=>?_) I.bare
 ·have e : b = it:=by simpa using hb
  subst e
  exact ⟨h1,hL,h2,h3⟩
 ·obtain ⟨o,es,ep,ho,r⟩:=hm
  exact ⟨o,es,ep,k _ o (Ne.symm hL) ho,r⟩
 ·refine (I.hok b u e).stay (fun c v hc q=>k c v ?_ q) (fun _ q=>q) fun _ _ q=>q
  rcases hc with z | z
  ·rw [z]; exact nit b u e
  ·exact nit c _ z
theorem Inv.tok (I : Inv X pins σ H s) (t : Nat) : Inv X pins σ H { s with toks:=t }:=I.un (h':=s.heap) (t':=t) Un.refl I.hok
theorem Inv.kept {t' : Nat} (I : Inv X pins σ H s) (k : ∀ b u,s.heap.get? b = some u→h'.get? b = some u) : Inv X pins σ H { s with heap:=h',toks:=t' }:=I.un (Un.kept k) (I.hok.kept k)
theorem Inv.laid {a : Addr} {o : HO} {t' : Nat} (I : Inv X pins σ H s) (k : ∀ b u,s.heap.get? b = some u→h'.get? b = some u) (hp : s.heap.objs.size ≤ a) (new : za0 X.prog X.w (upd H a o) h' a o) :
  Inv X pins σ (upd H a o) { s with heap:=h',toks:=t' }:=I.un (Un.laid k hp (I.hok.fresh hp)) (I.hok.laid k hp new)
theorem Inv.write {x e : Addr} {o : HO} {t' : Nat} (I : Inv X pins σ H s) (mu : Mut (H x)) (he : e = x∨H e = some (.own x)) (k : ∀ b u,b ≠ e→s.heap.get? b = some u→h'.get? b = some u) (heo : ∃ u,h'.get? e = some u)
  (new : za0 X.prog X.w (upd H x o) h' x o) : Inv X pins σ (upd H x o) { s with heap:=h',toks:=t' }:=I.un (Un.write mu he k heo) (I.hok.write mu he k heo new)
theorem Inv.weak {σ' : List (Option V)} (I : Inv X pins σ H s) (hl : σ'.length = σ.length) (w : ∀ (i : Nat) v,σ'[i]? = some (some v)→σ[i]? = some (some v)) : Inv X pins σ' H s :=
 ⟨I.ok,I.os,I.bare,I.base,let ⟨m,hn,hl'⟩:=I.loc; ⟨m,hn,fun i x v e1 e2 e3=>hl' i x v e1 (w i v e2) e3⟩,I.cell,I.free,I.freeC,I.pin,I.hok,hl.trans I.len⟩
theorem Inv.pins_of {pins' : List (Addr × Obj)} (I : Inv X pins σ H s) (h : ∀ p ∈ pins',s.heap.get? p.1 = some p.2∧H p.1 = none∧p.1 ≠ X.env.locals∧p.1 ∉ X.fs∧∀ v,p.2.data ≠ .cell v) : Inv X pins' σ H s :=
 ⟨I.ok,I.os,I.bare,I.base,I.loc,I.cell,I.free,I.freeC,fun p hp=>(List.mem_append.mp hp).elim (fun z=>I.pin p (List.mem_append_left _ z)) (h p),I.hok,I.len⟩
theorem zjW {N : List Str} (hN : N.Nodup) {i j : Nat} {x : Str} (a : N[i]? = some x) (b : N[j]? = some x) : i = j:=by
 obtain ⟨h1,e1⟩:=List.getElem?_eq_some_iff.mp a
 obtain ⟨h2,e2⟩:=List.getElem?_eq_some_iff.mp b
 exact (List.getElem_inj hN).mp (e1.trans e2.symm)
theorem zjm {M : Model} {A : Around} {E : Value→Shared→Prop} {i : Nat} {x : Str} {v : V} {u : Value} {Q : Unit→Shared→Prop} (I : Inv X pins σ H s) (hN : X.N.Nodup) (hi : X.N[i]? = some x) (hx : Loc X.env.scope x) (r : RelV v u)
  (h : ∀ s',Inv X pins (σ.set i (some v)) H s'→(∃ a,Heap.SameBut a s.heap s'.heap∧(a = X.env.locals∨X.env.cells.lookup x = some a))→Q () s') (hf : X.fn x = true∨X.env.scope.names.lookup x = some .local:=by first | exact .inl rfl | exact .inr rfl | assumption) : wpAny M A (storeName X.env x u) Q E s:=by
 obtain ⟨m,hn,hl⟩:=id I.loc
 have hcls : (X.env.scope.kind == .class || (X.env.scope.kind == .module && X.env.locals != X.env.globals)) = false:=by rw [I.ok.kind]; rfl
 have hiσ : i < σ.length:=by rw [I.len]; exact (List.getElem?_eq_some_iff.mp hi).1
 have cne:=I.cne
 have tracked : ∀ {a : Addr} {h' : Heap},(∃ o,s.heap.get? a = some o∧H a = none)→Heap.SameBut a s.heap h'→HOk X.prog X.w H h':=fun {a h'} ha hs b ob e=>by
  obtain ⟨_,_,hfree⟩:=ha
  refine (I.hok b ob e).stay (fun c w' hc q=>(hs.2 c ?_).trans q) (fun _ q=>q) fun _ _ q=>q
  rintro rfl
  rcases hc with rfl | hc
  ·rw [hfree] at e; cases e
  ·rw [hfree] at hc; cases hc
 rcases hx with hk | hk
 ·refine wpAny_storeName_local hk hn (fun h' hn' hs=>?_) hcls
  obtain ⟨oL,_,_,hoL,_⟩:=id hn
  refine h _ ⟨I.ok,I.os,I.bare,⟨fun b o e n hb hx=>?_,fun b o e n hb hx=>?_,I.base.free,fun b o e hx=>?_,I.base.tups,I.base.frzs,I.base.tbls⟩,⟨_,hn',fun j y v' e1 e2 e3=>?_⟩,fun y c e=>?_,I.free,I.freeC,fun p hp=>?_,tracked ⟨oL,hoL,I.free⟩ hs,by simpa using I.len⟩ ⟨_,hs,.inl rfl⟩
  ·exact (hs.2 b (Nat.ne_of_lt (Nat.lt_of_lt_of_le (Heap.lt_size e) I.ok.above))).trans (I.base.keep b o e n hb hx)
  ·obtain ⟨sl,e1⟩:=I.base.slot b o e n hb hx
   exact ⟨sl,(hs.2 b (Nat.ne_of_lt (Nat.lt_of_lt_of_le (Heap.lt_size e) I.ok.above))).trans e1⟩
  ·obtain ⟨o',e1⟩:=I.base.there b o e hx
   exact ⟨o',(hs.2 b (Nat.ne_of_lt (Nat.lt_of_lt_of_le (Heap.lt_size e) I.ok.above))).trans e1⟩
  ·by_cases hj : j = i
   ·subst hj
    rw [hi] at e1; cases e1
    rw [List.getElem?_set_self hiσ] at e2
    cases e2
    exact ⟨u,r,.inl ⟨hk,by simp⟩⟩
   ·rw [List.getElem?_set_ne (Ne.symm hj)] at e2
    obtain ⟨u',r',q⟩:=hl j y v' e1 e2 e3
    refine ⟨u',r',?_⟩
    rcases q with ⟨k,e⟩ | ⟨k,c,e,z⟩
    ·refine .inl ⟨k,?_⟩
     have : y ≠ x:=fun e=>hj (zjW hN e1 (e ▸ hi))
     simp [this,e]
    ·exact .inr ⟨k,c,e,z.sameBut hs (cne y c e)⟩
  ·obtain ⟨w',z⟩:=I.cell y c e
   exact ⟨w',z.sameBut hs (cne y c e)⟩
  ·obtain ⟨e,n,ne,nf,d⟩:=I.pin p hp
   exact ⟨(hs.2 p.1 ne).trans e,n,ne,nf,d⟩
 ·have hfn : X.fn x = true:=by
   rcases hf with z | z
   ·exact z
   ·rw [z] at hk; cases hk
  obtain ⟨c,hc⟩:=I.ok.has x (.inl hk)
  obtain ⟨w',z⟩:=I.cell x c hc
  refine wpAny_storeName_cell I.ok.kind hk hc z (fun h' hc' hs=>?_)
  obtain ⟨oc,hoc,hocd⟩:=id z
  refine h { s with heap:=h' } ⟨I.ok,I.os,I.bare,⟨fun b o e n hb hx=>?_,fun b o e n hb hx=>?_,I.base.free,fun b o e hx=>?_,I.base.tups,I.base.frzs,I.base.tbls⟩,⟨m,hn.sameBut hs (Ne.symm (cne x c hc)),fun j y v' e1 e2 e3=>?_⟩,fun y c' e=>?_,I.free,I.freeC,fun p hp=>?_,tracked ⟨oc,hoc,I.freeC x c hc⟩ hs,by simpa using I.len⟩ ⟨c,hs,.inr hc⟩
  ·exact (hs.2 b (Nat.ne_of_lt (Nat.lt_of_lt_of_le (Heap.lt_size e) (I.ok.cab x c hfn hc)))).trans (I.base.keep b o e n hb hx)
  ·obtain ⟨sl,e1⟩:=I.base.slot b o e n hb hx
   exact ⟨sl,(hs.2 b (Nat.ne_of_lt (Nat.lt_of_lt_of_le (Heap.lt_size e) (I.ok.cab x c hfn hc)))).trans e1⟩
  ·obtain ⟨o',e1⟩:=I.base.there b o e hx
   exact ⟨o',(hs.2 b (Nat.ne_of_lt (Nat.lt_of_lt_of_le (Heap.lt_size e) (I.ok.cab x c hfn hc)))).trans e1⟩
  ·by_cases hj : j = i
   ·subst hj
    rw [hi] at e1; cases e1
    rw [List.getElem?_set_self hiσ] at e2
    cases e2
    exact ⟨u,r,.inr ⟨.inl hk,c,hc,hc'⟩⟩
   ·rw [List.getElem?_set_ne (Ne.symm hj)] at e2
    obtain ⟨u',r',q⟩:=hl j y v' e1 e2 e3
    refine ⟨u',r',?_⟩
    rcases q with q | ⟨k,c',e,z'⟩
    ·exact .inl q
    ·refine .inr ⟨k,c',e,z'.sameBut hs ?_⟩
     rintro rfl
     exact hj (zjW hN e1 (I.ok.inj _ _ _ e hc ▸ hi))
  ·by_cases hcc : c' = c
   ·subst hcc; exact ⟨_,hc'⟩
   ·obtain ⟨w2,z2⟩:=I.cell y c' e
    exact ⟨w2,z2.sameBut hs hcc⟩
  ·obtain ⟨e,n,ne,nf,d⟩:=I.pin p hp
   refine ⟨(hs.2 p.1 ?_).trans e,n,ne,nf,d⟩
   intro q
   rw [q,hoc] at e
   have q' : oc = p.2:=Option.some.inj e
   exact d w' (by rw [← q']; exact hocd)
theorem zex {M : Model} {A : Around} {E : Value→Shared→Prop} {i : Nat} {x : Str} {v : V} {u : Value} {Q : Unit→Shared→Prop} (I : Inv X pins σ H s) (hN : X.N.Nodup) (hi : X.N[i]? = some x) (hx : Loc X.env.scope x) (r : RelV v u)
  (h : ∀ s',Inv X pins (σ.set i (some v)) H s'→Q () s') (hf : X.fn x = true∨X.env.scope.names.lookup x = some .local:=by first | exact .inl rfl | exact .inr rfl | assumption) : wpAny M A (storeName X.env x u) Q E s :=
 zjm I hN hi hx r (fun s' I' _=>h s' I') hf
theorem Inv.call' {s' : Shared} {ch : List Addr} (I : Inv X pins σ H s) (ho : s'.os = s.os) (u : Un (frs X.stack) ch H H' s.heap s'.heap) (hok : HOk X.prog X.w H' s'.heap) (hg : AllBare s'.gens)
  (hch : ∀ b ∈ ch,(b ∈ X.ex∨X.s₀.heap.objs.size ≤ b)∧b ≠ X.env.locals∧(∀ x c,X.env.cells.lookup x = some c→c ≠ b)∧∀ p ∈ X.pn ++ pins,p.1 ≠ b) : Inv X pins σ H' s':=by
 obtain ⟨h',g',d',t',o'⟩:=s'
 have e : o' = s.os:=ho
 subst e
 exact I.call (g':=g') (t':=t') (d':=d') u hok hg hch
end
abbrev XK:=Value→Option Addr→Hp→Prop
abbrev St:=List (Option V)
abbrev VK:=V→Hp→Prop
abbrev TE:=St→Hp→VK→Prop
abbrev TT:=St→Hp→(Bool→Hp→Prop)→Prop
abbrev TA:=St→Hp→(List V→Hp→Prop)→Prop
structure Ends where
 nx : St→Hp→Prop
 rt : VK
 bk : St→Hp→Prop:=fun _ _=>False
 ct : St→Hp→Prop:=fun _ _=>False
abbrev TS:=Ends→St→Hp→Prop
def EP (X : Cx) (pins : List (Addr × Obj)) (σ : St) (Q : VK) (u : Value) (s' : Shared) : Prop:=∃ v H',Inv X pins σ H' s'∧RelV v u∧Q v H'
def TP (X : Cx) (pins : List (Addr × Obj)) (σ : St) (Q : Bool→Hp→Prop) (b : Bool) (s' : Shared) : Prop:=∃ H',Inv X pins σ H' s'∧Q b H'
def AP (X : Cx) (pins : List (Addr × Obj)) (σ : St) (Q : List V→Hp→Prop) (us : List Value) (s' : Shared) : Prop:=∃ vs H',Inv X pins σ H' s'∧Vals vs us∧Q vs H'
def SP (X : Cx) (pins : List (Addr × Obj)) (D : Ends) (f : Flow) (s' : Shared) : Prop :=
 match f with
 | .next=>∃ σ' H',Inv X pins σ' H' s'∧D.nx σ' H'
 | .brk=>∃ σ' H',Inv X pins σ' H' s'∧D.bk σ' H'
 | .cont=>∃ σ' H',Inv X pins σ' H' s'∧D.ct σ' H'
 | .ret u=>∃ v σ' H',Inv X pins σ' H' s'∧RelV v u∧D.rt v H'
def PE (X : Cx) (e : Expr) (t : TE) : Prop :=
 ∀ (pins : List (Addr × Obj)) (s : Shared) (σ : St) (H : Hp) (Q : VK),Inv X pins σ H s→t σ H Q→wpAny (model X.prog X.w) X.A (eval e X.env) (EP X pins σ Q) X.xe s
def PT (X : Cx) (e : Expr) (t : TT) : Prop :=
 ∀ (pins : List (Addr × Obj)) (s : Shared) (σ : St) (H : Hp) (Q : Bool→Hp→Prop),Inv X pins σ H s→t σ H Q→wpAny (model X.prog X.w) X.A (isTrue e X.env (eval e X.env)) (TP X pins σ Q) X.xe s
def PW (X : Cx) (e : Expr) (t : TT) : Prop :=
 ∀ (whole : Sem Value) (pins : List (Addr × Obj)) (s : Shared) (σ : St) (H : Hp) (Q : Bool→Hp→Prop),Inv X pins σ H s→t σ H Q→wpAny (model X.prog X.w) X.A (isTrue e X.env whole) (TP X pins σ Q) X.xe s
def PA (X : Cx) (es : List Expr) (t : TA) : Prop :=
 ∀ (pos : Pos) (pins : List (Addr × Obj)) (s : Shared) (σ : St) (H : Hp) (Q : List V→Hp→Prop),Inv X pins σ H s→t σ H Q→wpAny (model X.prog X.w) X.A (spliced (backTo pos (starEach es X.env))) (AP X pins σ Q) X.xe s
def PS (X : Cx) (st : Stmt) (t : TS) : Prop :=
 ∀ (pins : List (Addr × Obj)) (s : Shared) (σ : St) (H : Hp) (D : Ends),Inv X pins σ H s→t D σ H→wpAny (model X.prog X.w) X.A (exec st X.env) (SP X pins D) X.xe s
def PSs (X : Cx) (st : List Stmt) (t : TS) : Prop :=
 ∀ (pins : List (Addr × Obj)) (s : Shared) (σ : St) (H : Hp) (D : Ends),Inv X pins σ H s→t D σ H→wpAny (model X.prog X.w) X.A (execs st X.env) (SP X pins D) X.xe s
theorem thn {α : Type} {t : Sem α} {Q Q' : α→Shared→Prop} {M : Model} {A : Around} {E : Value→Shared→Prop} {s : Shared} (h : wpAny M A t Q E s) (hQ : ∀ a s,Q a s→Q' a s) : wpAny M A t Q' E s:=wpAny_mono h hQ fun _ _ x=>x
end L2
namespace L2
open PySem PySem.Spec PyProof.Rows
section
variable {X : Cx}
def ztx (i : Nat) : TE:=fun σ H Q=>∃ v,σ[i]? = some (some v)∧Q v H
def tC (v : V) : TE:=fun _ H Q=>Q v H
theorem zrW {i : Nat} {x : Str} {pos : Pos} (hN : X.N[i]? = some x) (hv : Vis X.env.scope x) (hd : (x == ("__debug__" : Str)) = false:=by decide) (hcd : (x == ("__classdict__" : Str)) = false:=by decide) : PE X (.Name x pos) (ztx i):=by
 intro pins s σ H Q I h
 obtain ⟨v,e,h⟩:=h
 obtain ⟨m,hn,hl⟩:=I.loc
 obtain ⟨u,r,l⟩:=hl i x v hN e hv
 have fin : EP X pins σ Q u s:=⟨v,H,I,r,h⟩
 rcases l with ⟨hk,hm⟩ | ⟨hk,c,hc,hcell⟩
 ·exact wpAny_Name (wpAny_loadName_local I.ok.kind hk hn hm fin) hd
 ·rcases hk with hk | hk
  ·exact wpAny_Name (wpAny_loadName_cell I.ok.kind hk hc hcell fin) hd
  ·exact wpAny_Name (wpAny_loadName_free I.ok.kind hk hc hcell fin hcd) hd
theorem zkm {i j pos} : PE X (.Constant (.int i) j pos) (tC (.int i)):=fun _ _ _ H _ I h=>wpAny_Constant_int ⟨.int i,H,I.tok _,⟨_,rfl⟩,h⟩
theorem zuI {b j pos} : PE X (.Constant (.bool b) j pos) (tC (.bl b)):=fun _ _ _ H _ I h=>Constant_bool ⟨.bl b,H,I,rfl,h⟩
theorem zsk {j pos} : PE X (.Constant .none j pos) (tC .non):=fun _ _ _ H _ I h=>Constant_none ⟨.non,H,I,rfl,h⟩
theorem zrI {x j pos} : PE X (.Constant (.str x) j pos) (tC (.str x)):=fun _ _ _ H _ I h=>Calls.Constant_str ⟨.str x,H,I.tok _,⟨_,rfl⟩,h⟩
def Gl (X : Cx) (x : Str) : Prop:=X.env.kindOf x = some .globalImplicit
theorem zfx {E : Value→Shared→Prop} {pins : List (Addr × Obj)} {s : Shared} {σ : St} {H : Hp} {x : Str} {u : Value} {pos : Pos} {Q : Value→Shared→Prop} (I : Inv X pins σ H s) (hg : Gl X x) (hm : X.mg x = some u) (h : Q u s)
  (hd : (x == ("__debug__" : Str)) = false:=by decide) : wpAny (model X.prog X.w) X.A (eval (.Name x pos) X.env) Q E s :=
 Calls.Name_function_global I.ok.kind hg (Calls.loadGlobal_global (by rw [I.ok.glob]; exact I.mod.glob.keeps I.bk) hm h) hd
theorem zdF {E : Value→Shared→Prop} {pins : List (Addr × Obj)} {s : Shared} {σ : St} {H : Hp} {x : Str} {u : Value} {pos : Pos} {Q : Value→Shared→Prop} (I : Inv X pins σ H s) (hg : Gl X x) (hm : X.mg x = none) (hv : bootBuiltins x = some u) (h : Q u s)
  (hn : x ≠ "__name__":=by decide) (hd : (x == ("__debug__" : Str)) = false:=by decide) : wpAny (model X.prog X.w) X.A (eval (.Name x pos) X.env) Q E s:=by
 obtain ⟨mb,h1,h2⟩:=I.mod.blt
 exact Calls.Name_function_global I.ok.kind hg (Calls.loadGlobal_builtin (by rw [I.ok.glob]; exact I.mod.glob.keeps I.bk) hm (by rw [I.ok.blt]; exact h1.keeps I.bk) ((h2 x hn).trans hv) h) hd
theorem zlJ {x : Str} {v : V} {u : Value} {pos : Pos} (hg : Gl X x) (hm : X.mg x = some u) (r : RelV v u) (hd : (x == ("__debug__" : Str)) = false:=by decide) : PE X (.Name x pos) (tC v) :=
 fun _ _ _ H _ I h=>zfx I hg hm ⟨v,H,I,r,h⟩ hd
theorem zqM {x : Str} {v : V} {u : Value} {pos : Pos} (hg : Gl X x) (hm : X.mg x = none) (hv : bootBuiltins x = some u) (r : RelV v u) (hn : x ≠ "__name__":=by decide) (hd : (x == ("__debug__" : Str)) = false:=by decide) : PE X (.Name x pos) (tC v) :=
 fun _ _ _ H _ I h=>zdF I hg hm hv ⟨v,H,I,r,h⟩ hn hd
variable {a b : Expr} {ta tb : TE} {pos : Pos}
def tB (t : TE) : TT:=fun σ H Q=>t σ H fun x H1=>∃ c,x = .bl c∧Q c H1
theorem zsj {e : Expr} {t : TE} (h : PE X e t) (he : ∀ whole,isTrue e X.env whole = (do let v ← whole; standAt e.pos; holding [v] (truthy v)):=by intro _; rfl) : PT X e (tB t):=by
 intro pins s σ H Q I hw
 refine isTrue_plain (thn (h pins s σ H _ I hw) fun v s1 ⟨x,H1,I1,r1,q1⟩=>?_) (he _)
 obtain ⟨d,rfl,q⟩:=q1
 cases r1
 exact wpAny_truthy_bool ⟨H1,I1,q⟩
variable {tA tB' : TT} {rest : List Expr}
def zu5 (t u : TT) : TT:=fun σ H Q=>t σ H fun c H1=>if c = true then u σ H1 Q else Q false H1
def tOr (t u : TT) : TT:=fun σ H Q=>t σ H fun c H1=>if c = true then Q true H1 else u σ H1 Q
def zvo (t : TT) : TT:=fun σ H Q=>t σ H fun c H1=>Q (!c) H1
theorem zqa (ha : PT X a tA) : PW X (.BoolOp .And [a] pos) tA:=by
 intro wh pins s σ H Q I h
 refine isTrue_and (thn (ha pins s σ H Q I h) fun c s1 e=>?_)
 cases c with
 | true=>exact isTrue_and_nil e
 | false=>exact e
theorem zts (ha : PT X a tA) : PW X (.BoolOp .Or [a] pos) tA:=by
 intro wh pins s σ H Q I h
 refine isTrue_or (thn (ha pins s σ H Q I h) fun c s1 e=>?_)
 cases c with
 | false=>exact isTrue_or_nil e
 | true=>exact e
theorem zrC (ha : PT X a tA) (hb : PW X (.BoolOp .And (b :: rest) pos) tB') : PW X (.BoolOp .And (a :: b :: rest) pos) (zu5 tA tB'):=by
 intro wh pins s σ H Q I h
 refine isTrue_and (thn (ha pins s σ H _ I h) fun c s1 ⟨H1,I1,q1⟩=>?_)
 cases c with
 | true=>exact hb wh pins s1 σ H1 Q I1 q1
 | false=>exact ⟨H1,I1,q1⟩
theorem ztY (ha : PT X a tA) (hb : PW X (.BoolOp .Or (b :: rest) pos) tB') : PW X (.BoolOp .Or (a :: b :: rest) pos) (tOr tA tB'):=by
 intro wh pins s σ H Q I h
 refine isTrue_or (thn (ha pins s σ H _ I h) fun c s1 ⟨H1,I1,q1⟩=>?_)
 cases c with
 | true=>exact ⟨H1,I1,q1⟩
 | false=>exact hb wh pins s1 σ H1 Q I1 q1
theorem zr6 (ha : PT X a tA) : PT X (.UnaryOp .Not a pos) (zvo tA):=by
 intro pins s σ H Q I h
 exact isTrue_not (ha pins s σ H (fun c H1=>Q (!c) H1) I h)
def zuj (ta tb : TE) : TE:=fun σ H Q=>ta σ H fun x H1=>∃ c,x = .bl c∧if c = true then tb σ H1 Q else Q (.bl false) H1
def zvb (ta tb : TE) : TE:=fun σ H Q=>ta σ H fun x H1=>∃ c,x = .bl c∧if c = true then Q (.bl true) H1 else tb σ H1 Q
def zuG (ta : TE) : TE:=fun σ H Q=>ta σ H fun x H1=>∃ c,x = .bl c∧Q (.bl (!c)) H1
theorem zst {op} {t : TE} (h : PE X a t) : PE X (.BoolOp op [a] pos) t:=fun pins s σ H Q I hw=>BoolOp_one (h pins s σ H Q I hw)
theorem zrZ (ha : PE X a ta) (hb : PE X (.BoolOp .And (b :: rest) pos) tb) : PE X (.BoolOp .And (a :: b :: rest) pos) (zuj ta tb):=by
 intro pins s σ H Q I h
 refine BoolOp_and (thn (ha pins s σ H _ I h) fun v s1 ⟨x,H1,I1,r1,q1⟩=>?_)
 obtain ⟨c,rfl,q1⟩:=q1
 cases r1
 refine wpAny_truthy_bool ?_
 cases c with
 | true=>exact hb pins s1 σ H1 Q I1 q1
 | false=>exact ⟨.bl false,H1,I1,rfl,q1⟩
theorem zun (ha : PE X a ta) (hb : PE X (.BoolOp .Or (b :: rest) pos) tb) : PE X (.BoolOp .Or (a :: b :: rest) pos) (zvb ta tb):=by
 intro pins s σ H Q I h
 refine BoolOp_or (thn (ha pins s σ H _ I h) fun v s1 ⟨x,H1,I1,r1,q1⟩=>?_)
 obtain ⟨c,rfl,q1⟩:=q1
 cases r1
 refine wpAny_truthy_bool ?_
 cases c with
 | false=>exact hb pins s1 σ H1 Q I1 q1
 | true=>exact ⟨.bl true,H1,I1,rfl,q1⟩
theorem zsL (ha : PE X a ta) : PE X (.UnaryOp .Not a pos) (zuG ta):=by
 intro pins s σ H Q I h
 refine UnaryOp_ (thn (ha pins s σ H _ I h) fun v s1 ⟨x,H1,I1,r1,q1⟩=>?_)
 obtain ⟨c,rfl,q1⟩:=q1
 cases r1
 exact not_of (wpAny_truthy_bool ⟨.bl (!c),H1,I1,rfl,q1⟩)
end
end L2
namespace L2
open PySem PySem.Spec PyProof.Rows
def SqL (K : PySem.W.Frag) (H : Hp) (a : Addr) (xs : List V) : Prop :=
 Rd H a (.lst xs) ∨
  ∃ (o : Obj) (its : Array Value) (n : Nat),K.lookup a = some o∧o.cls = .type "list"∧o.dict = none∧o.data = .seq its n∧its.size ≤ sizeLine∧Vals xs its.toList
def SqT (K : PySem.W.Frag) (H : Hp) (a : Addr) (xs : List V) : Prop :=
 Rd H a (.tup xs) ∨
  ∃ (o : Obj) (its : Array Value) (n : Nat),K.lookup a = some o∧o.cls = .type "tuple"∧o.data = .seq its n∧its.size ≤ sizeLine∧Vals xs its.toList
def zvr : Value→Option V
 | .none=>some .non
 | .bool b=>some (.bl b)
 | .int i _=>some (.int i)
 | .str x _=>some (.str x)
 | .bytes b _=>some (.byt b)
 | .float b _=>some (.flt b)
 | .ref a=>some (.ref a)
 | .type n=>some (.ty n)
 | _=>none
theorem RelV.abs {x : V} {u : Value} (r : RelV x u) : zvr u = some x:=by
 cases x with
 | non=>cases r; rfl
 | bl _=>cases r; rfl
 | int _=>obtain ⟨t,rfl⟩:=r; rfl
 | str _=>obtain ⟨t,rfl⟩:=r; rfl
 | byt _=>obtain ⟨t,rfl⟩:=r; rfl
 | flt _=>obtain ⟨t,rfl⟩:=r; rfl
 | ref _=>cases r; rfl
 | ty _=>cases r; rfl
theorem RelV.inj {x y : V} {u : Value} (r : RelV x u) (q : RelV y u) : x = y:=Option.some.inj (r.abs.symm.trans q.abs)
theorem Vals.inj : ∀ {xs ys : List V} {us : List Value},Vals xs us→Vals ys us→xs = ys
 | _,_,_,.nil,.nil=>rfl
 | _,_,_,.cons r t,.cons r' t'=>by rw [r.inj r',Vals.inj t t']
section
variable {X : Cx} {pins : List (Addr × Obj)} {σ : St} {H : Hp} {s : Shared} {a : Addr} {xs ys : List V}
theorem SqL.of {K : PySem.W.Frag} (h : H a = some (.lst xs)) : SqL K H a xs:=.inl (.inl h)
theorem SqT.of {K : PySem.W.Frag} (h : H a = some (.tup xs)) : SqT K H a xs:=.inl (.inl h)
theorem Inv.list (I : Inv X pins σ H s) (h : SqL X.K H a xs) : ∃ its : List Value,Vals xs its∧PlainL s.heap a its.toArray∧xs.length ≤ sizeLine:=by
 rcases h with h | ⟨o,its,n,hk,hc,hd,hs,hz,r⟩
 ·obtain ⟨z,its,n,r,e⟩:=h.ok I.hok
  exact ⟨its,r,⟨_,n,e,rfl,rfl,rfl⟩,z⟩
 ·refine ⟨its.toList,r,⟨o,n,I.kIn a o hk,hc,hd,by simpa using hs⟩,?_⟩
  have e:=r.length
  simp only [Array.length_toList] at e
  omega
theorem Inv.tuple (I : Inv X pins σ H s) (h : SqT X.K H a xs) : ∃ its : List Value,Vals xs its∧IsTup s.heap a its.toArray∧xs.length ≤ sizeLine:=by
 rcases h with h | ⟨o,its,n,hk,hc,hs,hz,r⟩
 ·obtain ⟨z,its,r,p⟩:=h.ok I.hok
  exact ⟨its,r,p,z⟩
 ·refine ⟨its.toList,r,⟨o,I.kIn a o hk,hc,n,by simpa using hs⟩,?_⟩
  have e:=r.length
  simp only [Array.length_toList] at e
  omega
theorem Inv.list_inj (I : Inv X pins σ H s) (h : SqL X.K H a xs) (h' : SqL X.K H a ys) : xs = ys:=by
 obtain ⟨its,r,⟨o,n,e,_,_,d⟩,_⟩:=I.list h
 obtain ⟨its',r',⟨o',n',e',_,_,d'⟩,_⟩:=I.list h'
 rw [e] at e'; cases e'
 rw [d] at d'
 injection d' with d1 _
 have : its = its':=by simpa using congrArg Array.toList d1
 subst this
 exact r.inj r'
theorem Inv.tuple_inj (I : Inv X pins σ H s) (h : SqT X.K H a xs) (h' : SqT X.K H a ys) : xs = ys:=by
 obtain ⟨its,r,⟨o,e,_,n,d⟩,_⟩:=I.tuple h
 obtain ⟨its',r',⟨o',e',_,n',d'⟩,_⟩:=I.tuple h'
 rw [e] at e'; cases e'
 rw [d] at d'
 injection d' with d1 _
 have : its = its':=by simpa using congrArg Array.toList d1
 subst this
 exact r.inj r'
end
abbrev Cx.wish (X : Cx) (E : Value→Shared→Prop) : Cx:={ X with xe:=E }
abbrev Cx.nox (X : Cx) : Cx:=X.wish fun _ _=>False
theorem Cx.Ok.wish {X : Cx} (ok : X.Ok) (E : Value→Shared→Prop) : (X.wish E).Ok :=
 ⟨ok.mod,ok.kind,ok.glob,ok.blt,ok.above,ok.inj,ok.has,ok.cab,ok.hd,ok.frames,ok.stk,ok.exf,ok.bs,ok.bsz,ok.noex,ok.exfs,ok.funs,ok.frf⟩
theorem Cx.Ok.unwish {X : Cx} {E : Value→Shared→Prop} (ok : (X.wish E).Ok) : X.Ok :=
 ⟨ok.mod,ok.kind,ok.glob,ok.blt,ok.above,ok.inj,ok.has,ok.cab,ok.hd,ok.frames,ok.stk,ok.exf,ok.bs,ok.bsz,ok.noex,ok.exfs,ok.funs,ok.frf⟩
section
variable {X : Cx} {pins : List (Addr × Obj)} {σ : St} {H : Hp} {s : Shared} {E : Value→Shared→Prop}
theorem Inv.wish (I : Inv X pins σ H s) (E : Value→Shared→Prop) : Inv (X.wish E) pins σ H s:=⟨I.ok.wish E,I.os,I.bare,I.base,I.loc,I.cell,I.free,I.freeC,I.pin,I.hok,I.len⟩
theorem Inv.unwish (I : Inv (X.wish E) pins σ H s) : Inv X pins σ H s:=⟨I.ok.unwish,I.os,I.bare,I.base,I.loc,I.cell,I.free,I.freeC,I.pin,I.hok,I.len⟩
theorem SP.unwish {D : Ends} {f : Flow} {s' : Shared} (h : SP (X.wish E) pins D f s') : SP X pins D f s':=by
 cases f with
 | next=>obtain ⟨σ',H',I,q⟩:=h; exact ⟨σ',H',I.unwish,q⟩
 | brk=>obtain ⟨σ',H',I,q⟩:=h; exact ⟨σ',H',I.unwish,q⟩
 | cont=>obtain ⟨σ',H',I,q⟩:=h; exact ⟨σ',H',I.unwish,q⟩
 | ret u=>obtain ⟨v,σ',H',I,r,q⟩:=h; exact ⟨v,σ',H',I.unwish,r,q⟩
theorem PSs.nox {st : List Stmt} {t : TS} (h : PSs X.nox st t) : PSs X st t:=fun pins s σ H D I hw =>
 wpAny_mono (h pins s σ H D (I.wish _) hw) (fun _ _ q=>q.unwish) fun _ _ z=>False.elim z
end
section
variable {X : Cx} {st : Stmt} {rest : List Stmt} {t u : TS} {e : Expr} {te : TE} {pos : Pos}
def zt3 : TS:=fun D σ H=>D.nx σ H
def zuW (t u : TS) : TS:=fun D σ H=>t { D with nx:=u D } σ H
theorem zqN : PSs X [] zt3:=fun _ _ σ H _ I h=>wpAny_execs_nil ⟨σ,H,I,h⟩
theorem zoJ (h1 : PS X st t) (h2 : PSs X rest u) : PSs X (st :: rest) (zuW t u):=by
 intro pins s σ H D I h
 refine wpAny_execs_cons (thn (h1 pins s σ H { D with nx:=u D } I h) fun f s1 q=>?_)
 cases f with
 | next =>
  obtain ⟨σ',H',I',q⟩:=q
  exact h2 pins s1 σ' H' D I' q
 | ret v=>exact q
 | brk=>exact q
 | cont=>exact q
theorem zq4 (h1 : PS X st t) : PSs X [st] t:=by
 intro pins s σ H D I h
 refine wpAny_execs_cons (thn (h1 pins s σ H D I h) fun f s1 q=>?_)
 cases f with
 | next=>exact wpAny_execs_nil q
 | ret v=>exact q
 | brk=>exact q
 | cont=>exact q
theorem Inv.quiet {pins : List (Addr × Obj)} {σ : St} {H : Hp} {s : Shared} (I : Inv X pins σ H s) : interactive X.env = false:=by simp [interactive,I.ok.kind]
def zt0 (te : TE) : TS:=fun D σ H=>te σ H fun _ H1=>D.nx σ H1
theorem zq3 (he : PE X e te) (hs : swapsWith e none pos.line X.env = pure false:=by rfl) : PS X (.Expr e pos) (zt0 te):=by
 intro pins s σ H D I h
 exact wpAny_Expr_any (thn (he pins s σ H _ I h) fun v s1 ⟨x,H1,I1,r1,q1⟩=>⟨σ,H1,I1,q1⟩) I.quiet hs
def zu4 (te : TE) : TS:=fun D σ H=>te σ H D.rt
theorem zsC (he : PE X e te) : PS X (.Return (some e) pos) (zu4 te):=by
 intro pins s σ H D I h
 exact wpAny_Return_some (thn (he pins s σ H _ I h) fun v s1 ⟨x,H1,I1,r1,q1⟩=>⟨x,σ,H1,I1,r1,q1⟩)
def zvw (c : TT) (t u : TS) : TS:=fun D σ H=>c σ H fun b H1=>if b = true then t D σ H1 else u D σ H1
theorem zuJ {c : Expr} {a b : List Stmt} {tc : TT} (hc : PT X c tc) (ha : PSs X a t) (hb : PSs X b u) : PS X (.If c a b pos) (zvw tc t u):=by
 intro pins s σ H D I h
 refine wpAny_If (thn (hc pins s σ H _ I h) fun d s1 ⟨H1,I1,q1⟩=>?_)
 cases d with
 | true=>exact ha pins s1 σ H1 D I1 q1
 | false=>exact hb pins s1 σ H1 D I1 q1
def zso : TS:=fun _ _ _=>False
theorem zpB : PS X st zso:=fun _ _ _ _ _ _ h=>h.elim
end
abbrev TG:=V→St→Hp→(St→Hp→Prop)→Prop
abbrev TGs:=List V→St→Hp→(St→Hp→Prop)→Prop
def PG (X : Cx) (target : Expr) (t : TG) : Prop :=
 ∀ (pins : List (Addr × Obj)) (s : Shared) (σ : St) (H : Hp) (v : V) (u : Value) (Q : St→Hp→Prop),Inv X pins σ H s→RelV v u→t v σ H Q →
  wpAny (model X.prog X.w) X.A (assign target X.env u) (fun _ s'=>∃ σ' H',Inv X pins σ' H' s'∧Q σ' H') X.xe s
def PGs (X : Cx) (ts : List Expr) (t : TGs) : Prop :=
 ∀ (pins : List (Addr × Obj)) (s : Shared) (σ : St) (H : Hp) (vs : List V) (us : List Value) (Q : St→Hp→Prop),Inv X pins σ H s→Vals vs us→t vs σ H Q →
  wpAny (model X.prog X.w) X.A (assignInOrder ((assignEach ts X.env).map (·.2)) us) (fun _ s'=>∃ σ' H',Inv X pins σ' H' s'∧Q σ' H') X.xe s
abbrev zpk:=V→V→V→Hp→(Hp→Prop)→Prop
def zrv (X : Cx) (t : zpk) : Prop :=
 ∀ (pins : List (Addr × Obj)) (s : Shared) (σ : St) (H : Hp) (o i v : V) (ov iv u : Value) (Q : Hp→Prop),Inv X pins σ H s→RelV o ov→RelV i iv→RelV v u→t o i v H Q →
  wpAny (model X.prog X.w) X.A (setItem ov iv u) (fun _ s'=>∃ H',Inv X pins σ H' s'∧Q H') X.xe s
abbrev TIp:=V→V→Hp→VK→Prop
def PIp (X : Cx) (op : Operator) (t : TIp) : Prop :=
 ∀ (pins : List (Addr × Obj)) (s : Shared) (σ : St) (H : Hp) (x y : V) (v u : Value) (Q : VK),Inv X pins σ H s→RelV x v→RelV y u→t x y H Q →
  wpAny (model X.prog X.w) X.A (inplaceOp op v u) (EP X pins σ Q) X.xe s
section
variable {X : Cx} {pos : Pos}
def zE (i : Nat) : TG:=fun v σ H Q=>Q (σ.set i (some v)) H
theorem zay {i : Nat} {x : Str} (hN : X.N.Nodup) (hi : X.N[i]? = some x) (hx : Loc X.env.scope x) (hf : X.fn x = true∨X.env.scope.names.lookup x = some .local:=by first | exact .inl rfl | exact .inr rfl | assumption) : PG X (.Name x pos) (zE i):=by
 intro pins s σ H v u Q I r h
 exact wpAny_assign_Name (zex I hN hi hx r (fun s' I'=>⟨_,H,I',h⟩) hf)
def zc0 : TGs:=fun vs σ H Q=>vs = []∧Q σ H
def zaq (t : TG) (u : TGs) : TGs:=fun vs σ H Q=>∃ v r,vs = v :: r∧t v σ H fun σ' H'=>u r σ' H' Q
theorem zg0 : PGs X [] zc0:=by
 intro pins s σ H vs us Q I r h
 obtain ⟨e,h⟩:=h
 subst e
 cases r
 exact assignInOrder_nil ⟨σ,H,I,h⟩
theorem zco {e : Expr} {es : List Expr} {t : TG} {u : TGs} (h1 : PG X e t) (h2 : PGs X es u)
  (hs : (assignEach (e :: es) X.env).map (·.2) = assign e X.env :: (assignEach es X.env).map (·.2):=by rfl) : PGs X (e :: es) (zaq t u):=by
 intro pins s σ H vs us Q I r h
 obtain ⟨v,vr,e1,h⟩:=h
 subst e1
 cases r with
 | cons r rr =>
  rw [hs]
  refine assignInOrder_cons (thn (h1 pins s σ H _ _ _ I r h) fun _ s1 ⟨σ1,H1,I1,q1⟩=>?_)
  exact h2 pins s1 σ1 H1 _ _ Q I1 rr q1
def zc4 (K : PySem.W.Frag) (n : Nat) (t : TGs) : TG:=fun v σ H Q=>∃ a xs,v = .ref a∧SqT K H a xs∧xs.length = n∧t xs σ H Q
theorem zh4 {es : List Expr} {k : Nat} {t : TGs} {n : Nat} (hc : X.calm = true) (h : PGs X es t)
  (hn : (assignEach es X.env).length = n:=by rfl) (hst : (assignEach es X.env).findIdx? (·.1) = none:=by rfl) : PG X (.Tuple es k pos) (zc4 X.K n t):=by
 intro pins s σ H v u Q I r hw
 obtain ⟨a,xs,e1,hq,hl,hw⟩:=hw
 subst e1
 cases r
 obtain ⟨its,rv,ht,hz⟩:=I.tuple hq
 refine assign_Tuple_tuple (I.ok.hd hc) ht (by simp [hn,← hl,rv.length]) hst fun h' hx=>?_
 have I1 : Inv X pins σ H { s with heap:=h' }:=I.kept (t':=s.toks) fun b o e=>hx b o (Nat.ne_of_lt (Heap.lt_size e)) e
 exact h pins _ σ H xs _ Q I1 (by simpa using rv) hw
def ziX (to ti : TE) (t : zpk) : TG:=fun v σ H Q=>to σ H fun o H1=>ti σ H1 fun i H2=>t o i v H2 fun H3=>Q σ H3
theorem zsM {o i : Expr} {to ti : TE} {t : zpk} (ho : PE X o to) (hi : PE X i ti) (hs : zrv X t)
  (ha : ∀ v,assign (.Subscript o i pos) X.env v = (do
   let ov ← holding [v] (eval o X.env)
   let iv ← holding [v,ov] (eval i X.env)
   standAt pos
   holding [v,ov,iv] (setItem ov iv v)
   release [v,ov,iv] []):=by intro _; rfl) : PG X (.Subscript o i pos) (ziX to ti t):=by
 intro pins s σ H v u Q I r h
 rw [ha]
 refine wpAny_bind (wpAny_holding (thn (ho pins s σ H _ I h) fun ov s1 ⟨x,H1,I1,r1,q1⟩=>?_))
 refine wpAny_bind (wpAny_holding (thn (hi pins s1 σ H1 _ I1 q1) fun iv s2 ⟨y,H2,I2,r2,q2⟩=>?_))
 refine wpAny_bind (wpAny_standAt (wpAny_bind (wpAny_holding (thn (hs pins s2 σ H2 x y v ov iv u _ I2 r1 r2 r q2) fun _ s3 ⟨H3,I3,q3⟩=>?_))))
 exact wpAny_release ⟨σ,H3,I3,q3⟩
def zpj (te : TE) (g : TG) : TS:=fun D σ H=>te σ H fun x H1=>g x σ H1 D.nx
theorem zr3 {tg e : Expr} {te : TE} {g : TG} (he : PE X e te) (hg : PG X tg g) (hs : swapsWithSole [tg] e pos.line X.env = pure false:=by rfl) (hw : swappedStores [tg] e X.env = pure none:=by rfl)
  (h1 : (assignEach [tg] X.env).map (·.2) = [assign tg X.env]:=by rfl) : PS X (.Assign [tg] e pos) (zpj te g):=by
 intro pins s σ H D I h
 refine wpAny_Assign_stores (thn (he pins s σ H _ I h) fun v s1 ⟨x,H1,I1,r1,q1⟩=>?_) hs hw
 rw [h1]
 exact thn (hg pins s1 σ H1 x v _ I1 r1 q1) fun _ s2 q=>q
theorem zs0 {i : Nat} {x : Str} {e : Expr} {te : TE} {pos' : Pos} (hN : X.N.Nodup) (hi : X.N[i]? = some x) (hx : Loc X.env.scope x) (he : PE X e te) (hs : swapsWith e (some (.Name x pos')) pos.line X.env = pure false:=by rfl) (hf : X.fn x = true∨X.env.scope.names.lookup x = some .local:=by first | exact .inl rfl | exact .inr rfl | assumption) :
  PS X (.Assign [.Name x pos'] e pos) (zpj te (zE i)):=by
 intro pins s σ H D I h
 refine wpAny_Assign_Name (thn (he pins s σ H _ I h) fun v s1 ⟨y,H1,I1,r1,q1⟩=>?_) hs
 exact zex I1 hN hi hx r1 (fun s2 I2=>⟨_,H1,I2,q1⟩) hf
def zvh (i j : Nat) (ta : TA) : TS:=fun D σ H=>ta σ H fun vs H1=>∃ v w,vs = [v,w]∧D.nx ((σ.set i (some v)).set j (some w)) H1
theorem zrN {i j : Nat} {x y : Str} {a b : Expr} {ta : TA} {px py pt : Pos} {kt k2 pt2} (hc : X.calm = true) (hN : X.N.Nodup) (hi : X.N[i]? = some x) (hj : X.N[j]? = some y) (hij : i ≠ j)
  (hx : X.env.scope.names.lookup x = some .local) (hy : X.env.scope.names.lookup y = some .local) (ha : PA X [a,b] ta)
  (hw : swappedStores [.Tuple [.Name x px,.Name y py] kt pt] (.Tuple [a,b] k2 pt2) X.env = pure (some [x,y]))
  (hs : swapsWithSole [.Tuple [.Name x px,.Name y py] kt pt] (.Tuple [a,b] k2 pt2) pos.line X.env = pure false:=by rfl) :
  PS X (.Assign [.Tuple [.Name x px,.Name y py] kt pt] (.Tuple [a,b] k2 pt2) pos) (zvh i j ta):=by
 intro pins s σ H D I h
 rw [exec_Assign_arm]
 refine wpAny_bind (wpAny_standAt ?_)
 rw [hs]
 refine wpAny_bind (wpAny_pure ?_)
 rw [if_neg (by decide)]
 refine wpAny_bind (Tuple_ (thn (ha _ pins s σ H _ I h) fun us s1 ⟨vs,H1,I1,r1,q1⟩=>?_))
 obtain ⟨v,w,e1,q1⟩:=q1
 subst e1
 obtain ⟨u1,u2,rfl,rv,rw'⟩ : ∃ u1 u2,us = [u1,u2]∧RelV v u1∧RelV w u2:=by
  cases r1 with
  | cons p q =>
   cases q with
   | cons p' q' =>
    cases q'
    exact ⟨_,_,rfl,p,p'⟩
 refine wpAny_newObj_type ?_ (by show 2 ≤ sizeLine; decide)
 have I2 : Inv X pins σ H1 { s1 with heap:=s1.heap.push { cls:=.type "tuple",data:=.seq [u1,u2].toArray } }:=I1.kept (t':=s1.toks) fun b o e=>Heap.get?_push_of_some _ e
 rw [hw]
 refine wpAny_bind (wpAny_pure ?_)
 show wpAny (model X.prog X.w) X.A (do rule "assign.swapped-stores"; let items ← unpackItems (.ref s1.heap.objs.size) 2 none; assignInOrder [fun v=>bindName X.env y v,fun v=>bindName X.env x v] items.reverse; pure Flow.next) _ _ _
 refine wpAny_bind (wpAny_rule (wpAny_bind (unpackItems_tuple (items:=#[u1,u2]) (I.ok.hd hc) (IsTup.new s1.heap _) fun h' hx'=>?_)))
 have I3:=I2.kept (h':=h') (t':=s1.toks) fun b o e=>hx' b o (Nat.ne_of_lt (Heap.lt_size e)) e
 show wpAny _ _ (assignInOrder [fun v=>bindName X.env y v,fun v=>bindName X.env x v] [u2,u1] >>= fun _=>pure Flow.next) _ _ _
 refine wpAny_bind (assignInOrder_cons (wpAny_bindName (zex I3 hN hj (.inl hy) rw' (fun s2 I4=>?_) (.inr hy))))
 refine assignInOrder_cons (wpAny_bindName (zex I4 hN hi (.inl hx) rv (fun s3 I5=>assignInOrder_nil (wpAny_pure ?_)) (.inr hx)))
 rw [List.set_comm _ _ (Ne.symm hij)] at I5
 exact ⟨_,H1,I5,q1⟩
def zvA (i : Nat) (te : TE) (ti : TIp) : TS:=fun D σ H=>∃ x,σ[i]? = some (some x)∧te σ H fun y H1=>ti x y H1 fun z H2=>D.nx (σ.set i (some z)) H2
theorem zsA {i : Nat} {x : Str} {e : Expr} {te : TE} {op : Operator} {ti : TIp} {pos' : Pos} (hN : X.N.Nodup) (hi : X.N[i]? = some x) (hx : Loc X.env.scope x) (he : PE X e te) (ho : PIp X op ti) (hf : X.fn x = true∨X.env.scope.names.lookup x = some .local:=by first | exact .inl rfl | exact .inr rfl | assumption) :
  PS X (.AugAssign (.Name x pos') op e pos) (zvA i te ti):=by
 intro pins s σ H D I h
 obtain ⟨v,e1,h⟩:=h
 obtain ⟨m,hn,hl⟩:=I.loc
 have vis : Vis X.env.scope x:=by rcases hx with k | k; exact .inl k; exact .inr (.inl k)
 obtain ⟨u,r,l⟩:=hl i x v hi e1 vis
 refine wpAny_AugAssign_Name ?_
 have go : wpAny (model X.prog X.w) X.A (eval e X.env) (fun w s₂=>wpAny (model X.prog X.w) X.A (inplaceOp op u w) (fun r s₃=>wpAny (model X.prog X.w) X.A (storeName X.env x r) (fun _=>SP X pins D .next) X.xe s₃) X.xe s₂) X.xe s:=by
  refine thn (he pins s σ H _ I h) fun w s1 ⟨y,H1,I1,r1,q1⟩=>?_
  refine thn (ho pins s1 σ H1 v y u w _ I1 r r1 q1) fun z s2 ⟨zv,H2,I2,r2,q2⟩=>?_
  exact zex I2 hN hi hx r2 (fun s3 I3=>⟨_,H2,I3,q2⟩) hf
 rcases l with ⟨hk,hm⟩ | ⟨hk,c,hc,hcell⟩
 ·exact wpAny_loadName_local I.ok.kind hk hn hm go
 ·rcases hk with hk | hk
  ·exact wpAny_loadName_cell I.ok.kind hk hc hcell go
  ·rcases hx with k | k
   ·have : X.env.scope.names.lookup x = some .free:=hk
    rw [k] at this; cases this
   ·have : X.env.scope.names.lookup x = some .free:=hk
    rw [k] at this; cases this
def ipI (f : Int→Int→Int) : TIp:=fun x y H Q=>∃ i j,x = .int i∧y = .int j∧Q (.int (f i j)) H
theorem zs5 : PIp X .Add (ipI fun i j=>i + j):=by
 intro pins s σ H x y v u Q I r1 r2 h
 obtain ⟨i,j,e1,e2,q⟩:=h
 subst e1; subst e2
 obtain ⟨t,rfl⟩:=r1
 obtain ⟨t',rfl⟩:=r2
 exact iadd_int ⟨.int _,H,I.tok _,⟨_,rfl⟩,q⟩
end
section
variable {X : Cx} {pos : Pos}
def zry (c : TT) (tb : TS) : TS:=fun D σ H=>∃ W : Nat→St→Hp→Prop,(∃ m,W m σ H)∧∀ m σ H,W m σ H →
 c σ H fun b H1=>if b = true then ∃ N : St→Hp→Prop,(∀ σ' H',N σ' H'→∃ m',m' < m∧W m' σ' H')∧tb { D with nx:=N,ct:=N,bk:=D.nx } σ H1 else D.nx σ H1
theorem zox {c : Expr} {body : List Stmt} {tc : TT} {tb : TS} (hp : PassesOwn (model X.prog X.w) X.A X.env X.xe) (hc : PT X c tc) (hb : PSs X body tb) : PS X (.While c body [] pos) (zry tc tb):=by
 intro pins s σ H D I h
 obtain ⟨W,⟨m0,w0⟩,turn⟩:=h
 refine wpAny_While (codeAny_whileLoop (fun n s'=>∃ σ' H',Inv X pins σ' H' s'∧W n σ' H') ?_ m0 ⟨σ,H,I,w0⟩)
 rintro n s1 ⟨σ1,H1,I1,w1⟩
 refine wpAny_passesOwn hp (thn (hc pins s1 σ1 H1 _ I1 (turn n σ1 H1 w1)) fun b s2 ⟨H2,I2,q2⟩=>?_)
 cases b with
 | true =>
  obtain ⟨N,hN,q2⟩:=q2
  rw [if_pos rfl]
  refine wpAny_passesOwn hp (thn (hb pins s2 σ1 H2 _ I2 q2) fun f s3 q3=>?_)
  cases f with
  | next =>
   obtain ⟨σ3,H3,I3,n3⟩:=q3
   obtain ⟨m',hm,w3⟩:=hN σ3 H3 n3
   exact ⟨m',hm,σ3,H3,I3,w3⟩
  | cont =>
   obtain ⟨σ3,H3,I3,n3⟩:=q3
   obtain ⟨m',hm,w3⟩:=hN σ3 H3 n3
   exact ⟨m',hm,σ3,H3,I3,w3⟩
  | brk=>exact q3
  | ret v=>exact q3
 | false =>
  rw [if_neg Bool.false_ne_true]
  exact wpAny_execs_nil ⟨σ1,H2,I2,q2⟩
end
structure It where
 go : Nat→Hp→Prop
 yld : Nat→Hp→V→Hp→Prop
 stop : Nat→Hp→Prop
def zeI (X : Cx) (pins : List (Addr × Obj)) (H : Hp) (b : Addr) : Prop :=
 H b = none∧b ≠ X.env.locals∧b ∉ X.fs∧(b ∈ X.ex∨X.s₀.heap.objs.size ≤ b)∧(∀ x c,X.env.cells.lookup x = some c→c ≠ b)∧∀ p ∈ X.pn ++ pins,p.1 ≠ b
theorem Inv.fpOk {X : Cx} {pins : List (Addr × Obj)} {σ : St} {H H' : Hp} {s : Shared} {b : Addr} (I : Inv X pins σ H s) (hb : s.heap.objs.size ≤ b) (hn : H' b = none) : zeI X pins H' b:=by
 refine ⟨hn,Nat.ne_of_gt (Nat.lt_of_lt_of_le I.lt hb),I.nofs hb,.inr (Nat.le_trans I.sz hb),fun x c e z=>?_,fun p hp z=>?_⟩
 ·obtain ⟨v,q⟩:=I.cell x c e
  exact absurd (Nat.lt_of_lt_of_le q.lt (by rw [z]; exact hb)) (Nat.lt_irrefl _)
 ·exact absurd (Nat.lt_of_lt_of_le (Heap.lt_size (I.pin p hp).1) (by rw [z]; exact hb)) (Nat.lt_irrefl _)
structure Turn (P : Program) (w : World) (K : PySem.W.Frag) (tg : Expr) (J : It) (fp : List Addr) (it : Addr) (tn : Nat→Heap→Prop) : Prop where
 mem : it ∈ fp
 obj : ∀ i h,tn i h→∀ b ∈ fp,∃ o,h.get? b = some o∧∀ v,o.data ≠ .cell v
 keep : ∀ i h h',tn i h→(∀ b ∈ fp,∀ o,h.get? b = some o→h'.get? b = some o)→tn i h'
 item : ∀ (X : Cx),X.prog = P→X.w = w→X.K = K→X.calm = true→∀ (i : Nat) (pins : List (Addr × Obj)) (s : Shared) (σ : St) (H : Hp) (E : Value→Shared→Prop),Inv X pins σ H s→(∀ b ∈ fp,zeI X pins H b)→tn i s.heap→J.go i H →
  wpAny (model P w) X.A (pyNext (.ref it)) (fun r s1=>∃ u,r = some u ∧
   wpAny (model P w) X.A (letOwnedTupleGo tg (.ref it) u) (fun _ s2=>∃ x H',Inv X pins σ H' s2∧RelV x u∧J.yld i H x H'∧tn (i + 1) s2.heap∧∀ b ∈ fp,H' b = none) E s1) E s
 done : ∀ (X : Cx),X.prog = P→X.w = w→X.K = K→X.calm = true→∀ (i : Nat) (pins : List (Addr × Obj)) (s : Shared) (σ : St) (H : Hp) (E : Value→Shared→Prop),Inv X pins σ H s→(∀ b ∈ fp,zeI X pins H b)→tn i s.heap→J.stop i H →
  wpAny (model P w) X.A (pyNext (.ref it)) (fun r s1=>r = none∧Inv X pins σ H s1) E s
 self : ∀ (A : Around) (i : Nat) (s : Shared) (Q : Value→Shared→Prop) (E : Value→Shared→Prop),tn i s.heap→Q (.ref it) s→wpAny (model P w) A (pyIter (.ref it)) Q E s
abbrev TI:=St→Hp→(It→Hp→Prop)→Prop
def PIE (X : Cx) (pins : List (Addr × Obj)) (σ : St) (tg : Expr) (R : It→Hp→Prop) (itv : Value) (s2 : Shared) : Prop :=
 ∃ (it : Addr) (fp : List Addr) (tn : Nat→Heap→Prop) (J : It) (H' : Hp),itv = .ref it∧Inv X pins σ H' s2∧Turn X.prog X.w X.K tg J fp it tn∧tn 0 s2.heap∧(∀ b ∈ fp,zeI X pins H' b)∧R J H'
def PI (X : Cx) (tg iter : Expr) (wi : TI) : Prop :=
 ∀ (pins : List (Addr × Obj)) (s : Shared) (σ : St) (H : Hp) (R : It→Hp→Prop),Inv X pins σ H s→wi σ H R →
  wpAny (model X.prog X.w) X.A (eval iter X.env) (fun v s1=>wpAny (model X.prog X.w) X.A (pyIter v) (PIE X pins σ tg R) X.xe s1) X.xe s
theorem zhl {M : Model} {A : Around} {E : Value → Shared → Prop} {s : Shared} {tg : Expr} {it : Addr} {u : Value} {o : Obj} {n : String} {vs : Array Value} {Q : Unit → Shared → Prop} (ho : s.heap.get? it = some o) (hc : o.cls = .type n) (hd : o.data = .fields vs)
    (hn : ["enumerate","zip","dict_itemiterator","dict_reverseitemiterator","odict_iterator","itertools.zip_longest","itertools.pairwise"].contains n = false) (hQ : Q () s) : wpAny M A (letOwnedTupleGo tg (.ref it) u) Q E s:=by
  unfold letOwnedTupleGo
  cases tg <;> first
    | exact wpAny_pure hQ
    | (cases u <;> first
        | exact wpAny_pure hQ
        | (refine wpAny_bind (wpAny_load ho ?_)
           rw [hc,hd]
           show wpAny M A (if (["enumerate","zip","dict_itemiterator","dict_reverseitemiterator","odict_iterator","itertools.zip_longest","itertools.pairwise"].contains n && vs[0]? == some (rawInt _)) = true then _ else _) Q E s
           rw [if_neg (by intro h; rw [hn,Bool.false_and] at h; cases h)]
           exact wpAny_pure hQ))
def Itl (K : PySem.W.Frag) (a : Addr) : It :=
 ⟨fun i H=>∃ xs x,SqL K H a xs∧xs[i]? = some x,fun i H x H'=>H' = H∧∀ xs,SqL K H a xs→xs[i]? = some x,fun i H=>∃ xs,SqL K H a xs∧xs.length ≤ i⟩
def Itt (K : PySem.W.Frag) (a : Addr) : It :=
 ⟨fun i H=>∃ xs x,SqT K H a xs∧xs[i]? = some x,fun i H x H'=>H' = H∧∀ xs,SqT K H a xs→xs[i]? = some x,fun i H=>∃ xs,SqT K H a xs∧xs.length ≤ i⟩
def Itr (lo : Int) (n : Nat) : It:=⟨fun i _=>i < n,fun i H x H'=>H' = H∧x = .int (lo + i),fun i _=>n ≤ i⟩
theorem zop {P : Program} {w : World} {K : PySem.W.Frag} {tg : Expr} (a it : Addr) : Turn P w K tg (Itl K a) [it] it (fun i h=>h.IsListIter it a i) where
 mem:=by simp
 obj:=fun i h st b hb=>by
  have e : b = it:=by simpa using hb
  subst e
  obtain ⟨o,e,c,d⟩:=st
  exact ⟨o,e,fun v z=>by rw [d] at z; cases z⟩
 keep:=fun i h h' st k=>st.at fun o e=>k it (by simp) o e
 item:=by
  intro X hP hw hK hc i pins s σ H E I hf st hg
  subst hP hw hK
  obtain ⟨xs,x,hq,hx⟩:=hg
  obtain ⟨its,rv,p,hz⟩:=I.list hq
  obtain ⟨u,hu,ru⟩:=rv.get hx
  obtain ⟨f0,f1,f2,f3,f4,f5⟩:=hf it (by simp)
  refine wpAny_pyNext_list_item st p.isList (x:=u) (by simpa using hu) fun h' st' sb=>?_
  have I1 : Inv X pins σ H { s with heap:=h' }:=I.turned (t':=s.toks) (fun b o hb e=>(sb.2 b hb).trans e) f0 f1 f3 f4 f5
  obtain ⟨o,e,c,d⟩:=id st'
  exact ⟨u,rfl,zhl (s:={ s with heap:=h' }) e c d (by decide) ⟨x,H,I1,ru,⟨rfl,fun ys hy=>by rw [I.list_inj hy hq]; exact hx⟩,st',fun b hb=>(hf b hb).1⟩⟩
 done:=by
  intro X hP hw hK hc i pins s σ H E I hf st hg
  subst hP hw hK
  obtain ⟨xs,hq,hx⟩:=hg
  obtain ⟨its,rv,p,hz⟩:=I.list hq
  obtain ⟨f0,f1,f2,f3,f4,f5⟩:=hf it (by simp)
  have hl:=rv.length
  exact wpAny_pyNext_list_end (I.ok.hd hc) st p.isList (by simp; omega) fun h' eb=>⟨rfl,I.turned (t':=s.toks) (fun b o hb e=>eb b o hb e) f0 f1 f3 f4 f5⟩
 self:=fun _ _ _ _ _ st h=>wpAny_pyIter_listiter st h
theorem zmu {P : Program} {w : World} {K : PySem.W.Frag} {tg : Expr} (a it : Addr) : Turn P w K tg (Itt K a) [it] it (fun i h=>h.IsTupleIter it a i) where
 mem:=by simp
 obj:=fun i h st b hb=>by
  have e : b = it:=by simpa using hb
  subst e
  obtain ⟨o,e,c,d⟩:=st
  exact ⟨o,e,fun v z=>by rw [d] at z; cases z⟩
 keep:=fun i h h' st k=>st.at fun o e=>k it (by simp) o e
 item:=by
  intro X hP hw hK hc i pins s σ H E I hf st hg
  subst hP hw hK
  obtain ⟨xs,x,hq,hx⟩:=hg
  obtain ⟨its,rv,p,hz⟩:=I.tuple hq
  obtain ⟨u,hu,ru⟩:=rv.get hx
  obtain ⟨f0,f1,f2,f3,f4,f5⟩:=hf it (by simp)
  refine wpAny_pyNext_tuple_item st (show s.heap.IsTuple a its.toArray from p) (x:=u) (by simpa using hu) fun h' st' sb=>?_
  have I1 : Inv X pins σ H { s with heap:=h' }:=I.turned (t':=s.toks) (fun b o hb e=>(sb.2 b hb).trans e) f0 f1 f3 f4 f5
  obtain ⟨o,e,c,d⟩:=id st'
  exact ⟨u,rfl,zhl (s:={ s with heap:=h' }) e c d (by decide) ⟨x,H,I1,ru,⟨rfl,fun ys hy=>by rw [I.tuple_inj hy hq]; exact hx⟩,st',fun b hb=>(hf b hb).1⟩⟩
 done:=by
  intro X hP hw hK hc i pins s σ H E I hf st hg
  subst hP hw hK
  obtain ⟨xs,hq,hx⟩:=hg
  obtain ⟨its,rv,p,hz⟩:=I.tuple hq
  obtain ⟨f0,f1,f2,f3,f4,f5⟩:=hf it (by simp)
  have hl:=rv.length
  exact wpAny_pyNext_tuple_end (I.ok.hd hc) st (show s.heap.IsTuple a its.toArray from p) (by simp; omega) fun h' eb=>⟨rfl,I.turned (t':=s.toks) (fun b o hb e=>eb b o hb e) f0 f1 f3 f4 f5⟩
 self:=fun _ _ _ _ _ st h=>wpAny_pyIter_tupleiter st h
theorem zh0 {P : Program} {w : World} {K : PySem.W.Frag} {tg : Expr} (it : Addr) (lo : Int) (n : Nat) : Turn P w K tg (Itr lo n) [it] it (fun i h=>IsRangeIter h it (lo + (i : Nat) * 1) ((n : Int) - (i : Nat)) 1) where
 mem:=by simp
 obj:=fun i h st b hb=>by
  have e : b = it:=by simpa using hb
  subst e
  exact ⟨_,st,fun v z=>by
   have z' : Data.fields _ = Data.cell v:=z
   cases z'⟩
 keep:=fun i h h' st k=>k it (by simp) _ st
 item:=by
  intro X hP hw hK hc i pins s σ H E I hf st hg
  subst hP hw hK
  obtain ⟨f0,f1,f2,f3,f4,f5⟩:=hf it (by simp)
  have W:=Walks.range (prog:=X.prog) (w:=X.w) (I.ok.hd hc) it lo 1 n
  refine W.item i s _ _ hg st fun v h' tk hv st' kk=>?_
  obtain ⟨t,rfl⟩:=hv
  have I1 : Inv X pins σ H { s with heap:=h',toks:=tk }:=I.turned (fun b o hb e=>kk b o (by simpa using hb) e) f0 f1 f3 f4 f5
  refine ⟨_,rfl,zhl (s:={ s with heap:=h',toks:=tk }) (n:="range_iterator") st' rfl rfl (by decide) ⟨.int (lo + i),H,I1,⟨t,?_⟩,⟨rfl,rfl⟩,st',fun b hb=>(hf b hb).1⟩⟩
  rw [Int.mul_one]
 done:=by
  intro X hP hw hK hc i pins s σ H E I hf st hg
  subst hP hw hK
  obtain ⟨f0,f1,f2,f3,f4,f5⟩:=hf it (by simp)
  exact wpAny_pyNext_range_end (I.ok.hd hc) st (by have : n ≤ i:=hg; omega) fun h' eb=>⟨rfl,I.turned (t':=s.toks) (fun b o hb e=>eb b o hb e) f0 f1 f3 f4 f5⟩
 self:=fun _ _ _ _ _ st h=>wpAny_pyIter_rangeiter st h
end L2
namespace L2
open PySem PySem.Spec PyProof.Rows
section
variable {X : Cx} {tg : Expr}
theorem zpn {pins : List (Addr × Obj)} {σ : St} {H : Hp} {s : Shared} {R : It → Hp → Prop} {E : Value → Shared → Prop} {lo hi : Int} {t u v : Tok} {tk : Nat} (I : Inv X pins σ H s) (h1 : -(2 ^ 62) ≤ lo) (h2 : lo < 2 ^ 62) (h3 : -(2 ^ 62) ≤ hi) (h4 : hi < 2 ^ 62)
    (q : R (Itr lo (hi - lo).toNat) H) : wpAny (model X.prog X.w) X.A (pyIter (.ref s.heap.objs.size)) (PIE X pins σ tg R) E { s with heap:=s.heap.push { cls:=.type "range",data:=.fields #[.int lo t,.int hi u,.int 1 v] },toks:=tk }:=by
  refine wpAny_pyIter_range (IsRange.new ..) (small_one h1 h2 h3 h4) ?_
  have I1 : Inv X pins σ H { s with heap:=s.heap.push { cls:=.type "range",data:=.fields #[.int lo t,.int hi u,.int 1 v] },toks:=tk }:=I.kept fun b o e=>Heap.get?_push_of_some _ e
  refine ⟨(s.heap.push { cls:=.type "range",data:=.fields #[.int lo t,.int hi u,.int 1 v] }).objs.size,[(s.heap.push { cls:=.type "range",data:=.fields #[.int lo t,.int hi u,.int 1 v] }).objs.size],_,_,H,rfl,
    I1.kept (t':=tk) fun b o e=>Heap.get?_push_of_some _ e,zh0 _ lo (hi - lo).toNat,?_,fun b hb=>?_,q⟩
  · have e1 : lo + ((0 : Nat) : Int) * 1 = lo:=by simp
    have e2 : (((hi - lo).toNat : Nat) : Int) - ((0 : Nat) : Int) = Builtin.Range.rangeSize lo hi 1:=by rw [rangeSize_one]; split <;> omega
    show IsRangeIter _ _ (lo + ((0 : Nat) : Int) * 1) ((((hi - lo).toNat : Nat) : Int) - ((0 : Nat) : Int)) 1
    rw [e1,e2]
    exact Heap.get?_push_size _ rfl
  · have e : b = (s.heap.push { cls:=.type "range",data:=.fields #[.int lo t,.int hi u,.int 1 v] }).objs.size:=by simpa using hb
    subst e
    exact I1.fpOk (Nat.le_refl _) (I1.hok.fresh (Nat.le_refl _))
def zdB (ta : TA) : TI:=fun σ H R=>ta σ H fun vs H1=>∃ j : Int,vs = [.int j]∧-(2 ^ 62) ≤ j∧j < 2 ^ 62∧R (Itr 0 j.toNat) H1
theorem znU {a : Expr} {ta : TA} {p pos : Pos} (hg : Gl X "range") (hm : X.mg "range" = none) (ha : PA X [a] ta) (hs : starEach [a] X.env = [(false,eval a X.env)]:=by rfl) : PI X tg (.Call (.Name "range" p) [a] [] pos) (zdB ta):=by
 intro pins s σ H R I h
 refine Call_ (zdF I hg hm boot_range (PyProof.Rows.callWith_type1 (thn (ha pos pins s σ H _ I h) fun us s1 ⟨vs,H1,I1,r1,q1⟩=>?_) hs rfl))
 obtain ⟨j,e,q1,q2,q⟩:=q1
 subst e
 cases r1 with
 | cons r rr =>
  cases rr
  obtain ⟨t,rfl⟩:=r
  exact call_range_1 (zpn I1 (by omega) (by omega) q1 q2 (by simpa using q))
def zuY (wi : TI) (g : TG) (tb : TS) : TS:=fun D σ H=>wi σ H fun J H1=>∃ W : Nat→Nat→St→Hp→Prop,(∃ m,W 0 m σ H1)∧∀ i m σ H,W i m σ H →
 (J.stop i H∧D.nx σ H)∨(J.go i H∧∃ N : St→Hp→Prop,(∀ σ' H',N σ' H'→∃ m',m' < m∧W (i + 1) m' σ' H')∧∀ x H',J.yld i H x H'→g x σ H' fun σ2 H2=>tb { D with nx:=N,ct:=N,bk:=D.nx } σ2 H2)
def zgk (fp : List Addr) (h : Heap) : List (Addr × Obj):=fp.filterMap fun b=>(h.get? b).map fun o=>(b,o)
theorem zeh {fp : List Addr} {h : Heap} {b : Addr} {o : Obj} (hb : b ∈ fp) (e : h.get? b = some o) : (b,o) ∈ zgk fp h:=List.mem_filterMap.mpr ⟨b,hb,by rw [e]; rfl⟩
theorem zn4 {fp : List Addr} {h : Heap} {p : Addr × Obj} (hp : p ∈ zgk fp h) : p.1 ∈ fp∧h.get? p.1 = some p.2:=by
 obtain ⟨b,hb,e⟩:=List.mem_filterMap.mp hp
 cases q : h.get? b with
 | none=>rw [q] at e; cases e
 | some o =>
  rw [q] at e
  have e' : (b,o) = p:=Option.some.inj e
  subst e'
  exact ⟨hb,q⟩
theorem Inv.pinned {pins : List (Addr × Obj)} {σ : St} {H : Hp} {s : Shared} {fp : List Addr} (I : Inv X pins σ H s) (hf : ∀ b ∈ fp,zeI X pins H b) (ho : ∀ b ∈ fp,∃ o,s.heap.get? b = some o∧∀ v,o.data ≠ .cell v) : Inv X (pins ++ zgk fp s.heap) σ H s :=
 I.pins_of fun p hp=>(List.mem_append.mp hp).elim (fun z=>I.pin p (List.mem_append_right _ z)) fun z=>by
  obtain ⟨hb,e⟩:=zn4 z
  obtain ⟨f0,f1,f2,_⟩:=hf p.1 hb
  obtain ⟨o,e',d⟩:=ho p.1 hb
  rw [e] at e'; cases e'
  exact ⟨e,f0,f1,f2,d⟩
theorem Inv.unpinned {pins pl : List (Addr × Obj)} {σ : St} {H : Hp} {s : Shared} (I : Inv X (pins ++ pl) σ H s) : Inv X pins σ H s:=I.pins_of fun p hp=>I.pin p (List.mem_append_right _ (List.mem_append_left _ hp))
theorem zsx {iter : Expr} {body : List Stmt} {wi : TI} {g : TG} {tb : TS} {pos : Pos} (hp : PassesOwn (model X.prog X.w) X.A X.env X.xe) (hc : X.calm = true) (hi : PI X tg iter wi) (hg : PG X tg g) (hb : PSs X body tb)
  (hs : ∀ x,foldedSetIterable iter X.env x = pure x:=by intro _; rfl) : PS X (.For tg iter body [] pos) (zuY wi g tb):=by
 intro pins s σ H D I h
 refine wpAny_For (thn (hi pins s σ H _ I h) fun v s1 h1=>thn h1 fun itv s2 h2=>?_) hs
 obtain ⟨it,fp,tn,J,H2,e,I2,T,st2,f2,W,⟨m0,w0⟩,turn⟩:=h2
 subst e
 have stat : ∀ {H' : Hp},(∀ b ∈ fp,H' b = none)→∀ b ∈ fp,zeI X pins H' b:=fun hn b hb=>⟨hn b hb,(f2 b hb).2⟩
 refine codeAny_forLoop_any (fun n s'=>∃ i σ' H',Inv X pins σ' H' s'∧tn i s'.heap∧(∀ b ∈ fp,H' b = none)∧W i n σ' H') ?_ m0 ⟨0,σ,H2,I2,st2,fun b hb=>(f2 b hb).1,w0⟩
 rintro n s3 ⟨i,σ3,H3,I3,st3,fr3,w3⟩
 rcases turn i n σ3 H3 w3 with ⟨stop,qn⟩ | ⟨go,N,hN,step⟩
 ·refine wpAny_passesOwn hp (thn (T.done X rfl rfl rfl hc i pins s3 σ3 H3 X.xe I3 (stat fr3) st3 stop) fun r s4 ⟨hr,I4⟩=>?_)
  subst hr
  exact wpAny_execs_nil ⟨σ3,H3,I4,qn⟩
 ·refine wpAny_passesOwn hp (thn (T.item X rfl rfl rfl hc i pins s3 σ3 H3 X.xe I3 (stat fr3) st3 go) fun r s4 ⟨u,hr,h4⟩=>?_)
  subst hr
  refine wpAny_passesOwn hp (thn h4 fun _ s5 ⟨x,H5,I5,r5,y5,st5,fr5⟩=>?_)
  have I5':=I5.pinned (stat fr5) (T.obj _ _ st5)
  refine wpAny_passesOwn hp (thn (hg _ s5 σ3 H5 x u _ I5' r5 (step x H5 y5)) fun _ s6 ⟨σ6,H6,I6,q6⟩=>?_)
  refine wpAny_passesOwn hp (thn (hb _ s6 σ6 H6 _ I6 q6) fun f s7 q7=>?_)
  have again : ∀ {σ7 : St} {H7 : Hp},Inv X (pins ++ zgk fp s5.heap) σ7 H7 s7→N σ7 H7→∃ m,m < n∧∃ i σ' H',Inv X pins σ' H' s7∧tn i s7.heap∧(∀ b ∈ fp,H' b = none)∧W i m σ' H':=fun {σ7 H7} I7 n7=>by
   obtain ⟨m',hm,w7⟩:=hN σ7 H7 n7
   refine ⟨m',hm,i + 1,σ7,H7,I7.unpinned,T.keep _ _ _ st5 fun b hb o e=>(I7.pin (b,o) (List.mem_append_right _ (List.mem_append_right _ (zeh hb e)))).1,fun b hb=>?_,w7⟩
   obtain ⟨o,e,d⟩:=T.obj _ _ st5 b hb
   exact (I7.pin (b,o) (List.mem_append_right _ (List.mem_append_right _ (zeh hb e)))).2.1
  cases f with
  | next=>obtain ⟨σ7,H7,I7,n7⟩:=q7; exact again I7 n7
  | cont=>obtain ⟨σ7,H7,I7,n7⟩:=q7; exact again I7 n7
  | brk=>obtain ⟨σ7,H7,I7,q7⟩:=q7; exact ⟨σ7,H7,I7.unpinned,q7⟩
  | ret v=>obtain ⟨x7,σ7,H7,I7,r7,q7⟩:=q7; exact ⟨x7,σ7,H7,I7.unpinned,r7,q7⟩
end
end L2
namespace L2
open PySem PySem.Spec PyProof.Rows
abbrev R2:=V→V→Hp→VK→Prop
def OpR (X : Cx) (f : Value→Value→Sem Value) (r : R2) : Prop :=
 ∀ (pins : List (Addr × Obj)) (s : Shared) (σ : St) (H : Hp) (x y : V) (v u : Value) (Q : VK),Inv X pins σ H s→RelV x v→RelV y u→r x y H Q →
  wpAny (model X.prog X.w) X.A (f v u) (EP X pins σ Q) X.xe s
def UnR (X : Cx) (f : Value→Sem Value) (r : V→Hp→VK→Prop) : Prop :=
 ∀ (pins : List (Addr × Obj)) (s : Shared) (σ : St) (H : Hp) (x : V) (v : Value) (Q : VK),Inv X pins σ H s→RelV x v→r x H Q →
  wpAny (model X.prog X.w) X.A (f v) (EP X pins σ Q) X.xe s
def zaA (X : Cx) (f : Value) (r : List V→Hp→VK→Prop) : Prop :=
 ∀ (pins : List (Addr × Obj)) (s : Shared) (σ : St) (H : Hp) (xs : List V) (us : List Value) (Q : VK),Inv X pins σ H s→Vals xs us→r xs H Q →
  wpAny (model X.prog X.w) X.A (call f us) (EP X pins σ Q) X.xe s
def tOp (r : R2) (ta tb : TE) : TE:=fun σ H Q=>ta σ H fun x H1=>tb σ H1 fun y H2=>r x y H2 Q
def tUn (r : V→Hp→VK→Prop) (ta : TE) : TE:=fun σ H Q=>ta σ H fun x H1=>r x H1 Q
def rI (C : Int→Int→Prop) (g : Int→Int→V) : R2:=fun x y H Q=>∃ i j,x = .int i∧y = .int j∧C i j∧Q (g i j) H
def rI0 (g : Int→Int→V) : R2:=fun x y H Q=>∃ i j,x = .int i∧y = .int j∧Q (g i j) H
def rU (g : Int→V) : V→Hp→VK→Prop:=fun x H Q=>∃ i,x = .int i∧Q (g i) H
section
variable {X : Cx} {a b c : Expr} {ta tb tc : TE} {pos : Pos}
theorem zpc (ha : PE X a ta) (hb : PE X b tb) {pins : List (Addr × Obj)} {s : Shared} {σ : St} {H : Hp} {R : V→V→Hp→Prop} (I : Inv X pins σ H s)
  (h : ta σ H fun x H1=>tb σ H1 fun y H2=>R x y H2) {Q : Value→Shared→Prop} {f : Value→Value→Sem Value}
  (hf : ∀ v u s2 x y H2,Inv X pins σ H2 s2→RelV x v→RelV y u→R x y H2→wpAny (model X.prog X.w) X.A (f v u) Q X.xe s2) :
  wpAny (model X.prog X.w) X.A (eval a X.env) (fun v s₁=>wpAny (model X.prog X.w) X.A (eval b X.env) (fun u s₂=>wpAny (model X.prog X.w) X.A (f v u) Q X.xe s₂) X.xe s₁) X.xe s:=by
 refine thn (ha pins s σ H _ I h) fun v s1 ⟨x,H1,I1,r1,q1⟩=>?_
 refine thn (hb pins s1 σ H1 _ I1 q1) fun u s2 ⟨y,H2,I2,r2,q2⟩=>?_
 exact hf v u s2 x y H2 I2 r1 r2 q2
theorem zpL {op : Operator} {r : R2} (ho : OpR X (binaryOp op) r) (ha : PE X a ta) (hb : PE X b tb) : PE X (.BinOp a op b pos) (tOp r ta tb):=by
 intro pins s σ H Q I h
 exact wpAny_BinOp (zpc ha hb I h fun v u s2 x y H2 I2 rx ry q=>ho pins s2 σ H2 x y v u Q I2 rx ry q)
theorem ztE {op : UnaryOp} {r : V→Hp→VK→Prop} (ho : UnR X (unaryOp op) r) (ha : PE X a ta) : PE X (.UnaryOp op a pos) (tUn r ta):=by
 intro pins s σ H Q I h
 exact UnaryOp_ (thn (ha pins s σ H _ I h) fun v s1 ⟨x,H1,I1,r1,q1⟩=>ho pins s1 σ H1 x v Q I1 r1 q1)
theorem opI {f : Value→Value→Sem Value} {C : Int→Int→Prop} {g : Int→Int→Int}
  (rule : ∀ (i j : Int) (t u : Tok) (s : Shared) (Q : Value→Shared→Prop) (E : Value→Shared→Prop),C i j→Q (.int (g i j) s.toks) { s with toks:=s.toks + 1 }→wpAny (model X.prog X.w) X.A (f (.int i t) (.int j u)) Q E s) :
  OpR X f (rI C fun i j=>.int (g i j)):=by
 intro pins s σ H x y v u Q I rx ry h
 obtain ⟨i,j,rfl,rfl,hc,q⟩:=h
 obtain ⟨t,rfl⟩:=rx
 obtain ⟨t',rfl⟩:=ry
 exact rule i j t t' s _ _ hc ⟨.int (g i j),H,I.tok _,⟨_,rfl⟩,q⟩
theorem zto {f : Value→Value→Sem Value} {g : Int→Int→Int}
  (rule : ∀ (i j : Int) (t u : Tok) (s : Shared) (Q : Value→Shared→Prop) (E : Value→Shared→Prop),Q (.int (g i j) s.toks) { s with toks:=s.toks + 1 }→wpAny (model X.prog X.w) X.A (f (.int i t) (.int j u)) Q E s) :
  OpR X f (rI0 fun i j=>.int (g i j)):=by
 intro pins s σ H x y v u Q I rx ry h
 obtain ⟨i,j,rfl,rfl,q⟩:=h
 obtain ⟨t,rfl⟩:=rx
 obtain ⟨t',rfl⟩:=ry
 exact rule i j t t' s _ _ ⟨.int (g i j),H,I.tok _,⟨_,rfl⟩,q⟩
theorem zoH {f : Value→Value→Sem Value} {g : Int→Int→Bool}
  (rule : ∀ (i j : Int) (t u : Tok) (s : Shared) (Q : Value→Shared→Prop) (E : Value→Shared→Prop),Q (.bool (g i j)) s→wpAny (model X.prog X.w) X.A (f (.int i t) (.int j u)) Q E s) :
  OpR X f (rI0 fun i j=>.bl (g i j)):=by
 intro pins s σ H x y v u Q I rx ry h
 obtain ⟨i,j,rfl,rfl,q⟩:=h
 obtain ⟨t,rfl⟩:=rx
 obtain ⟨t',rfl⟩:=ry
 exact rule i j t t' s _ _ ⟨.bl (g i j),H,I,rfl,q⟩
def zvi (i j : Int) : Prop:=0 ≤ j∧j ≤ 1000000∧i.natAbs < 2 ^ 64
def zms (i j : Int) : Prop:=(-(2 ^ 64) < i∧i < 2 ^ 64)∨(-(2 ^ 64) < j∧j < 2 ^ 64)
theorem zms.ok {i j : Int} (h : zms i j) : IntMulOk i j:=by
 rcases h with ⟨h1,h2⟩ | ⟨h1,h2⟩
 ·exact .of_left (intBits_le_64 h1 h2)
 ·exact .of_right (intBits_le_64 h1 h2)
theorem ztk : OpR X (binaryOp .Add) (rI0 fun i j=>.int (i + j)):=zto fun _ _ _ _ _ _ _ q=>add_int q
theorem zsy : OpR X (binaryOp .Sub) (rI0 fun i j=>.int (i - j)):=zto fun _ _ _ _ _ _ _ q=>sub_int q
theorem zqv : OpR X (binaryOp .Mod) (rI (fun _ j=>j ≠ 0) fun i j=>.int (i.fmod j)):=opI fun _ _ _ _ _ _ _ hc q=>mod_int' hc q
theorem ztf : OpR X (binaryOp .Pow) (rI zvi fun i j=>.int (i ^ j.toNat)):=opI fun _ _ _ _ _ _ _ hc q=>pow_int_small hc.1 hc.2.1 hc.2.2 q
theorem unI {f : Value→Sem Value} {g : Int→Int}
  (rule : ∀ (i : Int) (t : Tok) (s : Shared) (Q : Value→Shared→Prop) (E : Value→Shared→Prop),Q (.int (g i) s.toks) { s with toks:=s.toks + 1 }→wpAny (model X.prog X.w) X.A (f (.int i t)) Q E s) :
  UnR X f (rU fun i=>.int (g i)):=by
 intro pins s σ H x v Q I rx h
 obtain ⟨i,rfl,q⟩:=h
 obtain ⟨t,rfl⟩:=rx
 exact rule i t s _ _ ⟨.int (g i),H,I.tok _,⟨_,rfl⟩,q⟩
theorem zr9 : UnR X (unaryOp .USub) (rU fun i=>.int (-i)):=unI fun _ _ _ _ _ q=>neg_int q
end
section
variable {X : Cx} {a b c : Expr} {ta tb tc : TE} {pos : Pos}
theorem zna {pins : List (Addr × Obj)} {σ : St} {H : Hp} {s : Shared} {Q : VK} {k k' : Bool} (I : Inv X pins σ H s) (q : Q (.bl k) H) (e : k = k') : EP X pins σ Q (.bool k') s:=by
 subst e
 exact ⟨.bl k,H,I,rfl,q⟩
theorem ztI : OpR X (compareOp .Lt) (rI0 fun i j=>.bl (decide (i < j))):=zoH fun _ _ _ _ _ _ _ q=>lt_int q
theorem zt7 : OpR X (compareOp .LtE) (rI0 fun i j=>.bl (decide (i ≤ j))):=zoH fun _ _ _ _ _ _ _ q=>le_int q
theorem zuv : OpR X (compareOp .Gt) (rI0 fun i j=>.bl (decide (j < i))):=zoH fun _ _ _ _ _ _ _ q=>gt_int q
theorem zod : OpR X (compareOp .In) (fun x y H Q=>∃ i j,x = .str i∧y = .str j∧Q (.bl (!(Builtin.Str.occurrences j i 0 j.length 1).isEmpty)) H):=by
 intro pins s σ H x y v u Q I rx ry h
 obtain ⟨i,j,rfl,rfl,q⟩:=h
 obtain ⟨t,rfl⟩:=rx
 obtain ⟨t',rfl⟩:=ry
 exact in_str (zna I q rfl)
theorem zp7 : OpR X (compareOp .IsNot) (fun x y H Q=>y = .non∧Q (.bl (!decide (x = .non))) H):=by
  intro pins s σ H x y v u Q I rx ry h
  obtain ⟨rfl,q⟩:=h
  cases ry
  refine isnot_none_gen (zna I q ?_)
  cases x <;> first
    | (cases rx; rfl)
    | (obtain ⟨t,rfl⟩:=rx; rfl)
theorem OpR.or {f : Value→Value→Sem Value} {r r' : R2} (h : OpR X f r) (h' : OpR X f r') : OpR X f (fun x y H Q=>r x y H Q∨r' x y H Q):=by
 intro pins s σ H x y v u Q I rx ry q
 rcases q with q | q
 ·exact h pins s σ H x y v u Q I rx ry q
 ·exact h' pins s σ H x y v u Q I rx ry q
theorem zng (b : Expr) {op : CmpOp} (h : op ≠ .In:=by decide) (h2 : op ≠ .NotIn:=by decide) : behindInMarks op b = false:=by
  have e1 : (op == CmpOp.In) = false:=by cases op <;> first | rfl | exact absurd rfl h
  have e2 : (op == CmpOp.NotIn) = false:=by cases op <;> first | rfl | exact absurd rfl h2
  cases b <;> simp [behindInMarks,e1,e2]
theorem zlB {op : CmpOp} {r : R2} (ho : OpR X (compareOp op) r) (ha : PE X a ta) (hb : PE X b tb) (hm : behindInMarks op b = false) : PE X (.Compare a [op] [b] pos) (tOp r ta tb):=by
 intro pins s σ H Q I h
 exact wpAny_Compare1 (zpc ha hb I h fun v u s2 x y H2 I2 rx ry q=>ho pins s2 σ H2 x y v u Q I2 rx ry q) hm
def zp3 (t : TE) : TT:=fun σ H Q=>t σ H fun x H'=>∃ k,x = .bl k∧Q k H'
theorem zqd {op : CmpOp} {r : R2} (ho : OpR X (compareOp op) r) (ha : PE X a ta) (hb : PE X b tb) (hm : behindInMarks op b = false) : PT X (.Compare a [op] [b] pos) (zp3 (tOp r ta tb)):=by
 intro pins s σ H Q I h
 refine wpAny_isTrue_Compare1 (thn (ha pins s σ H _ I h) fun v s1 ⟨x,H1,I1,r1,q1⟩=>thn (hb pins s1 σ H1 _ I1 q1) fun u s2 ⟨y,H2,I2,r2,q2⟩ =>
  thn (ho pins s2 σ H2 x y v u _ I2 r1 r2 q2) fun c s3 ⟨z,H3,I3,r3,k,e,q3⟩=>?_) hm
 subst e
 cases r3
 exact wpAny_truthy_bool ⟨H3,I3,q3⟩
def zny (r r' : R2) (ta tb tc : TE) : TE:=fun σ H Q=>ta σ H fun x H1=>tb σ H1 fun y H2=>r x y H2 fun z H3=>∃ k,z = .bl k ∧
 (if k = true then tc σ H3 fun w' H4=>r' y w' H4 Q else Q (.bl false) H3)
theorem zpC {op op' : CmpOp} {r r' : R2} (ho : OpR X (compareOp op) r) (ho' : OpR X (compareOp op') r') (ha : PE X a ta) (hb : PE X b tb) (hc : PE X c tc)
  (hm : lastMarks [op,op'] [b,c] = false:=by with_unfolding_all rfl) : PT X (.Compare a [op,op'] [b,c] pos) (zp3 (zny r r' ta tb tc)):=by
 intro pins s σ H Q I h
 refine isTrue_chain (thn (ha pins s σ H _ I h) fun v s1 ⟨x,H1,I1,r1,q1⟩=>test_link (thn (hb pins s1 σ H1 _ I1 q1) fun u s2 ⟨y,H2,I2,r2,q2⟩ =>
  thn (ho pins s2 σ H2 x y v u _ I2 r1 r2 q2) fun d s3 ⟨z,H3,I3,r3,k,e,q3⟩=>?_)) hm
 subst e
 cases r3
 refine wpAny_truthy_bool ?_
 cases k with
 | false =>
  obtain ⟨k',e',q'⟩:=q3
  cases e'
  exact ite_ff ⟨H3,I3,q'⟩
 | true =>
  refine ite_tt (test_last (thn (hc pins s3 σ H3 _ I3 q3) fun w' s4 ⟨z',H4,I4,r4,q4⟩=>thn (ho' pins s4 σ H4 y z' u w' _ I4 r2 r4 q4) fun d' s5 ⟨z2,H5,I5,r5,k2,e2,q5⟩=>?_))
  subst e2
  cases r5
  exact wpAny_truthy_bool ⟨H5,I5,q5⟩
theorem zft : (sizeLine : Nat) < 2 ^ 63:=by rw [sizeLine_eq]; decide
theorem zmr : OpR X (binaryOp .Add) (fun x y H Q=>∃ i j,x = .str i∧y = .str j∧i.length + j.length ≤ sizeLine∧Q (.str (i ++ j)) H):=by
 intro pins s σ H x y v u Q I rx ry h
 obtain ⟨i,j,rfl,rfl,hz,q⟩:=h
 obtain ⟨t,rfl⟩:=rx
 obtain ⟨t',rfl⟩:=ry
 exact add_str (fun t' tk=>⟨.str (i ++ j),H,I.tok _,⟨_,rfl⟩,q⟩) hz
theorem vals1 {x : V} {us : List Value} (r : Vals [x] us) : ∃ u,us = [u]∧RelV x u:=by
 cases r with
 | cons r1 r2=>cases r2; exact ⟨_,rfl,r1⟩
theorem vals2 {x y : V} {us : List Value} (r : Vals [x,y] us) : ∃ u w',us = [u,w']∧RelV x u∧RelV y w':=by
 cases r with
 | cons r1 r2 =>
  cases r2 with
  | cons r3 r4=>cases r4; exact ⟨_,_,rfl,r1,r3⟩
theorem zoL : zaA X (.builtin "abs") (fun xs H Q=>∃ i,xs = [.int i]∧Q (.int (if i < 0 then -i else i)) H):=by
 intro pins s σ H xs us Q I r h
 obtain ⟨i,rfl,q⟩:=h
 obtain ⟨u,rfl,t,rfl⟩:=vals1 r
 exact call_abs_int fun u tk=>⟨.int (if i < 0 then -i else i),H,I.tok _,⟨_,rfl⟩,q⟩
theorem zoi (hc : X.calm = true) : zaA X (.builtin "max") (fun xs H Q=>∃ i j,xs = [.int i,.int j]∧Q (.int (if j > i then j else i)) H):=by
 intro pins s σ H xs us Q I r h
 obtain ⟨i,j,rfl,q⟩:=h
 obtain ⟨u,w',rfl,⟨t,rfl⟩,⟨t',rfl⟩⟩:=vals2 r
 refine max_two_ints (I.ok.hd hc) fun h' tk k=>⟨_,H,I.kept k,?_,q⟩
 by_cases hj : j > i
 ·rw [if_pos hj,if_pos hj]; exact ⟨_,rfl⟩
 ·rw [if_neg hj,if_neg hj]; exact ⟨_,rfl⟩
theorem znv (hc : X.calm = true) : zaA X (.builtin "min") (fun xs H Q=>∃ i j,xs = [.int i,.int j]∧Q (.int (if j < i then j else i)) H):=by
 intro pins s σ H xs us Q I r h
 obtain ⟨i,j,rfl,q⟩:=h
 obtain ⟨u,w',rfl,⟨t,rfl⟩,⟨t',rfl⟩⟩:=vals2 r
 refine min_two_ints (I.ok.hd hc) fun h' tk k=>⟨_,H,I.kept k,?_,q⟩
 by_cases hj : j < i
 ·rw [if_pos hj,if_pos hj]; exact ⟨_,rfl⟩
 ·rw [if_neg hj,if_neg hj]; exact ⟨_,rfl⟩
theorem znN : zaA X (.type "int") (fun xs H Q=>(∃ i,xs = [.int i]∧Q (.int i) H)∨∃ k,xs = [.bl k]∧Q (.int (if k then 1 else 0)) H):=by
 intro pins s σ H xs us Q I r h
 rcases h with ⟨i,rfl,q⟩ | ⟨k,rfl,q⟩
 ·obtain ⟨u,rfl,t,rfl⟩:=vals1 r
  exact call_int_int ⟨.int i,H,I,⟨_,rfl⟩,q⟩
 ·obtain ⟨u,rfl,r1⟩:=vals1 r
  cases r1
  exact call_int_bool ⟨.int (if k then 1 else 0),H,I.tok _,⟨_,rfl⟩,q⟩
end
end L2
namespace L2
open PySem PySem.Spec PyProof.Rows
structure ziK (h : Heap) (x dx C : Addr) (mA : Str→Option Value) : Prop where
 obj : h.get? x = some (PySem.W.instObj C dx)
 ns : h.Ns1 dx mA
 ne : dx ≠ x
theorem zn6 {h : Heap} {dx : Addr} {mA : Str→Option Value} (n : h.Ns1 dx mA) : ∃ od,h.get? dx = some od∧∀ name,PySem.W.lookIn name od = some (mA name):=by
 obtain ⟨o,es,ep,ho,hd,hk,_,hm⟩:=n
 refine ⟨o,ho,fun name=>?_⟩
 have e:=hm name
 unfold nsFind findBy at e
 rw [← Array.find?_toList] at e
 unfold PySem.W.lookIn
 rw [hd]
 dsimp only
 split
 ·rename_i y q
  rw [q] at e
  exact congrArg some e
 ·rename_i q
  rw [q] at e
  have a : es.toList.any (·.refKey) = false:=by
   rw [List.any_eq_false]
   intro y hy
   obtain ⟨z,t,hkey⟩:=hk y (Array.mem_toList_iff.mp hy)
   simp [DictEntry.refKey,hkey]
  have a' : ¬ es.toList.any (·.refKey) = true:=by rw [a]; exact Bool.false_ne_true
  rw [if_neg a']
  exact congrArg some e
theorem ziK.look {h : Heap} {x dx C : Addr} {mA : Str→Option Value} (I : ziK h x dx C mA) : ∃ od,PySem.W.InstAt h x (PySem.W.instObj C dx) C (some od)∧∀ name,PySem.W.lookIn name od = some (mA name) :=
 let ⟨od,ho,hl⟩:=zn6 I.ns
 ⟨od,⟨I.obj,rfl,rfl,ho⟩,hl⟩
section
variable {prog : Program} {w : World} {A : Around} {E : Value→Shared→Prop} {s : Shared} {K : PySem.W.Frag} {x dx C f : Addr} {mA : Str→Option Value} {name : Str} {v : Value}
theorem get_map {expr : Bool} {Q : Value→Shared→Prop} (X : K.In s.heap) (I : ziK s.heap x dx C mA) (hg : PySem.W.plainGet K C name = true) (hh : PySem.W.hasDictIn K C = true)
  (ha : PySem.W.findIn K (.ref C) name = some none) (hv : mA name = some v) (hv' : PySem.W.handedIn v = true) (h : Q v { s with toks:=s.toks + 1 }) :
  wpAny (model prog w) A (getAttr (.ref x) name expr) Q E s:=by
 obtain ⟨od,J,hl⟩:=I.look
 exact PySem.W.get_value X J (PySem.W.plainGet_of hg).1 (PySem.W.findObj_own hh ha rfl (by rw [hl,hv])) hv' h
theorem zqE {ns : List Str} {Q : Unit→Shared→Prop} (X : K.In s.heap) (I : ziK s.heap x dx C mA)
  (hs : PySem.W.findIn K (.ref C) "__setattr__" = some (some (.builtin "object.__setattr__"))) (hp : PySem.W.plainOver K C = true) (ht : PySem.W.takerIn K C name = some none) (hh : PySem.W.hasDictIn K C = true)
  (hw : PySem.Within mA ns) (hsz : ns.length ≤ sizeLine)
  (h : ∀ h',ziK h' x dx C (fun y=>if y = name then some v else mA y)→Heap.SameBut dx s.heap h'→Q () { s with heap:=h',toks:=s.toks + 2 }) :
  wpAny (model prog w) A (setAttr (.ref x) name v) Q E s:=by
 obtain ⟨od,J,hl⟩:=I.look
 refine PySem.W.set_plain X J hs (PySem.W.osa_open (s:={ s with toks:=s.toks + 1 }) (r:=none) X J hp ht fun b=>?_)
 obtain ⟨cd,hc,hd'⟩:=PySem.W.any_some hh
 have hx : s.heap.get? x = some ⟨.ref C,some dx,.plain,#[]⟩:=I.obj
 refine wpAny_bind (wpAny_pure (wpAny_bind (wpAny_bind (wpAny_loadPart hx (wpAny_bind (PySem.W.Looks.here (s:={ s with toks:=s.toks + 1 }) (PySem.W.looks_clsIn X hc) ?_))))))
 rw [hd']
 refine wpAny_pure (a:=some dx) (wpAny_bind (wpAny_pure (wpAny_bind ?_)))
 refine wpAny_nsSet1 (s:={ s with toks:=s.toks + 1 }) I.ns fun h' hn2 hs2=>?_
 obtain ⟨oD,esD,epD,hoD,hdD,hcD⟩:=hn2.count (PySem.Within.cons name v hw)
 refine wpAny_bind (wpAny_lookBehind hoD (by rw [hdD]; exact pastItsLine_dict (Nat.le_trans hcD (by rw [List.length_cons]; omega))) ?_)
 exact wpAny_pure (h _ ⟨(hs2.2 _ (Ne.symm I.ne)).trans I.obj,hn2,I.ne⟩ hs2)
theorem zpp {R : Result→Shared→Prop} {vs : List Value} {kw : List (Str × Value)} (X : K.In s.heap) (hm : PySem.W.makesIn K C = true)
  (hi : PySem.W.findIn K (.ref C) "__init__" = some (some (.ref f))) (hf : PySem.W.typeIn K (.ref f) = some (.type "function"))
  (h : codeAny (model prog w) (A.under (.builtin "type.__call__" ⟨.ref C :: vs,kw⟩)) (.call (.ref f) ⟨.ref (s.heap.objs.size + 1) :: vs,kw⟩) (PySem.W.InitBack (s.heap.objs.size + 1) R)
   { s with heap:=(s.heap.push PySem.W.emptyDict).push (PySem.W.instObj C s.heap.objs.size) }) :
  codeAny (model prog w) A (.call (.ref C) ⟨vs,kw⟩) R s:=by
 obtain ⟨hh,g,d,t,os⟩:=s
 exact PySem.W.make_core (PySem.W.makes_of X hm) (PySem.W.looks_findIn X hi) (fun self=>PySem.W.bind_fn X self hf) (.inl rfl) h
end
def zbB (f : Str) (v : V) : List (Str × V)→List (Str × V)
 | []=>[(f,v)]
 | (g,x) :: r=>if g = f then (g,v) :: r else (g,x) :: zbB f v r
theorem zhw (f g : Str) (v : V) : ∀ fs : List (Str × V),(zbB f v fs).lookup g = if g = f then some v else fs.lookup g
 | []=>by
  show List.lookup g [(f,v)] = _
  by_cases h : g = f
  ·have hb : (g == f) = true:=beq_iff_eq.mpr h
   simp only [List.lookup,hb,if_pos h]
  ·have hb : (g == f) = false:=beq_eq_false_iff_ne.mpr h
   simp only [List.lookup,hb,if_neg h]
 | (k,x) :: r=>by
  have ih:=zhw f g v r
  rw [show zbB f v ((k,x) :: r) = (if k = f then (k,v) :: r else (k,x) :: zbB f v r) from rfl]
  by_cases hk : k = f
  ·rw [if_pos hk]
   by_cases h : g = k
   ·have hb : (g == k) = true:=beq_iff_eq.mpr h
    simp only [List.lookup,hb,if_pos (h.trans hk)]
   ·have hb : (g == k) = false:=beq_eq_false_iff_ne.mpr h
    simp only [List.lookup,hb,if_neg (fun e : g = f=>h (e.trans hk.symm))]
  ·rw [if_neg hk]
   by_cases h : g = k
   ·have hb : (g == k) = true:=beq_iff_eq.mpr h
    simp only [List.lookup,hb,if_neg (fun e : g = f=>hk (h.symm.trans e))]
   ·have hb : (g == k) = false:=beq_eq_false_iff_ne.mpr h
    simp only [List.lookup,hb]
    exact ih
theorem zgE (f : Str) (v : V) : ∀ fs : List (Str × V),f ∈ (zbB f v fs).map (·.1)∧∀ g,g ∈ fs.map (·.1)→g ∈ (zbB f v fs).map (·.1)
 | []=>⟨by simp [zbB],fun g h=>by simp at h⟩
 | (k,x) :: r=>by
  obtain ⟨i1,i2⟩:=zgE f v r
  rw [show zbB f v ((k,x) :: r) = (if k = f then (k,v) :: r else (k,x) :: zbB f v r) from rfl]
  by_cases hk : k = f
  ·rw [if_pos hk]
   subst hk
   exact ⟨by simp,fun g h=>by simpa using h⟩
  ·rw [if_neg hk]
   refine ⟨?_,fun g h=>?_⟩
   ·rw [List.map_cons]
    exact List.mem_cons_of_mem _ i1
   ·rw [List.map_cons] at h ⊢
    rcases List.mem_cons.mp h with e | e
    ·exact List.mem_cons.mpr (.inl e)
    ·exact List.mem_cons_of_mem _ (i2 g e)
theorem zhu (f : Str) (v : V) : ∀ fs : List (Str × V),(zbB f v fs).length ≤ fs.length + 1
 | []=>by simp [zbB]
 | (k,x) :: r=>by
  have ih:=zhu f v r
  rw [show zbB f v ((k,x) :: r) = (if k = f then (k,v) :: r else (k,x) :: zbB f v r) from rfl]
  by_cases hk : k = f
  ·rw [if_pos hk,List.length_cons,List.length_cons]; omega
  ·rw [if_neg hk,List.length_cons,List.length_cons]; omega
theorem zhy.some_of {v : V} {o : Option Value} (r : zhy (some v) o) : ∃ u,o = some u∧RelV v u:=by
 cases o with
 | none=>exact (show False from r).elim
 | some u=>exact ⟨u,rfl,r⟩
theorem zob {v : V} {u : Value} (r : RelV v u) : PySem.W.handedIn u = true:=by
 cases v with
 | non=>cases (show u = Value.none from r); rfl
 | bl b=>cases (show u = Value.bool b from r); rfl
 | int i=>obtain ⟨t,e⟩:=(show ∃ t,u = Value.int i t from r); cases e; rfl
 | str x=>obtain ⟨t,e⟩:=(show ∃ t,u = Value.str x t from r); cases e; rfl
 | byt b=>obtain ⟨t,e⟩:=(show ∃ t,u = Value.bytes b t from r); cases e; rfl
 | flt b=>obtain ⟨t,e⟩:=(show ∃ t,u = Value.float b t from r); cases e; rfl
 | ref a=>cases (show u = Value.ref a from r); rfl
 | ty n=>cases (show u = Value.type n from r); rfl
section
variable {P : Program} {w : World} {H H' : Hp} {h h' : Heap} {a C dx : Addr} {fs fs' : List (Str × V)}
theorem ziV (hok : HOk P w H h) (e : H a = some (.ins C dx fs)) : ∃ mA,ziK h a dx C mA∧(∀ f,zhy (fs.lookup f) (mA f))∧PySem.Within mA (fs.map (·.1))∧fs.length ≤ 1000∧H dx = some (.own a):=by
 obtain ⟨d,z,ne,ob,mA,n,r,q⟩:=(show za0 P w H h a (.ins C dx fs) from hok a _ e)
 exact ⟨mA,⟨ob,n,ne⟩,r,q,z,d⟩
end
structure Cls (K : PySem.W.Frag) (C : Addr) : Prop where
 pg : PySem.W.plainGet K C Str.empty = true
 hd : PySem.W.hasDictIn K C = true
 po : PySem.W.plainOver K C = true
 sa : PySem.W.findIn K (.ref C) "__setattr__" = some (some (.builtin "object.__setattr__"))
theorem Cls.get {K : PySem.W.Frag} {C : Addr} (c : Cls K C) (f : Str) : PySem.W.plainGet K C f = true:=c.pg
def zar (K : PySem.W.Frag) (C : Addr) (f : Str) : Prop:=PySem.W.findIn K (.ref C) f = some none
theorem zar.taker {K : PySem.W.Frag} {C : Addr} {f : Str} (n : zar K C f) : PySem.W.takerIn K C f = some none:=by
 unfold PySem.W.takerIn
 rw [show PySem.W.findIn K (.ref C) f = some none from n]
 rfl
section
variable {X : Cx} {pins : List (Addr × Obj)} {σ : St} {H : Hp} {s : Shared} {a C dx : Addr} {fs : List (Str × V)} {f : Str} {v : V} {A : Around} {E : Value→Shared→Prop}
theorem zl0 {b : Bool} {Q : Value→Shared→Prop} (I : Inv X pins σ H s) (e : H a = some (.ins C dx fs)) (c : Cls X.K C) (n : zar X.K C f) (l : fs.lookup f = some v)
  (h : ∀ u s',Inv X pins σ H s'→RelV v u→Q u s') : wpAny (model X.prog X.w) A (getAttr (.ref a) f b) Q E s:=by
 obtain ⟨mA,O,r,_,_,_⟩:=ziV I.hok e
 obtain ⟨u,hu,ru⟩:=zhy.some_of (v:=v) (o:=mA f) (by rw [← l]; exact r f)
 exact get_map I.kIn O (c.get f) c.hd n hu (zob ru) (h u _ (I.tok _) ru)
theorem zmJ {y : V} {u : Value} {Q : Unit→Shared→Prop} (I : Inv X pins σ H s) (e : H a = some (.ins C dx fs)) (c : Cls X.K C) (n : zar X.K C f) (hl : fs.length < 1000) (ry : RelV y u)
  (h : ∀ s',Inv X pins σ (upd H a (.ins C dx (zbB f y fs))) s'→Q () s') : wpAny (model X.prog X.w) A (setAttr (.ref a) f u) Q E s:=by
 obtain ⟨mA,O,r,wi,_,ho⟩:=ziV I.hok e
 have hz : (fs.map (·.1)).length ≤ sizeLine:=by rw [List.length_map,sizeLine_eq]; omega
 refine zqE I.kIn O c.sa c.po n.taker c.hd wi hz fun h' O' sb=>h _ ?_
 have hd : ∃ o,h'.get? dx = some o:=let ⟨o,_,_,e',_⟩:=O'.ns; ⟨o,e'⟩
 refine I.write (x:=a) (e:=dx) (by rw [e]; exact True.intro) (.inr ho) (fun b q hb z=>(sb.2 b hb).trans z) hd ?_
 refine ⟨by rw [zad O.ne]; exact ho,?_,O.ne,O'.obj,_,O'.ns,fun g=>?_,fun g hg=>?_⟩
 ·have:=zhu f y fs; omega
 ·show zhy ((zbB f y fs).lookup g) (if g = f then some u else mA g)
  rw [zhw]
  by_cases q : g = f
  ·rw [if_pos q,if_pos q]; exact ry
  ·rw [if_neg q,if_neg q]; exact r g
 ·by_cases q : g = f
  ·rw [q]; exact (zgE f y fs).1
  ·refine (zgE f y fs).2 g (wi g fun z=>hg ?_)
   show (if g = f then some u else mA g) = none
   rw [if_neg q]; exact z
theorem Inv.made (I : Inv X pins σ H s) : Inv X pins σ (upd (upd H s.heap.objs.size (.own (s.heap.objs.size + 1))) (s.heap.objs.size + 1) (.ins C s.heap.objs.size []))
  { s with heap:=(s.heap.push PySem.W.emptyDict).push (PySem.W.instObj C s.heap.objs.size) }:=by
 have e1 : (s.heap.push PySem.W.emptyDict).get? s.heap.objs.size = some PySem.W.emptyDict:=Heap.get?_push_size s.heap rfl
 have e2 : ((s.heap.push PySem.W.emptyDict).push (PySem.W.instObj C s.heap.objs.size)).get? (s.heap.objs.size + 1) = some (PySem.W.instObj C s.heap.objs.size):=by
  have:=Heap.get?_push_size (s.heap.push PySem.W.emptyDict) (o:=PySem.W.instObj C s.heap.objs.size) rfl
  rwa [Heap.size_push] at this
 have e3 : (s.heap.push PySem.W.emptyDict).Ns s.heap.objs.size (fun _=>none):=⟨PySem.W.emptyDict,#[],_,e1,rfl,(fun e he=>absurd he (by simp)),fun _=>rfl⟩
 have I1:=I.laid (a:=s.heap.objs.size) (o:=.own (s.heap.objs.size + 1)) (h':=s.heap.push PySem.W.emptyDict) (t':=s.toks) (fun b u q=>Heap.get?_push_of_some _ q) (Nat.le_refl _) ⟨_,e1⟩
 refine I1.laid (a:=s.heap.objs.size + 1) (o:=.ins C s.heap.objs.size []) (t':=s.toks) (fun b u q=>Heap.get?_push_of_some _ q) (Nat.le_of_eq (Heap.size_push _ _)) ?_
 have ne : s.heap.objs.size ≠ s.heap.objs.size + 1:=Nat.ne_of_lt (Nat.lt_succ_self _)
 refine ⟨by rw [zad ne,zaJ],Nat.zero_le _,ne,e2,fun _=>none,(Heap.Ns1.of_empty e3).at fun o q=>Heap.get?_push_of_some _ q,fun _=>True.intro,fun y hy=>absurd rfl hy⟩
theorem zp5 {prog : Program} {w : World} {env : Env} {e : Expr} {f : Str} {pos : Pos} {s : Shared} {Q : Value→Shared→Prop} (hb : attributeBase e f env (eval e env) = eval e env)
  (h : wpAny (model prog w) A (eval e env) (fun o s₁=>wpAny (model prog w) A (getAttr o f true) Q E s₁) E s) : wpAny (model prog w) A (eval (.Attribute e f pos) env) Q E s :=
 Attribute_any_ h (by rw [arm_eval_Attribute,hb])
end
def zu2 (K : PySem.W.Frag) (ta : TE) (f : Str) : TE:=fun σ H Q=>ta σ H fun x H1=>∃ a C dx fs v,x = .ref a∧H1 a = some (.ins C dx fs)∧Cls K C∧zar K C f∧fs.lookup f = some v∧Q v H1
def zvj (K : PySem.W.Frag) (ta tv : TE) (f : Str) : TS:=fun D σ H=>tv σ H fun y H1=>ta σ H1 fun x H2=>∃ a C dx fs,x = .ref a∧H2 a = some (.ins C dx fs)∧Cls K C∧zar K C f∧fs.length < 1000 ∧
 D.nx σ (upd H2 a (.ins C dx (zbB f y fs)))
section
variable {X : Cx} {o e value : Expr} {f : Str} {pos pos' tpos : Pos} {ta tv : TE}
theorem zsT (he : PE X e ta) (hb : attributeBase e f X.env (eval e X.env) = eval e X.env) : PE X (.Attribute e f pos) (zu2 X.K ta f):=by
 intro pins s σ H Q I h
 refine zp5 hb (thn (he pins s σ H _ I h) fun u s1 ⟨x,H1,I1,rx,a,C,dx,fs,v,ex,ea,c,n,l,q⟩=>?_)
 subst ex
 obtain rfl : u = Value.ref a:=rx
 exact zl0 I1 ea c n l fun u' s2 I2 ru=>⟨v,H1,I2,ru,q⟩
theorem zrw (ha : PE X o ta) (hv : PE X value tv) (hs : swapsWith value (some (.Attribute o f pos')) pos.line X.env = pure false) : PS X (.Assign [.Attribute o f pos'] value pos) (zvj X.K ta tv f):=by
 intro pins s σ H D I h
 refine plainObj_wpAny_Assign_Attribute (thn (hv pins s σ H _ I h) fun u s1 ⟨y,H1,I1,ry,q⟩=>thn (ha pins s1 σ H1 _ I1 q) fun ov s2 ⟨x,H2,I2,rx,a,C,dx,fs,ex,ea,c,n,l,q2⟩=>?_) hs
 subst ex
 obtain rfl : ov = Value.ref a:=rx
 exact zmJ I2 ea c n l ry fun s3 I3=>⟨σ,_,I3,q2⟩
end
section
variable {X : Cx} {pins : List (Addr × Obj)} {σ : St} {H : Hp} {s : Shared} {A : Around} {E : Value→Shared→Prop} {Q : Value→Shared→Prop} {c : Value} {b : Bool}
inductive zdN (K : PySem.W.Frag) (H : Hp) : V→Value→Prop where
 | non : zdN K H .non (.type "NoneType")
 | bl (x : Bool) : zdN K H (.bl x) (.type "bool")
 | int (i : Int) : zdN K H (.int i) (.type "int")
 | str (x : Str) : zdN K H (.str x) (.type "str")
 | flt (x : UInt64) : zdN K H (.flt x) (.type "float")
 | lst {a : Addr} {xs : List V} (e : H a = some (.lst xs)) : zdN K H (.ref a) (.type "list")
 | frz {a : Addr} {o : Obj} {xs : List V} (e : H a = some (.frz o (.lst xs))) : zdN K H (.ref a) (.type "list")
 | tup {a : Addr} {xs : List V} (e : H a = some (.tup xs)) : zdN K H (.ref a) (.type "tuple")
 | dK {a : Addr} {kvs : List (Key × V)} (e : H a = some (.dK kvs)) : zdN K H (.ref a) (.type "dict")
 | dT {a : Addr} {kvs : List (List Key × V)} (e : H a = some (.dT kvs)) : zdN K H (.ref a) (.type "dict")
 | ins {a C dx : Addr} {fs : List (Str × V)} (e : H a = some (.ins C dx fs)) (cl : Cls K C) (ha : PySem.W.findIn K (.ref C) "__class__" = some (some (.builtin "object.__class__")))
   (hn : PySem.W.specialIn K (.builtin "object.__class__") "__get__" = some (some (.builtin "getset_descriptor.__get__"))) (htk : PySem.W.takesIn K (.builtin "object.__class__") = some true)
   (hm : PySem.W.mroIn K C (.type "object") = some true) : zdN K H (.ref a) (.ref C)
theorem zoc {x : V} {u t : Value} (I : Inv X pins σ H s) (rx : RelV x u) (ty : zdN X.K H x t) (e : PySem.W.kitOne X.K t c = some b) (h : ∀ tk,Q (.bool b) { s with toks:=tk }) :
  wpAny (model X.prog X.w) A (call (.builtin "isinstance") [u,c]) Q E s:=by
 cases ty with
 | non=>cases (show u = Value.none from rx); exact PySem.W.kia_one PySem.W.kitx_none I.kIn True.intro e (fun z=>nomatch z) h
 | bl y=>cases (show u = Value.bool y from rx); exact PySem.W.kia_one PySem.W.kitx_bool I.kIn True.intro e (fun z=>nomatch z) h
 | int i=>obtain ⟨t,q⟩:=(show ∃ t,u = Value.int i t from rx); cases q; exact PySem.W.kia_one PySem.W.kitx_int I.kIn True.intro e (fun z=>nomatch z) h
 | str y=>obtain ⟨t,q⟩:=(show ∃ t,u = Value.str y t from rx); cases q; exact PySem.W.kia_one PySem.W.kitx_str I.kIn True.intro e (fun z=>nomatch z) h
 | flt y=>obtain ⟨t,q⟩:=(show ∃ t,u = Value.float y t from rx); cases q; exact PySem.W.kia_one PySem.W.kitx_float I.kIn True.intro e (fun z=>nomatch z) h
 | @lst a xs ea =>
  cases (show u = Value.ref a from rx)
  obtain ⟨_,_,n,_,h1⟩:=(show za0 X.prog X.w H s.heap a (.lst xs) from I.hok a _ ea)
  exact PySem.W.kia_one PySem.W.kitx_list I.kIn ⟨_,h1,rfl⟩ e (fun z=>nomatch z) h
 | @frz a ob xs ea =>
  cases (show u = Value.ref a from rx)
  obtain ⟨_,_,_,n,_,h1⟩:=(show za0 X.prog X.w H s.heap a (.frz ob (.lst xs)) from I.hok a _ ea)
  exact PySem.W.kia_one PySem.W.kitx_list I.kIn ⟨_,h1,rfl⟩ e (fun z=>nomatch z) h
 | @tup a xs ea =>
  cases (show u = Value.ref a from rx)
  obtain ⟨_,_,_,p⟩:=(show za0 X.prog X.w H s.heap a (.tup xs) from I.hok a _ ea)
  obtain ⟨o,h1,h2,_⟩:=p
  exact PySem.W.kia_one PySem.W.kitx_tuple I.kIn ⟨o,h1,h2⟩ e (fun z=>nomatch z) h
 | @dK a kvs ea =>
  cases (show u = Value.ref a from rx)
  obtain ⟨_,_,vs,_,p⟩:=(show za0 X.prog X.w H s.heap a (.dK kvs) from I.hok a _ ea)
  obtain ⟨o,es,ep,h1,h2,_⟩:=p
  exact PySem.W.kia_one PySem.W.kitx_dict I.kIn ⟨o,h1,h2.1⟩ e (fun z=>nomatch z) h
 | @dT a kvs ea =>
  cases (show u = Value.ref a from rx)
  obtain ⟨_,_,xs,_,o,es,ep,h1,h2,_⟩:=(show za0 X.prog X.w H s.heap a (.dT kvs) from I.hok a _ ea)
  exact PySem.W.kia_one PySem.W.kitx_dict I.kIn ⟨o,h1,h2.1⟩ e (fun z=>nomatch z) h
 | @ins a C dx fs ea cl ha hn htk hm =>
  cases (show u = Value.ref a from rx)
  obtain ⟨mA,O,_⟩:=ziV I.hok ea
  obtain ⟨od,J,_⟩:=O.look
  exact PySem.W.kia_one (PySem.W.kitx_own (cl.get _) cl.hd ha hn htk hm) I.kIn J e (fun z=>nomatch z) h
end
end L2
namespace L2
open PySem PySem.Spec PyProof.Rows
structure zaI (k : Nat) (A : Around) : Prop where
 hd : A.handled = none
 dp : A.depth + 3 * k + 5 < recursionLimit
 un : A.units + 16 * k + 200 < cLine
theorem zaI.mono {j k : Nat} {A : Around} (r : zaI k A) (h : j ≤ k) : zaI j A:=⟨r.hd,by have:=r.dp; omega,by have:=r.un; omega⟩
theorem zaI.deeper {k : Nat} {A : Around} (r : zaI (k + 1) A) (env : Env) : zaI k (A.deeper env) :=
 ⟨r.hd,by have:=r.dp; show A.depth + 1 + 3 * k + 5 < _; omega,by have:=r.un; show A.units + 3 + 16 * k + 200 < _; omega⟩
theorem zml {A : Around} {C : Addr} {us : List Value} {kw : List (Str × Value)} : (A.under (.builtin "type.__call__" ⟨.ref C :: us,kw⟩)).depth = A.depth + 1:=by
 first | rfl | simp [Around.under,Code.weight,Code.isCreation,Code.isGuard,Code.isCaller,Code.frames,Code.isFrame,guardIds]
theorem zm0 {A : Around} {C : Addr} {us : List Value} {kw : List (Str × Value)} : (A.under (.builtin "type.__call__" ⟨.ref C :: us,kw⟩)).units = A.units + 1:=by
 first | rfl | simp [Around.under,Code.cUnits,Code.frames,Code.isFrame]
theorem zaI.make {k : Nat} {A : Around} (r : zaI (k + 1) A) (C : Addr) (us : List Value) (kw : List (Str × Value)) : zaI k (A.under (.builtin "type.__call__" ⟨.ref C :: us,kw⟩)) :=
 ⟨r.hd,by have:=r.dp; rw [zml]; omega,by have:=r.un; rw [zm0]; omega⟩
theorem zaI.depth {k : Nat} {A : Around} (r : zaI k A) : A.depth < recursionLimit:=by have:=r.dp; omega
theorem zaI.units {k : Nat} {A : Around} (r : zaI k A) : A.units + 64 < cLine:=by have:=r.un; omega
def zu6 : TA:=fun _ H Q=>Q [] H
def zuq (ta : TE) (tr : TA) : TA:=fun σ H Q=>ta σ H fun x H1=>tr σ H1 fun xs H2=>Q (x :: xs) H2
section
variable {X : Cx} {e : Expr} {es : List Expr} {te : TE} {t : TA} {pos : Pos}
theorem zsP : PA X [] zu6:=fun _ _ _ _ H Q I h=>Calls.spliced_nil ⟨[],H,I,.nil,h⟩
theorem zp8 (ha : PE X e te) (hr : PA X es t) (hs : starEach (e :: es) X.env = (false,eval e X.env) :: starEach es X.env:=by rfl) : PA X (e :: es) (zuq te t):=by
 intro pos pins s σ H Q I h
 rw [hs]
 show wpAny _ _ (spliced ((false,eval e X.env) :: backTo pos (starEach es X.env))) _ _ s
 refine Calls.spliced_cons (thn (ha pins s σ H _ I h) fun u s1 ⟨x,H1,I1,r1,q1⟩=>?_)
 exact thn (hr pos pins s1 σ H1 _ I1 q1) fun us s2 ⟨xs,H2,I2,r2,q2⟩=>⟨x :: xs,H2,I2,.cons r1 r2,q2⟩
def zvv (t : TA) : TE:=fun σ H Q=>t σ H fun xs H1=>xs.length ≤ sizeLine∧∀ p,H1 p = none→Q (.ref p) (upd H1 p (.tup xs))
def zvq (t : TA) : TE:=fun σ H Q=>t σ H fun xs H1=>xs.length ≤ sizeLine∧∀ p,H1 p = none→Q (.ref p) (upd H1 p (.lst xs))
theorem zsr {x1} (h : PA X es t) : PE X (.Tuple es x1 pos) (zvv t):=by
 intro pins s σ H Q I hq
 refine wpAny_Tuple_spliced (thn (h pos pins s σ H _ I hq) fun us s1 ⟨xs,H1,I1,r,z,q⟩=>⟨by rw [← r.length]; exact z,?_⟩)
 have hf : H1 s1.heap.objs.size = none:=I1.hok.fresh (Nat.le_refl _)
 refine ⟨.ref s1.heap.objs.size,upd H1 s1.heap.objs.size (.tup xs),I1.laid (t':=s1.toks) (fun b u e=>Heap.get?_push_of_some _ e) (Nat.le_refl _) ?_,rfl,q _ hf⟩
 exact ⟨z,us,r,⟨_,Heap.get?_push_size _ rfl,rfl,_,rfl⟩⟩
theorem zsJ (h : PA X es t) : PE X (.List es pos) (zvq t):=by
 intro pins s σ H Q I hq
 refine wpAny_List_spliced (thn (h pos pins s σ H _ I hq) fun us s1 ⟨xs,H1,I1,r,z,q⟩=>⟨by rw [← r.length]; exact z,?_⟩)
 have hf : H1 s1.heap.objs.size = none:=I1.hok.fresh (Nat.le_refl _)
 refine ⟨.ref s1.heap.objs.size,upd H1 s1.heap.objs.size (.lst xs),I1.laid (t':=s1.toks) (fun b u e=>Heap.get?_push_of_some _ e) (Nat.le_refl _) ?_,rfl,q _ hf⟩
 exact ⟨z,us,0,r,Heap.get?_push_size _ rfl⟩
end
abbrev Sp:=List V→Hp→VK→XK→Prop
abbrev CXT:=List Env→Hp→Shared→XK→Value→Shared→Prop
structure zhS (P : Program) (w : World) (K : PySem.W.Frag) (mg : Str→Option Value) (base : Heap) (A : Around) (outer : List Env) (s : Shared) (H : Hp) : Prop where
 frames : A.frames = some outer
 mod : Mod K mg base
 bs : ∀ b o,base.get? b = some o→s.heap.get? b = some o∧H b = none
 bsz : base.objs.size ≤ s.heap.objs.size
 funs : s.heap.FunFrames base outer
 frf : ∀ b ∈ frs outer,H b = none
 hok : HOk P w H s.heap
 bare : AllBare s.gens
def CE (outer : List Env) (P : Program) (w : World) (H : Hp) (s : Shared) (Q : VK) (u : Value) (s' : Shared) : Prop :=
 ∃ v H',s'.os = s.os∧AllBare s'.gens∧Un (frs outer) [] H H' s.heap s'.heap∧HOk P w H' s'.heap∧RelV v u∧Q v H'
def CR (CX : CXT) (outer : List Env) (P : Program) (w : World) (H : Hp) (s : Shared) (Q : VK) (E : XK) (r : Result) (s' : Shared) : Prop :=
 match r with
 | .ok (.ret u)=>CE outer P w H s Q u s'
 | .ok _=>False
 | .error e=>CX outer H s E e s'
structure zZ (P : Program) (w : World) (K : PySem.W.Frag) (mg : Str→Option Value) (base : Heap) (CX : CXT) (k : Nat) (f : Addr) (fd : FuncData) (ps : List Str) (sp : Sp) : Prop where
 len : ∀ vs H Q E,sp vs H Q E→vs.length = ps.length
 run : ∀ (A : Around) (outer : List Env) (s : Shared) (H : Hp) (args : Args) (us : List Value) (vs : List V) (Q : VK) (E : XK),zaI k A→zhS P w K mg base A outer s H→BindsTo s fd args (ps.zip us)→Vals vs us→sp vs H Q E →
  codeAny (model P w) A (.call (.ref f) args) (CR CX outer P w H s Q E) s
theorem zZ.mono {P : Program} {w : World} {K : PySem.W.Frag} {mg : Str→Option Value} {base : Heap} {CX : CXT} {j k : Nat} {f : Addr} {fd : FuncData} {ps : List Str} {sp : Sp} (F : zZ P w K mg base CX j f fd ps sp) (h : j ≤ k) :
  zZ P w K mg base CX k f fd ps sp:=⟨F.len,fun A outer s H args us vs Q E hr=>F.run A outer s H args us vs Q E (hr.mono h)⟩
theorem zhS.make {P : Program} {w : World} {K : PySem.W.Frag} {mg : Str→Option Value} {base : Heap} {A : Around} {outer : List Env} {s : Shared} {H : Hp} (e : zhS P w K mg base A outer s H) (C : Addr) (us : List Value) (kw : List (Str × Value)) :
  zhS P w K mg base (A.under (.builtin "type.__call__" ⟨.ref C :: us,kw⟩)) outer s H:=⟨by first | exact e.frames | (simpa [Around.under,Code.envs,Code.isFrame,pushEnvs] using e.frames),e.mod,e.bs,e.bsz,e.funs,e.frf,e.hok,e.bare⟩
section
variable {X : Cx} {pins : List (Addr × Obj)} {σ : St} {H : Hp} {s s' : Shared}
theorem Inv.env0 (I : Inv X pins σ H s) : zhS X.prog X.w X.K X.mg X.base X.A X.stack s H :=
 ⟨I.ok.frames,I.ok.mod,I.bs,Nat.le_trans I.ok.bsz I.sz,I.stack,I.stkFree,I.hok,I.bare⟩
theorem Inv.after {Q : VK} {u : Value} (I : Inv X pins σ H s) (h : CE X.stack X.prog X.w H s Q u s') : EP X pins σ Q u s':=by
 obtain ⟨v,H',os,bare,un,hok,r,q⟩:=h
 obtain ⟨hh,g,d,t,os'⟩:=s'
 obtain rfl : os' = s.os:=os
 exact ⟨v,H',I.call (h':=hh) (g':=g) (d':=d) (t':=t) (ch:=[]) un hok bare (fun b z=>absurd z (by simp)),r,q⟩
end
def zmf (sp : Sp) (dvs : List V) (E : XK) (t : TA) : TE:=fun σ H Q=>t σ H fun vs H1=>sp (vs ++ dvs) H1 Q E
def Binds (K : PySem.W.Frag) (fd : FuncData) (ps : List Str) (ds : List Value) : Prop :=
 ∀ (s : Shared) (us : List Value),K.In s.heap→(us ++ ds).length = ps.length→BindsTo s fd ⟨us,[]⟩ (ps.zip (us ++ ds))
theorem Binds.all {K : PySem.W.Frag} {fd : FuncData} {ps : List Str} (h : ∀ us : List Value,us.length = ps.length→bindArgs fd ⟨us,[]⟩ = pure (ps.zip us)) : Binds K fd ps []:=fun s us _ hl=>by
 rw [List.append_nil] at hl ⊢
 exact .of_eq (h us hl)
def Passes (CX : CXT) (X : Cx) (E : XK) : Prop:=∀ (pins : List (Addr × Obj)) (σ : St) (H : Hp) (s : Shared) (e : Value) (s' : Shared),Inv X pins σ H s→CX X.stack H s E e s'→X.xe e s'
section
variable {X : Cx} {CX : CXT} {k : Nat} {f C : Addr} {fd : FuncData} {ps : List Str} {sp : Sp} {dvs : List V} {ds : List Value} {E : XK} {x m : Str} {p pos apos : Pos} {e o : Expr} {es : List Expr} {ta : TE} {t : TA}
theorem zs7 {pins : List (Addr × Obj)} {σ : St} {H : Hp} {s : Shared} {Q : VK} {us : List Value} {vs : List V} (F : zZ X.prog X.w X.K X.mg X.base CX k f fd ps sp) (hr : zaI k X.A) (hb : Binds X.K fd ps ds) (hd : Vals dvs ds) (hx : Passes CX X E)
  (I : Inv X pins σ H s) (r : Vals vs us) (h : sp (vs ++ dvs) H Q E) : wpAny (model X.prog X.w) X.A (call (.ref f) us) (EP X pins σ Q) X.xe s:=by
 have r2 : Vals (vs ++ dvs) (us ++ ds):=r.append hd
 have hl : (us ++ ds).length = ps.length:=by rw [← r2.length]; exact F.len _ _ _ _ h
 refine wpAny_call (codeAny_mono (F.run X.A X.stack s H ⟨us,[]⟩ (us ++ ds) (vs ++ dvs) Q E hr I.env0 (hb s us I.kIn hl) r2 h) fun r s' hq=>?_)
 cases r with
 | error e=>exact hx pins σ H s e s' I hq
 | ok fl =>
  cases fl with
  | ret u=>exact I.after hq
  | next=>exact False.elim hq
  | brk=>exact False.elim hq
  | cont=>exact False.elim hq
theorem zq5 (F : zZ X.prog X.w X.K X.mg X.base CX k f fd ps sp) (hr : zaI k X.A) (hg : Gl X x) (hm : X.mg x = some (.ref f)) (hk : PySem.W.keepIn X.K (.ref f) = true) (hb : Binds X.K fd ps ds) (hd : Vals dvs ds) (hx : Passes CX X E)
  (ha : PA X (e :: es) t) (hdb : (x == ("__debug__" : Str)) = false:=by decide) (he : starEach (e :: es) X.env = (false,eval e X.env) :: starEach es X.env:=by rfl) (hpl : (backTo pos (starEach es X.env)).any (·.1) = false:=by rfl) :
  PE X (.Call (.Name x p) (e :: es) [] pos) (zmf sp dvs E t):=by
 intro pins s σ H Q I h
 refine wpAny_Call_Name_kw (zfx I hg hm ?_ hdb)
 refine PySem.W.callWith_K (h₀:=X.base) I.ok.mod.kin hk (thn (ha pos pins s σ H _ I h) fun us s1 ⟨vs,H1,I1,r,q⟩=>⟨I1.kIn,?_⟩) he hpl
 exact zs7 F hr hb hd hx I1 r q
structure Mk (K : PySem.W.Frag) (C f : Addr) : Prop where
 makes : PySem.W.makesIn K C = true
 init : PySem.W.findIn K (.ref C) "__init__" = some (some (.ref f))
 fn : PySem.W.isFn K (.ref f) = true
 kp : PySem.W.keepIn K (.ref C) = true
theorem zo7 {pins : List (Addr × Obj)} {σ : St} {H : Hp} {s : Shared} {Q : VK} {us : List Value} {vs : List V} (M : Mk X.K C f) (F : zZ X.prog X.w X.K X.mg X.base CX k f fd ps sp) (hr : zaI (k + 1) X.A) (hb : Binds X.K fd ps ds) (hd : Vals dvs ds)
  (hx : Passes CX X E) (I : Inv X pins σ H s) (r : Vals vs us)
  (h : ∀ x dx,H x = none→H dx = none→dx ≠ x→sp (.ref x :: (vs ++ dvs)) (upd (upd H dx (.own x)) x (.ins C dx [])) (fun v H2=>v = .non∧Q (.ref x) H2) E) :
  wpAny (model X.prog X.w) X.A (call (.ref C) us) (EP X pins σ Q) X.xe s:=by
 have hq:=h (s.heap.objs.size + 1) s.heap.objs.size (I.hok.fresh (Nat.le_succ _)) (I.hok.fresh (Nat.le_refl _)) (Nat.ne_of_lt (Nat.lt_succ_self _))
 have I2:=Inv.made (C:=C) I
 have r2 : Vals (V.ref (s.heap.objs.size + 1) :: (vs ++ dvs)) (Value.ref (s.heap.objs.size + 1) :: (us ++ ds)):=.cons rfl (r.append hd)
 have hl : (Value.ref (s.heap.objs.size + 1) :: us ++ ds).length = ps.length:=by
  have e:=r2.length
  rw [F.len _ _ _ _ hq] at e
  exact e.symm
 refine wpAny_call (zpp (f:=f) I.kIn M.makes M.init (beq_iff_eq.mp M.fn) (codeAny_mono (F.run _ X.stack _ _ ⟨Value.ref (s.heap.objs.size + 1) :: us,[]⟩ (Value.ref (s.heap.objs.size + 1) :: (us ++ ds)) _ _ E (hr.make C us [])
  (I2.env0.make C us []) (hb _ (Value.ref (s.heap.objs.size + 1) :: us) I2.kIn hl) r2 hq) fun r s' hq'=>?_))
 cases r with
 | error e=>exact hx pins σ _ _ e s' I2 hq'
 | ok fl =>
  cases fl with
  | ret u =>
   obtain ⟨v,H',I3,rv,ev,q3⟩:=I2.after hq'
   subst ev
   exact ⟨rv,⟨V.ref (s.heap.objs.size + 1),H',I3,rfl,q3⟩⟩
  | next=>exact False.elim hq'
  | brk=>exact False.elim hq'
  | cont=>exact False.elim hq'
end
section
variable {X : Cx} {CX : CXT} {k : Nat} {f C : Addr} {fd : FuncData} {ps ks : List Str} {sp : Sp} {E : XK} {x m : Str} {p pos apos kpos : Pos} {e o : Expr} {es : List Expr} {kws : List Keyword} {te ta : TE} {t tk : TA} {nm : Option Str}
variable {g : List Value→List Value→List Value} {gV : List V→List V→List V}
end
structure zO (N P : List Str) (sc : Scope) : Prop where
 kind : sc.kind = .function
 co : sc.isCoroutine = false
 gen : sc.isGenerator = false
 nd : N.Nodup
 pre : N.take P.length = P
 par : ∀ x ∈ P,sc.names.lookup x = some .local∨sc.names.lookup x = some .cell
 nofree : ∀ y ∈ sc.names,y.2 ≠ .free
theorem zji {kindOf : Str→Option NameKind} {x : Str} : ∀ {binds : List (Str × Value)} {m : Str→Option Value},(∀ v,(x,v) ∉ binds)→bindL kindOf binds m x = m x
 | [],_,_=>rfl
 | (n,v) :: r,m,h=>by
  unfold bindL
  rw [zji fun w hw=>h w (List.mem_cons_of_mem _ hw)]
  split
  ·have : x ≠ n:=by rintro rfl; exact h v List.mem_cons_self
   simp [this]
  ·rfl
theorem zjj {kindOf : Str→Option NameKind} {x : Str} : ∀ {binds : List (Str × Value)} {m : Str→Option Value},(∀ v,(x,v) ∉ binds)→bindC kindOf binds m x = m x
 | [],_,_=>rfl
 | (n,v) :: r,m,h=>by
  unfold bindC
  rw [zjj fun w hw=>h w (List.mem_cons_of_mem _ hw)]
  split
  ·rfl
  ·have : x ≠ n:=by rintro rfl; exact h v List.mem_cons_self
   simp [this]
theorem zjq {kindOf : Str→Option NameKind} {x : Str} {v : Value} : ∀ {P : List Str} {vs : List Value} {i : Nat} {m : Str→Option Value},P.Nodup→P[i]? = some x→vs[i]? = some v→kindOf x = some .local →
  bindL kindOf (P.zip vs) m x = some v
 | [],_,_,_,_,h,_,_=>by simp at h
 | _ :: _,[],_,_,_,_,h,_=>by simp at h
 | p :: P,w :: vs,0,m,nd,h1,h2,hk=>by
  simp at h1 h2; subst h1; subst h2
  show bindL kindOf ((p,w) :: P.zip vs) m p = _
  unfold bindL
  rw [zji fun v hv=>(List.nodup_cons.mp nd).1 (List.of_mem_zip hv).1,if_pos hk]
  simp
 | p :: P,w :: vs,i + 1,m,nd,h1,h2,hk=>by
  show bindL kindOf ((p,w) :: P.zip vs) m x = _
  unfold bindL
  exact zjq (i:=i) (List.nodup_cons.mp nd).2 (by simpa using h1) (by simpa using h2) hk
theorem zjg {kindOf : Str→Option NameKind} {x : Str} {v : Value} : ∀ {P : List Str} {vs : List Value} {i : Nat} {m : Str→Option Value},P.Nodup→P[i]? = some x→vs[i]? = some v→kindOf x ≠ some .local →
  bindC kindOf (P.zip vs) m x = some v
 | [],_,_,_,_,h,_,_=>by simp at h
 | _ :: _,[],_,_,_,_,h,_=>by simp at h
 | p :: P,w :: vs,0,m,nd,h1,h2,hk=>by
  simp at h1 h2; subst h1; subst h2
  show bindC kindOf ((p,w) :: P.zip vs) m p = _
  unfold bindC
  rw [zjj fun v hv=>(List.nodup_cons.mp nd).1 (List.of_mem_zip hv).1,if_neg hk]
  simp
 | p :: P,w :: vs,i + 1,m,nd,h1,h2,hk=>by
  show bindC kindOf ((p,w) :: P.zip vs) m x = _
  unfold bindC
  exact zjg (i:=i) (List.nodup_cons.mp nd).2 (by simpa using h1) (by simpa using h2) hk
def start (N : List Str) (vs : List V) : St:=vs.map some ++ List.replicate (N.length - vs.length) none
def ze7 (CX : CXT) (P : Program) (w : World) (K : PySem.W.Frag) (mg : Str→Option Value) (base : Heap) (N : List Str) (qual : Str) (scope : Scope) (f : Addr) (cd : Value) (A : Around) (outer : List Env) (s : Shared) (H : Hp) (E : XK) : Cx where
 prog:=P
 w:=w
 K:=K
 mg:=mg
 base:=base
 A:=A.deeper (envOfC qual scope s.heap.objs.size f cd)
 N:=N
 s₀:=s
 H₀:=H
 env:=envOfC qual scope s.heap.objs.size f cd
 outer:=outer
 stack:=envOfC qual scope s.heap.objs.size f cd :: outer
 ex:=[]
 calm:=true
 fn:=fun _=>true
 pn:=[]
 xe:=fun e s'=>wpAny (model P w) (A.deeper (envOfC qual scope s.heap.objs.size f cd)) (leaving (envOfC qual scope s.heap.objs.size f cd) e) (fun _ s''=>CX outer H s E e s'') (fun e' s''=>CX outer H s E e' s'') s'
theorem zkh {sc : Scope} {n : Nat} {x : Str} (h : sc.names.lookup x = some .cell) : ∃ c,(cellsFrom n sc.names []).lookup x = some c:=by
 have q:=PySem.W.cellsFrom_some sc.names n [] (.inl h)
 exact Option.isSome_iff_exists.mp q
theorem zm8 {CX : CXT} {P : Program} {w : World} {K : PySem.W.Frag} {mg : Str→Option Value} {base : Heap} {N ps : List Str} {qual : Str} {scope : Scope} {f : Addr} {cd : Value} {A : Around} {outer : List Env} {s s1 : Shared} {H : Hp} {E : XK} {us : List Value} {vs : List V}
    (S : zO N ps scope) (hd : A.handled = none) (e0 : zhS P w K mg base A outer s H) (hl : vs.length = ps.length) (r : Vals vs us)
    (x : InCallC s s.heap.objs.size (bindL (envOfC qual scope s.heap.objs.size f cd).kindOf (ps.zip us) fun _=>none) (cellsFrom (s.heap.objs.size + 1) scope.names []) (bindC (envOfC qual scope s.heap.objs.size f cd).kindOf (ps.zip us) fun _=>none) s1) :
    Inv (ze7 CX P w K mg base N qual scope f cd A outer s H E) [] (start N vs) H s1:=by
  have hpl : ps.length ≤ N.length:=by have:=congrArg List.length S.pre; rw [List.length_take] at this; omega
  obtain ⟨h1,tk,rfl,hk⟩:=x.done
  have noA : ∀ b : Addr,b ∉ (ze7 CX P w K mg base N qual scope f cd A outer s H E).ex:=fun b z=>absurd (show b ∈ ([] : List Addr) from z) (by simp)
  refine ⟨⟨e0.mod,S.kind,rfl,rfl,Nat.le_refl _,fun y z c h1 h2=>?_,fun y hy=>?_,fun y c _ h=>?_,fun _=>hd,Around.frames_deeper e0.frames,.inr ⟨rfl,rfl⟩,fun b z=>absurd z (noA b),e0.bs,e0.bsz,fun b _ _=>noA b,fun b z=>absurd z (noA b),e0.funs,e0.frf⟩,
    rfl,e0.bare,Un.kept hk,⟨_,x.toInCall.ns,fun i y v h1 h2 h3=>?_⟩,fun y c h=>⟨_,x.cell y c h⟩,e0.hok.fresh (Nat.le_refl _),fun y c h=>?_,fun p hp=>absurd (show p ∈ ([] : List (Addr × Obj)) from hp) (by simp),e0.hok.kept hk,?_⟩
  · exact name_of_addr x.apart (PySem.mem_of_lookup h1) (PySem.mem_of_lookup h2)
  · have hy : scope.names.lookup y = some .cell∨scope.names.lookup y = some .free:=hy
    rcases hy with hy | hy
    · exact zkh hy
    · exact absurd rfl (S.nofree _ (PySem.mem_of_lookup hy))
  · exact Nat.le_of_lt (x.above y c (PySem.mem_of_lookup h))
  · have hi : i < vs.length := by
      unfold start at h2
      by_cases hi : i < vs.length
      · exact hi
      · rw [List.getElem?_append_right (by simpa using hi)] at h2
        rw [List.getElem?_replicate] at h2
        split at h2 <;> cases h2
    have ha : vs[i]? = some v:=by
      unfold start at h2
      rw [List.getElem?_append_left (by simpa using hi),List.getElem?_map] at h2
      cases e : vs[i]? with
      | none=>rw [e] at h2; cases h2
      | some a=>rw [e] at h2; cases h2; rfl
    obtain ⟨u,hu,rv⟩:=r.get ha
    have hp : ps[i]? = some y:=by
      rw [← S.pre,List.getElem?_take_of_lt (by omega)]; exact h1
    have ndP : ps.Nodup:=by rw [← S.pre]; exact S.nd.sublist (List.take_sublist _ _)
    refine ⟨u,rv,?_⟩
    rcases S.par y (List.mem_of_getElem? hp) with k | k
    · exact .inl ⟨k,zjq ndP hp hu k⟩
    · obtain ⟨c,e⟩:=zkh (n:=s.heap.objs.size + 1) k
      refine .inr ⟨.inl k,c,e,?_⟩
      have q:=x.cell y c e
      rw [zjg ndP hp hu (by show scope.names.lookup y ≠ _; rw [k]; decide)] at q
      exact q
  · exact e0.hok.fresh (Nat.le_of_lt (x.above y c (PySem.mem_of_lookup h)))
  · unfold start
    show _ = N.length
    rw [List.length_append,List.length_map,List.length_replicate]
    omega
theorem zp2 {CX : CXT} {P : Program} {w : World} {K : PySem.W.Frag} {mg : Str→Option Value} {base : Heap} {k : Nat} {f : Addr} {name qual : Str} {params : Arguments} {body : List Stmt} {scope : Scope} {dV kV doc pm cdv ct oc : Value} {an od : Option Addr}
  {osl : Array (Option Value)} {N ps : List Str} {sp : Sp} (lk : K.lookup f = some ⟨oc,od,.func (PySem.W.fnOf name qual params body scope dV kV doc pm an cdv ct),osl⟩) (hcd : PySem.W.codeIn K cdv qual = true) (S : zO N ps scope)
  (len : ∀ vs H Q E,sp vs H Q E→vs.length = ps.length)
  (hbody : ∀ (A : Around) (outer : List Env) (s : Shared) (H : Hp) (vs : List V) (Q : VK) (E : XK),zaI k (A.deeper (envOfC qual scope s.heap.objs.size f cdv))→sp vs H Q E →
   ∃ t,PSs (ze7 CX P w K mg base N qual scope f cdv A outer s H E) body t∧t { nx:=fun _ H'=>Q .non H',rt:=Q } (start N vs) H) :
  zZ P w K mg base CX (k + 1) f (PySem.W.fnOf name qual params body scope dV kV doc pm an cdv ct) ps sp:=by
 refine ⟨len,fun A outer s H args us vs Q E hr e0 hb r hsp=>?_⟩
 have hl:=len _ _ _ _ hsp
 have KX : K.In s.heap:=e0.mod.kin.keeps fun b o e=>(e0.bs b o e).1
 have lim : s.heap.NoLimit:=e0.mod.nolimit.keeps fun b o e=>(e0.bs b o e).1
 have hkind : ∀ y ∈ ps.zip us,scope.names.lookup y.1 = some .local∨(scope.names.lookup y.1 = some .cell∧((cellsFrom (s.heap.objs.size + 1) scope.names []).lookup y.1).isSome = true):=fun ⟨n,v⟩ hy=>by
  rcases S.par n (List.of_mem_zip hy).1 with q | q
  ·exact .inl q
  ·exact .inr ⟨q,PySem.W.cellsFrom_some _ _ _ (.inl q)⟩
 refine codeAny_call_function hr.depth (KX _ _ lk) rfl S.co S.gen rfl (PySem.W.codeRec_of KX hcd) (hb _ _ _ _ ?_)
 refine wpAny_newFunctionEnv_cells S.kind hkind fun env he s1 x=>?_
 subst he
 refine ⟨lim.keeps x.toInCall.keep,codeAny_func ?_⟩
 obtain ⟨t,ht,hq⟩:=hbody A outer s H vs Q E (hr.deeper _) hsp
 have I : Inv (ze7 CX P w K mg base N qual scope f cdv A outer s H E) [] (start N vs) H s1:=zm8 S hr.hd e0 hl r x
 refine wpAny_mono (ht [] s1 (start N vs) H _ I hq) (fun fl s' hs=>?_) fun e s' hs=>hs
 have fin : ∀ {σ' : St} {H' : Hp} {v : V} {u : Value},Inv (ze7 CX P w K mg base N qual scope f cdv A outer s H E) [] σ' H' s'→RelV v u→Q v H'→CE outer P w H s Q u s' :=
  fun {σ' H' v u} J rv q=>⟨v,H',J.os,J.bare,J.base,J.hok,rv,q⟩
 cases fl with
 | ret u =>
  obtain ⟨v,σ',H',J,rv,q⟩:=hs
  exact fin J rv q
 | next =>
  obtain ⟨σ',H',J,q⟩:=hs
  exact fin (v:=V.non) (u:=Value.none) J rfl q
 | brk =>
  obtain ⟨_,_,_,q⟩:=hs
  exact False.elim q
 | cont =>
  obtain ⟨_,_,_,q⟩:=hs
  exact False.elim q
end L2
namespace L2
open PySem PySem.Spec PyProof.Rows
section
variable {X : Cx} {x : Str} {p pos : Pos} {e : Expr} {es : List Expr} {t : TA} {id T : String} {r : List V→Hp→VK→Prop}
def tCB (r : List V→Hp→VK→Prop) (t : TA) : TE:=fun σ H Q=>t σ H fun vs H1=>r vs H1 Q
theorem zps (hc : zaA X (.builtin id) r) (hg : Gl X x) (hm : X.mg x = none) (hv : bootBuiltins x = some (.builtin id)) (ha : PA X (e :: es) t) (hn : x ≠ "__name__":=by decide) (hdb : (x == ("__debug__" : Str)) = false:=by decide)
  (he : starEach (e :: es) X.env = (false,eval e X.env) :: starEach es X.env:=by rfl) (hpl : (backTo pos (starEach es X.env)).any (·.1) = false:=by rfl) : PE X (.Call (.Name x p) (e :: es) [] pos) (tCB r t):=by
 intro pins s σ H Q I h
 refine wpAny_Call_Name_kw (zdF I hg hm hv ?_ hn hdb)
 exact PyProof.Rows.callWith_builtin1 (thn (ha pos pins s σ H _ I h) fun us s1 ⟨vs,H1,I1,r1,q1⟩=>hc pins s1 σ H1 vs us Q I1 r1 q1) he hpl
theorem znJ (hc : zaA X (.type T) r) (hg : Gl X x) (hm : X.mg x = none) (hv : bootBuiltins x = some (.type T)) (ha : PA X (e :: es) t) (hn : x ≠ "__name__":=by decide) (hdb : (x == ("__debug__" : Str)) = false:=by decide)
  (he : starEach (e :: es) X.env = (false,eval e X.env) :: starEach es X.env:=by rfl) (hpl : (backTo pos (starEach es X.env)).any (·.1) = false:=by rfl) : PE X (.Call (.Name x p) (e :: es) [] pos) (tCB r t):=by
 intro pins s σ H Q I h
 refine wpAny_Call_Name_kw (zdF I hg hm hv ?_ hn hdb)
 exact PyProof.Rows.callWith_type1 (thn (ha pos pins s σ H _ I h) fun us s1 ⟨vs,H1,I1,r1,q1⟩=>hc pins s1 σ H1 vs us Q I1 r1 q1) he hpl
end
end L2
namespace HT
open PySem PyProof.Rows
section
open PySem.SeqAt
open PySem.AutoSeq1 (wpAny_loadPart')
open PySem.MeetsSeq PySem.MeetsSeq2 PySem.MeetsSeq3
end
section
variable {prog : Program} {w : World} {A : Around} {E : Value→Shared→Prop} {s : Shared}
theorem zqt {t b : Addr} {vs ws : List Value} {Q : Value→Shared→Prop} (ht : IsTup s.heap t vs.toArray) (hb : IsTup s.heap b ws.toArray) (hv : vs ≠ [])
  (h1 : ws = []→Q (.ref t) s) (h2 : ws ≠ []→Q (.ref s.heap.objs.size) { s with heap:=s.heap.push { cls:=.type "tuple",data:=.seq (vs ++ ws).toArray } })
  (hsz : vs.length + ws.length ≤ sizeLine) : wpAny (model prog w) A (binaryOp .Add (.ref t) (.ref b)) Q E s:=by
 obtain ⟨⟨cls,dd,data,sl⟩,ho,hc,n,hd⟩:=id ht
 obtain ⟨⟨cls2,dd2,data2,sl2⟩,ho2,hc2,n2,hd2⟩:=id hb
 simp only at hc hd hc2 hd2
 subst hc hd hc2 hd2
 have e : vs.toArray ++ ws.toArray = (vs ++ ws).toArray:=by simp
 by_cases hw : ws = []
 ·exact concat_meets ⟨_,ho,rfl⟩ ⟨_,ho2,rfl⟩ noFill_tuple_add seq_tuple_add PySem.F.slot_tuple_add PySem.F.entry_tuple_add (PySem.F.args_tuple_add_2 _ _)
   (tuple_addW1 t b vs.toArray ws.toArray n n2 dd dd2 sl sl2 (by simpa using hv) (by simp [hw])) ⟨ho,ho2,h1 hw⟩
 ·refine concat_meets ⟨_,ho,rfl⟩ ⟨_,ho2,rfl⟩ noFill_tuple_add seq_tuple_add PySem.F.slot_tuple_add PySem.F.entry_tuple_add (PySem.F.args_tuple_add_2 _ _)
   (tuple_addW2 t b vs.toArray ws.toArray n n2 dd dd2 sl sl2 (by simpa using hv) (by simpa using hw) (by rw [List.size_toArray,List.size_toArray]; exact hsz)) ⟨ho,ho2,?_⟩
  rw [e]
  exact h2 hw
def sIx (n d : Nat) : Option Int→Nat
 | none=>d
 | some v=>if v < 0 then (v + (n : Int)).toNat else min v.toNat n
theorem zsd (n d : Nat) (hd : d ≤ n) (o : Option Int) : sIx n d o ≤ n:=by
 cases o with
 | none=>exact hd
 | some v =>
  show (if v < 0 then (v + (n : Int)).toNat else min v.toNat n) ≤ n
  by_cases hv : v < 0
  ·rw [if_pos hv]; omega
  ·rw [if_neg hv]; exact Nat.min_le_right _ _
theorem zlA (v : Int) (n d : Nat) : (if v < 0 then max (v + (n : Int)) 0 else min v (n : Int)) = ((sIx n d (some v) : Nat) : Int):=by
 show (if v < 0 then max (v + (n : Int)) 0 else min v (n : Int)) = (((if v < 0 then (v + (n : Int)).toNat else min v.toNat n) : Nat) : Int)
 by_cases hv : v < 0
 ·simp only [if_pos hv]; omega
 ·simp only [if_neg hv]; omega
theorem zmw (lo hi : Option Int) (n : Nat) : Builtin.Slice.sliceAdjust lo hi 1 (n : Int) = (((sIx n 0 lo : Nat) : Int),((sIx n n hi : Nat) : Int)):=by
 have h1 : ¬ ((1 : Int) < 0):=by omega
 unfold Builtin.Slice.sliceAdjust
 simp only [h1,if_false]
 refine Prod.ext ?_ ?_
 ·cases lo with
  | none=>rfl
  | some v=>exact zlA v n 0
 ·cases hi with
  | none=>rfl
  | some v=>exact zlA v n n
theorem zmL (i j : Nat) : Builtin.Slice.slicePlaces (i : Int) (j : Int) 1 = j - i:=by
  unfold Builtin.Slice.slicePlaces
  have h1 : (1 : Int) > 0:=by omega
  simp only [h1,if_true,Int.ediv_one]
  split <;> omega
theorem zio {v : Value} {o : Option Int} {Q : Option Int→Shared→Prop} (p : IsPart v o) (h : Q o s) : wpAny (model prog w) A (Builtin.Slice.slicePartIndex v) Q E s:=by
 cases p with
 | none=>exact slicePart_none h
 | int i t=>exact slicePart_int h
theorem zey {sl : Addr} {vl vu : Value} {lo hi : Option Int} {n : Nat} {Q : Int × Int × Nat→Shared→Prop} (hs : s.heap.IsSliceOf sl vl vu .none) (pl : IsPart vl lo) (pu : IsPart vu hi)
  (h : Q (((sIx n 0 lo : Nat) : Int),1,sIx n n hi - sIx n 0 lo) s) : wpAny (model prog w) A (Builtin.Slice.sliceApplied (.ref sl) (pure (n : Int))) Q E s:=by
 obtain ⟨os,hos,hcs,hds⟩:=id hs
 unfold Builtin.Slice.sliceApplied Builtin.Slice.sliceFields
 refine wpAny_bind (wpAny_bind (wpAny_field hos hds (x:=vl) rfl (wpAny_bind (wpAny_field hos hds (x:=vu) rfl (wpAny_bind (wpAny_field hos hds (x:=.none) rfl (wpAny_pure ?_)))))))
 refine wpAny_bind (slicePart_none ?_)
 show wpAny _ _ (if ((1 : Int) == 0) = true then _ else _) _ _ s
 rw [if_neg (by decide)]
 refine wpAny_bind (zio pl (wpAny_bind (zio pu (wpAny_bind (wpAny_pure ?_)))))
 show wpAny _ _ (match Builtin.Slice.sliceAdjust lo hi 1 (n : Int) with | (lo,hi)=>pure (lo,(1 : Int),Builtin.Slice.slicePlaces lo hi 1)) _ _ s
 rw [zmw lo hi n]
 show wpAny _ _ (pure (((sIx n 0 lo : Nat) : Int),(1 : Int),Builtin.Slice.slicePlaces ((sIx n 0 lo : Nat) : Int) ((sIx n n hi : Nat) : Int) 1)) _ _ s
 rw [zmL]
 exact wpAny_pure h
theorem zpA (xs : Array Value) (i k : Nat) : ((List.range k).filterMap fun (m : Nat)=>xs[((i : Int) + (m : Int) * 1).toNat]?).toArray = ((xs.toList.drop i).take k).toArray:=by
 have e : (fun (m : Nat)=>xs[((i : Int) + (m : Int) * 1).toNat]?) = fun m=>xs[i + m]?:=by
  funext m
  have : ((i : Int) + (m : Int) * 1).toNat = i + m:=by omega
  rw [this]
 rw [e]
 have:=pick_run xs i k
 rw [List.filterMap_map] at this
 have e2 : ((fun x=>xs[x]?) ∘ fun x=>i + x) = fun m=>xs[i + m]?:=rfl
 rw [e2] at this
 rw [this]
theorem zhq {t sl : Addr} {items : Array Value} {vl vu : Value} {lo hi : Option Int} {Q : Value→Shared→Prop} (ht : IsTup s.heap t items) (hs : s.heap.IsSliceOf sl vl vu .none) (pl : IsPart vl lo) (pu : IsPart vu hi)
  (hw : ¬ (sIx items.size 0 lo = 0∧sIx items.size items.size hi = items.size))
  (h : Q (.ref s.heap.objs.size) { s with heap:=s.heap.push { cls:=.type "tuple",data:=.seq ((items.toList.drop (sIx items.size 0 lo)).take (sIx items.size items.size hi - sIx items.size 0 lo)).toArray } })
  (hsz : items.size ≤ sizeLine) : wpAny (model prog w) A (getItem (.ref t) (.ref sl)) Q E s:=by
 have htake : sizeOk (.seq ((items.toList.drop (sIx items.size 0 lo)).take (sIx items.size items.size hi - sIx items.size 0 lo)).toArray):=by
  show ((items.toList.drop (sIx items.size 0 lo)).take (sIx items.size items.size hi - sIx items.size 0 lo)).toArray.size ≤ sizeLine
  rw [List.size_toArray,List.length_take,List.length_drop,Array.length_toList]
  omega
 have hj : sIx items.size items.size hi ≤ items.size:=zsd _ _ (Nat.le_refl _) hi
 obtain ⟨os,hos,hcs,hds⟩:=id hs
 have hTs : s.TypeIs (.ref sl) "slice":=⟨os,hos,hcs⟩
 unfold getItem
 try with_reducible refine wpAny_holding ?_
 first | refine wpAny_bind (wpAny_pure ?_) | skip
 refine wpAny_bind (wpAny_sequenceKey ht.typeIs (by decide) ?_)
 refine wpAny_bind (wpAny_callSpecial?_slot (name:=Str.ofString "__getitem__") ht.typeIs PyProof.Rows.slot_tuple_getitem
  (wpAny_call_entry PyProof.Rows.slot_tuple_getitem ht.typeIs entry_tuple_getitem ?_ (args_tuple_getitem _ _)))
 show wpAny _ _ (Builtin.Tuple.tupleItemsOf (.ref t) >>= _) _ _ s
 refine wpAny_bind (tupleItemsOf_ ht ?_)
 refine wpAny_bind (wpAny_typeOf hTs ?_)
 rw [if_pos (by decide)]
 refine wpAny_bind (zey hs pl pu ?_)
 have hno : ¬ ((((sIx items.size 0 lo : Nat) : Int) == 0 && (1 : Int) == 1 && (sIx items.size items.size hi - sIx items.size 0 lo) == items.size) = true):=by
  intro q
  rw [Bool.and_eq_true,Bool.and_eq_true] at q
  have q1 : ((sIx items.size 0 lo : Nat) : Int) = 0:=eq_of_beq q.1.1
  have q2 : sIx items.size items.size hi - sIx items.size 0 lo = items.size:=eq_of_beq q.2
  exact hw ⟨by omega,by omega⟩
 show wpAny _ _ (if (((sIx items.size 0 lo : Nat) : Int) == 0 && (1 : Int) == 1 && (sIx items.size items.size hi - sIx items.size 0 lo) == items.size) = true then _ else _) _ _ s
 rw [if_neg hno,zpA]
 first
  | exact wpAny_bind (m:=Builtin.Tuple.tupleExact _) (wpAny_newObj_type (wpAny_pure ⟨_,rfl,wpAny_pure h⟩) htake)
  | exact wpAny_bind (m:=Builtin.Tuple.tupleExact _) (wpAny_newObj_type (wpAny_bind (wpAny_pure (wpAny_pure ⟨_,rfl,wpAny_pure h⟩))) htake)
  | exact wpAny_bind (wpAny_bind (m:=Builtin.Tuple.tupleExact _) (wpAny_newObj_type (wpAny_pure (wpAny_pure ⟨_,rfl,wpAny_pure h⟩)) htake))
  | exact wpAny_bind (wpAny_bind (m:=Builtin.Tuple.tupleExact _) (wpAny_newObj_type (wpAny_pure ⟨_,rfl,wpAny_pure h⟩) htake))
end
end HT
namespace L2
open PySem PySem.Spec PyProof.Rows
abbrev TO:=St→Hp→(Option Int→Hp→Prop)→Prop
def PO (X : Cx) (e : Option Expr) (t : TO) : Prop :=
 ∀ (pins : List (Addr × Obj)) (s : Shared) (σ : St) (H : Hp) (Q : Option Int→Hp→Prop),Inv X pins σ H s→t σ H Q →
  wpAny (model X.prog X.w) X.A (evalPart e X.env) (fun u s'=>∃ o H',Inv X pins σ H' s'∧IsPart u o∧Q o H') X.xe s
def zqZ : TO:=fun _ H Q=>Q none H
def zuh (t : TE) : TO:=fun σ H Q=>t σ H fun x H1=>∃ i,x = .int i∧Q (some i) H1
section
variable {X : Cx} {e : Expr} {te : TE} {lo hi : Option Expr} {tl th : TO} {pos p2 : Pos}
theorem zqg : PO X none zqZ:=by
 intro pins s σ H Q I h
 rw [evalPart_none]
 exact wpAny_pure ⟨none,H,I,.none,h⟩
theorem zqX (h : PE X e te) : PO X (some e) (zuh te):=by
 intro pins s σ H Q I hw
 rw [evalPart_some]
 refine thn (h pins s σ H _ I hw) fun u s1 ⟨x,H1,I1,r1,q1⟩=>?_
 obtain ⟨i,rfl,q⟩:=q1
 obtain ⟨t,rfl⟩:=r1
 exact ⟨some i,H1,I1,.int i t,q⟩
def SlR (X : Cx) (r : V→Option Int→Option Int→Hp→VK→Prop) : Prop :=
 ∀ (pins : List (Addr × Obj)) (s : Shared) (σ : St) (H : Hp) (x : V) (v vl vu : Value) (lo hi : Option Int) (sl : Addr) (Q : VK),Inv X pins σ H s→RelV x v→s.heap.IsSliceOf sl vl vu .none→IsPart vl lo→IsPart vu hi→r x lo hi H Q →
  ∃ T id,typeLookup (.type T) "__getitem__" = pure (some (.builtin id))∧s.TypeIs v T∧wpAny (model X.prog X.w) X.A (getItem v (.ref sl)) (EP X pins σ Q) X.xe s
theorem SlR.or {r r' : V→Option Int→Option Int→Hp→VK→Prop} (h : SlR X r) (h' : SlR X r') : SlR X (fun x lo hi H Q=>r x lo hi H Q∨r' x lo hi H Q):=by
 intro pins s σ H x v vl vu lo hi sl Q I rx hs pl pu q
 rcases q with q | q
 ·exact h pins s σ H x v vl vu lo hi sl Q I rx hs pl pu q
 ·exact h' pins s σ H x v vl vu lo hi sl Q I rx hs pl pu q
def tSl (r : V→Option Int→Option Int→Hp→VK→Prop) (te : TE) (tl th : TO) : TE:=fun σ H Q=>te σ H fun x H1=>tl σ H1 fun l H2=>th σ H2 fun u H3=>r x l u H3 Q
theorem zpf {r : V→Option Int→Option Int→Hp→VK→Prop} (hr : SlR X r) (he : PE X e te) (hl : PO X lo tl) (hu : PO X hi th) : PE X (.Subscript e (.Slice lo hi none p2) pos) (tSl r te tl th):=by
 intro pins s σ H Q I h
 refine Subscript_ (thn (he pins s σ H _ I h) fun v s1 ⟨x,H1,I1,r1,q1⟩=>?_)
 refine wpAny_Slice (thn (hl pins s1 σ H1 _ I1 q1) fun vl s2 ⟨l,H2,I2,pl,q2⟩=>thn (hu pins s2 σ H2 _ I2 q2) fun vu s3 ⟨u,H3,I3,pu,q3⟩=>?_)
 rw [evalPart_none]
 refine wpAny_pure ?_
 have I4 : Inv X pins σ H3 { s3 with heap:=s3.heap.push { cls:=.type "slice",data:=.fields #[vl,vu,.none] } }:=I3.kept (t':=s3.toks) fun b ob q=>Heap.get?_push_of_some _ q
 obtain ⟨T,id,hT,ht,hg⟩:=hr pins { s3 with heap:=s3.heap.push { cls:=.type "slice",data:=.fields #[vl,vu,.none] } } σ H3 x v vl vu l u s3.heap.objs.size Q I4 r1 (Heap.IsSliceOf.new ..) pl pu q3
 show wpAny (model X.prog X.w) X.A (subscriptTail e (.Slice lo hi none p2) v (.ref s3.heap.objs.size)) (EP X pins σ Q) X.xe { s3 with heap:=s3.heap.push { cls:=.type "slice",data:=.fields #[vl,vu,.none] } }
 exact tail_any (ops:=[.ref s3.heap.objs.size,v]) ht hT hg (by with_unfolding_all rfl)
def zf0 (xs : List V) (lo hi : Option Int) : List V:=(xs.drop (HT.sIx xs.length 0 lo)).take (HT.sIx xs.length xs.length hi - HT.sIx xs.length 0 lo)
theorem zht (xs : List V) (lo hi : Option Int) : (zf0 xs lo hi).length ≤ xs.length:=by
 unfold zf0
 rw [List.length_take,List.length_drop]
 omega
def zva (K : PySem.W.Frag) : V→Option Int→Option Int→Hp→VK→Prop:=fun x lo hi H Q=>∃ a xs,x = .ref a∧SqT K H a xs ∧
 ¬ (HT.sIx xs.length 0 lo = 0∧HT.sIx xs.length xs.length hi = xs.length)∧∀ p,H p = none→Q (.ref p) (upd H p (.tup (zf0 xs lo hi)))
theorem zsQ : SlR X (zva X.K):=by
 intro pins s σ H x v vl vu lo hi sl Q I rx hs pl pu h
 obtain ⟨a,xs,rfl,hx,hw,q⟩:=h
 cases rx
 obtain ⟨its,r,ht,hz⟩:=I.tuple hx
 have hlen : its.toArray.size = xs.length:=by rw [List.size_toArray]; exact r.length.symm
 refine ⟨"tuple",_,PyProof.Rows.slot_tuple_getitem.lookup,ht.typeIs,?_⟩
 refine HT.zhq ht hs pl pu (by rw [hlen]; exact hw) ?_ (by rw [hlen]; exact hz)
 rw [hlen]
 refine ⟨.ref s.heap.objs.size,_,I.laid (t':=s.toks) (o:=.tup (zf0 xs lo hi)) (fun b ob q=>Heap.get?_push_of_some _ q) (Nat.le_refl _) ?_,rfl,q _ (I.hok.fresh (Nat.le_refl _))⟩
 exact ⟨Nat.le_trans (zht xs lo hi) hz,_,(r.drop (HT.sIx xs.length 0 lo)).take (HT.sIx xs.length xs.length hi - HT.sIx xs.length 0 lo),IsTup.new _ _⟩
def zur (K : PySem.W.Frag) : R2:=fun x y H Q=>∃ a b xs ys,x = .ref a∧y = .ref b∧SqT K H a xs∧SqT K H b ys∧xs ≠ []∧xs.length + ys.length ≤ sizeLine ∧
 (ys = []→Q (.ref a) H)∧(ys ≠ []→∀ p,H p = none→Q (.ref p) (upd H p (.tup (xs ++ ys))))
theorem Vals.nil_iff {xs : List V} {us : List Value} (r : Vals xs us) : us = [] ↔ xs = []:=by
 cases r with
 | nil=>simp
 | cons _ _=>simp
theorem zqp : OpR X (binaryOp .Add) (zur X.K):=by
 intro pins s σ H x y v u Q I rx ry h
 obtain ⟨a,b,xs,ys,rfl,rfl,ha,hb,hx,hz,q1,q2⟩:=h
 cases rx
 cases ry
 obtain ⟨its,r1,p1,_⟩:=I.tuple ha
 obtain ⟨its2,r2,p2,_⟩:=I.tuple hb
 refine HT.zqt p1 p2 (fun z=>hx (r1.nil_iff.mp z)) (fun z=>⟨.ref a,H,I,rfl,q1 (r2.nil_iff.mp z)⟩) (fun z=>?_) (by rw [← r1.length,← r2.length]; exact hz)
 refine ⟨.ref s.heap.objs.size,_,I.laid (t':=s.toks) (o:=.tup (xs ++ ys)) (fun b ob q=>Heap.get?_push_of_some _ q) (Nat.le_refl _) ?_,rfl,q2 (fun w=>z (r2.nil_iff.mpr w)) _ (I.hok.fresh (Nat.le_refl _))⟩
 exact ⟨by rw [List.length_append]; exact hz,_,r1.append r2,IsTup.new _ _⟩
end
end L2
namespace L2
open PySem PySem.Spec PyProof.Rows
def ixN (n : Nat) (i : Int) : Option Nat:=if 0 ≤ i then (if i < n then some i.toNat else none) else if -(n : Int) ≤ i then some (i + n).toNat else none
def atI {α : Type} (xs : List α) (i : Int) : Option α:=(ixN xs.length i).bind fun j=>xs[j]?
theorem zlW {n : Nat} {i : Int} {j : Nat} (h : ixN n i = some j) : seqIndex? i n = some j∧j < n∧-(n : Int) ≤ i∧i < n:=by
 unfold ixN at h
 by_cases h0 : 0 ≤ i
 ·rw [if_pos h0] at h
  by_cases h1 : i < n
  ·rw [if_pos h1] at h
   have e : i.toNat = j:=Option.some.inj h
   exact ⟨by rw [seqIndex_of h0 h1,e],by omega,by omega,h1⟩
  ·rw [if_neg h1] at h; cases h
 ·rw [if_neg h0] at h
  by_cases h1 : -(n : Int) ≤ i
  ·rw [if_pos h1] at h
   have e : (i + n).toNat = j:=Option.some.inj h
   exact ⟨by rw [seqIndex_neg (by omega) h1,e],by omega,h1,by omega⟩
  ·rw [if_neg h1] at h; cases h
theorem ziN {α : Type} {xs : List α} {i : Int} {v : α} (h : atI xs i = some v) : ∃ j,seqIndex? i xs.length = some j∧xs[j]? = some v∧j < xs.length∧-(xs.length : Int) ≤ i∧i < xs.length:=by
 unfold atI at h
 cases e : ixN xs.length i with
 | none=>rw [e] at h; cases h
 | some j =>
  rw [e] at h
  obtain ⟨h1,h2,h3,h4⟩:=zlW e
  exact ⟨j,h1,h,h2,h3,h4⟩
def zlK (b : Expr) : Prop:=∀ o i,subscripted b false o i = operate [o,i] (getItem o i)
def IxR (X : Cx) (r : R2) : Prop :=
 ∀ (value slice : Expr) (pins : List (Addr × Obj)) (s : Shared) (σ : St) (H : Hp) (x y : V) (v u : Value) (Q : VK),Inv X pins σ H s→RelV x v→RelV y u→r x y H Q →
  subscripted slice false v u = operate [v,u] (getItem v u)→wpAny (model X.prog X.w) X.A (subscriptTail value slice v u) (EP X pins σ Q) X.xe s
def MtR (X : Cx) (id : String) (r : V→List V→Hp→VK→Prop) : Prop :=
 ∀ (pins : List (Addr × Obj)) (s : Shared) (σ : St) (H : Hp) (x : V) (xs : List V) (v : Value) (us : List Value) (Q : VK),Inv X pins σ H s→RelV x v→Vals xs us→r x xs H Q →
  wpAny (model X.prog X.w) X.A (call (.builtin id) (v :: us)) (EP X pins σ Q) X.xe s
section
variable {X : Cx} {a b : Expr} {ta tb : TE} {pos : Pos}
theorem IxR.or {r r' : R2} (h : IxR X r) (h' : IxR X r') : IxR X (fun x y H Q=>r x y H Q∨r' x y H Q):=by
 intro value slice pins s σ H x y v u Q I rx ry q hs
 rcases q with q | q
 ·exact h value slice pins s σ H x y v u Q I rx ry q hs
 ·exact h' value slice pins s σ H x y v u Q I rx ry q hs
theorem ztN {r : R2} (hr : IxR X r) (ha : PE X a ta) (hb : PE X b tb) (hs : zlK b) : PE X (.Subscript a b pos) (tOp r ta tb):=by
 intro pins s σ H Q I h
 exact Subscript_ (zpc ha hb I h fun v u s2 x y H2 I2 rx ry q=>hr a b pins s2 σ H2 x y v u Q I2 rx ry q (hs _ _))
def zvp (K : PySem.W.Frag) : R2:=fun x y H Q=>∃ p xs i v,x = .ref p∧y = .int i∧SqL K H p xs∧atI xs i = some v∧Q v H
def zu9 (K : PySem.W.Frag) : R2:=fun x y H Q=>∃ p xs i v,x = .ref p∧y = .int i∧SqT K H p xs∧atI xs i = some v∧Q v H
def zu7 : R2:=fun x y H Q=>∃ z i c,x = .str z∧y = .int i∧z.length ≤ sizeLine∧atI z.cps.toList i = some c∧Q (.str ⟨#[c]⟩) H
theorem zqA : IxR X (zvp X.K):=by
  intro value slice pins s σ H x y v u Q I rx ry h hs
  obtain ⟨p,xs,i,z,rfl,rfl,hq,he,q⟩:=h
  cases rx
  obtain ⟨t,rfl⟩:=ry
  obtain ⟨its,r,pl,hz⟩:=I.list hq
  obtain ⟨j,h1,h2,h3,h4,h5⟩:=ziN he
  obtain ⟨w,ew,rw'⟩:=r.get h2
  have hl:=r.length
  have hn:=zft
  have fin : EP X pins σ Q w s:=⟨z,H,I,rw',q⟩
  by_cases h0 : 0 ≤ i
  · have hj : i.toNat = j := by
      rw [seqIndex_of h0 h5] at h1
      exact Option.some.inj h1
    exact item_listR pl.isList h0 (by omega) (by rw [hj]; simpa using ew) fin hs
  · have hj : (i + (its.toArray.size : Int)).toNat = j := by
      rw [seqIndex_neg (by omega) h4] at h1
      rw [List.size_toArray,← hl]
      exact Option.some.inj h1
    exact subscriptTail_builtinR (x:=w) pl.isList.typeIs slot_list_getitem.lookup
      (wpAny_getItem_list_neg (Q:=fun r s'=>r = w∧EP X pins σ Q r s') pl.isList (by omega) (by rw [List.size_toArray] <;> omega) (by omega) (by rw [hj]; simpa using ew) ⟨rfl,fin⟩) hs
theorem zrP : IxR X (zu9 X.K):=by
 intro value slice pins s σ H x y v u Q I rx ry h hs
 obtain ⟨p,xs,i,z,rfl,rfl,hq,he,q⟩:=h
 cases rx
 obtain ⟨t,rfl⟩:=ry
 obtain ⟨its,r,pl,hz⟩:=I.tuple hq
 obtain ⟨j,h1,h2,h3,h4,h5⟩:=ziN he
 obtain ⟨w,ew,rw'⟩:=r.get h2
 have hl:=r.length
 have hn:=zft
 have fin : EP X pins σ Q w s:=⟨z,H,I,rw',q⟩
 exact subscriptTail_builtinR (x:=w) pl.typeIs slot_tuple_getitem.lookup
  (getItem_tuple (j:=j) (Q:=fun r s'=>r = w∧EP X pins σ Q r s') pl (by omega) (by omega) (by rw [List.size_toArray,← hl]; exact h1) (by simpa using ew) ⟨rfl,fin⟩) hs
theorem zsl : IxR X zu7:=by
 intro value slice pins s σ H x y v u Q I rx ry h hs
 obtain ⟨z,i,c,rfl,rfl,hz,he,q⟩:=h
 obtain ⟨t,rfl⟩:=rx
 obtain ⟨t',rfl⟩:=ry
 obtain ⟨j,h1,h2,h3,h4,h5⟩:=ziN he
 have hl : z.cps.toList.length = z.length:=by simp [Str.length]
 rw [hl] at h1 h4 h5
 have hn:=zft
 exact tail_any (typeIs_str s z t) slot_str_getitem.lookup (getItem_str (c:=c) (by
  have e1 : decide (i < -(2 ^ 63 : Int)) = false:=decide_eq_false (by omega)
  have e2 : decide (i ≥ 2 ^ 63) = false:=decide_eq_false (by omega)
  rw [e1,e2,Bool.or_false]) (by rw [h1]; simpa using h2) ⟨.str ⟨#[c]⟩,H,I.tok _,⟨_,rfl⟩,q⟩) hs
theorem zmk (its : List Value) (n j : Nat) (u : Value) : Obj.mapSeq (·.setIfInBounds j u) { cls:=.type "list",data:=.seq its.toArray n } = { cls:=.type "list",data:=.seq (its.set j u).toArray n }:=by
 simp [Obj.mapSeq]
theorem Inv.lst {pins : List (Addr × Obj)} {σ : St} {H : Hp} {s : Shared} {p : Addr} {xs : List V} (I : Inv X pins σ H s) (h : H p = some (.lst xs)) :
  ∃ (its : List Value) (n : Nat),Vals xs its∧s.heap.get? p = some { cls:=.type "list",data:=.seq its.toArray n }∧xs.length ≤ sizeLine:=by
 obtain ⟨z,its,n,r,e⟩:=I.hok p _ h
 exact ⟨its,n,r,e,z⟩
theorem Inv.lstUpd {pins : List (Addr × Obj)} {σ : St} {H : Hp} {s : Shared} {p : Addr} {xs ys : List V} {its its' : List Value} {n n' : Nat} {f : Obj → Obj} (I : Inv X pins σ H s) (h : H p = some (.lst xs))
    (ho : s.heap.get? p = some { cls:=.type "list",data:=.seq its.toArray n }) (hf : f { cls:=.type "list",data:=.seq its.toArray n } = { cls:=.type "list",data:=.seq its'.toArray n' }) (r : Vals ys its') (hz : ys.length ≤ sizeLine) (t : Nat) :
    Inv X pins σ (upd H p (.lst ys)) { s with heap:=s.heap.update p f,toks:=t }:=by
  have e : (s.heap.update p f).get? p = some { cls:=.type "list",data:=.seq its'.toArray n' }:=by
    rw [Heap.get?_update_self f ho (by rw [hf] <;> rfl),hf]
  refine I.write (x:=p) (e:=p) (by rw [h]; trivial) (.inl rfl) (fun b u hb q=>(Heap.get?_update_other _ _ (Ne.symm hb)).trans q) ⟨_,e⟩ ?_
  exact ⟨hz,its',n',r,e⟩
def ztH : V→V→V→Hp→(Hp→Prop)→Prop:=fun o i v H Q=>∃ p xs k j,o = .ref p∧i = .int k∧H p = some (.lst xs)∧ixN xs.length k = some j∧Q (upd H p (.lst (xs.set j v)))
theorem set_list : zrv X ztH:=by
 intro pins s σ H o i v ov iv u Q I ro ri rv h
 obtain ⟨p,xs,k,j,rfl,rfl,hp,hj,q⟩:=h
 cases ro
 obtain ⟨t,rfl⟩:=ri
 obtain ⟨its,n,r,ho,hz⟩:=I.lst hp
 obtain ⟨h1,h2,h3,h4⟩:=zlW hj
 have hl:=r.length
 have hn:=zft
 have I' : Inv X pins σ (upd H p (.lst (xs.set j v))) { s with heap:=s.heap.update p (Obj.mapSeq (·.setIfInBounds j u)) } :=
  I.lstUpd hp ho (zmk its n j u) (r.set rv j) (by rw [List.length_set]; exact hz) s.toks
 by_cases h0 : 0 ≤ k
 ·have hk : k.toNat = j:=by
   rw [seqIndex_of h0 h4] at h1
   exact Option.some.inj h1
  exact PySem.W.ki_setAt ho h0 (by omega) (by rw [List.size_toArray,← hl]; exact h4) (by rw [hk]; exact ⟨_,I',q⟩)
 ·have hk : (k + (its.toArray.size : Int)).toNat = j:=by
   rw [seqIndex_neg (by omega) h3] at h1
   rw [List.size_toArray,← hl]
   exact Option.some.inj h1
  exact PySem.W.ki_setBack ho (by omega) (by rw [List.size_toArray,← hl]; exact h3) (by omega) (by rw [hk]; exact ⟨_,I',q⟩)
theorem zkD (lo hi : Option Int) (n : Nat) : (sliceBounds lo hi none n).1 = ((HT.sIx n 0 lo : Nat) : Int)∧(sliceBounds lo hi none n).2.1 = ((HT.sIx n n hi : Nat) : Int)∧(sliceBounds lo hi none n).2.2 = 1:=by
  refine ⟨?_,?_,rfl⟩
  · cases lo with
    | none=>simp [sliceBounds,HT.sIx]
    | some i =>
      simp only [sliceBounds,HT.sIx,Option.getD_none,show (1 : Int) > 0 by decide,if_true]
      by_cases h : i < 0
      · simp only [h,if_true] <;> omega
      · simp only [h,if_false] <;> omega
  · cases hi with
    | none=>simp [sliceBounds,HT.sIx]
    | some i =>
      simp only [sliceBounds,HT.sIx,Option.getD_none,show (1 : Int) > 0 by decide,if_true]
      by_cases h : i < 0
      · simp only [h,if_true] <;> omega
      · simp only [h,if_false] <;> omega
theorem zjv (its : List Value) (lo hi : Option Int) : slicePick its.toArray lo hi none = ((its.drop (HT.sIx its.length 0 lo)).take (HT.sIx its.length its.length hi - HT.sIx its.length 0 lo)).toArray:=by
  obtain ⟨h1,h2,h3⟩:=zkD lo hi its.toArray.size
  unfold slicePick
  rw [h1,h2,h3]
  simp only [sliceRange_one,pick_run,List.size_toArray] <;> rfl
def zvu (K : PySem.W.Frag) : V→Option Int→Option Int→Hp→VK→Prop:=fun x lo hi H Q=>∃ a xs,x = .ref a∧SqL K H a xs∧∀ p,H p = none→Q (.ref p) (upd H p (.lst (zf0 xs lo hi)))
theorem zqK : SlR X (zvu X.K):=by
  intro pins s σ H x v vl vu lo hi sl Q I rx hs pl pu h
  obtain ⟨a,xs,rfl,hx,q⟩:=h
  cases rx
  obtain ⟨its,r,ht,hz⟩:=I.list hx
  have hlen:=r.length
  refine ⟨"list",_,slot_list_getitem.lookup,ht.isList.typeIs,?_⟩
  refine wpAny_getItem_list_slice ht.isList hs pl pu .none (by simp) ?_ (by rw [List.size_toArray] <;> omega)
  rw [zjv,← hlen]
  refine ⟨.ref s.heap.objs.size,_,I.laid (t':=s.toks) (o:=.lst (zf0 xs lo hi)) (fun b ob q=>Heap.get?_push_of_some _ q) (Nat.le_refl _) ?_,rfl,q _ (I.hok.fresh (Nat.le_refl _))⟩
  exact ⟨Nat.le_trans (zht xs lo hi) hz,_,0,(r.drop (HT.sIx xs.length 0 lo)).take (HT.sIx xs.length xs.length hi - HT.sIx xs.length 0 lo),Heap.get?_push_size _ rfl⟩
theorem zka : zaA X (.builtin "len") (fun xs H Q=>∃ p ys,xs = [.ref p]∧(SqL X.K H p ys∨SqT X.K H p ys)∧Q (.int ys.length) H):=by
  intro pins s σ H xs us Q I r h
  obtain ⟨p,ys,rfl,hq,q⟩:=h
  obtain ⟨u,rfl,rx⟩:=vals1 r
  cases rx
  have hn:=zft
  rcases hq with hq | hq
  · obtain ⟨its,r',pl,hz⟩:=I.list hq
    have hlen:=r'.length
    exact Calls.call_len_list pl.isList (by simp only [List.size_toArray] <;> omega) ⟨.int ys.length,H,I.tok _,⟨s.toks + 1,by rw [List.size_toArray,hlen]⟩,q⟩
  · obtain ⟨its,r',pl,hz⟩:=I.tuple hq
    have hlen:=r'.length
    exact len_tuple pl (by simp only [List.size_toArray] <;> omega) ⟨.int ys.length,H,I.tok _,⟨s.toks + 1,by rw [List.size_toArray,hlen]⟩,q⟩
theorem zkn : zaA X (.builtin "len") (fun xs H Q=>∃ z,xs = [.str z]∧z.length ≤ sizeLine∧Q (.int z.length) H):=by
 intro pins s σ H xs us Q I r h
 obtain ⟨z,rfl,hz,q⟩:=h
 obtain ⟨u,rfl,t,rfl⟩:=vals1 r
 have hn:=zft
 exact len_str (by omega) ⟨.int z.length,H,I.tok _,⟨_,rfl⟩,q⟩
theorem zaA.or {f : Value} {r r' : List V→Hp→VK→Prop} (h : zaA X f r) (h' : zaA X f r') : zaA X f (fun xs H Q=>r xs H Q∨r' xs H Q):=by
 intro pins s σ H xs us Q I rs q
 rcases q with q | q
 ·exact h pins s σ H xs us Q I rs q
 ·exact h' pins s σ H xs us Q I rs q
theorem zj0 : zaA X (.type "list") (fun xs H Q=>∃ p ys,xs = [.ref p]∧(SqL X.K H p ys∨SqT X.K H p ys)∧∀ l,H l = none→Q (.ref l) (upd H l (.lst ys))):=by
  intro pins s σ H xs us Q I r h
  obtain ⟨p,ys,rfl,hq,q⟩:=h
  obtain ⟨u,rfl,rx⟩:=vals1 r
  cases rx
  have fin : ∀ (its : List Value), Vals ys its → ys.length ≤ sizeLine → ∀ (h' : Heap) (c' : Nat), (∀ b o', s.heap.get? b = some o' → h'.get? b = some o') →
      h'.get? s.heap.objs.size = some { cls:=.type "list",dict:=none,data:=.seq its.toArray c',slots:=#[] }→EP X pins σ Q (.ref s.heap.objs.size) { s with heap:=h' }:=fun its r' hz h' c' kp e =>
    ⟨.ref s.heap.objs.size,_,I.laid (t':=s.toks) kp (Nat.le_refl _) (show za0 X.prog X.w _ h' _ (.lst ys) from ⟨hz,its,c',r',e⟩),rfl,q _ (I.hok.fresh (Nat.le_refl _))⟩
  rcases hq with hq | hq
  · obtain ⟨its,r',pl,hz⟩:=I.list hq
    have hlen:=r'.length
    obtain ⟨o,ho,hc,n,hd⟩:=pl.isList
    exact call_list_seq p (.inl rfl) ho hc hd (fun h' c' kp e=>fin its r' hz h' c' kp e) (by simp only [List.size_toArray] <;> omega)
  · obtain ⟨its,r',pl,hz⟩:=I.tuple hq
    have hlen:=r'.length
    obtain ⟨o,ho,hc,n,hd⟩:=pl
    exact call_list_seq p (.inr rfl) ho hc hd (fun h' c' kp e=>fin its r' hz h' c' kp e) (by simp only [List.size_toArray] <;> omega)
theorem zjy : zaA X (.type "tuple") (fun xs H Q=>∃ p ys,xs = [.ref p]∧((SqL X.K H p ys∧∀ l,H l = none→Q (.ref l) (upd H l (.tup ys)))∨(SqT X.K H p ys∧Q (.ref p) H))):=by
  intro pins s σ H xs us Q I r h
  obtain ⟨p,ys,rfl,h⟩:=h
  obtain ⟨u,rfl,rx⟩:=vals1 r
  cases rx
  rcases h with ⟨hq,q⟩ | ⟨hq,q⟩
  · obtain ⟨its,r',pl,hz⟩:=I.list hq
    have hlen:=r'.length
    refine call_tuple_list pl.isList (fun h' kp=>?_) (by simp only [List.size_toArray] <;> omega)
    have I1 : Inv X pins σ H { s with heap:=h' }:=I.kept (t':=s.toks) kp
    have I2 : Inv X pins σ (upd H h'.objs.size (.tup ys)) { s with heap:=h'.push { cls:=.type "tuple",data:=.seq its.toArray } } :=
      I1.laid (t':=s.toks) (fun b o e=>Heap.get?_push_of_some _ e) (Nat.le_refl _) (show za0 X.prog X.w _ _ _ (.tup ys) from ⟨hz,its,r',IsTup.new _ _⟩)
    exact ⟨.ref h'.objs.size,_,I2,rfl,q _ (I1.hok.fresh (Nat.le_refl _))⟩
  · obtain ⟨its,r',pl,hz⟩:=I.tuple hq
    exact call_tuple_same pl ⟨.ref p,H,I,rfl,q⟩
def tyV (K : PySem.W.Frag) (T : String) (x : V) (H : Hp) : Prop:=match x with
 | .str _=>T = "str"
 | .int _=>T = "int"
 | .ref p=>(T = "list"∧∃ xs,SqL K H p xs)∨(T = "tuple"∧∃ o,K.lookup p = some o∧o.cls = .type "tuple"∧o.dict = none) ∨
   (T = "dict"∧((∃ kvs,H p = some (.dK kvs))∨∃ kvs,H p = some (.dT kvs)))∨(T = "set"∧∃ S n,H p = some (.set S n))
 | _=>False
theorem zrQ {pins : List (Addr × Obj)} {σ : St} {H : Hp} {s : Shared} {T : String} {x : V} {v : Value} (I : Inv X pins σ H s) (r : RelV x v) (ty : tyV X.K T x H) :
  s.TypeIs v T∧∀ a,v = .ref a→∃ ob,s.heap.get? a = some ob∧ob.dict = none:=by
 cases x with
 | str z =>
  obtain ⟨t,rfl⟩:=r
  cases (show T = "str" from ty)
  exact ⟨typeIs_str s z t,fun _ e=>nomatch e⟩
 | int i =>
  obtain ⟨t,rfl⟩:=r
  cases (show T = "int" from ty)
  exact ⟨typeIs_int s i t,fun _ e=>nomatch e⟩
 | ref p =>
  cases r
  rcases ty with ⟨rfl,xs,hq⟩ | ⟨rfl,o,hk,hc,hd⟩ | ⟨rfl,hk⟩ | ⟨rfl,S,n,hk⟩
  ·obtain ⟨its,_,pl,_⟩:=I.list hq
   refine ⟨pl.isList.typeIs,fun a e=>?_⟩
   cases e
   obtain ⟨o,n,e,c,hd,_⟩:=pl
   exact ⟨o,e,hd⟩
  ·refine ⟨⟨o,I.kIn p o hk,hc⟩,fun a e=>?_⟩
   cases e
   exact ⟨o,I.kIn _ o hk,hd⟩
  ·have z : ∃ o,s.heap.get? p = some o∧o.ExactDict:=by
    rcases hk with ⟨kvs,hk⟩ | ⟨kvs,hk⟩
    ·obtain ⟨_,_,_,_,o,_,_,e,ex,_⟩:=I.hok p _ hk
     exact ⟨o,e,ex⟩
    ·obtain ⟨_,_,_,_,o,_,_,e,ex,_⟩:=I.hok p _ hk
     exact ⟨o,e,ex⟩
   obtain ⟨o,e,ex⟩:=z
   refine ⟨⟨o,e,ex.1⟩,fun a e2=>?_⟩
   cases e2
   exact ⟨o,e,ex.2.1⟩
  ·obtain ⟨o,_,_,_,e,ex,_⟩:=I.hok p _ hk
   refine ⟨⟨o,e,ex.1⟩,fun a e2=>?_⟩
   cases e2
   exact ⟨o,e,ex.2.1⟩
 | _=>exact False.elim ty
def tBM (K : PySem.W.Frag) (T : String) (r : V→List V→Hp→VK→Prop) (to : TE) (t : TA) : TE:=fun σ H Q=>to σ H fun x H1=>tyV K T x H1∧t σ H1 fun xs H2=>r x xs H2 Q
variable {o e : Expr} {es : List Expr} {to : TE} {t : TA} {name : Str} {apos cpos : Pos} {T id : String} {r : V→List V→Hp→VK→Prop}
theorem zt8 (pa : PlainAttrs T) (slot : Slot T name id) (hty : typeOf (.builtin id) = pure (.type "method_descriptor")) (hm : MtR X id r) (ho : PE X o to) (ha : PA X (e :: es) t)
    (hbase : attributeBase o name X.env (eval o X.env) = eval o X.env:=by rfl)
    (hfew : ((backTo cpos (starEach (e :: es) X.env)).all (fun x=>!x.1) && (backToKw cpos (keywordEach [] X.env)).all (fun x=>x.1.isSome)
      && decide ((e :: es).length + ([] : List Keyword).length + (if ([] : List Keyword).isEmpty then 0 else 1) < 30)) = true:=by rfl)
    (hline : (apos.endLine == cpos.line) = true:=by rfl) (hs : starEach (e :: es) X.env = (false,eval e X.env) :: starEach es X.env:=by rfl) (hplain : (backTo cpos (starEach es X.env)).any (·.1) = false:=by rfl) :
    PE X (.Call (.Attribute o name apos) (e :: es) [] cpos) (tBM X.K T r to t):=by
  intro pins s σ H Q I h
  refine wpAny_Call_method_late hbase hfew hline rfl (thn (ho pins s σ H _ I h) fun v s1 ⟨x,H1,I1,r1,ty,q1⟩=>?_)
  obtain ⟨h1,h2⟩:=zrQ I1 r1 ty
  refine ⟨T,id,pa,slot,hty,h1,h2,?_⟩
  have hA:=ha cpos pins s1 σ H1 _ I1 q1
  rw [hs] at hA ⊢
  refine Calls.callWith_builtin (by show (false || (backTo cpos (starEach es X.env)).any (·.1)) = false; rw [hplain] <;> rfl) (Calls.evalArgs_plain ?_)
  exact thn hA fun us s2 ⟨vs,H2,I2,r2,q2⟩=>hm pins s2 σ H2 x vs v us Q I2 r1 r2 q2
/- xs.append(e),list.index on a module's tuple .. are MtR facts of 06m -/
end
end L2
namespace L2
open PySem PySem.Spec PyProof.Rows
def MtM (X : Cx) (id : String) (r : V→List V→Hp→VK→Prop) : Prop :=
 ∀ (pins : List (Addr × Obj)) (s : Shared) (σ : St) (H : Hp) (x : V) (xs : List V) (v : Value) (us : List Value) (Q : VK),Inv X pins σ H s→RelV x v→Vals xs us→r x xs H Q →
  wpAny (model X.prog X.w) X.A (call (.builtin id) (v :: us)) (EP X pins σ Q) X.xe s
theorem Vals.one : ∀ {x : V} {us : List Value},Vals [x] us→∃ u,us = [u]∧RelV x u
 | _,_,.cons r .nil=>⟨_,rfl,r⟩
section
variable {X : Cx} {pins : List (Addr × Obj)} {σ : St} {H : Hp} {s : Shared} {l b : Addr} {xs ys zs : List V}
theorem Inv.lset {its its' : List Value} {n : Nat} {f : Array Value→Array Value} {t' : Nat} (I : Inv X pins σ H s) (hH : H l = some (.lst xs))
  (e : s.heap.get? l = some { cls:=.type "list",data:=.seq its.toArray n }) (hf : f its.toArray = its'.toArray) (hv : Vals ys its') (hz : ys.length ≤ sizeLine) :
  Inv X pins σ (upd H l (.lst ys)) { s with heap:=s.heap.update l (Obj.mapSeq f),toks:=t' }:=by
 have q:=PySem.IsL.update e f
 rw [hf] at q
 refine I.write (x:=l) (e:=l) (by rw [hH]; exact trivial) (.inl rfl) (fun b' u hb hu=>(Heap.get?_update_other s.heap (Obj.mapSeq f) (Ne.symm hb)).trans hu) ⟨_,q⟩ ?_
 exact ⟨hz,its',_,hv,q⟩
theorem Inv.lnew {its : List Value} {t' : Nat} (I : Inv X pins σ H s) (hv : Vals ys its) (hz : ys.length ≤ sizeLine) :
  Inv X pins σ (upd H s.heap.objs.size (.lst ys)) { s with heap:=s.heap.push { cls:=.type "list",data:=.seq its.toArray },toks:=t' } :=
 I.laid (fun _ _ q=>Heap.get?_push_of_some _ q) (Nat.le_refl _) ⟨hz,its,0,hv,Heap.get?_push_size _ rfl⟩
theorem Inv.fresh (I : Inv X pins σ H s) : H s.heap.objs.size = none:=I.hok.fresh (Nat.le_refl _)
theorem Inv.lstM (I : Inv X pins σ H s) (hH : H l = some (.lst xs)) : xs.length ≤ sizeLine∧∃ (its : List Value) (n : Nat),Vals xs its∧xs.length = its.length∧s.heap.get? l = some { cls:=.type "list",data:=.seq its.toArray n }:=by
 obtain ⟨z,its,n,r,e⟩:=I.hok l _ hH
 exact ⟨z,its,n,r,r.length,e⟩
theorem zks {n : Nat} (h : n ≤ sizeLine) : Builtin.List.listTooLong n = false:=by
 unfold Builtin.List.listTooLong
 exact decide_eq_false (by omega)
end
section
variable {X : Cx}
def zlG : V→List V→Hp→VK→Prop:=fun x vs H Q=>∃ l xs y,x = .ref l∧vs = [y]∧H l = some (.lst xs)∧xs.length < sizeLine∧Q .non (upd H l (.lst (xs ++ [y])))
theorem zjf : MtM X "list.append" zlG:=by
 intro pins s σ H x vs v us Q I rx rv h
 obtain ⟨l,xs,y,rfl,rfl,hH,hz,q⟩:=h
 cases rx
 obtain ⟨u,rfl,ru⟩:=rv.one
 obtain ⟨z,its,n,r,hl,e⟩:=I.lstM hH
 refine call_meets F.slot_list_append ⟨_,e,rfl⟩ F.entry_list_append (F.args_list_append_2 _ _) (PySem.list_append l its.toArray n u (by rw [List.size_toArray]; omega)) ⟨e,?_⟩
 refine ⟨.non,_,I.lset (its':=its ++ [u]) hH e (by simp) (r.append (.cons ru .nil)) ?_,rfl,q⟩
 rw [List.length_append,List.length_singleton]
 omega
def zlt : V→List V→Hp→VK→Prop:=fun x vs H Q=>∃ l b xs zs,x = .ref l∧vs = [.ref b]∧H l = some (.lst xs)∧H b = some (.lst zs)∧xs.length + zs.length ≤ sizeLine∧Q .non (upd H l (.lst (xs ++ zs)))
theorem znM : MtM X "list.extend" zlt:=by
 intro pins s σ H x vs v us Q I rx rv h
 obtain ⟨l,b,xs,zs,rfl,rfl,hH,hB,hz,q⟩:=h
 cases rx
 obtain ⟨u,rfl,ru⟩:=rv.one
 cases ru
 obtain ⟨z,its,n,r,hl,e⟩:=I.lstM hH
 obtain ⟨z2,its2,n2,r2,hl2,e2⟩:=I.lstM hB
 have hsz : its.toArray.size + its2.toArray.size ≤ sizeLine:=by rw [List.size_toArray,List.size_toArray]; omega
 have hlong : ¬ (!its.toArray.isEmpty && Builtin.List.listTooLong (its.toArray.size + its2.toArray.size)) = true:=by
  rw [zks hsz,Bool.and_false]
  exact Bool.false_ne_true
 refine call_meets F.slot_list_extend ⟨_,e,rfl⟩ F.entry_list_extend (F.args_list_extend_2 _ _)
  (AutoSeq1.list_extend_list_list_0 l its.toArray n b its2.toArray n2 hlong (by rw [List.size_toArray]; omega) (by omega)) ⟨e,e2,?_⟩
 refine ⟨.non,_,I.lset (its':=its ++ its2) hH e (by simp) (r.append r2) ?_,rfl,q⟩
 rw [List.length_append]
 omega
end
section
variable {prog : Program} {w : World} {A : Around} {E : Value→Shared→Prop} {s : Shared}
end
section
variable {X : Cx}
end
end L2
namespace Att
open PySem PySem.W PySem.Calls PyProof.Rows
theorem zic {P : Params} {h : Heap} : ∀ (ns : List Int) (vs : List Value),WellAll P h vs (ns.map WData.int)→IntsAre vs ns:=by
 intro ns
 induction ns with
 | nil =>
  intro vs w
  rw [List.map_nil] at w
  cases w
  exact .nil
 | cons n ns ih =>
  intro vs w
  rw [List.map_cons] at w
  cases w with
  | cons a b =>
   cases a
   exact .cons _ _ (ih _ b)
theorem zm6 {l : OpenLaw} {n : Nat} (hn : l.most = some n) {P : Params} {h : Heap} {args : List WData} {vals : List Value}
  (hpre : l.row.toRowW.claim.pre args = true) (hwl : WellAll P h vals args) :
  ∃ a vs ns,vals = [Value.ref a]∧args = [WData.list (ns.map WData.int)]∧h.get? a = some { cls:=.type "list",data:=.seq vs.toArray }∧IntsAre vs ns∧ns.length ≤ n:=by
 have hsh : WShape.hasAll [] args [.list .int] = true:=(pre_splitW hpre).1
 have hc : l.pre.holds [] { args:=args } = true:=(pre_splitW hpre).2
 obtain ⟨d,r,rfl,h1,h2⟩:=hasAllW_cons hsh
 obtain rfl:=hasAllW_nil h2
 obtain ⟨xs,rfl,h3⟩:=hasW_list h1
 obtain ⟨ns,rfl⟩:=items_int h3
 have hlen : ns.length ≤ n:=by
  unfold OpenLaw.pre at hc
  have h4 : (WTm.not (.lt (.lit (.int (n : Int))) (.len (.arg 0)))).holds [] { args:=[.list (ns.map .int)] } = true:=by
   have h4:=(holds_andW hc).1
   rw [hn] at h4
   exact h4
  have h5:=condW_of h4 (w_not (w_lt w_lit (w_len_list (w_arg rfl))))
  rw [List.length_map] at h5
  refine Nat.le_of_not_lt fun q=>?_
  have q' : (n : Int) < ((ns.length : Nat) : Int):=by omega
  first
   | (rw [decide_eq_true q'] at h5; exact absurd h5 (by decide))
   | (simp at h5; omega)
 cases hwl with
 | cons w1 w2 =>
  cases w2
  cases w1 with
  | list ho hall=>exact ⟨_,_,ns,rfl,rfl,ho,zic ns _ hall,hlen⟩
theorem znl (l : OpenLaw) (args : List WData) : l.row.toRowW.claim.post args (.bool true) args = true :=
 postW_of (r:=l.row.toRowW) (X:=(true == true))
  (show WShape.has [] (.bool true) .bool = true by first | rfl | decide | simp [WShape.has,WShape.arms,WShape.armsAll])
  (show (WTm.eq .res (.lit (.bool true))).value [] { args:=args,res:=some (.bool true),after:=args } = some (.bool (true == true)) from w_eq_bool (w_res rfl) w_lit) rfl
section
variable {prog : Program} {w : World} {A : Around} {E : Value→Shared→Prop} {s : Shared} {K : Frag}
end
end Att
namespace L2
open PySem PySem.Spec PyProof.Rows
theorem zjl : ∀ {vs : List Value} {ns : List Int},IntsAre vs ns→Vals (ns.map V.int) vs
 | _,_,.nil=>.nil
 | _,_,.cons n t h=>.cons ⟨t,rfl⟩ (zjl h)
def Only (H : Hp) : Prop:=∀ b,H b = none∨∃ o xs,H b = some (.frz o (.lst xs))
theorem zoQ {P : Program} {w : World} {K : PySem.W.Frag} {mg mb : Str→Option Value} {CX : CXT} {k : Nat} {fa a : Addr} {fd : FuncData} {x : Str} {sp : Sp} {s₁ : Shared} {vs : List Value} {ns : List Int}
  (KX : K.In s₁.heap) (hns : s₁.heap.Ns mainGlobals mg) (hb : s₁.heap.Ns builtinsNs mb) (hbb : ∀ x : Str,x ≠ "__name__"→mb x = bootBuiltins x) (hlim : s₁.heap.NoLimit) (hg : s₁.gens = #[])
  (ha : s₁.heap.get? a = some { cls:=.type "list",data:=.seq vs.toArray }) (hi : IntsAre vs ns) (hl : ns.length ≤ sizeLine) (hr : zaI k callerA)
  (F : ∀ base : Heap,K.In base→base.Ns mainGlobals mg→zZ P w K mg base CX k fa fd [x] sp) (hbind : ∀ (s : Shared) (u : Value),BindsTo s fd ⟨[u],[]⟩ [(x,u)])
  (hsp : ∀ H : Hp,Only H→SqL K H a (ns.map V.int)→sp [.ref a] H (fun v _=>v = .bl true) fun _ _ _=>False)
  (hCX : ∀ H e s',CX [] H s₁ (fun _ _ _=>False) e s'→False) :
  codeAny (model P w) callerA (.call (.ref fa) ⟨[.ref a],[]⟩) (fun r s'=>r = .ok (.ret (.bool true))∧OldK s₁.heap s'.heap∧s'.os = s₁.os∧AllBare s'.gens) s₁:=by
 have rv:=zjl hi
 have lenV:=hi.length
 have core : ∀ H : Hp,Only H→SqL K H a (ns.map V.int)→HOk P w H s₁.heap→(∀ b,H b ≠ none→b = a)→(H a ≠ none→K.lookup a = none) →
   codeAny (model P w) callerA (.call (.ref fa) ⟨[.ref a],[]⟩) (fun r s'=>r = .ok (.ret (.bool true))∧OldK s₁.heap s'.heap∧s'.os = s₁.os∧AllBare s'.gens) s₁:=by
  intro H hO hS hok hA hK
  have base_of : ∀ {b : Addr} {o : Obj},s₁.heap.get? b = some o→H b = none→(zfS s₁.heap H).get? b = some o:=fun e n=>zpz e n
  have noA : ∀ {b : Addr} {o : Obj} {es : Array DictEntry} {ep : Nat},s₁.heap.get? b = some o→o.data = .dict es ep→H b = none:=fun {b o es ep} e d=>by
   cases q : H b with
   | none=>rfl
   | some u =>
    have e' : b = a:=hA b (by rw [q]; simp)
    subst e'
    rw [ha] at e; cases e
    have d' : Data.seq vs.toArray _ = Data.dict es ep:=d
    cases d'
  have nsK : ∀ {b : Addr} {m : Str→Option Value},s₁.heap.Ns b m→(zfS s₁.heap H).Ns b m:=fun {b m} ⟨o,es,ep,e,d,r⟩=>⟨o,es,ep,base_of e (noA e d),d,r⟩
  have hKb : K.In (zfS s₁.heap H):=fun b o e=>base_of (KX b o e) (by
   cases q : H b with
   | none=>rfl
   | some u =>
    have e' : b = a:=hA b (by rw [q]; simp)
    subst e'
    rw [hK (by rw [q]; simp)] at e; cases e)
  have hM : Mod K mg (zfS s₁.heap H):=⟨hKb,nsK hns,⟨mb,nsK hb,hbb⟩,let ⟨mc,h1,h2⟩:=hlim; ⟨mc,nsK h1,h2⟩⟩
  have e0 : zhS P w K mg (zfS s₁.heap H) callerA [] s₁ H:=⟨rfl,hM,fun b o e=>zri e,Nat.le_of_eq (znt _ _),trivial,fun b hb=>absurd (show b ∈ ([] : List Addr) from hb) (by simp),hok,.of_eq hg⟩
  refine codeAny_mono ((F _ hKb (nsK hns)).run callerA [] s₁ H ⟨[.ref a],[]⟩ [.ref a] [.ref a] _ _ hr e0 (hbind s₁ (.ref a)) (.cons rfl .nil) (hsp H hO hS)) fun r s' h=>?_
  cases r with
  | error e=>exact (hCX H e s' h).elim
  | ok fl =>
   cases fl with
   | next=>exact False.elim h
   | brk=>exact False.elim h
   | cont=>exact False.elim h
   | ret u =>
    obtain ⟨v,H',os,bare,un,hok',r',q⟩:=h
    have q' : v = .bl true:=q
    subst q'
    obtain rfl : u = Value.bool true:=r'
    refine ⟨rfl,OldK.of_keep fun b o e=>?_,os,bare⟩
    cases q : H b with
    | none=>exact un.keep b o e q (by intro z; exact absurd (show b ∈ ([] : List Addr) from z) (by simp)) (by simp)
    | some u =>
     rcases hO b with z | ⟨ob,xs,z⟩
     ·rw [q] at z; cases z
     ·have z2:=un.frzs b ob _ z
      obtain ⟨e1,_⟩:=hok b _ z
      obtain ⟨e2,_⟩:=hok' b _ z2
      rw [e] at e1; cases e1
      exact e2
 cases hk : K.lookup a with
 | some o =>
  have e:=KX a o hk
  rw [ha] at e
  cases e
  refine core (fun _=>none) (fun _=>.inl rfl) (.inr ⟨_,vs.toArray,_,hk,rfl,rfl,rfl,by rw [List.size_toArray,lenV]; exact hl,by simpa using rv⟩) (fun b u z=>by have z' : (none : Option HO) = some u:=z; cases z') (fun b z=>absurd rfl z) fun z=>absurd rfl z
 | none =>
  refine core (fun b=>if b = a then some (.frz { cls:=.type "list",data:=.seq vs.toArray } (.lst (ns.map V.int))) else none) (fun b=>?_) (.inl (.inr ⟨{ cls:=.type "list",data:=.seq vs.toArray },if_pos rfl⟩)) (fun b u z=>?_) (fun b z=>?_) fun _=>hk
  ·by_cases hb : b = a
   ·exact .inr ⟨_,_,if_pos hb⟩
   ·exact .inl (if_neg hb)
  ·by_cases hb : b = a
   ·have z':=(if_pos hb).symm.trans z
    cases z'
    subst hb
    exact ⟨ha,by rw [List.length_map]; exact hl,vs,_,rv,ha⟩
   ·have z':=(if_neg hb).symm.trans z
    cases z'
  ·by_cases hb : b = a
   ·exact hb
   ·exact absurd (if_neg hb) z
end L2
namespace L2
open PySem PySem.Spec PyProof.Rows
end L2
namespace L2
open PySem PySem.Spec PyProof.Rows
def inClass (s : Stmt) (j : Nat) : Stmt:=match s with
 | .ClassDef _ _ _ body _ _ _ _ _ _ _=>body.getD j (.Pass ⟨0,0,0,0⟩)
 | _=>.Pass ⟨0,0,0,0⟩
def zbp (s : Stmt) : Arguments:=match s with
 | .FunctionDef _ a _ _ _ _ _ _ _ _=>a
 | _=>{ posonlyargs:=[],args:=[],vararg:=none,kwonlyargs:=[],kw_defaults:=[],kwarg:=none,defaults:=[] }
def zaY (s : Stmt) : List Stmt:=match s with
 | .FunctionDef _ _ b _ _ _ _ _ _ _=>b
 | _=>[]
def zJ (s : Stmt) : Scope:=match s with
 | .FunctionDef _ _ _ _ _ _ sc _ _ _=>sc
 | _=>{ kind:=.function,names:=[],isGenerator:=false,isCoroutine:=false }
abbrev CX0 : CXT:=fun _ _ _ _ _ _=>False
abbrev E0 : XK:=fun _ _ _=>False
theorem zpX {X : Cx} : Passes CX0 X E0:=fun _ _ _ _ _ _ _ h=>h.elim
structure Fun (K : PySem.W.Frag) (x qual : Str) (st : Stmt) (f : Addr) (fd : FuncData) : Prop where
 ex : ∃ (oc : Value) (od : Option Addr) (kV doc pm : Value) (an : Option Addr) (cdv ct : Value) (osl : Array (Option Value)),
  fd = PySem.W.fnOf x qual (zbp st) (zaY st) (zJ st) .none kV doc pm an cdv ct∧K.lookup f = some ⟨oc,od,.func fd,osl⟩∧PySem.W.codeIn K cdv qual = true
 kp : PySem.W.keepIn K (.ref f) = true
section
variable {P : Program} {w : World} {K : PySem.W.Frag} {mg : Str→Option Value} {base : Heap}
theorem Fun.ok {x qual : Str} {st : Stmt} {f : Addr} {fd : FuncData} {N ps : List Str} {k : Nat} {sp : Sp} (F : Fun K x qual st f fd) (S : zO N ps (zJ st)) (len : ∀ vs H Q E,sp vs H Q E→vs.length = ps.length)
  (hbody : ∀ (cdv : Value) (A : Around) (outer : List Env) (s : Shared) (H : Hp) (vs : List V) (Q : VK) (E : XK),zaI k (A.deeper (envOfC qual (zJ st) s.heap.objs.size f cdv))→sp vs H Q E →
   ∃ t,PSs (ze7 CX0 P w K mg base N qual (zJ st) f cdv A outer s H E).nox (zaY st) t∧t { nx:=fun _ H'=>Q .non H',rt:=Q } (start N vs) H) : zZ P w K mg base CX0 (k + 1) f fd ps sp:=by
 obtain ⟨oc,od,kV,doc,pm,an,cdv,ct,osl,rfl,lk,hcd⟩:=F.ex
 refine zp2 lk hcd S len fun A outer s H vs Q E hr hsp=>?_
 obtain ⟨t,h,q⟩:=hbody cdv A outer s H vs Q E hr hsp
 exact ⟨t,h.nox,q⟩
theorem Fun.binds {x qual : Str} {st : Stmt} {f : Addr} {fd : FuncData} {ps : List Str} (F : Fun K x qual st f fd)
  (h : ∀ (kV doc pm : Value) (an : Option Addr) (cdv ct : Value) (us : List Value),us.length = ps.length→bindArgs (PySem.W.fnOf x qual (zbp st) (zaY st) (zJ st) .none kV doc pm an cdv ct) ⟨us,[]⟩ = pure (ps.zip us)) : Binds K fd ps []:=by
 obtain ⟨oc,od,kV,doc,pm,an,cdv,ct,osl,rfl,lk,hcd⟩:=F.ex
 exact .all (h kV doc pm an cdv ct)
theorem zis {x qual : Str} {st : Stmt} {f : Addr} {oc : Value} {od an : Option Addr} {osl : Array (Option Value)} {kV doc pm cdv ct : Value} (l : K.lookup f = some ⟨oc,od,.func (PySem.W.fnOf x qual (zbp st) (zaY st) (zJ st) .none kV doc pm an cdv ct),osl⟩)
  (c : PySem.W.codeIn K cdv qual = true) (k : PySem.W.keepIn K (.ref f) = true) : Fun K x qual st f (PySem.W.fnOf x qual (zbp st) (zaY st) (zJ st) .none kV doc pm an cdv ct):=⟨⟨oc,od,kV,doc,pm,an,cdv,ct,osl,rfl,l,c⟩,k⟩
end
section
variable {X : Cx}
end
end L2
namespace My
def Bd (n : Nat) (x : Int) : Prop:=x.natAbs < 2 ^ n
theorem Bd.mono {m n : Nat} {x : Int} (h : Bd m x) (hmn : m ≤ n) : Bd n x:=Nat.lt_of_lt_of_le h (Nat.pow_le_pow_right (by decide) hmn)
theorem Bd.add {n : Nat} {x y : Int} (h : Bd n x) (h' : Bd n y) : Bd (n + 1) (x + y):=by
 unfold Bd at *; rw [Nat.pow_succ]; omega
theorem Bd.sub {n : Nat} {x y : Int} (h : Bd n x) (h' : Bd n y) : Bd (n + 1) (x - y):=by
 unfold Bd at *; rw [Nat.pow_succ]; omega
theorem Bd.neg {n : Nat} {x : Int} (h : Bd n x) : Bd n (-x):=by unfold Bd at *; omega
theorem Bd.mul {m n : Nat} {x y : Int} (h : Bd m x) (h' : Bd n y) : Bd (m + n) (x * y):=by
 unfold Bd at *; rw [Int.natAbs_mul,Nat.pow_add]; exact Nat.mul_lt_mul'' h h'
theorem Bd.of_le {n : Nat} {x y : Int} (h : Bd n y) (h' : x.natAbs ≤ y.natAbs) : Bd n x:=Nat.lt_of_le_of_lt h' h
theorem Bd.dvd {n : Nat} {x y : Int} (h : Bd n y) (h0 : y ≠ 0) (d : x ∣ y) : Bd n x :=
 h.of_le (Nat.le_of_dvd (by omega) (Int.natAbs_dvd_natAbs.mpr d))
theorem Bd.fdiv {n : Nat} {x y : Int} (h : Bd n x) : Bd n (x.fdiv y):=h.of_le (Int.natAbs_fdiv_le_natAbs x y)
theorem Bd.lit {n : Nat} {x : Int} (h : x.natAbs < 2 ^ 200) (hn : 200 ≤ n) : Bd n x:=Bd.mono (m:=200) h hn
theorem Bd.emod {n : Nat} {x m : Int} (h0 : 0 < m) (h : Bd n m) : Bd n (x % m):=by
 have h1:=Int.emod_nonneg x (Int.ne_of_gt h0)
 have h2:=Int.emod_lt_of_pos x h0
 exact h.of_le (by omega)
theorem zo5 (a b : Int) : Int.gcd b (a.fmod b) = Int.gcd a b:=by
 have e : a.fmod b = a - b * a.fdiv b:=by have:=Int.mul_fdiv_add_fmod a b; omega
 rw [e,Int.gcd_sub_mul_left_right,Int.gcd_comm]
theorem zld {a b : Int} (h : b ≠ 0) : (a.fmod b).natAbs < b.natAbs:=by
 rcases Int.lt_or_gt_of_ne h with h1 | h1
 ·have e : (-(-a)).fmod (-(-b)) = -((-a).fmod (-b)):=Int.neg_fmod_neg (-a) (-b)
  rw [Int.neg_neg,Int.neg_neg] at e
  have h2:=Int.fmod_nonneg_of_pos (-a) (b:=-b) (by omega)
  have h3:=Int.fmod_lt_of_pos (-a) (b:=-b) (by omega)
  omega
 ·have:=Int.fmod_nonneg_of_pos a h1
  have:=Int.fmod_lt_of_pos a h1
  omega
def gd (t b : Int) : Int:=if b < 0 then -((Int.gcd t b : Nat) : Int) else ((Int.gcd t b : Nat) : Int)
def frT (t b : Int) : Int:=t.fdiv (gd t b)
def frB (t b : Int) : Int:=b.fdiv (gd t b)
theorem zpY {t b : Int} (h : b ≠ 0) : gd t b ≠ 0:=by
  have : Int.gcd t b ≠ 0:=fun e=>h (Int.gcd_eq_zero_iff.mp e).2
  unfold gd; split <;> omega
theorem zk9 (t b : Int) : gd t b ∣ t:=by
 unfold gd; split
 ·exact Int.neg_dvd.mpr (Int.gcd_dvd_left ..)
 ·exact Int.gcd_dvd_left ..
theorem zgs (t b : Int) : gd t b ∣ b:=by
 unfold gd; split
 ·exact Int.neg_dvd.mpr (Int.gcd_dvd_right ..)
 ·exact Int.gcd_dvd_right ..
theorem zlu (t b : Int) : frT t b * gd t b = t:=Int.fdiv_mul_cancel (zk9 t b)
theorem zi6 (t b : Int) : frB t b * gd t b = b:=Int.fdiv_mul_cancel (zgs t b)
theorem zpb (t b : Int) : frT t b * b = frB t b * t:=by
 have h1:=zlu t b
 have h2:=zi6 t b
 generalize frT t b = x at *
 generalize frB t b = y at *
 generalize gd t b = g at *
 subst h1 h2
 rw [Int.mul_comm y g,← Int.mul_assoc,Int.mul_comm (x * g) y]
theorem zp6 {t b : Int} (h : b ≠ 0) : 1 ≤ frB t b:=by
  have h2:=zi6 t b
  have h3 : gd t b ≠ 0:=zpY h
  have h4 : 0 < b→0 < gd t b:=by
    intro hb; unfold gd at *; split <;> omega
  have h5 : b < 0→gd t b < 0:=by
    intro hb; unfold gd at *; split <;> omega
  generalize frB t b = y at *
  generalize gd t b = g at *
  rcases Int.lt_or_gt_of_ne h with hb | hb
  · have hg:=h5 hb
    rcases Int.lt_or_le y 1 with hy | hy
    · have : 0 ≤ y * g:=Int.mul_nonneg_of_nonpos_of_nonpos (by omega) (by omega)
      omega
    · exact hy
  · have hg:=h4 hb
    rcases Int.lt_or_le y 1 with hy | hy
    · have : y * g ≤ 0:=Int.mul_nonpos_of_nonpos_of_nonneg (by omega) (by omega)
      omega
    · exact hy
theorem zs9 {t b : Int} (h : b ≠ 0) : Int.gcd (frT t b) (frB t b) = 1:=by
  have h0 : 0 < Int.gcd t b:=Nat.pos_of_ne_zero fun e=>h (Int.gcd_eq_zero_iff.mp e).2
  have h1:=zlu t b
  have h2:=zi6 t b
  have e : Int.gcd (frT t b * gd t b) (frB t b * gd t b) = Int.gcd (frT t b) (frB t b) * (gd t b).natAbs:=Int.gcd_mul_right ..
  rw [h1,h2] at e
  have e2 : (gd t b).natAbs = Int.gcd t b:=by unfold gd; split <;> omega
  rw [e2] at e
  exact Nat.eq_of_mul_eq_mul_right h0 (by omega)
theorem zui {n : Nat} {t b : Int} (h : b ≠ 0) (hb : Bd n b) : Bd n (gd t b):=hb.dvd h (zgs t b)
theorem zs6 {n : Nat} {t b : Int} (hb : Bd n b) : Bd n (frB t b):=hb.fdiv
theorem zsi {n : Nat} {t b : Int} (hb : Bd n t) : Bd n (frT t b):=hb.fdiv
end My
namespace My
open PySem PySem.Spec PyProof.Rows L2
def zuf (_ j : Int) : Prop:=j ≠ 0∧Bd 8000 j
def zuP (_ j : Int) : Prop:=j ≠ 0
theorem zir {j : Int} (h : Bd 8000 j) : j.natAbs.log2 < 9000:=by
 rcases Nat.eq_zero_or_pos j.natAbs with e | e
 ·rw [e]; decide
 ·have : j.natAbs.log2 < 8000:=(Nat.log2_lt (Nat.ne_of_gt e)).mpr h
  omega
theorem zit {j : Int} (h : Bd 8000 j) : Builtin.Int.intBits j ≤ 2 ^ 20:=by
 unfold Builtin.Int.intBits
 split
 ·exact Nat.zero_le _
 ·have:=zir h
  omega
section
variable {X : Cx}
theorem zoA : OpR X (binaryOp .FloorDiv) (rI zuf fun i j=>.int (i.fdiv j)):=opI fun _ _ _ _ _ _ _ hc q=>floordiv_int hc.1 q (.inl (PyProof.noPylong_of_log2 (zir hc.2)))
theorem zrm : OpR X (binaryOp .Mod) (rI zuP fun i j=>.int (i.fmod j)):=zqv
def rB0 (g : Bool→Bool→V) : R2:=fun x y H Q=>∃ i j,x = .bl i∧y = .bl j∧Q (g i j) H
theorem zq6 {i j : Int} {a b : Nat} {p1 p2 pos : Pos} (c : Int) (h : i ^ j.toNat = c) (h0 : 0 ≤ j∧j ≤ 1000000∧i.natAbs < 2 ^ 64) : PE X (.BinOp (.Constant (.int i) a p1) .Pow (.Constant (.int j) b p2) pos) (tC (.int c)):=by
 intro pins s σ H Q I q
 have q' : Q (.int c) H:=q
 rw [← h] at q'
 exact zpL ztf zkm zkm pins s σ H Q I ⟨i,j,rfl,rfl,h0,q'⟩
def zvn : List V→Hp→VK→Prop:=fun xs H Q=>∃ i,xs = [.int i]∧Q (.int (i.natAbs : Int)) H
theorem znp : zaA X (.builtin "abs") zvn:=fun pins s σ H xs us Q I r h=>by
  obtain ⟨i,e,q⟩:=h
  refine zoL pins s σ H xs us Q I r ⟨i,e,?_⟩
  have : (if i < 0 then -i else i) = (i.natAbs : Int):=by split <;> omega
  rw [this]; exact q
def zvt (K : PySem.W.Frag) : List V→Hp→VK→Prop:=fun xs H Q=>∃ p ys,xs = [.ref p]∧(SqL K H p ys∨SqT K H p ys)∧Q (.int ys.length) H
theorem zm5 : zaA X (.builtin "len") (zvt X.K):=zka
def ztA (K : PySem.W.Frag) : List V→Hp→VK→Prop:=fun xs H Q=>∃ p ys,xs = [.ref p]∧(SqL K H p ys∨SqT K H p ys)∧∀ l,H l = none→Q (.ref l) (upd H l (.lst ys))
theorem zmN : zaA X (.type "list") (ztA X.K):=zj0
def zu3 : List V→Hp→VK→Prop:=fun xs H Q=>(∃ i,xs = [.int i]∧Q (.int i) H)∨∃ k,xs = [.bl k]∧Q (.int (if k then 1 else 0)) H
theorem zoe : zaA X (.type "int") zu3:=znN
def zu1 : List V→Hp→VK→Prop:=fun xs H Q=>∃ i j,xs = [.int i,.int j]∧Q (.int (if j > i then j else i)) H
theorem zn8 (hc : X.calm = true) : zaA X (.builtin "max") zu1:=zoi hc
def zuX : List V→Hp→VK→Prop:=fun xs H Q=>∃ i j,xs = [.int i,.int j]∧Q (.int (if j < i then j else i)) H
theorem znA (hc : X.calm = true) : zaA X (.builtin "min") zuX:=znv hc
theorem ztP {x : Str} {T : String} {pos : Pos} (hg : Gl X x) (hm : X.mg x = none) (hv : bootBuiltins x = some (.type T)) (hn : x ≠ "__name__":=by decide) (hd : (x == ("__debug__" : Str)) = false:=by decide) : PE X (.Name x pos) (tC (.ty T)):=zqM (v:=.ty T) hg hm hv rfl hn hd
def zvc (K : PySem.W.Frag) : List V→Hp→VK→Prop:=fun xs H Q=>∃ x c t b,xs = [x,.ty c]∧zdN K H x t∧PySem.W.kitOne K t (.type c) = some b∧Q (.bl b) H
theorem zoC : zaA X (.builtin "isinstance") (zvc X.K):=fun pins s σ H xs us Q I r h=>by
 obtain ⟨x,c,t,b,rfl,ty,e,q⟩:=h
 obtain ⟨u,w',rfl,ru,rw'⟩:=vals2 r
 cases rw'
 exact zoc I ru ty e fun tk=>⟨.bl b,H,I.tok _,rfl,q⟩
end
section
variable {X : Cx} {K : PySem.W.Frag}
end
structure Got (P : Program) (w : World) (K : PySem.W.Frag) (mg : Str→Option Value) (base : Heap) (k : Nat) (x : Str) (ps : List Str) (sp : Sp) : Prop where
 ex : ∃ f fd,zZ P w K mg base CX0 k f fd ps sp∧Binds K fd ps []∧PySem.W.keepIn K (.ref f) = true∧mg x = some (.ref f)
theorem ztj {X : Cx} {k j : Nat} {x : Str} {ps : List Str} {sp : Sp} {p pos : Pos} {e : Expr} {es : List Expr} {t : TA} (G : Got X.prog X.w X.K X.mg X.base k x ps sp) (hr : zaI j X.A) (hk : k ≤ j) (hg : Gl X x)
  (ha : PA X (e :: es) t) (hdb : (x == ("__debug__" : Str)) = false:=by decide) (he : starEach (e :: es) X.env = (false,eval e X.env) :: starEach es X.env:=by rfl) (hpl : (backTo pos (starEach es X.env)).any (·.1) = false:=by rfl) :
  PE X (.Call (.Name x p) (e :: es) [] pos) (zmf sp [] E0 t):=by
 intro pins s σ H Q I h
 obtain ⟨f,fd,F,b,kp,m⟩:=G.ex
 exact zq5 (F.mono hk) hr hg m kp b .nil zpX ha hdb he hpl pins s σ H Q I h
section
variable {nx : L2.St→Hp→Prop} {rt : VK} {bk ct : L2.St→Hp→Prop} {σ : L2.St} {H : Hp} {K : PySem.W.Frag}
end
section
variable {σ : L2.St} {H : Hp} {K : PySem.W.Frag}
def ztU : R2:=fun x y H Q=>y = .non∧Q (.bl (!decide (x = .non))) H
theorem zsV {X : Cx} : OpR X (compareOp .IsNot) ztU:=zp7
end
theorem zed {H : Hp} {p b : Addr} {o u : HO} (hp : H p = none) (h : H b = some u) : upd H p o b = some u:=by
 rw [zad (zbf h hp)]; exact h
end My
namespace My
open PySem PySem.Spec PyProof.Rows L2
theorem zlh {prog : Program} {w : World} {A : Around} {R : Result→Shared→Prop} {s : Shared} {elt target iter : Expr} {ifs : List Expr} {scope : Scope} {pos : Pos} {it acc : Value} {env : Env} (I : Nat→Shared→Prop)
  (turn : ∀ n s,I n s→wpAny (model prog w) A (pyNext it) (fun r s₁=>match r with
   | none=>R (.ok .next) s₁
   | some v=>wpAny (model prog w) A (letOwnedTupleGo target it v) (fun _ s₁'=>wpAny (model prog w) A (assign target env v) (fun _ s₂ =>
     wpAny (model prog w) A (forIn ifs true fun c r=>if r = true then do let ok ← isTrue c env (eval c env); pure (ForInStep.yield ok) else pure (ForInStep.yield r)) (fun ok s₃ =>
      if ok = true then wpAny (model prog w) A (eval elt env) (fun x s₄ =>
       wpAny (model prog w) A (call (.builtin "list.append") [acc,x]) (fun _ s₅=>∃ m,m < n∧I m s₅) (fun _ _=>False) s₄) (fun _ _=>False) s₃
      else ∃ m,m < n∧I m s₃) (fun _ _=>False) s₂) (fun _ _=>False) s₁') (fun _ _=>False) s₁) (fun _ _=>False) s)
  (n : Nat) (h : I n s) : codeAny (model prog w) A (.compLoop (.ListComp elt [⟨target,iter,ifs,0⟩] scope pos) 0 it acc env) R s:=by
 refine codeAny_loop rfl I (fun n s hI=>?_) n h
 show wpAny _ A ((compTurn (.ListComp elt [⟨target,iter,ifs,0⟩] scope pos) 0 it acc env).onRaise (fun x=>do noteFrame x env; theTreesLotGoes x)) _ _ s
 refine wpAny_noted ?_
 rw [compTurn_list]
 refine wpAny_bind (wpAny_standAt (wpAny_bind (wpAny_mono (turn n s hI) (fun r s₁ h₁=>?_) fun _ _ h'=>h'.elim)))
 cases r with
 | none=>exact wpAny_pure h₁
 | some v =>
  refine wpAny_bind (wpAny_mono h₁ (fun _ s₁' h₁'=>?_) fun _ _ h'=>h'.elim)
  refine wpAny_bind (wpAny_mono h₁' (fun _ s₂ h₂=>wpAny_bind (wpAny_mono h₂ (fun ok s₃ h₃=>?_) fun _ _ h'=>h'.elim)) fun _ _ h'=>h'.elim)
  cases ok with
  | false=>exact wpAny_pure ⟨rfl,h₃⟩
  | true =>
   exact wpAny_bind (wpAny_bind (wpAny_mono h₃ (fun x s₄ h₄=>wpAny_bind (wpAny_mono h₄ (fun _ s₅ h₅=>wpAny_pure (wpAny_pure ⟨rfl,h₅⟩)) fun _ _ h'=>h'.elim)) fun _ _ h'=>h'.elim))
def inner (X : Cx) (sc : Scope) (N : List Str) (cl : List (Str × Addr)) (C : Addr) (s₀ : Shared) (H₀ : Hp) (ex : List Addr) : Cx :=
 { X with N:=N,s₀:=s₀,H₀:=H₀,env:=compEnvC sc cl C X.env,outer:=X.stack,ex:=ex,fn:=fun _=>false,pn:=[] }
def PFs (X : Cx) (ifs : List Expr) (t : TT) : Prop :=
 ∀ (pins : List (Addr × Obj)) (s : Shared) (σ : L2.St) (H : Hp) (Q : Bool→Hp→Prop),Inv X pins σ H s→t σ H Q →
  wpAny (model X.prog X.w) X.A (forIn ifs true fun c r=>if r = true then do let ok ← isTrue c X.env (eval c X.env); pure (ForInStep.yield ok) else pure (ForInStep.yield r)) (TP X pins σ Q) X.xe s
def ztG : TT:=fun _ H Q=>Q true H
theorem zsS {X : Cx} : PFs X [] ztG:=fun _ _ _ H _ I h=>wpAny_tests_nil ⟨H,I,h⟩
theorem zrD {X : Cx} {c : Expr} {t : TT} (h : PT X c t) : PFs X [c] t:=fun pins s σ H Q I q=>wpAny_tests_one (h pins s σ H Q I q)
def zgD (X : Cx) (sc : Scope) : List Str→List Nat→Prop
 | [],[]=>True
 | x :: xs,j :: js=>X.N[j]? = some x∧sc.names.lookup x = some .free∧X.env.kindOf x = some .cell∧zgD X sc xs js
 | _,_=>False
def zdV (P : Str→Prop) : List (Str × NameKind)→Prop
 | []=>True
 | (n,.free) :: r=>P n∧zdV P r
 | _ :: r=>zdV P r
theorem zdV.of {P : Str→Prop} : ∀ {l : List (Str × NameKind)},zdV P l→∀ y ∈ l,y.2 = .free→P y.1
  | (n,k) :: r,h,y,hy,e=>by
    rcases List.mem_cons.mp hy with rfl | hy
    · dsimp only at e; subst e; exact h.1
    · refine zdV.of (l:=r) ?_ y hy e
      cases k <;> first | exact h.2 | exact h
def cst (own : List Str) (fv : List Nat) (σ : L2.St) : L2.St:=List.replicate own.length none ++ fv.map fun j=>(σ[j]?).join
def Agr : L2.St→L2.St→Prop
 | [],[]=>True
 | none :: r,_ :: s=>Agr r s
 | some v :: r,some w :: s=>v = w∧Agr r s
 | _,_=>False
theorem Agr.len : ∀ {a b : L2.St},Agr a b→b.length = a.length
  | [],[],_=>rfl
  | none :: r,_ :: s,h=>congrArg (· + 1) (Agr.len (a:=r) (b:=s) h)
  | some v :: r,some w :: s,h=>congrArg (· + 1) (Agr.len (a:=r) (b:=s) h.2)
theorem Agr.get : ∀ {a b : L2.St},Agr a b→∀ (i : Nat) (v : V),a[i]? = some (some v)→b[i]? = some (some v)
 | none :: r,_ :: s,h,i,v,e=>by
  cases i with
  | zero=>simp at e
  | succ i=>simpa using Agr.get (a:=r) (b:=s) h i v (by simpa using e)
 | some v' :: r,some w :: s,h,i,v,e=>by
  cases i with
  | zero=>simp at e; subst e; simp [h.1]
  | succ i=>simpa using Agr.get (a:=r) (b:=s) h.2 i v (by simpa using e)
def tLC (own : List Str) (fv : List Nat) (wi : TI) (g : TG) (tc : TT) (te : TE) : TE:=fun σ H Q=>wi σ H fun J H1=>∀ p,H1 p = none →
 ∃ W : Nat→Nat→Hp→Prop,(∃ m,W 0 m (upd H1 p (.lst [])))∧∀ i m H2,W i m H2 →
  (J.stop i H2∧Q (.ref p) H2)∨(J.go i H2∧∀ x H',J.yld i H2 x H'→g x (cst own fv σ) H' fun σ2 H3=>Agr (cst own fv σ) σ2∧tc σ2 H3 fun b H4 =>
   if b = true then te σ2 H4 fun y H5=>∃ ys,H5 p = some (.lst ys)∧ys.length < sizeLine∧∃ m',m' < m∧W (i + 1) m' (upd H5 p (.lst (ys ++ [y])))
   else ∃ m',m' < m∧W (i + 1) m' H4)
theorem zlq {env : Env} {n : Str} {c : Addr} (h : env.cells.lookup n = some c) : cellOf env n = pure c:=by
 unfold cellOf; rw [h]
theorem zfX {env : Env} : ∀ (names : List (Str × NameKind)) (cs : List (Str × Addr)), (∀ y ∈ names, y.2 = .free → ∃ c, env.cells.lookup y.1 = some c) → (∀ x c, cs.lookup x = some c → env.cells.lookup x = some c) →
    ∃ cl,(forIn names cs fun (x : Str × NameKind) (r : List (Str × Addr))=>if (x.2 == NameKind.free) = true then do let a ← cellOf env x.1; pure (ForInStep.yield ((x.1,a) :: r)) else pure (ForInStep.yield r)) = (pure cl : Sem (List (Str × Addr))) ∧
      (∀ x c,cl.lookup x = some c→env.cells.lookup x = some c)∧(∀ x,(cs.lookup x).isSome = true→(cl.lookup x).isSome = true)∧∀ y ∈ names,y.2 = .free→(cl.lookup y.1).isSome = true
  | [],cs,_,h2=>⟨cs,rfl,h2,fun _ h=>h,fun _ h=>nomatch h⟩
  | (n,k) :: r,cs,h1,h2=>by
    rw [List.forIn_cons]
    by_cases hk : k = .free
    · subst hk
      obtain ⟨c,hc⟩:=h1 (n,.free) List.mem_cons_self rfl
      obtain ⟨cl,e,a1,a2,a3⟩:=zfX (env:=env) r ((n,c) :: cs) (fun y hy=>h1 y (List.mem_cons_of_mem _ hy)) (fun x d hx=>by
        rw [List.lookup_cons] at hx
        by_cases hxn : x = n
        · subst hxn; simp at hx; subst hx; exact hc
        · have : (x == n) = false:=by simpa using hxn
          rw [this] at hx; exact h2 x d hx)
      refine ⟨cl,?_,a1,fun x hx=>a2 x ?_,fun y hy e'=>?_⟩
      · simp only [beq_self_eq_true,if_true,zlq hc]
        simpa using e
      · rw [List.lookup_cons]; split <;> simp_all
      · rcases List.mem_cons.mp hy with rfl | hy
        · exact a2 _ (by simp [List.lookup_cons])
        · exact a3 y hy e'
    · have hb : (k == NameKind.free) = false:=by simpa using hk
      obtain ⟨cl,e,a1,a2,a3⟩:=zfX (env:=env) r cs (fun y hy=>h1 y (List.mem_cons_of_mem _ hy)) h2
      refine ⟨cl,?_,a1,a2,fun y hy e'=>?_⟩
      · simp only [hb,Bool.false_eq_true,if_false]
        simpa using e
      · rcases List.mem_cons.mp hy with rfl | hy
        · exact absurd e' hk
        · exact a3 y hy e'
theorem ziu {env : Env} {sc : Scope} (h : ∀ y ∈ sc.names,y.2 = .free→∃ c,env.cells.lookup y.1 = some c) :
  ∃ cl,closureFor sc env = pure cl∧(∀ x c,cl.lookup x = some c→env.cells.lookup x = some c)∧∀ y ∈ sc.names,y.2 = .free→(cl.lookup y.1).isSome = true:=by
 obtain ⟨cl,e,a1,_,a3⟩:=zfX (env:=env) sc.names [] h (fun x c hx=>by simp at hx)
 refine ⟨cl,?_,a1,a3⟩
 unfold closureFor
 have e2:=e
 first
  | exact e2
  | (show (do let cs ← forIn sc.names [] _; pure cs) = _; rw [show (forIn sc.names [] _ : Sem (List (Str × Addr))) = pure cl from e2]; rfl)
  | simpa using e2
theorem zdM {env : Env} {x : Str} : ∀ {names : List (Str × NameKind)}, (names.map fun (n, k) => if (k == NameKind.free && env.scope.kind == .function && env.kindOf n == some .cell) then (n, NameKind.cell) else (n, k)).lookup x =
    (names.lookup x).map fun k=>if (k == NameKind.free && env.scope.kind == .function && env.kindOf x == some .cell) then NameKind.cell else k
  | []=>rfl
  | (n,k) :: r=>by
    have ih:=zdM (env:=env) (x:=x) (names:=r)
    rw [List.map_cons]
    by_cases hx : x = n
    · subst hx
      dsimp only
      split <;> simp_all [List.lookup_cons]
    · have hb : (x == n) = false:=by simpa using hx
      dsimp only
      split <;> (rw [List.lookup_cons,List.lookup_cons,hb]; exact ih)
theorem mem_of_lookup {β : Type} {x : Str} {k : β} : ∀ {l : List (Str × β)},l.lookup x = some k→(x,k) ∈ l
 | (n,b) :: r,h=>by
  rw [List.lookup_cons] at h
  by_cases hx : x = n
  ·subst hx; simp at h; subst h; exact List.mem_cons_self
  ·have hb : (x == n) = false:=by simpa using hx
   rw [hb] at h
   exact List.mem_cons_of_mem _ (mem_of_lookup h)
section
variable {X : Cx} {sc : Scope} {tg iter elt : Expr} {ifs : List Expr} {own free : List Str} {fv : List Nat} {wi : TI} {g : TG} {tc : TT} {te : TE} {pos : Pos}
theorem zpR {σ : L2.St} : ∀ {free : List Str} {fv : List Nat},zgD X sc free fv→∀ (k : Nat) (x : Str) (v : V),free[k]? = some x→(fv.map fun j=>(σ[j]?).join)[k]? = some (some v) →
  ∃ j : Nat,X.N[j]? = some x∧σ[j]? = some (some v)∧sc.names.lookup x = some .free∧X.env.kindOf x = some .cell
 | x' :: xs,j :: js,h,k,x,v,e1,e2=>by
  cases k with
  | zero =>
   simp at e1 e2
   subst e1
   refine ⟨j,h.1,?_,h.2.1,h.2.2.1⟩
   cases q : σ[j]? with
   | none=>rw [q] at e2; simp at e2
   | some o=>rw [q] at e2; simp at e2; rw [e2]
  | succ k=>exact zpR (free:=xs) (fv:=js) h.2.2.2 k x v (by simpa using e1) (by simpa using e2)
 | [],[],_,k,x,v,e1,_=>by simp at e1
theorem znE : ∀ {free : List Str} {fv : List Nat},zgD X sc free fv→fv.length = free.length
  | [],[],_=>rfl
  | _ :: _,_ :: _,h=>congrArg (· + 1) (znE h.2.2.2)
theorem zid {RR : Value → Addr → Result → Shared → Prop} (hcalm : X.calm = true) (hxe : X.xe = fun _ _ => False) (hkind : sc.kind = .function) (hcell : ∀ y ∈ sc.names, y.2 ≠ .cell)
    (hfr : zdV (fun x=>X.env.kindOf x = some .cell) sc.names) (hfv : zgD X sc free fv)
    (hg : ∀ cl C s₀ H₀ ex,PG (inner X sc (own ++ free) cl C s₀ H₀ ex) tg g) (ht : ∀ cl C s₀ H₀ ex,PFs (inner X sc (own ++ free) cl C s₀ H₀ ex) ifs tc) (he : ∀ cl C s₀ H₀ ex,PE (inner X sc (own ++ free) cl C s₀ H₀ ex) elt te)
    {pins : List (Addr × Obj)} {s2 : Shared} {σ : L2.St} {H2 : Hp} {it : Addr} {fp : List Addr} {tn : Nat→Heap→Prop} {J : It} {Q : VK} (I2 : Inv X pins σ H2 s2) (T : Turn X.prog X.w X.K tg J fp it tn) (st2 : tn 0 s2.heap) (f2 : ∀ b ∈ fp,zeI X pins H2 b)
    (h : ∀ p,H2 p = none→∃ W : Nat→Nat→Hp→Prop,(∃ m,W 0 m (upd H2 p (.lst [])))∧∀ i m H2,W i m H2 →
      (J.stop i H2∧Q (.ref p) H2)∨(J.go i H2∧∀ x H',J.yld i H2 x H'→g x (cst own fv σ) H' fun σ2 H3=>Agr (cst own fv σ) σ2∧tc σ2 H3 fun b H4 =>
        if b = true then te σ2 H4 fun y H5=>∃ ys,H5 p = some (.lst ys)∧ys.length < sizeLine∧∃ m',m' < m∧W (i + 1) m' (upd H5 p (.lst (ys ++ [y])))
        else ∃ m',m' < m∧W (i + 1) m' H4))
    {cl : List (Str × Addr)} (hcl1 : ∀ x c,cl.lookup x = some c→X.env.cells.lookup x = some c) (hcl2 : ∀ y ∈ sc.names,y.2 = .free→(cl.lookup y.1).isSome = true)
    (hRR : ∀ (p C : Addr) (m : Str→Option Value) (H' : Hp) (s' : Shared),s'.heap.Ns C m→Inv X pins σ H' s'→H' C = none→C ≠ X.env.locals→X.s₀.heap.objs.size ≤ C→(∀ x c,X.env.cells.lookup x = some c→c ≠ C)→(∀ q ∈ X.pn ++ pins,q.1 ≠ C)→Q (.ref p) H' →
      RR (.ref p) C (.ok .next) s') :
    wpAny (model X.prog X.w) X.A (newList []) (fun acc s3=>wpAny (model X.prog X.w) X.A (newFunctionEnv sc X.env.globals cl [] X.env.qual none .none (some X.env)) (fun cenv s4 =>
      codeAny (model X.prog X.w) X.A (.compStart (.ListComp elt [⟨tg,iter,ifs,0⟩] sc pos) 0 (.ref it) acc { cenv with scope:=relabel sc X.env }) (RR acc cenv.locals) s4) X.xe s3) X.xe s2:=by
  rw [hxe]
  refine wpAny_newObj_type ?_
  have I3 : Inv X pins σ (upd H2 s2.heap.objs.size (.lst [])) { s2 with heap:=s2.heap.push { cls:=.type "list",data:=.seq ([] : List Value).toArray } }:=I2.lnew (t':=s2.toks) .nil (Nat.zero_le _)
  generalize hs3 : ({ s2 with heap:=s2.heap.push { cls:=.type "list",data:=.seq ([] : List Value).toArray } } : Shared) = s3 at I3 ⊢
  have hp : H2 s2.heap.objs.size = none:=I2.fresh
  obtain ⟨W,⟨m0,w0⟩,turn⟩:=h s2.heap.objs.size hp
  generalize hH3 : upd H2 s2.heap.objs.size (.lst []) = H3 at I3 w0 ⊢
  have hk3 : ∀ b o,s2.heap.get? b = some o→s3.heap.get? b = some o:=fun b o e=>by rw [← hs3]; exact Heap.get?_push_of_some _ e
  have hz3 : s3.heap.objs.size = s2.heap.objs.size + 1:=by rw [← hs3]; exact Heap.size_push ..
  have st3 : tn 0 s3.heap:=T.keep _ _ _ st2 fun b _ o e=>hk3 b o e
  have hfpo : ∀ b ∈ fp,∃ o,s3.heap.get? b = some o:=fun b hb=>let ⟨o,e,_⟩:=T.obj _ _ st3 b hb; ⟨o,e⟩
  have hfpn : ∀ b ∈ fp,b ≠ s2.heap.objs.size:=fun b hb e=>by
    obtain ⟨o,e',_⟩:=T.obj _ _ st2 b hb
    have:=Heap.lt_size e'
    rw [e] at this; exact Nat.lt_irrefl _ this
  have f3 : ∀ b ∈ fp,H3 b = none:=fun b hb=>by rw [← hH3,zad (hfpn b hb)]; exact (f2 b hb).1
  refine wpAny_newFunctionEnv hcell (by intro y hy; simp at hy) (fun h1 hns1 hsb1=>?_) hkind
  have hC0 : H3 s3.heap.objs.size = none:=I3.fresh
  have old : ∀ b o,s3.heap.get? b = some o→h1.get? b = some o:=fun b o e=>hsb1.extBut b o (Nat.ne_of_lt (Heap.lt_size e)) (Heap.get?_push_of_some _ e)
  have hlow : X.s₀.heap.objs.size ≤ s3.heap.objs.size:=I3.sz
  have hloc : X.env.locals < s3.heap.objs.size:=I3.lt
  have hcells : ∀ x c,X.env.cells.lookup x = some c→c < s3.heap.objs.size:=fun x c e=>by
    obtain ⟨v,o,ho,_⟩:=I3.cell x c e
    exact Heap.lt_size ho
  have YOk : (inner X sc (own ++ free) cl s3.heap.objs.size s3 H3 fp).Ok:={
    mod:=I3.ok.mod
    kind:=by show (relabel sc X.env).kind = .function; exact hkind
    glob:=I3.ok.glob
    blt:=I3.ok.blt
    above:=Nat.le_refl _
    inj:=fun x y c hx hy=>I3.ok.inj x y c (hcl1 x c hx) (hcl1 y c hy)
    has:=fun x hx=>by
      have e : (sc.names.lookup x).map (fun k => if (k == NameKind.free && X.env.scope.kind == .function && X.env.kindOf x == some .cell) then NameKind.cell else k) = some .cell ∨
          (sc.names.lookup x).map (fun k=>if (k == NameKind.free && X.env.scope.kind == .function && X.env.kindOf x == some .cell) then NameKind.cell else k) = some .free:=by
        have:=@zdM X.env x sc.names
        rcases hx with hx | hx
        · exact .inl (this.symm.trans hx)
        · exact .inr (this.symm.trans hx)
      cases q : sc.names.lookup x with
      | none=>rw [q] at e; simp at e
      | some k =>
        have hm:=mem_of_lookup q
        by_cases hkf : k = .free
        · subst hkf
          exact Option.isSome_iff_exists.mp (hcl2 (x,.free) hm rfl)
        · have hkc : k ≠ .cell:=hcell (x,k) hm
          rw [q] at e
          have hb : (k == NameKind.free) = false:=by simpa using hkf
          simp only [Option.map_some,hb,Bool.false_and,Bool.false_eq_true,if_false,Option.some.injEq] at e
          rcases e with e | e
          · exact absurd e hkc
          · exact absurd e hkf
    cab:=fun x c hx=>by cases hx
    hd:=I3.ok.hd
    frames:=I3.ok.frames
    stk:=.inl rfl
    exf:=fun b hb=>⟨fun e=>by obtain ⟨o,e'⟩:=hfpo b hb; have:=Heap.lt_size e'; rw [e] at this; exact Nat.lt_irrefl _ this,fun x c hx=>(f2 b hb).2.2.2.2.1 x c (hcl1 x c hx)⟩
    bs:=I3.bs
    bsz:=Nat.le_trans I3.ok.bsz I3.sz
    noex:=fun b o hb hm=>by
      rcases (f2 b hm).2.2.2.1 with hx | hx
      · exact I3.ok.noex b o hb hx
      · exact Nat.lt_irrefl _ (Nat.lt_of_lt_of_le (Nat.lt_of_lt_of_le (Heap.lt_size hb) I3.ok.bsz) hx)
    exfs:=fun b hb hm=>by
      rcases List.mem_cons.mp (I3.stkSub b hm) with e | e
      · exact (f2 b hb).2.1 e
      · exact (f2 b hb).2.2.1 e
    funs:=I3.stack
    frf:=I3.stkFree }
  have hlen0 : (cst own fv σ).length = (own ++ free).length:=by
    unfold cst; rw [List.length_append,List.length_append,List.length_replicate,List.length_map,znE hfv]
  have I4 : ∀ tk,Inv (inner X sc (own ++ free) cl s3.heap.objs.size s3 H3 fp) [] (cst own fv σ) H3 { s3 with heap:=h1,toks:=tk }:=fun tk=>{
    ok:=YOk
    os:=rfl
    bare:=I3.bare
    base:=Un.kept old
    loc:=by
      refine ⟨_,hns1,fun i x v hN hσ _=>?_⟩
      have hN' : (own ++ free)[i]? = some x:=hN
      have hσ' : (List.replicate own.length none ++ fv.map fun j=>(σ[j]?).join)[i]? = some (some v):=hσ
      by_cases hi : i < own.length
      · rw [List.getElem?_append_left (by rw [List.length_replicate]; exact hi)] at hσ'
        rw [List.getElem?_replicate] at hσ'
        split at hσ' <;> simp at hσ'
      · rw [List.getElem?_append_right (by omega)] at hN'
        rw [List.getElem?_append_right (by rw [List.length_replicate]; omega),List.length_replicate] at hσ'
        obtain ⟨j,hj,hσj,hsx,hkx⟩:=zpR hfv _ x v hN' hσ'
        obtain ⟨m,_,hall⟩:=I3.loc
        obtain ⟨u,ru,lk⟩:=hall j x v hj hσj (.inr (.inl hkx))
        refine ⟨u,ru,.inr ⟨?_,?_⟩⟩
        · have:=@zdM X.env x sc.names
          rw [hsx] at this
          have e2 : Env.kindOf (inner X sc (own ++ free) cl s3.heap.objs.size s3 H3 fp).env x = (sc.names.map fun (n,k)=>if (k == NameKind.free && X.env.scope.kind == .function && X.env.kindOf n == some .cell) then (n,NameKind.cell) else (n,k)).lookup x:=rfl
          rw [e2,this]
          simp only [Option.map_some]
          split
          · exact .inl rfl
          · exact .inr rfl
        · rcases lk with ⟨hl,_⟩ | ⟨_,c,hc,hcell'⟩
          · rw [hkx] at hl; cases hl
          · obtain ⟨c',hc'⟩:=Option.isSome_iff_exists.mp (hcl2 (x,.free) (mem_of_lookup hsx) rfl)
            have:=hcl1 x c' hc'
            rw [hc] at this
            cases this
            refine ⟨c,hc',?_⟩
            obtain ⟨o,ho,hd⟩:=hcell'
            exact ⟨o,old _ _ ho,hd⟩
    cell:=fun x c hx=>by
      obtain ⟨v,o,ho,hd⟩:=I3.cell x c (hcl1 x c hx)
      exact ⟨v,o,old _ _ ho,hd⟩
    free:=hC0
    freeC:=fun x c hx=>I3.freeC x c (hcl1 x c hx)
    pin:=fun q hq=>nomatch hq
    hok:=I3.hok.kept old
    len:=hlen0 }
  have back : ∀ (m : Str→Option Value) (H' : Hp) (s' : Shared),s'.heap.Ns s3.heap.objs.size m→Inv (inner X sc (own ++ free) cl s3.heap.objs.size s3 H3 fp) [] (cst own fv σ) H' s'→Q (.ref s2.heap.objs.size) H'→RR (.ref s2.heap.objs.size) s3.heap.objs.size (.ok .next) s':=fun m H' s' hm IY q=>by
    have u1 : Un (frs X.stack) fp H3 H' s3.heap s'.heap:=IY.base
    have IX : Inv X pins σ H' s':=I3.call' (ch:=fp) (IY.os) u1 IY.hok IY.bare fun b hb=>⟨(f2 b hb).2.2.2.1,(f2 b hb).2.1,(f2 b hb).2.2.2.2.1,(f2 b hb).2.2.2.2.2⟩
    refine hRR _ _ m H' s' hm IX IY.free (Nat.ne_of_gt hloc) hlow (fun x c hx=>Nat.ne_of_lt (hcells x c hx)) (fun q' hq=>?_) q
    have:=(I3.pin q' hq).1
    exact Nat.ne_of_lt (Heap.lt_size this)
  have stat : ∀ {H' : Hp},(∀ b ∈ fp,H' b = none)→∀ b ∈ fp,zeI (inner X sc (own ++ free) cl s3.heap.objs.size s3 H3 fp) [] H' b:=fun hn b hb =>
    ⟨hn b hb,(YOk.exf b hb).1,YOk.exfs b hb,.inl hb,(YOk.exf b hb).2,fun q hq=>nomatch hq⟩
  have hYxe : (inner X sc (own ++ free) cl s3.heap.objs.size s3 H3 fp).xe = fun _ _=>False:=hxe
  have loop : ∀ tk,codeAny (model X.prog X.w) X.A (.compLoop (.ListComp elt [⟨tg,iter,ifs,0⟩] sc pos) 0 (.ref it) (.ref s2.heap.objs.size) (compEnvC sc cl s3.heap.objs.size X.env)) (RR (.ref s2.heap.objs.size) s3.heap.objs.size) { s3 with heap:=h1,toks:=tk }:=fun tk=>by
    refine zlh (fun n s'=>∃ i H',Inv (inner X sc (own ++ free) cl s3.heap.objs.size s3 H3 fp) [] (cst own fv σ) H' s'∧tn i s'.heap∧(∀ b ∈ fp,H' b = none)∧W i n H') ?_ m0 ⟨0,H3,I4 tk,T.keep _ _ _ st3 (fun b _ o e=>old b o e),f3,w0⟩
    rintro n s5 ⟨i,H5,I5,st5,fr5,w5⟩
    rcases turn i n H5 w5 with ⟨stop,q⟩ | ⟨go,step⟩
    · refine thn (T.done (inner X sc (own ++ free) cl s3.heap.objs.size s3 H3 fp) rfl rfl rfl hcalm i [] s5 _ H5 _ I5 (stat fr5) st5 stop) fun r s6 ⟨hr,I6⟩=>?_
      subst hr
      obtain ⟨m,hm,_⟩:=I6.loc
      exact back m H5 s6 hm I6 q
    · refine thn (T.item (inner X sc (own ++ free) cl s3.heap.objs.size s3 H3 fp) rfl rfl rfl hcalm i [] s5 _ H5 _ I5 (stat fr5) st5 go) fun r s6 ⟨u,hr,h6⟩=>?_
      subst hr
      refine thn h6 fun _ s7 ⟨x,H7,I7,r7,y7,st7,fr7⟩=>?_
      have I7':=I7.pinned (stat fr7) (T.obj _ _ st7)
      have hg':=hg cl s3.heap.objs.size s3 H3 fp _ s7 _ H7 x u _ I7' r7 (step x H7 y7)
      have ht':=ht cl s3.heap.objs.size s3 H3 fp
      have he':=he cl s3.heap.objs.size s3 H3 fp
      have ap : MtM (inner X sc (own ++ free) cl s3.heap.objs.size s3 H3 fp) "list.append" zlG:=zjf
      unfold PFs at ht'
      unfold PE at he'
      unfold MtM at ap
      rw [hYxe] at hg' ht' he' ap
      have again : ∀ {pl : List (Addr × Obj)} {σ8 : L2.St} {H8 : Hp} {s8 : Shared}, pl = zgk fp s7.heap → Inv (inner X sc (own ++ free) cl s3.heap.objs.size s3 H3 fp) ([] ++ pl) σ8 H8 s8 → Agr (cst own fv σ) σ8 → (∃ m', m' < n ∧ W (i + 1) m' H8) →
          ∃ m,m < n∧∃ i H',Inv (inner X sc (own ++ free) cl s3.heap.objs.size s3 H3 fp) [] (cst own fv σ) H' s8∧tn i s8.heap∧(∀ b ∈ fp,H' b = none)∧W i m H':=fun {pl σ8 H8 s8} hpl I8 ag ⟨m',hm,w8⟩=>by
        subst hpl
        refine ⟨m',hm,i + 1,H8,(I8.unpinned).weak ag.len.symm (fun j v e=>ag.get j v e),T.keep _ _ _ st7 fun b hb o e=>(I8.pin (b,o) (List.mem_append_right _ (List.mem_append_right _ (zeh hb e)))).1,fun b hb=>?_,w8⟩
        obtain ⟨o,e,d⟩:=T.obj _ _ st7 b hb
        exact (I8.pin (b,o) (List.mem_append_right _ (List.mem_append_right _ (zeh hb e)))).2.1
      refine thn hg' fun _ s8 ⟨σ8,H8,I8,ag,q8⟩=>?_
      refine thn (ht' _ s8 σ8 H8 _ I8 q8) fun b s9 ⟨H9,I9,q9⟩=>?_
      cases b with
      | false =>
        rw [if_neg Bool.false_ne_true] at q9 ⊢
        exact again rfl I9 ag q9
      | true =>
        rw [if_pos rfl] at q9 ⊢
        refine thn (he' _ s9 σ8 H9 _ I9 q9) fun y s10 ⟨yv,H10,I10,ry,ys,hy,hlt,q10⟩=>?_
        refine thn (ap _ s10 σ8 H10 (.ref s2.heap.objs.size) [yv] (.ref s2.heap.objs.size) [y] (fun v H'=>v = .non∧H' = upd H10 s2.heap.objs.size (.lst (ys ++ [yv]))) I10 rfl (.cons ry .nil) ⟨_,ys,yv,rfl,rfl,hy,hlt,rfl,rfl⟩) fun z s11 ⟨v11,H11,I11,_,_,e11⟩=>?_
        subst e11
        exact again rfl I11 ag q10
  refine codeAny_compStart_list (loop _) (T.self _ 0 _ _ _ (T.keep _ _ _ st3 fun b _ o e=>old b o e) (loop _))
theorem zuz (hcalm : X.calm = true) (hxe : X.xe = fun _ _=>False) (hkind : sc.kind = .function) (hcell : ∀ y ∈ sc.names,y.2 ≠ .cell) (hnames : ∀ y ∈ sc.names,y.2 = .local→sc.names.lookup y.1 = some .local)
  (hfr : zdV (fun x=>X.env.kindOf x = some .cell) sc.names) (hfv : zgD X sc free fv) (hi : PI X tg iter wi)
  (hg : ∀ cl C s₀ H₀ ex,PG (inner X sc (own ++ free) cl C s₀ H₀ ex) tg g) (ht : ∀ cl C s₀ H₀ ex,PFs (inner X sc (own ++ free) cl C s₀ H₀ ex) ifs tc) (he : ∀ cl C s₀ H₀ ex,PE (inner X sc (own ++ free) cl C s₀ H₀ ex) elt te)
  (hs : ∀ x,foldedSetIterable iter X.env x = pure x:=by intro _; rfl) : PE X (.ListComp elt [⟨tg,iter,ifs,0⟩] sc pos) (tLC own fv wi g tc te):=by
 intro pins s σ H Q I q
 obtain ⟨cl,hclos,hcl1,hcl2⟩:=ziu (env:=X.env) (sc:=sc) fun y hy e=>I.ok.has y.1 (.inl (hfr.of y hy e))
 rw [eval_ListComp]
 refine wpAny_comprehension_free (use:=none) rfl hs hclos hkind hnames (thn (hi pins s σ H _ I q) fun v s1 h1=>thn h1 fun itv s2 h2=>?_)
 obtain ⟨it,fp,tn,J,H2,e,I2,T,st2,f2,q2⟩:=h2
 subst e
 refine zid (RR:=fun acc C=>compPost (model X.prog X.w) X.A X.xe none (EP X pins σ Q) acc C) hcalm hxe hkind hcell hfr hfv hg ht he I2 T st2 f2 q2 hcl1 hcl2 ?_
 intro p C m H' s' hm I' hC hCl hC0 hCc hCp q'
 exact ⟨m,hm,fun h' hs'=>⟨.ref p,H',I'.turned (t':=s'.toks) (fun b o hb e=>hs'.extBut b o hb e) hC hCl (.inr hC0) hCc hCp,rfl,q'⟩⟩
theorem zqV {i : Nat} {y : Str} {py spos : Pos} (hN : X.N.Nodup) (hy : X.N[i]? = some y) (hyl : X.env.scope.names.lookup y = some .local) (hcalm : X.calm = true) (hxe : X.xe = fun _ _=>False) (hkind : sc.kind = .function) (hcell : ∀ y ∈ sc.names,y.2 ≠ .cell) (hnames : ∀ y ∈ sc.names,y.2 = .local→sc.names.lookup y.1 = some .local)
  (hfr : zdV (fun x=>X.env.kindOf x = some .cell) sc.names) (hfv : zgD X sc free fv) (hi : PI X tg iter wi)
  (hg : ∀ cl C s₀ H₀ ex,PG (inner X sc (own ++ free) cl C s₀ H₀ ex) tg g) (ht : ∀ cl C s₀ H₀ ex,PFs (inner X sc (own ++ free) cl C s₀ H₀ ex) ifs tc) (he : ∀ cl C s₀ H₀ ex,PE (inner X sc (own ++ free) cl C s₀ H₀ ex) elt te)
  (hsw : swapsWith (.ListComp elt [⟨tg,iter,ifs,0⟩] sc pos) (some (.Name y py)) spos.line X.env = pure true:=by rfl)
  (hs : ∀ x,foldedSetIterable iter X.env x = pure x:=by intro _; rfl) : PS X (.Assign [.Name y py] (.ListComp elt [⟨tg,iter,ifs,0⟩] sc pos) spos) (zpj (tLC own fv wi g tc te) (zE i)):=by
 intro pins s σ H D I q
 obtain ⟨cl,hclos,hcl1,hcl2⟩:=ziu (env:=X.env) (sc:=sc) fun y hy e=>I.ok.has y.1 (.inl (hfr.of y hy e))
 rw [exec_Assign_Name_used _ _ _ _ hsw]
 refine wpAny_bind (wpAny_standAt (wpAny_bind ?_))
 show wpAny _ X.A (do let _ ← comprehension (.ListComp elt [⟨tg,iter,ifs,0⟩] sc pos) sc X.env _ (newList []) false (eval iter X.env) (some (assign (.Name y py) X.env))) _ _ s
 refine wpAny_bind (wpAny_mono (wpAny_comprehension_free (use:=some (assign (.Name y py) X.env)) (Q:=fun _ s'=>SP X pins D .next s') rfl hs hclos hkind hnames
  (thn (hi pins s σ H _ I q) fun v s1 h1=>thn h1 fun itv s2 h2=>?_)) (fun _ s' hq=>wpAny_pure (wpAny_pure hq)) fun _ _ e=>e)
 obtain ⟨it,fp,tn,J,H2,e,I2,T,st2,f2,q2⟩:=h2
 subst e
 refine zid (RR:=fun acc C=>compPost (model X.prog X.w) X.A X.xe (some (assign (.Name y py) X.env)) (fun _ s'=>SP X pins D .next s') acc C) (Q:=fun x H1=>zE i x σ H1 D.nx) hcalm hxe hkind hcell hfr hfv hg ht he I2 T st2 f2 q2 hcl1 hcl2 ?_
 intro p C m H' s' hm I' hC hCl hC0 hCc hCp q'
 show wpAny _ X.A (assign (.Name y py) X.env (.ref p)) _ _ _
 refine wpAny_assign_Name (zjm (v:=.ref p) I' hN hy (.inl hyl) rfl (fun s'' I'' hsb=>?_) (.inr hyl))
 obtain ⟨a,hsb,ha⟩:=hsb
 have hCa : C ≠ a:=by
  rcases ha with rfl | ha
  ·exact hCl
  ·exact fun e=>hCc _ _ ha e.symm
 refine ⟨m,hm.sameBut hsb hCa,fun h' hs'=>⟨_,H',I''.turned (t':=s''.toks) (fun b o hb e=>hs'.extBut b o hb e) hC hCl (.inr hC0) hCc hCp,q'⟩⟩
end
end My
namespace My
open PySem PySem.Spec PyProof.Rows L2
section
variable {σ : L2.St} {H : Hp} {K : PySem.W.Frag}
end
end My
namespace My
open PySem PySem.Spec PyProof.Rows L2
section
variable {X : Cx} {tg : Expr}
end
end My
namespace My
open PySem PySem.Spec PyProof.Rows L2
mutual
inductive Dt (K : PySem.W.Frag) (H : Hp) : V→PyData→Prop
 | non : Dt K H .non .none
 | bl (b : Bool) : Dt K H (.bl b) (.bool b)
 | int (i : Int) : Dt K H (.int i) (.int i)
 | tup {a : Addr} {xs : List V} {ds : List PyData} : SqT K H a xs→zij K H xs ds→Dt K H (.ref a) (.tuple ds)
 | lst {a : Addr} {xs : List V} {ds : List PyData} : SqL K H a xs→zij K H xs ds→Dt K H (.ref a) (.list ds)
inductive zij (K : PySem.W.Frag) (H : Hp) : List V→List PyData→Prop
 | nil : zij K H [] []
 | cons {x : V} {xs : List V} {d : PyData} {ds : List PyData} : Dt K H x d→zij K H xs ds→zij K H (x :: xs) (d :: ds)
end
section
variable {X : Cx} {pins : List (Addr × Obj)} {σ : L2.St} {H : Hp} {s : Shared}
end
end My
namespace My
open PySem PySem.Spec PyProof.Rows L2
section
variable {X : Cx} {pins : List (Addr × Obj)} {σ : L2.St} {H : Hp} {s : Shared}
theorem _root_.L2.Inv.turnNew {h' : Heap} {ch : List Addr} {a : Addr} {o : HO} {t' : Nat} (I : Inv X pins σ H s) (hf : ∀ b ∈ ch,zeI X pins H b) (k : ∀ b u,b ∉ ch→s.heap.get? b = some u→h'.get? b = some u) (ha : s.heap.objs.size ≤ a)
  (new : za0 X.prog X.w (upd H a o) h' a o) : Inv X pins σ (upd H a o) { s with heap:=h',toks:=t' }:=by
 have lt : ∀ b u,s.heap.get? b = some u→b ≠ a:=fun b u e z=>by
  have:=Heap.lt_size e
  rw [z] at this; exact Nat.lt_irrefl _ (Nat.lt_of_lt_of_le this ha)
 have ltH : ∀ b u,H b = some u→b ≠ a:=fun b u e z=>by
  have:=I.hok.lt e
  rw [z] at this; exact Nat.lt_irrefl _ (Nat.lt_of_lt_of_le this ha)
 have nch : ∀ b u,H b = some u→b ∉ ch:=fun b u e z=>by rw [(hf b z).1] at e; cases e
 refine I.step (g':=s.gens) (d':=s.drawn) (ch:=ch) (fun b hb=>⟨(hf b hb).2.2.2.1,(hf b hb).2.1,(hf b hb).2.2.2.2.1,(hf b hb).2.2.2.2.2⟩) (fun b u _ _ hc e _=>k b u hc e) (fun b u _ _ hc e _=>⟨u.slots,k b u hc e⟩)
  (fun b u _ e n=>by rw [zad (lt b u e)]; exact n) (fun b u hc e=>⟨u,k b u hc e⟩) (fun b xs e=>by rw [zad (ltH b _ e)]; exact e) (fun b u v e=>by rw [zad (ltH b _ e)]; exact e)
  (fun b ps e=>⟨#[],by rw [zad (ltH b _ e),e]; simp⟩) (fun m hm=>?_) (fun b u e=>?_) I.bare
 ·obtain ⟨ob,es,ep,ho,r⟩:=hm
  exact ⟨ob,es,ep,k _ ob (fun z=>(hf _ z).2.1 rfl) ho,r⟩
 ·by_cases hb : b = a
  ·subst hb
   rw [zaJ] at e
   cases e
   exact new
  ·rw [zad hb] at e
   refine (I.hok b u e).stay (fun c v hc q=>k c v ?_ q) (fun c q=>by rw [zad (ltH c _ q)]; exact q) fun c ys q=>by rw [zad (ltH c _ q)]; exact q
   rcases hc with z | z
   ·rw [z]; exact nch b u e
   ·exact nch c _ z
theorem _root_.L2.Inv.turnedL {h' : Heap} {ch : List Addr} {t' : Nat} (I : Inv X pins σ H s) (hf : ∀ b ∈ ch,zeI X pins H b) (k : ∀ b u,b ∉ ch→s.heap.get? b = some u→h'.get? b = some u) : Inv X pins σ H { s with heap:=h',toks:=t' }:=by
 have nch : ∀ b u,H b = some u→b ∉ ch:=fun b u e z=>by rw [(hf b z).1] at e; cases e
 refine I.step (g':=s.gens) (d':=s.drawn) (ch:=ch) (fun b hb=>⟨(hf b hb).2.2.2.1,(hf b hb).2.1,(hf b hb).2.2.2.2.1,(hf b hb).2.2.2.2.2⟩) (fun b u _ _ hc e _=>k b u hc e) (fun b u _ _ hc e _=>⟨u.slots,k b u hc e⟩)
  (fun b u _ e n=>n) (fun b u hc e=>⟨u,k b u hc e⟩) (fun b xs e=>e) (fun b u v e=>e) (fun b ps e=>⟨#[],by rw [e]; simp⟩) (fun m hm=>?_) (fun b u e=>?_) I.bare
 ·obtain ⟨ob,es,ep,ho,r⟩:=hm
  exact ⟨ob,es,ep,k _ ob (fun z=>(hf _ z).2.1 rfl) ho,r⟩
 ·refine (I.hok b u e).stay (fun c v hc q=>k c v ?_ q) (fun c q=>q) fun c ys q=>q
  rcases hc with z | z
  ·rw [z]; exact nch b u e
  ·exact nch c _ z
end
section
variable {X : Cx}
end
def Ite (K : PySem.W.Frag) (l : Addr) : It :=
  ⟨fun i H=>∃ xs x,SqL K H l xs∧xs[i]? = some x,
   fun i H v H'=>∃ p,v = .ref p∧H p = none∧∀ xs x,SqL K H l xs→xs[i]? = some x→H' = upd H p (.tup [.int i,x]),
   fun i H=>∃ xs,SqL K H l xs∧xs.length ≤ i⟩
theorem znS {P : Program} {w : World} {K : PySem.W.Frag} {es : List Expr} {kk : Nat} {pos : Pos} {e it l : Addr} (hne : e ≠ it) :
  Turn P w K (.Tuple es kk pos) (Ite K l) [e,it] e (fun i h=>(∃ old,IsEnum h e it i old)∧h.IsListIter it l i) where
 mem:=by simp
 obj:=fun i h st b hb=>by
  obtain ⟨⟨old,he⟩,⟨o1,h1,_,h1d⟩⟩:=st
  simp only [List.mem_cons,List.not_mem_nil,or_false] at hb
  rcases hb with rfl | rfl
  ·exact ⟨_,he,fun v q=>by cases (show Data.fields _ = Data.cell v from q)⟩
  ·exact ⟨_,h1,fun v q=>by rw [h1d] at q; cases q⟩
 keep:=fun i h h' st k=>by
  obtain ⟨⟨old,he⟩,h1⟩:=st
  exact ⟨⟨old,k e (by simp) _ he⟩,h1.at fun o q=>k it (by simp) o q⟩
 item:=by
  intro X hP hw hK hc i pins s σ H E I hf st hg
  subst hP hw hK
  obtain ⟨⟨old,he⟩,h1⟩:=st
  obtain ⟨xs,x,hx1,hx⟩:=hg
  obtain ⟨its,rx,px,zx⟩:=I.list hx1
  obtain ⟨u,hu,ru⟩:=Vals.get rx hx
  refine wpAny_pyNext_enum_item he h1 px.isList (by simpa using hu) hne fun h' a1 a2 a3 a4 hk=>?_
  refine ⟨_,rfl,wpAny_letOwnedTupleGo_enum (s:={ s with heap:=h',toks:=s.toks + 1 }) a1 fun h'' he'' hs''=>?_⟩
  have lt : ∀ {c o},s.heap.get? c = some o→s.heap.objs.size ≠ c:=fun q=>Nat.ne_of_gt (Heap.lt_size q)
  have k2 : ∀ b u,b ∉ [e,it]→s.heap.get? b = some u→h''.get? b = some u:=fun b u hb q=>by
   simp only [List.mem_cons,List.not_mem_nil,or_false,not_or] at hb
   exact hs''.extBut b u hb.1 (hk b u hb.1 hb.2 q)
  have new : h''.get? s.heap.objs.size = some { cls:=.type "tuple",data:=.seq #[.int i s.toks,u] }:=hs''.extBut _ _ (lt he) a3
  refine ⟨.ref s.heap.objs.size,upd H s.heap.objs.size (.tup [.int i,x]),I.turnNew (t':=s.toks + 1) hf k2 (Nat.le_refl _) ⟨by show 2 ≤ sizeLine; decide,[.int i s.toks,u],.cons ⟨_,rfl⟩ (.cons ru .nil),_,new,rfl,_,rfl⟩,rfl,⟨_,rfl,I.fresh,?_⟩,?_,fun b hb=>?_⟩
  ·intro xs' x' hx1' hx'
   cases I.list_inj hx1 hx1'
   rw [hx] at hx'
   cases hx'
   rfl
  ·exact ⟨⟨_,he''⟩,a2.extBut hs''.extBut (Ne.symm hne)⟩
  ·have : ∃ o,s.heap.get? b = some o:=by
    simp only [List.mem_cons,List.not_mem_nil,or_false] at hb
    obtain ⟨o1,e1,_⟩:=h1
    rcases hb with rfl | rfl
    ·exact ⟨_,he⟩
    ·exact ⟨_,e1⟩
   obtain ⟨o,q⟩:=this
   rw [zad (lt q).symm]
   exact (hf b hb).1
 done:=by
  intro X hP hw hK hc i pins s σ H E I hf st hg
  subst hP hw hK
  obtain ⟨⟨old,he⟩,h1⟩:=st
  obtain ⟨xs,hx1,hl⟩:=hg
  obtain ⟨its,rx,px,zx⟩:=I.list hx1
  have n1:=rx.length
  refine wpAny_pyNext_enum_end (I.ok.hd hc) he h1 px.isList (by rw [List.getElem?_toArray]; exact List.getElem?_eq_none (by omega)) fun h' hk=>⟨rfl,I.turnedL (t':=s.toks) hf fun b u hb q=>?_⟩
  simp only [List.mem_cons,List.not_mem_nil,or_false,not_or] at hb
  exact hk b u hb.2 q
 self:=fun _ _ _ _ _ st h=>by
  obtain ⟨⟨old,he⟩,_⟩:=st
  exact wpAny_pyIter_enum he h
section
variable {X : Cx}
end
end My
namespace My
open PySem PySem.Spec PyProof.Rows L2
end My
namespace My
open PySem PySem.Spec PyProof.Rows L2
def hT (x1 z1 x2 z2 a b : Int) : Int:=z1 * (x2 - x1) * b + (z2 - z1) * (a - x1 * b)
def hB (x1 x2 b : Int) : Int:=(x2 - x1) * b
section
variable {σ : L2.St} {H : Hp}
end
structure ziD (P : Program) (w : World) (K : PySem.W.Frag) (mg : Str→Option Value) (base : Heap) (k : Nat) (x : Str) (sp : Sp) : Prop where
 ex : ∃ (C f : Addr) (fd : FuncData) (ps : List Str) (sp0 : Sp),Mk K C f∧zZ P w K mg base CX0 k f fd ps sp0∧Binds K fd ps []∧mg x = some (.ref C) ∧
  ∀ vs H Q,sp vs H Q E0→∀ x dx,H x = none→H dx = none→dx ≠ x→sp0 (.ref x :: vs) (upd (upd H dx (.own x)) x (.ins C dx [])) (fun v H2=>v = .non∧Q (.ref x) H2) E0
theorem ztR {X : Cx} {k j : Nat} {x : Str} {sp : Sp} {p pos : Pos} {e : Expr} {es : List Expr} {t : TA} (G : ziD X.prog X.w X.K X.mg X.base k x sp) (hr : zaI j X.A) (hk : k + 1 ≤ j) (hg : Gl X x)
  (ha : PA X (e :: es) t) (hdb : (x == ("__debug__" : Str)) = false:=by decide) (he : starEach (e :: es) X.env = (false,eval e X.env) :: starEach es X.env:=by rfl) (hpl : (backTo pos (starEach es X.env)).any (·.1) = false:=by rfl) :
  PE X (.Call (.Name x p) (e :: es) [] pos) (zmf sp [] E0 t):=by
 intro pins s σ H Q I h
 obtain ⟨C,f,fd,ps,sp0,M,F,b,hm,imp⟩:=G.ex
 refine wpAny_Call_Name_kw (zfx I hg hm ?_ hdb)
 refine PySem.W.callWith_K (h₀:=X.base) I.ok.mod.kin M.kp (thn (ha pos pins s σ H _ I h) fun us s1 ⟨vs,H1,I1,r,q⟩=>⟨I1.kIn,?_⟩) he hpl
 have q' : sp (vs ++ []) H1 Q E0:=q
 rw [List.append_nil] at q'
 exact zo7 (dvs:=[]) (ds:=[]) M F (hr.mono hk) b .nil zpX I1 r fun x dx h1 h2 h3=>by rw [List.append_nil]; exact imp vs H1 Q q' x dx h1 h2 h3
theorem zq2 {X : Cx} {x : Str} {n : Int} {pos : Pos} (hg : Gl X x) (hm : ∃ t,X.mg x = some (.int n t)) (hd : (x == ("__debug__" : Str)) = false:=by decide) : PE X (.Name x pos) (tC (.int n)):=by
 obtain ⟨t,ht⟩:=hm
 exact zlJ (v:=.int n) hg ht ⟨t,rfl⟩ hd
section
variable {σ : L2.St} {H : Hp} {K : PySem.W.Frag}
end
end My
namespace My
open PySem PySem.Spec PyProof.Rows L2
section
variable {X : Cx} {K : PySem.W.Frag}
theorem ztu {pins : List (Addr × Obj)} {σ : L2.St} {H : Hp} {s : Shared} {p : Addr} {its : List Value} (_ : Inv X pins σ H s) (pl : PlainL s.heap p its.toArray) :
  p < s.heap.objs.size∧(s.heap.push { cls:=.type "list_iterator",data:=.fields #[.ref p,.int 0 0] }).IsListIter s.heap.objs.size p 0:=by
 obtain ⟨o,ho,_⟩:=pl.isList
 exact ⟨Heap.lt_size ho,_,Heap.get?_push_size _ rfl,rfl,rfl⟩
theorem ztp {H : Hp} {pins : List (Addr × Obj)} {σ : L2.St} {s : Shared} {h' : Heap} {tk : Nat} (I : Inv X pins σ H s) {o : Obj} (hk : ∀ b u,b ∉ [s.heap.objs.size]→(s.heap.push o).get? b = some u→h'.get? b = some u) :
  Inv X pins σ H { s with heap:=h',toks:=tk }:=I.kept (t':=tk) fun d u e=>hk d u (fun hm=>by
   have h1 : d = s.heap.objs.size:=by simpa using hm
   have h2:=Heap.lt_size e
   rw [h1] at h2
   exact Nat.lt_irrefl _ h2) (Heap.get?_push_of_some _ e)
def zvB (K : PySem.W.Frag) : List V→Hp→VK→Prop:=fun xs H Q=>∃ (p : Addr) (bs : List Bool),xs = [.ref p]∧SqL K H p (bs.map V.bl)∧Q (.bl (bs.all id)) H
theorem zpm {bs : List Bool} {its : List Value} (rv : Vals (bs.map V.bl) its) {i : Nat} {v : Value} (h : its.toArray[i]? = some v) : v = .bool (bs.getD i false):=by
 rw [← Array.getElem?_toList] at h
 have hi : i < its.length:=by
  rcases Nat.lt_or_ge i its.length with g | g
  ·exact g
  ·rw [List.getElem?_eq_none (by simpa using g)] at h; cases h
 have hl:=rv.length
 rw [List.length_map] at hl
 have e : (bs.map V.bl)[i]? = some (.bl (bs.getD i false)):=by
  rw [List.getElem?_map,List.getElem?_eq_getElem (by omega)]
  simp [List.getD_eq_getElem?_getD,List.getElem?_eq_getElem (show i < bs.length by omega)]
 obtain ⟨u,hu,ru⟩:=rv.get e
 rw [show its.toArray.toList = its from rfl,hu] at h
 cases h
 exact ru
theorem all_range (bs : List Bool) : (List.range bs.length).all (fun i=>bs.getD i false) = bs.all id:=by
 rw [Bool.eq_iff_iff,List.all_eq_true,List.all_eq_true]
 constructor
 ·intro h b hb
  obtain ⟨i,hi,rfl⟩:=List.mem_iff_getElem.mp hb
  simpa [List.getD_eq_getElem?_getD,List.getElem?_eq_getElem hi] using h i (List.mem_range.mpr hi)
 ·intro h i hi
  rw [List.mem_range] at hi
  have:=h bs[i] (List.getElem_mem hi)
  simpa [List.getD_eq_getElem?_getD,List.getElem?_eq_getElem hi] using this
theorem zno (hK : X.K = K) (hc : X.calm = true) : zaA X (.builtin "all") (zvB K):=fun pins s σ H xs us Q I r h=>by
 subst hK
 obtain ⟨p,bs,rfl,hS,q⟩:=h
 obtain ⟨u,rfl,ru⟩:=vals1 r
 cases ru
 obtain ⟨its,rv,pl,hz⟩:=I.list hS
 obtain ⟨lt,st⟩:=ztu I pl
 have hl:=rv.length
 rw [List.length_map] at hl
 have W:=Walks.list (prog:=X.prog) (w:=X.w) (A:=X.A.in1) (I.ok.hd hc) s.heap.objs.size p (Nat.ne_of_lt lt) its.toArray
 refine call_all_walk (wpAny_pyIter_list pl.isList ⟨s.heap.objs.size,[s.heap.objs.size,p],[s.heap.objs.size],_,_,_,fun i=>bs.getD i false,rfl,W,⟨st,pl.isList.push _⟩,?_,?_⟩)
 ·intro i v s' Q' E' hv hq
  rw [zpm rv hv]
  exact wpAny_truthy_bool hq
 ·intro h' tk hk
  rw [List.size_toArray,← hl,all_range]
  exact ⟨.bl _,H,ztp (s:=s) I hk,rfl,q⟩
def ztW (K : PySem.W.Frag) : List V→Hp→VK→Prop:=fun xs H Q=>∃ (p : Addr) (ns : List Int),xs = [.ref p]∧SqL K H p (ns.map V.int)∧0 < ns.length∧∀ m : Int,m ∈ ns→(∀ a ∈ ns,a ≤ m)→Q (.int m) H
def zuK (K : PySem.W.Frag) : List V→Hp→VK→Prop:=fun xs H Q=>∃ (p : Addr) (ns : List Int),xs = [.ref p]∧SqL K H p (ns.map V.int)∧0 < ns.length∧∀ m : Int,m ∈ ns→(∀ a ∈ ns,m ≤ a)→Q (.int m) H
theorem zfG : ∀ {ns : List Int} {its : List Value},Vals (ns.map V.int) its→∃ xs : Array (Int × Tok),its.toArray = intItems xs∧xs.toList.map (·.1) = ns
 | [],_,h=>by cases h; exact ⟨#[],by simp [intItems],rfl⟩
 | n :: ns,_,h=>by
  cases h with
  | cons r t =>
   obtain ⟨tk,rfl⟩:=r
   obtain ⟨xs,e1,e2⟩:=zfG t
   refine ⟨#[(n,tk)] ++ xs,?_,?_⟩
   ·apply Array.toList_inj.mp
    have:=congrArg Array.toList e1
    simp [intItems] at this ⊢
    exact this
   ·simp [e2]
theorem zm4 (hK : X.K = K) (hc : X.calm = true) : zaA X (.builtin "max") (ztW K):=fun pins s σ H xs us Q I r h=>by
 subst hK
 obtain ⟨p,ns,rfl,hS,hne,q⟩:=h
 obtain ⟨u,rfl,ru⟩:=vals1 r
 cases ru
 obtain ⟨its,rv,pl,hz⟩:=I.list hS
 obtain ⟨xs,e1,e2⟩:=zfG rv
 have hsz : 0 < xs.size:=by rw [← Array.length_toList,← List.length_map (f:=(·.1)),e2]; exact hne
 refine max_intList (I.ok.hd hc) (e1 ▸ pl.isList) hsz fun v h' tk hv hk=>?_
 obtain ⟨t,rfl⟩:=intItems_at hv
 obtain ⟨h1,h2⟩:=argBest_gt (numAt xs) (xs.size - 1)
 refine ⟨.int _,H,I.kept (t':=tk) hk,⟨t,rfl⟩,q _ ?_ fun a ha=>?_⟩
 ·rw [← e2,numAt_eq]; exact getD_mem (by rw [List.length_map,Array.length_toList]; omega)
 ·rw [← e2] at ha
  obtain ⟨j,hj,rfl⟩:=mem_getD ha
  rw [List.length_map,Array.length_toList] at hj
  rw [← numAt_eq]; exact h2 j (by omega)
theorem zn9 (hK : X.K = K) (hc : X.calm = true) : zaA X (.builtin "min") (zuK K):=fun pins s σ H xs us Q I r h=>by
 subst hK
 obtain ⟨p,ns,rfl,hS,hne,q⟩:=h
 obtain ⟨u,rfl,ru⟩:=vals1 r
 cases ru
 obtain ⟨its,rv,pl,hz⟩:=I.list hS
 obtain ⟨xs,e1,e2⟩:=zfG rv
 have hsz : 0 < xs.size:=by rw [← Array.length_toList,← List.length_map (f:=(·.1)),e2]; exact hne
 refine min_intList (I.ok.hd hc) (e1 ▸ pl.isList) hsz fun v h' tk hv hk=>?_
 obtain ⟨t,rfl⟩:=intItems_at hv
 obtain ⟨h1,h2⟩:=argBest_lt (numAt xs) (xs.size - 1)
 refine ⟨.int _,H,I.kept (t':=tk) hk,⟨t,rfl⟩,q _ ?_ fun a ha=>?_⟩
 ·rw [← e2,numAt_eq]; exact getD_mem (by rw [List.length_map,Array.length_toList]; omega)
 ·rw [← e2] at ha
  obtain ⟨j,hj,rfl⟩:=mem_getD ha
  rw [List.length_map,Array.length_toList] at hj
  rw [← numAt_eq]; exact h2 j (by omega)
def zuF (K : PySem.W.Frag) : List V→Hp→VK→Prop:=fun xs H Q=>∃ p ys,xs = [.ref p]∧((SqL K H p ys∧∀ l,H l = none→Q (.ref l) (upd H l (.tup ys)))∨(SqT K H p ys∧Q (.ref p) H))
theorem znk (hK : X.K = K) : zaA X (.type "tuple") (zuF K):=hK ▸ zjy
end
section
variable {X : Cx} {K : PySem.W.Frag}
def ztX (K : PySem.W.Frag) : R2:=fun x y H Q=>∃ l b xs zs,x = .ref l∧y = .ref b∧SqL K H l xs∧SqL K H b zs∧xs.length + zs.length ≤ sizeLine∧∀ p,H p = none→Q (.ref p) (upd H p (.lst (xs ++ zs)))
theorem zrs (hK : X.K = K) : OpR X (binaryOp .Add) (ztX K):=by
 subst hK
 intro pins s σ H x y v u Q I rx ry h
 obtain ⟨l,b,xs,zs,rfl,rfl,hH,hB,hz,q⟩:=h
 cases rx
 cases ry
 obtain ⟨its,r,pl,_⟩:=I.list hH
 obtain ⟨its2,r2,pl2,_⟩:=I.list hB
 obtain ⟨⟨cls,dd,data,sl⟩,ho,hc,n,hd⟩:=pl.isList
 obtain ⟨⟨cls2,dd2,data2,sl2⟩,ho2,hc2,n2,hd2⟩:=pl2.isList
 simp only at hc hd hc2 hd2
 subst hc hd hc2 hd2
 have e1:=r.length
 have e2:=r2.length
 refine concat_meets ⟨_,ho,rfl⟩ ⟨_,ho2,rfl⟩ noFill_list_add seq_list_add PySem.F.slot_list_add PySem.F.entry_list_add (PySem.F.args_list_add_2 _ _) (list_addW l b its.toArray its2.toArray n n2 dd dd2 sl sl2 (by rw [List.size_toArray,List.size_toArray]; omega)) ⟨ho,ho2,?_⟩
 have ea : its.toArray ++ its2.toArray = (its ++ its2).toArray:=by simp
 rw [ea]
 exact ⟨.ref _,_,I.lnew (t':=s.toks) (r.append r2) (by rw [List.length_append]; omega),rfl,q _ I.fresh⟩
end
end My
namespace My
open PySem PySem.Spec PyProof.Rows L2
section
variable {σ : L2.St} {K : PySem.W.Frag} {own : List Str} {fv : List Nat} {g : TG} {tc : TT} {te : TE} {R : Hp→Prop} {H1 : Hp} {p a : Addr} {xs : List V}
end
end My
namespace My
open PySem PySem.Spec PyProof.Rows L2
def ze1 (H : Hp) (ps : List Addr) (cs : List (Int × Int)) : Prop:=Paired (fun (p : Addr) (c : Int × Int)=>H p = some (.tup [.int c.1,.int c.2])) ps cs
theorem ze1.length {H : Hp} {ps : List Addr} {cs : List (Int × Int)} (h : ze1 H ps cs) : ps.length = cs.length:=Paired.length h
theorem za7 {α : Type} {xs : List α} {i : Nat} {x : α} (h : xs[i]? = some x) : i < xs.length:=by
 rcases Nat.lt_or_ge i xs.length with g | g
 ·exact g
 ·rw [List.getElem?_eq_none g] at h; cases h
end My
namespace My
open PySem PySem.W PyProof.Rows
def zah {α : Type} (lt : Nat→Nat→Bool) : KasT α→α
 | .ret a=>a
 | .ask i j k=>zah lt (k (lt i j))
theorem zde {α β : Type} (lt : Nat→Nat→Bool) (f : α→KasT β) : ∀ t : KasT α,zah lt (t.bind f) = zah lt (f (zah lt t))
 | .ret _=>rfl
 | .ask i j k=>zde lt f (k (lt i j))
structure Swo (lt : Nat→Nat→Bool) : Prop where
 asymm : ∀ a b,lt a b = true→lt b a = false
 ntrans : ∀ a b c,lt b a = false→lt c b = false→lt c a = false
section
variable {lt : Nat→Nat→Bool}
abbrev ga (p : Array Nat) (i : Nat) : Nat:=p.getD i 0
theorem zgj (p : Array Nat) (i : Nat) : ga p i = (p[i]?).getD 0:=by simp [ga,Array.getD_eq_getD_getElem?]
theorem zn0 {p : Array Nat} {src d : Nat} (hs : src < p.size) (hd : d ≤ src) (k : Nat) : ga (bubble p src d) k = if k = src - d then ga p src else if src - d < k∧k ≤ src then ga p (k - 1) else ga p k:=by
 rw [zgj,getElem?_bubble hs d hd]
 by_cases h1 : k = src - d
 ·rw [if_pos h1,if_pos h1,zgj]
 ·rw [if_neg h1,if_neg h1]
  by_cases h2 : src - d < k∧k ≤ src
  ·rw [if_pos h2,if_pos h2,zgj]
  ·rw [if_neg h2,if_neg h2,zgj]
theorem zcH {p : Array Nat} {i j : Nat} (hj : j ≤ p.size) (k : Nat) : ga (kas_rev p i j) k = if i ≤ k∧k < j then ga p (i + j - 1 - k) else ga p k:=by
  unfold kas_rev
  rw [zgj,getElem?_mirror_all hj]
  split <;> rw [zgj]
def Asc (lt : Nat→Nat→Bool) (p : Array Nat) (n : Nat) : Prop:=∀ i j,i ≤ j→j < n→lt (ga p j) (ga p i) = false
def Dsc (lt : Nat→Nat→Bool) (p : Array Nat) (n : Nat) : Prop:=∀ i j,i ≤ j→j < n→lt (ga p i) (ga p j) = false
def Eqs (lt : Nat→Nat→Bool) (p : Array Nat) (a b : Nat) : Prop:=∀ i j,a ≤ i→i < b→a ≤ j→j < b→lt (ga p i) (ga p j) = false
theorem irr (S : Swo lt) (a : Nat) : lt a a = false:=by
 cases h : lt a a with
 | false=>rfl
 | true=>have:=S.asymm a a h; rw [h] at this; exact this
theorem Asc.snoc (S : Swo lt) {p : Array Nat} {n : Nat} (h1 : 1 ≤ n) (h : Asc lt p n) (hn : lt (ga p n) (ga p (n - 1)) = false) : Asc lt p (n + 1):=by
 intro i j hij hj
 rcases Nat.lt_or_ge j n with g | g
 ·exact h i j hij g
 ·have e : j = n:=by omega
  subst e
  rcases Nat.lt_or_ge i j with g' | g'
  ·exact S.ntrans (ga p i) (ga p (j - 1)) (ga p j) (h i (j - 1) (by omega) (by omega)) hn
  ·have : i = j:=by omega
   subst this
   exact irr S _
theorem Dsc.snoc (S : Swo lt) {p : Array Nat} {n : Nat} (h1 : 1 ≤ n) (h : Dsc lt p n) (hn : lt (ga p (n - 1)) (ga p n) = false) : Dsc lt p (n + 1):=by
 intro i j hij hj
 rcases Nat.lt_or_ge j n with g | g
 ·exact h i j hij g
 ·have e : j = n:=by omega
  subst e
  rcases Nat.lt_or_ge i j with g' | g'
  ·exact S.ntrans (ga p j) (ga p (j - 1)) (ga p i) hn (h i (j - 1) (by omega) (by omega))
  ·have : i = j:=by omega
   subst this
   exact irr S _
theorem Dsc.rev {p : Array Nat} {n : Nat} (hn : n ≤ p.size) (h : Dsc lt p n) : Asc lt (kas_rev p 0 n) n:=by
 intro i j hij hj
 rw [zcH hn,zcH hn,if_pos ⟨by omega,hj⟩,if_pos ⟨by omega,by omega⟩]
 exact h _ _ (by omega) (by omega)
theorem Asc.rev {p : Array Nat} {n : Nat} (hn : n ≤ p.size) (h : Asc lt p n) : Dsc lt (kas_rev p 0 n) n:=by
 intro i j hij hj
 rw [zcH hn,zcH hn,if_pos ⟨by omega,by omega⟩,if_pos ⟨by omega,by omega⟩]
 exact h _ _ (by omega) (by omega)
theorem Dsc.turn (S : Swo lt) {p : Array Nat} {n a : Nat} (hn : n ≤ p.size) (ha : a ≤ n) (h : Dsc lt p n) (he : Eqs lt p a n) : Dsc lt (kas_rev p a n) n:=by
 intro i j hij hj
 rw [zcH hn,zcH hn]
 by_cases hi : a ≤ i
 ·rw [if_pos ⟨hi,by omega⟩,if_pos ⟨by omega,hj⟩]
  exact he _ _ (by omega) (by omega) (by omega) (by omega)
 ·rw [if_neg (by omega)]
  by_cases hj' : a ≤ j
  ·rw [if_pos ⟨hj',hj⟩]
   exact h _ _ (by omega) (by omega)
  ·rw [if_neg (by omega)]
   exact h _ _ hij hj
theorem zc1 {p : Array Nat} {i j : Nat} : (kas_rev p i j).size = p.size:=mirror_size _ _ _ _
theorem zbT {p : Array Nat} {i j : Nat} : (kas_rev p i j).Perm p:=mirror_perm _ _ _ _
theorem zkI (S : Swo lt) (p : Array Nat) : ∀ f n,1 ≤ n→Asc lt p n→Asc lt p (zah lt (kas_asc p f n))∧n ≤ zah lt (kas_asc p f n)∧zah lt (kas_asc p f n) ≤ n + f∧(zah lt (kas_asc p f n) < n + f→lt (ga p (zah lt (kas_asc p f n))) (ga p (zah lt (kas_asc p f n) - 1)) = true)
 | 0,n,_,h=>⟨h,Nat.le_refl _,Nat.le_refl _,fun z=>absurd z (Nat.lt_irrefl _)⟩
 | f + 1,n,h1,h=>by
  cases hc : lt (ga p n) (ga p (n - 1)) with
  | true =>
   have e : zah lt (kas_asc p (f + 1) n) = n:=by
    show zah lt (if lt (ga p n) (ga p (n - 1)) = true then KasT.ret n else kas_asc p f (n + 1)) = n
    rw [if_pos hc]; rfl
   rw [e]
   exact ⟨h,Nat.le_refl _,by omega,fun _=>hc⟩
  | false =>
   have e : zah lt (kas_asc p (f + 1) n) = zah lt (kas_asc p f (n + 1)):=by
    show zah lt (if lt (ga p n) (ga p (n - 1)) = true then KasT.ret n else kas_asc p f (n + 1)) = _
    rw [if_neg (by rw [hc]; exact Bool.false_ne_true)]
   rw [e]
   obtain ⟨a1,a2,a3,a4⟩:=zkI S p f (n + 1) (by omega) (h.snoc S h1 hc)
   exact ⟨a1,by omega,by omega,fun z=>a4 (by omega)⟩
theorem zgT (S : Swo lt) : ∀ f (p : Array Nat) n q, 1 ≤ n → n + f ≤ p.size → q + 1 ≤ n → Dsc lt p n → Eqs lt p (n - (q + 1)) n →
    let r:=zah lt (kas_desc f p n q)
    r.1.size = p.size∧r.1.Perm p∧n ≤ r.2.1∧r.2.1 ≤ n + f∧r.2.2 + 1 ≤ r.2.1∧Dsc lt r.1 r.2.1∧Eqs lt r.1 (r.2.1 - (r.2.2 + 1)) r.2.1
  | 0,p,n,q,h1,hz,hq,h,he=>⟨rfl,Array.Perm.refl _,Nat.le_refl _,Nat.le_refl _,hq,h,he⟩
  | f + 1,p,n,q,h1,hz,hq,h,he=>by
    have one : ∀ p' : Array Nat,Eqs lt p' (n + 1 - (0 + 1)) (n + 1):=fun p' i j a b c d=>by
      have e1 : i = n:=by omega
      have e2 : j = n:=by omega
      subst e1; subst e2
      exact irr S _
    cases hc : lt (ga p n) (ga p (n - 1)) with
    | true =>
      have hn : lt (ga p (n - 1)) (ga p n) = false:=S.asymm _ _ hc
      by_cases hq0 : q > 0
      · have e : zah lt (kas_desc (f + 1) p n q) = zah lt (kas_desc f (kas_rev p (n - (q + 1)) n) (n + 1) 0) := by
          show zah lt (if lt (ga p n) (ga p (n - 1)) = true then (if q > 0 then kas_desc f (kas_rev p (n - (q + 1)) n) (n + 1) 0 else kas_desc f p (n + 1) 0) else _) = _
          rw [if_pos hc,if_pos hq0]
        have ht:=h.turn S (a:=n - (q + 1)) (by omega) (by omega) he
        have k1 : ga (kas_rev p (n - (q + 1)) n) n = ga p n:=by rw [zcH (by omega),if_neg (by omega)]
        have k2 : ga (kas_rev p (n - (q + 1)) n) (n - 1) = ga p (n - (q + 1)):=by
          rw [zcH (by omega),if_pos ⟨by omega,by omega⟩]
          congr 1; omega
        have hs:=Dsc.snoc S (p:=kas_rev p (n - (q + 1)) n) h1 ht (by
          rw [k1,k2]
          exact S.ntrans (ga p n) (ga p (n - 1)) (ga p (n - (q + 1))) hn (he _ _ (by omega) (by omega) (by omega) (by omega)))
        have ih:=zgT S f (kas_rev p (n - (q + 1)) n) (n + 1) 0 (by omega) (by rw [zc1]; omega) (by omega) hs (one _)
        rw [e]
        obtain ⟨a1,a2,a3,a4,a5,a6,a7⟩:=ih
        exact ⟨a1.trans zc1,a2.trans zbT,by omega,by omega,a5,a6,a7⟩
      · have e : zah lt (kas_desc (f + 1) p n q) = zah lt (kas_desc f p (n + 1) 0) := by
          show zah lt (if lt (ga p n) (ga p (n - 1)) = true then (if q > 0 then kas_desc f (kas_rev p (n - (q + 1)) n) (n + 1) 0 else kas_desc f p (n + 1) 0) else _) = _
          rw [if_pos hc,if_neg hq0]
        have ih:=zgT S f p (n + 1) 0 (by omega) (by omega) (by omega) (h.snoc S h1 hn) (one _)
        rw [e]
        obtain ⟨a1,a2,a3,a4,a5,a6,a7⟩:=ih
        exact ⟨a1,a2,by omega,by omega,a5,a6,a7⟩
    | false =>
      cases hd : lt (ga p (n - 1)) (ga p n) with
      | true =>
        have e : zah lt (kas_desc (f + 1) p n q) = (p,n,q):=by
          show zah lt (if lt (ga p n) (ga p (n - 1)) = true then _ else KasT.ask (ga p (n - 1)) (ga p n) fun d=>if d = true then .ret (p,n,q) else kas_desc f p (n + 1) (q + 1)) = _
          rw [if_neg (by rw [hc]; exact Bool.false_ne_true)]
          show zah lt (if lt (ga p (n - 1)) (ga p n) = true then _ else _) = _
          rw [if_pos hd]; rfl
        rw [e]
        exact ⟨rfl,Array.Perm.refl _,Nat.le_refl _,by show n ≤ _; omega,hq,h,he⟩
      | false =>
        have e : zah lt (kas_desc (f + 1) p n q) = zah lt (kas_desc f p (n + 1) (q + 1)):=by
          show zah lt (if lt (ga p n) (ga p (n - 1)) = true then _ else KasT.ask (ga p (n - 1)) (ga p n) fun d=>if d = true then .ret (p,n,q) else kas_desc f p (n + 1) (q + 1)) = _
          rw [if_neg (by rw [hc]; exact Bool.false_ne_true)]
          show zah lt (if lt (ga p (n - 1)) (ga p n) = true then _ else _) = _
          rw [if_neg (by rw [hd]; exact Bool.false_ne_true)]
        have heq : Eqs lt p (n + 1 - (q + 1 + 1)) (n + 1):=by
          intro i j a b c d
          rcases Nat.lt_or_ge i n with gi | gi <;> rcases Nat.lt_or_ge j n with gj | gj
          · exact he i j (by omega) gi (by omega) gj
          · have : j = n:=by omega
            subst this
            exact S.ntrans (ga p j) (ga p (j - 1)) (ga p i) hd (he i (j - 1) (by omega) gi (by omega) (by omega))
          · have : i = n:=by omega
            subst this
            exact S.ntrans (ga p j) (ga p (i - 1)) (ga p i) (he (i - 1) j (by omega) (by omega) (by omega) gj) hc
          · have e1 : i = n:=by omega
            have e2 : j = n:=by omega
            subst e1; subst e2
            exact irr S _
        have ih:=zgT S f p (n + 1) (q + 1) (by omega) (by omega) (by omega) (h.snoc S h1 hd) heq
        rw [e]
        obtain ⟨a1,a2,a3,a4,a5,a6,a7⟩:=ih
        exact ⟨a1,a2,by omega,by omega,a5,a6,a7⟩
def zhd (lt : Nat→Nat→Bool) (p : Array Nat) (nrem : Nat) (r : Nat × Array Nat) : Prop:=r.2.size = p.size∧r.2.Perm p∧1 ≤ r.1∧r.1 ≤ nrem∧Asc lt r.2 r.1
theorem zlO (S : Swo lt) {p : Array Nat} {n nrem : Nat} (h1 : 1 ≤ n) (hn : n ≤ nrem) (hz : nrem ≤ p.size) (h : Dsc lt p n) : zhd lt p nrem (zah lt (kas_tail3 n nrem p)):=by
 have e : zah lt (kas_tail3 n nrem p) = (zah lt (kas_asc (kas_rev p 0 n) (nrem - n) n),kas_rev p 0 n):=by
  unfold kas_tail3; rw [zde]; rfl
 rw [e]
 obtain ⟨a1,a2,a3,_⟩:=zkI S (kas_rev p 0 n) (nrem - n) n h1 (h.rev (by omega))
 exact ⟨zc1,zbT,by show 1 ≤ zah lt _; omega,by show zah lt _ ≤ nrem; omega,a1⟩
theorem zhv (S : Swo lt) {p : Array Nat} {n nrem : Nat} (h1 : 1 ≤ n) (hn : n + 1 ≤ nrem) (hz : nrem ≤ p.size) (h : Dsc lt p (n + 1)) : zhd lt p nrem (zah lt (kas_descPart n nrem p)):=by
 unfold kas_descPart
 rw [zde]
 have d:=zgT S (nrem - (n + 1)) p (n + 1) 0 (by omega) (by omega) (by omega) h (fun i j a b c d=>by
  have e1 : i = n:=by omega
  have e2 : j = n:=by omega
  subst e1; subst e2
  exact irr S _)
 dsimp only at d
 generalize zah lt (kas_desc (nrem - (n + 1)) p (n + 1) 0) = r at d ⊢
 obtain ⟨a1,a2,a3,a4,a5,a6,a7⟩:=d
 by_cases hq : r.2.2 > 0
 ·rw [if_pos hq]
  obtain ⟨b1,b2,b3,b4,b5⟩:=zlO S (p:=kas_rev r.1 (r.2.1 - (r.2.2 + 1)) r.2.1) (n:=r.2.1) (nrem:=nrem) (by omega) (by omega) (by rw [zc1]; omega) (a6.turn S (by omega) (by omega) a7)
  exact ⟨b1.trans (zc1.trans a1),b2.trans (zbT.trans a2),b3,b4,b5⟩
 ·rw [if_neg hq]
  obtain ⟨b1,b2,b3,b4,b5⟩:=zlO S (p:=r.1) (n:=r.2.1) (nrem:=nrem) (by omega) (by omega) (by omega) a6
  exact ⟨b1.trans a1,b2.trans a2,b3,b4,b5⟩
theorem zpo (S : Swo lt) {p : Array Nat} {nrem : Nat} (h1 : 1 ≤ nrem) (hz : nrem ≤ p.size) : zhd lt p nrem (zah lt (kas_count nrem p)):=by
 unfold kas_count
 rw [zde]
 have h0 : Asc lt p 1:=fun i j a b=>by
  have e1 : i = 0:=by omega
  have e2 : j = 0:=by omega
  subst e1; subst e2
  exact irr S _
 obtain ⟨a1,a2,a3,a4⟩:=zkI S p (nrem - 1) 1 (Nat.le_refl _) h0
 generalize zah lt (kas_asc p (nrem - 1) 1) = n at a1 a2 a3 a4 ⊢
 by_cases hn : (n == nrem) = true
 ·rw [if_pos hn]
  have : n = nrem:=by simpa using hn
  exact ⟨rfl,Array.Perm.refl _,a2,by show n ≤ nrem; omega,a1⟩
 ·rw [if_neg hn]
  have hne : n ≠ nrem:=by simpa using hn
  have hlt:=a4 (by omega)
  by_cases hn1 : n > 1
  ·rw [if_pos hn1]
   show zhd lt p nrem (zah lt (if lt (ga p 0) (ga p (n - 1)) = true then KasT.ret (n,p) else kas_descPart n nrem (kas_rev p 0 n)))
   cases hc : lt (ga p 0) (ga p (n - 1)) with
   | true=>rw [if_pos rfl]; exact ⟨rfl,Array.Perm.refl _,a2,by show n ≤ nrem; omega,a1⟩
   | false =>
    rw [if_neg Bool.false_ne_true]
    have hd:=a1.rev (n:=n) (by omega)
    have hs:=Dsc.snoc S (p:=kas_rev p 0 n) a2 hd (by
     have k1 : ga (kas_rev p 0 n) n = ga p n:=by rw [zcH (by omega),if_neg (by omega)]
     have k2 : ga (kas_rev p 0 n) (n - 1) = ga p 0:=by rw [zcH (by omega),if_pos ⟨by omega,by omega⟩]; congr 1; omega
     rw [k1,k2]
     exact S.ntrans (ga p n) (ga p (n - 1)) (ga p 0) (S.asymm _ _ hlt) hc)
    obtain ⟨b1,b2,b3,b4,b5⟩:=zhv S (p:=kas_rev p 0 n) (n:=n) (nrem:=nrem) a2 (by omega) (by rw [zc1]; omega) hs
    exact ⟨b1.trans zc1,b2.trans zbT,b3,b4,b5⟩
  ·rw [if_neg hn1]
   have e : n = 1:=by omega
   subst e
   exact zhv S (Nat.le_refl _) (by omega) hz (Dsc.snoc S (Nat.le_refl _) (fun i j a b=>by
    have e1 : i = 0:=by omega
    have e2 : j = 0:=by omega
    subst e1; subst e2
    exact irr S _) (S.asymm _ _ hlt))
theorem zhP (S : Swo lt) {p : Array Nat} {k : Nat} (h : Asc lt p k) : ∀ f l r,l ≤ r→r ≤ k→r - l ≤ f→(∀ i,i < l→lt (ga p k) (ga p i) = false)→(∀ i,r ≤ i→i < k→lt (ga p k) (ga p i) = true) →
  let m:=zah lt (kas_place p k f l r)
  m ≤ k∧(∀ i,i < m→lt (ga p k) (ga p i) = false)∧(∀ i,m ≤ i→i < k→lt (ga p k) (ga p i) = true)
 | 0,l,r,h1,h2,h3,hl,hr=>by
  have : l = r:=by omega
  subst this
  exact ⟨h2,hl,hr⟩
 | f + 1,l,r,h1,h2,h3,hl,hr=>by
  by_cases hlr : l ≥ r
  ·have e : zah lt (kas_place p k (f + 1) l r) = l:=by
    unfold kas_place; rw [if_pos hlr]; rfl
   rw [e]
   have : l = r:=by omega
   subst this
   exact ⟨h2,hl,hr⟩
  ·have e : zah lt (kas_place p k (f + 1) l r) = zah lt (if lt (ga p k) (ga p ((l + r) / 2)) = true then kas_place p k f l ((l + r) / 2) else kas_place p k f ((l + r) / 2 + 1) r):=by
    conv=>lhs; unfold kas_place
    rw [if_neg hlr]; rfl
   rw [e]
   cases hc : lt (ga p k) (ga p ((l + r) / 2)) with
   | true =>
    rw [if_pos rfl]
    refine zhP S h f l ((l + r) / 2) (by omega) (by omega) (by omega) hl fun i hi hik=>?_
    cases hx : lt (ga p k) (ga p i) with
    | true=>rfl
    | false =>
     have:=S.ntrans (ga p ((l + r) / 2)) (ga p i) (ga p k) (h _ _ hi hik) hx
     rw [hc] at this; exact this.symm
   | false =>
    rw [if_neg Bool.false_ne_true]
    refine zhP S h f ((l + r) / 2 + 1) r (by omega) h2 (by omega) (fun i hi=>?_) hr
    exact S.ntrans (ga p i) (ga p ((l + r) / 2)) (ga p k) (h _ _ (by omega) (by omega)) hc
theorem zof (S : Swo lt) : ∀ f (p : Array Nat) k,k + f ≤ p.size→Asc lt p k→let r:=zah lt (kas_bin f p k); r.size = p.size∧r.Perm p∧Asc lt r (k + f)
 | 0,p,k,_,h=>⟨rfl,Array.Perm.refl _,h⟩
 | f + 1,p,k,hz,h=>by
  have e : zah lt (kas_bin (f + 1) p k) = zah lt (kas_bin f (bubble p k (k - zah lt (kas_place p k k 0 k))) (k + 1)):=by
   show zah lt ((kas_place p k k 0 k).bind fun l=>kas_bin f (bubble p k (k - l)) (k + 1)) = _
   rw [zde]
  rw [e]
  obtain ⟨m1,m2,m3⟩:=zhP S h k 0 k (Nat.zero_le _) (Nat.le_refl _) (by omega) (fun i hi=>absurd hi (by omega)) (fun i hi hik=>absurd hi (by omega))
  generalize zah lt (kas_place p k k 0 k) = m at m1 m2 m3 ⊢
  have hb : ∀ i,ga (bubble p k (k - m)) i = if i = m then ga p k else if m < i∧i ≤ k then ga p (i - 1) else ga p i:=fun i=>by
   rw [zn0 (by omega) (by omega),show k - (k - m) = m by omega]
  have hs : Asc lt (bubble p k (k - m)) (k + 1):=by
   intro i j hij hj
   rw [hb,hb]
   by_cases hi : i = m
   ·rw [if_pos hi]
    by_cases hjm : j = m
    ·rw [if_pos hjm]; exact irr S _
    ·rw [if_neg hjm,if_pos ⟨by omega,by omega⟩]
     exact S.asymm _ _ (m3 (j - 1) (by omega) (by omega))
   ·rw [if_neg hi]
    by_cases hjm : j = m
    ·rw [if_pos hjm,if_neg (by omega)]
     exact m2 i (by omega)
    ·rw [if_neg hjm]
     by_cases hi2 : m < i
     ·rw [if_pos (show m < i∧i ≤ k from ⟨hi2,by omega⟩),if_pos (show m < j∧j ≤ k from ⟨by omega,by omega⟩)]
      exact h _ _ (by omega) (by omega)
     ·rw [if_neg (show ¬ (m < i∧i ≤ k) by omega)]
      by_cases hj2 : m < j
      ·rw [if_pos (show m < j∧j ≤ k from ⟨hj2,by omega⟩)]
       exact h _ _ (by omega) (by omega)
      ·rw [if_neg (show ¬ (m < j∧j ≤ k) by omega)]
       exact h _ _ hij (by omega)
  obtain ⟨a1,a2,a3⟩:=zof S f (bubble p k (k - m)) (k + 1) (by rw [bubble_size]; omega) hs
  exact ⟨a1.trans (bubble_size _ _ _),a2.trans (bubble_perm _ _ _),by rw [show k + (f + 1) = k + 1 + f by omega]; exact a3⟩
theorem zre (S : Swo lt) {n : Nat} (h1 : 1 ≤ n) : (zah lt (kas_sort n)).size = n∧(zah lt (kas_sort n)).Perm (List.toArray (List.range n))∧Asc lt (zah lt (kas_sort n)) n:=by
 unfold kas_sort
 rw [zde]
 obtain ⟨a1,a2,a3,a4,a5⟩:=zpo S (p:=List.toArray (List.range n)) (nrem:=n) h1 (by simp)
 generalize zah lt (kas_count n (List.toArray (List.range n))) = r at a1 a2 a3 a4 a5 ⊢
 have hsz : (List.toArray (List.range n)).size = n:=by simp
 by_cases hr : r.1 < n
 ·rw [if_pos hr]
  have em : max r.1 1 = r.1:=by omega
  rw [em]
  obtain ⟨b1,b2,b3⟩:=zof S (n - r.1) r.2 r.1 (by omega) a5
  exact ⟨b1.trans (a1.trans hsz),b2.trans a2,by rw [show r.1 + (n - r.1) = n by omega] at b3; exact b3⟩
 ·rw [if_neg hr]
  have e : r.1 = n:=by omega
  rw [e] at a5
  exact ⟨a1.trans hsz,a2,a5⟩
def KIn {α : Type} (n : Nat) (post : α→Prop) : KasT α→Prop
 | .ret a=>post a
 | .ask i j k=>i < n∧j < n∧∀ b,KIn n post (k b)
theorem KIn.bind {α β : Type} {n : Nat} {post : α→Prop} {post' : β→Prop} {f : α→KasT β} (hf : ∀ a,post a→KIn n post' (f a)) : ∀ (t : KasT α),KIn n post t→KIn n post' (t.bind f)
 | .ret a,h=>hf a h
 | .ask i j k,h=>⟨h.1,h.2.1,fun b=>KIn.bind hf (k b) (h.2.2 b)⟩
def Ent (n : Nat) (p : Array Nat) : Prop:=∀ x ∈ p.toList,x < n
theorem Ent.at {n : Nat} {p : Array Nat} (h0 : 0 < n) (h : Ent n p) (i : Nat) : ga p i < n:=by
 rw [zgj]
 cases e : p[i]? with
 | none=>exact h0
 | some x =>
  rw [← Array.getElem?_toList] at e
  exact h x (List.mem_of_getElem? e)
theorem Ent.perm {n : Nat} {p r : Array Nat} (hp : r.Perm p) (h : Ent n p) : Ent n r:=fun x hx=>h x ((Array.perm_iff_toList_perm.mp hp).mem_iff.mp hx)
theorem zkP {n : Nat} {p : Array Nat} (h0 : 0 < n) (h : Ent n p) : ∀ f k,KIn n (fun _=>True) (kas_asc p f k)
 | 0,_=>trivial
 | f + 1,k=>⟨h.at h0 _,h.at h0 _,fun b=>by
  cases b with
  | true=>exact trivial
  | false=>exact zkP h0 h f (k + 1)⟩
theorem zg7 {n : Nat} (h0 : 0 < n) : ∀ f (p : Array Nat) k q,Ent n p→KIn n (fun r=>Ent n r.1) (kas_desc f p k q)
 | 0,p,k,q,h=>h
 | f + 1,p,k,q,h=>⟨h.at h0 _,h.at h0 _,fun b=>by
  cases b with
  | true =>
   show KIn n _ (if q > 0 then _ else _)
   by_cases hq : q > 0
   ·rw [if_pos hq]; exact zg7 h0 f _ _ _ (h.perm zbT)
   ·rw [if_neg hq]; exact zg7 h0 f _ _ _ h
  | false=>exact ⟨h.at h0 _,h.at h0 _,fun d=>by
    cases d with
    | true=>exact h
    | false=>exact zg7 h0 f _ _ _ h⟩⟩
theorem zlR {n k m : Nat} {p : Array Nat} (h0 : 0 < n) (h : Ent n p) : KIn n (fun r=>Ent n r.2) (kas_tail3 k m p):=by
 refine KIn.bind (post:=fun _=>True) (fun r _=>?_) _ (zkP h0 (h.perm zbT) _ _)
 exact h.perm zbT
theorem zhs {n k m : Nat} {p : Array Nat} (h0 : 0 < n) (h : Ent n p) : KIn n (fun r=>Ent n r.2) (kas_descPart k m p):=by
 refine KIn.bind (post:=fun r=>Ent n r.1) (fun r hr=>?_) _ (zg7 h0 _ _ _ _ h)
 by_cases hq : r.2.2 > 0
 ·rw [if_pos hq]; exact zlR h0 (hr.perm zbT)
 ·rw [if_neg hq]; exact zlR h0 hr
theorem zph {n m : Nat} {p : Array Nat} (h0 : 0 < n) (h : Ent n p) : KIn n (fun r=>Ent n r.2) (kas_count m p):=by
 refine KIn.bind (post:=fun _=>True) (fun k _=>?_) _ (zkP h0 h _ _)
 by_cases hk : (k == m) = true
 ·rw [if_pos hk]; exact h
 ·rw [if_neg hk]
  by_cases h1 : k > 1
  ·rw [if_pos h1]
   refine ⟨h.at h0 _,h.at h0 _,fun c=>?_⟩
   cases c with
   | true=>exact h
   | false=>exact zhs h0 (h.perm zbT)
  ·rw [if_neg h1]; exact zhs h0 h
theorem zhC {n : Nat} {p : Array Nat} {k : Nat} (h0 : 0 < n) (h : Ent n p) : ∀ f l r,KIn n (fun _=>True) (kas_place p k f l r)
 | 0,_,_=>trivial
 | f + 1,l,r=>by
  unfold kas_place
  by_cases hl : l ≥ r
  ·rw [if_pos hl]; exact trivial
  ·rw [if_neg hl]
   refine ⟨h.at h0 _,h.at h0 _,fun c=>?_⟩
   cases c with
   | true=>exact zhC h0 h f _ _
   | false=>exact zhC h0 h f _ _
theorem znL {n : Nat} (h0 : 0 < n) : ∀ f (p : Array Nat) k,Ent n p→KIn n (fun r=>Ent n r) (kas_bin f p k)
 | 0,p,k,h=>h
 | f + 1,p,k,h=>KIn.bind (post:=fun _=>True) (fun l _=>znL h0 f _ _ (h.perm (bubble_perm _ _ _))) _ (zhC h0 h _ _ _)
theorem zqh {n : Nat} (h0 : 0 < n) : KIn n (fun _=>True) (kas_sort n):=by
 refine KIn.bind (post:=fun r=>Ent n r.2) (fun r hr=>?_) _ (zph h0 (p:=List.toArray (List.range n)) (fun x hx=>by simpa using hx))
 by_cases h : r.1 < n
 ·rw [if_pos h]
  have hb:=znL h0 (n - max r.1 1) r.2 (max r.1 1) hr
  clear h
  generalize kas_bin (n - max r.1 1) r.2 (max r.1 1) = t at hb
  induction t with
  | ret a=>exact trivial
  | ask i j k ih=>exact ⟨hb.1,hb.2.1,fun b=>ih b (hb.2.2 b)⟩
 ·rw [if_neg h]; exact trivial
end
end My
namespace My
open PySem PySem.Spec PySem.W PyProof.Rows L2
def plt (a b : Int × Int) : Bool:=if a.1 = b.1 then decide (a.2 < b.2) else decide (a.1 < b.1)
theorem zlv (cs : List (Int × Int)) : Swo fun i j=>plt (cs.getD i (0,0)) (cs.getD j (0,0)) where
  asymm:=fun a b h=>by
    unfold plt at h ⊢
    generalize cs.getD a (0,0) = A at *
    generalize cs.getD b (0,0) = B at *
    split at h <;> split <;> simp at h ⊢ <;> omega
  ntrans:=fun a b c h1 h2=>by
    unfold plt at h1 h2 ⊢
    generalize cs.getD a (0,0) = A at *
    generalize cs.getD b (0,0) = B at *
    generalize cs.getD c (0,0) = C at *
    split at h1 <;> split at h2 <;> split <;> simp at h1 h2 ⊢ <;> omega
def PrV (h : Heap) (v : Value) (c : Int × Int) : Prop:=∃ (a : Addr) (o : Obj) (n : Nat) (t u : Tok),v = .ref a∧h.get? a = some o∧o.cls = .type "tuple"∧o.data = .seq #[.int c.1 t,.int c.2 u] n
theorem kwp {α : Type} {cmp : Nat→Nat→(Bool→Shared→Prop)→Shared→Prop} {lt : Nat→Nat→Bool} {n : Nat} {s : Shared} (hc : ∀ i j C,i < n→j < n→C (lt i j) s→cmp i j C s) {post : α→Prop} (Q : α→Shared→Prop) :
  ∀ t : KasT α,KIn n post t→Q (zah lt t) s→t.kasWp cmp Q s
 | .ret _,_,q=>q
 | .ask i j k,h,q=>hc i j _ h.1 h.2.1 (kwp hc Q (k (lt i j)) (h.2.2 _) q)
section
variable {prog : Program} {w : World} {A : Around} {E : Value→Shared→Prop} {s : Shared}
theorem zpy {v v' : Value} {c d : Int × Int} {Q : Bool→Shared→Prop} (h1 : PrV s.heap v c) (h2 : PrV s.heap v' d) (q : Q (plt c d) s) : wpAny (model prog w) A (keyLt' (tuples' true) v v') Q E s:=by
 obtain ⟨a,o,n,t,u,rfl,ho,_,hd⟩:=h1
 obtain ⟨a',o',n',t',u',rfl,ho',_,hd'⟩:=h2
 refine kat_lt ho hd ho' hd' ?_
 show KatLex prog w A true _ Q [(.int c.1 t,.int d.1 t'),(.int c.2 u,.int d.2 u')] 0 s
 refine kat_cons (wpAny_eqBool_int ?_)
 by_cases e : c.1 = d.1
 ·rw [show (c.1 == d.1) = true by simpa using e]
  refine kat_yes (kat_cons (wpAny_eqBool_int ?_))
  by_cases e2 : c.2 = d.2
  ·rw [show (c.2 == d.2) = true by simpa using e2]
   refine kat_yes (kat_nil ?_)
   have : plt c d = false:=by unfold plt; rw [if_pos e,e2]; simp
   rw [this] at q
   exact q
  ·rw [show (c.2 == d.2) = false by simpa using e2]
   refine kat_no ?_
   show wpAny (model prog w) A (oneLt' false _ _) Q _ s
   refine kat_one _ _ (lt_int ?_)
   have : plt c d = decide (c.2 < d.2):=by unfold plt; rw [if_pos e]
   rw [this] at q
   exact q
 ·rw [show (c.1 == d.1) = false by simpa using e]
  refine kat_no ?_
  show wpAny (model prog w) A (oneLt' true _ _) Q _ s
  refine oneLt_int ?_
  have : plt c d = decide (c.1 < d.1):=by unfold plt; rw [if_neg e]
  rw [this] at q
  exact q
theorem zkd {h : Heap} : ∀ {vs : List Value} {cs : List (Int × Int)},Paired (PrV h) vs cs→∃ fs : List Value,KatTups h vs fs∧fs.length = vs.length∧∀ f ∈ fs,∃ i t,f = .int i t
 | _,_,.nil=>⟨[],trivial,rfl,fun f hf=>absurd hf (by simp)⟩
 | _,_,.cons (a:=v) (b:=c) r t=>by
  obtain ⟨fs,k,hl,hf⟩:=zkd t
  obtain ⟨a,o,n,tk,u,rfl,ho,hc,hd⟩:=r
  refine ⟨.int c.1 tk :: fs,KatTups.cons ho hc hd rfl k,by simp [hl],fun f hm=>?_⟩
  rcases List.mem_cons.mp hm with rfl | hm
  ·exact ⟨_,_,rfl⟩
  ·exact hf f hm
theorem zeX {α β : Type} {F : α→β→Prop} {da : α} {db : β} : ∀ {l : List α} {m : List β},Paired F l m→∀ i,i < l.length→F (l.getD i da) (m.getD i db)
 | _,_,.nil,i,h=>absurd h (by simp)
 | _,_,.cons r _,0,_=>r
 | _ :: _,_ :: _,.cons _ t,i + 1,h=>zeX (da:=da) (db:=db) t i (by simpa using h)
theorem zh3 {a : Addr} {vs : List Value} {cs : List (Int × Int)} {n : Nat} {P : PySem.Fin→Shared→Prop} (ho : s.heap.get? a = some (seqObj "list" vs.toArray n)) (hv : Paired (PrV s.heap) vs cs) (h64 : vs.length < 64)
  (h : ∀ p : List Nat,p.Perm (List.range vs.length)→(∀ i j,i ≤ j→j < vs.length→plt (cs.getD (p.getD j 0) (0,0)) (cs.getD (p.getD i 0) (0,0)) = false) →
   P (.done (.ret .none)) { s with heap:=sortedHeap s.heap a vs (p.map fun i=>vs.getD i Value.none).toArray }) :
  wpAny (model prog w) A (Builtin.«list.sort» ⟨[.ref a],[]⟩) P E s:=by
 rw [list_sort_plain]
 have ha : a < s.heap.objs.size:=Heap.lt_size ho
 refine wpAny_bind (listItems_at ho rfl ?_)
 refine wpAny_bind (listUpdate_at ho rfl ?_)
 obtain ⟨e1,ho1⟩ : ∃ e1,(s.heap.update a (Obj.mapSeq fun _=>#[])).get? a = some (seqObj "list" #[] e1):=⟨_,get?_update_seq ho (fun _=>#[])⟩
 refine wpAny_bind (seqEpoch_at ho1 rfl ?_)
 refine wpAny_bind (wpAny_newTuple ?_)
 refine wpAny_bind (wpAny_newList ?_)
 refine wpAny_holding ?_
 have ho6 : (((s.heap.update a (Obj.mapSeq fun _=>#[])).push (seqObj "tuple" vs.toArray 0)).push (seqObj "list" #[] 0)).get? a = some (seqObj "list" #[] e1):=by
  rw [Heap.get?_push_ne _ _ _ (by rw [size_push',Heap.size_update]; exact Nat.ne_of_lt (Nat.lt_succ_of_lt ha)),Heap.get?_push_ne _ _ _ (by rw [Heap.size_update]; exact Nat.ne_of_lt ha)]
  exact ho1
 have keep : ∀ b u,b ≠ a→s.heap.get? b = some u→(((s.heap.update a (Obj.mapSeq fun _=>#[])).push (seqObj "tuple" vs.toArray 0)).push (seqObj "list" #[] 0)).get? b = some u:=fun b u hb hu=>by
  have hlt : b < s.heap.objs.size:=Heap.lt_size hu
  rw [Heap.get?_push_ne _ _ _ (by rw [size_push',Heap.size_update]; exact Nat.ne_of_lt (Nat.lt_succ_of_lt hlt)),Heap.get?_push_ne _ _ _ (by rw [Heap.size_update]; exact Nat.ne_of_lt hlt),Heap.get?_update_ne _ _ _ _ hb]
  exact hu
 have hv6 : Paired (PrV (((s.heap.update a (Obj.mapSeq fun _=>#[])).push (seqObj "tuple" vs.toArray 0)).push (seqObj "list" #[] 0))) vs cs:=Paired.imp' (fun v c hp=>by
  obtain ⟨b,o,m,t,u,rfl,hb,hc,hd⟩:=hp
  refine ⟨b,o,m,t,u,rfl,keep b o (fun e=>?_) hb,hc,hd⟩
  subst e
  rw [ho] at hb
  cases hb
  injection hc with hc
  exact absurd hc (by decide)) hv
 show wpAny (model prog w) A _ P E { s with heap:=((s.heap.update a (Obj.mapSeq fun _=>#[])).push (seqObj "tuple" vs.toArray 0)).push (seqObj "list" #[] 0) }
 have hh : sortedHeap s.heap a vs = fun out=>(((s.heap.update a (Obj.mapSeq fun _=>#[])).push (seqObj "tuple" vs.toArray 0)).push (seqObj "list" #[] 0)).update a (Obj.mapSeq fun _=>out):=rfl
 rw [hh] at h
 generalize ((s.heap.update a (Obj.mapSeq fun _=>#[])).push (seqObj "tuple" vs.toArray 0)).push (seqObj "list" #[] 0) = h6 at *
 dsimp only
 have hsz : vs.toArray.size = vs.length:=by simp
 by_cases h2 : vs.toArray.size < 2
 ·rw [if_pos h2,if_pos h2]
  refine wpAny_bind (wpAny_pure ?_)
  rw [StateT.run_pure]
  refine wpAny_bind (wpAny_pure ?_)
  dsimp only
  refine wpAny_bind (seqEpoch_at ho6 rfl ?_)
  refine wpAny_bind (listUpdate_at ho6 rfl ?_ (hsz2:=by rw [Array.size_map]; show (pairsOf vs).size ≤ _; rw [pairsOf_size,sizeLine_eq]; omega))
  simp only [bne_self_eq_false,Bool.false_eq_true,if_false]
  have q:=h (List.range vs.length) (List.Perm.refl _) (fun i j hij hj=>by
   have e1 : i = 0:=by omega
   have e2 : j = 0:=by omega
   subst e1; subst e2
   exact irr (zlv cs) _)
  have eo : (List.map (fun i=>vs.getD i Value.none) (List.range vs.length)).toArray = Array.map (·.2) (vs.toArray.zip vs.toArray):=by
   have hz : vs.length < 2:=by omega
   clear q h hv6 hh hv ho h64 hsz h2
   match vs,hz with
   | [],_=>simp
   | [x],_=>simp [List.range_succ]
  rw [eo] at q
  exact wpAny_pure q
 ·rw [if_neg h2,if_neg h2]
  have hn2 : 2 ≤ vs.length:=by omega
  obtain ⟨fs,kt,hfl,hfi⟩:=zkd hv6
  refine wpAny_bind (kat_kind (s:={ s with heap:=h6 }) (T:=.type "int") kt (by omega) (fun v hm=>?_) (by rfl) ?_)
  ·obtain ⟨i,t,rfl⟩:=hfi v hm
   exact Looks.of_pure rfl
  have cmp : ∀ (i j : Nat) (C : Bool→Shared→Prop),i < vs.length→j < vs.length→C (plt (cs.getD i (0,0)) (cs.getD j (0,0))) { s with heap:=h6 }→kas_ask prog w A (tuples' (Value.type "int" != Value.type "tuple")) vs i j C { s with heap:=h6 }:=fun i j C hi hj hC =>
   zpy (s:={ s with heap:=h6 }) (zeX hv6 i hi) (zeX hv6 j hj) hC
  refine wpAny_bind (wpAny_mono (kat_run (ks:=vs) (vs:=vs) (Q:=fun st' s'=>∃ p : Array Nat,p = zah (fun i j=>plt (cs.getD i (0,0)) (cs.getD j (0,0))) (kas_sort vs.length)∧s' = { s with heap:=h6 }∧arrOf st' = p.map (kas_item (vs.toArray.zip vs.toArray))∧failedOf st' = none)
   (G:=fun p s'=>p = zah (fun i j=>plt (cs.getD i (0,0)) (cs.getD j (0,0))) (kas_sort vs.length)∧s' = { s with heap:=h6 }) rfl hn2 h64 (fun p' st' s' a1 a2 a3 a4=>⟨p',a4.1,a4.2,a2,a3⟩) (kwp cmp _ _ (zqh (by omega)) ⟨rfl,rfl⟩)) ?_ fun _ _ e=>e)
  rintro ⟨⟨⟩,st'⟩ s' ⟨p,hp,rfl,har,hf⟩
  dsimp only
  obtain ⟨z1,z2,z3⟩:=zre (zlv cs) (n:=vs.length) (by omega)
  rw [← hp] at z1 z2 z3
  have hout:=kat_snds (vs:=vs) (ks:=vs) rfl har
  have hsz2 : (List.toArray (p.toList.map fun i=>vs.getD i Value.none)).size = vs.length:=by rw [List.size_toArray,List.length_map,Array.length_toList,z1]
  rw [hout]
  refine wpAny_bind (seqEpoch_at ho6 rfl ?_)
  refine wpAny_bind (listUpdate_at ho6 rfl ?_ (hsz2:=by rw [hsz2,sizeLine_eq]; omega))
  rw [hf]
  simp only [bne_self_eq_false,Bool.false_eq_true,if_false]
  refine wpAny_pure (h p.toList ?_ fun i j hij hj=>?_)
  ·have:=Array.perm_iff_toList_perm.mp z2
   simpa using this
  ·have e : ∀ k,p.toList.getD k 0 = ga p k:=fun k=>by rw [zgj,List.getD_eq_getElem?_getD,Array.getElem?_toList]
   rw [e,e]
   exact z3 i j hij hj
theorem zkH {l : Addr} {vs : List Value} {cs : List (Int × Int)} {Q : Value → Shared → Prop} (hl : s.heap.IsList l vs.toArray) (hv : Paired (PrV s.heap) vs cs) (h64 : vs.length < 64)
    (h : ∀ p : List Nat,p.Perm (List.range vs.length)→(∀ i j,i ≤ j→j < vs.length→plt (cs.getD (p.getD j 0) (0,0)) (cs.getD (p.getD i 0) (0,0)) = false) →
      Q (.ref (s.heap.objs.size + 1)) { s with heap:=sortedAll s.heap vs (p.map fun i=>vs.getD i Value.none).toArray }) :
    wpAny (model prog w) A (call (.builtin "sorted") [.ref l]) Q E s:=by
  refine Calls.call_function_entry kind_sorted plain_sorted entry_sorted (args_sorted1 _) ?_
  unfold Builtin.«sorted»
  refine wpAny_bind (m:=checkCount "sorted" 1 1 _) (wpAny_pure ?_)
  refine wpAny_bind (collect_list hl ?_)
  refine wpAny_bind (wpAny_newList ?_)
  have hsz : ((s.heap.push (seqObj "list" #[] 0)).update s.heap.objs.size (Obj.mapSeq (· ++ vs.toArray))).objs.size = s.heap.objs.size + 1:=by
    rw [Heap.size_update,size_push']
  have hoL : (((s.heap.push (seqObj "list" #[] 0)).update s.heap.objs.size (Obj.mapSeq (· ++ vs.toArray))).push (seqObj "list" vs.toArray 0)).get? (s.heap.objs.size + 1) = some (seqObj "list" vs.toArray 0):=by
    rw [← hsz]; exact Heap.get?_push_size _ rfl
  have keep : ∀ b o,s.heap.get? b = some o→(((s.heap.push (seqObj "list" #[] 0)).update s.heap.objs.size (Obj.mapSeq (· ++ vs.toArray))).push (seqObj "list" vs.toArray 0)).get? b = some o:=fun b o q=>by
    have hlt : b < s.heap.objs.size:=Heap.lt_size q
    rw [Heap.get?_push_ne _ _ _ (by rw [hsz]; exact Nat.ne_of_lt (Nat.lt_succ_of_lt hlt)),Heap.get?_update_ne _ _ _ _ (Nat.ne_of_lt hlt),Heap.get?_push_ne _ _ _ (Nat.ne_of_lt hlt)]
    exact q
  show wpAny _ _ _ _ _ { s with heap:=((s.heap.push (seqObj "list" #[] 0)).update s.heap.objs.size (Obj.mapSeq (· ++ vs.toArray))).push (seqObj "list" vs.toArray 0) }
  rw [hsz]
  refine wpAny_bind (wpAny_holding (wpAny_call_entry slot_list_sort ⟨_,hoL,rfl⟩ entry_list_sort (zh3 (s:={ s with heap:=((s.heap.push (seqObj "list" #[] 0)).update s.heap.objs.size (Obj.mapSeq (· ++ vs.toArray))).push (seqObj "list" vs.toArray 0) }) hoL (Paired.imp' (fun v c hp=>by
    obtain ⟨b,o,m,t,u,e,hb,hc,hd⟩:=hp
    exact ⟨b,o,m,t,u,e,keep b o hb,hc,hd⟩) hv) h64 fun p a1 a2=>⟨_,rfl,?_⟩) (args_list_sort _)))
  exact wpAny_pure ⟨_,rfl,h p a1 a2⟩
end
def zsE (K : PySem.W.Frag) : List V→Hp→VK→Prop:=fun xs H Q=>∃ (p : Addr) (ps : List Addr) (cs : List (Int × Int)),xs = [.ref p]∧SqL K H p (ps.map V.ref)∧ze1 H ps cs∧cs.length < 64 ∧
 ∀ (l : Addr) (ps' : List Addr) (cs' : List (Int × Int)),H l = none→ze1 H ps' cs'→cs'.Perm cs→cs'.Pairwise (fun a b=>plt b a = false)→Q (.ref l) (upd H l (.lst (ps'.map V.ref)))
theorem zjb : ∀ {ps : List Addr} {its : List Value},Vals (ps.map V.ref) its→its = ps.map Value.ref
 | [],_,h=>by cases h; rfl
 | p :: ps,_,h=>by
  cases h with
  | cons r t =>
   have:=zjb t
   cases r
   rw [this]; rfl
theorem zjs : ∀ ps : List Addr,Vals (ps.map V.ref) (ps.map Value.ref)
 | []=>.nil
 | _ :: ps=>.cons rfl (zjs ps)
theorem ziC {α : Type} (l : List α) (d : α) {p : List Nat} (h : p.Perm (List.range l.length)) : (p.map fun i=>l.getD i d).Perm l:=by
 have:=h.map fun i=>l.getD i d
 refine this.trans ?_
 have e : (List.range l.length).map (fun i=>l.getD i d) = l:=by
  apply List.ext_getElem
  ·simp
  ·intro i h1 h2
   simp [List.getD_eq_getElem?_getD,List.getElem?_eq_getElem h2]
 rw [e]
theorem zkq {X : Cx} {K : PySem.W.Frag} (hK : X.K = K) : zaA X (.builtin "sorted") (zsE K):=fun pins s σ H xs us Q I r h=>by
 subst hK
 obtain ⟨p,ps,cs,rfl,hS,hP,h64,q⟩:=h
 obtain ⟨u,rfl,ru⟩:=vals1 r
 cases ru
 obtain ⟨its,rv,pl,hz⟩:=I.list hS
 have ei:=zjb rv
 subst ei
 have hlen:=hP.length
 have prv : ∀ {ps : List Addr} {cs : List (Int × Int)},ze1 H ps cs→Paired (PrV s.heap) (ps.map Value.ref) cs:=by
  intro ps cs hP
  induction hP with
  | nil=>exact .nil
  | cons r t ih =>
   refine .cons ?_ ih
   obtain ⟨its2,r2,pl2,_⟩:=I.tuple (SqT.of r)
   obtain ⟨o,ho,hc,n,hd⟩:=pl2
   cases r2 with | cons x1 r2=>cases r2 with | cons x2 r2 =>
   cases r2
   obtain ⟨t1,rfl⟩:=x1
   obtain ⟨t2,rfl⟩:=x2
   exact ⟨_,o,n,t1,t2,rfl,ho,hc,hd⟩
 refine zkH pl.isList (prv hP) (by rw [List.length_map]; omega) fun pm hpm hso=>?_
 rw [List.length_map] at hpm hso
 have eo : (pm.map fun i=>(ps.map Value.ref).getD i Value.none) = (pm.map fun i=>ps.getD i 0).map Value.ref:=by
  rw [List.map_map]
  apply List.map_congr_left
  intro i hi
  have hi' : i < ps.length:=by simpa using hpm.mem_iff.mp hi
  simp [List.getD_eq_getElem?_getD,List.getElem?_eq_getElem hi']
 rw [eo]
 have hPl : (pm.map fun i=>ps.getD i 0).length = ps.length:=by rw [List.length_map,hpm.length_eq,List.length_range]
 obtain ⟨e,he⟩:=sortedAll_at s.heap (ps.map Value.ref) ((pm.map fun i=>ps.getD i 0).map Value.ref).toArray
 have hPr : ze1 H (pm.map fun i=>ps.getD i 0) (pm.map fun i=>cs.getD i (0,0)):=by
  have hb : ∀ i ∈ pm,i < ps.length:=fun i hi=>by simpa using hpm.mem_iff.mp hi
  clear eo hPl he hpm hso
  induction pm with
  | nil=>exact .nil
  | cons i pm ih=>exact .cons (zeX hP i (hb i (by simp))) (ih fun j hj=>hb j (by simp [hj]))
 refine ⟨.ref (s.heap.objs.size + 1),_,I.laid (t':=s.toks) (a:=s.heap.objs.size + 1) (o:=.lst ((pm.map fun i=>ps.getD i 0).map V.ref)) (fun b o q=>sortedAll_old q) (Nat.le_succ _) ⟨by rw [List.length_map,hPl]; have:=hz; rw [List.length_map] at this; exact this,_,e,zjs _,he⟩,rfl,q _ _ _ (I.hok.fresh (Nat.le_succ _)) hPr ?_ ?_⟩
 ·rw [hlen] at hpm
  exact ziC cs (0,0) hpm
 ·rw [List.pairwise_map,List.pairwise_iff_getElem]
  intro i j hi hj hij
  have:=hso i j (Nat.le_of_lt hij) (by rw [← List.length_range (n:=ps.length),← hpm.length_eq]; exact hj)
  simpa [List.getD_eq_getElem?_getD,List.getElem?_eq_getElem hi,List.getElem?_eq_getElem hj] using this
end My
namespace My
open PySem PySem.Spec PyProof.Rows L2
section
variable {K : PySem.W.Frag} {H : Hp}
end
def ztw (K : PySem.W.Frag) : R2:=fun x y H Q=>∃ a b xs ys,x = .ref a∧y = .ref b∧SqT K H a xs∧SqT K H b ys∧xs.length + ys.length ≤ sizeLine∧(xs = []→Q (.ref b) H)∧(xs ≠ []→ys = []→Q (.ref a) H)∧(xs ≠ []→ys ≠ []→∀ p,H p = none→Q (.ref p) (upd H p (.tup (xs ++ ys))))
theorem zoD {X : Cx} {K : PySem.W.Frag} (hK : X.K = K) : OpR X (binaryOp .Add) (ztw K):=by
 subst hK
 intro pins s σ H x y v u Q I rx ry h
 obtain ⟨a,b,xs,ys,rfl,rfl,ha,hb,hz,q0,q1,q2⟩:=h
 by_cases hx : xs = []
 ·subst hx
  cases rx
  cases ry
  obtain ⟨its,r1,p1,_⟩:=I.tuple ha
  obtain ⟨its2,r2,p2,_⟩:=I.tuple hb
  cases r1
  obtain ⟨⟨cls,dd,data,sl⟩,ho,hc,n,hd⟩:=id p1
  obtain ⟨⟨cls2,dd2,data2,sl2⟩,ho2,hc2,n2,hd2⟩:=id p2
  simp only at hc hd hc2 hd2
  subst hc hd hc2 hd2
  exact concat_meets ⟨_,ho,rfl⟩ ⟨_,ho2,rfl⟩ noFill_tuple_add seq_tuple_add PySem.F.slot_tuple_add PySem.F.entry_tuple_add (PySem.F.args_tuple_add_2 _ _)
   (tuple_addW0 a b _ its2.toArray n n2 dd dd2 sl sl2 (by simp)) ⟨ho,ho2,⟨.ref b,H,I,rfl,q0 rfl⟩⟩
 ·exact zqp pins s σ H _ _ v u Q I rx ry ⟨a,b,xs,ys,rfl,rfl,ha,hb,hx,hz,q1 hx,q2 hx⟩
end My
namespace Dp
open PySem
inductive D where
 | non | bl (b : Bool) | int (i : Int) | str (x : Str) | tup (xs : List D) | ref (n : Nat) | ty (n : String) | rl (xs : List D) | exn (c : Str)
 deriving Inhabited
inductive Cell where
 | lst (xs : List D) | ins (c : Str) (fs : List (Str × D))
 deriving Inhabited
abbrev Sto:=List Cell
abbrev Rho:=List (Option D)
abbrev DK:=D→Sto→Prop
abbrev DE:=Rho→Sto→DK→Prop
abbrev DT:=Rho→Sto→(Bool→Sto→Prop)→Prop
abbrev DA:=Rho→Sto→(List D→Sto→Prop)→Prop
abbrev DG:=D→Rho→Sto→(Rho→Sto→Prop)→Prop
abbrev DGs:=List D→Rho→Sto→(Rho→Sto→Prop)→Prop
structure zm2 where
 nx : Rho→Sto→Prop
 rt : DK
 bk : Rho→Sto→Prop:=fun _ _=>False
 ct : Rho→Sto→Prop:=fun _ _=>False
abbrev DS:=zm2→Rho→Sto→Prop
structure DIt where
 items : List D
 ok : Sto→Prop
abbrev DI:=Rho→Sto→(DIt→Sto→Prop)→Prop
abbrev DSp:=List D→Sto→DK→Prop
def big : Nat:=1000000
def fl : Nat→D→Bool
  | _,.ref _=>false
  | _,.ty _=>false
  | _,.rl _=>false
  | _,.exn _=>false
  | 0,.tup _=>false
  | k + 1,.tup xs=>xs.all (fl k)
  | _,.non=>true
  | _,.bl _=>true
  | _,.int _=>true
  | _,.str x=>x.cps.all (· < 0x110000)
mutual
def eqv : D→D→Bool
 | .non,.non=>true
 | .bl a,.bl b=>a == b
 | .bl a,.int j=>(if a then 1 else 0) == j
 | .int i,.bl b=>i == (if b then 1 else 0)
 | .int i,.int j=>decide (i = j)
 | .str x,.str y=>x == y
 | .tup xs,.tup ys=>eqvAll xs ys
 | _,_=>false
def eqvAll : List D→List D→Bool
 | [],[]=>true
 | x :: xs,y :: ys=>eqv x y && eqvAll xs ys
 | _,_=>false
end
def Lst (S : Sto) (x : D) (xs : List D) : Prop:=x = .rl xs∨∃ n,x = .ref n∧S[n]? = some (.lst xs)
def zd9 (S : Sto) (x : D) (xs : List D) : Prop:=x = .tup xs∨Lst S x xs
def ixD (n : Nat) (k : Int) : Option Nat:=if 0 ≤ k then (if k < n then some k.toNat else none) else if -(n : Int) ≤ k then some (k + n).toNat else none
def atD (xs : List D) (k : Int) : Option D:=(ixD xs.length k).bind fun j=>xs[j]?
def atS (z : Str) (k : Int) : Option Nat:=(ixD z.cps.toList.length k).bind fun j=>z.cps.toList[j]?
def slD (n : Nat) (d : Nat) : Option Int→Nat
 | none=>d
 | some k=>if k < 0 then (k + n).toNat else min k.toNat n
def cutD {α : Type} (xs : List α) (lo hi : Option Int) : List α:=(xs.drop (slD xs.length 0 lo)).take (slD xs.length xs.length hi - slD xs.length 0 lo)
def zj (i : Nat) : DE:=fun ρ S Q=>∃ d,ρ[i]? = some (some d)∧Q d S
def dC (d : D) : DE:=fun _ S Q=>Q d S
abbrev DR2:=D→D→Sto→DK→Prop
def dOp (r : DR2) (ta tb : DE) : DE:=fun ρ S Q=>ta ρ S fun x S1=>tb ρ S1 fun y S2=>r x y S2 Q
def dUn (r : D→Sto→DK→Prop) (ta : DE) : DE:=fun ρ S Q=>ta ρ S fun x S1=>r x S1 Q
def zA : DA:=fun _ S Q=>Q [] S
def zf (ta : DE) (tr : DA) : DA:=fun ρ S Q=>ta ρ S fun x S1=>tr ρ S1 fun xs S2=>Q (x :: xs) S2
def dTup (t : DA) : DE:=fun ρ S Q=>t ρ S fun xs S1=>xs.length ≤ big∧Q (.tup xs) S1
def zbo (t : DA) : DE:=fun ρ S Q=>t ρ S fun xs S1=>xs.length ≤ big∧Q (.ref S1.length) (S1 ++ [.lst xs])
def dCall (f : DSp) (t : DA) : DE:=fun ρ S Q=>t ρ S fun xs S1=>f xs S1 Q
abbrev DB:=List D→Sto→DK→Prop
def dB (r : DB) (t : DA) : DE:=fun ρ S Q=>t ρ S fun xs S1=>r xs S1 Q
def dT (t : DE) : DT:=fun ρ S Q=>t ρ S fun x S1=>∃ b,x = .bl b∧Q b S1
def zfj (t u : DT) : DT:=fun ρ S Q=>t ρ S fun c S1=>if c = true then u ρ S1 Q else Q false S1
def dOr (t u : DT) : DT:=fun ρ S Q=>t ρ S fun c S1=>if c = true then Q true S1 else u ρ S1 Q
def zeb (t : DT) : DT:=fun ρ S Q=>t ρ S fun c S1=>Q (!c) S1
def zhj (t u : DE) : DE:=fun ρ S Q=>t ρ S fun x S1=>∃ c,x = .bl c∧if c = true then u ρ S1 Q else Q (.bl false) S1
def zoX (t u : DE) : DE:=fun ρ S Q=>t ρ S fun x S1=>∃ c,x = .bl c∧if c = true then Q (.bl true) S1 else u ρ S1 Q
def zgX (t : DE) : DE:=fun ρ S Q=>t ρ S fun x S1=>∃ c,x = .bl c∧Q (.bl (!c)) S1
def zih (r r' : DR2) (ta tb tc : DE) : DE:=fun ρ S Q=>ta ρ S fun x S1=>tb ρ S1 fun y S2=>r x y S2 fun z S3=>∃ c,z = .bl c∧if c = true then tc ρ S3 fun w S4=>r' y w S4 Q else Q (.bl false) S3
def zhJ : Option DE→Rho→Sto→(Option Int→Sto→Prop)→Prop
 | none=>fun _ S Q=>Q none S
 | some t=>fun ρ S Q=>t ρ S fun x S1=>∃ i,x = .int i∧Q (some i) S1
def dSl (r : D→Option Int→Option Int→Sto→DK→Prop) (ta : DE) (lo hi : Option DE) : DE:=fun ρ S Q=>ta ρ S fun x S1=>zhJ lo ρ S1 fun l S2=>zhJ hi ρ S2 fun h S3=>r x l h S3 Q
def zcY (f : Str) (ta : DE) : DE:=fun ρ S Q=>ta ρ S fun x S1=>∃ n c fs d,x = .ref n∧S1[n]? = some (.ins c fs)∧fs.lookup f = some d∧Q d S1
def putD (f : Str) (v : D) : List (Str × D)→List (Str × D)
 | []=>[(f,v)]
 | (g,x) :: r=>if g = f then (g,v) :: r else (g,x) :: putD f v r
def zmD (c : Str) (init : DSp) : DSp:=fun ds S Q=>init (.ref S.length :: ds) (S ++ [.ins c []]) fun d S2=>d = .non∧Q (.ref S.length) S2
abbrev DM:=D→List D→Sto→DK→Prop
def dM (r : DM) (ta : DE) (t : DA) : DE:=fun ρ S Q=>ta ρ S fun x S1=>(∃ n ys,x = .ref n∧S1[n]? = some (.lst ys))∧t ρ S1 fun xs S2=>r x xs S2 Q
def oI (C : Int→Int→Prop) (g : Int→Int→D) : DR2:=fun x y S Q=>∃ i j,x = .int i∧y = .int j∧C i j∧Q (g i j) S
def oI0 (g : Int→Int→D) : DR2:=fun x y S Q=>∃ i j,x = .int i∧y = .int j∧Q (g i j) S
def oU (g : Int→D) : D→Sto→DK→Prop:=fun x S Q=>∃ i,x = .int i∧Q (g i) S
def zak (i j : Int) : Prop:=(My.Bd 8000 i∧My.Bd 8000 j)∨i.natAbs < 2 ^ 64∨j.natAbs < 2 ^ 64
def zpO (_ j : Int) : Prop:=j ≠ 0∧My.Bd 8000 j
def zt6 (_ j : Int) : Prop:=j ≠ 0
def zai : DR2:=fun x y S Q=>(∃ i j,x = .int i∧y = .int j∧Q (.int (i + j)) S)∨(∃ xs ys,x = .tup xs∧y = .tup ys∧xs.length + ys.length ≤ big∧Q (.tup (xs ++ ys)) S) ∨
 (∃ xs ys,Lst S x xs∧Lst S y ys∧xs.length + ys.length ≤ big∧Q (.ref S.length) (S ++ [.lst (xs ++ ys)])) ∨
 (∃ i j : Str,x = .str i∧y = .str j∧i.length + j.length ≤ big∧Q (.str (i ++ j)) S)
def zae : DR2:=oI0 fun i j=>.int (i - j)
def zmG (z : Str) (n : Int) : Str:=if n < 1 then Str.empty else if (n == 1 || z.length == 0) = true then z else ⟨(List.replicate n.toNat z.cps).foldl (· ++ ·) #[]⟩
@[irreducible] def Hg (x : Int) : Prop:=x.natAbs < 2 ^ 1048576
def zao : DR2:=fun x y S Q=>oI zak (fun i j=>.int (i * j)) x y S Q∨(∃ (z : Str) (n : Int),x = .str z∧y = .int n∧z.length ≤ 1000∧-1000 ≤ n∧n ≤ 1000∧Q (.str (zmG z n)) S)∨oI (fun i j=>Hg i∧Hg j) (fun i j=>.int (i * j)) x y S Q
def oDiv : DR2:=oI zpO fun i j=>.int (i.fdiv j)
def oMod : DR2:=oI zt6 fun i j=>.int (i.fmod j)
def zcd : D→Sto→DK→Prop:=oU fun i=>.int (-i)
def oLt : DR2:=oI0 fun i j=>.bl (decide (i < j))
def oLe : DR2:=oI0 fun i j=>.bl (decide (i ≤ j))
def oGt : DR2:=oI0 fun i j=>.bl (decide (j < i))
def EqD (S : Sto) (x y : D) (b : Bool) : Prop:=(fl 20 x = true∧fl 20 y = true∧b = eqv x y)∨(∃ xs ys,Lst S x xs∧Lst S y ys∧xs.all (fl 20) = true∧ys.all (fl 20) = true∧b = eqvAll xs ys)
def oEq : DR2:=fun x y S Q=>∃ b,EqD S x y b∧Q (.bl b) S
def oNe : DR2:=fun x y S Q=>∃ b,EqD S x y b∧Q (.bl (!b)) S
def InD (S : Sto) (x y : D) (b : Bool) : Prop:=∃ ys,zd9 S y ys∧fl 20 x = true∧ys.all (fl 20) = true∧b = ys.any fun z=>eqv z x
def oIn : DR2:=fun x y S Q=>(∃ b,InD S x y b∧Q (.bl b) S)∨(∃ (c : Nat) (z : Str),x = .str ⟨#[c]⟩∧y = .str z∧Q (.bl (decide (c ∈ z.cps.toList))) S)
def zf2 : D→Bool
 | .non=>true
 | _=>false
def zfW : DR2:=fun x y S Q=>(y = .non∧Q (.bl (!zf2 x)) S)∨(∃ a b,x = .bl a∧y = .bl b∧Q (.bl (!(a == b))) S)
def oIx : DR2:=fun x y S Q=>(∃ i xs d,y = .int i∧zd9 S x xs∧atD xs i = some d∧Q d S)∨(∃ (z : Str) (i : Int) (c : Nat),x = .str z∧y = .int i∧z.length ≤ big∧atS z i = some c∧Q (.str ⟨#[c]⟩) S)
def zhV : D→Option Int→Option Int→Sto→DK→Prop:=fun x lo hi S Q=>(∃ xs,x = .tup xs∧Q (.tup (cutD xs lo hi)) S)∨(∃ xs,Lst S x xs∧Q (.ref S.length) (S ++ [.lst (cutD xs lo hi)]))
def zaS : DB:=fun vs S Q=>(∃ x xs,vs = [x]∧zd9 S x xs∧Q (.int xs.length) S)∨(∃ z : Str,vs = [.str z]∧z.length ≤ big∧Q (.int z.length) S)
def zkt : DB:=fun vs S Q=>∃ i,vs = [.int i]∧Q (.int (i.natAbs : Int)) S
def zeg : DB:=fun vs S Q=>∃ i j,vs = [.int i,.int j]∧Q (.int (max i j)) S
def zeR : DB:=fun vs S Q=>∃ i j,vs = [.int i,.int j]∧Q (.int (min i j)) S
def zmP : DB:=fun vs S Q=>∃ x ns,vs = [x]∧Lst S x (List.map D.int ns)∧0 < ns.length∧∀ m : Int,m ∈ ns→(∀ a ∈ ns,a ≤ m)→Q (.int m) S
def zl1 : DB:=fun vs S Q=>∃ x ns,vs = [x]∧Lst S x (List.map D.int ns)∧0 < ns.length∧∀ m : Int,m ∈ ns→(∀ a ∈ ns,m ≤ a)→Q (.int m) S
def zgR : DB:=fun vs S Q=>∃ x bs,vs = [x]∧Lst S x (List.map D.bl bs)∧Q (.bl (bs.all id)) S
def zkL : DB:=fun vs S Q=>∃ x xs,vs = [x]∧zd9 S x xs∧Q (.tup xs) S
def zeO : DB:=fun vs S Q=>∃ x xs,vs = [x]∧zd9 S x xs∧Q (.ref S.length) (S ++ [.lst xs])
def zo0 : DB:=fun vs S Q=>(∃ i,vs = [.int i]∧Q (.int i) S)∨∃ b,vs = [.bl b]∧Q (.int (if b then 1 else 0)) S
def ziG (t : String) : Bool:=t == "int" || t == "bool" || t == "tuple" || t == "list" || t == "str"
def zrS (S : Sto) (t : String) (d : D) : Option Bool:=if (!ziG t) = true then none else match d with
 | .non=>some false
 | .bl _=>some (t == "bool" || t == "int")
 | .int _=>some (t == "int")
 | .str _=>some (t == "str")
 | .tup _=>some (t == "tuple")
 | .ref n=>match S[n]? with
  | some (.lst _)=>some (t == "list")
  | _=>none
 | .ty _=>none
 | .rl _=>none
 | .exn _=>none
def zgM : DB:=fun vs S Q=>∃ x t b,vs = [x,.ty t]∧zrS S t x = some b∧Q (.bl b) S
abbrev p2 (c : Int × Int) : D:=.tup [.int c.1,.int c.2]
def zhW (a b : Int × Int) : Bool:=decide (a.1 < b.1∨(a.1 = b.1∧a.2 < b.2))
def zn1 : DB:=fun vs S Q=>∃ x cs,vs = [x]∧Lst S x (List.map p2 cs)∧cs.length < 64∧∀ ss : List (Int × Int),ss.Perm cs→ss.Pairwise (fun a b=>zhW b a = false)→Q (.ref S.length) (S ++ [.lst (ss.map p2)])
def zne : DB:=fun vs S Q=>∃ x ns,vs = [x]∧Lst S x (List.map D.int ns)∧ns.length < 64∧∀ ss : List Int,ss.Perm ns→ss.Pairwise (fun a b=>a ≤ b)→Q (.ref S.length) (S ++ [.lst (ss.map D.int)])
def zlZ : DB:=fun vs S Q=>zn1 vs S Q∨zne vs S Q
def zb4 : DM:=fun x vs S Q=>∃ n xs y,x = .ref n∧vs = [y]∧S[n]? = some (.lst xs)∧xs.length < big∧Q .non (S.set n (.lst (xs ++ [y])))
def zrc : DM:=fun x vs S Q=>∃ n xs m ys,x = .ref n∧vs = [.ref m]∧S[n]? = some (.lst xs)∧S[m]? = some (.lst ys)∧m ≠ n∧xs.length + ys.length ≤ big∧Q .non (S.set n (.lst (xs ++ ys)))
def zhX : DM:=fun x vs S Q=>zrc x vs S Q∨∃ n xs ys,x = .ref n∧vs = [.tup ys]∧S[n]? = some (.lst xs)∧xs.length + ys.length ≤ big∧Q .non (S.set n (.lst (xs ++ ys)))
def zE (i : Nat) : DG:=fun d ρ S Q=>Q (ρ.set i (some d)) S
def zc0 : DGs:=fun ds ρ S Q=>ds = []∧Q ρ S
def zaq (t : DG) (u : DGs) : DGs:=fun ds ρ S Q=>∃ d r,ds = d :: r∧t d ρ S fun ρ' S'=>u r ρ' S' Q
def zc4 (n : Nat) (t : DGs) : DG:=fun d ρ S Q=>∃ xs,d = .tup xs∧xs.length = n∧t xs ρ S Q
def ziX (to ti : DE) : DG:=fun d ρ S Q=>to ρ S fun o S1=>ti ρ S1 fun i S2=>∃ n xs k j,o = .ref n∧i = .int k∧S2[n]? = some (.lst xs)∧ixD xs.length k = some j∧Q ρ (S2.set n (.lst (xs.set j d)))
def zH (t u : DS) : DS:=fun E ρ S=>t { E with nx:=u E } ρ S
def zac : DS:=fun E ρ S=>E.nx ρ S
def z9 (t : DE) : DS:=fun E ρ S=>t ρ S E.rt
def zbe (t : DE) : DS:=fun E ρ S=>t ρ S fun _ S1=>E.nx ρ S1
def zN (t : DE) (g : DG) : DS:=fun E ρ S=>t ρ S fun x S1=>g x ρ S1 E.nx
def sIf (c : DT) (t u : DS) : DS:=fun E ρ S=>c ρ S fun b S1=>if b = true then t E ρ S1 else u E ρ S1
def sJ (t : DS) : DS:=fun E ρ S=>∃ J : Rho→Sto→Prop,(∀ ρ S,J ρ S→E.nx ρ S)∧t { E with nx:=J } ρ S
def zbY : DS:=fun _ _ _=>False
def zmC (i j : Nat) (t : DA) : DS:=fun E ρ S=>t ρ S fun vs S1=>∃ a b,vs = [a,b]∧E.nx ((ρ.set i (some a)).set j (some b)) S1
def zdR (c f : Str) (to tv : DE) : DS:=fun E ρ S=>tv ρ S fun y S1=>to ρ S1 fun x S2=>∃ n fs,x = .ref n∧S2[n]? = some (.ins c fs)∧fs.length < 100∧E.nx ρ (S2.set n (.ins c (putD f y fs)))
def zo3 (i : Nat) (t : DE) : DS:=fun E ρ S=>∃ a,ρ[i]? = some (some (.int a))∧t ρ S fun y S1=>∃ b,y = .int b∧E.nx (ρ.set i (some (.int (a + b)))) S1
def zim (c : DT) (t : DS) : DS:=fun E ρ S=>∃ W : Nat→Rho→Sto→Prop,(∃ m,W m ρ S)∧∀ m ρ S,W m ρ S →
 c ρ S fun b S1=>if b = true then ∃ N : Rho→Sto→Prop,(∀ ρ' S',N ρ' S'→∃ m',m' < m∧W m' ρ' S')∧t { E with nx:=N,ct:=N,bk:=E.nx } ρ S1 else E.nx ρ S1
def zbJ (wi : DI) (g : DG) (t : DS) : DS:=fun E ρ S=>wi ρ S fun J S1=>∃ W : Nat→Rho→Sto→Prop,W 0 ρ S1∧(∀ i ρ S,W i ρ S→J.ok S) ∧
 (∀ i d ρ S,J.items[i]? = some d→W i ρ S→g d ρ S fun ρ2 S2=>t { E with nx:=W (i + 1),ct:=W (i + 1),bk:=E.nx } ρ2 S2)∧∀ ρ S,W J.items.length ρ S→E.nx ρ S
def signs (z : Str) : List D:=z.cps.toList.map fun c=>.str ⟨#[c]⟩
def zg8 (x : D) (S1 : Sto) (R : DIt→Sto→Prop) : Prop:=(∃ xs,x = .tup xs∧R ⟨xs,fun _=>True⟩ S1)∨(∃ xs,Lst S1 x xs∧R ⟨xs,fun S=>Lst S x xs⟩ S1)∨(∃ z : Str,x = .str z∧R ⟨signs z,fun _=>True⟩ S1)
def zbi (t : DE) : DI:=fun ρ S R=>t ρ S fun x S1=>zg8 x S1 R
def upto (lo : Int) (n : Nat) : List D:=(List.range n).map fun k : Nat=>D.int (lo + (k : Int))
def zdB (t : DA) : DI:=fun ρ S R=>t ρ S fun vs S1=>∃ j : Int,vs = [.int j]∧-(2 ^ 62) ≤ j∧j < 2 ^ 62∧R ⟨upto 0 j.toNat,fun _=>True⟩ S1
def zjS (t : DA) : DI:=fun ρ S R=>t ρ S fun vs S1=>∃ i j : Int,vs = [.int i,.int j]∧R ⟨upto i (j - i).toNat,fun _=>True⟩ S1
def zcx : Nat→List D→List D
 | _,[]=>[]
 | k,x :: xs=>.tup [.int (k : Nat),x] :: zcx (k + 1) xs
def zbU : List D→List D→List D
 | x :: xs,y :: ys=>.tup [x,y] :: zbU xs ys
 | _,_=>[]
def zgm (c : List Str) (z : Str) : List Str:=if c.any (· == z) = true then c else c ++ [z]
def zcf (f : Nat→Str) : Nat→List Str
 | 0=>[]
 | i + 1=>zgm (zcf f i) (f i)
def zor (zs : List Str) : Nat:=(zcf (fun i=>zs.getD i Str.empty) zs.length).length
def zl4 : DB:=fun vs S Q=>∃ x,∃ zs : List Str,vs = [x]∧Lst S x (zs.map D.str)∧zs.length ≤ 4000∧Q (.int (zor zs)) S
def zkG (R : DIt→Sto→Prop) (vs : List D) (S1 : Sto) : Prop:=(∃ x xs,vs = [x]∧Lst S1 x xs∧R ⟨zcx 0 xs,fun S=>Lst S x xs⟩ S1)∨(∃ xs,vs = [.tup xs]∧R ⟨zcx 0 xs,fun _=>True⟩ S1)
def zmQ (t : DA) : DI:=fun ρ S R=>t ρ S (zkG R)
def zmM (R : DIt→Sto→Prop) (vs : List D) (S1 : Sto) : Prop:=(∃ x y xs ys,vs = [x,y]∧Lst S1 x xs∧Lst S1 y ys∧R ⟨zbU xs ys,fun S=>Lst S x xs∧Lst S y ys⟩ S1)∨(∃ xs ys,vs = [.tup xs,.tup ys]∧R ⟨zbU xs ys,fun _=>True⟩ S1)
def zoO (t : DA) : DI:=fun ρ S R=>t ρ S (zmM R)
def zhE (own : Nat) (fv : List Nat) (ρ : Rho) : Rho:=List.replicate own none ++ fv.map fun j=>(ρ[j]?).join
def zb9 : DT:=fun _ S Q=>Q true S
def dLC (own : Nat) (fv : List Nat) (wi : DI) (g : DG) (tc : DT) (te : DE) : DE:=fun ρ S Q=>wi ρ S fun J S1=>J.items.length ≤ big∧∃ W : Nat→List D→Sto→Prop,W 0 [] S1∧(∀ i ys S,W i ys S→J.ok S) ∧
 (∀ i d ys S,J.items[i]? = some d→W i ys S→g d (zhE own fv ρ) S fun ρ2 S2=>tc ρ2 S2 fun b S3=>if b = true then te ρ2 S3 fun y S4=>W (i + 1) (ys ++ [y]) S4 else W (i + 1) ys S3) ∧
 ∀ ys S,W J.items.length ys S→Q (.ref S.length) (S ++ [.lst ys])
def fc : Cell→Bool
 | .lst xs=>xs.all (fl 20)
 | .ins _ _=>false
def Fin (S : Sto) (Q : DK) : DK:=fun d S'=>Q d S'∨∃ S1,S1 <+: S'∧S.length ≤ S1.length∧(fl 20 d = true∨∃ n,d = .ref n∧n < S1.length)∧(∀ (n : Nat) c,S1[n]? = some c→S[n]? = some c∨fc c = true)∧Q d S1
def zd4 (n : Nat) (ds : List D) : Rho:=ds.map some ++ List.replicate (n - ds.length) none
def BodyOk (n : Nat) (b : DS) (f : DSp) : Prop:=∀ ds S Q,f ds S Q→b ⟨fun _ S'=>Fin S Q .non S',Fin S Q,fun _ _=>False,fun _ _=>False⟩ (zd4 n ds) S
abbrev XD:=Str→Sto→Prop
abbrev XR:=Rho→Str→Sto→Prop
abbrev zeK:=List D→Sto→DK→XD→Prop
def zdz (f : zeK) (ex : XR) (t : DA) : DE:=fun ρ S Q=>t ρ S fun xs S1=>f xs S1 Q (ex ρ)
def xF : XR:=fun _ _ _=>False
def zgu (ex : XR) (c : Str) : DS:=fun _ ρ S=>ex ρ c S
def zeu (n : Nat) (b : XR→DS) (f : zeK) : Prop:=∀ ds S Q ex,f ds S Q ex→b (fun _=>ex) ⟨fun _ S'=>Fin S Q .non S',Fin S Q,fun _ _=>False,fun _ _=>False⟩ (zd4 n ds) S
end Dp
namespace Dp
open PySem
def New (Q : DK) (S : Sto) (xs : List D) : Prop:=Q (.ref S.length) (S ++ [.lst xs])
def Put (Q : Sto→Prop) (S : Sto) (n : Nat) (c : Cell) : Prop:=Q (S.set n c)
def zmS (own : Nat) (fv : List Nat) (g : DG) (tc : DT) (te : DE) (ρ : Rho) (Q : DK) (J : DIt) (S : Sto) : Prop:=J.items.length ≤ big∧∃ W : Nat→List D→Sto→Prop,W 0 [] S∧(∀ i ys S,W i ys S→J.ok S) ∧
 (∀ i d ys S,J.items[i]? = some d→W i ys S→g d (zhE own fv ρ) S fun ρ2 S2=>tc ρ2 S2 fun b S3=>if b = true then te ρ2 S3 fun y S4=>W (i + 1) (ys ++ [y]) S4 else W (i + 1) ys S3) ∧
 ∀ ys S,W J.items.length ys S→New Q S ys
def zpN (d : D) (ρ : Rho) (Q : Rho→Sto→Prop) (o i : D) (S2 : Sto) : Prop:=∃ n xs k j,o = .ref n∧i = .int k∧S2[n]? = some (.lst xs)∧ixD xs.length k = some j∧Q ρ (S2.set n (.lst (xs.set j d)))
def zpT (nx : Rho→Sto→Prop) (rt : DK) (g : DG) (t : DS) (ρ : Rho) (J : DIt) (S : Sto) : Prop:=∃ W : Nat→Rho→Sto→Prop,W 0 ρ S∧(∀ i ρ S,W i ρ S→J.ok S) ∧
 (∀ i d ρ S,J.items[i]? = some d→W i ρ S→g d ρ S fun ρ2 S2=>t ⟨W (i + 1),rt,nx,W (i + 1)⟩ ρ2 S2)∧∀ ρ S,W J.items.length ρ S→nx ρ S
def zpV (W : Nat→Rho→Sto→Prop) (m : Nat) (t : DS) (rt : DK) (nx : Rho→Sto→Prop) (ρ : Rho) (S : Sto) : Prop:=∃ N : Rho→Sto→Prop,(∀ ρ' S',N ρ' S'→∃ m',m' < m∧W m' ρ' S')∧t ⟨N,rt,nx,N⟩ ρ S
theorem zaV {nx : Rho→Sto→Prop} {rt : DK} {g : DG} {t : DS} {ρ : Rho} {xs : List D} {ok : Sto→Prop} {S : Sto} (W : Nat→Rho→Sto→Prop) (h0 : W 0 ρ S) (hok : ∀ i ρ S,W i ρ S→ok S)
  (step : ∀ i d ρ S,xs[i]? = some d→W i ρ S→g d ρ S fun ρ2 S2=>t ⟨W (i + 1),rt,nx,W (i + 1)⟩ ρ2 S2) (fin : ∀ ρ S,W xs.length ρ S→nx ρ S) : zpT nx rt g t ρ ⟨xs,ok⟩ S:=⟨W,h0,hok,step,fin⟩
theorem zpI {S : Sto} {Q : DK} {xs : List D} (h : Q (.ref S.length) (S ++ [.lst xs])) : New Q S xs:=h
theorem zgW {S T : Sto} {Q : DK} {xs : List D} (h : Q (.ref (S.length + T.length)) (S ++ (T ++ [.lst xs]))) : New Q (S ++ T) xs:=by
 unfold New; rw [List.length_append,List.append_assoc]; exact h
section
variable {S : Sto} {Q : DK} {xs : List D} {a b c d e f : Cell}
theorem ztJ (h : Q (.ref (S.length + 1)) (S ++ [a,.lst xs])) : New Q (S ++ [a]) xs:=zgW h
theorem zux (h : Q (.ref (S.length + 2)) (S ++ [a,b,.lst xs])) : New Q (S ++ [a,b]) xs:=zgW h
theorem zua (h : Q (.ref (S.length + 3)) (S ++ [a,b,c,.lst xs])) : New Q (S ++ [a,b,c]) xs:=zgW h
theorem ztD (h : Q (.ref (S.length + 4)) (S ++ [a,b,c,d,.lst xs])) : New Q (S ++ [a,b,c,d]) xs:=zgW h
theorem zuc (h : Q (.ref (S.length + 5)) (S ++ [a,b,c,d,e,.lst xs])) : New Q (S ++ [a,b,c,d,e]) xs:=zgW h
end
theorem ztb {S : Sto} {a : Cell} {T : Sto} {Q : Sto→Prop} {c : Cell} (h : Q (S ++ c :: T)) : Put Q (S ++ a :: T) S.length c:=by
 unfold Put; rw [List.set_append_right _ _ (Nat.le_refl _),Nat.sub_self]; exact h
section
variable {nx : Rho→Sto→Prop} {rt : DK} {bk ct : Rho→Sto→Prop} {ρ : Rho} {S : Sto}
theorem zmh {t u : DS} (h : t ⟨u ⟨nx,rt,bk,ct⟩,rt,bk,ct⟩ ρ S) : zH t u ⟨nx,rt,bk,ct⟩ ρ S:=h
theorem r_J {t : DS} (J : Rho→Sto→Prop) (h : t ⟨J,rt,bk,ct⟩ ρ S) (hJ : ∀ ρ S,J ρ S→nx ρ S) : sJ t ⟨nx,rt,bk,ct⟩ ρ S:=⟨J,hJ,h⟩
theorem zt4 {i j : Nat} {t : DA} (h : t ρ S fun vs S1=>∃ a b,vs = [a,b]∧nx ((ρ.set i (some a)).set j (some b)) S1) : zmC i j t ⟨nx,rt,bk,ct⟩ ρ S:=h
theorem zth {a b : D} {P : D→D→Prop} (h : P a b) : ∃ x y,[a,b] = [x,y]∧P x y:=⟨a,b,rfl,h⟩
theorem zrE (h : nx ρ S) : zac ⟨nx,rt,bk,ct⟩ ρ S:=h
theorem zpW {t : DE} (h : t ρ S rt) : z9 t ⟨nx,rt,bk,ct⟩ ρ S:=h
theorem zsa {t : DE} (h : t ρ S fun _ S1=>nx ρ S1) : zbe t ⟨nx,rt,bk,ct⟩ ρ S:=h
theorem zpE {t : DE} {g : DG} (h : t ρ S fun x S1=>g x ρ S1 nx) : zN t g ⟨nx,rt,bk,ct⟩ ρ S:=h
theorem zuZ {c : DT} {t u : DS} (h : c ρ S fun b S1=>if b = true then t ⟨nx,rt,bk,ct⟩ ρ S1 else u ⟨nx,rt,bk,ct⟩ ρ S1) : sIf c t u ⟨nx,rt,bk,ct⟩ ρ S:=h
theorem zsm {c f : Str} {to tv : DE} (h : tv ρ S fun y S1=>to ρ S1 fun x S2=>∃ n fs,x = .ref n∧S2[n]? = some (.ins c fs)∧fs.length < 100∧nx ρ (S2.set n (.ins c (putD f y fs)))) : zdR c f to tv ⟨nx,rt,bk,ct⟩ ρ S:=h
theorem zud {i : Nat} {t : DE} {a : Int} (e : ρ[i]? = some (some (.int a))) (h : t ρ S fun y S1=>∃ b,y = .int b∧nx (ρ.set i (some (.int (a + b)))) S1) : zo3 i t ⟨nx,rt,bk,ct⟩ ρ S:=⟨a,e,h⟩
theorem zup {wi : DI} {g : DG} {t : DS} (h : wi ρ S fun J S1=>zpT nx rt g t ρ J S1) : zbJ wi g t ⟨nx,rt,bk,ct⟩ ρ S:=h
theorem zr5 {c : DT} {t : DS} (W : Nat→Rho→Sto→Prop) (m : Nat) (h0 : W m ρ S) (h : ∀ m ρ S,W m ρ S→c ρ S fun b S1=>if b = true then zpV W m t rt nx ρ S1 else nx ρ S1) : zim c t ⟨nx,rt,bk,ct⟩ ρ S:=⟨W,⟨m,h0⟩,h⟩
theorem znb {t : DS} {W : Nat→Rho→Sto→Prop} {m : Nat} (h : t ⟨fun ρ' S'=>∃ m',m' < m∧W m' ρ' S',rt,nx,fun ρ' S'=>∃ m',m' < m∧W m' ρ' S'⟩ ρ S) : zpV W m t rt nx ρ S:=⟨_,fun _ _ z=>z,h⟩
theorem zq8 {i : Nat} {d : D} {Q : Rho→Sto→Prop} (h : Q (ρ.set i (some d)) S) : zE i d ρ S Q:=h
theorem ztl {Q : Rho→Sto→Prop} (h : Q ρ S) : zc0 [] ρ S Q:=⟨rfl,h⟩
theorem zqU {t : DG} {u : DGs} {d : D} {r : List D} {Q : Rho→Sto→Prop} (h : t d ρ S fun ρ' S'=>u r ρ' S' Q) : zaq t u (d :: r) ρ S Q:=⟨d,r,rfl,h⟩
theorem zsw {n : Nat} {t : DGs} {xs : List D} {Q : Rho→Sto→Prop} (e : xs.length = n) (h : t xs ρ S Q) : zc4 n t (.tup xs) ρ S Q:=⟨xs,rfl,e,h⟩
theorem zsz {to ti : DE} {d : D} {Q : Rho→Sto→Prop} (h : to ρ S fun o S1=>ti ρ S1 fun i S2=>zpN d ρ Q o i S2) : ziX to ti d ρ S Q:=h
theorem zfN {i : Nat} {d : D} {Q : DK} (h : ρ[i]? = some (some d)) (q : Q d S) : zj i ρ S Q:=⟨d,h,q⟩
theorem r_c {d : D} {Q : DK} (q : Q d S) : dC d ρ S Q:=q
theorem zmt {r : DR2} {ta tb : DE} {Q : DK} (h : ta ρ S fun x S1=>tb ρ S1 fun y S2=>r x y S2 Q) : dOp r ta tb ρ S Q:=h
theorem zu0 {r : D→Sto→DK→Prop} {ta : DE} {Q : DK} (h : ta ρ S fun x S1=>r x S1 Q) : dUn r ta ρ S Q:=h
theorem zuB {Q : List D→Sto→Prop} (h : Q [] S) : zA ρ S Q:=h
theorem zkK {ta : DE} {tr : DA} {Q : List D→Sto→Prop} (h : ta ρ S fun x S1=>tr ρ S1 fun xs S2=>Q (x :: xs) S2) : zf ta tr ρ S Q:=h
theorem zpM {t : DA} {Q : DK} (h : t ρ S fun xs S1=>xs.length ≤ big∧Q (.tup xs) S1) : dTup t ρ S Q:=h
theorem zt1 {t : DA} {Q : DK} (h : t ρ S fun xs S1=>xs.length ≤ big∧New Q S1 xs) : zbo t ρ S Q:=h
theorem zue {xs : List D} {P : Prop} (h : Nat.ble xs.length big = true) (q : P) : xs.length ≤ big∧P:=⟨Nat.le_of_ble_eq_true h,q⟩
theorem zss {f : DSp} {t : DA} {Q : DK} (h : t ρ S fun xs S1=>f xs S1 Q) : dCall f t ρ S Q:=h
theorem r_b {r : DB} {t : DA} {Q : DK} (h : t ρ S fun xs S1=>r xs S1 Q) : dB r t ρ S Q:=h
theorem r_m {r : DM} {ta : DE} {t : DA} {Q : DK} (h : ta ρ S fun x S1=>(∃ n ys,x = .ref n∧S1[n]? = some (.lst ys))∧t ρ S1 fun xs S2=>r x xs S2 Q) : dM r ta t ρ S Q:=h
theorem zut {n : Nat} {ys : List D} {P : Prop} (h : S[n]? = some (.lst ys)) (q : P) : (∃ m ys,D.ref n = .ref m∧S[m]? = some (.lst ys))∧P:=⟨⟨n,ys,rfl,h⟩,q⟩
theorem r_t {t : DE} {Q : Bool→Sto→Prop} (h : t ρ S fun x S1=>∃ b,x = .bl b∧Q b S1) : dT t ρ S Q:=h
theorem zvl {c : Bool} {P : Bool→Prop} (h : P c) : ∃ b,D.bl c = D.bl b∧P b:=⟨c,rfl,h⟩
theorem ztZ {c : Int} {P : Int→Prop} (h : P c) : ∃ b,D.int c = D.int b∧P b:=⟨c,rfl,h⟩
theorem ztF {t u : DT} {Q : Bool→Sto→Prop} (h : t ρ S fun c S1=>if c = true then u ρ S1 Q else Q false S1) : zfj t u ρ S Q:=h
theorem zvd {t u : DT} {Q : Bool→Sto→Prop} (h : t ρ S fun c S1=>if c = true then Q true S1 else u ρ S1 Q) : dOr t u ρ S Q:=h
theorem zuU {t : DT} {Q : Bool→Sto→Prop} (h : t ρ S fun c S1=>Q (!c) S1) : zeb t ρ S Q:=h
theorem zr2 {t u : DE} {Q : DK} (h : t ρ S fun x S1=>∃ c,x = .bl c∧if c = true then u ρ S1 Q else Q (.bl false) S1) : zhj t u ρ S Q:=h
theorem zuV {t u : DE} {Q : DK} (h : t ρ S fun x S1=>∃ c,x = .bl c∧if c = true then Q (.bl true) S1 else u ρ S1 Q) : zoX t u ρ S Q:=h
theorem zsf {t : DE} {Q : DK} (h : t ρ S fun x S1=>∃ c,x = .bl c∧Q (.bl (!c)) S1) : zgX t ρ S Q:=h
theorem zqH {r r' : DR2} {ta tb tc : DE} {Q : DK} (h : ta ρ S fun x S1=>tb ρ S1 fun y S2=>r x y S2 fun z S3=>∃ c,z = .bl c∧if c = true then tc ρ S3 fun w S4=>r' y w S4 Q else Q (.bl false) S3) : zih r r' ta tb tc ρ S Q:=h
theorem zug {f : Str} {ta : DE} {Q : DK} (h : ta ρ S fun x S1=>∃ n c fs d,x = .ref n∧S1[n]? = some (.ins c fs)∧fs.lookup f = some d∧Q d S1) : zcY f ta ρ S Q:=h
theorem zvC {r : D→Option Int→Option Int→Sto→DK→Prop} {ta : DE} {lo hi : Option DE} {Q : DK} (h : ta ρ S fun x S1=>zhJ lo ρ S1 fun l S2=>zhJ hi ρ S2 fun h S3=>r x l h S3 Q) : dSl r ta lo hi ρ S Q:=h
theorem zsX {Q : Option Int→Sto→Prop} (h : Q none S) : zhJ none ρ S Q:=h
theorem zrB {t : DE} {Q : Option Int→Sto→Prop} (h : t ρ S fun x S1=>∃ i,x = .int i∧Q (some i) S1) : zhJ (some t) ρ S Q:=h
theorem zrL {Q : Bool→Sto→Prop} (h : Q true S) : zb9 ρ S Q:=h
end
section
variable {S : Sto} {Q : DK}
theorem zt2 {i j : Int} (q : Q (.int (i + j)) S) : zai (.int i) (.int j) S Q:=.inl ⟨i,j,rfl,rfl,q⟩
theorem zr4 {x y : D} {xs ys : List D} (hx : Lst S x xs) (hy : Lst S y ys) (h : xs.length + ys.length ≤ big) (q : New Q S (xs ++ ys)) : zai x y S Q:=.inr (.inr (.inl ⟨xs,ys,hx,hy,h,q⟩))
theorem znf {i j : Str} (h : i.length + j.length ≤ big) (q : Q (.str (i ++ j)) S) : zai (.str i) (.str j) S Q:=.inr (.inr (.inr ⟨i,j,rfl,rfl,h,q⟩))
theorem zuo {i j : Int} (q : Q (.int (i - j)) S) : zae (.int i) (.int j) S Q:=⟨i,j,rfl,rfl,q⟩
theorem ztQ {i j : Int} (c : zak i j) (q : Q (.int (i * j)) S) : zao (.int i) (.int j) S Q:=.inl ⟨i,j,rfl,rfl,c,q⟩
theorem znd {z : Str} {n : Int} (hz : z.length ≤ 1000) (h0 : -1000 ≤ n) (h1 : n ≤ 1000) (q : Q (.str (zmG z n)) S) : zao (.str z) (.int n) S Q:=.inr (.inl ⟨z,n,rfl,rfl,hz,h0,h1,q⟩)
theorem znT {i j : Int} (hi : Hg i) (hj : Hg j) (q : Q (.int (i * j)) S) : zao (.int i) (.int j) S Q:=.inr (.inr ⟨i,j,rfl,rfl,⟨hi,hj⟩,q⟩)
theorem zt5 {c : Nat} {z : Str} (q : Q (.bl (decide (c ∈ z.cps.toList))) S) : oIn (.str ⟨#[c]⟩) (.str z) S Q:=.inr ⟨c,z,rfl,rfl,q⟩
theorem zul {i j : Int} (c : 0 < j∧My.Bd 8000 j) (q : Q (.int (i / j)) S) : oDiv (.int i) (.int j) S Q:=⟨i,j,rfl,rfl,⟨by omega,c.2⟩,by show Q (.int (i.fdiv j)) S; rw [Int.fdiv_eq_ediv_of_nonneg i (by omega)]; exact q⟩
theorem zuT {i j : Int} (c : 0 < j) (q : Q (.int (i % j)) S) : oMod (.int i) (.int j) S Q:=⟨i,j,rfl,rfl,(by show j ≠ 0; omega),by show Q (.int (i.fmod j)) S; rw [Int.fmod_eq_emod_of_nonneg i (by omega)]; exact q⟩
theorem zon {i j : Int} (c : zpO i j) (q : Q (.int (i.fdiv j)) S) : oDiv (.int i) (.int j) S Q:=⟨i,j,rfl,rfl,c,q⟩
theorem ztt {i j : Int} (c : j ≠ 0) (q : Q (.int (i.fmod j)) S) : oMod (.int i) (.int j) S Q:=⟨i,j,rfl,rfl,c,q⟩
theorem ztV {i : Int} (q : Q (.int (-i)) S) : zcd (.int i) S Q:=⟨i,rfl,q⟩
theorem zvf {i j : Int} (q : Q (.bl (decide (i < j))) S) : oLt (.int i) (.int j) S Q:=⟨i,j,rfl,rfl,q⟩
theorem zvm {i j : Int} (q : Q (.bl (decide (i ≤ j))) S) : oLe (.int i) (.int j) S Q:=⟨i,j,rfl,rfl,q⟩
theorem zu8 {i j : Int} (q : Q (.bl (decide (j < i))) S) : oGt (.int i) (.int j) S Q:=⟨i,j,rfl,rfl,q⟩
theorem ztS {i j : Int} (q : Q (.bl (decide (i = j))) S) : oEq (.int i) (.int j) S Q:=⟨_,.inl ⟨rfl,rfl,rfl⟩,q⟩
theorem zuS {i j : Int} (q : Q (.bl (!decide (i = j))) S) : oNe (.int i) (.int j) S Q:=⟨_,.inl ⟨rfl,rfl,rfl⟩,q⟩
theorem zsN (q : Q (.bl false) S) : zfW .non .non S Q:=.inl ⟨rfl,q⟩
theorem zrx {i : Int} (q : Q (.bl true) S) : zfW (.int i) .non S Q:=.inl ⟨rfl,q⟩
theorem zp4 {x : D} (q : Q (.bl (!zf2 x)) S) : zfW x .non S Q:=.inl ⟨rfl,q⟩
theorem ztO {xs : List D} {i : Int} {d : D} (e : atD xs i = some d) (q : Q d S) : oIx (.tup xs) (.int i) S Q:=.inl ⟨i,xs,d,rfl,.inl rfl,e,q⟩
theorem zjP {x : D} {xs : List D} {i : Int} {d : D} (h : Lst S x xs) (e : atD xs i = some d) (q : Q d S) : oIx x (.int i) S Q:=.inl ⟨i,xs,d,rfl,.inr h,e,q⟩
theorem zmi {z : Str} {i : Int} {c : Nat} (hz : z.length ≤ big) (e : atS z i = some c) (q : Q (.str ⟨#[c]⟩) S) : oIx (.str z) (.int i) S Q:=.inr ⟨z,i,c,rfl,rfl,hz,e,q⟩
theorem zsv {xs : List D} {lo hi : Option Int} (q : Q (.tup (cutD xs lo hi)) S) : zhV (.tup xs) lo hi S Q:=.inl ⟨xs,rfl,q⟩
theorem zrR {x : D} {xs : List D} {lo hi : Option Int} (h : Lst S x xs) (q : New Q S (cutD xs lo hi)) : zhV x lo hi S Q:=.inr ⟨xs,h,q⟩
theorem ztn {xs : List D} (q : Q (.int xs.length) S) : zaS [.tup xs] S Q:=.inl ⟨_,xs,rfl,.inl rfl,q⟩
theorem zsF {x : D} {xs : List D} (h : Lst S x xs) (q : Q (.int xs.length) S) : zaS [x] S Q:=.inl ⟨_,xs,rfl,.inr h,q⟩
theorem znH {z : Str} (hz : z.length ≤ big) (q : Q (.int z.length) S) : zaS [.str z] S Q:=.inr ⟨z,rfl,hz,q⟩
theorem ztK {i : Int} (q : Q (.int (i.natAbs : Int)) S) : zkt [.int i] S Q:=⟨i,rfl,q⟩
theorem ztr {i j : Int} (q : Q (.int (max i j)) S) : zeg [.int i,.int j] S Q:=⟨i,j,rfl,q⟩
theorem zr7 {i j : Int} (q : Q (.int (min i j)) S) : zeR [.int i,.int j] S Q:=⟨i,j,rfl,q⟩
theorem zs8 {x : D} {ns : List Int} (h : Lst S x (ns.map D.int)) (h0 : 0 < ns.length) (q : ∀ m : Int,m ∈ ns→(∀ a ∈ ns,a ≤ m)→Q (.int m) S) : zmP [x] S Q:=⟨x,ns,rfl,h,h0,q⟩
theorem zrT {x : D} {ns : List Int} (h : Lst S x (ns.map D.int)) (h0 : 0 < ns.length) (q : ∀ m : Int,m ∈ ns→(∀ a ∈ ns,m ≤ a)→Q (.int m) S) : zl1 [x] S Q:=⟨x,ns,rfl,h,h0,q⟩
theorem zum {x : D} {bs : List Bool} (h : Lst S x (bs.map D.bl)) (q : Q (.bl (bs.all id)) S) : zgR [x] S Q:=⟨x,bs,rfl,h,q⟩
theorem zoV {x : D} {xs : List D} (h : Lst S x xs) (q : Q (.tup xs) S) : zkL [x] S Q:=⟨_,xs,rfl,.inr h,q⟩
theorem zqO {x : D} {xs : List D} (h : Lst S x xs) (q : New Q S xs) : zeO [x] S Q:=⟨_,xs,rfl,.inr h,q⟩
theorem zsu {b : Bool} (q : Q (.int (if b then 1 else 0)) S) : zo0 [.bl b] S Q:=.inr ⟨b,rfl,q⟩
theorem zqb {x : D} {cs : List (Int × Int)} (h : Lst S x (cs.map p2)) (hl : cs.length < 64) (q : ∀ ss : List (Int × Int),ss.Perm cs→ss.Pairwise (fun a b=>zhW b a = false)→New Q S (ss.map p2)) : zlZ [x] S Q:=.inl ⟨x,cs,rfl,h,hl,q⟩
theorem zoI {n : Nat} {xs : List D} {y : D} (h : S[n]? = some (.lst xs)) (hl : xs.length < big) (q : Put (Q .non) S n (.lst (xs ++ [y]))) : zb4 (.ref n) [y] S Q:=⟨n,xs,y,rfl,rfl,h,hl,q⟩
theorem zn3 {n : Nat} {xs ys : List D} (h : S[n]? = some (.lst xs)) (hl : xs.length + ys.length ≤ big) (q : Put (Q .non) S n (.lst (xs ++ ys))) : zhX (.ref n) [.tup ys] S Q:=.inr ⟨n,xs,ys,rfl,rfl,h,hl,q⟩
theorem zp0 {n : Nat} {xs : List D} {k : Int} {j : Nat} {d : D} {ρ : Rho} {Q : Rho→Sto→Prop} (h : S[n]? = some (.lst xs)) (e : ixD xs.length k = some j) (q : Put (Q ρ) S n (.lst (xs.set j d))) : zpN d ρ Q (.ref n) (.int k) S:=⟨n,xs,k,j,rfl,rfl,h,e,q⟩
end
section
variable {ρ : Rho} {S : Sto} {R : DIt→Sto→Prop}
theorem zsY {t : DE} (h : t ρ S fun x S1=>zg8 x S1 R) : zbi t ρ S R:=h
theorem ztB {xs : List D} (q : R ⟨xs,fun _=>True⟩ S) : zg8 (.tup xs) S R:=.inl ⟨xs,rfl,q⟩
theorem zuw {x : D} {xs : List D} (h : Lst S x xs) (q : R ⟨xs,fun S=>Lst S x xs⟩ S) : zg8 x S R:=.inr (.inl ⟨xs,h,q⟩)
theorem zuE {z : Str} (q : R ⟨signs z,fun _=>True⟩ S) : zg8 (.str z) S R:=.inr (.inr ⟨z,rfl,q⟩)
theorem zr8 {t : DA} (h : t ρ S fun vs S1=>∃ j : Int,vs = [.int j]∧-(2 ^ 62) ≤ j∧j < 2 ^ 62∧R ⟨upto 0 j.toNat,fun _=>True⟩ S1) : zdB t ρ S R:=h
theorem zr1 {t : DA} (h : t ρ S fun vs S1=>∃ i j : Int,vs = [.int i,.int j]∧R ⟨upto i (j - i).toNat,fun _=>True⟩ S1) : zjS t ρ S R:=h
theorem zrF {t : DA} (h : t ρ S (zkG R)) : zmQ t ρ S R:=h
theorem zvz {x : D} {xs : List D} (h : Lst S x xs) (q : R ⟨zcx 0 xs,fun S=>Lst S x xs⟩ S) : zkG R [x] S:=.inl ⟨x,xs,rfl,h,q⟩
theorem zsK {Q : DK} {x : D} {zs : List Str} (hx : Lst S x (zs.map D.str)) (hl : zs.length ≤ 4000) (q : Q (.int (zor zs)) S) : zl4 [x] S Q:=⟨x,zs,rfl,hx,hl,q⟩
theorem zuR {t : DA} (h : t ρ S (zmM R)) : zoO t ρ S R:=h
theorem zvs {x y : D} {xs ys : List D} (hx : Lst S x xs) (hy : Lst S y ys) (q : R ⟨zbU xs ys,fun S=>Lst S x xs∧Lst S y ys⟩ S) : zmM R [x,y] S:=.inl ⟨x,y,xs,ys,rfl,hx,hy,q⟩
theorem zvk {own : Nat} {fv : List Nat} {wi : DI} {g : DG} {tc : DT} {te : DE} {Q : DK} (h : wi ρ S fun J S1=>zmS own fv g tc te ρ Q J S1) : dLC own fv wi g tc te ρ S Q:=h
end
theorem zpe {A B : Prop} (h : B) : if false = true then A else B:=by rw [if_neg Bool.false_ne_true]; exact h
theorem zpa {A B : Prop} (h : A) : if true = true then A else B:=by rw [if_pos rfl]; exact h
theorem r_d {c A B : Prop} [Decidable c] (h1 : c→A) (h2 : ¬ c→B) : if decide c = true then A else B:=by
 by_cases h : c
 ·rw [decide_eq_true h,if_pos rfl]; exact h1 h
 ·rw [decide_eq_false h,if_neg Bool.false_ne_true]; exact h2 h
theorem zsI {c A B : Prop} [Decidable c] (h1 : ¬ c→A) (h2 : c→B) : if (!decide c) = true then A else B:=by
 by_cases h : c
 ·rw [decide_eq_true h]; exact h2 h
 ·rw [decide_eq_false h]; exact h1 h
theorem zb2 (S T : Sto) (k : Nat) : (S ++ T)[S.length + k]? = T[k]?:=by
 rw [List.getElem?_append_right (Nat.le_add_right _ _),Nat.add_sub_cancel_left]
theorem zqs (S T : Sto) : (S ++ T)[S.length]? = T[0]?:=zb2 S T 0
theorem zbw {S T : Sto} {c : Cell} : (S ++ c :: T)[S.length]? = some c:=(zb2 S (c :: T) 0).trans rfl
theorem zlL {S T : Sto} {c : Cell} : (S ++ (T ++ [c]))[S.length + T.length]? = some c:=by rw [zb2,List.getElem?_append_right (Nat.le_refl _),Nat.sub_self]; rfl
theorem zqf (S T : Sto) (k : Nat) (c : Cell) : (S ++ T).set (S.length + k) c = S ++ T.set k c:=by
 rw [List.set_append_right _ _ (Nat.le_add_right _ _),Nat.add_sub_cancel_left]
theorem zcr (S T : Sto) (a c : Cell) : (S ++ a :: T).set S.length c = S ++ c :: T:=zqf S (a :: T) 0 c
theorem zdb {S T : Sto} {n : Nat} {c : Cell} (h : S[n]? = some c) : (S ++ T)[n]? = some c:=by
 have : n < S.length:=by
  rcases Nat.lt_or_ge n S.length with g | g
  ·exact g
  ·rw [List.getElem?_eq_none g] at h; cases h
 rw [List.getElem?_append_left this]; exact h
theorem Lst.old {S T : Sto} {x : D} {xs : List D} (h : Lst S x xs) : Lst (S ++ T) x xs:=h.imp id fun ⟨n,e,h⟩=>⟨n,e,zdb h⟩
theorem Lst.at {S T : Sto} {k : Nat} {xs : List D} (h : T[k]? = some (.lst xs)) : Lst (S ++ T) (.ref (S.length + k)) xs:=.inr ⟨_,rfl,by rw [zb2]; exact h⟩
theorem Lst.at0 {S T : Sto} {xs : List D} : Lst (S ++ .lst xs :: T) (.ref S.length) xs:=.inr ⟨_,rfl,by rw [zqs]; rfl⟩
theorem Lst.new {S T : Sto} {xs : List D} : Lst (S ++ (T ++ [.lst xs])) (.ref (S.length + T.length)) xs:=.inr ⟨_,rfl,zlL⟩
theorem Lst.rl {S : Sto} {xs : List D} : Lst S (.rl xs) xs:=.inl rfl
theorem Lst.here {S : Sto} {n : Nat} {xs : List D} (h : S[n]? = some (.lst xs)) : Lst S (.ref n) xs:=.inr ⟨n,rfl,h⟩
theorem zap {S T : Sto} {Q : DK} {d : D} (h : fl 20 d = true) (q : Q d S) : Fin S Q d (S ++ T):=.inr ⟨S,List.prefix_append _ _,Nat.le_refl _,.inl h,fun _ _ e=>.inl e,q⟩
theorem fin_same {S S' : Sto} {Q : DK} {d : D} (q : Q d S') : Fin S Q d S':=.inl q
section
variable {S : Sto} {Q : DK}
theorem zjF {i : Int} (q : Q (.bl true) S) : zgM [.int i,.ty "int"] S Q:=⟨_,_,true,rfl,by rfl,q⟩
theorem zi4 {i : Int} (q : Q (.bl false) S) : zgM [.int i,.ty "bool"] S Q:=⟨_,_,false,rfl,by rfl,q⟩
theorem zin {xs : List D} (q : Q (.bl true) S) : zgM [.tup xs,.ty "tuple"] S Q:=⟨_,_,true,rfl,by rfl,q⟩
end
theorem zuy {A B : Prop} (h : B) : if (!true) = true then A else B:=zpe h
theorem zuH {A B : Prop} (h : A) : if (!false) = true then A else B:=zpa h
theorem zgv {S : Sto} {Q : DK} {x : D} {bs : List Bool} {b : Bool} (h : Lst S x (bs.map D.bl)) (e : bs.all id = b) (q : Q (.bl b) S) : zgR [x] S Q:=zum h (by rw [e]; exact q)
def LcW (S : Sto) (items : List D) (p : D→Bool) (f : D→D) (i : Nat) (ys : List D) (S' : Sto) : Prop:=S' = S∧ys = ((items.take i).filter p).map f
theorem zal {α : Type} {xs : List α} {i : Nat} {x : α} (h : xs[i]? = some x) : xs.take (i + 1) = xs.take i ++ [x]:=by rw [List.take_succ,h]; rfl
theorem zcS {S : Sto} {items : List D} {p : D→Bool} {f : D→D} {i : Nat} {ys : List D} {d y : D} (hd : items[i]? = some d) (hw : LcW S items p f i ys S) (hp : p d = true) (hy : y = f d) : LcW S items p f (i + 1) (ys ++ [y]) S :=
 ⟨rfl,by rw [zal hd,List.filter_append,List.map_append,← hw.2,List.filter_cons_of_pos hp,hy]; rfl⟩
theorem ztT {S : Sto} {items : List D} {p : D→Bool} {f : D→D} {i : Nat} {ys : List D} {d : D} (hd : items[i]? = some d) (hw : LcW S items p f i ys S) (hp : p d = false) : LcW S items p f (i + 1) ys S :=
 ⟨rfl,by rw [zal hd,List.filter_append,List.map_append,← hw.2,List.filter_cons_of_neg (by rw [hp]; exact Bool.false_ne_true)]; simp⟩
theorem zbv {own : Nat} {fv : List Nat} {xs : List D} {ok : Sto→Prop} {g : DG} {tc : DT} {te : DE} {ρ : Rho} {S : Sto} {Q : DK} (p : D→Bool) (f : D→D) (hok : ok S) (hbig : xs.length ≤ big)
  (step : ∀ i d ys,xs[i]? = some d→LcW S xs p f i ys S→g d (zhE own fv ρ) S fun ρ2 S2=>tc ρ2 S2 fun b S3=>if b = true then te ρ2 S3 fun y S4=>LcW S xs p f (i + 1) (ys ++ [y]) S4 else LcW S xs p f (i + 1) ys S3)
  (q : New Q S ((xs.filter p).map f)) : zmS own fv g tc te ρ Q ⟨xs,ok⟩ S:=by
 refine ⟨hbig,LcW S xs p f,⟨rfl,by simp⟩,fun i ys S' h=>by rw [h.1]; exact hok,fun i d ys S' hd h=>?_,fun ys S' h=>?_⟩
 ·obtain ⟨rfl,_⟩:=id h
  exact step i d ys hd h
 ·obtain ⟨rfl,rfl⟩:=h
  rw [List.take_length]; exact q
theorem filter_true {α : Type} (xs : List α) : xs.filter (fun _=>true) = xs:=List.filter_eq_self.mpr fun _ _=>rfl
theorem zdr {ds : List D} {i : Nat} {d : D} (h : ds[i]? = some d) : atD ds (i : Int) = some d:=by
 have hl : i < ds.length:=by
  rcases Nat.lt_or_ge i ds.length with g | g
  ·exact g
  ·rw [List.getElem?_eq_none g] at h; cases h
 unfold atD ixD
 rw [if_pos (by omega),if_pos (by omega)]
 simpa using h
theorem zcs {lo : Int} {n i : Nat} {d : D} (h : (upto lo n)[i]? = some d) : i < n∧d = .int (lo + i):=by
 unfold upto at h
 rw [List.getElem?_map] at h
 by_cases hi : i < n
 ·rw [List.getElem?_range hi] at h
  exact ⟨hi,by simpa using h.symm⟩
 ·rw [List.getElem?_eq_none (by simpa using hi)] at h; cases h
theorem zcF (lo : Int) (n : Nat) : (upto lo n).length = n:=by unfold upto; simp
theorem zez {zs : List Int} {k : Int} (h0 : 0 ≤ k) (h : k < zs.length) : ∃ z,z ∈ zs∧atD (zs.map D.int) k = some (.int z):=by
 refine ⟨zs[k.toNat]'(by omega),List.getElem_mem _,?_⟩
 unfold atD ixD
 rw [List.length_map,if_pos h0,if_pos h]
 simp only [Option.bind_some]
 rw [List.getElem?_map,List.getElem?_eq_getElem (by omega)]; rfl
theorem ztd {zs : List Int} {k : Int} (h0 : 0 ≤ k) (h : k < zs.length) : ixD (zs.map D.int).length k = some k.toNat:=by
 unfold ixD
 rw [List.length_map,if_pos h0,if_pos h]
theorem zow {zs : List Int} {i : Nat} {v z : Int} (h : z ∈ zs.set i v) : z ∈ zs∨z = v:=by
 rcases List.mem_or_eq_of_mem_set h with h | h
 ·exact .inl h
 ·exact .inr h
theorem zfq {zs : List Int} {i : Nat} {d : D} (h : (zs.map D.int)[i]? = some d) : ∃ z,zs[i]? = some z∧d = .int z:=by
 rw [List.getElem?_map] at h
 cases e : zs[i]? with
 | none=>rw [e] at h; cases h
 | some p=>rw [e] at h; cases h; exact ⟨p,rfl,rfl⟩
theorem zcL {cs : List (Int × Int)} {i : Nat} {d : D} (h : (cs.map p2)[i]? = some d) : ∃ c,cs[i]? = some c∧d = p2 c:=by
 rw [List.getElem?_map] at h
 cases e : cs[i]? with
 | none=>rw [e] at h; cases h
 | some p=>rw [e] at h; cases h; exact ⟨p,rfl,rfl⟩
theorem zaL {α : Type} {xs : List α} {i : Nat} {x : α} (h : xs[i]? = some x) : i < xs.length:=by
 rcases Nat.lt_or_ge i xs.length with g | g
 ·exact g
 ·rw [List.getElem?_eq_none g] at h; cases h
def zbQ : Option Int→D
 | none=>.non
 | some v=>.int v
theorem zqR {S G : Sto} {Q : DK} {xs : List D} (h : fc (.lst xs) = true) (q : New Q S xs) : Fin S Q (.ref S.length) (S ++ Cell.lst xs :: G) :=
 .inr ⟨S ++ [Cell.lst xs],⟨G,by simp⟩,by simp,.inr ⟨_,rfl,by simp⟩,(fun n c hn=>by
  rcases Nat.lt_or_ge n S.length with g | g
  ·rw [List.getElem?_append_left g] at hn; exact .inl hn
  ·have hl2:=zaL hn
   rw [List.length_append] at hl2
   have e : n = S.length:=by simp at hl2; omega
   subst e
   rw [List.getElem?_append_right (Nat.le_refl _),Nat.sub_self] at hn
   have : Cell.lst xs = c:=by simpa using hn
   subst this
   exact .inr h),q⟩
theorem ze4 : ∀ {xs : List D} {k i : Nat} {d : D},(zcx k xs)[i]? = some d→∃ x,xs[i]? = some x∧d = .tup [.int ((k + i : Nat) : Int),x]
 | [],k,i,d,h=>by simp [zcx] at h
 | x :: xs,k,0,d,h=>⟨x,rfl,by simpa [zcx] using h.symm⟩
 | x :: xs,k,i + 1,d,h=>by
  obtain ⟨y,e1,e2⟩:=ze4 (xs:=xs) (k:=k + 1) (i:=i) (d:=d) (by simpa [zcx] using h)
  exact ⟨y,by simpa using e1,by rw [e2,show k + 1 + i = k + (i + 1) by omega]⟩
theorem zci : ∀ (k : Nat) (xs : List D),(zcx k xs).length = xs.length
  | _,[]=>rfl
  | k,x :: xs=>congrArg (· + 1) (zci (k + 1) xs)
theorem zfP : ∀ {xs ys : List D} {i : Nat} {d : D},(zbU xs ys)[i]? = some d→∃ x y,xs[i]? = some x∧ys[i]? = some y∧d = .tup [x,y]
 | [],ys,i,d,h=>by simp [zbU] at h
 | x :: xs,[],i,d,h=>by simp [zbU] at h
 | x :: xs,y :: ys,0,d,h=>⟨x,y,rfl,rfl,by simpa [zbU] using h.symm⟩
 | x :: xs,y :: ys,i + 1,d,h=>by
  obtain ⟨a,b,e1,e2,e3⟩:=zfP (xs:=xs) (ys:=ys) (i:=i) (d:=d) (by simpa [zbU] using h)
  exact ⟨a,b,by simpa using e1,by simpa using e2,e3⟩
theorem zdL : ∀ (xs ys : List D),(zbU xs ys).length = min xs.length ys.length
 | [],ys=>by simp [zbU]
 | x :: xs,[]=>by simp [zbU]
 | x :: xs,y :: ys=>by
  show (zbU xs ys).length + 1 = min (xs.length + 1) (ys.length + 1)
  rw [zdL xs ys]; omega
theorem Hg.of {n : Nat} {x : Int} (h : My.Bd n x) (hn : n ≤ 1048576) : Hg x:=by
 unfold Hg; exact Nat.lt_of_lt_of_le h (Nat.pow_le_pow_right (by decide) hn)
def zeG : DSp:=fun ds S Q=>∃ ns : List Int,ds = [.rl (ns.map D.int)]∧(S = []∧∀ n ∈ ns,Hg n)∧ns.length ≤ 63∧∀ S',Q (.bl true) S'
theorem zqz : ∀ ds So Q,zeG ds So Q→ds.length = 1:=fun ds So Q ⟨ns,e,_⟩=>by rw [e]; rfl
theorem zq9 {α β : Type} (f : α→β) (xs : List α) (lo hi : Option Int) : cutD (xs.map f) lo hi = (cutD xs lo hi).map f:=by
 unfold cutD
 rw [List.length_map,List.map_take,List.map_drop]
theorem zqn {α : Type} (xs : List α) (lo hi : Option Int) : (cutD xs lo hi).length ≤ slD xs.length xs.length hi - slD xs.length 0 lo:=by
 unfold cutD
 rw [List.length_take]; omega
def onI (f : Int→D) : D→D
 | .int h=>f h
 | d=>d
section
variable {nx : Rho→Sto→Prop} {rt : DK} {bk ct : Rho→Sto→Prop} {ρ : Rho} {S : Sto}
theorem zqm {f : zeK} {ex : XR} {t : DA} {Q : DK} (h : t ρ S fun xs S1=>f xs S1 Q (ex ρ)) : zdz f ex t ρ S Q:=h
theorem zq1 {ex : XR} {c : Str} (h : ex ρ c S) : zgu ex c ⟨nx,rt,bk,ct⟩ ρ S:=h
end
theorem zrl {S : Sto} {Q : DK} {x y : Str} {b : Bool} (fx : fl 20 (.str x) = true) (fy : fl 20 (.str y) = true) (e : (x == y) = b) (q : Q (.bl b) S) : oEq (.str x) (.str y) S Q:=⟨_,.inl ⟨fx,fy,rfl⟩,by show Q (.bl (x == y)) S; rw [e]; exact q⟩
theorem zhN (c : List Str) (z : Str) : (zgm c z).length = if c.any (· == z) then c.length else c.length + 1:=by
  unfold zgm; split <;> simp
theorem zkb (c : List Str) (z y : Str) : (zgm c z).any (· == y) = (c.any (· == y) || decide (y = z)):=by
  unfold zgm
  by_cases h : c.any (· == z) = true
  · rw [if_pos h]
    by_cases e : y = z
    · subst e; rw [h]; rfl
    · rw [decide_eq_false e,Bool.or_false]
  · rw [if_neg h,List.any_append]
    congr 1
    by_cases e : y = z
    · subst e; simp
    · rw [decide_eq_false e]
      have : (z == y) = false:=beq_eq_false_iff_ne.mpr fun q=>e q.symm
      simp [this]
theorem ziI (f : Nat→Str) : ∀ i,(zcf f i).length ≤ i
  | 0=>Nat.le_refl _
  | i + 1=>by
    have:=ziI f i
    show (zgm (zcf f i) (f i)).length ≤ i + 1
    rw [zhN]; split <;> omega
theorem zky (f : Nat→Str) (y : Str) : ∀ i,((zcf f i).any (· == y) = true ↔ ∃ j,j < i∧f j = y)
  | 0=>⟨fun h=>(by simp [zcf] at h),fun ⟨j,hj,_⟩=>(by omega)⟩
  | i + 1=>by
    show ((zgm (zcf f i) (f i)).any (· == y) = true) ↔ _
    rw [zkb,Bool.or_eq_true,zky f y i,decide_eq_true_eq]
    constructor
    · rintro (⟨j,hj,e⟩ | e)
      · exact ⟨j,by omega,e⟩
      · exact ⟨i,by omega,e.symm⟩
    · rintro ⟨j,hj,e⟩
      rcases Nat.lt_or_ge j i with h | h
      · exact .inl ⟨j,h,e⟩
      · have : j = i:=by omega
        subst this; exact .inr e.symm
theorem zj9 (f : Nat→Str) : ∀ i,(∀ a b,a < b→b < i→f a ≠ f b)→(zcf f i).length = i
 | 0,_=>rfl
 | i + 1,h=>by
  show (zgm (zcf f i) (f i)).length = i + 1
  rw [zhN,zj9 f i fun a b x y=>h a b x (by omega)]
  rw [if_neg]
  intro z
  obtain ⟨j,hj,e⟩:=(zky f (f i) i).mp z
  exact h j i hj (by omega) e
theorem zmp {zs : List Str} (h : zs.Nodup) : zor zs = zs.length:=zj9 _ _ fun a b hab hb=>by
 show zs.getD a Str.empty ≠ zs.getD b Str.empty
 rw [List.getD_eq_getElem?_getD,List.getD_eq_getElem?_getD,List.getElem?_eq_getElem hb,List.getElem?_eq_getElem (show a < zs.length by omega)]
 exact List.pairwise_iff_getElem.mp h a b (by omega) hb hab
end Dp
namespace Rm
structure Pc where
 lo : Int
 hi : Int
 to : Int
 st : Int
instance : DecidableEq Pc:=fun p q=>if h : p.lo = q.lo∧p.hi = q.hi∧p.to = q.to∧p.st = q.st then isTrue (by cases p; cases q; obtain ⟨h1,h2,h3,h4⟩:=h; cases h1; cases h2; cases h3; cases h4; rfl) else isFalse (fun e=>h (by subst e; exact ⟨rfl,rfl,rfl,rfl⟩))
def Pc.led (p : Pc) (h : Int) : Int:=p.to + p.st * (h - p.lo)
def Pc.fin (p : Pc) : Int:=p.led p.hi
def inP (p : Pc) (h : Int) : Prop:=p.lo ≤ h∧h ≤ p.hi
instance (p : Pc) (h : Int) : Decidable (inP p h):=by unfold inP; infer_instance
def at' : List Pc→Int→Option Int
 | [],_=>none
 | p :: r,h=>if inP p h then some (p.led h) else at' r h
end Rm
namespace Rm
end Rm
namespace Rm
end Rm
namespace Dp
open PySem Rm
end Dp
namespace Dp
open PySem Rm My
theorem zeP (cs : List (Int × Int)) : fl 20 (.tup (cs.map p2)) = true:=by
 show (cs.map p2).all (fl 19) = true
 rw [List.all_map,List.all_eq_true]
 intro p _; rfl
theorem zkA {xs : List D} {x : D} : ixD (xs ++ [x]).length (-1) = some xs.length:=by
 have hl : ((xs ++ [x]).length : Int) = xs.length + 1:=by simp
 unfold ixD
 rw [if_neg (by omega),if_pos (by omega)]
 congr 1; omega
theorem zf1 {xs : List D} {x : D} : atD (xs ++ [x]) (-1) = some x:=by
 unfold atD
 rw [zkA]
 simp
end Dp
namespace Rm
open My Dp
def inS (h : Int) (c : Int × Int) : Bool:=decide (c.1 ≤ h) && decide (h ≤ c.2)
def lec (c : Int × Int) : Bool:=decide (c.1 ≤ c.2)
structure zan (cs : List (Int × Int)) : Prop where
 le : ∀ c ∈ cs,c.1 ≤ c.2
 ap : cs.Pairwise fun a b=>a.2 + 2 ≤ b.1
theorem zeq {h : Int} {c : Int × Int} : inS h c = true ↔ c.1 ≤ h∧h ≤ c.2:=by unfold inS; simp
theorem zaF {h : Int} {cs : List (Int × Int)} : cs.any (inS h) = true ↔ ∃ c ∈ cs,c.1 ≤ h∧h ≤ c.2:=by
 rw [List.any_eq_true]
 constructor
 ·rintro ⟨c,hc,g⟩; exact ⟨c,hc,zeq.mp g⟩
 ·rintro ⟨c,hc,g⟩; exact ⟨c,hc,zeq.mpr g⟩
theorem zan.nil : zan []:=⟨fun c hc=>absurd hc (by simp),.nil⟩
theorem zan.snoc {ms : List (Int × Int)} {c : Int × Int} (s : zan ms) (hc : c.1 ≤ c.2) (h : ∀ m ∈ ms,m.2 + 2 ≤ c.1) : zan (ms ++ [c]):=by
 refine ⟨fun d hd=>?_,List.pairwise_append.mpr ⟨s.ap,List.pairwise_singleton _ _,fun a ha b hb=>?_⟩⟩
 ·rcases List.mem_append.mp hd with g | g
  ·exact s.le d g
  ·have : d = c:=by simpa using g
   subst this; exact hc
 ·have : b = c:=by simpa using hb
  subst this; exact h a ha
theorem zan.init {ms : List (Int × Int)} {c : Int × Int} (s : zan (ms ++ [c])) : zan ms∧c.1 ≤ c.2∧∀ m ∈ ms,m.2 + 2 ≤ c.1:=by
 obtain ⟨h1,h2,h3⟩:=List.pairwise_append.mp s.ap
 exact ⟨⟨fun d hd=>s.le d (List.mem_append_left _ hd),h1⟩,s.le c (by simp),fun m hm=>h3 m hm c (by simp)⟩
theorem zpr {ms : List (Int × Int)} {l c : Int × Int} (s : zan (ms ++ [l])) (hc : c.1 ≤ c.2) (h1 : l.1 ≤ c.1) (h2 : c.1 ≤ l.2 + 1) :
  zan (ms ++ [(l.1,max l.2 c.2)])∧∀ h,(ms ++ [(l.1,max l.2 c.2)]).any (inS h) = ((ms ++ [l]).any (inS h) || inS h c):=by
 obtain ⟨s0,hl,hm⟩:=s.init
 refine ⟨s0.snoc (by show l.1 ≤ max l.2 c.2; omega) hm,fun h=>?_⟩
 rw [List.any_append,List.any_append,Bool.or_assoc]
 congr 1
 rw [Bool.eq_iff_iff,Bool.or_eq_true]
 simp only [List.any_cons,List.any_nil,Bool.or_false,zeq]
 omega
theorem zte {a b : Int × Int} (h : zhW b a = false) : a.1 ≤ b.1:=by
 unfold zhW at h
 rw [decide_eq_false_iff_not] at h
 omega
theorem zjd : ∀ {a b : List (Int × Int)},zan a→zan b→(∀ h,a.any (inS h) = b.any (inS h))→a = b
 | [],[],_,_,_=>rfl
 | [],d :: b,_,sb,e=>by
  have:=e d.1
  have hd:=sb.le d (by simp)
  rw [show (d :: b).any (inS d.1) = true from zaF.mpr ⟨d,by simp,Int.le_refl _,hd⟩] at this
  simp at this
 | c :: a,[],sa,_,e=>by
  have:=e c.1
  have hd:=sa.le c (by simp)
  rw [show (c :: a).any (inS c.1) = true from zaF.mpr ⟨c,by simp,Int.le_refl _,hd⟩] at this
  simp at this
 | c :: a,d :: b,sa,sb,e=>by
  have hc:=sa.le c (by simp)
  have hd:=sb.le d (by simp)
  obtain ⟨ca,pa⟩:=List.pairwise_cons.mp sa.ap
  obtain ⟨db,pb⟩:=List.pairwise_cons.mp sb.ap
  have inA : ∀ h,(∃ x ∈ c :: a,x.1 ≤ h∧h ≤ x.2) ↔ ∃ x ∈ d :: b,x.1 ≤ h∧h ≤ x.2:=fun h=>by rw [← zaF,← zaF,e h]
  have l1 : d.1 ≤ c.1:=by
   obtain ⟨x,hx,g1,g2⟩:=(inA c.1).mp ⟨c,by simp,Int.le_refl _,hc⟩
   rcases List.mem_cons.mp hx with rfl | hx
   ·exact g1
   ·have:=db x hx; omega
  have l2 : c.1 ≤ d.1:=by
   obtain ⟨x,hx,g1,g2⟩:=(inA d.1).mpr ⟨d,by simp,Int.le_refl _,hd⟩
   rcases List.mem_cons.mp hx with rfl | hx
   ·exact g1
   ·have:=ca x hx; omega
  have el : c.1 = d.1:=by omega
  have r1 : c.2 ≤ d.2:=by
   rcases (by omega : d.2 < c.2∨c.2 ≤ d.2) with g | g
   ·obtain ⟨x,hx,g1,g2⟩:=(inA (d.2 + 1)).mp ⟨c,by simp,by omega,by omega⟩
    rcases List.mem_cons.mp hx with rfl | hx
    ·omega
    ·have:=db x hx; omega
   ·exact g
  have r2 : d.2 ≤ c.2:=by
   rcases (by omega : c.2 < d.2∨d.2 ≤ c.2) with g | g
   ·obtain ⟨x,hx,g1,g2⟩:=(inA (c.2 + 1)).mpr ⟨d,by simp,by omega,by omega⟩
    rcases List.mem_cons.mp hx with rfl | hx
    ·omega
    ·have:=ca x hx; omega
   ·exact g
  have ec : c = d:=by
   cases c; cases d
   simp only [Prod.mk.injEq]
   exact ⟨el,by omega⟩
  subst ec
  have sa' : zan a:=⟨fun x hx=>sa.le x (by simp [hx]),pa⟩
  have sb' : zan b:=⟨fun x hx=>sb.le x (by simp [hx]),pb⟩
  rw [zjd sa' sb' fun h=>?_]
  rw [Bool.eq_iff_iff,zaF,zaF]
  constructor
  ·rintro ⟨x,hx,g1,g2⟩
   obtain ⟨y,hy,k1,k2⟩:=(inA h).mp ⟨x,by simp [hx],g1,g2⟩
   rcases List.mem_cons.mp hy with rfl | hy
   ·have:=ca x hx; omega
   ·exact ⟨y,hy,k1,k2⟩
  ·rintro ⟨x,hx,g1,g2⟩
   obtain ⟨y,hy,k1,k2⟩:=(inA h).mpr ⟨x,by simp [hx],g1,g2⟩
   rcases List.mem_cons.mp hy with rfl | hy
   ·have:=db x hx; omega
   ·exact ⟨y,hy,k1,k2⟩
theorem any_filter (cs : List (Int × Int)) (h : Int) : (cs.filter fun c=>decide (c.1 ≤ c.2)).any (inS h) = cs.any (inS h):=by
 rw [Bool.eq_iff_iff,zaF,zaF]
 constructor
 ·rintro ⟨c,hc,g⟩; exact ⟨c,(List.mem_filter.mp hc).1,g⟩
 ·rintro ⟨c,hc,g⟩; exact ⟨c,List.mem_filter.mpr ⟨hc,decide_eq_true (by omega)⟩,g⟩
theorem zo4 {a b : List (Int × Int)} (p : a.Perm b) (h : Int) : a.any (inS h) = b.any (inS h):=by
 rw [Bool.eq_iff_iff,zaF,zaF]
 constructor
 ·rintro ⟨c,hc,g⟩; exact ⟨c,p.mem_iff.mp hc,g⟩
 ·rintro ⟨c,hc,g⟩; exact ⟨c,p.mem_iff.mpr hc,g⟩
def za4 (a b : Int × Int) : Int × Int:=(max a.1 b.1,min a.2 b.2)
def zaK (as bs : List (Int × Int)) : List (Int × Int):=as.flatMap fun a=>bs.map (za4 a)
theorem zmB (as bs : List (Int × Int)) (h : Int) : (zaK as bs).any (inS h) = (as.any (inS h) && bs.any (inS h)):=by
  rw [Bool.eq_iff_iff,Bool.and_eq_true,zaF,zaF,zaF]
  unfold zaK
  constructor
  · rintro ⟨c,hc,g1,g2⟩
    obtain ⟨a,ha,hm⟩:=List.mem_flatMap.mp hc
    obtain ⟨b,hb,rfl⟩:=List.mem_map.mp hm
    unfold za4 at g1 g2
    dsimp only at g1 g2
    refine ⟨⟨a,ha,?_⟩,⟨b,hb,?_⟩⟩ <;> omega
  · rintro ⟨⟨a,ha,g1,g2⟩,⟨b,hb,k1,k2⟩⟩
    refine ⟨za4 a b,List.mem_flatMap.mpr ⟨a,ha,List.mem_map.mpr ⟨b,hb,rfl⟩⟩,?_⟩
    unfold za4
    dsimp only
    constructor <;> omega
theorem zko {a b : Int × Int} (ha : a.1 ≤ a.2) (hb : b.1 ≤ b.2) : (za4 a b).1 ≤ (za4 a b).2 ↔ b.1 ≤ a.2∧a.1 ≤ b.2:=by
 unfold za4
 dsimp only
 omega
theorem zlX {a : Int × Int} (ha : a.1 ≤ a.2) : ∀ {bs : List (Int × Int)},zan bs→((bs.map (za4 a)).filter fun c=>decide (c.1 ≤ c.2)).length ≤ (bs.filter fun b=>decide (b.2 ≤ a.2)).length + 1
  | [],_=>by simp
  | b :: bs,s=>by
    obtain ⟨cb,pb⟩:=List.pairwise_cons.mp s.ap
    have hb:=s.le b (by simp)
    have s' : zan bs:=⟨fun x hx=>s.le x (by simp [hx]),pb⟩
    have ih:=zlX ha s'
    rw [List.map_cons]
    by_cases h1 : b.2 ≤ a.2
    · rw [List.filter_cons_of_pos (p:=fun b : Int × Int=>decide (b.2 ≤ a.2)) (decide_eq_true h1)]
      have : (((za4 a b) :: bs.map (za4 a)).filter fun c=>decide (c.1 ≤ c.2)).length ≤ ((bs.map (za4 a)).filter fun c=>decide (c.1 ≤ c.2)).length + 1:=by
        rw [List.filter_cons]; split <;> simp
      simp only [List.length_cons]
      omega
    · have none : (bs.map (za4 a)).filter (fun c => decide (c.1 ≤ c.2)) = [] := by
        rw [List.filter_eq_nil_iff]
        intro c hc
        obtain ⟨x,hx,rfl⟩:=List.mem_map.mp hc
        have:=cb x hx
        have hx2:=s'.le x hx
        rw [decide_eq_true_eq,zko ha hx2]
        omega
      rw [List.filter_cons,none]
      split <;> simp
theorem zjX : ∀ {as bs : List (Int × Int)},zan as→zan bs→((zaK as bs).filter fun c=>decide (c.1 ≤ c.2)).length ≤ as.length + bs.length
 | [],bs,_,_=>by simp [zaK]
 | a :: as,bs,sa,sb=>by
  obtain ⟨ca,pa⟩:=List.pairwise_cons.mp sa.ap
  have ha:=sa.le a (by simp)
  have sa' : zan as:=⟨fun x hx=>sa.le x (by simp [hx]),pa⟩
  have sb2 : zan (bs.filter fun b=>!decide (b.2 ≤ a.2)):=⟨fun x hx=>sb.le x (List.mem_filter.mp hx).1,sb.ap.filter _⟩
  have ih:=zjX sa' sb2
  have one:=zlX ha sb
  have same : ((zaK as bs).filter fun c=>decide (c.1 ≤ c.2)).length = ((zaK as (bs.filter fun b=>!decide (b.2 ≤ a.2))).filter fun c=>decide (c.1 ≤ c.2)).length:=by
   clear ih one
   induction as with
   | nil=>rfl
   | cons d ds ihd =>
    have hd : a.2 + 2 ≤ d.1:=ca d (by simp)
    have hd2:=sa.le d (by simp)
    unfold zaK at ihd ⊢
    rw [List.flatMap_cons,List.flatMap_cons,List.filter_append,List.filter_append,List.length_append,List.length_append]
    have e1 : ((bs.map (za4 d)).filter fun c=>decide (c.1 ≤ c.2)).length = (((bs.filter fun b=>!decide (b.2 ≤ a.2)).map (za4 d)).filter fun c=>decide (c.1 ≤ c.2)).length:=by
     have hle:=sb.le
     clear ihd sb sb2
     induction bs with
     | nil=>rfl
     | cons b bs ihb =>
      have ih':=ihb fun x hx=>hle x (by simp [hx])
      have hb:=hle b (by simp)
      by_cases h1 : b.2 ≤ a.2
      ·rw [List.filter_cons_of_neg (p:=fun b : Int × Int=>!decide (b.2 ≤ a.2)) (by simp [h1]),List.map_cons,List.filter_cons_of_neg (by rw [decide_eq_true_eq,zko hd2 hb]; omega)]
       exact ih'
      ·rw [List.filter_cons_of_pos (p:=fun b : Int × Int=>!decide (b.2 ≤ a.2)) (by simp [h1]),List.map_cons,List.map_cons,List.filter_cons,List.filter_cons]
       split
       ·simp only [List.length_cons]; omega
       ·exact ih'
    have pa2:=List.pairwise_cons.mp (List.pairwise_cons.mp sa.ap).2
    have sd : zan (a :: ds):=⟨fun x hx=>by
     rcases List.mem_cons.mp hx with rfl | hx
     ·exact ha
     ·exact sa.le x (by simp [hx]),List.pairwise_cons.mpr ⟨fun x hx=>ca x (by simp [hx]),pa2.2⟩⟩
    have e2:=ihd sd (fun x hx=>ca x (by simp [hx])) pa2.2 ⟨fun x hx=>sd.le x (by simp [hx]),pa2.2⟩
    rw [e1,e2]
  have split2 : bs.length = (bs.filter fun b=>decide (b.2 ≤ a.2)).length + (bs.filter fun b=>!decide (b.2 ≤ a.2)).length:=by
   clear ih one same sb sb2
   induction bs with
   | nil=>rfl
   | cons b bs ihb =>
    rw [List.filter_cons,List.filter_cons]
    by_cases h1 : b.2 ≤ a.2
    ·simp [h1]; omega
    ·simp [h1]; omega
  unfold zaK at same ih ⊢
  rw [List.flatMap_cons,List.filter_append,List.length_append,same]
  simp only [List.length_cons]
  omega
end Rm
namespace Dp
open PySem Rm My
def on2 (f : Int × Int→D) : D→D
 | .tup [.int a,.int b]=>f (a,b)
 | d=>d
def zrM (p : Int × Int→Bool) : D→Bool
 | .tup [.int a,.int b]=>p (a,b)
 | _=>false
theorem zrb (f : Int × Int→D) (cs : List (Int × Int)) : (cs.map p2).map (on2 f) = cs.map f:=by rw [List.map_map]; rfl
theorem zoE (p : Int × Int→Bool) (cs : List (Int × Int)) : (cs.map p2).filter (zrM p) = (cs.filter p).map p2:=by rw [List.filter_map]; rfl
theorem zsq (a b : Int × Int) : eqv (p2 a) (p2 b) = decide (a = b):=by
 obtain ⟨a1,a2⟩:=a
 obtain ⟨b1,b2⟩:=b
 show (decide (a1 = b1) && (decide (a2 = b2) && true)) = _
 rw [Bool.and_true,← Bool.decide_and]
 exact decide_eq_decide.mpr (by simp)
theorem zlQ : ∀ (as bs : List (Int × Int)),eqvAll (as.map p2) (bs.map p2) = decide (as = bs)
 | [],[]=>rfl
 | [],b :: bs=>rfl
 | a :: as,[]=>rfl
 | a :: as,b :: bs=>by
  show (eqv (p2 a) (p2 b) && eqvAll (as.map p2) (bs.map p2)) = _
  rw [zsq,zlQ as bs,← Bool.decide_and]
  exact decide_eq_decide.mpr (by simp)
theorem zqc (as bs : List (Int × Int)) : eqv (.tup (as.map p2)) (.tup (bs.map p2)) = decide (as = bs):=zlQ as bs
theorem ztz {S : Sto} {Q : DK} {as bs : List (Int × Int)} (q : Q (.bl (!decide (as = bs))) S) : oNe (.tup (as.map p2)) (.tup (bs.map p2)) S Q:=⟨_,.inl ⟨zeP as,zeP bs,rfl⟩,by rw [zqc]; exact q⟩
theorem zru {S : Sto} {Q : DK} {as bs : List (Int × Int)} (e : as = bs) (q : Q (.bl false) S) : oNe (.tup (as.map p2)) (.tup (bs.map p2)) S Q:=ztz (by rw [decide_eq_true e]; exact q)
theorem ztv {S : Sto} {x : D} {xs : List D} {R : DIt→Sto→Prop} (h : zd9 S x xs) (q : ∀ ok : Sto→Prop,(∀ T,ok (S ++ T))→R ⟨xs,ok⟩ S) : zg8 x S R:=by
 rcases h with rfl | h
 ·exact .inl ⟨xs,rfl,q _ fun _=>True.intro⟩
 ·exact .inr (.inl ⟨xs,h,q _ fun T=>h.old⟩)
theorem zd9.old {S T : Sto} {x : D} {xs : List D} (h : zd9 S x xs) : zd9 (S ++ T) x xs:=h.imp id Lst.old
theorem zh5 (as bs : List (Int × Int)) : (zaK as bs).length = as.length * bs.length:=by
 unfold zaK
 induction as with
 | nil=>simp
 | cons a as ih=>rw [List.flatMap_cons,List.length_append,ih,List.length_map,List.length_cons,Nat.succ_mul,Nat.add_comm]
theorem zk5 {as bs : List (Int × Int)} {i : Nat} {a : Int × Int} (h : as[i]? = some a) : zaK (as.take (i + 1)) bs = zaK (as.take i) bs ++ bs.map (za4 a):=by
 unfold zaK
 rw [zal h,List.flatMap_append]; simp
def zax : Int→List (Int × Int)→List (Int × Int) × Int
 | st,[]=>([],st)
 | st,c :: cs=>((st,c.1 - 1) :: (zax (c.2 + 1) cs).1,(zax (c.2 + 1) cs).2)
theorem zd5 : ∀ (st : Int) (cs : List (Int × Int)),(zax st cs).1.length = cs.length
 | _,[]=>rfl
 | st,c :: cs=>by show ((zax (c.2 + 1) cs).1.length + 1) = _; rw [zd5]; rfl
theorem zfF : ∀ (st : Int) (cs : List (Int × Int)) (c : Int × Int),zax st (cs ++ [c]) = ((zax st cs).1 ++ [((zax st cs).2,c.1 - 1)],c.2 + 1)
 | st,[],c=>rfl
 | st,d :: cs,c=>by
  show ((st,d.1 - 1) :: (zax (d.2 + 1) (cs ++ [c])).1,(zax (d.2 + 1) (cs ++ [c])).2) = _
  rw [zfF]; rfl
theorem zkU {hi h : Int} (hh : h ≤ hi) : ∀ (st : Int) {cs : List (Int × Int)},zan cs→st ≤ h→(∀ c ∈ cs,c.2 ≤ h→True)→(((zax st cs).1 ++ [((zax st cs).2,hi)]).any (inS h) = true ↔ ¬ ∃ c ∈ cs,c.1 ≤ h∧h ≤ c.2)
  | st,[],_,hs,_=>by
    simp [zax,zeq,hs,hh]
  | st,c :: cs,s,hs,_=>by
    obtain ⟨cb,pb⟩:=List.pairwise_cons.mp s.ap
    have hc:=s.le c (by simp)
    have s' : zan cs:=⟨fun x hx=>s.le x (by simp [hx]),pb⟩
    show (((st,c.1 - 1) :: ((zax (c.2 + 1) cs).1 ++ [((zax (c.2 + 1) cs).2,hi)])).any (inS h) = true ↔ _)
    rw [List.any_cons,Bool.or_eq_true,zeq]
    rcases (by omega : h < c.1∨(c.1 ≤ h∧h ≤ c.2)∨c.2 < h) with g | g | g
    · constructor
      · rintro - ⟨x,hx,k1,k2⟩
        rcases List.mem_cons.mp hx with rfl | hx
        · omega
        · have:=cb x hx; omega
      · intro _
        exact .inl ⟨hs,by show h ≤ c.1 - 1; omega⟩
    · constructor
      · intro z
        exfalso
        rcases z with ⟨_,z⟩ | z
        · have : h ≤ c.1 - 1:=z
          omega
        · obtain ⟨x,hx,k1,k2⟩:=zaF.mp z
          have low : ∀ (st : Int) (cs : List (Int × Int)),zan cs→(∀ d ∈ cs,st ≤ d.1)→∀ x ∈ (zax st cs).1 ++ [((zax st cs).2,hi)],st ≤ x.1:=by
            intro st cs
            induction cs generalizing st with
            | nil => intro _ _ x hx; have : x = (st, hi) := by simpa [zax] using hx
                     subst this; exact Int.le_refl _
            | cons d ds ih =>
              intro sd hd x hx
              obtain ⟨c2,p2⟩:=List.pairwise_cons.mp sd.ap
              have hd1:=hd d (by simp)
              have hd2:=sd.le d (by simp)
              have hx : x ∈ (st,d.1 - 1) :: ((zax (d.2 + 1) ds).1 ++ [((zax (d.2 + 1) ds).2,hi)]):=hx
              rcases List.mem_cons.mp hx with rfl | hx
              · exact Int.le_refl _
              · have:=ih (d.2 + 1) ⟨fun y hy=>sd.le y (by simp [hy]),p2⟩ (fun y hy=>by have:=c2 y hy; omega) x hx
                omega
          have:=low (c.2 + 1) cs s' (fun d hd=>by have:=cb d hd; omega) x hx
          omega
      · intro z
        exact absurd ⟨c,by simp,g.1,g.2⟩ z
    · have ih:=zkU hh (c.2 + 1) s' (by omega) (fun _ _ _=>trivial)
      constructor
      · rintro z ⟨x,hx,k1,k2⟩
        rcases List.mem_cons.mp hx with rfl | hx
        · omega
        · rcases z with ⟨_,z⟩ | z
          · have : h ≤ c.1 - 1:=z
            omega
          · exact ih.mp z ⟨x,hx,k1,k2⟩
      · intro z
        exact .inr (ih.mpr fun ⟨x,hx,k⟩=>z ⟨x,by simp [hx],k⟩)
end Dp
namespace Rm
open My Dp
def acr (L R B T x1 z1 x2 z2 : Int) : List Int :=
 [(x2 - x1) * (B - z1) - (z2 - z1) * (L - x1),(x2 - x1) * (T - z1) - (z2 - z1) * (L - x1),(x2 - x1) * (B - z1) - (z2 - z1) * (R - x1),(x2 - x1) * (T - z1) - (z2 - z1) * (R - x1)]
def ziF (L R B T x1 z1 x2 z2 : Int) : Prop :=
 L ≤ (max x1 x2)∧(min x1 x2) ≤ R∧B ≤ (max z1 z2)∧(min z1 z2) ≤ T∧(∃ a ∈ acr L R B T x1 z1 x2 z2,0 ≤ a)∧∃ a ∈ acr L R B T x1 z1 x2 z2,a ≤ 0
def ze5 (lo hi st sp e1 e2 x1 x2 : Int) : Prop :=
 (sp = 0∧lo ≤ st∧st ≤ hi∧e1 = 0∧e2 = 1∧x1 = 1∧x2 = 1)∨(sp = 0∧(st < lo∨hi < st)∧e1 = 1∧e2 = 1∧x1 = 0∧x2 = 1) ∨
 (0 < sp∧e1 = lo - st∧e2 = sp∧x1 = hi - st∧x2 = sp)∨(sp < 0∧e1 = st - hi∧e2 = -sp∧x1 = st - lo∧x2 = -sp)
def zig (ea1 ea2 xa1 xa2 eu1 eu2 xu1 xu2 : Int) : Prop:=∀ e ∈ [((0 : Int),(1 : Int)),(ea1,ea2),(eu1,eu2)],∀ x ∈ [((1 : Int),(1 : Int)),(xa1,xa2),(xu1,xu2)],e.1 * x.2 ≤ x.1 * e.2
theorem zcn {u a b : Int} (h : 0 ≤ u) (h' : a ≤ b) : u * a ≤ u * b:=Int.mul_le_mul_of_nonneg_left h' h
theorem zcq {u a b : Int} (h : u ≤ 0) (h' : a ≤ b) : u * b ≤ u * a:=Int.mul_le_mul_of_nonpos_left h h'
theorem zpt {p r P R : Int} {L x : Int} : (∃ a ∈ [P - L,R - L,P - x,R - x],p ≤ a) ↔ (p ≤ P - L∨p ≤ R - L∨p ≤ P - x∨p ≤ R - x):=by simp
theorem znI {p P R : Int} {L x : Int} : (∃ a ∈ [P - L,R - L,P - x,R - x],a ≤ p) ↔ (P - L ≤ p∨R - L ≤ p∨P - x ≤ p∨R - x ≤ p):=by simp
theorem zcj {ea1 ea2 xa1 xa2 eu1 eu2 xu1 xu2 : Int} : zig ea1 ea2 xa1 xa2 eu1 eu2 xu1 xu2 ↔
  (0 ≤ xa1∧0 ≤ xu1)∧(ea1 ≤ ea2∧ea1 * xa2 ≤ xa1 * ea2∧ea1 * xu2 ≤ xu1 * ea2)∧(eu1 ≤ eu2∧eu1 * xa2 ≤ xa1 * eu2∧eu1 * xu2 ≤ xu1 * eu2):=by
 unfold zig
 simp
theorem zeM {L R B T x1 z1 x2 z2 ea1 ea2 xa1 xa2 eu1 eu2 xu1 xu2 : Int} (hx : L ≤ R) (hz : B ≤ T) (pa : ze5 L R x1 (x2 - x1) ea1 ea2 xa1 xa2) (pu : ze5 B T z1 (z2 - z1) eu1 eu2 xu1 xu2) :
    zig ea1 ea2 xa1 xa2 eu1 eu2 xu1 xu2 ↔ ziF L R B T x1 z1 x2 z2:=by
  rw [zcj]
  unfold ziF acr
  rw [zpt (r:=0),znI]
  have mX : (max x1 x2) = x1 + (max 0 (x2 - x1)):=by omega
  have nX : (min x1 x2) = x1 + (min 0 (x2 - x1)):=by omega
  have mZ : (max z1 z2) = z1 + (max 0 (z2 - z1)):=by omega
  have nZ : (min z1 z2) = z1 + (min 0 (z2 - z1)):=by omega
  rw [mX,nX,mZ,nZ]
  clear mX nX mZ nZ
  generalize x2 - x1 = u at *
  generalize z2 - z1 = v at *
  have c1 : ∀ s t : Int,(s - x1) * t = t * (s - x1):=fun s t=>Int.mul_comm _ _
  have c2 : ∀ s t : Int,(x1 - s) * t = -(t * (s - x1)):=fun s t=>by grind
  have c3 : ∀ s t : Int,(s - z1) * t = t * (s - z1):=fun s t=>Int.mul_comm _ _
  have c4 : ∀ s t : Int,(z1 - s) * t = -(t * (s - z1)):=fun s t=>by grind
  have n1 : ∀ s t : Int,-t * (s - x1) = -(t * (s - x1)):=fun s t=>by grind
  have n2 : ∀ s t : Int,-t * (s - z1) = -(t * (s - z1)):=fun s t=>by grind
  rcases pa with ⟨hu,h1,h2,rfl,rfl,rfl,rfl⟩ | ⟨hu,h1,rfl,rfl,rfl,rfl⟩ | ⟨hu,rfl,rfl,rfl,rfl⟩ | ⟨hu,rfl,rfl,rfl,rfl⟩ <;>
  rcases pu with ⟨hv,g1,g2,rfl,rfl,rfl,rfl⟩ | ⟨hv,g1,rfl,rfl,rfl,rfl⟩ | ⟨hv,rfl,rfl,rfl,rfl⟩ | ⟨hv,rfl,rfl,rfl,rfl⟩ <;>
  simp only [c1,c2,c3,c4,n1,n2,Int.zero_mul,Int.mul_zero,Int.one_mul,Int.mul_one] <;>
  (first
    | (have k1:=zcn (Int.le_of_lt hu) (show B - z1 ≤ T - z1 by omega); have k1':=zcn (Int.le_of_lt hu) (show L - x1 ≤ R - x1 by omega); skip)
    | (have k1:=zcq (Int.le_of_lt hu) (show B - z1 ≤ T - z1 by omega); have k1':=zcq (Int.le_of_lt hu) (show L - x1 ≤ R - x1 by omega); skip)
    | skip) <;>
  (first
    | (have k2:=zcn (Int.le_of_lt hv) (show L - x1 ≤ R - x1 by omega); have k2':=zcn (Int.le_of_lt hv) (show B - z1 ≤ T - z1 by omega); skip)
    | (have k2:=zcq (Int.le_of_lt hv) (show L - x1 ≤ R - x1 by omega); have k2':=zcq (Int.le_of_lt hv) (show B - z1 ≤ T - z1 by omega); skip)
    | skip) <;>
  (first
    | (have k3:=zcn (Int.le_of_lt hu) (show B - z1 ≤ 0 by omega); have k3':=zcn (Int.le_of_lt hu) (show 0 ≤ T - z1 by omega); skip)
    | (have k3:=zcq (Int.le_of_lt hu) (show B - z1 ≤ 0 by omega); have k3':=zcq (Int.le_of_lt hu) (show 0 ≤ T - z1 by omega); skip)
    | skip) <;>
  (first
    | (have k4:=zcn (Int.le_of_lt hv) (show L - x1 ≤ 0 by omega); have k4':=zcn (Int.le_of_lt hv) (show 0 ≤ R - x1 by omega); skip)
    | (have k4:=zcq (Int.le_of_lt hv) (show L - x1 ≤ 0 by omega); have k4':=zcq (Int.le_of_lt hv) (show 0 ≤ R - x1 by omega); skip)
    | skip) <;>
  (try simp only [Int.mul_zero] at *) <;>
  (first | (subst hu; subst hv) | subst hu | subst hv | skip) <;>
  (try simp only [Int.zero_mul,Int.mul_zero,Int.one_mul,Int.mul_one,Int.neg_zero]) <;>
  omega
theorem zkR (L R B T x1 z1 x2 z2 g s k : Int) : acr (L + g * k) (R + g * k) (B + s * k) (T + s * k) x1 z1 x2 z2 = (acr L R B T x1 z1 x2 z2).map fun a=>a + k * ((x2 - x1) * s - (z2 - z1) * g):=by
  unfold acr
  simp only [List.map_cons,List.map_nil,List.cons.injEq,and_true]
  refine ⟨?_,?_,?_,?_⟩ <;> grind
theorem zoW {as : List Int} {m m' d : Int} (h1 : m ∈ as) (h2 : ∀ a ∈ as,a ≤ m) (h3 : m' ∈ as.map fun a=>a + d) (h4 : ∀ a ∈ as.map (fun a=>a + d),a ≤ m') : m' = m + d:=by
 obtain ⟨b,hb,rfl⟩:=List.mem_map.mp h3
 have e1:=h2 b hb
 have e2:=h4 (m + d) (List.mem_map.mpr ⟨m,h1,rfl⟩)
 omega
theorem zoy {as : List Int} {m m' d : Int} (h1 : m ∈ as) (h2 : ∀ a ∈ as,m ≤ a) (h3 : m' ∈ as.map fun a=>a + d) (h4 : ∀ a ∈ as.map (fun a=>a + d),m' ≤ a) : m' = m + d:=by
 obtain ⟨b,hb,rfl⟩:=List.mem_map.mp h3
 have e1:=h2 b hb
 have e2:=h4 (m + d) (List.mem_map.mpr ⟨m,h1,rfl⟩)
 omega
def six (L R B T x1 z1 x2 z2 mx mn : Int) : List Int:=[(max x1 x2) - L,R - (min x1 x2),(max z1 z2) - B,T - (min z1 z2),mx,-mn]
theorem zm7 {L R B T x1 z1 x2 z2 g s mx mn mx' mn' k : Int} (m1 : mx ∈ acr (L + g * 0) (R + g * 0) (B + s * 0) (T + s * 0) x1 z1 x2 z2) (m2 : ∀ a ∈ acr (L + g * 0) (R + g * 0) (B + s * 0) (T + s * 0) x1 z1 x2 z2, a ≤ mx)
    (n1 : mn ∈ acr (L + g * 0) (R + g * 0) (B + s * 0) (T + s * 0) x1 z1 x2 z2) (n2 : ∀ a ∈ acr (L + g * 0) (R + g * 0) (B + s * 0) (T + s * 0) x1 z1 x2 z2,mn ≤ a)
    (m1' : mx' ∈ acr (L + g * 1) (R + g * 1) (B + s * 1) (T + s * 1) x1 z1 x2 z2) (m2' : ∀ a ∈ acr (L + g * 1) (R + g * 1) (B + s * 1) (T + s * 1) x1 z1 x2 z2,a ≤ mx')
    (n1' : mn' ∈ acr (L + g * 1) (R + g * 1) (B + s * 1) (T + s * 1) x1 z1 x2 z2) (n2' : ∀ a ∈ acr (L + g * 1) (R + g * 1) (B + s * 1) (T + s * 1) x1 z1 x2 z2,mn' ≤ a) :
    (∀ i,i < 6→0 ≤ (six (L + g * 0) (R + g * 0) (B + s * 0) (T + s * 0) x1 z1 x2 z2 mx mn).getD i 0 + k * ((six (L + g * 1) (R + g * 1) (B + s * 1) (T + s * 1) x1 z1 x2 z2 mx' mn').getD i 0 - (six (L + g * 0) (R + g * 0) (B + s * 0) (T + s * 0) x1 z1 x2 z2 mx mn).getD i 0)) ↔
    ziF (L + g * k) (R + g * k) (B + s * k) (T + s * k) x1 z1 x2 z2:=by
  rw [zkR] at m1 m2 n1 n2 m1' m2' n1' n2'
  have id0 : (acr L R B T x1 z1 x2 z2).map (fun a=>a + 0 * ((x2 - x1) * s - (z2 - z1) * g)) = acr L R B T x1 z1 x2 z2:=by
    simp
  rw [id0] at m1 m2 n1 n2
  rw [show (fun a : Int=>a + 1 * ((x2 - x1) * s - (z2 - z1) * g)) = fun a=>a + ((x2 - x1) * s - (z2 - z1) * g) by funext a; rw [Int.one_mul]] at m1' m2' n1' n2'
  have e1:=zoW m1 m2 m1' m2'
  have e2:=zoy n1 n2 n1' n2'
  unfold ziF
  rw [zkR]
  generalize (x2 - x1) * s - (z2 - z1) * g = d at *
  have f1 : (∃ a ∈ (acr L R B T x1 z1 x2 z2).map (fun a=>a + k * d),0 ≤ a) ↔ 0 ≤ mx + k * d:=by
    constructor
    · rintro ⟨a,ha,h⟩
      obtain ⟨b,hb,rfl⟩:=List.mem_map.mp ha
      have:=m2 b hb
      omega
    · intro h
      exact ⟨_,List.mem_map.mpr ⟨mx,m1,rfl⟩,h⟩
  have f2 : (∃ a ∈ (acr L R B T x1 z1 x2 z2).map (fun a=>a + k * d),a ≤ 0) ↔ mn + k * d ≤ 0:=by
    constructor
    · rintro ⟨a,ha,h⟩
      obtain ⟨b,hb,rfl⟩:=List.mem_map.mp ha
      have:=n2 b hb
      omega
    · intro h
      exact ⟨_,List.mem_map.mpr ⟨mn,n1,rfl⟩,h⟩
  rw [f1,f2]
  subst e1 e2
  unfold six
  generalize (max x1 x2) = q1
  generalize (min x1 x2) = q2
  generalize (max z1 z2) = q3
  generalize (min z1 z2) = q4
  have h0 : k * (q1 - (L + g * 1) - (q1 - (L + g * 0))) = -(g * k):=by grind
  have h1 : k * (R + g * 1 - q2 - (R + g * 0 - q2)) = g * k:=by grind
  have h2 : k * (q3 - (B + s * 1) - (q3 - (B + s * 0))) = -(s * k):=by grind
  have h3 : k * (T + s * 1 - q4 - (T + s * 0 - q4)) = s * k:=by grind
  have h4 : k * (mx + d - mx) = k * d:=by grind
  have h5 : k * (-(mn + d) - -mn) = -(k * d):=by grind
  constructor
  · intro h
    have a0:=h 0 (by decide)
    have a1:=h 1 (by decide)
    have a2:=h 2 (by decide)
    have a3:=h 3 (by decide)
    have a4:=h 4 (by decide)
    have a5:=h 5 (by decide)
    simp only [List.getD_cons_zero,List.getD_cons_succ] at a0 a1 a2 a3 a4 a5
    rw [h0] at a0
    rw [h1] at a1
    rw [h2] at a2
    rw [h3] at a3
    rw [h4] at a4
    rw [h5] at a5
    refine ⟨?_,?_,?_,?_,?_,?_⟩ <;> omega
  · rintro ⟨a0,a1,a2,a3,a4,a5⟩ i hi
    match i,hi with
    | 0,_=>simp only [List.getD_cons_zero,List.getD_cons_succ]; rw [h0]; omega
    | 1,_=>simp only [List.getD_cons_zero,List.getD_cons_succ]; rw [h1]; omega
    | 2,_=>simp only [List.getD_cons_zero,List.getD_cons_succ]; rw [h2]; omega
    | 3,_=>simp only [List.getD_cons_zero,List.getD_cons_succ]; rw [h3]; omega
    | 4,_=>simp only [List.getD_cons_zero,List.getD_cons_succ]; rw [h4]; omega
    | 5,_=>simp only [List.getD_cons_zero,List.getD_cons_succ]; rw [h5]; omega
theorem zqk {S T k : Int} (h : 0 < T) : -(S / T) ≤ k ↔ 0 ≤ S + k * T:=by
 have : -k ≤ S / T ↔ -k * T ≤ S:=Int.le_ediv_iff_mul_le h
 rw [Int.neg_mul] at this
 omega
theorem znR {S T k : Int} (h : T < 0) : k ≤ S / -T ↔ 0 ≤ S + k * T:=by
 have : k ≤ S / -T ↔ k * -T ≤ S:=Int.le_ediv_iff_mul_le (by omega)
 rw [Int.mul_neg] at this
 omega
end Rm
namespace Rm
open My Dp
def Hit (L R B T x1 z1 x2 z2 : Int) : Prop:=∃ p q : Int,0 < q∧0 ≤ p∧p ≤ q∧L * q ≤ x1 * q + p * (x2 - x1)∧x1 * q + p * (x2 - x1) ≤ R * q∧B * q ≤ z1 * q + p * (z2 - z1)∧z1 * q + p * (z2 - z1) ≤ T * q
theorem mulL {k a b : Int} (h : 0 ≤ k) (g : a ≤ b) : k * a ≤ k * b:=Int.mul_le_mul_of_nonneg_left g h
theorem zos {k a b : Int} (h : 0 < k) (g : k * a ≤ k * b) : a ≤ b:=Int.le_of_mul_le_mul_left g h
theorem ftr {a b c d e f : Int} (hb : 0 ≤ b) (hf : 0 ≤ f) (hd : 0 < d) (h1 : a * d ≤ c * b) (h2 : c * f ≤ e * d) : a * f ≤ e * b:=by
 refine zos hd ?_
 have k1:=mulL hf h1
 have k2:=mulL hb h2
 have e1 : d * (a * f) = f * (a * d):=by grind
 have e2 : f * (c * b) = b * (c * f):=by grind
 have e3 : b * (e * d) = d * (e * b):=by grind
 omega
theorem fmax : ∀ {l : List (Int × Int)},l ≠ []→(∀ e ∈ l,0 < e.2)→∃ e ∈ l,∀ f ∈ l,f.1 * e.2 ≤ e.1 * f.2
 | [],h,_=>absurd rfl h
 | [x],_,_=>⟨x,by simp,fun f hf=>by simp at hf; subst hf; exact Int.le_refl _⟩
 | x :: y :: l,_,h=>by
  obtain ⟨m,hm,g⟩:=fmax (l:=y :: l) (by simp) fun e he=>h e (by simp [he])
  have hx:=h x (by simp)
  have hm2:=h m (by simp [hm])
  rcases Int.le_total (x.1 * m.2) (m.1 * x.2) with c | c
  ·refine ⟨m,by simp [hm],fun f hf=>?_⟩
   rcases List.mem_cons.mp hf with rfl | hf
   ·exact c
   ·exact g f hf
  ·refine ⟨x,by simp,fun f hf=>?_⟩
   rcases List.mem_cons.mp hf with rfl | hf
   ·exact Int.le_refl _
   ·exact ftr (Int.le_of_lt (h f (by simp [hf]))) (Int.le_of_lt hx) hm2 (g f hf) c
theorem zlx (lo hi st sp : Int) : ∃ e1 e2 x1 x2,ze5 lo hi st sp e1 e2 x1 x2∧0 < e2∧0 < x2:=by
 unfold ze5
 rcases Int.lt_trichotomy sp 0 with h | h | h
 ·exact ⟨st - hi,-sp,st - lo,-sp,.inr (.inr (.inr ⟨h,rfl,rfl,rfl,rfl⟩)),by omega,by omega⟩
 ·by_cases g : lo ≤ st∧st ≤ hi
  ·exact ⟨0,1,1,1,.inl ⟨h,g.1,g.2,rfl,rfl,rfl,rfl⟩,by omega,by omega⟩
  ·exact ⟨1,1,0,1,.inr (.inl ⟨h,by omega,rfl,rfl,rfl,rfl⟩),by omega,by omega⟩
 ·exact ⟨lo - st,sp,hi - st,sp,.inr (.inr (.inl ⟨h,rfl,rfl,rfl,rfl⟩)),h,h⟩
theorem zlE {lo hi st sp e1 e2 x1 x2 p q : Int} (P : ze5 lo hi st sp e1 e2 x1 x2) (hq : 0 < q) (h0 : 0 ≤ p) (h1 : p ≤ q) (h2 : e1 * q ≤ p * e2) (h3 : p * x2 ≤ x1 * q) : lo * q ≤ st * q + p * sp∧st * q + p * sp ≤ hi * q:=by
 rcases P with ⟨hu,g1,g2,rfl,rfl,rfl,rfl⟩ | ⟨hu,g1,rfl,rfl,rfl,rfl⟩ | ⟨hu,rfl,rfl,rfl,rfl⟩ | ⟨hu,rfl,rfl,rfl,rfl⟩
 ·subst hu
  have k1:=mulL (Int.le_of_lt hq) g1
  have k2:=mulL (Int.le_of_lt hq) g2
  rw [Int.mul_comm q,Int.mul_comm q] at k1 k2
  rw [Int.mul_zero]; omega
 ·omega
 ·rw [Int.sub_mul] at h2 h3; omega
 ·rw [Int.sub_mul,Int.mul_neg] at h2 h3; omega
theorem zkz {lo hi st sp e1 e2 x1 x2 p q : Int} (P : ze5 lo hi st sp e1 e2 x1 x2) (hq : 0 < q) (h0 : 0 ≤ p) (h1 : p ≤ q) (h2 : lo * q ≤ st * q + p * sp) (h3 : st * q + p * sp ≤ hi * q) : e1 * q ≤ p * e2∧p * x2 ≤ x1 * q:=by
 rcases P with ⟨hu,g1,g2,rfl,rfl,rfl,rfl⟩ | ⟨hu,g1,rfl,rfl,rfl,rfl⟩ | ⟨hu,rfl,rfl,rfl,rfl⟩ | ⟨hu,rfl,rfl,rfl,rfl⟩
 ·omega
 ·subst hu
  rw [Int.mul_zero,Int.add_zero,Int.mul_comm lo,Int.mul_comm st] at h2
  rw [Int.mul_zero,Int.add_zero,Int.mul_comm hi,Int.mul_comm st] at h3
  have k1:=zos hq h2
  have k2:=zos hq h3
  omega
 ·rw [Int.sub_mul,Int.sub_mul]; omega
 ·rw [Int.sub_mul,Int.sub_mul,Int.mul_neg]; omega
theorem zi3 {L R B T x1 z1 x2 z2 : Int} (hx : L ≤ R) (hz : B ≤ T) : ziF L R B T x1 z1 x2 z2 ↔ Hit L R B T x1 z1 x2 z2:=by
  obtain ⟨a1,a2,a3,a4,pa,ha2,ha4⟩:=zlx L R x1 (x2 - x1)
  obtain ⟨u1,u2,u3,u4,pu,hu2,hu4⟩:=zlx B T z1 (z2 - z1)
  rw [← zeM hx hz pa pu]
  constructor
  · intro h
    obtain ⟨⟨p,q⟩,he,mx⟩:=fmax (l:=[((0 : Int),(1 : Int)),(a1,a2),(u1,u2)]) (by simp) (by
      intro e he
      simp only [List.mem_cons,List.not_mem_nil,or_false] at he
      rcases he with rfl | rfl | rfl
      · exact Int.one_pos
      · exact ha2
      · exact hu2)
    have hq : 0 < q:=by
      simp only [List.mem_cons,List.not_mem_nil,or_false,Prod.mk.injEq] at he
      rcases he with he | he | he <;> omega
    have m0:=mx (0,1) (by simp)
    have m1:=mx (a1,a2) (by simp)
    have m2:=mx (u1,u2) (by simp)
    have n0:=h _ he (1,1) (by simp)
    have n1:=h _ he (a3,a4) (by simp)
    have n2:=h _ he (u3,u4) (by simp)
    dsimp only at m0 m1 m2 n0 n1 n2
    have h0 : 0 ≤ p:=by omega
    have h1 : p ≤ q:=by omega
    obtain ⟨k1,k2⟩:=zlE pa hq h0 h1 m1 n1
    obtain ⟨k3,k4⟩:=zlE pu hq h0 h1 m2 n2
    exact ⟨p,q,hq,h0,h1,k1,k2,k3,k4⟩
  · rintro ⟨p,q,hq,h0,h1,k1,k2,k3,k4⟩
    obtain ⟨g1,g2⟩:=zkz pa hq h0 h1 k1 k2
    obtain ⟨g3,g4⟩:=zkz pu hq h0 h1 k3 k4
    intro e he x hx
    have ee : 0 < e.2∧e.1 * q ≤ p * e.2:=by
      simp only [List.mem_cons,List.not_mem_nil,or_false] at he
      rcases he with rfl | rfl | rfl
      · exact ⟨Int.one_pos,by omega⟩
      · exact ⟨ha2,g1⟩
      · exact ⟨hu2,g3⟩
    have xx : 0 < x.2∧p * x.2 ≤ x.1 * q:=by
      simp only [List.mem_cons,List.not_mem_nil,or_false] at hx
      rcases hx with rfl | rfl | rfl
      · exact ⟨Int.one_pos,by omega⟩
      · exact ⟨ha4,g2⟩
      · exact ⟨hu4,g4⟩
    exact ftr (Int.le_of_lt ee.1) (Int.le_of_lt xx.1) hq ee.2 xx.2
end Rm
namespace Dp
open PySem Rm My
structure Fg where
 x0 : Int
 x1 : Int
 z0 : Int
 z1 : Int
 f : Int
 l : Int
 g : Int
 s : Int
abbrev fgD (F : Fg) : D:=.tup [.int F.x0,.int F.x1,.int F.z0,.int F.z1,.int F.f,.int F.l,.int F.g,.int F.s]
structure FgB (F : Fg) : Prop where
 x : F.x0 ≤ F.x1
 z : F.z0 ≤ F.z1
 b0 : Bd 600 F.x0
 b1 : Bd 600 F.x1
 b2 : Bd 600 F.z0
 b3 : Bd 600 F.z1
 bg : Bd 200 F.g
 bs : Bd 200 F.s
def zcw (F : Fg) (px pz qx qz h : Int) : Prop:=F.f ≤ h∧h ≤ F.l∧Hit (F.x0 + F.g * (h - F.f)) (F.x1 + F.g * (h - F.f)) (F.z0 + F.s * (h - F.f)) (F.z1 + F.s * (h - F.f)) px pz qx qz
def zpJ (ms : List (Int × Int)) (F : Fg) (px pz qx qz : Int) : Prop:=zan ms∧ms.length ≤ 1∧∀ h,ms.any (inS h) = true ↔ zcw F px pz qx qz h
theorem zh9 {fs : List Fg} {i : Nat} {d : D} (h : (fs.map fgD)[i]? = some d) : ∃ F,fs[i]? = some F∧d = fgD F:=by
 rw [List.getElem?_map] at h
 cases e : fs[i]? with
 | none=>rw [e] at h; cases h
 | some p=>rw [e] at h; cases h; exact ⟨p,rfl,rfl⟩
theorem Bd.btw {n : Nat} {a b x : Int} (ha : Bd n a) (hb : Bd n b) (h1 : a ≤ x) (h2 : x ≤ b) : Bd n x:=by
 unfold Bd at *; omega
theorem Bd.max2 {n : Nat} {a b : Int} (ha : Bd n a) (hb : Bd n b) : Bd n (max a b):=by
 unfold Bd at *; omega
theorem Bd.min2 {n : Nat} {a b : Int} (ha : Bd n a) (hb : Bd n b) : Bd n (min a b):=by
 unfold Bd at *; omega
theorem zm9 {L R B T x1 z1 x2 z2 mx mn : Int} (bL : Bd 700 L) (bR : Bd 700 R) (bB : Bd 700 B) (bT : Bd 700 T) (b1 : Bd 700 x1) (b2 : Bd 700 z1) (b3 : Bd 700 x2) (b4 : Bd 700 z2) (m1 : mx ∈ acr L R B T x1 z1 x2 z2) (n1 : mn ∈ acr L R B T x1 z1 x2 z2) :
    ∀ v ∈ six L R B T x1 z1 x2 z2 mx mn,Bd 1500 v:=by
  have pr : ∀ {u v w t : Int},Bd 701 u→Bd 701 v→Bd 701 w→Bd 701 t→Bd 1500 (u * v - w * t):=fun h1 h2 h3 h4=>(Bd.sub (n:=1402) (Bd.mul h1 h2) (Bd.mul h3 h4)).mono (by decide)
  have ba : ∀ a ∈ acr L R B T x1 z1 x2 z2,Bd 1500 a:=by
    intro a ha
    unfold acr at ha
    simp only [List.mem_cons,List.not_mem_nil,or_false] at ha
    rcases ha with rfl | rfl | rfl | rfl <;> exact pr (Bd.sub (by assumption) (by assumption)) (Bd.sub (by assumption) (by assumption)) (Bd.sub (by assumption) (by assumption)) (Bd.sub (by assumption) (by assumption))
  intro v hv
  unfold six at hv
  simp only [List.mem_cons,List.not_mem_nil,or_false] at hv
  rcases hv with rfl | rfl | rfl | rfl | rfl | rfl
  · exact (Bd.sub (Bd.max2 b1 b3) bL).mono (by decide)
  · exact (Bd.sub bR (Bd.min2 b1 b3)).mono (by decide)
  · exact (Bd.sub (Bd.max2 b2 b4) bB).mono (by decide)
  · exact (Bd.sub bT (Bd.min2 b2 b4)).mono (by decide)
  · exact ba _ m1
  · exact (ba _ n1).neg
theorem zov {ms : List (Int × Int)} {F : Fg} {px pz qx qz lo hi : Int} (B : FgB F) (ok : zan ms) (one : ms.length ≤ 1) (hany : ∀ h,ms.any (inS h) = [(F.f + lo,F.f + hi)].any (inS h))
  (hk : ∀ k,(lo ≤ k∧k ≤ hi) ↔ (0 ≤ k∧k ≤ F.l - F.f∧ziF (F.x0 + F.g * k) (F.x1 + F.g * k) (F.z0 + F.s * k) (F.z1 + F.s * k) px pz qx qz)) : zpJ ms F px pz qx qz:=by
 refine ⟨ok,one,fun h=>?_⟩
 rw [hany h]
 have:=hk (h - F.f)
 rw [zi3 (by have:=B.x; omega) (by have:=B.z; omega)] at this
 simp only [List.any_cons,List.any_nil,Bool.or_false,zeq]
 unfold zcw
 constructor
 ·rintro ⟨a,b⟩
  obtain ⟨c1,c2,c3⟩:=this.mp ⟨by omega,by omega⟩
  exact ⟨by omega,by omega,c3⟩
 ·rintro ⟨a,b,c⟩
  obtain ⟨d1,d2⟩:=this.mpr ⟨by omega,by omega,c⟩
  exact ⟨by omega,by omega⟩
end Dp
namespace Dp
open PySem Rm My
def flt (a b : Int × Int) : Bool:=decide (a.1 * b.2 < b.1 * a.2)
end Dp
namespace Dp
open PySem Rm My
theorem zfJ {cs : List (Int × Int)} {k : Int} (h0 : 0 ≤ k) (h : k < cs.length) : ∃ c,cs[k.toNat]? = some c∧atD (cs.map p2) k = some (p2 c):=by
 have hk : k.toNat < cs.length:=by omega
 refine ⟨cs[k.toNat],List.getElem?_eq_getElem hk,?_⟩
 have:=zdr (ds:=cs.map p2) (i:=k.toNat) (d:=p2 (cs[k.toNat])) (by rw [List.getElem?_map,List.getElem?_eq_getElem hk]; rfl)
 rwa [show ((k.toNat : Nat) : Int) = k by omega] at this
end Dp
namespace Dp
open PySem Rm My
end Dp
namespace Dp
open PySem Rm My
def lenV (ms : List (Int × Int)) : Int:=(ms.map fun m=>m.2 - m.1).sum
end Dp
namespace Dp
open PySem Rm My
def Sv (c : Int × Int) (t b : Int) : Prop:=0 < c.2∧c.1 * b = t * c.2
def hvT (a b p : Int × Int) : Int:=if 0 < b.1 - a.1 then a.2 * (b.1 - a.1) * p.2 + (b.2 - a.2) * (p.1 - a.1 * p.2) else -(a.2 * (b.1 - a.1) * p.2 + (b.2 - a.2) * (p.1 - a.1 * p.2))
def hvB (a b p : Int × Int) : Int:=if 0 < b.1 - a.1 then (b.1 - a.1) * p.2 else -((b.1 - a.1) * p.2)
theorem zlC {a b p : Int × Int} (h : b.1 ≠ a.1) (hp : 0 < p.2) : 0 < hvB a b p:=by
 unfold hvB
 split
 ·exact Int.mul_pos (by omega) hp
 ·have:=Int.mul_pos (show 0 < -(b.1 - a.1) by omega) hp
  rw [Int.neg_mul] at this
  exact this
theorem zsO {c d : Int × Int} {t b u e : Int} (hb : 0 < b) (he : 0 < e) (hc : Sv c t b) (hd : Sv d u e) : flt c d = decide (t * e < u * b):=by
 obtain ⟨c0,c1⟩:=hc
 obtain ⟨d0,d1⟩:=hd
 unfold flt
 refine decide_eq_decide.mpr ?_
 have hbe : 0 < b * e:=Int.mul_pos hb he
 have hcd : 0 < c.2 * d.2:=Int.mul_pos c0 d0
 rw [← Int.mul_lt_mul_right hbe,← Int.mul_lt_mul_right (b:=t * e) (c:=u * b) hcd]
 have e1 : c.1 * d.2 * (b * e) = t * e * (c.2 * d.2):=by
  have : c.1 * d.2 * (b * e) = c.1 * b * (d.2 * e):=by grind
  rw [this,c1]; grind
 have e2 : d.1 * c.2 * (b * e) = u * b * (c.2 * d.2):=by
  have : d.1 * c.2 * (b * e) = d.1 * e * (c.2 * b):=by grind
  rw [this,d1]; grind
 rw [e1,e2]
structure Grd (cs : List (Int × Int)) : Prop where
 two : 2 ≤ cs.length
 most : cs.length ≤ 40
 asc : cs.Pairwise fun a b=>a.1 < b.1
 bd : ∀ c ∈ cs,Bd 170 c.1∧Bd 190 c.2
def zhI (cs : List (Int × Int)) : Int:=(cs.getD 0 (0,0)).1
def zfR (cs : List (Int × Int)) : Int:=(cs.getD (cs.length - 1) (0,0)).1
def OnG (cs : List (Int × Int)) (p : Int × Int) : Prop:=zhI cs * p.2 ≤ p.1∧p.1 ≤ zfR cs * p.2
def zfZ : List (Int × Int)→Int × Int→Option ((Int × Int) × (Int × Int))
 | a :: b :: r,p=>if p.1 ≤ b.1 * p.2 then some (a,b) else zfZ (b :: r) p
 | _,_=>none
theorem seg_at : ∀ {cs : List (Int × Int)} {p : Int × Int} {k : Nat} {a b : Int × Int},cs[k]? = some a→cs[k + 1]? = some b→p.1 ≤ b.1 * p.2→(∀ j c,1 ≤ j→j ≤ k→cs[j]? = some c→c.1 * p.2 < p.1)→zfZ cs p = some (a,b)
 | [],p,k,a,b,h,_,_,_=>by simp at h
 | [x],p,0,a,b,_,h,_,_=>by simp at h
 | [x],p,k + 1,a,b,h,_,_,_=>by simp at h
 | x :: y :: r,p,0,a,b,h1,h2,h3,_=>by
  simp at h1 h2
  subst h1 h2
  unfold zfZ
  rw [if_pos h3]
 | x :: y :: r,p,k + 1,a,b,h1,h2,h3,h4=>by
  have:=h4 1 y (by omega) (by omega) rfl
  unfold zfZ
  rw [if_neg (by omega)]
  exact seg_at (by simpa using h1) (by simpa using h2) h3 fun j c j1 j2 hc=>h4 (j + 1) c (by omega) (by omega) (by simpa using hc)
theorem zik : ∀ {cs : List (Int × Int)} {p : Int × Int},2 ≤ cs.length→p.1 ≤ zfR cs * p.2→∃ k a b,cs[k]? = some a∧cs[k + 1]? = some b∧p.1 ≤ b.1 * p.2∧∀ j c,1 ≤ j→j ≤ k→cs[j]? = some c→c.1 * p.2 < p.1
 | [],p,h,_=>by simp at h
 | [x],p,h,_=>by simp at h
 | [x,y],p,_,h=>⟨0,x,y,rfl,rfl,h,fun j c j1 j2=>by omega⟩
 | x :: y :: z :: r,p,_,h=>by
  by_cases g : p.1 ≤ y.1 * p.2
  ·exact ⟨0,x,y,rfl,rfl,g,fun j c j1 j2=>by omega⟩
  ·obtain ⟨k,a,b,h1,h2,h3,h4⟩:=zik (cs:=y :: z :: r) (p:=p) (by simp) h
   refine ⟨k + 1,a,b,by simpa using h1,by simpa using h2,h3,fun j c j1 j2 hc=>?_⟩
   cases j with
   | zero=>omega
   | succ j =>
    cases j with
    | zero=>simp at hc; subst hc; omega
    | succ j=>exact h4 (j + 1) c (by omega) (by omega) (by simpa using hc)
theorem zcP {cs : List (Int × Int)} (g : Grd cs) {i j : Nat} {a b : Int × Int} (hij : i < j) (ha : cs[i]? = some a) (hb : cs[j]? = some b) : a.1 < b.1:=by
 have h1:=zaL ha
 have h2:=zaL hb
 rw [List.getElem?_eq_getElem h1] at ha
 rw [List.getElem?_eq_getElem h2] at hb
 cases ha; cases hb
 exact List.pairwise_iff_getElem.mp g.asc i j h1 h2 hij
theorem zc8 {cs : List (Int × Int)} (g : Grd cs) : ∃ a,cs[0]? = some a∧zhI cs = a.1:=by
 have:=g.two
 obtain ⟨a,h⟩ : ∃ a,cs[0]? = some a:=⟨cs[0],List.getElem?_eq_getElem (by omega)⟩
 exact ⟨a,h,by unfold zhI; rw [List.getD_eq_getElem?_getD,h]; rfl⟩
theorem zhM {cs : List (Int × Int)} (g : Grd cs) : ∃ a,cs[cs.length - 1]? = some a∧zfR cs = a.1:=by
 have:=g.two
 obtain ⟨a,h⟩ : ∃ a,cs[cs.length - 1]? = some a:=⟨cs[cs.length - 1],List.getElem?_eq_getElem (by omega)⟩
 exact ⟨a,h,by unfold zfR; rw [List.getD_eq_getElem?_getD,h]; rfl⟩
def GAt (S : Sto) (g : D) (cs : List (Int × Int)) : Prop:=∃ n l,g = .ref n∧S[n]? = some (.ins "Ground" [("corners",.ref l)])∧S[l]? = some (.lst (cs.map p2))
theorem GAt.old {S T : Sto} {g : D} {cs : List (Int × Int)} (h : GAt S g cs) : GAt (S ++ T) g cs:=let ⟨n,l,e,h1,h2⟩:=h; ⟨n,l,e,zdb h1,zdb h2⟩
theorem zuM {S : Sto} {P : D→Prop} {n l : Nat} (h : S[n]? = some (.ins "Ground" [("corners",.ref l)])) (q : P (.ref l)) : ∃ m c fs d,D.ref n = .ref m∧S[m]? = some (.ins c fs)∧fs.lookup ("corners" : Str) = some d∧P d:=⟨n,_,_,_,rfl,h,by simp [List.lookup_cons],q⟩
def sdO (a b c : Int × Int) : Int:=(c.2 - a.2) * (b.1 - a.1) - (c.1 - a.1) * (b.2 - a.2)
def sdI (a b c : Int × Int) : Int:=if 0 < (if b.1 - a.1 < 0 then -sdO a b c else sdO a b c) then 1 else if (if b.1 - a.1 < 0 then -sdO a b c else sdO a b c) < 0 then -1 else 0
def Std (cs : List (Int × Int)) (s : Int × Int) : Prop:=Bd 180 s.1∧Bd 200 s.2∧OnG cs (s.1,1)∧∀ a b,zfZ cs (s.1,1) = some (a,b)→hvT a b (s.1,1) ≤ s.2 * hvB a b (s.1,1)
theorem zoN {cs : List (Int × Int)} (gr : Grd cs) : ∃ z,cs[cs.length - 1]? = some z∧zfR cs = z.1∧atD (cs.map p2) (-1) = some (p2 z):=by
 have g1:=gr.two
 obtain ⟨z,hz,ez⟩:=zhM gr
 refine ⟨z,hz,ez,?_⟩
 have hne : cs ≠ []:=fun e=>by rw [e] at g1; simp at g1
 have en : cs = cs.dropLast ++ [z]:=by
  have h2:=List.dropLast_concat_getLast hne
  have h3 : cs.getLast hne = z:=by
   rw [List.getLast_eq_getElem]
   have hl':=zaL hz
   rw [List.getElem?_eq_getElem hl'] at hz
   cases hz; rfl
  rw [h3] at h2
  exact h2.symm
 rw [en,List.map_append]; exact zf1
theorem zrz {cs : List (Int × Int)} (gr : Grd cs) {c : Int × Int} (h : c ∈ cs) : zhI cs ≤ c.1∧c.1 ≤ zfR cs:=by
 obtain ⟨a,ha,ea⟩:=zc8 gr
 obtain ⟨z,hz,ez⟩:=zhM gr
 obtain ⟨i,hi,e⟩:=List.mem_iff_getElem.mp h
 have hc : cs[i]? = some c:=by rw [List.getElem?_eq_getElem hi,e]
 rw [ea,ez]
 constructor
 ·cases i with
  | zero=>rw [ha] at hc; cases hc; exact Int.le_refl _
  | succ i=>exact Int.le_of_lt (zcP gr (by omega) ha hc)
 ·rcases Nat.lt_or_ge i (cs.length - 1) with g | g
  ·exact Int.le_of_lt (zcP gr g hc hz)
  ·have : i = cs.length - 1:=by omega
   subst this
   rw [hz] at hc; cases hc; exact Int.le_refl _
end Dp
namespace Dp
open PySem Rm My
structure Brk (cs : List (Int × Int)) (p a b : Int × Int) : Prop where
 ma : a ∈ cs
 mb : b ∈ cs
 lt : a.1 < b.1
 lo : a.1 * p.2 ≤ p.1
 hi : p.1 ≤ b.1 * p.2
 no : ∀ c ∈ cs,¬ (a.1 < c.1∧c.1 < b.1)
theorem zlM {cs : List (Int × Int)} (gr : Grd cs) {p : Int × Int} (on : OnG cs p) : ∃ a b,zfZ cs p = some (a,b)∧Brk cs p a b:=by
 obtain ⟨k,a,b,ha,hb,hle,hlt⟩:=zik gr.two on.2
 refine ⟨a,b,seg_at ha hb hle hlt,List.mem_of_getElem? ha,List.mem_of_getElem? hb,zcP gr (by omega) ha hb,?_,hle,fun c hc h=>?_⟩
 ·cases k with
  | zero =>
   obtain ⟨f,hf,ef⟩:=zc8 gr
   rw [ha] at hf
   cases hf
   have:=on.1
   rw [ef] at this
   exact this
  | succ k=>exact Int.le_of_lt (hlt (k + 1) a (by omega) (by omega) ha)
 ·obtain ⟨j,hj⟩:=List.mem_iff_getElem?.mp hc
  rcases Nat.lt_trichotomy j k with g | g | g
  ·have:=zcP gr g hj ha; omega
  ·subst g; rw [ha] at hj; cases hj; omega
  ·rcases Nat.lt_or_ge (k + 1) j with g2 | g2
   ·have:=zcP gr g2 hb hj; omega
   ·have : j = k + 1:=by omega
    subst this; rw [hb] at hj; cases hj; omega
theorem zmH {own : Nat} {fv : List Nat} {xs : List D} {ok : Sto→Prop} {g : DG} {tc : DT} {te : DE} {ρ : Rho} {S : Sto} {Q : DK} (W : Nat→List D→Sto→Prop) (h0 : W 0 [] S) (hok : ∀ i ys S,W i ys S→ok S) (hbig : xs.length ≤ big)
  (step : ∀ i d ys S,xs[i]? = some d→W i ys S→g d (zhE own fv ρ) S fun ρ2 S2=>tc ρ2 S2 fun b S3=>if b = true then te ρ2 S3 fun y S4=>W (i + 1) (ys ++ [y]) S4 else W (i + 1) ys S3)
  (fin : ∀ ys S,W xs.length ys S→New Q S ys) : zmS own fv g tc te ρ Q ⟨xs,ok⟩ S:=⟨hbig,W,h0,hok,step,fin⟩
end Dp
namespace Dp
open PySem Rm My
theorem znD {s c d : Int × Int} (h : (0 < d.1 - s.1∧0 < c.1 - d.1)∨(d.1 - s.1 < 0∧c.1 - d.1 < 0)) : 0 < sdI s c d ↔ (c.2 - s.2) * ((d.1 - s.1).natAbs : Int) < (d.2 - s.2) * ((c.1 - s.1).natAbs : Int):=by
 have e : (if c.1 - s.1 < 0 then -sdO s c d else sdO s c d) = (d.2 - s.2) * ((c.1 - s.1).natAbs : Int) - (c.2 - s.2) * ((d.1 - s.1).natAbs : Int):=by
  rcases h with h | h
  ·rw [if_neg (by omega),show ((c.1 - s.1).natAbs : Int) = c.1 - s.1 by omega,show ((d.1 - s.1).natAbs : Int) = d.1 - s.1 by omega]
   unfold sdO; grind
  ·rw [if_pos (by omega),show ((c.1 - s.1).natAbs : Int) = -(c.1 - s.1) by omega,show ((d.1 - s.1).natAbs : Int) = -(d.1 - s.1) by omega]
   unfold sdO; grind
 unfold sdI
 rw [e]
 generalize (d.2 - s.2) * ((c.1 - s.1).natAbs : Int) = x
 generalize (c.2 - s.2) * ((d.1 - s.1).natAbs : Int) = y
 split
 ·exact ⟨fun _=>by omega,fun _=>by decide⟩
 ·split
  ·exact ⟨fun h=>by omega,fun h=>by omega⟩
  ·exact ⟨fun h=>by omega,fun h=>by omega⟩
theorem zqG {a b d : Int × Int} (h : a.1 ≠ b.1) : sdI a b d = sdI b a d:=by
 have e : (if b.1 - a.1 < 0 then -sdO a b d else sdO a b d) = (if a.1 - b.1 < 0 then -sdO b a d else sdO b a d):=by
  by_cases z : b.1 - a.1 < 0
  ·rw [if_pos z,if_neg (by omega)]
   unfold sdO; grind
  ·rw [if_neg z,if_pos (by omega)]
   unfold sdO; grind
 unfold sdI
 rw [e]
end Dp
namespace Dp
open PySem Rm My
def zc6 (cs : List (Int × Int)) (s : Int × Int) : Prop:=OnG cs (s.1,1)∧∀ a b,zfZ cs (s.1,1) = some (a,b)→hvT a b (s.1,1) ≤ s.2 * hvB a b (s.1,1)
def zdZ (t b : Int) : Int:=-(-t / b)
theorem zqi {t b : Int} (hb : 0 < b) : t ≤ zdZ t b * b∧(zdZ t b - 1) * b < t:=by
 unfold zdZ
 have h1:=Int.ediv_mul_le (-t) (b:=b) (by omega)
 have h2:=Int.lt_ediv_add_one_mul_self (-t) hb
 rw [Int.neg_mul,Int.sub_mul,Int.neg_mul,Int.one_mul]
 rw [Int.add_mul,Int.one_mul] at h2
 omega
theorem zqB {t b z : Int} (hb : 0 < b) : zdZ t b ≤ z ↔ t ≤ z * b:=by
 obtain ⟨h1,h2⟩:=zqi (t:=t) hb
 constructor
 ·intro h
  exact Int.le_trans h1 (Int.mul_le_mul_of_nonneg_right h (Int.le_of_lt hb))
 ·intro h
  rcases Int.lt_or_le z (zdZ t b) with g | g
  ·have:=Int.mul_le_mul_of_nonneg_right (show z ≤ zdZ t b - 1 by omega) (Int.le_of_lt hb)
   omega
  ·exact g
theorem zlV {cs : List (Int × Int)} (gr : Grd cs) {p r : Int × Int} {xx : Int} (bk : Brk cs (xx,1) p r) : 0 < hvB p r (xx,1)∧Bd 171 (hvB p r (xx,1))∧Bd 400 (hvT p r (xx,1))∧Bd 192 (zdZ (hvT p r (xx,1)) (hvB p r (xx,1))):=by
 have hpr:=bk.lt
 have hB : 0 < hvB p r (xx,1):=zlC (by omega) (show (0 : Int) < 1 by decide)
 obtain ⟨bp1,bp2⟩:=gr.bd p bk.ma
 obtain ⟨br1,br2⟩:=gr.bd r bk.mb
 have h1' : p.1 ≤ xx:=by have : p.1 * 1 ≤ xx:=bk.lo; omega
 have h2' : xx ≤ r.1:=by have : xx ≤ r.1 * 1:=bk.hi; omega
 have bx : Bd 171 xx:=(Bd.btw (n:=170) bp1 br1 h1' h2').mono (by decide)
 have bT : Bd 400 (hvT p r (xx,1)):=by
  have r1 : Bd 171 (r.1 - p.1):=Bd.sub br1 bp1
  have r2 : Bd 191 (r.2 - p.2):=Bd.sub br2 bp2
  have m1 : Bd 361 (p.2 * (r.1 - p.1)):=Bd.mul bp2 r1
  have m2 : Bd 172 (xx - p.1):=Bd.sub bx (bp1.mono (by decide))
  have m3 : Bd 363 ((r.2 - p.2) * (xx - p.1)):=Bd.mul r2 m2
  unfold hvT
  rw [if_pos (by omega)]
  dsimp only
  rw [Int.mul_one,Int.mul_one]
  exact (Bd.add (n:=363) (m1.mono (by decide)) m3).mono (by decide)
 have bB : Bd 171 (hvB p r (xx,1)):=by
  unfold hvB
  rw [if_pos (by omega)]
  dsimp only
  rw [Int.mul_one]
  exact Bd.sub br1 bp1
 refine ⟨hB,bB,bT,?_⟩
 have eT : hvT p r (xx,1) = p.2 * (r.1 - xx) + r.2 * (xx - p.1):=by
  unfold hvT
  rw [if_pos (by omega)]
  dsimp only
  grind
 have eB : hvB p r (xx,1) = (r.1 - xx) + (xx - p.1):=by
  unfold hvB
  rw [if_pos (by omega)]
  dsimp only
  omega
 have lo : -(2 ^ 190) * hvB p r (xx,1) ≤ hvT p r (xx,1):=by
  rw [eT,eB]
  have k1:=Int.mul_le_mul_of_nonneg_right (show -(2 ^ 190 : Int) ≤ p.2 by unfold Bd at bp2; omega) (show 0 ≤ r.1 - xx by omega)
  have k2:=Int.mul_le_mul_of_nonneg_right (show -(2 ^ 190 : Int) ≤ r.2 by unfold Bd at br2; omega) (show 0 ≤ xx - p.1 by omega)
  rw [Int.mul_add]
  omega
 have hi : hvT p r (xx,1) ≤ 2 ^ 190 * hvB p r (xx,1):=by
  rw [eT,eB]
  have k1:=Int.mul_le_mul_of_nonneg_right (show p.2 ≤ (2 ^ 190 : Int) by unfold Bd at bp2; omega) (show 0 ≤ r.1 - xx by omega)
  have k2:=Int.mul_le_mul_of_nonneg_right (show r.2 ≤ (2 ^ 190 : Int) by unfold Bd at br2; omega) (show 0 ≤ xx - p.1 by omega)
  rw [Int.mul_add]
  omega
 have d1 : -(2 ^ 190) ≤ -hvT p r (xx,1) / hvB p r (xx,1):=(Int.le_ediv_iff_mul_le hB).mpr (by rw [Int.neg_mul]; omega)
 have d2 : -hvT p r (xx,1) / hvB p r (xx,1) ≤ 2 ^ 190:=Int.ediv_le_of_le_mul hB (by
  have:=lo
  rw [Int.neg_mul] at this
  omega)
 unfold zdZ
 show _ < 2 ^ 192
 omega
def zcV (cs : List (Int × Int)) (x : Int) : Int:=match zfZ cs (x,1) with
 | some (a,b)=>zdZ (hvT a b (x,1)) (hvB a b (x,1))
 | none=>0
theorem zoU {cs : List (Int × Int)} (gr : Grd cs) {s : Int × Int} (on : OnG cs (s.1,1)) : zc6 cs s ↔ zcV cs s.1 ≤ s.2:=by
 obtain ⟨a,b,seg,bk⟩:=zlM gr on
 have hB:=(zlV gr bk).1
 unfold zcV
 rw [seg]
 dsimp only
 rw [zqB hB]
 constructor
 ·intro h; exact h.2 a b seg
 ·intro h
  refine ⟨on,fun a' b' seg'=>?_⟩
  rw [seg] at seg'; cases seg'; exact h
theorem zoK {cs : List (Int × Int)} (gr : Grd cs) {x : Int} (on : OnG cs (x,1)) : Bd 192 (zcV cs x):=by
 obtain ⟨a,b,seg,bk⟩:=zlM gr on
 unfold zcV
 rw [seg]
 exact (zlV gr bk).2.2.2
theorem Std.of {cs : List (Int × Int)} {s : Int × Int} (b1 : Bd 180 s.1) (b2 : Bd 200 s.2) (h : zc6 cs s) : Std cs s:=⟨b1,b2,h.1,h.2⟩
def nbP (cs : List (Int × Int)) (x y : Int) (k : Nat) : Bool:=decide (min x y < (cs.getD k (0,0)).1) && decide ((cs.getD k (0,0)).1 < max x y)
def nbK (cs : List (Int × Int)) (x y : Int) (n : Nat) : List Int:=((List.range n).filter (nbP cs x y)).map fun k : Nat=>(k : Int)
theorem zuL {cs : List (Int × Int)} {x y : Int} {i : Nat} (h : nbP cs x y i = true) : (nbK cs x y (i + 1)).map D.int = (nbK cs x y i).map D.int ++ [.int (i : Int)]:=by
 unfold nbK
 rw [List.range_succ,List.filter_append,List.filter_cons_of_pos h]
 simp
theorem zpG {cs : List (Int × Int)} {x y : Int} {i : Nat} (h : nbP cs x y i = false) : nbK cs x y (i + 1) = nbK cs x y i:=by
 unfold nbK
 rw [List.range_succ,List.filter_append,List.filter_cons_of_neg (by rw [h]; exact Bool.false_ne_true)]
 simp
def zhx (cs : List (Int × Int)) (a b : Int × Int) (k : Int) : Bool:=decide (0 < sdI a b (cs.getD k.toNat (0,0)))
def zc2 (cs : List (Int × Int)) (a b : Int × Int) : Option Int:=(nbK cs a.1 b.1 cs.length).find? (zhx cs a b)
theorem zlS {p : Int→Bool} : ∀ {ks : List Int} {i : Nat} {k : Int},ks[i]? = some k→(∀ x ∈ ks.take i,p x = false)→p k = true→ks.find? p = some k
 | [],i,k,h,_,_=>by simp at h
 | x :: ks,0,k,h,_,hp=>by
  have e : x = k:=by simpa using h
  rw [List.find?_cons,e,hp]
 | x :: ks,i + 1,k,h,hn,hp=>by
  rw [List.find?_cons,hn x (by simp)]
  exact zlS (by simpa using h) (fun y hy=>hn y (by rw [List.take_succ_cons]; exact List.mem_cons_of_mem _ hy)) hp
theorem zrr {p : Int→Bool} {ks : List Int} (hn : ∀ x ∈ ks,p x = false) : ks.find? p = none:=List.find?_eq_none.mpr fun x hx=>by rw [hn x hx]; exact Bool.false_ne_true
theorem zrO {cs : List (Int × Int)} {x y k : Int} {n : Nat} (h : k ∈ nbK cs x y n) : 0 ≤ k∧k < n:=by
 unfold nbK at h
 obtain ⟨j,hj,rfl⟩:=List.mem_map.mp h
 have:=List.mem_range.mp (List.mem_filter.mp hj).1
 omega
theorem zo1 {cs : List (Int × Int)} {a b : Int × Int} : (zc2 cs a b).isNone = true ↔ ∀ d ∈ cs,min a.1 b.1 < d.1→d.1 < max a.1 b.1→¬ 0 < sdI a b d:=by
 unfold zc2
 rw [Option.isNone_iff_eq_none,List.find?_eq_none]
 constructor
 ·intro h d hd d1 d2 hp
  obtain ⟨j,hj⟩:=List.mem_iff_getElem?.mp hd
  have hl:=zaL hj
  have eg : cs.getD j (0,0) = d:=by rw [List.getD_eq_getElem?_getD,hj]; rfl
  refine h (j : Int) ?_ ?_
  ·unfold nbK
   refine List.mem_map.mpr ⟨j,List.mem_filter.mpr ⟨List.mem_range.mpr hl,?_⟩,rfl⟩
   unfold nbP
   rw [eg,decide_eq_true d1,decide_eq_true d2]; rfl
  ·unfold zhx
   rw [Int.toNat_natCast,eg]; exact decide_eq_true hp
 ·intro h k hk
  unfold nbK at hk
  obtain ⟨j,hj,rfl⟩:=List.mem_map.mp hk
  obtain ⟨h1,h2⟩:=List.mem_filter.mp hj
  have hl:=List.mem_range.mp h1
  unfold nbP at h2
  rw [Bool.and_eq_true,decide_eq_true_eq,decide_eq_true_eq] at h2
  have eg : cs.getD j (0,0) = cs[j]:=by rw [List.getD_eq_getElem?_getD,List.getElem?_eq_getElem hl]; rfl
  rw [eg] at h2
  unfold zhx
  rw [Int.toNat_natCast,eg,decide_eq_true_eq]
  exact h cs[j] (List.getElem_mem hl) h2.1 h2.2
theorem zoG {cs : List (Int × Int)} {a b : Int × Int} : zc2 cs a b = zc2 cs b a:=by
 by_cases h : a.1 = b.1
 ·have e : ∀ x : Int × Int,x.1 = x.1→nbK cs a.1 b.1 cs.length = []:=fun _ _=>by
   unfold nbK
   rw [List.filter_eq_nil_iff.mpr fun k _=>?_]
   ·rfl
   ·unfold nbP
    rw [h]
    simp only [Bool.and_eq_true,decide_eq_true_eq]
    omega
  have e1:=e a rfl
  have e2 : nbK cs b.1 a.1 cs.length = []:=by rw [h] at e1 ⊢; exact e1
  unfold zc2
  rw [e1,e2]; rfl
 ·have en : nbK cs a.1 b.1 cs.length = nbK cs b.1 a.1 cs.length:=by
   unfold nbK nbP
   rw [Int.min_comm,Int.max_comm]
  unfold zc2
  rw [en]
  congr 1
  funext k
  unfold zhx
  rw [zqG h]
end Dp
namespace Dp
open PySem Rm My
end Dp
namespace Dp
open PySem Rm My
section
variable {g : Int} {p q r s d t u v : Int × Int}
end
end Dp
namespace Dp
open PySem Rm My
end Dp
namespace Dp
open PySem Rm My
section
variable {cs : List (Int × Int)} {a b : Int × Int} {rp : List (Int × Int)}
end
end Dp
namespace Dp
open PySem Rm My
section
variable {w h t m : Int} {cs : List (Int × Int)}
end
end Dp
namespace Dp
open PySem Rm My
abbrev bcD (b : Str × (Int × Int)) : D:=.tup [.str b.1,.int b.2.1,.int b.2.2]
def abc : List Nat:=List.range' 97 26
theorem zr0 : ("abcdefghijklmnopqrstuvwxyz" : Str).cps.toList = abc:=by decide +kernel
theorem zgY {c : Nat} : c ∈ abc ↔ 97 ≤ c∧c ≤ 122:=by unfold abc; rw [List.mem_range'_1]; omega
def nmB (z : Str) : Bool:=decide (1 ≤ z.length) && (decide (z.length ≤ 8) && z.cps.toList.all fun c=>decide (c ∈ abc))
theorem ziL {z : Str} : nmB z = true ↔ 1 ≤ z.length∧z.length ≤ 8∧∀ c ∈ z.cps.toList,c ∈ abc:=by
 unfold nmB
 rw [Bool.and_eq_true,Bool.and_eq_true,decide_eq_true_eq,decide_eq_true_eq,List.all_eq_true]
 simp only [decide_eq_true_eq]
theorem zix {z : Str} (h : nmB z = true) (k : Nat) : fl k (.str z) = true:=by
  have h3:=(ziL.mp h).2.2
  have : z.cps.all (· < 0x110000) = true:=by
    rw [Array.all_eq_true']
    intro x hx
    have:=zgY.mp (h3 x (Array.mem_toList_iff.mpr hx))
    simp; omega
  cases k <;> exact this
theorem ztM {b : Str × (Int × Int)} (h : nmB b.1 = true) : fl 20 (bcD b) = true:=by
 show (fl 19 (.str b.1) && true) = true
 rw [Bool.and_true]; exact zix h 19
def nmW (a h c b t : Nat) : Str:=⟨(List.replicate h a ++ c :: List.replicate t b).toArray⟩
theorem zqW (a h c b t : Nat) : (nmW a h c b t).length = h + 1 + t:=by
 show (List.replicate h a ++ c :: List.replicate t b).toArray.size = _
 simp; omega
theorem zrY {a h c b t : Nat} (ha : a ∈ abc) (hb : b ∈ abc) (hc : c ∈ abc) (h3 : h ≤ 3) (h4 : t ≤ 4) : nmB (nmW a h c b t) = true:=by
 rw [ziL,zqW]
 refine ⟨by omega,by omega,fun x hx=>?_⟩
 have hx' : x ∈ List.replicate h a ++ c :: List.replicate t b:=by simpa [nmW] using hx
 rcases List.mem_append.mp hx' with z | z
 ·rw [List.eq_of_mem_replicate z]; exact ha
 ·rcases List.mem_cons.mp z with z | z
  ·rw [z]; exact hc
  ·rw [List.eq_of_mem_replicate z]; exact hb
theorem zrd {a h c d b t : Nat} (e : nmW a h c b t = nmW a h d b t) : c = d:=by
 have : List.replicate h a ++ c :: List.replicate t b = List.replicate h a ++ d :: List.replicate t b:=by
  have:=congrArg (fun z : Str=>z.cps.toList) e
  simpa [nmW] using this
 have:=List.append_cancel_left this
 simpa using this
theorem zly (x y : List Nat) : (⟨x.toArray⟩ : Str) ++ (⟨y.toArray⟩ : Str) = ⟨(x ++ y).toArray⟩:=by
 show (⟨x.toArray ++ y.toArray⟩ : Str) = _
 simp
theorem zki (c : Nat) (n : Int) (h : 0 ≤ n) : zmG ⟨#[c]⟩ n = ⟨(List.replicate n.toNat c).toArray⟩:=by
  unfold zmG
  split
  · have : n.toNat = 0:=by omega
    rw [this]; rfl
  · split
    · rename_i g g2
      have : n = 1:=by
        rcases Bool.or_eq_true .. |>.mp g2 with z | z
        · exact eq_of_beq z
        · exact absurd (show ((1 : Nat) == 0) = true from z) (by decide)
      subst this; rfl
    · have : ∀ (m : Nat) (acc : Array Nat), (List.replicate m #[c]).foldl (· ++ ·) acc = acc ++ (List.replicate m c).toArray := by
        intro m
        induction m with
        | zero=>intro acc; simp
        | succ m ih =>
          intro acc
          rw [List.replicate_succ,List.foldl_cons,ih,List.replicate_succ]
          apply Array.toList_inj.mp
          simp
      show (⟨(List.replicate n.toNat #[c]).foldl (· ++ ·) #[]⟩ : Str) = _
      rw [this]; simp
structure Vl where
 cs : List (Int × Int)
 bs : List (Str × (Int × Int))
 fs : List Fg
 hz : Option Int
 h0 : Int
 h1 : Int
 dl : Int
structure FgV (F : Fg) : Prop where
 b : FgB F
 o : F.f ≤ F.l
 f : Bd 300 F.f
 l : Bd 300 F.l
structure zdI (V : Vl) : Prop where
 gr : Grd V.cs
 b1 : 1 ≤ V.bs.length
 b12 : V.bs.length ≤ 12
 nm : ∀ b ∈ V.bs,nmB b.1 = true
 nd : (V.bs.map (·.1)).Nodup
 st : ∀ b ∈ V.bs,zc6 V.cs b.2
 bd : ∀ b ∈ V.bs,Bd 180 b.2.1∧Bd 200 b.2.2
 f12 : V.fs.length ≤ 12
 fg : ∀ F ∈ V.fs,FgV F
 hz : ∀ z,V.hz = some z→0 ≤ z
 hh : V.h0 ≤ V.h1
 b0 : Bd 250 V.h0
 bl : Bd 250 V.h1
 dl : 0 ≤ V.dl
abbrev vF (g b f h a l d : D) : List (Str × D):=[("ground",g),("beacons",b),("fogs",f),("haze",h),("first",a),("last",l),("delay",d)]
def VAt (S : Sto) (v : D) (V : Vl) : Prop:=∃ n g b f,v = .ref n∧S[n]? = some (.ins "Valley" (vF (.ref g) (.ref b) (.ref f) (zbQ V.hz) (.int V.h0) (.int V.h1) (.int V.dl)))∧GAt S (.ref g) V.cs∧S[b]? = some (.lst (V.bs.map bcD))∧S[f]? = some (.lst (V.fs.map fgD))
section
variable {S : Sto} {P : D→Prop} {n : Nat} {g b f h a l d : D}
theorem zo8 (k : S[n]? = some (.ins "Valley" (vF g b f h a l d))) (q : P g) : ∃ m c fs x,D.ref n = .ref m∧S[m]? = some (.ins c fs)∧fs.lookup ("ground" : Str) = some x∧P x:=⟨n,_,_,g,rfl,k,by simp [List.lookup_cons],q⟩
theorem znw (k : S[n]? = some (.ins "Valley" (vF g b f h a l d))) (q : P b) : ∃ m c fs x,D.ref n = .ref m∧S[m]? = some (.ins c fs)∧fs.lookup ("beacons" : Str) = some x∧P x:=⟨n,_,_,b,rfl,k,by rw [List.lookup_cons,show ((("beacons" : Str) == "ground") = false) by decide +kernel]; simp [List.lookup_cons],q⟩
theorem zsZ (k : S[n]? = some (.ins "Valley" (vF g b f h a l d))) (q : P f) : ∃ m c fs x,D.ref n = .ref m∧S[m]? = some (.ins c fs)∧fs.lookup ("fogs" : Str) = some x∧P x:=⟨n,_,_,f,rfl,k,by rw [List.lookup_cons,show ((("fogs" : Str) == "ground") = false) by decide +kernel]; dsimp only; rw [List.lookup_cons,show ((("fogs" : Str) == "beacons") = false) by decide +kernel]; simp [List.lookup_cons],q⟩
theorem zta (k : S[n]? = some (.ins "Valley" (vF g b f h a l d))) (q : P h) : ∃ m c fs x,D.ref n = .ref m∧S[m]? = some (.ins c fs)∧fs.lookup ("haze" : Str) = some x∧P x:=⟨n,_,_,h,rfl,k,by rw [List.lookup_cons,show ((("haze" : Str) == "ground") = false) by decide +kernel]; dsimp only; rw [List.lookup_cons,show ((("haze" : Str) == "beacons") = false) by decide +kernel]; dsimp only; rw [List.lookup_cons,show ((("haze" : Str) == "fogs") = false) by decide +kernel]; simp [List.lookup_cons],q⟩
theorem zqe (k : S[n]? = some (.ins "Valley" (vF g b f h a l d))) (q : P a) : ∃ m c fs x,D.ref n = .ref m∧S[m]? = some (.ins c fs)∧fs.lookup ("first" : Str) = some x∧P x:=⟨n,_,_,a,rfl,k,by rw [List.lookup_cons,show ((("first" : Str) == "ground") = false) by decide +kernel]; dsimp only; rw [List.lookup_cons,show ((("first" : Str) == "beacons") = false) by decide +kernel]; dsimp only; rw [List.lookup_cons,show ((("first" : Str) == "fogs") = false) by decide +kernel]; dsimp only; rw [List.lookup_cons,show ((("first" : Str) == "haze") = false) by decide +kernel]; simp [List.lookup_cons],q⟩
theorem zsn (k : S[n]? = some (.ins "Valley" (vF g b f h a l d))) (q : P l) : ∃ m c fs x,D.ref n = .ref m∧S[m]? = some (.ins c fs)∧fs.lookup ("last" : Str) = some x∧P x:=⟨n,_,_,l,rfl,k,by rw [List.lookup_cons,show ((("last" : Str) == "ground") = false) by decide +kernel]; dsimp only; rw [List.lookup_cons,show ((("last" : Str) == "beacons") = false) by decide +kernel]; dsimp only; rw [List.lookup_cons,show ((("last" : Str) == "fogs") = false) by decide +kernel]; dsimp only; rw [List.lookup_cons,show ((("last" : Str) == "haze") = false) by decide +kernel]; dsimp only; rw [List.lookup_cons,show ((("last" : Str) == "first") = false) by decide +kernel]; simp [List.lookup_cons],q⟩
end
theorem zkO {bs : List (Str × (Int × Int))} {i : Nat} {d : D} (h : (bs.map bcD)[i]? = some d) : ∃ b,bs[i]? = some b∧d = bcD b:=by
 rw [List.getElem?_map] at h
 cases e : bs[i]? with
 | none=>rw [e] at h; cases h
 | some p=>rw [e] at h; cases h; exact ⟨p,rfl,rfl⟩
theorem zhe {bs : List (Str × (Int × Int))} {k : Int} (h0 : 0 ≤ k) (h : k < bs.length) : ∃ b,bs[k.toNat]? = some b∧atD (bs.map bcD) k = some (bcD b):=by
 have e : bs[k.toNat]? = some (bs[k.toNat]'(by omega)):=List.getElem?_eq_getElem (by omega)
 refine ⟨_,e,?_⟩
 have:=zdr (ds:=bs.map bcD) (i:=k.toNat) (by rw [List.getElem?_map,e]; rfl)
 rwa [show ((k.toNat : Nat) : Int) = k by omega] at this
def zpl (f : Str × (Int × Int)→D) : D→D
 | .tup [.str z,.int a,.int b]=>f (z,a,b)
 | d=>d
theorem zjV (f : Str × (Int × Int)→D) (bs : List (Str × (Int × Int))) : (bs.map bcD).map (zpl f) = bs.map f:=by rw [List.map_map]; rfl
def sqr (a b : Int × Int) : Int:=(b.1 - a.1) * (b.1 - a.1) + (b.2 - a.2) * (b.2 - a.2)
def hzy (z : Option Int) (q : Int) : Bool:=match z with
 | some z=>decide (z < q)
 | none=>false
def zhb (V : Vl) (a b : Int × Int) : D:=match zc2 V.cs a b with
 | some k=>.tup [.str "ground",.int k]
 | none=>if hzy V.hz (sqr a b) = true then .tup [.str "haze",.int (sqr a b)] else .non
def Alw (V : Vl) (a b : Int × Int) : Prop:=zc2 V.cs a b = none∧hzy V.hz (sqr a b) = false
theorem zjk {V : Vl} {a b : Int × Int} : zhb V a b = .non ↔ Alw V a b:=by
 unfold zhb Alw
 cases zc2 V.cs a b with
 | some k=>simp
 | none =>
  cases h : hzy V.hz (sqr a b) with
  | true=>simp
  | false=>simp
def zkE (V : Vl) (a b : Int × Int) (h : Int) : Prop:=Alw V a b∧¬ ∃ F ∈ V.fs,zcw F a.1 a.2 b.1 b.2 h
structure zuN (V : Vl) (n m : Str) (s t : Int × Int) (ms : List (Int × Int)) : Prop where
 ok : zan ms
 iff : ∀ h,ms.any (inS h) = true ↔ V.h0 ≤ h∧h ≤ V.h1∧(n = m∨zkE V s t h)
 len : ms.length ≤ 14
theorem znY {V : Vl} (ok : zdI V) {b c : Str × (Int × Int)} (hb : b ∈ V.bs) (hc : c ∈ V.bs) (e : b.1 = c.1) : b = c:=by
 obtain ⟨i,hi,rfl⟩:=List.mem_iff_getElem.mp hb
 obtain ⟨j,hj,rfl⟩:=List.mem_iff_getElem.mp hc
 have nd:=List.pairwise_iff_getElem.mp ok.nd
 rcases Nat.lt_trichotomy i j with h | h | h
 ·exact absurd (by rw [List.getElem_map,List.getElem_map]; exact e) (nd i j (by simpa using hi) (by simpa using hj) h)
 ·subst h; rfl
 ·exact absurd (by rw [List.getElem_map,List.getElem_map]; exact e.symm) (nd j i (by simpa using hj) (by simpa using hi) h)
theorem zuA {V : Vl} (ok : zdI V) {i j : Nat} {b c : Str × (Int × Int)} (hb : V.bs[i]? = some b) (hc : V.bs[j]? = some c) : b.1 = c.1 ↔ i = j:=by
 have li:=zaL hb
 have lj:=zaL hc
 rw [List.getElem?_eq_getElem li] at hb
 rw [List.getElem?_eq_getElem lj] at hc
 cases hb; cases hc
 have nd:=List.pairwise_iff_getElem.mp ok.nd
 constructor
 ·intro e
  rcases Nat.lt_trichotomy i j with h | h | h
  ·exact absurd (by rw [List.getElem_map,List.getElem_map]; exact e) (nd i j (by simpa using li) (by simpa using lj) h)
  ·exact h
  ·exact absurd (by rw [List.getElem_map,List.getElem_map]; exact e.symm) (nd j i (by simpa using lj) (by simpa using li) h)
 ·rintro rfl; rfl
theorem zdQ {S A B X : Sto} (h : ∃ T,A = S ++ T) (e : B = A ++ X) : ∃ T,B = S ++ T:=let ⟨T,h⟩:=h; ⟨T ++ X,by rw [e,h,List.append_assoc]⟩
theorem zpq {f : Str} {v : D} : putD f v [] = [(f,v)]:=rfl
theorem zau {f g : Str} {v x : D} {r : List (Str × D)} (h : g ≠ f) : putD f v ((g,x) :: r) = (g,x) :: putD f v r:=by
 show (if g = f then _ else _) = _
 rw [if_neg h]
section
variable {g b f h a l d : D}
theorem vp2 : putD "beacons" b ([("ground",g)] : List (Str × D)) = ([("ground",g),("beacons",b)] : List (Str × D)):=by rw [zau (by decide +kernel)]; rfl
theorem vp3 : putD "fogs" f ([("ground",g),("beacons",b)] : List (Str × D)) = ([("ground",g),("beacons",b),("fogs",f)] : List (Str × D)):=by rw [zau (by decide +kernel),zau (by decide +kernel)]; rfl
theorem vp4 : putD "haze" h ([("ground",g),("beacons",b),("fogs",f)] : List (Str × D)) = ([("ground",g),("beacons",b),("fogs",f),("haze",h)] : List (Str × D)):=by rw [zau (by decide +kernel),zau (by decide +kernel),zau (by decide +kernel)]; rfl
theorem vp5 : putD "first" a ([("ground",g),("beacons",b),("fogs",f),("haze",h)] : List (Str × D)) = ([("ground",g),("beacons",b),("fogs",f),("haze",h),("first",a)] : List (Str × D)):=by rw [zau (by decide +kernel),zau (by decide +kernel),zau (by decide +kernel),zau (by decide +kernel)]; rfl
theorem vp6 : putD "last" l ([("ground",g),("beacons",b),("fogs",f),("haze",h),("first",a)] : List (Str × D)) = ([("ground",g),("beacons",b),("fogs",f),("haze",h),("first",a),("last",l)] : List (Str × D)):=by rw [zau (by decide +kernel),zau (by decide +kernel),zau (by decide +kernel),zau (by decide +kernel),zau (by decide +kernel)]; rfl
theorem vp7 : putD "delay" d ([("ground",g),("beacons",b),("fogs",f),("haze",h),("first",a),("last",l)] : List (Str × D)) = vF g b f h a l d:=by rw [zau (by decide +kernel),zau (by decide +kernel),zau (by decide +kernel),zau (by decide +kernel),zau (by decide +kernel),zau (by decide +kernel)]; rfl
end
def zjQ (lo hi st sp e1 e2 x1 x2 : Int) : Prop:=ze5 lo hi st sp e1 e2 x1 x2∨(sp = 0∧(st < lo∨hi < st)∧e1 = 2∧e2 = 1∧x1 = 0∧x2 = 1)
theorem zus {L R B T x1 z1 x2 z2 ea1 ea2 xa1 xa2 eu1 eu2 xu1 xu2 : Int} (hx : L ≤ R) (hz : B ≤ T) (pa : zjQ L R x1 (x2 - x1) ea1 ea2 xa1 xa2) (pu : zjQ B T z1 (z2 - z1) eu1 eu2 xu1 xu2) : zig ea1 ea2 xa1 xa2 eu1 eu2 xu1 xu2 ↔ Hit L R B T x1 z1 x2 z2:=by
 have off : ∀ {lo hi st sp e1 e2 x1 x2 : Int},(sp = 0∧(st < lo∨hi < st)∧e1 = 2∧e2 = 1∧x1 = 0∧x2 = 1)→ze5 lo hi st sp 1 1 0 1:=fun h=>.inr (.inl ⟨h.1,h.2.1,rfl,rfl,rfl,rfl⟩)
 rw [← zi3 hx hz]
 rcases pa with pa | pa
 ·rcases pu with pu | pu
  ·exact zeM hx hz pa pu
  ·rw [← zeM hx hz pa (off pu)]
   obtain ⟨_,_,rfl,rfl,rfl,rfl⟩:=pu
   rw [zcj,zcj]
   omega
 ·rcases pu with pu | pu
  ·rw [← zeM hx hz (off pa) pu]
   obtain ⟨_,_,rfl,rfl,rfl,rfl⟩:=pa
   rw [zcj,zcj]
   omega
  ·rw [← zeM hx hz (off pa) (off pu)]
   obtain ⟨_,_,rfl,rfl,rfl,rfl⟩:=pa
   obtain ⟨_,_,rfl,rfl,rfl,rfl⟩:=pu
   rw [zcj,zcj]
   omega
theorem zkY {n : Nat} {lo hi st sp e1 e2 x1 x2 : Int} (h : zjQ lo hi st sp e1 e2 x1 x2) (hn : 200 ≤ n) (b1 : Bd n lo) (b2 : Bd n hi) (b3 : Bd n st) (b4 : Bd (n + 1) sp) : Bd (n + 1) e1∧Bd (n + 1) e2∧Bd (n + 1) x1∧Bd (n + 1) x2:=by
 have l : ∀ c : Int,0 ≤ c→c ≤ 2→Bd (n + 1) c:=fun c h0 h1=>by
  have : Bd 2 c:=by show _ < 2 ^ 2; omega
  exact this.mono (by omega)
 rcases h with (⟨_,_,_,rfl,rfl,rfl,rfl⟩ | ⟨_,_,rfl,rfl,rfl,rfl⟩ | ⟨_,rfl,rfl,rfl,rfl⟩ | ⟨_,rfl,rfl,rfl,rfl⟩) | ⟨_,_,rfl,rfl,rfl,rfl⟩
 ·exact ⟨l _ (by decide) (by decide),l _ (by decide) (by decide),l _ (by decide) (by decide),l _ (by decide) (by decide)⟩
 ·exact ⟨l _ (by decide) (by decide),l _ (by decide) (by decide),l _ (by decide) (by decide),l _ (by decide) (by decide)⟩
 ·exact ⟨Bd.sub b1 b3,b4,Bd.sub b2 b3,b4⟩
 ·exact ⟨Bd.sub b3 b2,b4.neg,Bd.sub b3 b1,b4.neg⟩
 ·exact ⟨l _ (by decide) (by decide),l _ (by decide) (by decide),l _ (by decide) (by decide),l _ (by decide) (by decide)⟩
def onF : D→D
 | .tup [a,_]=>a
 | d=>d
def onL : D→D
 | .tup [_,b]=>b
 | d=>d
theorem zjc (z : Int) : zbQ (some z) = .int z:=rfl
theorem znr : zbQ none = .non:=rfl
end Dp
namespace My
open PySem PySem.Spec PyProof.Rows L2
section
open AutoSeq1 (wpAny_loadPart')
variable {prog : Program} {w : World} {A : Around} {E : Value→Shared→Prop} {s : Shared}
theorem zhY {it t : Addr} {i : Nat} {items : Array Value} {x : Value} {Q : Value→Shared→Prop} (hit : s.heap.IsTupleIter it t i) (ht : s.heap.IsTuple t items) (hx : items[i]? = some x)
  (hQ : ∀ h',h'.IsTupleIter it t (i + 1)→Heap.SameBut it s.heap h'→Q x { s with heap:=h' }) : wpAny (model prog w) A (Builtin.SmallTypes.nextOf (.ref it)) Q E s:=by
 obtain ⟨o,ho,hc,hd⟩:=id hit
 obtain ⟨ol,hol,_,nl,hdl⟩:=ht
 unfold Builtin.SmallTypes.nextOf
 refine wpAny_bind (wpAny_callSpecial?_slot (name:=Str.ofString "__next__") hit.typeIs F.slot_tuple_iterator_next (wpAny_call_entry F.slot_tuple_iterator_next hit.typeIs F.entry_tuple_iterator_next ?_ (F.args_tuple_iterator_next_1 _)))
 show wpAny _ _ (field (.ref it) 0 >>= _) _ _ s
 refine wpAny_bind (wpAny_field ho hd (x:=.ref t) rfl ?_)
 show wpAny _ _ (if (Value.ref t == Value.none) = true then _ else _) _ _ s
 rw [if_neg (show ¬ ((Value.ref t == Value.none) = true) from Bool.false_ne_true)]
 show wpAny _ _ (field (.ref it) 1 >>= _) _ _ s
 refine wpAny_bind (wpAny_field ho hd (x:=.int i 0) rfl ?_)
 show wpAny _ _ (seqItems? (.ref t) >>= _) _ _ s
 refine wpAny_bind (wpAny_seqItems hol hdl ?_)
 simp only [Int.toNat_natCast,hx]
 refine wpAny_bind (wpAny_setField ho hd (by simp) (wpAny_pure ⟨x,rfl,wpAny_pure (hQ _ ?_ (Heap.SameBut.update ..))⟩))
 exact ⟨_,Heap.get?_update_self _ ho (Obj.isFreed_of_fields (Obj.data_mapFields hd _)),(Obj.cls_mapFields ..).trans hc,by rw [Obj.data_mapFields hd]; simp [rawInt]⟩
theorem zgB {it t : Addr} {i : Nat} {items : Array Value} {Q : Value→Shared→Prop} (hh : A.handled = none) (hit : s.heap.IsTupleIter it t i) (ht : s.heap.IsTuple t items) (hx : items[i]? = none)
  (hE : ∀ h' e,Heap.ExtBut it s.heap h'→(∃ o,h'.get? e = some o∧o.cls = .type "StopIteration")→E (.ref e) { s with heap:=h' }) : wpAny (model prog w) A (Builtin.SmallTypes.nextOf (.ref it)) Q E s:=by
 obtain ⟨o,ho,hc,hd⟩:=id hit
 obtain ⟨ol,hol,_,nl,hdl⟩:=ht
 unfold Builtin.SmallTypes.nextOf
 refine wpAny_bind (wpAny_callSpecial?_slot (name:=Str.ofString "__next__") hit.typeIs F.slot_tuple_iterator_next (wpAny_call_entry F.slot_tuple_iterator_next hit.typeIs F.entry_tuple_iterator_next ?_ (F.args_tuple_iterator_next_1 _)))
 show wpAny _ _ (field (.ref it) 0 >>= _) _ _ s
 refine wpAny_bind (wpAny_field ho hd (x:=.ref t) rfl ?_)
 show wpAny _ _ (if (Value.ref t == Value.none) = true then _ else _) _ _ s
 rw [if_neg (show ¬ ((Value.ref t == Value.none) = true) from Bool.false_ne_true)]
 show wpAny _ _ (field (.ref it) 1 >>= _) _ _ s
 refine wpAny_bind (wpAny_field ho hd (x:=.int i 0) rfl ?_)
 show wpAny _ _ (seqItems? (.ref t) >>= _) _ _ s
 refine wpAny_bind (wpAny_seqItems hol hdl ?_)
 simp only [Int.toNat_natCast,hx]
 refine wpAny_bind (wpAny_rule (wpAny_bind (wpAny_setField ho hd (by simp) ?_)))
 show wpAny _ _ (newExc (.type "StopIteration") [] >>= _) _ _ _
 refine wpAny_bind ?_
 simp only [newExc,newTuple]
 refine wpAny_bind (wpAny_newObj_type ?_ (by size_fits))
 refine wpAny_bind (m:=firstArgMember _ _) (wpAny_of_eq (a:=Value.none) (by first | rfl | (simp only [firstArgMember]; rfl)) ?_)
 refine wpAny_newObj_type ?_ (by size_fits)
 simp only [raiseNew]
 refine wpAny_bind (wpAny_handled ?_)
 first | rw [show A.in1.handled = none from hh] | rw [hh]
 refine wpAny_bind (wpAny_pure (wpAny_throw ?_))
 exact hE _ _ (((Heap.SameBut.update ..).extBut.push _).push _) ⟨_,Heap.get?_push_size _ rfl,rfl⟩
theorem zsh (hh : A.handled = none) (it t : Addr) (hne : t ≠ it) (items : Array Value) :
  Draws prog w A it [it,t] items.size (fun i v=>items[i]? = some v) (fun i h=>h.IsTupleIter it t i∧h.IsTuple t items) where
 live:=fun _ _ st=>let ⟨o,ho,_⟩:=st.1; ⟨o,ho⟩
 frame:=fun _ _ _ st hk=>⟨let ⟨o,ho,r⟩:=st.1; ⟨o,hk it (by simp) o ho,r⟩,let ⟨o,ho,r⟩:=st.2; ⟨o,hk t (by simp) o ho,r⟩⟩
 item:=fun i s Q E hi st hQ=>zhY st.1 st.2 (x:=items[i]) (by simp [hi]) fun h' hit' hs'=>hQ _ h' s.toks (by simp [hi]) ⟨hit',st.2.extBut hs'.extBut hne⟩ hs'
 done:=fun s Q E st hE=>zgB hh st.1 st.2 (by simp) hE
theorem zrU (hh : A.handled = none) (it t : Addr) (items : Array Value) (i : Nat) (hx : items[i]? = none) :
  Draws prog w A it [it,t] 0 (fun _ _=>True) (fun _ h=>h.IsTupleIter it t i∧h.IsTuple t items) where
 live:=fun _ _ st=>let ⟨o,ho,_⟩:=st.1; ⟨o,ho⟩
 frame:=fun _ _ _ st hk=>⟨let ⟨o,ho,r⟩:=st.1; ⟨o,hk it (by simp) o ho,r⟩,let ⟨o,ho,r⟩:=st.2; ⟨o,hk t (by simp) o ho,r⟩⟩
 item:=fun i s Q E hi=>absurd hi (Nat.not_lt_zero _)
 done:=fun s Q E st hE=>zgB hh st.1 st.2 hx hE
theorem newT (l : Addr) (items : Array Value) (n : Nat) (dct : Option Addr) (sl : Array (Option Value)) :
  Meets (Builtin.«enumerate.__new__» ⟨[.type "enumerate",.ref l],[]⟩) (fun _ R s=>s.heap.get? l = some { cls:=.type "tuple",dict:=dct,data:=.seq items n,slots:=sl } ∧
   R (.ok (.ret (.ref (s.heap.push { cls:=.type "tuple_iterator",data:=.fields #[.ref l,.int 0 0] }).objs.size)))
    { s with heap:=(s.heap.push { cls:=.type "tuple_iterator",data:=.fields #[.ref l,.int 0 0] }).push { cls:=.type "enumerate",data:=.fields #[.none,.bool false,.ref s.heap.objs.size,rawInt 0,.none,.none] } }) :=
 .of_wp fun prog w A R s h=>by
  obtain ⟨hp,g,d,tk,os⟩:=s
  obtain ⟨hl,h⟩:=h
  have hsub:=sub_enumerate
  have hL : Heap.IsTuple (Shared.heap ⟨hp,g,d,tk,os⟩) l items:=⟨_,hl,rfl,n,rfl⟩
  wp_walk using wpAny_loadPart' hl
  refine wpAny_stack_any fun st=>wpAny_pure ?_
  split
  ·rename_i c _ _ _ _ _
   cases (c == Value.type "enumerate")
   ·wp_walk using wpAny_loadPart' hl,wpAny_pyIter_tuple hL
    exact ⟨_,rfl,h⟩
   ·wp_walk using wpAny_loadPart' hl,wpAny_pyIter_tuple hL
    exact ⟨_,rfl,h⟩
  ·wp_walk using wpAny_loadPart' hl,wpAny_pyIter_tuple hL
   exact ⟨_,rfl,h⟩
theorem ztC {l : Addr} {items : Array Value} {Q : Value→Shared→Prop} (hL : s.heap.IsTuple l items)
  (h : ∀ h',IsEnum h' (s.heap.objs.size + 1) s.heap.objs.size 0 .none→h'.IsTupleIter s.heap.objs.size l 0→h'.objs.size = s.heap.objs.size + 2 →
   (∀ b o,s.heap.get? b = some o→h'.get? b = some o)→Q (.ref (s.heap.objs.size + 1)) { s with heap:=h' }) : wpAny (model prog w) A (call (.type "enumerate") [.ref l]) Q E s:=by
 obtain ⟨⟨c,dct,dt,sl⟩,hl,hc,n,hd⟩:=hL
 replace hc : c = .type "tuple":=hc
 replace hd : dt = .seq items n:=hd
 subst hc hd
 refine callType_new F.called_enumerate (by decide) (F.typeCall_enumerate_1 _) (F.newCall_enumerate_1 _) (fun obj=>F.args_object_init_2 obj _) F.entry_enumerate_new (newT l items n dct sl) ⟨hl,?_⟩
 have hz : (s.heap.push { cls:=.type "tuple_iterator",data:=.fields #[.ref l,.int 0 0] }).objs.size = s.heap.objs.size + 1:=Heap.size_push ..
 show _∧_
 rw [hz]
 have he : IsEnum ((s.heap.push { cls:=.type "tuple_iterator",data:=.fields #[.ref l,.int 0 0] }).push
   { cls:=.type "enumerate",data:=.fields #[.none,.bool false,.ref s.heap.objs.size,rawInt 0,.none,.none] }) (s.heap.objs.size + 1) s.heap.objs.size 0 .none:=by
  have:=Heap.get?_push_size (s.heap.push { cls:=.type "tuple_iterator",data:=.fields #[.ref l,.int 0 0] })
   (o:={ cls:=.type "enumerate",data:=.fields #[.none,.bool false,.ref s.heap.objs.size,rawInt 0,.none,.none] }) rfl
  rw [hz] at this; exact this
 exact ⟨⟨_,he,rfl⟩,h _ he ⟨_,Heap.get?_push_of_some _ (Heap.get?_push_size _ rfl),rfl,rfl⟩ (by rw [Heap.size_push,hz]) fun b o x=>Heap.get?_push_of_some _ (Heap.get?_push_of_some _ x)⟩
end
def zoY (K : PySem.W.Frag) (l : Addr) : It :=
  ⟨fun i H=>∃ xs x,SqT K H l xs∧xs[i]? = some x,
   fun i H v H'=>∃ p,v = .ref p∧H p = none∧∀ xs x,SqT K H l xs→xs[i]? = some x→H' = upd H p (.tup [.int i,x]),
   fun i H=>∃ xs,SqT K H l xs∧xs.length ≤ i⟩
theorem znZ {h : Heap} {a b : Addr} {o u : Obj} (ha : h.get? a = some o) (hb : h.get? b = some u) (hc : o.cls ≠ u.cls) : a ≠ b:=fun e=>by
 subst e
 rw [ha] at hb
 cases hb
 exact hc rfl
theorem zmW {P : Program} {w : World} {K : PySem.W.Frag} {es : List Expr} {kk : Nat} {pos : Pos} {e it l : Addr} (hne : e ≠ it) :
  Turn P w K (.Tuple es kk pos) (zoY K l) [e,it] e (fun i h=>(∃ old,IsEnum h e it i old)∧h.IsTupleIter it l i) where
 mem:=by simp
 obj:=fun i h st b hb=>by
  obtain ⟨⟨old,he⟩,⟨o1,h1,_,h1d⟩⟩:=st
  simp only [List.mem_cons,List.not_mem_nil,or_false] at hb
  rcases hb with rfl | rfl
  ·exact ⟨_,he,fun v q=>by cases (show Data.fields _ = Data.cell v from q)⟩
  ·exact ⟨_,h1,fun v q=>by rw [h1d] at q; cases q⟩
 keep:=fun i h h' st k=>by
  obtain ⟨⟨old,he⟩,⟨o,ho,r⟩⟩:=st
  exact ⟨⟨old,k e (by simp) _ he⟩,⟨o,k it (by simp) o ho,r⟩⟩
 item:=by
  intro X hP hw hK hc i pins s σ H E I hf st hg
  subst hP hw hK
  obtain ⟨⟨old,he⟩,h1⟩:=st
  obtain ⟨xs,x,hx1,hx⟩:=hg
  obtain ⟨its,rx,px,zx⟩:=I.tuple hx1
  obtain ⟨u,hu,ru⟩:=Vals.get rx hx
  have pt : s.heap.IsTuple l its.toArray:=px
  obtain ⟨oi,ei,ci,_⟩:=id h1
  obtain ⟨ol,el,cl,_⟩:=id pt
  have n1 : l ≠ it:=znZ el ei (by rw [cl,ci]; decide)
  have n2 : e ≠ l:=znZ he el (by rw [cl]; show Value.type "enumerate" ≠ Value.type "tuple"; decide)
  have hlt : i < its.toArray.size:=by
   have:=(List.getElem?_eq_some_iff.mp hu).1
   simpa using this
  refine wpAny_pyNext_enum_itemD (zsh (A:=X.A.in1) (show X.A.in1.handled = none from I.ok.hd hc) it l n1 its.toArray) he ⟨h1,pt⟩ hlt hne (by simp [hne,n2]) fun u' h' tk hP a1 a2 a3 a4 hk=>?_
  have eu : u' = u:=by
   have hP' : its.toArray[i]? = some u':=hP
   rw [List.getElem?_toArray,hu] at hP'
   cases hP'; rfl
  subst eu
  refine ⟨_,rfl,wpAny_letOwnedTupleGo_enum (s:={ s with heap:=h',toks:=tk + 1 }) a1 fun h'' he'' hs''=>?_⟩
  have lt : ∀ {c o},s.heap.get? c = some o→s.heap.objs.size ≠ c:=fun q=>Nat.ne_of_gt (Heap.lt_size q)
  have k2 : ∀ b u,b ∉ [e,it]→s.heap.get? b = some u→h''.get? b = some u:=fun b u hb q=>by
   simp only [List.mem_cons,List.not_mem_nil,or_false,not_or] at hb
   exact hs''.extBut b u hb.1 (hk b u hb.1 hb.2 q)
  have new : h''.get? s.heap.objs.size = some { cls:=.type "tuple",data:=.seq #[.int i tk,u'] }:=hs''.extBut _ _ (lt he) a3
  refine ⟨.ref s.heap.objs.size,upd H s.heap.objs.size (.tup [.int i,x]),I.turnNew (t':=tk + 1) hf k2 (Nat.le_refl _) ⟨by show 2 ≤ sizeLine; decide,[.int i tk,u'],.cons ⟨_,rfl⟩ (.cons ru .nil),_,new,rfl,_,rfl⟩,rfl,⟨_,rfl,I.fresh,?_⟩,?_,fun b hb=>?_⟩
  ·intro xs' x' hx1' hx'
   cases I.tuple_inj hx1 hx1'
   rw [hx] at hx'
   cases hx'
   rfl
  ·exact ⟨⟨_,he''⟩,a2.1.extBut hs''.extBut (Ne.symm hne)⟩
  ·have : ∃ o,s.heap.get? b = some o:=by
    simp only [List.mem_cons,List.not_mem_nil,or_false] at hb
    rcases hb with rfl | rfl
    ·exact ⟨_,he⟩
    ·exact ⟨_,ei⟩
   obtain ⟨o,q⟩:=this
   rw [zad (lt q).symm]
   exact (hf b hb).1
 done:=by
  intro X hP hw hK hc i pins s σ H E I hf st hg
  subst hP hw hK
  obtain ⟨⟨old,he⟩,h1⟩:=st
  obtain ⟨xs,hx1,hl⟩:=hg
  obtain ⟨its,rx,px,zx⟩:=I.tuple hx1
  have n1:=rx.length
  have pt : s.heap.IsTuple l its.toArray:=px
  have hnone : its.toArray[i]? = none:=by rw [List.getElem?_toArray]; exact List.getElem?_eq_none (by omega)
  refine wpAny_pyNext_enum_endD (zrU (A:=X.A.in1) (show X.A.in1.handled = none from I.ok.hd hc) it l its.toArray i hnone) he ⟨h1,pt⟩ fun h' hk=>⟨rfl,I.turnedL (t':=s.toks) hf fun b u hb q=>?_⟩
  simp only [List.mem_cons,List.not_mem_nil,or_false,not_or] at hb
  exact hk b u hb.2 q
 self:=fun _ _ _ _ _ st h=>by
  obtain ⟨⟨old,he⟩,_⟩:=st
  exact wpAny_pyIter_enum he h
section
variable {X : Cx}
def ztg (K : PySem.W.Frag) (ta : TA) : TI:=fun σ H R=>ta σ H fun vs H1=>∃ l,vs = [.ref l]∧(((∃ xs,SqL K H1 l xs)∧R (Ite K l) H1)∨((∃ xs,SqT K H1 l xs)∧R (zoY K l) H1))
theorem zo2 {es : List Expr} {kk : Nat} {tpos : Pos} {a : Expr} {ta : TA} {p pos : Pos} (hg : Gl X "enumerate") (hm : X.mg "enumerate" = none) (ha : PA X [a] ta) (hs : starEach [a] X.env = [(false, eval a X.env)] := by rfl) :
    PI X (.Tuple es kk tpos) (.Call (.Name "enumerate" p) [a] [] pos) (ztg X.K ta):=by
  intro pins s σ H R I h
  refine Call_ (zdF I hg hm boot_enumerate (PyProof.Rows.callWith_type1 (thn (ha pos pins s σ H _ I h) fun us s1 ⟨vs,H1,I1,r1,q1⟩=>?_) hs rfl))
  obtain ⟨l,e,q⟩:=q1
  subst e
  obtain ⟨u,rfl,ru⟩:=vals1 r1
  cases ru
  rcases q with ⟨⟨xs,hx⟩,q⟩ | ⟨⟨xs,hx⟩,q⟩
  · obtain ⟨its,rx,px,zx⟩:=I1.list hx
    refine call_enumerate_list px.isList fun h' he hit hsz hk=>?_
    have I2 : Inv X pins σ H1 { s1 with heap:=h' }:=I1.kept (t':=s1.toks) hk
    refine wpAny_pyIter_enum (s:={ s1 with heap:=h' }) he ?_
    refine ⟨_,_,_,_,H1,rfl,I2,znS (Nat.ne_of_gt (Nat.lt_succ_self _)),⟨⟨_,he⟩,hit⟩,fun b hb=>?_,q⟩
    have hb' : s1.heap.objs.size ≤ b:=by
      simp only [List.mem_cons,List.not_mem_nil,or_false] at hb
      rcases hb with rfl | rfl <;> first | exact Nat.le_add_right _ _ | exact Nat.le_refl _
    exact I1.fpOk hb' (I1.hok.fresh hb')
  · obtain ⟨its,rx,px,zx⟩:=I1.tuple hx
    have pt : s1.heap.IsTuple l its.toArray:=px
    refine ztC pt fun h' he hit hsz hk=>?_
    have I2 : Inv X pins σ H1 { s1 with heap:=h' }:=I1.kept (t':=s1.toks) hk
    refine wpAny_pyIter_enum (s:={ s1 with heap:=h' }) he ?_
    refine ⟨_,_,_,_,H1,rfl,I2,zmW (Nat.ne_of_gt (Nat.lt_succ_self _)),⟨⟨_,he⟩,hit⟩,fun b hb=>?_,q⟩
    have hb' : s1.heap.objs.size ≤ b:=by
      simp only [List.mem_cons,List.not_mem_nil,or_false] at hb
      rcases hb with rfl | rfl <;> first | exact Nat.le_add_right _ _ | exact Nat.le_refl _
    exact I1.fpOk hb' (I1.hok.fresh hb')
end
end My
namespace My
open PySem PySem.Spec PyProof.Rows L2
def zbd : Bool→Heap→Addr→Addr→Nat→Prop
 | true,h,it,l,k=>h.IsListIter it l k
 | false,h,it,l,k=>h.IsTupleIter it l k
def zbM : Bool→Heap→Addr→Array Value→Prop
 | true,h,l,xs=>h.IsList l xs
 | false,h,l,xs=>h.IsTuple l xs
theorem zbd.grow {b : Bool} {h h' : Heap} {c it l : Addr} {k : Nat} (x : zbd b h it l k) (e : Heap.ExtBut c h h') (n : it ≠ c) : zbd b h' it l k:=by
 cases b
 ·exact Heap.IsTupleIter.extBut (show h.IsTupleIter it l k from x) e n
 ·exact Heap.IsListIter.extBut (show h.IsListIter it l k from x) e n
theorem zbM.grow {b : Bool} {h h' : Heap} {c l : Addr} {xs : Array Value} (x : zbM b h l xs) (e : Heap.ExtBut c h h') (n : l ≠ c) : zbM b h' l xs:=by
 cases b
 ·exact Heap.IsTuple.extBut (show h.IsTuple l xs from x) e n
 ·exact Heap.IsList.extBut (show h.IsList l xs from x) e n
theorem zbd.obj {b : Bool} {h : Heap} {it l : Addr} {k : Nat} (x : zbd b h it l k) : ∃ o,h.get? it = some o∧(o.cls = .type "list_iterator"∨o.cls = .type "tuple_iterator")∧∃ vs,o.data = .fields vs:=by
 cases b
 ·obtain ⟨o,ho,hc,hd⟩ : h.IsTupleIter it l k:=x
  exact ⟨o,ho,.inr hc,_,hd⟩
 ·obtain ⟨o,ho,hc,hd⟩ : h.IsListIter it l k:=x
  exact ⟨o,ho,.inl hc,_,hd⟩
theorem zbd.at {b : Bool} {h h' : Heap} {it l : Addr} {k : Nat} (x : zbd b h it l k) (e : ∀ o,h.get? it = some o→h'.get? it = some o) : zbd b h' it l k:=by
 cases b
 ·obtain ⟨o,ho,hc,hd⟩ : h.IsTupleIter it l k:=x
  exact (⟨o,e o ho,hc,hd⟩ : h'.IsTupleIter it l k)
 ·obtain ⟨o,ho,hc,hd⟩ : h.IsListIter it l k:=x
  exact (⟨o,e o ho,hc,hd⟩ : h'.IsListIter it l k)
theorem zbM.lt {b : Bool} {h : Heap} {l : Addr} {xs : Array Value} (x : zbM b h l xs) : l < h.objs.size:=by
 cases b
 ·obtain ⟨o,ho,_⟩ : h.IsTuple l xs:=x
  exact Heap.lt_size ho
 ·obtain ⟨o,ho,_⟩ : h.IsList l xs:=x
  exact Heap.lt_size ho
section
variable {prog : Program} {w : World} {A : Around} {E : Value→Shared→Prop} {s : Shared}
theorem zfK {b : Bool} {it t : Addr} {i : Nat} {items : Array Value} {x : Value} {Q : Value→Shared→Prop} (hit : zbd b s.heap it t i) (ht : zbM b s.heap t items) (hx : items[i]? = some x)
  (hQ : ∀ h',zbd b h' it t (i + 1)→Heap.SameBut it s.heap h'→Q x { s with heap:=h' }) : wpAny (model prog w) A (Builtin.SmallTypes.nextOf (.ref it)) Q E s:=by
 cases b
 ·exact zhY hit ht hx hQ
 ·exact wpAny_nextOf_list_item hit ht hx hQ
theorem zjh {b : Bool} {it t : Addr} {i : Nat} {items : Array Value} {Q : Value→Shared→Prop} (hh : A.handled = none) (hit : zbd b s.heap it t i) (ht : zbM b s.heap t items) (hx : items[i]? = none)
  (hE : ∀ h' e,Heap.ExtBut it s.heap h'→(∃ o,h'.get? e = some o∧o.cls = .type "StopIteration")→E (.ref e) { s with heap:=h' }) : wpAny (model prog w) A (Builtin.SmallTypes.nextOf (.ref it)) Q E s:=by
 cases b
 ·exact zgB hh hit ht hx hE
 ·exact wpAny_nextOf_list_end hh hit ht hx hE
theorem zmy {b1 b2 : Bool} {z TI TO i1 i2 l1 l2 : Addr} {k : Nat} {xs ys : Array Value} {x y a b : Value} {Q : Option Value→Shared→Prop} (D : ZipApart z TI TO i1 i2 l1 l2)
  (hz : IsZip s.heap z TI TO .none) (hTI : IsPair s.heap TI (.ref i1) (.ref i2)) (hTO : IsPair s.heap TO a b) (h1 : zbd b1 s.heap i1 l1 k) (h2 : zbd b2 s.heap i2 l2 k) (hl1 : zbM b1 s.heap l1 xs) (hl2 : zbM b2 s.heap l2 ys) (hx : xs[k]? = some x) (hy : ys[k]? = some y)
  (hQ : ∀ h',IsZip h' z TI TO (rawInt s.heap.objs.size)→IsPair h' TO x y→zbd b1 h' i1 l1 (k + 1)→zbd b2 h' i2 l2 (k + 1)→IsPair h' s.heap.objs.size x y →
   (∀ c o,c ≠ z→c ≠ TO→c ≠ i1→c ≠ i2→s.heap.get? c = some o→h'.get? c = some o)→Q (some (.ref s.heap.objs.size)) { s with heap:=h' }) : wpAny (model prog w) A (pyNext (.ref z)) Q E s:=by
 have hT : s.TypeIs (.ref z) "zip":=⟨_,hz,rfl⟩
 unfold pyNext
 refine wpAny_bind (wpAny_attempt (wpAny_callSpecial?_slot (name:=Str.ofString "__next__") hT F.slot_zip_next (wpAny_call_entry F.slot_zip_next hT F.entry_zip_next ?_ (F.args_zip_next_1 _))))
 show wpAny _ _ (field (.ref z) 2 >>= _) _ _ _
 refine wpAny_bind (wpAny_field hz rfl (x:=.bool false) rfl ?_); show wpAny _ _ (field (.ref z) 3 >>= _) _ _ _
 refine wpAny_bind (wpAny_field hz rfl (x:=.ref TI) rfl (wpAny_bind (wpAny_seqItems hTI rfl ?_))); show wpAny _ _ (Builtin.SmallTypes.ownedTupleIsFree (.ref z) >>= _) _ _ _
 refine wpAny_bind ?_; unfold Builtin.SmallTypes.ownedTupleIsFree
 refine wpAny_bind (wpAny_field hz rfl (x:=.none) rfl (wpAny_pure ?_)); simp only [if_true]
 refine wpAny_bind (wpAny_rule (wpAny_bind (wpAny_field hz rfl (x:=.ref TO) rfl (wpAny_bind (wpAny_setField_rec hz (by simp) fun g1 z1 e1=>?_)))))
 replace z1 : IsZip g1 z TI TO .ellipsis:=z1
 refine wpAny_bind ?_; simp only [List.zipIdx_cons,List.zipIdx_nil,List.forIn_cons,List.forIn_nil]
 refine wpAny_bind (wpAny_bind (wpAny_onRaise ?_)); show wpAny _ _ (Builtin.SmallTypes.nextOf (.ref i1) >>= _) _ _ _
 refine wpAny_bind (zfK (h1.grow e1.extBut D.i1z) (hl1.grow e1.extBut D.l1z) hx fun g2 t1 e2=>wpAny_pure ?_)
 have p2 : IsPair g2 TO a b:=e2.extBut _ _ D.TOi1 (e1.extBut _ _ D.TOz hTO)
 refine wpAny_bind (wpAny_seqItems p2 rfl (wpAny_bind (wpAny_updateSeq_pair p2 fun g3 p3 e3=>wpAny_bind (wpAny_letGo (wpAny_pure ?_)))))
 replace p3 : IsPair g3 TO x b:=p3
 refine wpAny_bind (wpAny_bind (wpAny_onRaise ?_)); show wpAny _ _ (Builtin.SmallTypes.nextOf (.ref i2) >>= _) _ _ _
 refine wpAny_bind (zfK (((h2.grow e1.extBut D.i2z).grow e2.extBut D.i12.symm).grow e3.extBut D.TOi2.symm) (((hl2.grow e1.extBut D.l2z).grow e2.extBut D.l2i1).grow e3.extBut D.l2TO) hy fun g4 t2 e4=>wpAny_pure ?_)
 have p4 : IsPair g4 TO x b:=e4.extBut _ _ D.TOi2 p3
 refine wpAny_bind (wpAny_seqItems p4 rfl (wpAny_bind (wpAny_updateSeq_pair p4 fun g5 p5 e5=>wpAny_bind (wpAny_letGo (wpAny_pure (wpAny_pure ?_))))))
 replace p5 : IsPair g5 TO x y:=p5
 refine wpAny_bind (wpAny_seqItems p5 rfl (wpAny_bind (wpAny_newTuple ?_)))
 have sz : g5.objs.size = s.heap.objs.size:=by rw [e5.1,e4.1,e3.1,e2.1,e1.1]
 have z5 : IsZip g5 z TI TO .ellipsis:=e5.extBut _ _ D.TOz.symm (e4.extBut _ _ D.i2z.symm (e3.extBut _ _ D.TOz.symm (e2.extBut _ _ D.i1z.symm z1)))
 have k5 : ∀ c o,c ≠ z→c ≠ TO→c ≠ i1→c ≠ i2→s.heap.get? c = some o→g5.get? c = some o:=fun c o c1 c2 c3 c4 e=>e5.extBut _ _ c2 (e4.extBut _ _ c4 (e3.extBut _ _ c2 (e2.extBut _ _ c3 (e1.extBut _ _ c1 e))))
 have u1 : zbd b1 g5 i1 l1 (k + 1):=((t1.grow e3.extBut D.TOi1.symm).grow e4.extBut D.i12).grow e5.extBut D.TOi1.symm
 have u2 : zbd b2 g5 i2 l2 (k + 1):=t2.grow e5.extBut D.TOi2.symm
 have zl : z < g5.objs.size:=Heap.lt_size z5
 show wpAny _ _ (Builtin.SmallTypes.ownedTupleHandOut (.ref z) (.ref g5.objs.size) >>= _) _ _ _
 refine wpAny_bind ?_; unfold Builtin.SmallTypes.ownedTupleHandOut
 have z6 : IsZip (g5.push { cls:=.type "tuple",data:=.seq #[x,y] }) z TI TO .ellipsis:=Heap.get?_push_of_some _ z5
 refine wpAny_bind (wpAny_setField_rec z6 (by simp) fun g7 z7 e7=>?_)
 replace z7 : IsZip g7 z TI TO (rawInt g5.objs.size):=z7
 refine wpAny_setField_rec z7 (by simp) fun g8 z8 e8=>?_
 replace z8 : IsZip g8 z TI TO (rawInt g5.objs.size):=z8
 have up : ∀ c o,c ≠ z→g5.get? c = some o→g8.get? c = some o:=fun c o c1 e=>e8.extBut _ _ c1 (e7.extBut _ _ c1 (Heap.get?_push_of_some _ e))
 have t8 : IsPair g8 g5.objs.size x y:=e8.extBut _ _ (Nat.ne_of_gt zl) (e7.extBut _ _ (Nat.ne_of_gt zl) (Heap.get?_push_size _ rfl))
 rw [sz] at z8 t8
 refine wpAny_pure ⟨_,rfl,wpAny_pure ?_⟩
 show Q (some (.ref g5.objs.size)) _
 rw [sz]
 exact hQ g8 z8 (up _ _ D.TOz p5) (u1.at fun o e=>up _ o D.i1z e) (u2.at fun o e=>up _ o D.i2z e) t8 fun c o c1 c2 c3 c4 e=>up c o c1 (k5 c o c1 c2 c3 c4 e)
theorem zm3 {b1 b2 : Bool} {z TI TO i1 i2 l1 l2 : Addr} {k : Nat} {xs ys : Array Value} {a b : Value} {Q : Option Value→Shared→Prop} (hh : A.handled = none) (D : ZipApart z TI TO i1 i2 l1 l2)
  (hz : IsZip s.heap z TI TO .none) (hTI : IsPair s.heap TI (.ref i1) (.ref i2)) (hTO : IsPair s.heap TO a b) (h1 : zbd b1 s.heap i1 l1 k) (h2 : zbd b2 s.heap i2 l2 k) (hl1 : zbM b1 s.heap l1 xs) (hl2 : zbM b2 s.heap l2 ys) (hend : xs[k]? = none∨ys[k]? = none)
  (hQ : ∀ h',(∀ c o,c ≠ z→c ≠ TO→c ≠ i1→c ≠ i2→s.heap.get? c = some o→h'.get? c = some o)→Q none { s with heap:=h' }) : wpAny (model prog w) A (pyNext (.ref z)) Q E s:=by
 have hT : s.TypeIs (.ref z) "zip":=⟨_,hz,rfl⟩
 unfold pyNext
 refine wpAny_bind (wpAny_attempt (wpAny_callSpecial?_slot (name:=Str.ofString "__next__") hT F.slot_zip_next (wpAny_call_entry F.slot_zip_next hT F.entry_zip_next ?_ (F.args_zip_next_1 _))))
 have out : ∀ h' e,(∀ c o,c ≠ z→c ≠ TO→c ≠ i1→c ≠ i2→s.heap.get? c = some o→h'.get? c = some o)→(∃ o,h'.get? e = some o∧o.cls = .type "StopIteration") →
   wpAny (model prog w) A ((isInstance (.ref e) (.type "StopIteration")) >>= fun b=>if b = true then pure none else throw (.ref e)) Q E { s with heap:=h' }:=fun h' e hk he=>by
  obtain ⟨o,ho,hc⟩:=he
  exact wpAny_bind (wpAny_isInstance (T:="StopIteration") (b:=true) ⟨o,ho,hc⟩ isSubtype_stop (wpAny_pure (hQ _ hk)))
 show wpAny _ _ (field (.ref z) 2 >>= _) _ _ _
 refine wpAny_bind (wpAny_field hz rfl (x:=.bool false) rfl ?_); show wpAny _ _ (field (.ref z) 3 >>= _) _ _ _
 refine wpAny_bind (wpAny_field hz rfl (x:=.ref TI) rfl (wpAny_bind (wpAny_seqItems hTI rfl ?_))); show wpAny _ _ (Builtin.SmallTypes.ownedTupleIsFree (.ref z) >>= _) _ _ _
 refine wpAny_bind ?_; unfold Builtin.SmallTypes.ownedTupleIsFree
 refine wpAny_bind (wpAny_field hz rfl (x:=.none) rfl (wpAny_pure ?_)); simp only [if_true]
 refine wpAny_bind (wpAny_rule (wpAny_bind (wpAny_field hz rfl (x:=.ref TO) rfl (wpAny_bind (wpAny_setField_rec hz (by simp) fun g1 z1 e1=>?_)))))
 replace z1 : IsZip g1 z TI TO .ellipsis:=z1
 refine wpAny_bind ?_; simp only [List.zipIdx_cons,List.zipIdx_nil,List.forIn_cons,List.forIn_nil]
 refine wpAny_bind (wpAny_bind (wpAny_onRaise ?_)); show wpAny _ _ (Builtin.SmallTypes.nextOf (.ref i1) >>= _) _ _ _
 cases hx : xs[k]? with
 | none =>
  refine wpAny_bind (zjh hh (h1.grow e1.extBut D.i1z) (hl1.grow e1.extBut D.l1z) hx fun g2 e e2 ⟨oe,hoe,hce⟩=>?_)
  have z2 : IsZip g2 z TI TO .ellipsis:=e2 _ _ D.i1z.symm z1
  have ne : e ≠ z:=fun q=>by subst q; rw [z2] at hoe; cases hoe; simp at hce
  exact wpAny_setField_rec z2 (by simp) fun g3 _ e3=>out g3 e (fun c o c1 _ c3 _ q=>e3.extBut _ _ c1 (e2 _ _ c3 (e1.extBut _ _ c1 q))) ⟨oe,e3.extBut _ _ ne hoe,hce⟩
 | some x =>
  have hy : ys[k]? = none:=by rcases hend with h | h; rw [hx] at h; cases h; exact h
  refine wpAny_bind (zfK (h1.grow e1.extBut D.i1z) (hl1.grow e1.extBut D.l1z) hx fun g2 t1 e2=>wpAny_pure ?_)
  have p2 : IsPair g2 TO a b:=e2.extBut _ _ D.TOi1 (e1.extBut _ _ D.TOz hTO)
  refine wpAny_bind (wpAny_seqItems p2 rfl (wpAny_bind (wpAny_updateSeq_pair p2 fun g3 p3 e3=>wpAny_bind (wpAny_letGo (wpAny_pure ?_)))))
  refine wpAny_bind (wpAny_bind (wpAny_onRaise ?_)); show wpAny _ _ (Builtin.SmallTypes.nextOf (.ref i2) >>= _) _ _ _
  refine wpAny_bind (zjh hh (((h2.grow e1.extBut D.i2z).grow e2.extBut D.i12.symm).grow e3.extBut D.TOi2.symm) (((hl2.grow e1.extBut D.l2z).grow e2.extBut D.l2i1).grow e3.extBut D.l2TO) hy fun g4 e e4 ⟨oe,hoe,hce⟩=>?_)
  have z4 : IsZip g4 z TI TO .ellipsis:=e4 _ _ D.i2z.symm (e3.extBut _ _ D.TOz.symm (e2.extBut _ _ D.i1z.symm z1))
  have ne : e ≠ z:=fun q=>by subst q; rw [z4] at hoe; cases hoe; simp at hce
  exact wpAny_setField_rec z4 (by simp) fun g5 _ e5=>out g5 e (fun c o c1 c2 c3 c4 q=>e5.extBut _ _ c1 (e4 _ _ c4 (e3.extBut _ _ c2 (e2.extBut _ _ c3 (e1.extBut _ _ c1 q))))) ⟨oe,e5.extBut _ _ ne hoe,hce⟩
end
abbrev itN (b : Bool) : String:=if b = true then "list_iterator" else "tuple_iterator"
abbrev zg1 (b : Bool) (h : Heap) (l : Addr) : Heap:=h.push { cls:=.type (itN b),data:=.fields #[.ref l,.int 0 0] }
abbrev zg2 (b1 b2 : Bool) (h : Heap) (l1 l2 : Addr) : Heap:=zg1 b2 (zg1 b1 h l1) l2
abbrev zg3 (b1 b2 : Bool) (h : Heap) (l1 l2 : Addr) : Heap:=(zg2 b1 b2 h l1 l2).push { cls:=.type "tuple",data:=.seq #[.ref h.objs.size,.ref (zg1 b1 h l1).objs.size] }
abbrev zg4 (b1 b2 : Bool) (h : Heap) (l1 l2 : Addr) : Heap:=(zg3 b1 b2 h l1 l2).push { cls:=.type "tuple",data:=.seq #[.none,.none] }
abbrev zg5 (b1 b2 : Bool) (h : Heap) (l1 l2 : Addr) : Heap:=(zg4 b1 b2 h l1 l2).push { cls:=.type "zip",data:=.fields #[.none,.bool false,.bool false,.ref (zg2 b1 b2 h l1 l2).objs.size,.ref (zg3 b1 b2 h l1 l2).objs.size] }
theorem zbM.push {b : Bool} {h : Heap} {l : Addr} {xs : Array Value} (x : zbM b h l xs) (o : Obj) : zbM b (h.push o) l xs:=by
 cases b
 ·obtain ⟨u,hu,r⟩ : h.IsTuple l xs:=x
  exact (⟨u,Heap.get?_push_of_some _ hu,r⟩ : (h.push o).IsTuple l xs)
 ·obtain ⟨u,hu,r⟩ : h.IsList l xs:=x
  exact (⟨u,Heap.get?_push_of_some _ hu,r⟩ : (h.push o).IsList l xs)
theorem zvx (b : Bool) (l1 l2 : Addr) (xs ys : Array Value) :
  Meets (Builtin.«zip.__new__» ⟨[.type "zip",.ref l1,.ref l2],[]⟩) (fun _ R s=>zbM b s.heap l1 xs∧zbM b s.heap l2 ys∧R (.ok (.ret (.ref (zg4 b b s.heap l1 l2).objs.size))) { s with heap:=zg5 b b s.heap l1 l2 }):=by
 cases b
 ·exact .of_wp fun prog w A R s h=>by
   obtain ⟨hp,g,d,tk,os⟩:=s
   obtain ⟨h1,h2,h⟩:=h
   have hsub:=sub_zip
   have q1 : Heap.IsTuple (Shared.heap ⟨hp,g,d,tk,os⟩) l1 xs:=h1
   have q2 : Heap.IsTuple (Shared.heap ⟨hp.push { cls:=.type "tuple_iterator",data:=.fields #[.ref l1,.int 0 0] },g,d,tk,os⟩) l2 ys:=zbM.push (b:=false) h2 _
   wp_walk using wpAny_pyIter_tuple q1,wpAny_pyIter_tuple q2
   exact ⟨_,rfl,h⟩
 ·exact meets_zip_new l1 l2 xs ys
theorem zp1 {b : Bool} {h : Heap} {it l : Addr} (e : h.get? it = some { cls:=.type (itN b),data:=.fields #[.ref l,.int 0 0] }) : zbd b h it l 0:=by
 cases b
 ·exact (⟨_,e,rfl,rfl⟩ : h.IsTupleIter it l 0)
 ·exact (⟨_,e,rfl,rfl⟩ : h.IsListIter it l 0)
section
variable {prog : Program} {w : World} {A : Around} {E : Value→Shared→Prop} {s : Shared}
theorem ztL {b : Bool} {l1 l2 : Addr} {xs ys : Array Value} {Q : Value→Shared→Prop} (hl1 : zbM b s.heap l1 xs) (hl2 : zbM b s.heap l2 ys)
  (h : ∀ h',IsZip h' (s.heap.objs.size + 4) (s.heap.objs.size + 2) (s.heap.objs.size + 3) .none→IsPair h' (s.heap.objs.size + 2) (.ref s.heap.objs.size) (.ref (s.heap.objs.size + 1))→IsPair h' (s.heap.objs.size + 3) .none .none→zbd b h' s.heap.objs.size l1 0→zbd b h' (s.heap.objs.size + 1) l2 0 →
   (∀ c o,s.heap.get? c = some o→h'.get? c = some o)→Q (.ref (s.heap.objs.size + 4)) { s with heap:=h' }) : wpAny (model prog w) A (call (.type "zip") [.ref l1,.ref l2]) Q E s:=by
 refine callType_new F.called_zip (by decide) (F.typeCall_zip_2 _ _) (F.newCall_zip_2 _ _) (fun obj=>F.args_object_init_3 obj _ _) F.entry_zip_new (zvx b l1 l2 xs ys) ⟨hl1,hl2,?_⟩
 have s1 : (zg1 b s.heap l1).objs.size = s.heap.objs.size + 1:=Heap.size_push ..
 have s2 : (zg2 b b s.heap l1 l2).objs.size = s.heap.objs.size + 2:=by rw [Heap.size_push,s1]
 have s3 : (zg3 b b s.heap l1 l2).objs.size = s.heap.objs.size + 3:=by rw [Heap.size_push,s2]
 have s4 : (zg4 b b s.heap l1 l2).objs.size = s.heap.objs.size + 4:=by rw [Heap.size_push,s3]
 have v1 : (zg5 b b s.heap l1 l2).get? s.heap.objs.size = some _:=(fun c o q=>Heap.get?_push_of_some _ (Heap.get?_push_of_some _ (Heap.get?_push_of_some _ (Heap.get?_push_of_some _ q))) : ∀ c o,(zg1 b s.heap l1).get? c = some o→(zg5 b b s.heap l1 l2).get? c = some o) _ _ (Heap.get?_push_size _ rfl)
 have v2 : (zg5 b b s.heap l1 l2).get? (zg1 b s.heap l1).objs.size = some _:=(fun c o q=>Heap.get?_push_of_some _ (Heap.get?_push_of_some _ (Heap.get?_push_of_some _ q)) : ∀ c o,(zg2 b b s.heap l1 l2).get? c = some o→(zg5 b b s.heap l1 l2).get? c = some o) _ _ (Heap.get?_push_size _ rfl)
 have v3 : (zg5 b b s.heap l1 l2).get? (zg2 b b s.heap l1 l2).objs.size = some _:=(fun c o q=>Heap.get?_push_of_some _ (Heap.get?_push_of_some _ q) : ∀ c o,(zg3 b b s.heap l1 l2).get? c = some o→(zg5 b b s.heap l1 l2).get? c = some o) _ _ (Heap.get?_push_size _ rfl)
 have v4 : (zg5 b b s.heap l1 l2).get? (zg3 b b s.heap l1 l2).objs.size = some _:=Heap.get?_push_of_some _ (Heap.get?_push_size _ rfl)
 have v5 : (zg5 b b s.heap l1 l2).get? (zg4 b b s.heap l1 l2).objs.size = some _:=Heap.get?_push_size _ rfl
 show _∧_
 rw [s2,s3,s4] at v5
 rw [s1,s2] at v3
 rw [s3] at v4
 rw [s1] at v2
 rw [s4]
 exact ⟨⟨_,v5,rfl⟩,h _ v5 v3 v4 (zp1 v1) (zp1 v2) fun c o x=>Heap.get?_push_of_some _ (Heap.get?_push_of_some _ (Heap.get?_push_of_some _ (Heap.get?_push_of_some _ (Heap.get?_push_of_some _ x))))⟩
end
def SqB (K : PySem.W.Frag) (b : Bool) (H : Hp) (l : Addr) (xs : List V) : Prop:=match b with
 | true=>SqL K H l xs
 | false=>SqT K H l xs
theorem SqB.items {X : Cx} {pins : List (Addr × Obj)} {σ : L2.St} {H : Hp} {s : Shared} {b : Bool} {l : Addr} {xs : List V} (I : Inv X pins σ H s) (h : SqB X.K b H l xs) : ∃ its : List Value,Vals xs its∧zbM b s.heap l its.toArray:=by
 cases b
 ·obtain ⟨its,r,p,_⟩:=I.tuple (show SqT X.K H l xs from h)
  exact ⟨its,r,p⟩
 ·obtain ⟨its,r,p,_⟩:=I.list (show SqL X.K H l xs from h)
  exact ⟨its,r,p.isList⟩
theorem SqB.inj {X : Cx} {pins : List (Addr × Obj)} {σ : L2.St} {H : Hp} {s : Shared} {b : Bool} {l : Addr} {xs ys : List V} (I : Inv X pins σ H s) (h : SqB X.K b H l xs) (h' : SqB X.K b H l ys) : xs = ys:=by
 cases b
 ·exact I.tuple_inj (show SqT X.K H l xs from h) h'
 ·exact I.list_inj (show SqL X.K H l xs from h) h'
def zmz (K : PySem.W.Frag) (b1 b2 : Bool) (l1 l2 : Addr) : It :=
  ⟨fun i H=>∃ xs ys x y,SqB K b1 H l1 xs∧SqB K b2 H l2 ys∧xs[i]? = some x∧ys[i]? = some y,
   fun i H v H'=>∃ p,v = .ref p∧H p = none∧∀ xs ys x y,SqB K b1 H l1 xs→SqB K b2 H l2 ys→xs[i]? = some x→ys[i]? = some y→H' = upd H p (.tup [x,y]),
   fun i H=>∃ xs ys,SqB K b1 H l1 xs∧SqB K b2 H l2 ys∧(xs.length ≤ i∨ys.length ≤ i)⟩
theorem zok {P : Program} {w : World} {K : PySem.W.Frag} {es : List Expr} {kk : Nat} {pos : Pos} {b1 b2 : Bool} {z TI TO i1 i2 l1 l2 : Addr} (D : ZipApart z TI TO i1 i2 l1 l2) :
  Turn P w K (.Tuple es kk pos) (zmz K b1 b2 l1 l2) [z,TI,TO,i1,i2] z (fun i h=>IsZip h z TI TO .none∧IsPair h TI (.ref i1) (.ref i2)∧(∃ a b,IsPair h TO a b)∧zbd b1 h i1 l1 i∧zbd b2 h i2 l2 i) where
 mem:=by simp
 obj:=fun i h st b hb=>by
  obtain ⟨hz,hTI,⟨a,c,hTO⟩,q1,q2⟩:=st
  obtain ⟨o1,g1,_,_,d1⟩:=q1.obj
  obtain ⟨o2,g2,_,_,d2⟩:=q2.obj
  simp only [List.mem_cons,List.not_mem_nil,or_false] at hb
  rcases hb with rfl | rfl | rfl | rfl | rfl
  ·exact ⟨_,hz,fun v q=>by cases (show Data.fields _ = Data.cell v from q)⟩
  ·exact ⟨_,hTI,fun v q=>by cases (show Data.seq _ _ = Data.cell v from q)⟩
  ·exact ⟨_,hTO,fun v q=>by cases (show Data.seq _ _ = Data.cell v from q)⟩
  ·exact ⟨_,g1,fun v q=>by rw [d1] at q; cases q⟩
  ·exact ⟨_,g2,fun v q=>by rw [d2] at q; cases q⟩
 keep:=fun i h h' st k=>by
  obtain ⟨hz,hTI,⟨a,c,hTO⟩,q1,q2⟩:=st
  exact ⟨k z (by simp) _ hz,k TI (by simp) _ hTI,⟨a,c,k TO (by simp) _ hTO⟩,q1.at fun o e=>k i1 (by simp) o e,q2.at fun o e=>k i2 (by simp) o e⟩
 item:=by
  intro X hP hw hK hc i pins s σ H E I hf st hg
  subst hP hw hK
  obtain ⟨hz,hTI,⟨a,c,hTO⟩,q1,q2⟩:=st
  obtain ⟨xs,ys,x,y,hx1,hy1,hx,hy⟩:=hg
  obtain ⟨its,rx,px⟩:=hx1.items I
  obtain ⟨jts,ry,py⟩:=hy1.items I
  obtain ⟨u,hu,ru⟩:=Vals.get rx hx
  obtain ⟨v,hv,rv⟩:=Vals.get ry hy
  refine zmy D hz hTI hTO q1 q2 px py (by simpa using hu) (by simpa using hv) fun h' a1 a2 a3 a4 a5 hk=>?_
  refine ⟨_,rfl,wpAny_letOwnedTupleGo_zip a1 fun h'' hz'' hs''=>?_⟩
  have lt : ∀ {c o},s.heap.get? c = some o→s.heap.objs.size ≠ c:=fun e=>Nat.ne_of_gt (Heap.lt_size e)
  have k2 : ∀ b u,b ∉ [z,TI,TO,i1,i2]→s.heap.get? b = some u→h''.get? b = some u:=fun b u hb e=>by
   simp only [List.mem_cons,List.not_mem_nil,or_false,not_or] at hb
   exact hs''.extBut b u hb.1 (hk b u hb.1 hb.2.2.1 hb.2.2.2.1 hb.2.2.2.2 e)
  have new : h''.get? s.heap.objs.size = some { cls:=.type "tuple",data:=.seq #[u,v] }:=hs''.extBut _ _ (lt hz) a5
  refine ⟨.ref s.heap.objs.size,upd H s.heap.objs.size (.tup [x,y]),I.turnNew (t':=s.toks) hf k2 (Nat.le_refl _) ⟨by show 2 ≤ sizeLine; decide,[u,v],.cons ru (.cons rv .nil),_,new,rfl,_,rfl⟩,rfl,⟨_,rfl,I.fresh,?_⟩,?_,fun b hb=>?_⟩
  ·intro xs' ys' x' y' hx1' hy1' hx' hy'
   cases hx1.inj I hx1'
   cases hy1.inj I hy1'
   rw [hx] at hx'; rw [hy] at hy'
   cases hx'; cases hy'
   rfl
  ·exact ⟨hz'',hs''.extBut _ _ D.TIz (hk _ _ D.TIz D.TITO D.TIi1 D.TIi2 hTI),⟨_,_,hs''.extBut _ _ D.TOz a2⟩,a3.grow hs''.extBut D.i1z,a4.grow hs''.extBut D.i2z⟩
  ·have : ∃ o,s.heap.get? b = some o:=by
    simp only [List.mem_cons,List.not_mem_nil,or_false] at hb
    obtain ⟨o1,e1,_⟩:=q1.obj
    obtain ⟨o2,e2,_⟩:=q2.obj
    rcases hb with rfl | rfl | rfl | rfl | rfl
    ·exact ⟨_,hz⟩
    ·exact ⟨_,hTI⟩
    ·exact ⟨_,hTO⟩
    ·exact ⟨_,e1⟩
    ·exact ⟨_,e2⟩
   obtain ⟨o,e⟩:=this
   rw [zad (lt e).symm]
   exact (hf b hb).1
 done:=by
  intro X hP hw hK hc i pins s σ H E I hf st hg
  subst hP hw hK
  obtain ⟨hz,hTI,⟨a,c,hTO⟩,q1,q2⟩:=st
  obtain ⟨xs,ys,hx1,hy1,hl⟩:=hg
  obtain ⟨its,rx,px⟩:=hx1.items I
  obtain ⟨jts,ry,py⟩:=hy1.items I
  have n1:=rx.length
  have n2:=ry.length
  refine zm3 (I.ok.hd hc) D hz hTI hTO q1 q2 px py ?_ fun h' hk=>⟨rfl,I.turnedL (t':=s.toks) hf fun b u hb e=>?_⟩
  ·rcases hl with hl | hl
   ·exact .inl (by rw [List.getElem?_toArray]; exact List.getElem?_eq_none (by omega))
   ·exact .inr (by rw [List.getElem?_toArray]; exact List.getElem?_eq_none (by omega))
  ·simp only [List.mem_cons,List.not_mem_nil,or_false,not_or] at hb
   exact hk b u hb.1 hb.2.2.1 hb.2.2.2.1 hb.2.2.2.2 e
 self:=fun _ _ _ _ _ st h=>wpAny_pyIter_zip st.1 h
section
variable {X : Cx}
def zuQ (K : PySem.W.Frag) (ta : TA) : TI:=fun σ H R=>ta σ H fun vs H1=>∃ b l1 l2,vs = [.ref l1,.ref l2]∧(∃ xs,SqB K b H1 l1 xs)∧(∃ ys,SqB K b H1 l2 ys)∧R (zmz K b b l1 l2) H1
theorem zqY {es : List Expr} {kk : Nat} {tpos : Pos} {a b : Expr} {ta : TA} {p pos : Pos} (hg : Gl X "zip") (hm : X.mg "zip" = none) (ha : PA X [a, b] ta) (hs : starEach [a, b] X.env = [(false, eval a X.env), (false, eval b X.env)] := by rfl) (hs2 : starEach [b] X.env = [(false, eval b X.env)] := by rfl) :
    PI X (.Tuple es kk tpos) (.Call (.Name "zip" p) [a,b] [] pos) (zuQ X.K ta):=by
  intro pins s σ H R I h
  refine Call_ (zdF I hg hm boot_zip (PyProof.Rows.callWith_type1 (thn (ha pos pins s σ H _ I h) fun us s1 ⟨vs,H1,I1,r1,q1⟩=>?_) (by rw [hs,hs2]) (by rw [hs2]; rfl)))
  obtain ⟨b',l1,l2,e,⟨xs,hx⟩,⟨ys,hy⟩,q⟩:=q1
  subst e
  obtain ⟨u,v,rfl,ru,rv⟩:=vals2 r1
  cases ru
  cases rv
  obtain ⟨its,rx,px⟩:=hx.items I1
  obtain ⟨jts,ry,py⟩:=hy.items I1
  refine ztL px py fun h' hz hTI hTO h1 h2 hk=>?_
  have I2 : Inv X pins σ H1 { s1 with heap:=h' }:=I1.kept (t':=s1.toks) hk
  refine wpAny_pyIter_zip (s:={ s1 with heap:=h' }) hz ⟨_,_,_,_,H1,rfl,I2,zok (PyProof.Rows.zipApart_new px.lt py.lt),⟨hz,hTI,⟨_,_,hTO⟩,h1,h2⟩,fun b hb=>?_,q⟩
  have hb' : s1.heap.objs.size ≤ b:=by
    simp only [List.mem_cons,List.not_mem_nil,or_false] at hb
    rcases hb with rfl | rfl | rfl | rfl | rfl <;> first | exact Nat.le_add_right _ _ | exact Nat.le_refl _
  exact I1.fpOk hb' (I1.hok.fresh hb')
end
end My
namespace My
open PySem PySem.Spec PyProof.Rows L2
section
open AutoSeq1 (wpAny_loadPart')
theorem zvg (l : Addr) (items : Array Value) (n : Nat) (b : Addr) (items2 : Array Value) (n2 : Nat) (dct : Option Addr) (sl : Array (Option Value)) (hs0 : ¬(!items.isEmpty && Builtin.List.listTooLong (items.size + items2.size)) = true) (hs1 : items.size ≤ sizeLine) (hs2 : items.size + items2.size ≤ sizeLine + 1) :
  Meets (Builtin.«list.extend» ⟨[.ref l,.ref b],[]⟩) (fun _ R s=>s.heap.get? l = some { cls:=.type "list",dict:=none,data:=.seq items n,slots:=#[] }∧s.heap.get? b = some { cls:=.type "tuple",dict:=dct,data:=.seq items2 n2,slots:=sl }∧R (.ok (.ret Value.none)) { s with heap:=s.heap.update l (Obj.mapSeq fun x=>x ++ items2),toks:=s.toks }) :=
 .of_wp fun prog w A R s h=>by
  obtain ⟨hp,g,d,tk,os⟩:=s
  obtain ⟨hl,hb,h⟩:=h
  have f1:=AutoSeq1.idx_int
  have f2:=AutoSeq1.sub_tuple_tuple
  have f3:=AutoSeq1.sub_list_list
  have f4:=AutoSeq1.sub_tuple_list
  have f5:=AutoSeq1.sub_list_tuple
  have hz' : (items ++ items2).size ≤ sizeLine + 1:=by rw [Array.size_append]; exact hs2
  wp_walk using (wpAny_updateSeq hl rfl (hz:=hs1) (_hz':=hz')),wpAny_loadPart' hl,wpAny_loadPart' hb
  exact ⟨_,rfl,h⟩
end
section
variable {X : Cx}
def zpw (K : PySem.W.Frag) : V→List V→Hp→VK→Prop:=fun x vs H Q=>zlt x vs H Q∨∃ l b xs zs,x = .ref l∧vs = [.ref b]∧H l = some (.lst xs)∧SqT K H b zs∧xs.length + zs.length ≤ sizeLine∧Q .non (upd H l (.lst (xs ++ zs)))
theorem zmI : MtM X "list.extend" (zpw X.K):=by
 intro pins s σ H x vs v us Q I rx rv h
 rcases h with h | ⟨l,b,xs,zs,rfl,rfl,hH,hB,hz,q⟩
 ·exact znM pins s σ H x vs v us Q I rx rv h
 cases rx
 obtain ⟨u,rfl,ru⟩:=rv.one
 cases ru
 obtain ⟨z,its,n,r,hl,e⟩:=I.lstM hH
 obtain ⟨its2,r2,⟨⟨c,dct,dt,sl⟩,e2,hc,n2,hd⟩,z2⟩:=I.tuple hB
 replace hc : c = .type "tuple":=hc
 replace hd : dt = .seq its2.toArray n2:=hd
 subst hc hd
 have hl2:=r2.length
 have hsz : its.toArray.size + its2.toArray.size ≤ sizeLine:=by rw [List.size_toArray,List.size_toArray]; omega
 have hlong : ¬ (!its.toArray.isEmpty && Builtin.List.listTooLong (its.toArray.size + its2.toArray.size)) = true:=by
  rw [zks hsz,Bool.and_false]
  exact Bool.false_ne_true
 refine call_meets F.slot_list_extend ⟨_,e,rfl⟩ F.entry_list_extend (F.args_list_extend_2 _ _)
  (zvg l its.toArray n b its2.toArray n2 dct sl hlong (by rw [List.size_toArray]; omega) (by omega)) ⟨e,e2,?_⟩
 refine ⟨.non,_,I.lset (its':=its ++ its2) hH e (by simp) (r.append r2) ?_,rfl,q⟩
 rw [List.length_append]
 omega
end
end My
namespace My
open PySem PySem.Spec PyProof.Rows L2
section
variable {prog : Program} {w : World} {A : Around} {E : Value→Shared→Prop} {s : Shared}
end
section
variable {X : Cx}
end
end My
namespace My
open PySem PySem.Spec PyProof.Rows L2
section
variable {X : Cx}
end
section
variable {X : Cx}
end
end My
namespace My
open PySem PySem.Spec PyProof.Rows L2
section
variable {prog : Program} {w : World} {A : Around} {E : Value→Shared→Prop} {s : Shared}
end
end My
namespace My
open PySem PySem.Spec PyProof.Rows L2
section
variable {prog : Program} {w : World} {A : Around} {E : Value→Shared→Prop} {s : Shared}
end
end My
namespace My
open PySem PySem.Spec PyProof.Rows L2
section
variable {prog : Program} {w : World} {A : Around} {E : Value→Shared→Prop} {s : Shared}
end
end My
namespace My
open PySem PySem.Spec PyProof.Rows L2
section
variable {prog : Program} {w : World} {A : Around} {s : Shared}
abbrev zfM (prog : Program) (w : World) (h : Heap) (a : Addr) (c : List Str) : Prop:=h.SetOf (PySem.strKind prog w) a (fun y=>c.any (· == y)) c.length
theorem zfM.at {h h' : Heap} {a : Addr} {c : List Str} (x : zfM prog w h a c) (k : ∀ o,h.get? a = some o→h'.get? a = some o) : zfM prog w h' a c :=
 let ⟨o,es,ep,t,ho,r⟩:=x; ⟨o,es,ep,t,k o ho,r⟩
theorem loopS {R : Result→Shared→Prop} {it a : Addr} {fp wr : List Addr} {G : Array GenState→Array GenState→Prop} {n : Nat} {P : Nat→Value→Prop} {St : Nat→Shared→Prop}
  (W : WalksS prog w A.in1 it fp wr G n P St) (na : a ∉ fp) (f : Nat→Str) (hf : ∀ i v,P i v→∃ t,v = .str (f i) t) (hb : n + 1 < scanBound) :
  ∀ (k i : Nat) (s : Shared),n - i = k→i ≤ n→St i s→zfM prog w s.heap a (Dp.zcf f i) →
   (∀ s',Moved (a :: wr) G s s'→zfM prog w s'.heap a (Dp.zcf f n)→R (.ok (.ret .none)) s') →
   codeAny (model prog w) A (.builtin "set.update.loop" ⟨[.ref a,.ref it],[]⟩) R s
 | 0,i,s,hk,hi,st,hS,hR=>by
  have e : i = n:=by omega
  subst e
  refine codeAny_builtin PyProof.Rows.F.entry_set_update_loop ?_
  rw [Around.under_plainId PyProof.Rows.F.plain_set_update_loop]
  show wpAny _ A.in1 (pyNext (.ref it) >>= _) _ _ _
  refine wpAny_bind (W.done s _ _ st fun s' m=>wpAny_pure (hR s' (m.mono fun b q=>List.mem_cons_of_mem _ q) ?_))
  exact hS.at fun o q=>m.heap a o (fun z=>na (W.sub _ z)) q
 | k + 1,i,s,hk,hi,st,hS,hR=>by
  refine codeAny_builtin PyProof.Rows.F.entry_set_update_loop ?_
  rw [Around.under_plainId PyProof.Rows.F.plain_set_update_loop]
  show wpAny _ A.in1 (pyNext (.ref it) >>= _) _ _ _
  refine wpAny_bind (W.item i s _ _ (by omega) st fun v s1 pv st1 m=>?_)
  obtain ⟨t,rfl⟩:=hf i v pv
  have h1 : zfM prog w s1.heap a (Dp.zcf f i):=hS.at fun o q=>m.heap a o (fun z=>na (W.sub _ z)) q
  show wpAny _ A.in1 (holding [Value.str (f i) t] (setAdd a (Value.str (f i) t)) >>= _) _ _ _
  refine wpAny_bind (wpAny_holding ?_)
  unfold setAdd
  refine wpAny_holding (wpAny_bind ((PySem.strKind prog w).pyHash (k:=f i) (strKind_is _ _ _ _) ?_))
  have room : (Dp.zcf f i).length + 1 < scanBound:=by have:=Dp.ziI f i; omega
  refine wpAny_setAddHashed_of (knd:=PySem.strKind prog w) (s:={ s1 with toks:=s1.toks + 1 }) (strKind_is _ _ _ _) rfl h1 room fun h2 sb hS2=>?_
  have h3 : zfM prog w h2 a (Dp.zcf f (i + 1)):=SetOf_congr hS2 (fun y=>(Dp.zkb _ _ _).symm) (Dp.zhN _ _).symm
  refine wpAny_pure ⟨plainId_quiet PyProof.Rows.F.plain_set_update_loop _,loopS W na f hf hb k (i + 1) _ (by omega) (by omega) (W.frame _ s1 _ _ st1 (Nat.le_succ _) fun b q o e=>?_) h3 fun s' m' hS'=>?_⟩
  ·exact (sb.2 b fun z=>na (z ▸ q)).trans e
  ·refine hR s' (Moved.trans W.gtrans ((m.mono fun b q=>List.mem_cons_of_mem _ q).then_heap (Nat.le_succ _) fun b o q e=>?_) m') hS'
   exact (sb.2 b fun z=>q (z ▸ List.mem_cons_self)).trans e
end
section
variable {prog : Program} {w : World} {A : Around} {E : Value→Shared→Prop} {s : Shared}
abbrev zgo (led : Bool) : Obj:={ cls:=.type "set",dict:=none,data:=.set #[] 0 (.fresh 0 0 led) }
theorem zoa {l : Addr} {its : Array Value} (f : Nat → Str) {Q : Value → Shared → Prop} (hh : A.handled = none) (hl : s.heap.IsList l its) (hf : ∀ (i : Nat) v, its[i]? = some v → ∃ t, v = .str (f i) t) (hb : its.size + 1 < scanBound)
    (h : ∀ (h' : Heap) (tk : Nat),zfM prog w h' s.heap.objs.size (Dp.zcf f its.size)→(∀ b o,b < s.heap.objs.size→s.heap.get? b = some o→h'.get? b = some o)→Q (.ref s.heap.objs.size) { s with heap:=h',toks:=tk }) :
    wpAny (model prog w) A (call (.type "set") [.ref l]) Q E s:=by
  have ft:=F.called_set
  obtain ⟨c,tl,hmro⟩:=ft.mro
  have hmade:=ft.made
  have hsub:=ft.sub
  have h1:=ft.notType
  have h2:=ft.canCreate
  have hct:=F.typeCall_set_1 (.ref l)
  refine wpAny_call (codeAny_of_tree ?_)
  show wpAny _ _ (callAny (.type "set") _) _ _ s
  refine wpAny_pure ⟨Code.quiet_builtin _ (by decide +kernel),codeAny_builtin F.entry_type_call ?_⟩
  rw [Around.under_plain (weight_type_call_type "set" [Value.ref l] []) rfl]
  repeat (any_goals (first | assumption | wp_step))
  refine codeAny_mono (code_set_new_1 (.ref l) (E:=E) (Q₁:=fun v s1=>∃ led : Bool,v = .ref s.heap.objs.size∧s1 = { s with heap:=s.heap.push (zgo led) }) fun led=>⟨led,rfl,rfl⟩) fun r s1 hr=>?_
  cases r with
  | error e=>exact hr
  | ok fl =>
    cases fl with
    | ret v =>
      obtain ⟨led,rfl,rfl⟩:=hr
      have e0 : (s.heap.push (zgo led)).get? s.heap.objs.size = some (zgo led):=Heap.get?_push_size _ rfl
      have hT : Shared.TypeIs { s with heap:=s.heap.push (zgo led) } (.ref s.heap.objs.size) "set":=⟨_,e0,rfl⟩
      have hli:=ft.init.lookup
      have hbi:=ft.init.bind (.ref s.heap.objs.size)
      repeat (any_goals (first | assumption | wp_step))
      refine codeAny_mono (codeAny_call_builtin (R:=wants (fun r s2=>r = .none∧∃ h' tk,s2 = { s with heap:=h',toks:=tk }∧zfM prog w h' s.heap.objs.size (Dp.zcf f its.size)∧∀ b o,b < s.heap.objs.size→s.heap.get? b = some o→h'.get? b = some o) E) ft.init.plain F.entry_set_init (check_set_init_1 hT ?_)) fun r2 s2 hr2=>?_
      · obtain ⟨ol,hol,hcl,nl,hdl⟩:=hl
        obtain ⟨ocl,odi,oda,osl⟩:=ol
        simp only at hcl hdl
        subst hcl hdl
        have hol2 : (s.heap.push (zgo led)).get? l = some { cls:=.type "list",dict:=odi,data:=.seq its nl,slots:=osl }:=Heap.get?_push_of_some _ hol
        have k1:=F.sub_list_set
        have k2:=F.sub_list_frozenset
        have k3 : (Value.type "list" == Value.type "dict") = false:=by decide
        have hl1 : (s.heap.push (zgo led)).IsList l its:=⟨_,hol2,rfl,nl,rfl⟩
        unfold Builtin.«set.__init__» noKeywords Builtin.Frozenset.updateFrom
        generalize hPI : pyIter = PI
        wp_walk
        subst hPI
        refine wpAny_pyIter_list hl1 (wpAny_bind (wpAny_runValue ?_))
        have ll : l < s.heap.objs.size:=Heap.lt_size hol
        have n1 : l ≠ (s.heap.push (zgo led)).objs.size:=by rw [Heap.size_push]; exact Nat.ne_of_lt (Nat.lt_succ_of_lt ll)
        have n2 : s.heap.objs.size ∉ [(s.heap.push (zgo led)).objs.size,l]:=by
          rw [Heap.size_push]
          intro z
          rcases List.mem_cons.mp z with z | z
          · exact Nat.ne_of_lt (Nat.lt_succ_self _) z
          · exact Nat.ne_of_gt ll (List.mem_singleton.mp z)
        refine loopS ((Walks.list (show _ = none by simp [hh]) _ l n1 its).toS) n2 f hf hb (its.size - 0) 0 _ (by omega) (Nat.zero_le _) ⟨⟨_,Heap.get?_push_size _ rfl,rfl,rfl⟩,hl1.push _⟩ ?_ fun s' m hS'=>?_
        · exact SetOf_congr ((setObjOf_fresh (knd:=PySem.strKind prog w) led).setOf (Heap.get?_push_of_some _ e0) (by unfold scanBound; omega)) (fun _=>rfl) rfl
        · obtain ⟨h',g',d',tk',os'⟩:=s'
          cases (show g' = s.gens from m.gens)
          cases (show d' = s.drawn from m.drawn)
          cases (show os' = s.os from m.os)
          show wpAny _ _ _ _ _ _
          refine wpAny_pure (wpAny_pure ⟨rfl,h',tk',rfl,hS',fun b o q e=>?_⟩)
          refine m.heap b o (fun z=>?_) (Heap.get?_push_of_some _ (Heap.get?_push_of_some _ e))
          rcases List.mem_cons.mp z with z | z
          · exact Nat.ne_of_lt q z
          · have z':=List.mem_singleton.mp z
            rw [Heap.size_push] at z'
            exact Nat.ne_of_lt (Nat.lt_succ_of_lt q) z'
      · cases r2 with
        | error e=>exact hr2
        | ok fl2 =>
          cases fl2 with
          | ret r =>
            obtain ⟨rfl,h',tk,rfl,hS',kp⟩:=hr2
            repeat (any_goals (first | assumption | wp_step))
            exact h _ _ hS' kp
          | _=>exact hr2.elim
    | _=>exact hr.elim
end
def zty (K : PySem.W.Frag) (ta : TA) : TE:=fun σ H Q=>ta σ H fun vs H1=>∃ l,∃ zs : List Str,vs = [.ref l]∧SqL K H1 l (zs.map V.str)∧zs.length ≤ 4000∧Q (.int (Dp.zcf (fun i=>zs.getD i Str.empty) zs.length).length) H1
theorem zkV : ∀ {zs : List Str} {us : List Value},Vals (zs.map V.str) us→∀ (i : Nat) v,us[i]? = some v→∃ t,v = .str (zs.getD i Str.empty) t
 | [],_,.nil,i,v,e=>by simp at e
 | z :: zs,_,.cons r t,0,v,e=>by
  obtain ⟨t,rfl⟩:=r
  simp at e
  exact ⟨t,e.symm⟩
 | z :: zs,_,.cons r t,i + 1,v,e=>by
  obtain ⟨t,h⟩:=zkV t i v (by simpa using e)
  exact ⟨t,by rw [h]; simp⟩
theorem zqJ {X : Cx} {a : Expr} {ta : TA} {p1 p2 pos1 pos2 : Pos} (hc : X.calm = true) (hgl : Gl X "len") (hml : X.mg "len" = none) (hgr : Gl X "set") (hmr : X.mg "set" = none) (ha : PA X [a] ta)
  (hs : starEach [a] X.env = [(false,eval a X.env)]:=by rfl)
  (hs3 : starEach [.Call (.Name "set" p2) [a] [] pos2] X.env = [(false,eval (.Call (.Name "set" p2) [a] [] pos2) X.env)]:=by rfl) :
  PE X (.Call (.Name "len" p1) [.Call (.Name "set" p2) [a] [] pos2] [] pos1) (zty X.K ta):=by
 intro pins s σ H Q I h
 refine Call_ (zdF I hgl hml boot_len (PyProof.Rows.callWith_builtin1 ?_ (by rw [hs3]; rfl) (by rfl)))
 rw [hs3]
 show wpAny _ _ (spliced ((false,eval (.Call (.Name "set" p2) [a] [] pos2) X.env) :: backTo pos1 [])) _ _ s
 refine Calls.spliced_cons (Call_ (zdF I hgr hmr boot_set (PyProof.Rows.callWith_type1 (thn (ha pos2 pins s σ H _ I h) fun us s1 ⟨vs,H1,I1,r1,q1⟩=>?_) hs rfl)))
 obtain ⟨l,zs,e,hx,h4,q⟩:=q1
 subst e
 obtain ⟨u,rfl,ru⟩:=vals1 r1
 cases ru
 obtain ⟨its,rx,px,zx⟩:=I1.list hx
 have sz : its.toArray.size = zs.length:=by rw [List.size_toArray,← rx.length,List.length_map]
 refine zoa (fun i=>zs.getD i Str.empty) (show _ = none from I1.ok.hd hc) px.isList (fun i v e=>zkV rx i v (by simpa using e)) (by rw [sz]; unfold scanBound; omega) fun h' tk hS kp=>Calls.spliced_nil ?_
 rw [sz] at hS
 have le:=Dp.ziI (fun i=>zs.getD i Str.empty) zs.length
 obtain ⟨o,es,ep,t,ho,hex,hd,_,_,_,hf,hn⟩:=hS
 refine call_len_set ho hex hd hf (by omega) ?_
 rw [hn]
 exact ⟨.int _,H1,I1.kept (t':=tk + 1 + 1) (fun b o q=>kp b o (Heap.lt_size q) q),⟨_,rfl⟩,q⟩
end My
namespace Dp
open PySem PySem.Spec PyProof.Rows L2 My
def isStar : Expr→Bool
 | .Starred _ _=>true
 | _=>false
theorem zbj {e : Expr} {es : List Expr} {env : Env} (h : isStar e = false) : starEach (e :: es) env = (false,eval e env) :: starEach es env:=by
  cases e <;> first | rfl | cases h
theorem zc3 {pos : Pos} {env : Env} : ∀ {es : List Expr},es.all (fun e=>!isStar e) = true→(backTo pos (starEach es env)).any (·.1) = false
 | [],_=>rfl
 | e :: es,h=>by
  rw [List.all_cons,Bool.and_eq_true] at h
  rw [zbj (by simpa using h.1)]
  show (false || (backTo pos (starEach es env)).any (·.1)) = false
  rw [zc3 h.2]; rfl
theorem zdH {e : Expr} {env : Env} (h : isStar e = false) : starEach [e] env = [(false,eval e env)]:=zbj h
theorem zkQ {e g : Expr} {env : Env} (h : isStar e = false) (k : isStar g = false) : starEach [e,g] env = [(false,eval e env),(false,eval g env)]:=by rw [zbj h,zdH k]
def zhB (K : PySem.W.Frag) (H : Hp) (a : Addr) (xs : List V) : Prop :=
 (∃ o,H a = some (.frz o (.lst xs)))∨∃ (o : Obj) (its : Array Value) (n : Nat),K.lookup a = some o∧o.cls = .type "list"∧o.dict = none∧o.data = .seq its n∧its.size ≤ sizeLine∧Vals xs its.toList
theorem zhB.sq {K : PySem.W.Frag} {H : Hp} {a : Addr} {xs : List V} (h : zhB K H a xs) : SqL K H a xs:=h.imp (fun h=>.inr h) id
mutual
inductive Rel (K : PySem.W.Frag) (ad : List Addr) (H : Hp) : D→V→Prop
 | non : Rel K ad H .non .non
 | bl (b : Bool) : Rel K ad H (.bl b) (.bl b)
 | int (i : Int) : Rel K ad H (.int i) (.int i)
 | str (x : Str) : Rel K ad H (.str x) (.str x)
 | ty (n : String) : Rel K ad H (.ty n) (.ty n)
 | tup {a : Addr} {vs : List V} {ds : List D} : H a = some (.tup vs)→zK K ad H ds vs→Rel K ad H (.tup ds) (.ref a)
 | rl {a : Addr} {vs : List V} {ds : List D} : zhB K H a vs→zK K ad H ds vs→Rel K ad H (.rl ds) (.ref a)
 | ref {n : Nat} {a : Addr} : ad[n]? = some a→Rel K ad H (.ref n) (.ref a)
 | exn {c : Str} {a C : Addr} {o : Obj} {u : HO} : H a = some (.frz o u)→o.cls = .ref C→PySem.W.nsIn K mainGlobals c = some (some (.ref C))→Rel K ad H (.exn c) (.ref a)
inductive zK (K : PySem.W.Frag) (ad : List Addr) (H : Hp) : List D→List V→Prop
 | nil : zK K ad H [] []
 | cons {d : D} {v : V} {ds : List D} {vs : List V} : Rel K ad H d v→zK K ad H ds vs→zK K ad H (d :: ds) (v :: vs)
end
structure Wd (ad : List Addr) (H : Hp) (ad' : List Addr) (H' : Hp) : Prop where
 pre : ad <+: ad'
 keep : ∀ b o,b ∉ ad→H b = some o→H' b = some o
 tup : ∀ b xs,H b = some (.tup xs)→H' b = some (.tup xs)
 frz : ∀ b o u,H b = some (.frz o u)→H' b = some (.frz o u)
 new : ∀ b,b ∈ ad'→b ∉ ad→H b = none
theorem Wd.refl {ad : List Addr} {H : Hp} : Wd ad H ad H:=⟨List.prefix_refl _,fun _ _ _ h=>h,fun _ _ h=>h,fun _ _ _ h=>h,fun _ h n=>absurd h n⟩
theorem Wd.trans {ad ad1 ad2 : List Addr} {H H1 H2 : Hp} (a : Wd ad H ad1 H1) (b : Wd ad1 H1 ad2 H2) : Wd ad H ad2 H2 where
 pre:=a.pre.trans b.pre
 keep:=fun c o hc h=>b.keep c o (fun h1=>by rw [a.new c h1 hc] at h; cases h) (a.keep c o hc h)
 tup:=fun c xs h=>b.tup c xs (a.tup c xs h)
 frz:=fun c o u h=>b.frz c o u (a.frz c o u h)
 new:=fun c h2 hc=>by
  by_cases h1 : c ∈ ad1
  ·exact a.new c h1 hc
  ·have n1:=b.new c h2 h1
   cases e : H c with
   | none=>rfl
   | some o=>rw [a.keep c o hc e] at n1; cases n1
theorem ziE {α : Type} {l l' : List α} (h : l <+: l') {n : Nat} {a : α} (e : l[n]? = some a) : l'[n]? = some a:=by
 obtain ⟨t,rfl⟩:=h
 rw [List.getElem?_append_left (My.za7 e)]; exact e
structure Wr (ad : List Addr) (H : Hp) (ad' : List Addr) (H' : Hp) : Prop where
 pre : ad <+: ad'
 tup : ∀ b xs,H b = some (.tup xs)→H' b = some (.tup xs)
 frz : ∀ b o u,H b = some (.frz o u)→H' b = some (.frz o u)
theorem Wd.wr {ad ad' : List Addr} {H H' : Hp} (w : Wd ad H ad' H') : Wr ad H ad' H':=⟨w.pre,w.tup,w.frz⟩
theorem zhB.wr {K : PySem.W.Frag} {ad ad' : List Addr} {H H' : Hp} {a : Addr} {xs : List V} (w : Wr ad H ad' H') (h : zhB K H a xs) : zhB K H' a xs:=h.imp (fun ⟨o,e⟩=>⟨o,w.frz _ _ _ e⟩) id
mutual
theorem Rel.wr {K : PySem.W.Frag} {ad ad' : List Addr} {H H' : Hp} (w : Wr ad H ad' H') : ∀ {d : D} {v : V},Rel K ad H d v→Rel K ad' H' d v
 | _,_,.non=>.non
 | _,_,.bl b=>.bl b
 | _,_,.int i=>.int i
 | _,_,.str x=>.str x
 | _,_,.ty n=>.ty n
 | _,_,.tup h r=>.tup (w.tup _ _ h) (zK.wr w r)
 | _,_,.rl h r=>.rl (h.wr w) (zK.wr w r)
 | _,_,.ref h=>.ref (ziE w.pre h)
 | _,_,.exn h e n=>.exn (w.frz _ _ _ h) e n
theorem zK.wr {K : PySem.W.Frag} {ad ad' : List Addr} {H H' : Hp} (w : Wr ad H ad' H') : ∀ {ds : List D} {vs : List V},zK K ad H ds vs→zK K ad' H' ds vs
 | _,_,.nil=>.nil
 | _,_,.cons r t=>.cons (Rel.wr w r) (zK.wr w t)
end
theorem Rel.wd {K : PySem.W.Frag} {ad ad' : List Addr} {H H' : Hp} {d : D} {v : V} (r : Rel K ad H d v) (w : Wd ad H ad' H') : Rel K ad' H' d v:=Rel.wr w.wr r
theorem zK.wd {K : PySem.W.Frag} {ad ad' : List Addr} {H H' : Hp} {ds : List D} {vs : List V} (r : zK K ad H ds vs) (w : Wd ad H ad' H') : zK K ad' H' ds vs:=zK.wr w.wr r
section
variable {K : PySem.W.Frag} {ad : List Addr} {H : Hp}
theorem zK.length : ∀ {ds : List D} {vs : List V},zK K ad H ds vs→ds.length = vs.length
  | _,_,.nil=>rfl
  | _,_,.cons _ t=>congrArg (· + 1) (zK.length t)
theorem zK.get : ∀ {ds : List D} {vs : List V} {i : Nat} {d : D},zK K ad H ds vs→ds[i]? = some d→∃ v,vs[i]? = some v∧Rel K ad H d v
 | _,_,_,_,.nil,e=>by simp at e
 | _,_,0,_,.cons r _,e=>by simp at e; subst e; exact ⟨_,rfl,r⟩
 | _,_,i + 1,d,.cons _ t,e=>by
  obtain ⟨v,h1,h2⟩:=zK.get (i:=i) (d:=d) t (by simpa using e)
  exact ⟨v,by simpa using h1,h2⟩
theorem zK.append : ∀ {ds es : List D} {vs us : List V},zK K ad H ds vs→zK K ad H es us→zK K ad H (ds ++ es) (vs ++ us)
 | _,_,_,_,.nil,s=>s
 | _,_,_,_,.cons r t,s=>.cons r (zK.append t s)
theorem zK.take : ∀ {ds : List D} {vs : List V} (n : Nat),zK K ad H ds vs→zK K ad H (ds.take n) (vs.take n)
 | _,_,0,_=>.nil
 | _,_,_ + 1,.nil=>.nil
 | _,_,n + 1,.cons r t=>.cons r (zK.take n t)
theorem zK.drop : ∀ {ds : List D} {vs : List V} (n : Nat),zK K ad H ds vs→zK K ad H (ds.drop n) (vs.drop n)
 | _,_,0,r=>r
 | _,_,_ + 1,.nil=>.nil
 | _,_,n + 1,.cons _ t=>zK.drop n t
theorem zK.set {d : D} {v : V} (r : Rel K ad H d v) : ∀ {ds : List D} {vs : List V} (i : Nat),zK K ad H ds vs→zK K ad H (ds.set i d) (vs.set i v)
 | _,_,_,.nil=>.nil
 | _,_,0,.cons _ t=>.cons r t
 | _,_,i + 1,.cons q t=>.cons q (zK.set r i t)
theorem zK.ints : ∀ {ns : List Int} {vs : List V},zK K ad H (ns.map D.int) vs→vs = ns.map V.int
 | [],_,.nil=>rfl
 | n :: ns,_,.cons r t=>by cases r; rw [zK.ints t]; rfl
theorem zK.bls : ∀ {ns : List Bool} {vs : List V},zK K ad H (ns.map D.bl) vs→vs = ns.map V.bl
 | [],_,.nil=>rfl
 | n :: ns,_,.cons r t=>by cases r; rw [zK.bls t]; rfl
theorem zK.mk_ints : ∀ (ns : List Int),zK K ad H (ns.map D.int) (ns.map V.int)
 | []=>.nil
 | n :: ns=>.cons (.int n) (zK.mk_ints ns)
end
inductive zaH (K : PySem.W.Frag) (ad : List Addr) (H : Hp) : List (Str × D)→List (Str × V)→Prop
 | nil : zaH K ad H [] []
 | cons {f : Str} {d : D} {v : V} {fs : List (Str × D)} {vs : List (Str × V)} : Rel K ad H d v→zaH K ad H fs vs→zaH K ad H ((f,d) :: fs) ((f,v) :: vs)
theorem zaH.wr {K : PySem.W.Frag} {ad ad' : List Addr} {H H' : Hp} (w : Wr ad H ad' H') : ∀ {fs : List (Str × D)} {vs : List (Str × V)},zaH K ad H fs vs→zaH K ad' H' fs vs
 | _,_,.nil=>.nil
 | _,_,.cons r t=>.cons (Rel.wr w r) (zaH.wr w t)
theorem zaH.look {K : PySem.W.Frag} {ad : List Addr} {H : Hp} {f : Str} : ∀ {fs : List (Str × D)} {vs : List (Str × V)} {d : D},zaH K ad H fs vs→fs.lookup f = some d→∃ v,vs.lookup f = some v∧Rel K ad H d v
 | _,_,d,.nil,e=>by simp at e
 | _,_,d,@zaH.cons _ _ _ g x v fs vs r t,e=>by
  rw [List.lookup_cons] at e ⊢
  cases h : f == g with
  | true=>rw [h] at e; cases e; exact ⟨v,rfl,r⟩
  | false=>rw [h] at e; exact zaH.look t e
theorem zaH.put {K : PySem.W.Frag} {ad : List Addr} {H : Hp} {f : Str} {d : D} {v : V} (rd : Rel K ad H d v) : ∀ {fs : List (Str × D)} {vs : List (Str × V)},zaH K ad H fs vs→zaH K ad H (putD f d fs) (zbB f v vs)
 | _,_,.nil=>.cons rd .nil
 | _,_,@zaH.cons _ _ _ g x u fs vs r t=>by
  show zaH K ad H (if g = f then (g,d) :: fs else (g,x) :: putD f d fs) (if g = f then (g,v) :: vs else (g,u) :: zbB f v vs)
  by_cases h : g = f
  ·rw [if_pos h,if_pos h]; exact .cons rd t
  ·rw [if_neg h,if_neg h]; exact .cons r (zaH.put rd t)
theorem zaH.length {K : PySem.W.Frag} {ad : List Addr} {H : Hp} : ∀ {fs : List (Str × D)} {vs : List (Str × V)},zaH K ad H fs vs→fs.length = vs.length
  | _,_,.nil=>rfl
  | _,_,.cons _ t=>congrArg (· + 1) (zaH.length t)
theorem zj2 {f : Str} {d : D} {q : Str × D} : ∀ {fs : List (Str × D)},q ∈ putD f d fs→q.1 = f∨q ∈ fs
 | [],h=>by
  have : q = (f,d):=by simpa [putD] using h
  subst this; exact .inl rfl
 | (g,x) :: fs,h=>by
  have h : q ∈ if g = f then (g,d) :: fs else (g,x) :: putD f d fs:=h
  by_cases e : g = f
  ·rw [if_pos e] at h
   rcases List.mem_cons.mp h with rfl | h
   ·exact .inl e
   ·exact .inr (List.mem_cons_of_mem _ h)
  ·rw [if_neg e] at h
   rcases List.mem_cons.mp h with rfl | h
   ·exact .inr (by simp)
   ·exact (zj2 h).imp id (List.mem_cons_of_mem _)
theorem zj5 {f : Str} {d : D} : ∀ {fs : List (Str × D)},fs.lookup f = some d→∃ q ∈ fs,q.1 = f
 | [],e=>by simp at e
 | (g,x) :: fs,e=>by
  rw [List.lookup_cons] at e
  cases h : f == g with
  | true=>exact ⟨(g,x),by simp,(eq_of_beq h).symm⟩
  | false =>
   rw [h] at e
   obtain ⟨q,hq,e'⟩:=zj5 e
   exact ⟨q,List.mem_cons_of_mem _ hq,e'⟩
def zcM (K : PySem.W.Frag) (ad : List Addr) (H : Hp) (a : Addr) : Cell→Prop
 | .lst ds=>∃ vs,H a = some (.lst vs)∧zK K ad H ds vs
 | .ins c fs=>∃ C dx vs,H a = some (.ins C dx vs)∧Cls K C∧PySem.W.nsIn K mainGlobals c = some (some (.ref C))∧zaH K ad H fs vs∧∀ q ∈ fs,zar K C q.1
class Bs where
 ad : List Addr
 H : Hp
structure zR [B : Bs] (K : PySem.W.Frag) (ad : List Addr) (H : Hp) (S : Sto) : Prop where
 wd : Wd B.ad B.H ad H
 len : ad.length = S.length
 nd : ad.Nodup
 cell : ∀ (n : Nat) (a : Addr) (c : Cell),ad[n]? = some a→S[n]? = some c→zcM K ad H a c
structure zaz (K : PySem.W.Frag) (ad : List Addr) (H : Hp) (ρ : Rho) (σ : L2.St) : Prop where
 len : ρ.length = σ.length
 val : ∀ (i : Nat) (d : D),ρ[i]? = some (some d)→∃ v,σ[i]? = some (some v)∧Rel K ad H d v
theorem zaz.wd {K : PySem.W.Frag} {ad ad' : List Addr} {H H' : Hp} {ρ : Rho} {σ : L2.St} (h : zaz K ad H ρ σ) (w : Wd ad H ad' H') : zaz K ad' H' ρ σ :=
 ⟨h.len,fun i d e=>let ⟨v,e',r⟩:=h.val i d e; ⟨v,e',r.wd w⟩⟩
variable [B : Bs]
section
variable {K : PySem.W.Frag} {ad : List Addr} {H : Hp} {S : Sto}
theorem zR.get (st : zR K ad H S) {n : Nat} {c : Cell} (h : S[n]? = some c) : ∃ a,ad[n]? = some a∧zcM K ad H a c:=by
 have hn : n < ad.length:=by rw [st.len]; exact My.za7 h
 exact ⟨ad[n],List.getElem?_eq_getElem hn,st.cell n _ c (List.getElem?_eq_getElem hn) h⟩
theorem zcM.some {a : Addr} {c : Cell} (h : zcM K ad H a c) : ∃ o,H a = some o:=by
 cases c with
 | lst ds=>obtain ⟨vs,e,_⟩:=h; exact ⟨_,e⟩
 | ins c fs=>obtain ⟨C,dx,vs,e,_⟩:=h; exact ⟨_,e⟩
theorem zR.there (st : zR K ad H S) {a : Addr} (h : a ∈ ad) : ∃ o,H a = some o:=by
 obtain ⟨n,hn,e⟩:=List.mem_iff_getElem.mp h
 have e' : ad[n]? = some a:=by rw [List.getElem?_eq_getElem hn,e]
 have hs : n < S.length:=by rw [← st.len]; exact hn
 exact (st.cell n a S[n] e' (List.getElem?_eq_getElem hs)).some
theorem zR.fresh (st : zR K ad H S) {l : Addr} (h : H l = none) : l ∉ ad:=fun m=>by
 obtain ⟨o,e⟩:=st.there m
 rw [h] at e; cases e
theorem zcM.wr {ad' : List Addr} {H' : Hp} {a : Addr} {c : Cell} (h : zcM K ad H a c) (w : Wr ad H ad' H') (same : H' a = H a) : zcM K ad' H' a c:=by
 cases c with
 | lst ds=>obtain ⟨vs,e,r⟩:=h; exact ⟨vs,same.trans e,zK.wr w r⟩
 | ins c fs=>obtain ⟨C,dx,vs,e,c1,c2,r,n⟩:=h; exact ⟨C,dx,vs,same.trans e,c1,c2,zaH.wr w r,n⟩
theorem zcM.wd {ad' : List Addr} {H' : Hp} {a : Addr} {c : Cell} (h : zcM K ad H a c) (w : Wd ad H ad' H') (same : H' a = H a) : zcM K ad' H' a c:=h.wr w.wr same
theorem Wd.laid {l : Addr} {o : HO} (h : H l = none) : Wd ad H ad (upd H l o) :=
 ⟨List.prefix_refl _,fun b u _ e=>zed h e,fun b u e=>zed h e,fun b u w e=>zed h e,fun _ m n=>absurd m n⟩
theorem zR.bfree (st : zR K ad H S) {p : Addr} (h : H p = none) : B.H p = none:=by
 cases e : B.H p with
 | none=>rfl
 | some o =>
  by_cases m : p ∈ B.ad
  ·obtain ⟨u,hu⟩:=st.there (st.wd.pre.subset m)
   rw [h] at hu; cases hu
  ·rw [st.wd.keep p o m e] at h; cases h
theorem zR.laid (st : zR K ad H S) {l : Addr} {o : HO} (h : H l = none) : zR K ad (upd H l o) S :=
 ⟨st.wd.trans (Wd.laid h),st.len,st.nd,fun n a c e1 e2=>(st.cell n a c e1 e2).wd (Wd.laid h) (by
  obtain ⟨u,e⟩:=(st.cell n a c e1 e2).some
  rw [zed h e,e])⟩
theorem Wd.newL (st : zR K ad H S) {l : Addr} {o : HO} (h : H l = none) : Wd ad H (ad ++ [l]) (upd H l o) :=
 ⟨List.prefix_append _ _,fun b u _ e=>zed h e,fun b u e=>zed h e,fun b u w e=>zed h e,fun b m n=>by
  rcases List.mem_append.mp m with m | m
  ·exact absurd m n
  ·have : b = l:=by simpa using m
   subst this; exact h⟩
theorem zR.newL (st : zR K ad H S) {l : Addr} {vs : List V} {ds : List D} (h : H l = none) (r : zK K ad H ds vs) : zR K (ad ++ [l]) (upd H l (.lst vs)) (S ++ [.lst ds]) where
 wd:=st.wd.trans (Wd.newL st h)
 len:=by rw [List.length_append,List.length_append,st.len]; rfl
 nd:=by
  rw [List.nodup_append]
  refine ⟨st.nd,by simp,fun a ha b hb e=>?_⟩
  have : b = l:=by simpa using hb
  subst this; subst e
  exact st.fresh h ha
 cell:=fun n a c e1 e2=>by
  by_cases hn : n < ad.length
  ·rw [List.getElem?_append_left hn] at e1
   rw [List.getElem?_append_left (by rw [← st.len]; exact hn)] at e2
   have ok:=st.cell n a c e1 e2
   obtain ⟨u,e⟩:=ok.some
   exact ok.wd (Wd.newL st h) (by rw [zed h e,e])
  ·have hn' : ad.length ≤ n:=Nat.le_of_not_lt hn
   rw [List.getElem?_append_right hn'] at e1
   rw [List.getElem?_append_right (by rw [← st.len]; exact hn'),← st.len] at e2
   cases hk : n - ad.length with
   | zero =>
    rw [hk] at e1 e2
    have e1' : l = a:=by simpa using e1
    have e2' : Cell.lst ds = c:=by simpa using e2
    subst e1' e2'
    exact ⟨vs,zaJ,r.wd (Wd.newL st h)⟩
   | succ k=>rw [hk] at e1; simp at e1
theorem zR.newRef (st : zR K ad H S) {l : Addr} {o : HO} : Rel K (ad ++ [l]) (upd H l o) (.ref S.length) (.ref l):=.ref (by rw [← st.len,List.getElem?_append_right (Nat.le_refl _),Nat.sub_self]; rfl)
theorem Wd.put {n : Nat} {a : Addr} {vs ws : List V} (e : ad[n]? = some a) (h : H a = some (.lst vs)) : Wd ad H ad (upd H a (.lst ws)) :=
 ⟨List.prefix_refl _,fun b u hb q=>by
   have : b ≠ a:=fun z=>hb (by rw [z]; exact List.mem_of_getElem? e)
   rw [zad this]; exact q,
  fun b xs q=>by rw [zad (zhc q h (by intro z; cases z))]; exact q,fun b o u q=>by rw [zad (zhc q h (by intro z; cases z))]; exact q,fun _ m n=>absurd m n⟩
theorem zR.put (st : zR K ad H S) {n : Nat} {a : Addr} {vs ws : List V} {ds : List D} (e : ad[n]? = some a) (h : H a = some (.lst vs)) (r : zK K ad H ds ws) : zR K ad (upd H a (.lst ws)) (S.set n (.lst ds)) where
 wd:=st.wd.trans (Wd.put e h)
 len:=by rw [List.length_set]; exact st.len
 nd:=st.nd
 cell:=fun m b c e1 e2=>by
  have w:=Wd.put (ws:=ws) e h
  by_cases hm : m = n
  ·subst hm
   rw [e] at e1; cases e1
   rw [List.getElem?_set_self (by rw [← st.len]; exact My.za7 e)] at e2
   cases e2
   exact ⟨ws,zaJ,r.wd w⟩
  ·rw [List.getElem?_set_ne (Ne.symm hm)] at e2
   have ne : b ≠ a:=fun z=>by
    subst z
    have h1:=My.za7 e1
    have h2:=My.za7 e
    have q1:=(List.getElem?_eq_some_iff.mp e1).2
    have q2:=(List.getElem?_eq_some_iff.mp e).2
    exact hm ((List.getElem_inj st.nd).mp (q1.trans q2.symm))
   exact (st.cell m b c e1 e2).wd w (zad ne)
theorem zR.newI (st : zR K ad H S) {x dx C : Addr} {c : Str} (h : H x = none) (h2 : H dx = none) (hne : dx ≠ x) (hc : Cls K C) (hn : PySem.W.nsIn K mainGlobals c = some (some (.ref C))) :
  Wd ad H (ad ++ [x]) (upd (upd H dx (.own x)) x (.ins C dx []))∧zR K (ad ++ [x]) (upd (upd H dx (.own x)) x (.ins C dx [])) (S ++ [.ins c []]):=by
 have st1:=st.laid (o:=.own x) h2
 have hx : upd H dx (.own x) x = none:=by rw [zad (Ne.symm hne)]; exact h
 have w1 : Wd ad H ad (upd H dx (.own x)):=Wd.laid h2
 have w2 : Wd ad (upd H dx (.own x)) (ad ++ [x]) (upd (upd H dx (.own x)) x (.ins C dx [])):=Wd.newL st1 hx
 refine ⟨w1.trans w2,st.wd.trans (w1.trans w2),?_,?_,fun n a c' e1 e2=>?_⟩
 ·rw [List.length_append,List.length_append,st.len]; rfl
 ·rw [List.nodup_append]
  refine ⟨st.nd,by simp,fun a ha b hb e=>?_⟩
  have : b = x:=by simpa using hb
  subst this; subst e
  exact st.fresh h ha
 ·by_cases hn' : n < ad.length
  ·rw [List.getElem?_append_left hn'] at e1
   rw [List.getElem?_append_left (by rw [← st.len]; exact hn')] at e2
   have ok:=st1.cell n a c' e1 e2
   obtain ⟨u,e⟩:=ok.some
   exact ok.wd w2 (by rw [zed hx e,e])
  ·have hn' : ad.length ≤ n:=Nat.le_of_not_lt hn'
   rw [List.getElem?_append_right hn'] at e1
   rw [List.getElem?_append_right (by rw [← st.len]; exact hn'),← st.len] at e2
   cases hk : n - ad.length with
   | zero =>
    rw [hk] at e1 e2
    have e1' : x = a:=by simpa using e1
    have e2' : Cell.ins c [] = c':=by simpa using e2
    subst e1' e2'
    exact ⟨C,dx,[],zaJ,hc,hn,.nil,fun q hq=>by cases hq⟩
   | succ k=>rw [hk] at e1; simp at e1
theorem Wd.putI {n : Nat} {a C dx C' dx' : Addr} {vs ws : List (Str × V)} (e : ad[n]? = some a) (h : H a = some (.ins C dx vs)) : Wd ad H ad (upd H a (.ins C' dx' ws)) :=
 ⟨List.prefix_refl _,fun b u hb q=>by
   have : b ≠ a:=fun z=>hb (by rw [z]; exact List.mem_of_getElem? e)
   rw [zad this]; exact q,
  fun b xs q=>by rw [zad (zhc q h (by intro z; cases z))]; exact q,fun b o u q=>by rw [zad (zhc q h (by intro z; cases z))]; exact q,fun _ m n=>absurd m n⟩
theorem zR.putI (st : zR K ad H S) {n : Nat} {a C dx : Addr} {c f : Str} {vs : List (Str × V)} {fs : List (Str × D)} {d : D} {v : V} (e : ad[n]? = some a) (h : H a = some (.ins C dx vs)) (hc : Cls K C) (hn : PySem.W.nsIn K mainGlobals c = some (some (.ref C))) (rf : zaH K ad H fs vs) (hna : ∀ q ∈ fs,zar K C q.1) (hf : zar K C f) (r : Rel K ad H d v) :
  zR K ad (upd H a (.ins C dx (zbB f v vs))) (S.set n (.ins c (putD f d fs))) where
 wd:=st.wd.trans (Wd.putI e h)
 len:=by rw [List.length_set]; exact st.len
 nd:=st.nd
 cell:=fun m b c' e1 e2=>by
  have w : Wd ad H ad (upd H a (.ins C dx (zbB f v vs))):=Wd.putI e h
  by_cases hm : m = n
  ·subst hm
   rw [e] at e1; cases e1
   rw [List.getElem?_set_self (by rw [← st.len]; exact My.za7 e)] at e2
   cases e2
   refine ⟨C,dx,_,zaJ,hc,hn,zaH.wr w.wr (zaH.put r rf),fun q hq=>?_⟩
   rcases zj2 hq with h1 | h1
   ·rw [h1]; exact hf
   ·exact hna q h1
  ·rw [List.getElem?_set_ne (Ne.symm hm)] at e2
   have ne : b ≠ a:=fun z=>by
    subst z
    have q1:=(List.getElem?_eq_some_iff.mp e1).2
    have q2:=(List.getElem?_eq_some_iff.mp e).2
    exact hm ((List.getElem_inj st.nd).mp (q1.trans q2.symm))
   exact (st.cell m b c' e1 e2).wd w (zad ne)
theorem Wd.hid {ad' : List Addr} {H' : Hp} {p : Addr} {o : HO} (w : Wd ad H ad' H') (hp : H p = none) : Wd ad H ad' (upd H' p o) :=
 ⟨w.pre,fun b u hb q=>by rw [zad (zbf q hp)]; exact w.keep b u hb q,fun b u q=>by rw [zad (zbf q hp)]; exact w.tup b u q,fun b u v q=>by rw [zad (zbf q hp)]; exact w.frz b u v q,w.new⟩
theorem Wr.hid {p : Addr} {vs ws : List V} (h : H p = some (.lst vs)) : Wr ad H ad (upd H p (.lst ws)) :=
 ⟨List.prefix_refl _,fun b xs q=>by rw [zad (zhc q h (by intro z; cases z))]; exact q,fun b o u q=>by rw [zad (zhc q h (by intro z; cases z))]; exact q⟩
theorem zR.hid (st : zR K ad H S) {p : Addr} {vs ws : List V} (h : H p = some (.lst vs)) (hp : p ∉ ad) (hb : B.H p = none) : zR K ad (upd H p (.lst ws)) S :=
 ⟨st.wd.hid hb,st.len,st.nd,fun n a c e1 e2=>(st.cell n a c e1 e2).wr (Wr.hid h) (zad fun z=>hp (by rw [← z]; exact List.mem_of_getElem? e1))⟩
theorem Wd.add {ad' : List Addr} {H' : Hp} {p : Addr} (w : Wd ad H ad' H') (hp : H p = none) : Wd ad H (ad' ++ [p]) H' :=
 ⟨w.pre.trans (List.prefix_append _ _),w.keep,w.tup,w.frz,fun b m n=>by
  rcases List.mem_append.mp m with m | m
  ·exact w.new b m n
  ·have : b = p:=by simpa using m
   subst this; exact hp⟩
theorem zR.add (st : zR K ad H S) {p : Addr} {vs : List V} {ds : List D} (h : H p = some (.lst vs)) (hp : p ∉ ad) (r : zK K ad H ds vs) (hb : B.H p = none) : zR K (ad ++ [p]) H (S ++ [.lst ds]) where
 wd:=st.wd.add hb
 len:=by rw [List.length_append,List.length_append,st.len]; rfl
 nd:=by
  rw [List.nodup_append]
  refine ⟨st.nd,by simp,fun a ha b hb e=>?_⟩
  have : b = p:=by simpa using hb
  subst this; subst e
  exact hp ha
 cell:=fun n a c e1 e2=>by
  have w : Wr ad H (ad ++ [p]) H:=⟨List.prefix_append _ _,fun _ _ q=>q,fun _ _ _ q=>q⟩
  by_cases hn : n < ad.length
  ·rw [List.getElem?_append_left hn] at e1
   rw [List.getElem?_append_left (by rw [← st.len]; exact hn)] at e2
   exact (st.cell n a c e1 e2).wr w rfl
  ·have hn' : ad.length ≤ n:=Nat.le_of_not_lt hn
   rw [List.getElem?_append_right hn'] at e1
   rw [List.getElem?_append_right (by rw [← st.len]; exact hn'),← st.len] at e2
   cases hk : n - ad.length with
   | zero =>
    rw [hk] at e1 e2
    have e1' : p = a:=by simpa using e1
    have e2' : Cell.lst ds = c:=by simpa using e2
    subst e1' e2'
    exact ⟨vs,h,zK.wr w r⟩
   | succ k=>rw [hk] at e1; simp at e1
theorem Lst.sq (st : zR K ad H S) {x : D} {xs : List D} {v : V} (h : Lst S x xs) (r : Rel K ad H x v) : ∃ a vs,v = .ref a∧SqL K H a vs∧zK K ad H xs vs:=by
 rcases h with rfl | ⟨n,rfl,h⟩
 ·cases r with
  | rl h r=>exact ⟨_,_,rfl,h.sq,r⟩
 ·cases r with
  | ref e =>
   obtain ⟨vs,e2,r⟩:=st.cell n _ _ e h
   exact ⟨_,vs,rfl,SqL.of e2,r⟩
theorem zd9.sq (st : zR K ad H S) {x : D} {xs : List D} {v : V} (h : zd9 S x xs) (r : Rel K ad H x v) : ∃ a vs,v = .ref a∧(SqL K H a vs∨SqT K H a vs)∧zK K ad H xs vs:=by
 rcases h with rfl | h
 ·cases r with
  | tup h r=>exact ⟨_,_,rfl,.inr (SqT.of h),r⟩
 ·obtain ⟨a,vs,e,s,r⟩:=Lst.sq st h r
  exact ⟨a,vs,e,.inl s,r⟩
end
omit B in
theorem el8 {a b c d : Type} {p1 p2 p3 p4 : a→b→c→d→Prop} {R : Prop} (h : ∃ (x : a) (y : b) (z : c) (w : d),p1 x y z w∧p2 x y z w∧p3 x y z w∧p4 x y z w) (f : ∀ (x : a) (y : b) (z : c) (w : d),p1 x y z w→p2 x y z w→p3 x y z w→p4 x y z w→R) : R :=
 Exists.elim h fun x h=>Exists.elim h fun y h=>Exists.elim h fun z h=>Exists.elim h fun w h=>f x y z w h.1 h.2.1 h.2.2.1 h.2.2.2
def KK (K : PySem.W.Frag) (ad : List Addr) (H : Hp) (Q0 : DK) (Q : VK) : Prop:=∀ d S' v H' ad',Q0 d S'→Wd ad H ad' H'→zR K ad' H' S'→Rel K ad' H' d v→Q v H'
theorem KK.wd {K : PySem.W.Frag} {ad ad' : List Addr} {H H' : Hp} {Q0 : DK} {Q : VK} (k : KK K ad H Q0 Q) (w : Wd ad H ad' H') : KK K ad' H' Q0 Q:=fun d S' v H' ad' q w'=>k d S' v H' ad' q (w.trans w')
def up (K : PySem.W.Frag) (t : DE) : TE:=fun σ H Q=>∃ ad ρ S Q0,zR K ad H S∧zaz K ad H ρ σ∧t ρ S Q0∧KK K ad H Q0 Q
def upT (K : PySem.W.Frag) (t : DT) : TT:=fun σ H Q=>∃ ad ρ S Q0,zR K ad H S∧zaz K ad H ρ σ∧t ρ S Q0∧∀ b S' H' ad',Q0 b S'→Wd ad H ad' H'→zR K ad' H' S'→Q b H'
def upA (K : PySem.W.Frag) (t : DA) : TA:=fun σ H Q=>∃ ad ρ S Q0,zR K ad H S∧zaz K ad H ρ σ∧t ρ S Q0∧∀ ds S' vs H' ad',Q0 ds S'→Wd ad H ad' H'→zR K ad' H' S'→zK K ad' H' ds vs→Q vs H'
theorem zR.base {K : PySem.W.Frag} {ad : List Addr} {H : Hp} {S : Sto} (st : zR K ad H S) : @zR ⟨ad,H⟩ K ad H S:=@zR.mk ⟨ad,H⟩ _ _ _ _ Wd.refl st.len st.nd st.cell
theorem zR.back {K : PySem.W.Frag} {ad ad' : List Addr} {H H' : Hp} {S S' : Sto} (st : zR K ad H S) (st' : @zR ⟨ad,H⟩ K ad' H' S') : zR K ad' H' S' :=
 ⟨st.wd.trans (@zR.wd ⟨ad,H⟩ _ _ _ _ st'),@zR.len ⟨ad,H⟩ _ _ _ _ st',@zR.nd ⟨ad,H⟩ _ _ _ _ st',@zR.cell ⟨ad,H⟩ _ _ _ _ st'⟩
theorem KK.base {K : PySem.W.Frag} {ad : List Addr} {H : Hp} {S : Sto} {Q0 : DK} {Q : VK} (st : zR K ad H S) (k : KK K ad H Q0 Q) : @KK ⟨ad,H⟩ K ad H Q0 Q:=fun d S' v H' ad' q w st' r=>k d S' v H' ad' q w (st.back st') r
def upF (K : PySem.W.Frag) (f : DSp) : Sp:=fun vs H Q _=>∃ ad S ds Q0,@zR ⟨ad,H⟩ K ad H S∧zK K ad H ds vs∧f ds S Q0∧@KK ⟨ad,H⟩ K ad H Q0 Q
structure zh2 (K : PySem.W.Frag) (ad : List Addr) (H : Hp) (E0 : zm2) (E : Ends) : Prop where
 nx : ∀ ρ S σ H' ad',E0.nx ρ S→Wd ad H ad' H'→zR K ad' H' S→zaz K ad' H' ρ σ→E.nx σ H'
 rt : KK K ad H E0.rt E.rt
 bk : ∀ ρ S σ H' ad',E0.bk ρ S→Wd ad H ad' H'→zR K ad' H' S→zaz K ad' H' ρ σ→E.bk σ H'
 ct : ∀ ρ S σ H' ad',E0.ct ρ S→Wd ad H ad' H'→zR K ad' H' S→zaz K ad' H' ρ σ→E.ct σ H'
theorem zh2.wd {K : PySem.W.Frag} {ad ad' : List Addr} {H H' : Hp} {E0 : zm2} {E : Ends} (k : zh2 K ad H E0 E) (w : Wd ad H ad' H') : zh2 K ad' H' E0 E :=
 ⟨fun ρ S σ H' ad' q w'=>k.nx ρ S σ H' ad' q (w.trans w'),k.rt.wd w,fun ρ S σ H' ad' q w'=>k.bk ρ S σ H' ad' q (w.trans w'),fun ρ S σ H' ad' q w'=>k.ct ρ S σ H' ad' q (w.trans w')⟩
def upS (K : PySem.W.Frag) (t : DS) : TS:=fun E σ H=>∃ ad ρ S E0,zR K ad H S∧zaz K ad H ρ σ∧t E0 ρ S∧zh2 K ad H E0 E
@[irreducible] def PD (X : Cx) (e : Expr) (t : DE) : Prop:=PE X e (up X.K t)
@[irreducible] def PTD (X : Cx) (e : Expr) (t : DT) : Prop:=PT X e (upT X.K t)
@[irreducible] def PWD (X : Cx) (e : Expr) (t : DT) : Prop:=PW X e (upT X.K t)
@[irreducible] def PAD (X : Cx) (es : List Expr) (t : DA) : Prop:=PA X es (upA X.K t)
@[irreducible] def PSD (X : Cx) (st : Stmt) (t : DS) : Prop:=PS X st (upS X.K t)
@[irreducible] def ze8 (X : Cx) (st : List Stmt) (t : DS) : Prop:=PSs X st (upS X.K t)
theorem zrj {X : Cx} {e : Expr} {t t' : TE} (h : PE X e t) (m : ∀ σ H Q,t' σ H Q→t σ H Q) : PE X e t':=fun pins s σ H Q I q=>h pins s σ H Q I (m σ H Q q)
theorem zhh {X : Cx} {e : Expr} {t t' : TT} (h : PT X e t) (m : ∀ σ H Q,t' σ H Q→t σ H Q) : PT X e t':=fun pins s σ H Q I q=>h pins s σ H Q I (m σ H Q q)
theorem zlH {X : Cx} {e : Expr} {t t' : TT} (h : PW X e t) (m : ∀ σ H Q,t' σ H Q→t σ H Q) : PW X e t':=fun wh pins s σ H Q I q=>h wh pins s σ H Q I (m σ H Q q)
theorem zlD {X : Cx} {e : List Expr} {t t' : TA} (h : PA X e t) (m : ∀ σ H Q,t' σ H Q→t σ H Q) : PA X e t':=fun pos pins s σ H Q I q=>h pos pins s σ H Q I (m σ H Q q)
theorem zbl {X : Cx} {st : Stmt} {t t' : TS} (h : PS X st t) (m : ∀ D σ H,t' D σ H→t D σ H) : PS X st t':=fun pins s σ H D I q=>h pins s σ H D I (m D σ H q)
theorem zj1 {X : Cx} {st : List Stmt} {t t' : TS} (h : PSs X st t) (m : ∀ D σ H,t' D σ H→t D σ H) : PSs X st t':=fun pins s σ H D I q=>h pins s σ H D I (m D σ H q)
section
variable {X : Cx} {a b c : Expr} {ta tb tc : DE} {pos : Pos}
theorem za1 {e : Expr} {t : TE} {d : DE} (h : PE X e t) (m : ∀ σ H Q,up X.K d σ H Q→t σ H Q) : PD X e d:=by with_unfolding_all exact (zrj h m)
theorem zti {e : Expr} {i : Nat} (h : PE X e (ztx i)) : PD X e (zj i):=by with_unfolding_all exact (za1 h fun σ H Q ⟨ad,ρ,S,Q0,st,rh,⟨d,e,q⟩,k⟩=>by
 obtain ⟨v,ev,r⟩:=rh.val i d e
 exact ⟨v,ev,k d S v H ad q Wd.refl st r⟩)
theorem zgP {e : Expr} {v : V} {d : D} (h : PE X e (tC v)) (r : ∀ ad H,Rel X.K ad H d v) : PD X e (dC d):=by with_unfolding_all exact (za1 h fun σ H Q hh=>el8 hh fun ad ρ S Q0 st rh q k=>k d S v H ad q Wd.refl st (r _ _))
theorem zp {i j} : PD X (.Constant (.int i) j pos) (dC (.int i)):=by with_unfolding_all exact (zgP zkm fun _ _=>.int i)
theorem zb7 {b j} : PD X (.Constant (.bool b) j pos) (dC (.bl b)):=by with_unfolding_all exact (zgP zuI fun _ _=>.bl b)
theorem zdA {j} : PD X (.Constant .none j pos) (dC .non):=by with_unfolding_all exact (zgP zsk fun _ _=>.non)
theorem zfs {x j} : PD X (.Constant (.str x) j pos) (dC (.str x)):=by with_unfolding_all exact (zgP zrI fun _ _=>.str x)
theorem zjU {x : Str} {T : String} (hg : Gl X x) (hm : X.mg x = none) (hv : bootBuiltins x = some (.type T)) (hn : x ≠ "__name__":=by decide) (hd : (x == ("__debug__" : Str)) = false:=by decide) : PD X (.Name x pos) (dC (.ty T)):=by with_unfolding_all exact (zgP (ztP hg hm hv hn hd) fun _ _=>.ty T)
theorem zag {x : Str} {n : Int} (hg : Gl X x) (hm : ∃ t,X.mg x = some (.int n t)) (hd : (x == ("__debug__" : Str)) = false:=by decide) : PD X (.Name x pos) (dC (.int n)):=by with_unfolding_all exact (zgP (zq2 hg hm hd) fun _ _=>.int n)
theorem zql {x z : Str} (hg : Gl X x) (hm : ∃ t,X.mg x = some (.str z t)) (hd : (x == ("__debug__" : Str)) = false:=by decide) : PD X (.Name x pos) (dC (.str z)):=by with_unfolding_all exact (zgP (by obtain ⟨t,hm⟩:=hm; exact zlJ (v:=.str z) hg hm ⟨t,rfl⟩ hd) fun _ _=>.str z)
theorem zaZ {i j : Int} {m n : Nat} {p1 p2 : Pos} (c : Int) (h : i ^ j.toNat = c) (h0 : 0 ≤ j∧j ≤ 1000000∧i.natAbs < 2 ^ 64) : PD X (.BinOp (.Constant (.int i) m p1) .Pow (.Constant (.int j) n p2) pos) (dC (.int c)):=by with_unfolding_all exact (zgP (zq6 c h h0) fun _ _=>.int c)
def OD (K : PySem.W.Frag) (r' : DR2) (r : R2) : Prop:=∀ ad H S x y v u Q0 Q,zR K ad H S→Rel K ad H x v→Rel K ad H y u→r' x y S Q0→KK K ad H Q0 Q→r v u H Q
theorem zh8 {K : PySem.W.Frag} {r' : DR2} {r : R2} (o : OD K r' r) {σ : L2.St} {H : Hp} {Q : VK} (h : up K (dOp r' ta tb) σ H Q) : tOp r (up K ta) (up K tb) σ H Q:=by
 obtain ⟨ad,ρ,S,Q0,st,rh,q,k⟩:=h
 refine ⟨ad,ρ,S,_,st,rh,q,fun x S1 v H1 ad1 q1 w1 st1 r1=>?_⟩
 refine ⟨ad1,ρ,S1,_,st1,rh.wd w1,q1,fun y S2 u H2 ad2 q2 w2 st2 r2=>?_⟩
 exact o ad2 H2 S2 x y v u Q0 Q st2 (r1.wd w2) r2 q2 (k.wd (w1.trans w2))
theorem zil {op : Operator} {r' : DR2} {r : R2} (ho : OpR X (binaryOp op) r) (o : OD X.K r' r) (ha : PD X a ta) (hb : PD X b tb) : PD X (.BinOp a op b pos) (dOp r' ta tb):=by with_unfolding_all exact (za1 (zpL ho ha hb) fun _ _ _=>zh8 o)
theorem zmm {K : PySem.W.Frag} {C C' : Int→Int→Prop} {g : Int→Int→D} {g' : Int→Int→V} (hc : ∀ i j,C i j→C' i j) (hg : ∀ ad H i j,Rel K ad H (g i j) (g' i j)) : OD K (oI C g) (rI C' g'):=fun ad H S x y v u Q0 Q st rx ry ⟨i,j,ex,ey,c,q⟩ k=>by
 subst ex ey
 cases rx
 cases ry
 exact ⟨i,j,rfl,rfl,hc i j c,k _ S _ H ad q Wd.refl st (hg ad H i j)⟩
theorem zjT {K : PySem.W.Frag} {g : Int→Int→D} {g' : Int→Int→V} (hg : ∀ ad H i j,Rel K ad H (g i j) (g' i j)) : OD K (oI0 g) (rI0 g'):=fun ad H S x y v u Q0 Q st rx ry ⟨i,j,ex,ey,q⟩ k=>by
 subst ex ey
 cases rx
 cases ry
 exact ⟨i,j,rfl,rfl,k _ S _ H ad q Wd.refl st (hg ad H i j)⟩
theorem zns {i : Int} (h : i.natAbs < 2 ^ 64) : -(2 ^ 64) < i∧i < 2 ^ 64:=⟨by omega,by omega⟩
def zuk (i j : Int) : Prop:=zak i j
theorem zqQ : OpR X (binaryOp .Mult) (rI zuk fun i j=>.int (i * j)):=opI fun i j _ _ _ _ _ hc q=>by
 rcases hc with h | h | h
 ·exact mul_int q (IntMulOk.of_bits (zit h.1) (zit h.2))
 ·exact mul_int q (zms.ok (.inl (zns h)))
 ·exact mul_int q (zms.ok (.inr (zns h)))
theorem zT (ha : PD X a ta) (hb : PD X b tb) : PD X (.BinOp a .Sub b pos) (dOp zae ta tb):=by with_unfolding_all exact (zil zsy (zjT fun _ _ i j=>.int (i - j)) ha hb)
theorem zsc {z : Str} {n : Int} (hz : z.length ≤ 1000) (h0 : -1000 ≤ n) (h1 : n ≤ 1000) : MulOk z n:=by
 refine ⟨?_,fun _ _=>?_,fun h _=>?_⟩
 ·rw [decide_eq_false (by omega),decide_eq_false (by omega)]; rfl
 ·have : (1000 : Int) ≤ (2 ^ 63 - 1) / n∨n < 1:=by
   rcases Int.lt_or_le n 1 with g | g
   ·exact .inr g
   ·exact .inl ((Int.le_ediv_iff_mul_le (by omega)).mpr (by omega))
  omega
 ·have : z.length * n.toNat ≤ 1000 * 1000:=Nat.mul_le_mul hz (by omega)
  have hs : z.length * n.toNat ≤ sizeLine:=Nat.le_trans this (by decide)
  first
   | exact decide_eq_false (by omega)
   | (unfold tooLong; exact decide_eq_false (by omega))
   | simp [tooLong]; omega
theorem zrn : OpR X (binaryOp .Mult) (fun x y H Q=>∃ z n,x = .str z∧y = .int n∧MulOk z n∧Q (.str (Txt.mul z n)) H):=by
 intro pins s σ H x y v u Q I rx ry h
 obtain ⟨z,n,rfl,rfl,ok,q⟩:=h
 obtain ⟨t,rfl⟩:=rx
 obtain ⟨t',rfl⟩:=ry
 exact SB.mul ok fun t' k=>⟨.str (Txt.mul z n),H,I.tok _,⟨_,rfl⟩,q⟩
omit B in
theorem zlY {i : Int} (h : Hg i) : Builtin.Int.intBits i ≤ 2 ^ 20:=by
 unfold Hg at h
 exact intBits_le h
omit B in
theorem zqS {i : Int} (h : Builtin.Int.intBits i ≤ 2 ^ 20) : Hg i:=by
 unfold Hg
 exact Nat.lt_of_lt_of_le (natAbs_lt_pow_bits i) (Nat.pow_le_pow_right (by decide) h)
theorem zqo : OpR X (binaryOp .Mult) (rI (fun i j=>Hg i∧Hg j) fun i j=>.int (i * j)):=opI fun i j _ _ _ _ _ hc q=>mul_int q (IntMulOk.of_bits (zlY hc.1) (zlY hc.2))
theorem zaf (ha : PD X a ta) (hb : PD X b tb) : PD X (.BinOp a .Mult b pos) (dOp zao ta tb):=by with_unfolding_all exact (zil (zqQ.or (zrn.or zqo)) (fun ad H S x y v u Q0 Q st rx ry h k=>by
 rcases h with h | ⟨z,n,rfl,rfl,hz,h0,h1,q⟩ | h
 ·exact .inl (zmm (fun _ _ h=>h) (fun _ _ i j=>.int (i * j)) ad H S x y v u Q0 Q st rx ry h k)
 ·cases rx
  cases ry
  exact .inr (.inl ⟨z,n,rfl,rfl,zsc hz h0 h1,k _ S _ H ad q Wd.refl st (.str _)⟩)
 ·exact .inr (.inr (zmm (fun _ _ h=>h) (fun _ _ i j=>.int (i * j)) ad H S x y v u Q0 Q st rx ry h k))) ha hb)
theorem zcK (ha : PD X a ta) (hb : PD X b tb) : PD X (.BinOp a .FloorDiv b pos) (dOp oDiv ta tb):=by with_unfolding_all exact (zil zoA (zmm (fun _ _ h=>h) fun _ _ i j=>.int (i.fdiv j)) ha hb)
theorem zaT (ha : PD X a ta) (hb : PD X b tb) : PD X (.BinOp a .Mod b pos) (dOp oMod ta tb):=by with_unfolding_all exact (zil zrm (zmm (fun _ _ h=>h) fun _ _ i j=>.int (i.fmod j)) ha hb)
theorem zdl {n : Nat} (h : n ≤ big) : n ≤ sizeLine:=Nat.le_trans h (by decide)
theorem zoq {n : Nat} (h : n < big) : n < sizeLine:=Nat.lt_of_lt_of_le h (by decide)
theorem zfm {K : PySem.W.Frag} {ad : List Addr} {H : Hp} {S : Sto} {Q0 : DK} {Q : VK} {ds : List D} {vs : List V} (st : zR K ad H S) (k : KK K ad H Q0 Q) (r : zK K ad H ds vs) (q : Q0 (.ref S.length) (S ++ [.lst ds])) (l : Addr) (h : H l = none) : Q (.ref l) (upd H l (.lst vs)) :=
 k _ _ _ _ _ q (Wd.newL st h) (st.newL h r) st.newRef
theorem ziz {K : PySem.W.Frag} {ad : List Addr} {H : Hp} {S : Sto} {Q0 : DK} {Q : VK} {ds : List D} {vs : List V} (st : zR K ad H S) (k : KK K ad H Q0 Q) (r : zK K ad H ds vs) (q : Q0 (.tup ds) S) (l : Addr) (h : H l = none) : Q (.ref l) (upd H l (.tup vs)) :=
 k _ _ _ _ _ q (Wd.laid h) (st.laid h) (.tup zaJ (r.wd (Wd.laid h)))
theorem zY (ha : PD X a ta) (hb : PD X b tb) : PD X (.BinOp a .Add b pos) (dOp zai ta tb):=by with_unfolding_all exact (zil (ztk.or ((zoD rfl).or ((zrs rfl).or zmr))) (fun ad H S x y v u Q0 Q st rx ry h k=>by
  rcases h with ⟨i,j,rfl,rfl,q⟩ | ⟨xs,ys,rfl,rfl,hz,q⟩ | ⟨xs,ys,hx,hy,hz,q⟩ | ⟨i,j,rfl,rfl,hz,q⟩
  ·cases rx
   cases ry
   exact .inl ⟨i,j,rfl,rfl,k _ S _ H ad q Wd.refl st (.int _)⟩
  ·cases rx with
   | tup h1 r1 =>
    cases ry with
    | tup h2 r2 =>
     have l1:=r1.length
     have l2:=r2.length
     refine .inr (.inl ⟨_,_,_,_,rfl,rfl,SqT.of h1,SqT.of h2,by rw [← l1,← l2]; exact zdl hz,fun e=>?_,fun _ e=>?_,fun _ _ p hp=>ziz st k (r1.append r2) q p hp⟩)
     ·have e' : xs = []:=List.length_eq_zero_iff.mp (by rw [l1,e]; rfl)
      subst e'
      exact k _ S _ H ad q Wd.refl st (.tup h2 r2)
     ·have e' : ys = []:=List.length_eq_zero_iff.mp (by rw [l2,e]; rfl)
      subst e'
      rw [List.append_nil] at q
      exact k _ S _ H ad q Wd.refl st (.tup h1 r1)
  ·obtain ⟨a1,vs1,rfl,s1,r1⟩:=hx.sq st rx
   obtain ⟨a2,vs2,rfl,s2,r2⟩:=hy.sq st ry
   exact .inr (.inr (.inl ⟨_,_,_,_,rfl,rfl,s1,s2,by rw [← r1.length,← r2.length]; exact zdl hz,fun p hp=>zfm st k (r1.append r2) q p hp⟩))
  ·cases rx
   cases ry
   exact .inr (.inr (.inr ⟨i,j,rfl,rfl,zdl hz,k _ S _ H ad q Wd.refl st (.str _)⟩))) ha hb)
theorem zbm (ha : PD X a ta) : PD X (.UnaryOp .USub a pos) (dUn zcd ta):=by with_unfolding_all exact (za1 (ztE zr9 ha) fun σ H Q hh=>el8 hh fun ad ρ S Q0 st rh q k=>by
 refine ⟨ad,ρ,S,_,st,rh,q,fun x S1 v H1 ad1 q1 w1 st1 r1=>?_⟩
 obtain ⟨i,rfl,q1⟩:=q1
 cases r1
 exact ⟨i,rfl,k _ _ _ _ _ q1 w1 st1 (.int _)⟩)
def OC (X : Cx) (op : CmpOp) (r' : DR2) : Prop:=∃ r,OpR X (compareOp op) r∧OD X.K r' r
theorem zaQ : OC X .Lt oLt:=⟨_,ztI,zjT fun _ _ _ _=>.bl _⟩
theorem zeV : OC X .LtE oLe:=⟨_,zt7,zjT fun _ _ _ _=>.bl _⟩
theorem zbE : OC X .Gt oGt:=⟨_,zuv,zjT fun _ _ _ _=>.bl _⟩
mutual
def pyD : D→PyData
 | .non=>.none
 | .bl b=>.bool b
 | .int i=>.int i
 | .str x=>.str x
 | .tup xs=>.tuple (zaR xs)
 | .ref _=>.none
 | .ty _=>.none
 | .rl _=>.none
 | .exn _=>.none
def zaR : List D→List PyData
 | []=>[]
 | x :: xs=>pyD x :: zaR xs
end
section
variable {pins : List (Addr × Obj)} {σ : L2.St} {H : Hp} {s : Shared} {ad : List Addr}
theorem zfT (I : Inv X pins σ H s) (k : Nat) (h1 : ∀ d v u,fl k d = true→Rel X.K ad H d v→RelV v u→∃ as,Reads s.heap u (pyD d) as) : ∀ ds vs us,ds.all (fl k) = true→zK X.K ad H ds vs→Vals vs us→∃ as,ReadsAll s.heap us (zaR ds) as:=by
 intro ds
 induction ds with
 | nil=>intro vs us _ r rv; cases r; cases rv; exact ⟨_,.nil⟩
 | cons d ds ih =>
  intro vs us hf r rv
  rw [List.all_cons,Bool.and_eq_true] at hf
  cases r with
  | cons r t =>
   cases rv with
   | cons q qt =>
    obtain ⟨as,ra⟩:=h1 d _ _ hf.1 r q
    obtain ⟨bs,rb⟩:=ih _ _ hf.2 t qt
    exact ⟨_,.cons ra rb⟩
theorem zcW (I : Inv X pins σ H s) : ∀ (k : Nat) (d : D) (v : V) (u : Value),fl k d = true→Rel X.K ad H d v→RelV v u→∃ as,Reads s.heap u (pyD d) as:=by
 intro k
 induction k with
 | zero =>
  intro d v u hf r q
  cases r with
  | non=>cases q; exact ⟨_,.none⟩
  | bl b=>cases q; exact ⟨_,.bool b⟩
  | int i=>obtain ⟨t,rfl⟩:=q; exact ⟨_,.int i t⟩
  | str x=>obtain ⟨t,rfl⟩:=q; exact ⟨_,.str x t⟩
  | ty n=>cases hf
  | tup h r=>cases hf
  | rl h r=>cases hf
  | ref h=>cases hf
  | exn _ _ _=>cases hf
 | succ k ih =>
  intro d v u hf r q
  cases r with
  | non=>cases q; exact ⟨_,.none⟩
  | bl b=>cases q; exact ⟨_,.bool b⟩
  | int i=>obtain ⟨t,rfl⟩:=q; exact ⟨_,.int i t⟩
  | str x=>obtain ⟨t,rfl⟩:=q; exact ⟨_,.str x t⟩
  | ty n=>cases hf
  | tup h r =>
   cases q
   obtain ⟨its,rv,ht,hz⟩:=I.tuple (SqT.of h)
   obtain ⟨o,ho,hc,n,hd⟩:=ht
   obtain ⟨as,ra⟩:=zfT I k ih _ _ _ hf r rv
   exact ⟨_,.tuple ho hc hd (by simpa using ra)⟩
  | rl h r=>cases hf
  | ref h=>cases hf
  | exn _ _ _=>cases hf
end
theorem zfU : ∀ (k : Nat) (d : D),fl k d = true→(pyD d).canLay0 = true∧(pyD d).depth ≤ k:=by
 have all : ∀ k,(∀ d,fl k d = true→(pyD d).canLay0 = true∧(pyD d).depth ≤ k)→∀ ds : List D,ds.all (fl k) = true→PyData.canLayAll0 (zaR ds) = true∧PyData.depthAll (zaR ds) ≤ k:=by
  intro k h ds
  induction ds with
  | nil=>intro _; exact ⟨rfl,Nat.zero_le _⟩
  | cons d ds ih =>
   intro hf
   rw [List.all_cons,Bool.and_eq_true] at hf
   obtain ⟨a1,a2⟩:=h d hf.1
   obtain ⟨b1,b2⟩:=ih hf.2
   refine ⟨?_,?_⟩
   ·show (PyData.canLay0 (pyD d) && PyData.canLayAll0 (zaR ds)) = true
    rw [a1,b1]; rfl
   ·show max (PyData.depth (pyD d)) (PyData.depthAll (zaR ds)) ≤ k
    exact Nat.max_le.mpr ⟨a2,b2⟩
 intro k
 induction k with
 | zero =>
  intro d hf
  cases d with
  | non=>exact ⟨rfl,Nat.zero_le _⟩
  | bl b=>exact ⟨rfl,Nat.zero_le _⟩
  | int i=>exact ⟨rfl,Nat.zero_le _⟩
  | str x=>exact ⟨hf,Nat.zero_le _⟩
  | tup xs=>cases hf
  | ref n=>cases hf
  | exn _=>cases hf
  | ty n=>cases hf
  | rl xs=>cases hf
 | succ k ih =>
  intro d hf
  cases d with
  | non=>exact ⟨rfl,Nat.zero_le _⟩
  | bl b=>exact ⟨rfl,Nat.zero_le _⟩
  | int i=>exact ⟨rfl,Nat.zero_le _⟩
  | str x=>exact ⟨hf,Nat.zero_le _⟩
  | tup xs =>
   obtain ⟨h1,h2⟩:=all k ih xs hf
   refine ⟨h1,?_⟩
   show PyData.depthAll (zaR xs) + 1 ≤ k + 1
   omega
  | ref n=>cases hf
  | exn _=>cases hf
  | ty n=>cases hf
  | rl xs=>cases hf
theorem zfb (k : Nat) : ∀ ds : List D,ds.all (fl k) = true→PyData.canLayAll0 (zaR ds) = true∧PyData.depthAll (zaR ds) ≤ k:=by
 intro ds
 induction ds with
 | nil=>intro _; exact ⟨rfl,Nat.zero_le _⟩
 | cons d ds ih =>
  intro hf
  rw [List.all_cons,Bool.and_eq_true] at hf
  obtain ⟨a1,a2⟩:=zfU k d hf.1
  obtain ⟨b1,b2⟩:=ih hf.2
  refine ⟨?_,?_⟩
  ·show (PyData.canLay0 (pyD d) && PyData.canLayAll0 (zaR ds)) = true
   rw [a1,b1]; rfl
  ·show max (PyData.depth (pyD d)) (PyData.depthAll (zaR ds)) ≤ k
   exact Nat.max_le.mpr ⟨a2,b2⟩
mutual
theorem zkv : ∀ (k : Nat) (x y : D),fl k x = true→fl k y = true→PyData.eqv (pyD x) (pyD y) = eqv x y
  | k,.non,y,_,hy=>by cases y <;> first | rfl | (cases k <;> cases hy)
  | k,.bl a,y,_,hy=>by cases y <;> first | rfl | (cases k <;> cases hy)
  | k,.int i,y,_,hy=>by
    cases y with
    | int j=>show (i == j) = decide (i = j); rw [Bool.beq_eq_decide_eq]
    | ref n=>cases k <;> cases hy
    | exn n=>cases k <;> cases hy
    | ty n=>cases k <;> cases hy
    | rl n=>cases k <;> cases hy
    | _=>rfl
  | k,.str a,y,_,hy=>by cases y <;> first | rfl | (cases k <;> cases hy)
  | 0,.tup xs,y,hx,_=>by cases hx
  | k + 1,.tup xs,y,hx,hy=>by
    cases y with
    | tup ys=>exact zgS k xs ys hx hy
    | ref n=>cases hy
    | ty n=>cases hy
    | rl n=>cases hy
    | _=>rfl
  | k,.ref n,y,hx,_=>by cases k <;> cases hx
  | k,.ty n,y,hx,_=>by cases k <;> cases hx
  | k,.rl n,y,hx,_=>by cases k <;> cases hx
  | k,.exn n,y,hx,_=>by cases k <;> cases hx
theorem zgS : ∀ (k : Nat) (xs ys : List D),xs.all (fl k) = true→ys.all (fl k) = true→PyData.eqvAll (zaR xs) (zaR ys) = eqvAll xs ys
  | k,[],[],_,_=>rfl
  | k,[],y :: ys,_,_=>rfl
  | k,x :: xs,[],_,_=>rfl
  | k,x :: xs,y :: ys,hx,hy=>by
    rw [List.all_cons,Bool.and_eq_true] at hx hy
    show (PyData.eqv (pyD x) (pyD y) && PyData.eqvAll (zaR xs) (zaR ys)) = (eqv x y && eqvAll xs ys)
    rw [zkv k x y hx.1 hy.1,zgS k xs ys hx.2 hy.2]
end
def zsU (X : Cx) (g : Bool→Bool) : R2:=fun x y H Q=>∃ ad S dx dy b,zR X.K ad H S∧Rel X.K ad H dx x∧Rel X.K ad H dy y∧EqD S dx dy b∧Q (.bl (g b)) H
theorem zje {pins : List (Addr × Obj)} {σ : L2.St} {H : Hp} {s : Shared} {ad : List Addr} {S : Sto} {dx dy : D} {x y : V} {v u : Value} {b : Bool} (I : Inv X pins σ H s) (st : zR X.K ad H S) (rx : Rel X.K ad H dx x) (ry : Rel X.K ad H dy y) (qx : RelV x v) (qy : RelV y u) (h : EqD S dx dy b) :
  ∃ px py as bs,Reads s.heap v px as∧Reads s.heap u py bs∧px.canLay0 = true∧py.canLay0 = true∧min px.depth py.depth ≤ 60∧PyData.eqv px py = b:=by
 rcases h with ⟨fx,fy,rfl⟩ | ⟨xs,ys,hx,hy,fx,fy,rfl⟩
 ·obtain ⟨as,ra⟩:=zcW I 20 dx x v fx rx qx
  obtain ⟨bs,rb⟩:=zcW I 20 dy y u fy ry qy
  obtain ⟨c1,d1⟩:=zfU 20 dx fx
  obtain ⟨c2,d2⟩:=zfU 20 dy fy
  exact ⟨_,_,as,bs,ra,rb,c1,c2,by omega,zkv 20 dx dy fx fy⟩
 ·obtain ⟨a1,vs1,rfl,s1,r1⟩:=hx.sq st rx
  obtain ⟨a2,vs2,rfl,s2,r2⟩:=hy.sq st ry
  cases qx
  cases qy
  obtain ⟨its,rv,ht,hz⟩:=I.list s1
  obtain ⟨its2,rv2,ht2,hz2⟩:=I.list s2
  obtain ⟨o,ho,hc,n,hd⟩:=ht.isList
  obtain ⟨o2,ho2,hc2,n2,hd2⟩:=ht2.isList
  obtain ⟨as,ra⟩:=zfT I 20 (zcW I 20) _ _ _ fx r1 rv
  obtain ⟨bs,rb⟩:=zfT I 20 (zcW I 20) _ _ _ fy r2 rv2
  obtain ⟨c1,d1⟩:=zfb 20 xs fx
  obtain ⟨c2,d2⟩:=zfb 20 ys fy
  refine ⟨.list (zaR xs),.list (zaR ys),_,_,.list ho hc hd (by simpa using ra),.list ho2 hc2 hd2 (by simpa using rb),c1,c2,?_,zgS 20 xs ys fx fy⟩
  show min (PyData.depthAll (zaR xs) + 1) (PyData.depthAll (zaR ys) + 1) ≤ 60
  omega
theorem zdS {k : Nat} (hr : zaI k X.A) : OC X .Eq oEq:=⟨zsU X id,fun pins s σ H x y v u Q I qx qy ⟨ad,S,dx,dy,b,st,rx,ry,h,q⟩=>by
  obtain ⟨px,py,as,bs,ra,rb,c1,c2,hd,e⟩:=zje I st rx ry qx qy h
  have hu:=hr.units
  exact PySem.SeqAt.rcAt_reads ra rb c1 c2 (by omega) X.prog X.w X.xe _ ⟨.bl _,H,I,by rw [e]; rfl,q⟩,
 fun ad H S x y v u Q0 Q st rx ry ⟨b,h,q⟩ k=>⟨ad,S,x,y,b,st,rx,ry,h,k _ S _ H ad q Wd.refl st (.bl _)⟩⟩
theorem zmn {k : Nat} (hr : zaI k X.A) : OC X .NotEq oNe:=⟨zsU X (!·),fun pins s σ H x y v u Q I qx qy ⟨ad,S,dx,dy,b,st,rx,ry,h,q⟩=>by
  obtain ⟨px,py,as,bs,ra,rb,c1,c2,hd,e⟩:=zje I st rx ry qx qy h
  have hu:=hr.units
  exact PySem.SeqAt.rcNeAt_reads ra rb c1 c2 (by omega) X.prog X.w X.xe _ ⟨.bl _,H,I,by rw [e]; rfl,q⟩,
 fun ad H S x y v u Q0 Q st rx ry ⟨b,h,q⟩ k=>⟨ad,S,x,y,b,st,rx,ry,h,k _ S _ H ad q Wd.refl st (.bl _)⟩⟩
theorem zoo {K : PySem.W.Frag} {ad : List Addr} {H : Hp} {d : D} {v : V} (r : Rel K ad H d v) : decide (v = .non) = zf2 d:=by
  cases r <;> rfl
theorem zq7 : OpR X (compareOp .IsNot) (rB0 fun i j=>.bl (!(i == j))):=fun pins s σ H x y v u Q I rx ry ⟨i,j,ex,ey,q⟩=>by
 subst ex ey
 cases rx
 cases ry
 exact isnot_bool ⟨.bl _,H,I,rfl,q⟩
theorem zgl : OC X .IsNot zfW:=⟨_,zsV.or zq7,fun ad H S x y v u Q0 Q st rx ry h k=>by
 rcases h with ⟨rfl,q⟩ | ⟨a,b,rfl,rfl,q⟩
 ·cases ry
  exact .inl ⟨rfl,by rw [zoo rx]; exact k _ S _ H ad q Wd.refl st (.bl _)⟩
 ·cases rx
  cases ry
  exact .inr ⟨a,b,rfl,rfl,k _ S _ H ad q Wd.refl st (.bl _)⟩⟩
theorem zd7 {op : CmpOp} {r' : DR2} (o : OC X op r') (ha : PD X a ta) (hb : PD X b tb) (h : op ≠ .In:=by decide) (h2 : op ≠ .NotIn:=by decide) : PD X (.Compare a [op] [b] pos) (dOp r' ta tb):=by
 with_unfolding_all
  obtain ⟨r,ho,od⟩:=o
  exact za1 (zlB ho ha hb (zng _ h h2)) fun _ _ _=>zh8 od
theorem zQ {op : CmpOp} {r' : DR2} (o : OC X op r') (ha : PD X a ta) (hb : PD X b tb) (h : op ≠ .In:=by decide) (h2 : op ≠ .NotIn:=by decide) : PTD X (.Compare a [op] [b] pos) (dT (dOp r' ta tb)):=by
 with_unfolding_all
  obtain ⟨r,ho,od⟩:=o
  refine zhh (zqd ho ha hb (zng _ h h2)) fun σ H Q hh=>el8 hh fun ad ρ S Q0 st rh q k=>?_
  refine zh8 (Q:=fun x H'=>∃ k,x = .bl k∧Q k H') od ⟨ad,ρ,S,_,st,rh,q,fun d S' v H' ad' ⟨b,e,q'⟩ w st' r=>?_⟩
  subst e
  cases r
  exact ⟨b,rfl,k b S' H' ad' q' w st'⟩
theorem zo6 {K : PySem.W.Frag} {r1' r2' : DR2} {r1 r2 : R2} (o1 : OD K r1' r1) (o2 : OD K r2' r2) {σ : L2.St} {H : Hp} {Q : VK} (h : up K (zih r1' r2' ta tb tc) σ H Q) : zny r1 r2 (up K ta) (up K tb) (up K tc) σ H Q:=by
 obtain ⟨ad,ρ,S,Q0,st,rh,q,k⟩:=h
 refine ⟨ad,ρ,S,_,st,rh,q,fun x S1 v H1 ad1 q1 w1 st1 rx=>?_⟩
 refine ⟨ad1,ρ,S1,_,st1,rh.wd w1,q1,fun y S2 u H2 ad2 q2 w2 st2 ry=>?_⟩
 refine o1 ad2 H2 S2 x y v u _ _ st2 (rx.wd w2) ry q2 fun z S3 z' H3 ad3 ⟨c,e,q3⟩ w3 st3 rz=>?_
 subst e
 cases rz
 refine ⟨c,rfl,?_⟩
 cases c with
 | true =>
  rw [if_pos rfl] at q3 ⊢
  refine ⟨ad3,ρ,S3,_,st3,rh.wd ((w1.trans w2).trans w3),q3,fun z S4 z' H4 ad4 q4 w4 st4 rz=>?_⟩
  exact o2 ad4 H4 S4 y z u z' Q0 Q st4 (ry.wd (w3.trans w4)) rz q4 (k.wd (((w1.trans w2).trans w3).trans w4))
 | false =>
  rw [if_neg Bool.false_ne_true] at q3 ⊢
  exact k _ S3 _ H3 ad3 q3 ((w1.trans w2).trans w3) st3 (.bl _)
theorem zaU {e : Expr} {t : DE} (h : PD X e t) (he : ∀ whole,isTrue e X.env whole = (do let v ← whole; standAt e.pos; holding [v] (truthy v)):=by intro _; rfl) : PTD X e (dT t):=by with_unfolding_all exact (zhh (zsj h he) fun σ H Q hh=>el8 hh fun ad ρ S Q0 st rh q k =>
 ⟨ad,ρ,S,_,st,rh,q,fun d S' v H' ad' ⟨b,e,q'⟩ w st' r=>by
  subst e
  cases r
  exact ⟨b,rfl,k b S' H' ad' q' w st'⟩⟩)
theorem znx {op op' : CmpOp} {r1 r2 : DR2} (o1 : OC X op r1) (o2 : OC X op' r2) (ha : PD X a ta) (hb : PD X b tb) (hc : PD X c tc) (hm : lastMarks [op,op'] [b,c] = false:=by with_unfolding_all rfl) : PTD X (.Compare a [op,op'] [b,c] pos) (dT (zih r1 r2 ta tb tc)):=by
 with_unfolding_all
  obtain ⟨s1,h1,d1⟩:=o1
  obtain ⟨s2,h2,d2⟩:=o2
  refine zhh (zpC h1 h2 ha hb hc hm) fun σ H Q hh=>el8 hh fun ad ρ S Q0 st rh q k=>?_
  refine zo6 (Q:=fun x H'=>∃ k,x = .bl k∧Q k H') d1 d2 ⟨ad,ρ,S,_,st,rh,q,fun d S' v H' ad' ⟨b,e,q'⟩ w st' r=>?_⟩
  subst e
  cases r
  exact ⟨b,rfl,k b S' H' ad' q' w st'⟩
variable {tA tB' : DT} {rest : List Expr}
theorem zb5 (h : PTD X a tA) : PTD X (.UnaryOp .Not a pos) (zeb tA):=by with_unfolding_all exact (zhh (zr6 h) fun σ H Q hh=>el8 hh fun ad ρ S Q0 st rh q k=>⟨ad,ρ,S,_,st,rh,q,fun b S' H' ad' q' w st'=>k _ S' H' ad' q' w st'⟩)
theorem zby {e : Expr} {t : DT} (h : PWD X e t) : PTD X e t:=by with_unfolding_all exact (h _)
theorem zcm (ha : PTD X a tA) : PWD X (.BoolOp .And [a] pos) tA:=by with_unfolding_all exact (zqa ha)
theorem zen (ha : PTD X a tA) : PWD X (.BoolOp .Or [a] pos) tA:=by with_unfolding_all exact (zts ha)
theorem zdc (ha : PTD X a tA) (hb : PWD X (.BoolOp .And (b :: rest) pos) tB') : PWD X (.BoolOp .And (a :: b :: rest) pos) (zfj tA tB'):=by with_unfolding_all exact (zlH (zrC ha hb) fun σ H Q hh=>el8 hh fun ad ρ S Q0 st rh q k =>
 ⟨ad,ρ,S,_,st,rh,q,fun b S' H' ad' q' w st'=>by
  cases b with
  | true=>rw [if_pos rfl] at q' ⊢; exact ⟨ad',ρ,S',Q0,st',rh.wd w,q',fun b S' H' ad' q w'=>k b S' H' ad' q (w.trans w')⟩
  | false=>rw [if_neg Bool.false_ne_true] at q' ⊢; exact k _ S' H' ad' q' w st'⟩)
theorem zfv (ha : PTD X a tA) (hb : PWD X (.BoolOp .Or (b :: rest) pos) tB') : PWD X (.BoolOp .Or (a :: b :: rest) pos) (dOr tA tB'):=by with_unfolding_all exact (zlH (ztY ha hb) fun σ H Q hh=>el8 hh fun ad ρ S Q0 st rh q k =>
 ⟨ad,ρ,S,_,st,rh,q,fun b S' H' ad' q' w st'=>by
  cases b with
  | false=>rw [if_neg Bool.false_ne_true] at q' ⊢; exact ⟨ad',ρ,S',Q0,st',rh.wd w,q',fun b S' H' ad' q w'=>k b S' H' ad' q (w.trans w')⟩
  | true=>rw [if_pos rfl] at q' ⊢; exact k _ S' H' ad' q' w st'⟩)
theorem zh7 {op} {t : DE} (h : PD X a t) : PD X (.BoolOp op [a] pos) t:=by with_unfolding_all exact (zst h)
theorem zhi (ha : PD X a ta) (hb : PD X (.BoolOp .And (b :: rest) pos) tb) : PD X (.BoolOp .And (a :: b :: rest) pos) (zhj ta tb):=by with_unfolding_all exact (za1 (zrZ ha hb) fun σ H Q hh=>el8 hh fun ad ρ S Q0 st rh q k =>
 ⟨ad,ρ,S,_,st,rh,q,fun d S' v H' ad' ⟨c,e,q'⟩ w st' r=>by
  subst e
  cases r
  refine ⟨c,rfl,?_⟩
  cases c with
  | true=>rw [if_pos rfl] at q' ⊢; exact ⟨ad',ρ,S',Q0,st',rh.wd w,q',k.wd w⟩
  | false=>rw [if_neg Bool.false_ne_true] at q' ⊢; exact k _ S' _ H' ad' q' w st' (.bl _)⟩)
theorem zrG (ha : PD X a ta) (hb : PD X (.BoolOp .Or (b :: rest) pos) tb) : PD X (.BoolOp .Or (a :: b :: rest) pos) (zoX ta tb):=by with_unfolding_all exact (za1 (zun ha hb) fun σ H Q hh=>el8 hh fun ad ρ S Q0 st rh q k =>
 ⟨ad,ρ,S,_,st,rh,q,fun d S' v H' ad' ⟨c,e,q'⟩ w st' r=>by
  subst e
  cases r
  refine ⟨c,rfl,?_⟩
  cases c with
  | false=>rw [if_neg Bool.false_ne_true] at q' ⊢; exact ⟨ad',ρ,S',Q0,st',rh.wd w,q',k.wd w⟩
  | true=>rw [if_pos rfl] at q' ⊢; exact k _ S' _ H' ad' q' w st' (.bl _)⟩)
theorem zha (ha : PD X a ta) : PD X (.UnaryOp .Not a pos) (zgX ta):=by with_unfolding_all exact (za1 (zsL ha) fun σ H Q hh=>el8 hh fun ad ρ S Q0 st rh q k =>
 ⟨ad,ρ,S,_,st,rh,q,fun d S' v H' ad' ⟨c,e,q'⟩ w st' r=>by
  subst e
  cases r
  exact ⟨c,rfl,k _ S' _ H' ad' q' w st' (.bl _)⟩⟩)
end
section
variable {X : Cx} {a b e : Expr} {es : List Expr} {ta tb te : DE} {t : DA} {pos : Pos}
theorem zq : PAD X [] zA:=by with_unfolding_all exact (zlD zsP fun σ H Q hh=>el8 hh fun ad ρ S Q0 st rh q k=>k [] S [] H ad q Wd.refl st .nil)
theorem zc (ha : PD X e te) (hr : PAD X es t) (hs : starEach (e :: es) X.env = (false,eval e X.env) :: starEach es X.env:=by exact zbj rfl) : PAD X (e :: es) (zf te t):=by with_unfolding_all exact (zlD (zp8 ha hr hs) fun σ H Q hh=>el8 hh fun ad ρ S Q0 st rh q k =>
 ⟨ad,ρ,S,_,st,rh,q,fun d S1 v H1 ad1 q1 w1 st1 r1=>⟨ad1,ρ,S1,_,st1,rh.wd w1,q1,fun ds S2 vs H2 ad2 q2 w2 st2 r2=>k _ S2 _ H2 ad2 q2 (w1.trans w2) st2 (.cons (r1.wd w2) r2)⟩⟩)
theorem zX {x1} (h : PAD X es t) : PD X (.Tuple es x1 pos) (dTup t):=by with_unfolding_all exact (za1 (zsr h) fun σ H Q hh=>el8 hh fun ad ρ S Q0 st rh q k =>
 ⟨ad,ρ,S,_,st,rh,q,fun ds S1 vs H1 ad1 ⟨hz,q1⟩ w1 st1 r1=>⟨by rw [← r1.length]; exact zdl hz,fun p hp=>ziz st1 (k.wd w1) r1 q1 p hp⟩⟩)
theorem zaP (h : PAD X es t) : PD X (.List es pos) (zbo t):=by with_unfolding_all exact (za1 (zsJ h) fun σ H Q hh=>el8 hh fun ad ρ S Q0 st rh q k =>
 ⟨ad,ρ,S,_,st,rh,q,fun ds S1 vs H1 ad1 ⟨hz,q1⟩ w1 st1 r1=>⟨by rw [← r1.length]; exact zdl hz,fun p hp=>zfm st1 (k.wd w1) r1 q1 p hp⟩⟩)
theorem zrK {xs : List D} {i : Int} {d : D} (h : atD xs i = some d) {K : PySem.W.Frag} {ad : List Addr} {H : Hp} {vs : List V} (r : zK K ad H xs vs) : ∃ v,atI vs i = some v∧Rel K ad H d v:=by
 have e : ixN vs.length i = ixD xs.length i:=by rw [r.length]; rfl
 unfold atD at h
 unfold atI
 rw [e]
 cases q : ixD xs.length i with
 | none=>rw [q] at h; cases h
 | some j =>
  rw [q] at h
  exact r.get h
theorem zy (ha : PD X a ta) (hb : PD X b tb) (hs : zlK b) : PD X (.Subscript a b pos) (dOp oIx ta tb):=by with_unfolding_all exact (za1 (ztN (zqA.or (zrP.or zsl)) ha hb hs) fun _ _ _=>zh8 fun ad H S x y v u Q0 Q st rx ry h k=>by
 rcases h with ⟨i,xs,d,ey,hx,e,q⟩ | ⟨z,i,c,rfl,rfl,hz,e,q⟩
 case inr =>
  cases rx
  cases ry
  exact .inr (.inr ⟨z,i,c,rfl,rfl,zdl hz,e,k _ S _ H ad q Wd.refl st (.str _)⟩)
 subst ey
 cases ry
 obtain ⟨p,vs,rfl,hs,r⟩:=hx.sq st rx
 obtain ⟨z,ez,rz⟩:=zrK e r
 rcases hs with hs | hs
 ·exact .inl ⟨p,vs,i,z,rfl,rfl,hs,ez,k _ S _ H ad q Wd.refl st rz⟩
 ·exact .inr (.inl ⟨p,vs,i,z,rfl,rfl,hs,ez,k _ S _ H ad q Wd.refl st rz⟩))
def upO (K : PySem.W.Frag) (t : Option DE) : TO:=fun σ H Q=>∃ ad ρ S Q0,zR K ad H S∧zaz K ad H ρ σ∧zhJ t ρ S Q0∧∀ o S' H' ad',Q0 o S'→Wd ad H ad' H'→zR K ad' H' S'→Q o H'
theorem ziJ : PO X none (upO X.K none):=fun pins s σ H Q I hh=>el8 hh fun ad ρ S Q0 st rh q k=>zqg pins s σ H Q I (k none S H ad q Wd.refl st)
theorem zfu {t : DE} (h : PD X e t) : PO X (some e) (upO X.K (some t)):=by with_unfolding_all exact (fun pins s σ H Q I hh=>el8 hh fun ad ρ S Q0 st rh q k=>zqX h pins s σ H Q I ⟨ad,ρ,S,_,st,rh,q,fun d S' v H' ad' ⟨i,e,q'⟩ w st' r=>by
 subst e
 cases r
 exact ⟨i,rfl,k _ S' H' ad' q' w st'⟩⟩)
theorem zlI {K : PySem.W.Frag} {ad : List Addr} {H : Hp} {xs : List D} {vs : List V} (lo hi : Option Int) (r : zK K ad H xs vs) : zK K ad H (cutD xs lo hi) (zf0 vs lo hi):=by
  have e1 : HT.sIx vs.length 0 lo = slD xs.length 0 lo:=by
    rw [r.length]; cases lo with
    | none=>rfl
    | some k=>show HT.sIx _ _ (some k) = _; unfold HT.sIx slD; first | rfl | (simp only []; split <;> omega)
  have e2 : HT.sIx vs.length vs.length hi = slD xs.length xs.length hi:=by
    rw [r.length]; cases hi with
    | none=>rfl
    | some k=>show HT.sIx _ _ (some k) = _; unfold HT.sIx slD; first | rfl | (simp only []; split <;> omega)
  unfold cutD zf0
  rw [e1,e2]
  exact (r.drop _).take _
def zt9 (K : PySem.W.Frag) : V→Option Int→Option Int→Hp→VK→Prop:=fun x lo hi H Q=>∃ a xs,x = .ref a∧SqT K H a xs ∧
 ((HT.sIx xs.length 0 lo = 0∧HT.sIx xs.length xs.length hi = xs.length)→Q (.ref a) H)∧(¬ (HT.sIx xs.length 0 lo = 0∧HT.sIx xs.length xs.length hi = xs.length)→∀ p,H p = none→Q (.ref p) (upd H p (.tup (zf0 xs lo hi))))
theorem zju {prog : Program} {w : World} {A : Around} {E : Value→Shared→Prop} {s : Shared} {t sl : Addr} {items : Array Value} {vl vu : Value} {lo hi : Option Int} {Q : Value→Shared→Prop} (ht : IsTup s.heap t items) (hs : s.heap.IsSliceOf sl vl vu .none) (pl : IsPart vl lo) (pu : IsPart vu hi)
  (hw : HT.sIx items.size 0 lo = 0∧HT.sIx items.size items.size hi = items.size) (h : Q (.ref t) s) : wpAny (model prog w) A (getItem (.ref t) (.ref sl)) Q E s:=by
 obtain ⟨os,hos,hcs,hds⟩:=id hs
 have hTs : s.TypeIs (.ref sl) "slice":=⟨os,hos,hcs⟩
 unfold getItem
 try with_reducible refine wpAny_holding ?_
 first | refine wpAny_bind (wpAny_pure ?_) | skip
 refine wpAny_bind (wpAny_sequenceKey ht.typeIs (by decide) ?_)
 refine wpAny_bind (wpAny_callSpecial?_slot (name:=Str.ofString "__getitem__") ht.typeIs PyProof.Rows.slot_tuple_getitem
  (wpAny_call_entry PyProof.Rows.slot_tuple_getitem ht.typeIs PyProof.Rows.entry_tuple_getitem ?_ (PyProof.Rows.args_tuple_getitem _ _)))
 show wpAny _ _ (Builtin.Tuple.tupleItemsOf (.ref t) >>= _) _ _ s
 refine wpAny_bind (tupleItemsOf_ ht ?_)
 refine wpAny_bind (wpAny_typeOf hTs ?_)
 rw [if_pos (by decide)]
 refine wpAny_bind (HT.zey hs pl pu ?_)
 show wpAny _ _ (if (((HT.sIx items.size 0 lo : Nat) : Int) == 0 && (1 : Int) == 1 && (HT.sIx items.size items.size hi - HT.sIx items.size 0 lo) == items.size) = true then _ else _) _ _ s
 rw [if_pos (by rw [hw.1,hw.2]; simp)]
 unfold Builtin.Tuple.tupleIsExact
 refine wpAny_bind (wpAny_bind (wpAny_typeOf ht.typeIs (wpAny_pure ?_)))
 rw [if_pos (by decide)]
 refine wpAny_bind (wpAny_rule ?_)
 first
  | exact wpAny_pure ⟨_,rfl,wpAny_pure h⟩
  | exact wpAny_bind (wpAny_pure ⟨_,rfl,wpAny_pure h⟩)
  | exact wpAny_bind (wpAny_pure (wpAny_pure ⟨_,rfl,wpAny_pure h⟩))
  | trace_state
theorem zqP : SlR X (zt9 X.K):=by
 intro pins s σ H x v vl vu lo hi sl Q I rx hs pl pu h
 obtain ⟨a,xs,rfl,hx,q1,q2⟩:=h
 by_cases hw : HT.sIx xs.length 0 lo = 0∧HT.sIx xs.length xs.length hi = xs.length
 ·cases rx
  obtain ⟨its,r,ht,hz⟩:=I.tuple hx
  have hlen : its.toArray.size = xs.length:=by rw [List.size_toArray]; exact r.length.symm
  refine ⟨"tuple",_,PyProof.Rows.slot_tuple_getitem.lookup,ht.typeIs,?_⟩
  exact zju ht hs pl pu (by rw [hlen]; exact hw) ⟨.ref a,H,I,rfl,q1 hw⟩
 ·exact zsQ pins s σ H (.ref a) v vl vu lo hi sl Q I rx hs pl pu ⟨a,xs,rfl,hx,hw,q2 hw⟩
theorem zn5 {α : Type} (xs : List α) (lo hi : Option Int) (h1 : slD xs.length 0 lo = 0) (h2 : slD xs.length xs.length hi = xs.length) : cutD xs lo hi = xs:=by
 unfold cutD; rw [h1,h2]; simp
theorem zrk (n d : Nat) (o : Option Int) : HT.sIx n d o = slD n d o:=by
 cases o with
 | none=>rfl
 | some k=>rfl
theorem zjR {lo hi : Option Expr} {tl th : Option DE} {p2 : Pos} (ha : PD X a ta) (hl : PO X lo (upO X.K tl)) (hh : PO X hi (upO X.K th)) : PD X (.Subscript a (.Slice lo hi none p2) pos) (dSl zhV ta tl th):=by with_unfolding_all exact (za1 (zpf (zqK.or zqP) ha hl hh) fun σ H Q hh=>el8 hh fun ad ρ S Q0 st rh q k =>
 ⟨ad,ρ,S,_,st,rh,q,fun x S1 v H1 ad1 q1 w1 st1 r1=>⟨ad1,ρ,S1,_,st1,rh.wd w1,q1,fun l S2 H2 ad2 q2 w2 st2=>⟨ad2,ρ,S2,_,st2,rh.wd (w1.trans w2),q2,fun h S3 H3 ad3 q3 w3 st3=>by
  have r3:=r1.wd (w2.trans w3)
  have k3:=k.wd ((w1.trans w2).trans w3)
  rcases q3 with ⟨xs,rfl,q3⟩ | ⟨xs,hx,q3⟩
  ·cases r3 with
   | tup h1 r =>
    refine .inr ⟨_,_,rfl,SqT.of h1,fun ⟨z1,z2⟩=>?_,fun _ p hp=>ziz st3 k3 (zlI _ _ r) q3 p hp⟩
    rw [zrk,← r.length] at z1 z2
    rw [zn5 xs _ _ z1 z2] at q3
    exact k3 _ S3 _ H3 ad3 q3 Wd.refl st3 (.tup h1 r)
  ·obtain ⟨p,vs,rfl,hs,r⟩:=hx.sq st3 r3
   exact .inl ⟨p,vs,rfl,hs,fun l hl=>zfm st3 k3 (zlI _ _ r) q3 l hl⟩⟩⟩⟩)
end
end Dp
namespace Dp
open PySem PySem.Spec PyProof.Rows L2 My
variable [B : Bs]
section
variable {X : Cx} {a e : Expr} {es : List Expr} {ta te : DE} {t : DA} {pos p : Pos}
theorem zG {k j : Nat} {x : Str} {ps : List Str} {f : DSp} (G : Got X.prog X.w X.K X.mg X.base k x ps (upF X.K f)) (hr : zaI j X.A) (hk : k ≤ j) (hg : Gl X x)
  (ha : PAD X (e :: es) t) (hdb : (x == ("__debug__" : Str)) = false:=by decide) (he : starEach (e :: es) X.env = (false,eval e X.env) :: starEach es X.env:=by exact zbj rfl) (hpl : (backTo pos (starEach es X.env)).any (·.1) = false:=by exact zc3 rfl) :
  PD X (.Call (.Name x p) (e :: es) [] pos) (dCall f t):=by with_unfolding_all exact (za1 (ztj G hr hk hg ha hdb he hpl) fun σ H Q hh=>el8 hh fun ad ρ S Q0 st rh q k =>
 ⟨ad,ρ,S,_,st,rh,q,fun ds S1 vs H1 ad1 q1 w1 st1 r1=>by
  show upF X.K f (vs ++ []) H1 Q E0
  rw [List.append_nil]; exact ⟨ad1,S1,ds,Q0,st1.base,r1,q1,(k.wd w1).base st1⟩⟩)
def BD (K : PySem.W.Frag) (r' : DB) (r : List V→Hp→VK→Prop) : Prop:=∀ ad H S ds vs Q0 Q,zR K ad H S→zK K ad H ds vs→r' ds S Q0→KK K ad H Q0 Q→r vs H Q
def BC (X : Cx) (f : Value) (r' : DB) : Prop:=∃ r,zaA X f r∧BD X.K r' r
theorem zaj {x : Str} {id : String} {r' : DB} (o : BC X (.builtin id) r') (hg : Gl X x) (hm : X.mg x = none) (hv : bootBuiltins x = some (.builtin id)) (ha : PAD X (e :: es) t) (hn : x ≠ "__name__":=by decide) (hdb : (x == ("__debug__" : Str)) = false:=by decide)
  (he : starEach (e :: es) X.env = (false,eval e X.env) :: starEach es X.env:=by exact zbj rfl) (hpl : (backTo pos (starEach es X.env)).any (·.1) = false:=by exact zc3 rfl) : PD X (.Call (.Name x p) (e :: es) [] pos) (dB r' t):=by
 with_unfolding_all
  obtain ⟨r,ho,od⟩:=o
  exact za1 (zps ho hg hm hv ha hn hdb he hpl) fun σ H Q hh=>el8 hh fun ad ρ S Q0 st rh q k =>
   ⟨ad,ρ,S,_,st,rh,q,fun ds S1 vs H1 ad1 q1 w1 st1 r1=>od ad1 H1 S1 ds vs Q0 Q st1 r1 q1 (k.wd w1)⟩
theorem zeY {x : Str} {T : String} {r' : DB} (o : BC X (.type T) r') (hg : Gl X x) (hm : X.mg x = none) (hv : bootBuiltins x = some (.type T)) (ha : PAD X (e :: es) t) (hn : x ≠ "__name__":=by decide) (hdb : (x == ("__debug__" : Str)) = false:=by decide)
  (he : starEach (e :: es) X.env = (false,eval e X.env) :: starEach es X.env:=by exact zbj rfl) (hpl : (backTo pos (starEach es X.env)).any (·.1) = false:=by exact zc3 rfl) : PD X (.Call (.Name x p) (e :: es) [] pos) (dB r' t):=by
 with_unfolding_all
  obtain ⟨r,ho,od⟩:=o
  exact za1 (znJ ho hg hm hv ha hn hdb he hpl) fun σ H Q hh=>el8 hh fun ad ρ S Q0 st rh q k =>
   ⟨ad,ρ,S,_,st,rh,q,fun ds S1 vs H1 ad1 q1 w1 st1 r1=>od ad1 H1 S1 ds vs Q0 Q st1 r1 q1 (k.wd w1)⟩
theorem zbI {K : PySem.W.Frag} {ad : List Addr} {H : Hp} {d : D} {vs : List V} (r : zK K ad H [d] vs) : ∃ v,vs = [v]∧Rel K ad H d v:=by
 cases r with
 | cons r t=>cases t; exact ⟨_,rfl,r⟩
theorem zhz {K : PySem.W.Frag} {ad : List Addr} {H : Hp} {d e : D} {vs : List V} (r : zK K ad H [d,e] vs) : ∃ v u,vs = [v,u]∧Rel K ad H d v∧Rel K ad H e u:=by
 cases r with
 | cons r t =>
  obtain ⟨u,rfl,r2⟩:=zbI t
  exact ⟨_,_,rfl,r,r2⟩
theorem zas : BC X (.builtin "len") zaS:=⟨_,zm5.or zkn,fun ad H S ds vs Q0 Q st r h k=>by
 rcases h with ⟨x,xs,e,hx,q⟩ | ⟨z,e,hz,q⟩
 case inr =>
  subst e
  obtain ⟨v,rfl,rv⟩:=zbI r
  cases rv
  exact .inr ⟨z,rfl,zdl hz,k _ S _ H ad q Wd.refl st (.int _)⟩
 subst e
 obtain ⟨v,rfl,rv⟩:=zbI r
 obtain ⟨a,ws,rfl,hs,rs⟩:=hx.sq st rv
 exact .inl ⟨a,ws,rfl,hs,k _ S _ H ad (by rw [rs.length] at q; exact q) Wd.refl st (.int _)⟩⟩
theorem zkw : BC X (.builtin "abs") zkt:=⟨_,znp,fun ad H S ds vs Q0 Q st r ⟨i,e,q⟩ k=>by
 subst e
 obtain ⟨v,rfl,rv⟩:=zbI r
 cases rv
 exact ⟨i,rfl,k _ S _ H ad q Wd.refl st (.int _)⟩⟩
theorem ztq (i j : Int) : (if j > i then j else i) = max i j:=by
  rw [Int.max_def]; split <;> split <;> omega
theorem zrX (i j : Int) : (if j < i then j else i) = min i j:=by
  rw [Int.min_def]; split <;> split <;> omega
theorem zdO (hc : X.calm = true:=by rfl) : BC X (.builtin "max") zeg:=⟨_,zn8 hc,fun ad H S ds vs Q0 Q st r ⟨i,j,e,q⟩ k=>by
 subst e
 obtain ⟨v,u,rfl,rv,ru⟩:=zhz r
 cases rv
 cases ru
 exact ⟨i,j,rfl,by rw [ztq]; exact k _ S _ H ad q Wd.refl st (.int _)⟩⟩
theorem zet (hc : X.calm = true:=by rfl) : BC X (.builtin "min") zeR:=⟨_,znA hc,fun ad H S ds vs Q0 Q st r ⟨i,j,e,q⟩ k=>by
 subst e
 obtain ⟨v,u,rfl,rv,ru⟩:=zhz r
 cases rv
 cases ru
 exact ⟨i,j,rfl,by rw [zrX]; exact k _ S _ H ad q Wd.refl st (.int _)⟩⟩
theorem zqq (hc : X.calm = true:=by rfl) : BC X (.builtin "max") zmP:=⟨_,zm4 rfl hc,fun ad H S ds vs Q0 Q st r ⟨x,ns,e,hx,h0,q⟩ k=>by
 subst e
 obtain ⟨v,rfl,rv⟩:=zbI r
 obtain ⟨a,ws,rfl,hs,rs⟩:=hx.sq st rv
 cases rs.ints
 exact ⟨a,ns,rfl,hs,h0,fun m h1 h2=>k _ S _ H ad (q m h1 h2) Wd.refl st (.int _)⟩⟩
theorem zrp (hc : X.calm = true:=by rfl) : BC X (.builtin "min") zl1:=⟨_,zn9 rfl hc,fun ad H S ds vs Q0 Q st r ⟨x,ns,e,hx,h0,q⟩ k=>by
 subst e
 obtain ⟨v,rfl,rv⟩:=zbI r
 obtain ⟨a,ws,rfl,hs,rs⟩:=hx.sq st rv
 cases rs.ints
 exact ⟨a,ns,rfl,hs,h0,fun m h1 h2=>k _ S _ H ad (q m h1 h2) Wd.refl st (.int _)⟩⟩
theorem zgA (hc : X.calm = true:=by rfl) : BC X (.builtin "all") zgR:=⟨_,zno rfl hc,fun ad H S ds vs Q0 Q st r ⟨x,ns,e,hx,q⟩ k=>by
 subst e
 obtain ⟨v,rfl,rv⟩:=zbI r
 obtain ⟨a,ws,rfl,hs,rs⟩:=hx.sq st rv
 cases rs.bls
 exact ⟨a,ns,rfl,hs,k _ S _ H ad q Wd.refl st (.bl _)⟩⟩
theorem zoP : BC X (.type "tuple") zkL:=⟨_,znk rfl,fun ad H S ds vs Q0 Q st r ⟨x,xs,e,hx,q⟩ k=>by
 subst e
 obtain ⟨v,rfl,rv⟩:=zbI r
 rcases hx with rfl | hx
 ·cases rv with
  | tup h rr=>exact ⟨_,_,rfl,.inr ⟨SqT.of h,k _ S _ H ad q Wd.refl st (.tup h rr)⟩⟩
 ·obtain ⟨a,ws,rfl,hs,rs⟩:=hx.sq st rv
  exact ⟨a,ws,rfl,.inl ⟨hs,fun l hl=>ziz st k rs q l hl⟩⟩⟩
theorem zeo : BC X (.type "list") zeO:=⟨_,zmN,fun ad H S ds vs Q0 Q st r ⟨x,xs,e,hx,q⟩ k=>by
 subst e
 obtain ⟨v,rfl,rv⟩:=zbI r
 obtain ⟨a,ws,rfl,hs,rs⟩:=hx.sq st rv
 exact ⟨a,ws,rfl,hs,fun l hl=>zfm st k rs q l hl⟩⟩
theorem zse : BC X (.type "int") zo0:=⟨_,zoe,fun ad H S ds vs Q0 Q st r h k=>by
 rcases h with ⟨i,rfl,q⟩ | ⟨b,rfl,q⟩
 ·obtain ⟨v,rfl,rv⟩:=zbI r
  cases rv
  exact .inl ⟨i,rfl,k _ S _ H ad q Wd.refl st (.int _)⟩
 ·obtain ⟨v,rfl,rv⟩:=zbI r
  cases rv
  exact .inr ⟨b,rfl,k _ S _ H ad q Wd.refl st (.int _)⟩⟩
section
variable {K : PySem.W.Frag}
theorem zrt (t : String) (h : ziG t = true) : PySem.W.kitOne K (.type "NoneType") (.type t) = some false∧PySem.W.kitOne K (.type "bool") (.type t) = some (t == "bool" || t == "int")∧PySem.W.kitOne K (.type "int") (.type t) = some (t == "int") ∧
  PySem.W.kitOne K (.type "str") (.type t) = some (t == "str")∧PySem.W.kitOne K (.type "tuple") (.type t) = some (t == "tuple")∧PySem.W.kitOne K (.type "list") (.type t) = some (t == "list"):=by
 unfold ziG at h
 simp only [Bool.or_eq_true,beq_iff_eq] at h
 rcases h with (((rfl | rfl) | rfl) | rfl) | rfl
 ·exact ⟨by kernel_rfl,by kernel_rfl,by kernel_rfl,by kernel_rfl,by kernel_rfl,by kernel_rfl⟩
 ·exact ⟨by kernel_rfl,by kernel_rfl,by kernel_rfl,by kernel_rfl,by kernel_rfl,by kernel_rfl⟩
 ·exact ⟨by kernel_rfl,by kernel_rfl,by kernel_rfl,by kernel_rfl,by kernel_rfl,by kernel_rfl⟩
 ·exact ⟨by kernel_rfl,by kernel_rfl,by kernel_rfl,by kernel_rfl,by kernel_rfl,by kernel_rfl⟩
 ·exact ⟨by kernel_rfl,by kernel_rfl,by kernel_rfl,by kernel_rfl,by kernel_rfl,by kernel_rfl⟩
end
theorem ziq : BC X (.builtin "isinstance") zgM:=⟨_,zoC,fun ad H S ds vs Q0 Q st r ⟨x,t,b,e,h,q⟩ k=>by
 subst e
 obtain ⟨v,u,rfl,rv,ru⟩:=zhz r
 cases ru
 have fin:=k _ S _ H ad q Wd.refl st (.bl b)
 unfold zrS at h
 split at h
 ·cases h
 rename_i hty
 have hty' : ziG t = true:=by
  cases hh : ziG t
  ·exact absurd (by show (!ziG t) = true; rw [hh]; rfl) hty
  ·rfl
 obtain ⟨k1,k2,k3,k4,k5,k6⟩:=zrt (K:=X.K) t hty'
 cases rv with
 | non=>cases h; exact ⟨_,_,_,_,rfl,.non,k1,fin⟩
 | bl c=>cases h; exact ⟨_,_,_,_,rfl,.bl c,k2,fin⟩
 | int i=>cases h; exact ⟨_,_,_,_,rfl,.int i,k3,fin⟩
 | str y=>cases h; exact ⟨_,_,_,_,rfl,.str y,k4,fin⟩
 | ty n=>cases h
 | exn _ _ _=>cases h
 | tup ht rt=>cases h; exact ⟨_,_,_,_,rfl,.tup ht,k5,fin⟩
 | rl hl rl=>cases h
 | @ref n a hn =>
  have h : (match S[n]? with | some (.lst _)=>some (t == "list") | _=>none) = some b:=h
  cases hS : S[n]? with
  | none=>rw [hS] at h; cases h
  | some c =>
   rw [hS] at h
   cases c with
   | ins c fs=>cases h
   | lst xs =>
    cases h
    obtain ⟨vs,hv,_⟩:=st.cell n a _ hn hS
    exact ⟨_,_,_,_,rfl,.lst hv,k6,fin⟩⟩
theorem zlw : ∀ {K : PySem.W.Frag} {ad : List Addr} {H : Hp} {cs : List (Int × Int)} {vs : List V},zK K ad H (cs.map p2) vs→∃ ps : List Addr,vs = ps.map V.ref∧ze1 H ps cs
 | _,_,_,[],_,.nil=>⟨[],rfl,.nil⟩
 | _,_,_,c :: cs,_,.cons r t=>by
  obtain ⟨ps,rfl,h⟩:=zlw t
  cases r with
  | tup h1 r1 =>
   obtain ⟨v,u,rfl,rv,ru⟩:=zhz r1
   cases rv
   cases ru
   exact ⟨_ :: ps,rfl,.cons h1 h⟩
theorem zpP : ∀ {K : PySem.W.Frag} {ad : List Addr} {H : Hp} {cs : List (Int × Int)} {ps : List Addr},ze1 H ps cs→zK K ad H (cs.map p2) (ps.map V.ref)
 | _,_,_,_,_,.nil=>.nil
 | _,_,_,_,_,.cons r t=>.cons (.tup r (.cons (.int _) (.cons (.int _) .nil))) (zpP t)
theorem zrV (a b : Int × Int) : plt a b = zhW a b:=by
 unfold plt zhW
 by_cases h : a.1 = b.1
 ·simp [h]
 ·simp [h]
theorem zpi : BC X (.builtin "sorted") zn1:=⟨_,zkq rfl,fun ad H S ds vs Q0 Q st r ⟨x,cs,e,hx,h64,q⟩ k=>by
 subst e
 obtain ⟨v,rfl,rv⟩:=zbI r
 obtain ⟨a,ws,rfl,hs,rs⟩:=hx.sq st rv
 obtain ⟨ps,rfl,hp⟩:=zlw rs
 exact ⟨a,ps,cs,rfl,hs,hp,h64,fun l ps' cs' hl hp' hperm hpw=>zfm st k (zpP hp') (q cs' hperm (hpw.imp fun h=>by rw [← zrV]; exact h)) l hl⟩⟩
def MD (X : Cx) (id : String) (r' : DM) : Prop:=∃ r,MtR X id r∧∀ ad H S x ds v vs Q0 Q,zR X.K ad H S→Rel X.K ad H x v→zK X.K ad H ds vs→r' x ds S Q0→KK X.K ad H Q0 Q→r v vs H Q
theorem ztc {K : PySem.W.Frag} {ad : List Addr} {H : Hp} {S : Sto} {x : D} {v : V} (st : zR K ad H S) (h : ∃ n ys,x = .ref n∧S[n]? = some (.lst ys)) (r : Rel K ad H x v) : tyV K "list" v H:=by
 obtain ⟨n,ys,rfl,h⟩:=h
 cases r with
 | ref e =>
  obtain ⟨vs,hv,_⟩:=st.cell n _ _ e h
  exact .inl ⟨rfl,vs,SqL.of hv⟩
theorem zf3 {o : Expr} {to : DE} {name : Str} {id : String} {apos cpos : Pos} {r' : DM} (slot : Slot "list" name id) (hty : typeOf (.builtin id) = pure (.type "method_descriptor")) (hm : MD X id r') (ho : PD X o to) (ha : PAD X (e :: es) t)
  (hbase : attributeBase o name X.env (eval o X.env) = eval o X.env:=by rfl)
  (hfew : ((backTo cpos (starEach (e :: es) X.env)).all (fun x=>!x.1) && (backToKw cpos (keywordEach [] X.env)).all (fun x=>x.1.isSome)
   && decide ((e :: es).length + ([] : List Keyword).length + (if ([] : List Keyword).isEmpty then 0 else 1) < 30)) = true:=by rfl)
  (hline : (apos.endLine == cpos.line) = true:=by rfl) (hs : starEach (e :: es) X.env = (false,eval e X.env) :: starEach es X.env:=by exact zbj rfl) (hplain : (backTo cpos (starEach es X.env)).any (·.1) = false:=by exact zc3 rfl) :
  PD X (.Call (.Attribute o name apos) (e :: es) [] cpos) (dM r' to t):=by
 with_unfolding_all
  obtain ⟨r,hr,od⟩:=hm
  exact za1 (zt8 PySem.F.plainAttrs_list slot hty hr ho ha hbase hfew hline hs hplain) fun σ H Q hh=>el8 hh fun ad ρ S Q0 st rh q k =>
   ⟨ad,ρ,S,_,st,rh,q,fun x S1 v H1 ad1 ⟨hl,q1⟩ w1 st1 r1=>⟨ztc st1 hl r1,ad1,ρ,S1,_,st1,rh.wd w1,q1,fun ds S2 vs H2 ad2 q2 w2 st2 r2 =>
    od ad2 H2 S2 x ds v vs Q0 Q st2 (r1.wd w2) r2 q2 (k.wd (w1.trans w2))⟩⟩
theorem zbO : MD X "list.append" zb4:=⟨_,zjf,fun ad H S x ds v vs Q0 Q st rx r ⟨n,xs,y,ex,ey,hn,hl,q⟩ k=>by
 subst ex ey
 obtain ⟨u,rfl,ru⟩:=zbI r
 cases rx with
 | ref e =>
  obtain ⟨ws,hw,rw⟩:=st.cell n _ _ e hn
  exact ⟨_,ws,u,rfl,rfl,hw,by rw [← rw.length]; exact zoq hl,k _ _ _ _ ad q (Wd.put e hw) (st.put e hw (rw.append (.cons ru .nil))) .non⟩⟩
theorem zmd : MD X "list.extend" zhX:=⟨_,zmI,fun ad H S x ds v vs Q0 Q st rx r h k=>by
 rcases h with ⟨n,xs,m,ys,ex,ey,hn,hm,hne,hl,q⟩ | ⟨n,xs,ys,ex,ey,hn,hl,q⟩
 ·subst ex ey
  obtain ⟨u,rfl,ru⟩:=zbI r
  cases rx with
  | ref e =>
   cases ru with
   | ref e2 =>
    obtain ⟨ws,hw,rw⟩:=st.cell n _ _ e hn
    obtain ⟨ws2,hw2,rw2⟩:=st.cell m _ _ e2 hm
    exact .inl ⟨_,_,ws,ws2,rfl,rfl,hw,hw2,by rw [← rw.length,← rw2.length]; exact zdl hl,k _ _ _ _ ad q (Wd.put e hw) (st.put e hw (rw.append rw2)) .non⟩
 ·subst ex ey
  obtain ⟨u,rfl,ru⟩:=zbI r
  cases rx with
  | ref e =>
   cases ru with
   | tup h2 rw2 =>
    obtain ⟨ws,hw,rw⟩:=st.cell n _ _ e hn
    exact .inr ⟨_,_,ws,_,rfl,rfl,hw,SqT.of h2,by rw [← rw.length,← rw2.length]; exact zdl hl,k _ _ _ _ ad q (Wd.put e hw) (st.put e hw (rw.append rw2)) .non⟩⟩
end
end Dp
namespace Dp
open PySem PySem.Spec PyProof.Rows L2 My
variable [B : Bs]
def zhA (K : PySem.W.Frag) (b : Nat) (g' : DG) (g : TG) : Prop:=∀ ad H S ρ σ d v Q0 Q,zR K ad H S→zaz K ad H ρ σ→Rel K ad H d v→g' d ρ S Q0 →
 (∀ ρ' S' σ' H' ad',Q0 ρ' S'→Wd ad H ad' H'→zR K ad' H' S'→zaz K ad' H' ρ' σ'→σ'.length = σ.length→(∀ j,b ≤ j→σ'[j]? = σ[j]?)→Q σ' H')→g v σ H Q
def zif (K : PySem.W.Frag) (b : Nat) (g' : DGs) (g : TGs) : Prop:=∀ ad H S ρ σ ds vs Q0 Q,zR K ad H S→zaz K ad H ρ σ→zK K ad H ds vs→g' ds ρ S Q0 →
 (∀ ρ' S' σ' H' ad',Q0 ρ' S'→Wd ad H ad' H'→zR K ad' H' S'→zaz K ad' H' ρ' σ'→σ'.length = σ.length→(∀ j,b ≤ j→σ'[j]? = σ[j]?)→Q σ' H')→g vs σ H Q
def PGD (X : Cx) (b : Nat) (tg : Expr) (g' : DG) : Prop:=∃ g,PG X tg g∧zhA X.K b g' g
def zl7 (X : Cx) (b : Nat) (tgs : List Expr) (g' : DGs) : Prop:=∃ g,PGs X tgs g∧zif X.K b g' g
theorem zaz.set {K : PySem.W.Frag} {ad : List Addr} {H : Hp} {ρ : Rho} {σ : L2.St} {d : D} {v : V} (h : zaz K ad H ρ σ) (r : Rel K ad H d v) (i : Nat) : zaz K ad H (ρ.set i (some d)) (σ.set i (some v)) where
 len:=by rw [List.length_set,List.length_set]; exact h.len
 val:=fun j e q=>by
  by_cases hj : j = i
  ·subst hj
   have hl : j < ρ.length:=by have:=My.za7 q; rw [List.length_set] at this; exact this
   rw [List.getElem?_set_self hl] at q
   cases q
   exact ⟨v,List.getElem?_set_self (by rw [← h.len]; exact hl),r⟩
  ·rw [List.getElem?_set_ne (Ne.symm hj)] at q
   obtain ⟨u,e1,r1⟩:=h.val j e q
   exact ⟨u,by rw [List.getElem?_set_ne (Ne.symm hj)]; exact e1,r1⟩
section
variable {X : Cx} {pos : Pos} {b : Nat}
theorem zam {K : PySem.W.Frag} (i : Nat) (hb : i < b) : zhA K b (zE i) (L2.zE i):=fun ad H S ρ σ d v Q0 Q st rh r q k =>
 k _ S _ H ad q Wd.refl st (rh.set r i) (List.length_set ..) fun j hj=>List.getElem?_set_ne (by omega)
theorem zaa {i : Nat} {x : Str} (hN : X.N.Nodup) (hi : X.N[i]? = some x) (hx : Loc X.env.scope x) (hf : X.fn x = true∨X.env.scope.names.lookup x = some .local:=by first | exact .inl rfl | exact .inr rfl | assumption) (hb : i < b:=by decide) : PGD X b (.Name x pos) (zE i) :=
 ⟨_,zay hN hi hx hf,zam i hb⟩
theorem zer : zl7 X b [] zc0:=⟨_,zg0,fun ad H S ρ σ ds vs Q0 Q st rh r ⟨e,q⟩ k=>by
 subst e
 cases r
 exact ⟨rfl,k ρ S σ H ad q Wd.refl st rh rfl fun _ _=>rfl⟩⟩
theorem zat {e : Expr} {es : List Expr} {t : DG} {u : DGs} (h1 : PGD X b e t) (h2 : zl7 X b es u) (hs : (assignEach (e :: es) X.env).map (·.2) = assign e X.env :: (assignEach es X.env).map (·.2):=by rfl) : zl7 X b (e :: es) (zaq t u):=by
 obtain ⟨g1,p1,r1⟩:=h1
 obtain ⟨g2,p2,r2⟩:=h2
 refine ⟨_,zco p1 p2 hs,fun ad H S ρ σ ds vs Q0 Q st rh r ⟨d,rs,ed,q⟩ k=>?_⟩
 subst ed
 cases r with
 | cons r t =>
  refine ⟨_,_,rfl,r1 ad H S ρ σ d _ _ _ st rh r q fun ρ1 S1 σ1 H1 ad1 q1 w1 st1 rh1 l1 a1=>?_⟩
  exact r2 ad1 H1 S1 ρ1 σ1 _ _ _ _ st1 rh1 (t.wd w1) q1 fun ρ2 S2 σ2 H2 ad2 q2 w2 st2 rh2 l2 a2=>k ρ2 S2 σ2 H2 ad2 q2 (w1.trans w2) st2 rh2 (l2.trans l1) fun j hj=>(a2 j hj).trans (a1 j hj)
theorem zep {es : List Expr} {k n : Nat} {t : DGs} (hc : X.calm = true) (h : zl7 X b es t) (hn : (assignEach es X.env).length = n:=by rfl) (hst : (assignEach es X.env).findIdx? (·.1) = none:=by rfl) : PGD X b (.Tuple es k pos) (zc4 n t):=by
 obtain ⟨g,p,r⟩:=h
 refine ⟨_,zh4 hc p hn hst,fun ad H S ρ σ d v Q0 Q st rh rv ⟨xs,ed,hl,q⟩ k=>?_⟩
 subst ed
 cases rv with
 | tup h1 rs=>exact ⟨_,_,rfl,SqT.of h1,by rw [← rs.length]; exact hl,r ad H S ρ σ xs _ _ _ st rh rs q k⟩
theorem zlz {o i : Expr} {to ti : DE} (ho : PD X o to) (hi : PD X i ti)
  (ha : ∀ v,assign (.Subscript o i pos) X.env v = (do
   let ov ← holding [v] (eval o X.env)
   let iv ← holding [v,ov] (eval i X.env)
   standAt pos
   holding [v,ov,iv] (setItem ov iv v)
   release [v,ov,iv] []):=by intro _; rfl) : PGD X b (.Subscript o i pos) (ziX to ti):=by with_unfolding_all exact (⟨_,zsM ho hi set_list ha,fun ad H S ρ σ d v Q0 Q st rh r q k=>⟨ad,ρ,S,_,st,rh,q,fun x S1 u H1 ad1 q1 w1 st1 r1=>⟨ad1,ρ,S1,_,st1,rh.wd w1,q1,fun y S2 z H2 ad2 q2 w2 st2 r2=>by
  obtain ⟨n,xs,kk,j,ex,ey,hn,hj,q3⟩:=q2
  subst ex ey
  cases r2
  cases r1 with
  | ref e =>
   have e2:=ziE w2.pre e
   obtain ⟨ws,hw,rw⟩:=st2.cell n _ _ e2 hn
   have rd:=r.wd (w1.trans w2)
   exact ⟨_,ws,kk,j,rfl,rfl,hw,by rw [← rw.length]; exact hj,k ρ _ σ _ ad2 q3 ((w1.trans w2).trans (Wd.put e2 hw)) (st2.put e2 hw (rw.set rd j)) (rh.wd ((w1.trans w2).trans (Wd.put e2 hw))) rfl fun _ _=>rfl⟩⟩⟩⟩)
variable {st : Stmt} {sts : List Stmt} {t u : DS} {e : Expr} {te : DE}
theorem zP : ze8 X [] zac:=by with_unfolding_all exact (zj1 zqN fun E σ H hh=>el8 hh fun ad ρ S E0 so rh q k=>k.nx ρ S σ H ad q Wd.refl so rh)
theorem zB (h : PSD X st t) : ze8 X [st] t:=by with_unfolding_all exact (zq4 h)
theorem zu (h1 : PSD X st t) (h2 : ze8 X sts u) : ze8 X (st :: sts) (zH t u):=by with_unfolding_all exact (zj1 (zoJ h1 h2) fun E σ H hh=>el8 hh fun ad ρ S E0 so rh q k =>
 ⟨ad,ρ,S,{ E0 with nx:=u E0 },so,rh,q,⟨fun ρ' S' σ' H' ad' q' w st' rh'=>⟨ad',ρ',S',E0,st',rh',q',k.wd w⟩,k.rt,k.bk,k.ct⟩⟩)
theorem za6 : PSD X st zbY:=by with_unfolding_all exact (zbl zpB fun E σ H hh=>el8 hh fun ad ρ S E0 so rh q k=>q)
theorem zaB (he : PD X e te) (hs : swapsWith e none pos.line X.env = pure false:=by rfl) : PSD X (.Expr e pos) (zbe te):=by with_unfolding_all exact (zbl (zq3 he hs) fun E σ H hh=>el8 hh fun ad ρ S E0 so rh q k =>
 ⟨ad,ρ,S,_,so,rh,q,fun d S' v H' ad' q' w st' r=>k.nx ρ S' σ H' ad' q' w st' (rh.wd w)⟩)
theorem zL (he : PD X e te) : PSD X (.Return (some e) pos) (z9 te):=by with_unfolding_all exact (zbl (zsC he) fun E σ H hh=>el8 hh fun ad ρ S E0 so rh q k=>⟨ad,ρ,S,_,so,rh,q,k.rt⟩)
theorem zdY (h : PSD X st t) : PSD X st (sJ t):=by with_unfolding_all exact (zbl h fun E σ H ⟨ad,ρ,S,E0,so,rh,⟨J,hJ,q⟩,k⟩ =>
 ⟨ad,ρ,S,{ E0 with nx:=J },so,rh,q,⟨fun ρ' S' σ' H' ad' q' w st' rh'=>k.nx ρ' S' σ' H' ad' (hJ _ _ q') w st' rh',k.rt,k.bk,k.ct⟩⟩)
theorem zV {c : Expr} {a b : List Stmt} {tc : DT} (hc : PTD X c tc) (ha : ze8 X a t) (hb : ze8 X b u) : PSD X (.If c a b pos) (sIf tc t u):=by with_unfolding_all exact (zbl (zuJ hc ha hb) fun E σ H hh=>el8 hh fun ad ρ S E0 so rh q k =>
 ⟨ad,ρ,S,_,so,rh,q,fun b S' H' ad' q' w st'=>by
  cases b with
  | true=>rw [if_pos rfl] at q' ⊢; exact ⟨ad',ρ,S',E0,st',rh.wd w,q',k.wd w⟩
  | false=>rw [if_neg Bool.false_ne_true] at q' ⊢; exact ⟨ad',ρ,S',E0,st',rh.wd w,q',k.wd w⟩⟩)
theorem zF {i : Nat} {x : Str} {pos' : Pos} (hN : X.N.Nodup) (hi : X.N[i]? = some x) (hx : Loc X.env.scope x) (he : PD X e te) (hs : swapsWith e (some (.Name x pos')) pos.line X.env = pure false:=by rfl) (hf : X.fn x = true∨X.env.scope.names.lookup x = some .local:=by first | exact .inl rfl | exact .inr rfl | assumption) :
  PSD X (.Assign [.Name x pos'] e pos) (zN te (zE i)):=by with_unfolding_all exact (zbl (zs0 hN hi hx he hs hf) fun E σ H hh=>el8 hh fun ad ρ S E0 so rh q k =>
 ⟨ad,ρ,S,_,so,rh,q,fun d S' v H' ad' q' w st' r=>k.nx _ S' _ H' ad' q' w st' ((rh.wd w).set r i)⟩)
theorem zg6 {tg : Expr} {g : DG} (he : PD X e te) (hg : PGD X 1000 tg g) (hs : swapsWithSole [tg] e pos.line X.env = pure false:=by rfl) (hw : swappedStores [tg] e X.env = pure none:=by rfl)
  (h1 : (assignEach [tg] X.env).map (·.2) = [assign tg X.env]:=by rfl) : PSD X (.Assign [tg] e pos) (zN te g):=by
 with_unfolding_all
  obtain ⟨g',p,r⟩:=hg
  exact zbl (zr3 he p hs hw h1) fun E σ H hh=>el8 hh fun ad ρ S E0 so rh q k =>
   ⟨ad,ρ,S,_,so,rh,q,fun d S' v H' ad' q' w st' rv=>r ad' H' S' ρ σ d v _ _ st' (rh.wd w) rv q' fun ρ2 S2 σ2 H2 ad2 q2 w2 st2 rh2 _ _=>k.nx ρ2 S2 σ2 H2 ad2 q2 (w.trans w2) st2 rh2⟩
theorem zlP {i j : Nat} {x y : Str} {a b : Expr} {t : DA} {px py pt : Pos} {kt k2 pt2} (hc : X.calm = true) (hN : X.N.Nodup) (hi : X.N[i]? = some x) (hj : X.N[j]? = some y) (hij : i ≠ j)
  (hx : X.env.scope.names.lookup x = some .local) (hy : X.env.scope.names.lookup y = some .local) (ha : PAD X [a,b] t)
  (hw : swappedStores [.Tuple [.Name x px,.Name y py] kt pt] (.Tuple [a,b] k2 pt2) X.env = pure (some [x,y]))
  (hs : swapsWithSole [.Tuple [.Name x px,.Name y py] kt pt] (.Tuple [a,b] k2 pt2) pos.line X.env = pure false:=by rfl) :
  PSD X (.Assign [.Tuple [.Name x px,.Name y py] kt pt] (.Tuple [a,b] k2 pt2) pos) (zmC i j t):=by with_unfolding_all exact (zbl (zrN hc hN hi hj hij hx hy ha hw hs) fun E σ H hh=>el8 hh fun ad ρ S E0 so rh q k =>
 ⟨ad,ρ,S,_,so,rh,q,fun ds S' vs H' ad' q' w st' r=>by
  obtain ⟨d1,d2,e,q'⟩:=q'
  subst e
  cases r with
  | cons r1 r' =>
   cases r' with
   | cons r2 r'' =>
    cases r''
    exact ⟨_,_,rfl,k.nx _ S' _ H' ad' q' w st' (((rh.wd w).set r1 i).set r2 j)⟩⟩)
theorem zra {i : Nat} {x : Str} {pos' : Pos} (hN : X.N.Nodup) (hi : X.N[i]? = some x) (hx : Loc X.env.scope x) (he : PD X e te) (hf : X.fn x = true∨X.env.scope.names.lookup x = some .local:=by first | exact .inl rfl | exact .inr rfl | assumption) :
  PSD X (.AugAssign (.Name x pos') .Add e pos) (zo3 i te):=by with_unfolding_all exact (zbl (zsA hN hi hx he zs5 hf) fun E σ H ⟨ad,ρ,S,E0,so,rh,⟨a,ea,q⟩,k⟩=>by
 obtain ⟨v,ev,rv⟩:=rh.val i _ ea
 cases rv
 refine ⟨_,ev,ad,ρ,S,_,so,rh,q,fun d S' v H' ad' ⟨b,eb,q'⟩ w st' r=>?_⟩
 subst eb
 cases r
 exact ⟨a,b,rfl,rfl,k.nx _ S' _ H' ad' q' w st' ((rh.wd w).set (.int _) i)⟩)
theorem zjo {c : Expr} {body : List Stmt} {tc : DT} (hp : PassesOwn (model X.prog X.w) X.A X.env X.xe) (hc : PTD X c tc) (hb : ze8 X body t) : PSD X (.While c body [] pos) (zim tc t):=by with_unfolding_all exact (zbl (zox hp hc hb) fun E σ H ⟨ad,ρ,S,E0,so,rh,⟨W,⟨m0,w0⟩,turn⟩,k⟩=>by
 refine ⟨fun m σ' H'=>∃ ad' ρ' S',W m ρ' S'∧Wd ad H ad' H'∧zR X.K ad' H' S'∧zaz X.K ad' H' ρ' σ',⟨m0,ad,ρ,S,w0,Wd.refl,so,rh⟩,?_⟩
 rintro m σ1 H1 ⟨ad1,ρ1,S1,w1,d1,st1,rh1⟩
 refine ⟨ad1,ρ1,S1,_,st1,rh1,turn m ρ1 S1 w1,fun b S2 H2 ad2 q2 d2 st2=>?_⟩
 cases b with
 | true =>
  rw [if_pos rfl] at q2 ⊢
  obtain ⟨N,hN,q2⟩:=q2
  refine ⟨fun σ' H'=>∃ ad' ρ' S',N ρ' S'∧Wd ad H ad' H'∧zR X.K ad' H' S'∧zaz X.K ad' H' ρ' σ',?_,ad2,ρ1,S2,{ E0 with nx:=N,ct:=N,bk:=E0.nx },st2,rh1.wd d2,q2,?_⟩
  ·rintro σ' H' ⟨ad',ρ',S',n',d',st',rh'⟩
   obtain ⟨m',hm,w'⟩:=hN ρ' S' n'
   exact ⟨m',hm,ad',ρ',S',w',d',st',rh'⟩
  ·have d12:=d1.trans d2
   exact ⟨fun ρ' S' σ' H' ad' q' w' st' rh'=>⟨ad',ρ',S',q',d12.trans w',st',rh'⟩,k.rt.wd d12,fun ρ' S' σ' H' ad' q' w' st' rh'=>k.nx ρ' S' σ' H' ad' q' (d12.trans w') st' rh',fun ρ' S' σ' H' ad' q' w' st' rh'=>⟨ad',ρ',S',q',d12.trans w',st',rh'⟩⟩
 | false =>
  rw [if_neg Bool.false_ne_true] at q2 ⊢
  exact k.nx ρ1 S2 σ1 H2 ad2 q2 (d1.trans d2) st2 (rh1.wd d2))
end
structure zf4 (K : PySem.W.Frag) (ad0 : List Addr) (H0 : Hp) (J0 : DIt) (J : It) : Prop where
 go : ∀ ad H S i,Wd ad0 H0 ad H→zR K ad H S→J0.ok S→i < J0.items.length→J.go i H
 yld : ∀ ad H S i d x H',Wd ad0 H0 ad H→zR K ad H S→J0.ok S→J0.items[i]? = some d→J.yld i H x H'→Wd ad H ad H'∧zR K ad H' S∧Rel K ad H' d x
 stop : ∀ ad H S,Wd ad0 H0 ad H→zR K ad H S→J0.ok S→J.stop J0.items.length H
def upI (K : PySem.W.Frag) (wi : DI) : TI:=fun σ H R=>∃ ad ρ S R0,zR K ad H S∧zaz K ad H ρ σ∧wi ρ S R0∧∀ J0 S' J H' ad',R0 J0 S'→Wd ad H ad' H'→zR K ad' H' S'→zf4 K ad' H' J0 J→R J H'
@[irreducible] def PID (X : Cx) (tg iter : Expr) (wi : DI) : Prop:=PI X tg iter (upI X.K wi)
theorem zgV {X : Cx} {tg iter : Expr} {w w' : TI} (h : PI X tg iter w) (m : ∀ σ H R,w' σ H R→w σ H R) : PI X tg iter w':=fun pins s σ H R I q=>h pins s σ H R I (m σ H R q)
section
variable {X : Cx} {tg e : Expr}
def Its (z : Str) : It:=⟨fun i _=>i < z.cps.size,fun i H x H'=>H' = H∧∃ c,z.cps[i]? = some c∧x = .str ⟨#[c]⟩,fun i _=>z.cps.size ≤ i⟩
theorem znO {P : Program} {w : World} {K : PySem.W.Frag} {tg : Expr} (z : Str) (t : Tok) (it : Addr) : Turn P w K tg (Its z) [it] it (fun i h=>h.IsStrIter it "str_ascii_iterator" z t i) where
 mem:=by simp
 obj:=fun i h st b hb=>by
  have e : b = it:=by simpa using hb
  subst e
  obtain ⟨o,e,c,d⟩:=st
  exact ⟨o,e,fun v y=>by rw [d] at y; cases y⟩
 keep:=fun i h h' st k=>let ⟨o,e,r⟩:=st; ⟨o,k it (by simp) o e,r⟩
 item:=by
  intro X hP hw hK hc i pins s σ H E I hf st hg
  subst hP hw hK
  have hg : i < z.cps.size:=hg
  obtain ⟨f0,f1,f2,f3,f4,f5⟩:=hf it (by simp)
  refine wpAny_pyNext_ascii_item st (c:=z.cps[i]) (by simp [hg]) fun h' st' sb=>?_
  have I1 : Inv X pins σ H { s with heap:=h',toks:=s.toks + 1 }:=I.turned (t':=s.toks + 1) (fun b o hb e=>(sb.2 b hb).trans e) f0 f1 f3 f4 f5
  obtain ⟨o,e,c,d⟩:=id st'
  exact ⟨_,rfl,zhl (s:={ s with heap:=h',toks:=s.toks + 1 }) e c d (by decide) ⟨.str ⟨#[z.cps[i]]⟩,H,I1,⟨_,rfl⟩,⟨rfl,z.cps[i],by simp [hg],rfl⟩,st',fun b hb=>(hf b hb).1⟩⟩
 done:=by
  intro X hP hw hK hc i pins s σ H E I hf st hg
  subst hP hw hK
  have hg : z.cps.size ≤ i:=hg
  obtain ⟨f0,f1,f2,f3,f4,f5⟩:=hf it (by simp)
  exact wpAny_pyNext_ascii_end (I.ok.hd hc) st (by simp [hg]) fun h' eb=>⟨rfl,I.turned (t':=s.toks) (fun b o hb e=>eb b o hb e) f0 f1 f3 f4 f5⟩
 self:=fun _ _ _ _ _ st hQ=>wpAny_pyIter_striter_ascii st hQ
theorem znG {P : Program} {w : World} {K : PySem.W.Frag} {tg : Expr} (z : Str) (t : Tok) (it : Addr) : Turn P w K tg (Its z) [it] it (fun i h=>h.IsStrIter it "str_iterator" z t i) where
 mem:=by simp
 obj:=fun i h st b hb=>by
  have e : b = it:=by simpa using hb
  subst e
  obtain ⟨o,e,c,d⟩:=st
  exact ⟨o,e,fun v y=>by rw [d] at y; cases y⟩
 keep:=fun i h h' st k=>let ⟨o,e,r⟩:=st; ⟨o,k it (by simp) o e,r⟩
 item:=by
  intro X hP hw hK hc i pins s σ H E I hf st hg
  subst hP hw hK
  have hg : i < z.cps.size:=hg
  obtain ⟨f0,f1,f2,f3,f4,f5⟩:=hf it (by simp)
  refine wpAny_pyNext_wide_item st (c:=z.cps[i]) (by simp [hg]) fun h' st' sb=>?_
  have I1 : Inv X pins σ H { s with heap:=h',toks:=s.toks + 1 }:=I.turned (t':=s.toks + 1) (fun b o hb e=>(sb.2 b hb).trans e) f0 f1 f3 f4 f5
  obtain ⟨o,e,c,d⟩:=id st'
  exact ⟨_,rfl,zhl (s:={ s with heap:=h',toks:=s.toks + 1 }) e c d (by decide) ⟨.str ⟨#[z.cps[i]]⟩,H,I1,⟨_,rfl⟩,⟨rfl,z.cps[i],by simp [hg],rfl⟩,st',fun b hb=>(hf b hb).1⟩⟩
 done:=by
  intro X hP hw hK hc i pins s σ H E I hf st hg
  subst hP hw hK
  have hg : z.cps.size ≤ i:=hg
  obtain ⟨f0,f1,f2,f3,f4,f5⟩:=hf it (by simp)
  exact wpAny_pyNext_wide_end (I.ok.hd hc) st (by simp [hg]) fun h' eb=>⟨rfl,I.turned (t':=s.toks) (fun b o hb e=>eb b o hb e) f0 f1 f3 f4 f5⟩
 self:=fun _ _ _ _ _ st hQ=>wpAny_pyIter_striter_wide st hQ
def zqL (K : PySem.W.Frag) (tl : TE) : TI:=fun σ H R=>tl σ H fun x H1=>(∃ a,x = .ref a∧(((∃ xs,SqL K H1 a xs)∧R (Itl K a) H1)∨((∃ xs,SqT K H1 a xs)∧R (Itt K a) H1)))∨(∃ z,x = .str z∧R (Its z) H1)
theorem znB {l : Expr} {tl : TE} (hl : PE X l tl) : PI X tg l (zqL X.K tl):=by
  intro pins s σ H R I h
  refine thn (hl pins s σ H _ I h) fun v s1 ⟨x,H1,I1,r1,q1⟩=>?_
  rcases q1 with ⟨a,e,q1⟩ | ⟨z,e,q⟩
  case inr =>
    subst e
    obtain ⟨t,rfl⟩:=r1
    have fp : ∀ b ∈ [s1.heap.objs.size],zeI X pins H1 b:=fun b hb=>by
      have e : b = s1.heap.objs.size:=by simpa using hb
      subst e
      exact I1.fpOk (Nat.le_refl _) (I1.hok.fresh (Nat.le_refl _))
    cases ha : z.cps.all (· < 128) with
    | true=>exact wpAny_pyIter_ascii ha ⟨s1.heap.objs.size,[s1.heap.objs.size],_,_,H1,rfl,I1.kept (t':=s1.toks) fun b o e=>Heap.get?_push_of_some _ e,znO z t _,⟨_,Heap.get?_push_size _ rfl,rfl,rfl⟩,fp,q⟩
    | false=>exact wpAny_pyIter_wide ha ⟨s1.heap.objs.size,[s1.heap.objs.size],_,_,H1,rfl,I1.kept (t':=s1.toks) fun b o e=>Heap.get?_push_of_some _ e,znG z t _,⟨_,Heap.get?_push_size _ rfl,rfl,rfl⟩,fp,q⟩
  subst e
  cases r1
  rcases q1 with ⟨⟨xs,hq⟩,q⟩ | ⟨⟨xs,hq⟩,q⟩
  · obtain ⟨its,rv,p,hz⟩:=I1.list hq
    refine wpAny_pyIter_list p.isList ?_
    refine ⟨s1.heap.objs.size,[s1.heap.objs.size],_,_,H1,rfl,I1.kept (t':=s1.toks) fun b o e=>Heap.get?_push_of_some _ e,zop a _,⟨_,Heap.get?_push_size _ rfl,rfl,rfl⟩,fun b hb=>?_,q⟩
    have e : b = s1.heap.objs.size:=by simpa using hb
    subst e
    exact I1.fpOk (Nat.le_refl _) (I1.hok.fresh (Nat.le_refl _))
  · obtain ⟨its,rv,p,hz⟩:=I1.tuple hq
    refine wpAny_pyIter_tuple (show s1.heap.IsTuple a its.toArray from p) ?_
    refine ⟨s1.heap.objs.size,[s1.heap.objs.size],_,_,H1,rfl,I1.kept (t':=s1.toks) fun b o e=>Heap.get?_push_of_some _ e,zmu a _,⟨_,Heap.get?_push_size _ rfl,rfl,rfl⟩,fun b hb=>?_,q⟩
    have e : b = s1.heap.objs.size:=by simpa using hb
    subst e
    exact I1.fpOk (Nat.le_refl _) (I1.hok.fresh (Nat.le_refl _))
theorem zsR {K : PySem.W.Frag} {ad : List Addr} {H : Hp} (z : Str) : zf4 K ad H ⟨signs z,fun _=>True⟩ (Its z) where
 go:=fun ad1 H1 S i w st _ hi=>by
  show i < z.cps.size
  have : i < (signs z).length:=hi
  unfold signs at this
  rw [List.length_map] at this
  simpa using this
 yld:=fun ad1 H1 S i d x H' w st _ hd ⟨e,c,hc,hx⟩=>by
  subst e hx
  have hd : (signs z)[i]? = some d:=hd
  unfold signs at hd
  rw [List.getElem?_map,Array.getElem?_toList,hc] at hd
  cases hd
  exact ⟨Wd.refl,st,.str _⟩
 stop:=fun ad1 H1 S w st _=>by
  show z.cps.size ≤ (signs z).length
  unfold signs
  rw [List.length_map]; simp
theorem zsp {K : PySem.W.Frag} {ad : List Addr} {H : Hp} {a : Addr} {vs : List V} {ds : List D} (h : H a = some (.tup vs)) (r : zK K ad H ds vs) : zf4 K ad H ⟨ds,fun _=>True⟩ (Itt K a) where
 go:=fun ad1 H1 S i w st _ hi=>⟨vs,vs[i]'(by rw [← r.length]; exact hi),SqT.of (w.tup _ _ h),List.getElem?_eq_getElem _⟩
 yld:=fun ad1 H1 S i d x H' w st _ hd ⟨e,hx⟩=>by
  subst e
  obtain ⟨v,ev,rv⟩:=r.get hd
  rw [hx vs (SqT.of (w.tup _ _ h))] at ev
  cases ev
  exact ⟨Wd.refl,st,rv.wd w⟩
 stop:=fun ad1 H1 S w st _=>⟨vs,SqT.of (w.tup _ _ h),by rw [← r.length]; exact Nat.le_refl _⟩
theorem zsG {K : PySem.W.Frag} {ad : List Addr} {H : Hp} {a : Addr} {x : D} {ds : List D} (r : Rel K ad H x (.ref a)) : zf4 K ad H ⟨ds,fun S=>Lst S x ds⟩ (Itl K a) where
 go:=fun ad1 H1 S i w st ok hi=>by
  obtain ⟨a',vs,e,s,rs⟩:=Lst.sq st ok (r.wd w)
  cases e
  exact ⟨vs,vs[i]'(by rw [← rs.length]; exact hi),s,List.getElem?_eq_getElem _⟩
 yld:=fun ad1 H1 S i d y H' w st ok hd ⟨e,hx⟩=>by
  subst e
  obtain ⟨a',vs,e,s,rs⟩:=Lst.sq st ok (r.wd w)
  cases e
  obtain ⟨v,ev,rv⟩:=rs.get hd
  rw [hx vs s] at ev
  cases ev
  exact ⟨Wd.refl,st,rv⟩
 stop:=fun ad1 H1 S w st ok=>by
  obtain ⟨a',vs,e,s,rs⟩:=Lst.sq st ok (r.wd w)
  cases e
  exact ⟨vs,s,by rw [← rs.length]; exact Nat.le_refl _⟩
theorem zaD {t : DE} (h : PD X e t) : PID X tg e (zbi t):=by with_unfolding_all exact (zgV (znB h) fun σ H R hh=>el8 hh fun ad ρ S R0 st rh q k =>
 ⟨ad,ρ,S,_,st,rh,q,fun x S1 v H1 ad1 q1 w1 st1 r1=>by
  rcases q1 with ⟨xs,rfl,q1⟩ | ⟨xs,hx,q1⟩ | ⟨z,rfl,q1⟩
  ·cases r1 with
   | tup h1 rs=>exact .inl ⟨_,rfl,.inr ⟨⟨_,SqT.of h1⟩,k _ S1 _ H1 ad1 q1 w1 st1 (zsp h1 rs)⟩⟩
  ·obtain ⟨a,vs,rfl,s,rs⟩:=hx.sq st1 r1
   exact .inl ⟨a,rfl,.inl ⟨⟨vs,s⟩,k _ S1 _ H1 ad1 q1 w1 st1 (zsG r1)⟩⟩
  ·cases r1
   exact .inr ⟨z,rfl,k _ S1 _ H1 ad1 q1 w1 st1 (zsR z)⟩⟩)
theorem zoM {lo : Int} {n i : Nat} {d : D} (h : (upto lo n)[i]? = some d) : i < n∧d = .int (lo + i):=by
 unfold upto at h
 rw [List.getElem?_map] at h
 have hi:=My.za7 (xs:=List.range n) (i:=i) (x:=i)
 cases hr : (List.range n)[i]? with
 | none=>rw [hr] at h; cases h
 | some k =>
  rw [hr] at h
  have h1:=My.za7 hr
  rw [List.length_range] at h1
  have h2 : (List.range n)[i]? = some i:=List.getElem?_range h1
  rw [hr] at h2
  cases h2
  cases h
  exact ⟨h1,rfl⟩
theorem zkp (lo : Int) (n : Nat) : (upto lo n).length = n:=by unfold upto; rw [List.length_map,List.length_range]
theorem znX {K : PySem.W.Frag} {ad : List Addr} {H : Hp} (lo : Int) (n : Nat) : zf4 K ad H ⟨upto lo n,fun _=>True⟩ (Itr lo n) where
 go:=fun ad1 H1 S i w st _ hi=>by rw [zkp] at hi; exact hi
 yld:=fun ad1 H1 S i d x H' w st _ hd ⟨e,hx⟩=>by
  subst e
  obtain ⟨_,rfl⟩:=zoM hd
  rw [hx]
  exact ⟨Wd.refl,st,.int _⟩
 stop:=fun ad1 H1 S w st _=>by rw [zkp]; exact Nat.le_refl _
theorem zn2 {P : Program} {w : World} {K : PySem.W.Frag} {tg : Expr} (it : Addr) (lo : Int) (n : Nat) : Turn P w K tg (Itr lo n) [it] it (fun i h=>IsLongIter h it (lo + (i : Nat) * 1) ((n : Int) - (i : Nat)) 1) where
 mem:=by simp
 obj:=fun i h st b hb=>by
  have e : b = it:=by simpa using hb
  subst e
  exact ⟨_,st,fun v z=>by
   have z' : Data.fields _ = Data.cell v:=z
   cases z'⟩
 keep:=fun i h h' st k=>k it (by simp) _ st
 item:=by
  intro X hP hw hK hc i pins s σ H E I hf st' hg
  subst hP hw hK
  obtain ⟨f0,f1,f2,f3,f4,f5⟩:=hf it (by simp)
  have W:=Walks.longrange (prog:=X.prog) (w:=X.w) (I.ok.hd hc) it lo 1 n
  refine W.item i s _ _ hg st' fun v h' tk hv st'' kk=>?_
  obtain ⟨t,rfl⟩:=hv
  have I1 : Inv X pins σ H { s with heap:=h',toks:=tk }:=I.turned (fun b o hb e=>kk b o (by simpa using hb) e) f0 f1 f3 f4 f5
  rw [Int.mul_one]
  exact ⟨_,rfl,zhl (s:={ s with heap:=h',toks:=tk }) (n:="longrange_iterator") st'' rfl rfl (by decide) ⟨.int (lo + i),H,I1,⟨t,rfl⟩,⟨rfl,rfl⟩,st'',fun b hb=>(hf b hb).1⟩⟩
 done:=by
  intro X hP hw hK hc i pins s σ H E I hf st' hg
  subst hP hw hK
  obtain ⟨f0,f1,f2,f3,f4,f5⟩:=hf it (by simp)
  exact wpAny_pyNext_long_end (I.ok.hd hc) st' (by have : n ≤ i:=hg; omega) fun h' eb=>⟨rfl,I.turned (t':=s.toks) (fun b o hb e=>eb b o hb e) f0 f1 f3 f4 f5⟩
 self:=fun _ _ _ _ _ st h=>wpAny_pyIter_longiter st h
theorem range_any {pins : List (Addr × Obj)} {σ : L2.St} {H : Hp} {s : Shared} {R : It → Hp → Prop} {E : Value → Shared → Prop} {lo hi : Int} {t u v : Tok} {tk : Nat} (I : Inv X pins σ H s)
    (q : R (Itr lo (hi - lo).toNat) H) : wpAny (model X.prog X.w) X.A (pyIter (.ref s.heap.objs.size)) (PIE X pins σ tg R) E { s with heap:=s.heap.push { cls:=.type "range",data:=.fields #[.int lo t,.int hi u,.int 1 v] },toks:=tk }:=by
  have I1 : Inv X pins σ H { s with heap:=s.heap.push { cls:=.type "range",data:=.fields #[.int lo t,.int hi u,.int 1 v] },toks:=tk }:=I.kept fun b o e=>Heap.get?_push_of_some _ e
  have e1 : lo + ((0 : Nat) : Int) * 1 = lo:=by simp
  have e2 : (((hi - lo).toNat : Nat) : Int) - ((0 : Nat) : Int) = Builtin.Range.rangeSize lo hi 1:=by rw [rangeSize_one]; split <;> omega
  cases hsm : Builtin.Range.small lo hi 1 with
  | true =>
    refine wpAny_pyIter_range (IsRange.new ..) hsm ?_
    refine ⟨(s.heap.push { cls:=.type "range",data:=.fields #[.int lo t,.int hi u,.int 1 v] }).objs.size,[(s.heap.push { cls:=.type "range",data:=.fields #[.int lo t,.int hi u,.int 1 v] }).objs.size],_,_,H,rfl,
      I1.kept (t':=tk) fun b o e=>Heap.get?_push_of_some _ e,zh0 _ lo (hi - lo).toNat,?_,fun b hb=>?_,q⟩
    · show IsRangeIter _ _ (lo + ((0 : Nat) : Int) * 1) ((((hi - lo).toNat : Nat) : Int) - ((0 : Nat) : Int)) 1
      rw [e1,e2]
      exact Heap.get?_push_size _ rfl
    · have e : b = (s.heap.push { cls:=.type "range",data:=.fields #[.int lo t,.int hi u,.int 1 v] }).objs.size:=by simpa using hb
      subst e
      exact I1.fpOk (Nat.le_refl _) (I1.hok.fresh (Nat.le_refl _))
  | false =>
    refine wpAny_pyIter_longrange (IsRange.new ..) hsm ?_
    refine ⟨(s.heap.push { cls:=.type "range",data:=.fields #[.int lo t,.int hi u,.int 1 v] }).objs.size,[(s.heap.push { cls:=.type "range",data:=.fields #[.int lo t,.int hi u,.int 1 v] }).objs.size],_,_,H,rfl,
      I1.kept (t':=tk) fun b o e=>Heap.get?_push_of_some _ e,zn2 _ lo (hi - lo).toNat,?_,fun b hb=>?_,q⟩
    · show IsLongIter _ _ (lo + ((0 : Nat) : Int) * 1) ((((hi - lo).toNat : Nat) : Int) - ((0 : Nat) : Int)) 1
      rw [e1,e2]
      exact Heap.get?_push_size _ rfl
    · have e : b = (s.heap.push { cls:=.type "range",data:=.fields #[.int lo t,.int hi u,.int 1 v] }).objs.size:=by simpa using hb
      subst e
      exact I1.fpOk (Nat.le_refl _) (I1.hok.fresh (Nat.le_refl _))
theorem zdJ {a : Expr} {t : DA} {p pos : Pos} (hg : Gl X "range") (hm : X.mg "range" = none) (ha : PAD X [a] t) (hs : starEach [a] X.env = [(false,eval a X.env)]:=by exact zdH rfl) : PID X tg (.Call (.Name "range" p) [a] [] pos) (zdB t):=by with_unfolding_all exact (zgV (znU hg hm ha hs) fun σ H R hh=>el8 hh fun ad ρ S R0 st rh q k =>
 ⟨ad,ρ,S,_,st,rh,q,fun ds S1 vs H1 ad1 ⟨j,ed,b1,b2,q1⟩ w1 st1 r1=>by
  subst ed
  obtain ⟨v,rfl,rv⟩:=zbI r1
  cases rv
  exact ⟨j,rfl,b1,b2,k _ S1 _ H1 ad1 q1 w1 st1 (znX 0 j.toNat)⟩⟩)
theorem zlU {a b : Expr} {t : DA} {p pos : Pos} (hg : Gl X "range") (hm : X.mg "range" = none) (ha : PAD X [a,b] t) (hs : starEach [a,b] X.env = [(false,eval a X.env),(false,eval b X.env)]:=by exact zkQ rfl rfl) (hs2 : starEach [b] X.env = [(false,eval b X.env)]:=by exact zdH rfl) :
  PID X tg (.Call (.Name "range" p) [a,b] [] pos) (zjS t):=by
 with_unfolding_all
  rintro pins s σ H R I ⟨ad,ρ,S,R0,st,rh,q,k⟩
  refine Call_ (zdF I hg hm boot_range (PyProof.Rows.callWith_type1 (thn (ha pos pins s σ H (fun vs H1=>∃ i j : Int,vs = [.int i,.int j]∧R (Itr i (j - i).toNat) H1) I ⟨ad,ρ,S,_,st,rh,q,fun ds S1 vs H1 ad1 ⟨i,j,ed,q1⟩ w1 st1 r1=>by
   subst ed
   obtain ⟨v,u,rfl,rv,ru⟩:=zhz r1
   cases rv
   cases ru
   exact ⟨i,j,rfl,k _ S1 _ H1 ad1 q1 w1 st1 (znX i _)⟩⟩) fun us s1 ⟨vs,H1,I1,r1,q1⟩=>?_) (by rw [hs,hs2]) (by rw [hs2]; rfl)))
  obtain ⟨i,j,e,q⟩:=q1
  subst e
  cases r1 with
  | cons r rr =>
   cases rr with
   | cons r' rr =>
    cases rr
    obtain ⟨t,rfl⟩:=r
    obtain ⟨t',rfl⟩:=r'
    exact call_range_2 (range_any I1 q)
theorem zaE {iter : Expr} {body : List Stmt} {wi : DI} {g : DG} {t : DS} {pos : Pos} (hp : PassesOwn (model X.prog X.w) X.A X.env X.xe) (hc : X.calm = true) (hi : PID X tg iter wi) (hg : PGD X 1000 tg g) (hb : ze8 X body t) (hs : ∀ x,foldedSetIterable iter X.env x = pure x:=by intro _; rfl) : PSD X (.For tg iter body [] pos) (zbJ wi g t):=by
 with_unfolding_all
  obtain ⟨g',pg,rg⟩:=hg
  refine zbl (zsx hp hc hi pg hb hs) fun E σ H hh=>el8 hh fun ad ρ S E0 so rh q k=>?_
  refine ⟨ad,ρ,S,_,so,rh,q,fun J0 S1 J H1 ad1 ⟨W,w0,hok,step,fin⟩ d1 st1 it=>?_⟩
  refine ⟨fun i m σ' H'=>m = J0.items.length - i∧i ≤ J0.items.length∧∃ ad' ρ' S',W i ρ' S'∧Wd ad1 H1 ad' H'∧zR X.K ad' H' S'∧zaz X.K ad' H' ρ' σ',⟨J0.items.length,rfl,Nat.zero_le _,ad1,ρ,S1,w0,Wd.refl,st1,rh.wd d1⟩,?_⟩
  rintro i m σ2 H2 ⟨rfl,hi2,ad2,ρ2,S2,w2,d2,st2,rh2⟩
  by_cases hlt : i < J0.items.length
  ·have ed : J0.items[i]? = some J0.items[i]:=List.getElem?_eq_getElem hlt
   refine .inr ⟨it.go ad2 H2 S2 i d2 st2 (hok _ _ _ w2) hlt,fun σ' H'=>∃ ad' ρ' S',W (i + 1) ρ' S'∧Wd ad1 H1 ad' H'∧zR X.K ad' H' S'∧zaz X.K ad' H' ρ' σ',?_,fun x H' hy=>?_⟩
   ·rintro σ' H' ⟨ad',ρ',S',w',d',st',rh'⟩
    exact ⟨J0.items.length - (i + 1),by omega,rfl,hlt,ad',ρ',S',w',d',st',rh'⟩
   ·obtain ⟨d3,st3,r3⟩:=it.yld ad2 H2 S2 i _ x H' d2 st2 (hok _ _ _ w2) ed hy
    refine rg ad2 H' S2 ρ2 σ2 _ x _ _ st3 (rh2.wd d3) r3 (step i _ ρ2 S2 ed w2) fun ρ4 S4 σ4 H4 ad4 q4 d4 st4 rh4 _ _=>?_
    have d14:=(d2.trans d3).trans d4
    have d04:=d1.trans d14
    exact ⟨ad4,ρ4,S4,{ E0 with nx:=W (i + 1),ct:=W (i + 1),bk:=E0.nx },st4,rh4,q4,⟨fun ρ' S' σ' H' ad' q' w' st' rh'=>⟨ad',ρ',S',q',d14.trans w',st',rh'⟩,k.rt.wd d04,fun ρ' S' σ' H' ad' q' w' st' rh'=>k.nx ρ' S' σ' H' ad' q' (d04.trans w') st' rh',fun ρ' S' σ' H' ad' q' w' st' rh'=>⟨ad',ρ',S',q',d14.trans w',st',rh'⟩⟩⟩
  ·have e : i = J0.items.length:=by omega
   subst e
   exact .inl ⟨it.stop ad2 H2 S2 d2 st2 (hok _ _ _ w2),k.nx ρ2 S2 σ2 H2 ad2 (fin ρ2 S2 w2) (d1.trans d2) st2 rh2⟩
end
theorem zkW : ∀ {a b : L2.St} (n : Nat),(∀ j,j < n→a[j]? = some none∨a.length ≤ j)→b.length = a.length→(∀ j,n ≤ j→b[j]? = a[j]?)→Agr a b
 | [],[],_,_,_,_=>True.intro
 | [],_ :: _,_,_,h,_=>by simp at h
 | _ :: _,[],_,_,h,_=>by simp at h
 | x :: a,y :: b,n,h0,hl,h=>by
  have hl' : b.length = a.length:=by simpa using hl
  cases n with
  | zero =>
   have e:=h 0 (Nat.le_refl _)
   have e' : y = x:=by simpa using e
   subst e'
   have rest : Agr a b:=zkW 0 (fun j hj=>absurd hj (Nat.not_lt_zero _)) hl' fun j _=>by simpa using h (j + 1) (Nat.zero_le _)
   cases y with
   | none=>exact rest
   | some v=>exact ⟨rfl,rest⟩
  | succ n =>
   have rest : Agr a b:=zkW n (fun j hj=>by
    rcases h0 (j + 1) (by omega) with e | e
    ·exact .inl (by simpa using e)
    ·exact .inr (by simpa using e)) hl' fun j hj=>by simpa using h (j + 1) (by omega)
   rcases h0 0 (Nat.succ_pos _) with e | e
   ·have e' : x = none:=by simpa using e
    subst e'
    exact rest
   ·simp at e
theorem zqu {K : PySem.W.Frag} {ad : List Addr} {H : Hp} {ρ : Rho} {σ : L2.St} (h : zaz K ad H ρ σ) (own : List Str) (fv : List Nat) : zaz K ad H (zhE own.length fv ρ) (cst own fv σ) where
  len:=by unfold zhE cst; rw [List.length_append,List.length_append,List.length_replicate,List.length_replicate,List.length_map,List.length_map]
  val:=fun i d e=>by
    unfold zhE at e
    unfold cst
    by_cases hi : i < own.length
    · rw [List.getElem?_append_left (by rw [List.length_replicate]; exact hi),List.getElem?_replicate] at e
      split at e <;> cases e
    · have hi' : own.length ≤ i:=Nat.le_of_not_lt hi
      rw [List.getElem?_append_right (by rw [List.length_replicate]; exact hi'),List.length_replicate,List.getElem?_map] at e
      rw [List.getElem?_append_right (by rw [List.length_replicate]; exact hi'),List.length_replicate,List.getElem?_map]
      cases hf : fv[i - own.length]? with
      | none=>rw [hf] at e; cases e
      | some j =>
        rw [hf] at e
        simp only [Option.map_some,Option.some.injEq] at e ⊢
        cases hr : ρ[j]? with
        | none=>rw [hr] at e; cases e
        | some o =>
          rw [hr] at e
          have e' : o = some d:=e
          subst e'
          obtain ⟨v,ev,rv⟩:=h.val j d hr
          exact ⟨v,by rw [ev]; rfl,rv⟩
@[irreducible] def zmg (X : Cx) (ifs : List Expr) (t : DT) : Prop:=PFs X ifs (upT X.K t)
theorem zbs {X : Cx} : zmg X [] zb9:=by with_unfolding_all exact (fun pins s σ H Q I hh=>el8 hh fun ad ρ S Q0 st rh q k=>zsS pins s σ H Q I (k true S H ad q Wd.refl st))
theorem ziT {X : Cx} {c : Expr} {t : DT} (h : PTD X c t) : zmg X [c] t:=by with_unfolding_all exact (zrD h)
theorem ofT {A B : Prop} (h : if true = true then A else B) : A:=by rw [if_pos rfl] at h; exact h
theorem ofF {A B : Prop} (h : if false = true then A else B) : B:=by rw [if_neg Bool.false_ne_true] at h; exact h
theorem zpQ {K : PySem.W.Frag} {own : List Str} {fv : List Nat} {wi : DI} {g : DG} {g' : TG} {tc : DT} {te : DE} (rg : zhA K own.length g g') {σ : L2.St} {H : Hp} {Q : VK} (h : up K (dLC own.length fv wi g tc te) σ H Q) : tLC own fv (upI K wi) g' (upT K tc) (up K te) σ H Q:=by
 obtain ⟨ad,ρ,S,Q0,so,rh,q,k⟩:=h
 refine ⟨ad,ρ,S,_,so,rh,q,fun J0 S1 J H1 ad1 ⟨hbig,W,w0,hok,step,fin⟩ d1 st1 it=>?_⟩
 intro p hp
 refine ⟨fun i m H'=>m = J0.items.length - i∧i ≤ J0.items.length∧∃ ad' S' ys vs,W i ys S'∧Wd ad1 H1 ad' H'∧zR K ad' H' S'∧p ∉ ad'∧H' p = some (.lst vs)∧zK K ad' H' ys vs∧vs.length ≤ i,
  ⟨J0.items.length,rfl,Nat.zero_le _,ad1,S1,[],[],w0,Wd.laid hp,st1.laid hp,st1.fresh hp,zaJ,.nil,Nat.le_refl _⟩,?_⟩
 rintro i m H2 ⟨rfl,hi2,ad2,S2,ys,vs,w2,d2,st2,hp2,hv2,r2,hl2⟩
 by_cases hlt : i < J0.items.length
 ·have ed : J0.items[i]? = some J0.items[i]:=List.getElem?_eq_getElem hlt
  refine .inr ⟨it.go ad2 H2 S2 i d2 st2 (hok _ _ _ w2) hlt,fun x H' hy=>?_⟩
  obtain ⟨d3,st3,r3⟩:=it.yld ad2 H2 S2 i _ x H' d2 st2 (hok _ _ _ w2) ed hy
  have rh3:=zqu (rh.wd ((d1.trans d2).trans d3)) own fv
  refine rg ad2 H' S2 _ _ _ x _ _ st3 rh3 r3 (step i _ ys S2 ed w2) fun ρ4 S4 σ4 H4 ad4 q4 d4 st4 rh4 l4 a4=>?_
  refine ⟨zkW own.length (fun j hj=>.inl ?_) l4 a4,ad4,ρ4,S4,_,st4,rh4,q4,fun b S5 H5 ad5 q5 d5 st5=>?_⟩
  ·unfold cst
   rw [List.getElem?_append_left (by rw [List.length_replicate]; exact hj),List.getElem?_replicate,if_pos hj]
  have fwd : ∀ {ad9 : List Addr} {H9 : Hp},Wd ad2 H2 ad9 H9→p ∉ ad9∧H9 p = some (.lst vs):=fun {ad9 H9} w=>⟨(fun m=>by
   have z:=w.new p m hp2
   rw [hv2] at z; cases z),w.keep p _ hp2 hv2⟩
  have d25:=(d3.trans d4).trans d5
  cases b with
  | true =>
   refine zpa ?_
   have q5:=Dp.ofT q5
   refine ⟨ad5,ρ4,S5,_,st5,rh4.wd d5,q5,fun y S6 v H6 ad6 q6 d6 st6 r6=>?_⟩
   have d26:=d25.trans d6
   obtain ⟨n6,e6⟩:=fwd d26
   have hw : Wr ad6 H6 ad6 (upd H6 p (.lst (vs ++ [v]))):=Wr.hid e6
   have hvl : vs.length < sizeLine:=zoq (by omega)
   exact ⟨vs,e6,hvl,J0.items.length - (i + 1),by omega,rfl,hlt,ad6,S6,ys ++ [y],vs ++ [v],q6,(d2.trans d26).hid hp,st6.hid e6 n6 (st1.bfree hp),n6,zaJ,zK.wr hw ((r2.wd d26).append (.cons r6 .nil)),by rw [List.length_append]; exact Nat.succ_le_succ hl2⟩
  | false =>
   refine zpe ?_
   have q5:=Dp.ofF q5
   obtain ⟨n5,e5⟩:=fwd d25
   exact ⟨J0.items.length - (i + 1),by omega,rfl,hlt,ad5,S5,ys,vs,q5,d2.trans d25,st5,n5,e5,r2.wd d25,by omega⟩
 ·have e : i = J0.items.length:=by omega
  subst e
  refine .inl ⟨it.stop ad2 H2 S2 d2 st2 (hok _ _ _ w2),?_⟩
  exact k _ _ _ _ (ad2 ++ [p]) (fin ys S2 w2) (d1.trans (d2.add hp)) (st2.add hv2 hp2 r2 (st1.bfree hp)) (.ref (by rw [← st2.len,List.getElem?_append_right (Nat.le_refl _),Nat.sub_self]; rfl))
section
variable {X : Cx} {sc : Scope} {tg iter elt : Expr} {ifs : List Expr} {own free : List Str} {fv : List Nat} {wi : DI} {g : DG} {tc : DT} {te : DE} {pos : Pos}
theorem zct {g' : TG} (hcalm : X.calm = true) (hxe : X.xe = fun _ _=>False) (hkind : sc.kind = .function) (hcell : ∀ y ∈ sc.names,y.2 ≠ .cell) (hnames : ∀ y ∈ sc.names,y.2 = .local→sc.names.lookup y.1 = some .local)
  (hfr : zdV (fun x=>X.env.kindOf x = some .cell) sc.names) (hfv : zgD X sc free fv) (hi : PID X tg iter wi)
  (hg : zhA X.K own.length g g'∧∀ cl C s₀ H₀ ex,PG (inner X sc (own ++ free) cl C s₀ H₀ ex) tg g') (ht : ∀ cl C s₀ H₀ ex,zmg (inner X sc (own ++ free) cl C s₀ H₀ ex) ifs tc) (he : ∀ cl C s₀ H₀ ex,PD (inner X sc (own ++ free) cl C s₀ H₀ ex) elt te)
  (hs : ∀ x,foldedSetIterable iter X.env x = pure x:=by intro _; rfl) : PD X (.ListComp elt [⟨tg,iter,ifs,0⟩] sc pos) (dLC own.length fv wi g tc te):=by with_unfolding_all exact (za1 (zuz (tc:=upT X.K tc) (te:=up X.K te) hcalm hxe hkind hcell hnames hfr hfv hi hg.2 ht he hs) fun _ _ _=>zpQ hg.1)
theorem zkx {g' : TG} {i : Nat} {y : Str} {py spos : Pos} (hN : X.N.Nodup) (hy : X.N[i]? = some y) (hyl : X.env.scope.names.lookup y = some .local) (hcalm : X.calm = true) (hxe : X.xe = fun _ _=>False) (hkind : sc.kind = .function) (hcell : ∀ y ∈ sc.names,y.2 ≠ .cell) (hnames : ∀ y ∈ sc.names,y.2 = .local→sc.names.lookup y.1 = some .local)
  (hfr : zdV (fun x=>X.env.kindOf x = some .cell) sc.names) (hfv : zgD X sc free fv) (hi : PID X tg iter wi)
  (hg : zhA X.K own.length g g'∧∀ cl C s₀ H₀ ex,PG (inner X sc (own ++ free) cl C s₀ H₀ ex) tg g') (ht : ∀ cl C s₀ H₀ ex,zmg (inner X sc (own ++ free) cl C s₀ H₀ ex) ifs tc) (he : ∀ cl C s₀ H₀ ex,PD (inner X sc (own ++ free) cl C s₀ H₀ ex) elt te)
  (hsw : swapsWith (.ListComp elt [⟨tg,iter,ifs,0⟩] sc pos) (some (.Name y py)) spos.line X.env = pure true:=by rfl)
  (hs : ∀ x,foldedSetIterable iter X.env x = pure x:=by intro _; rfl) : PSD X (.Assign [.Name y py] (.ListComp elt [⟨tg,iter,ifs,0⟩] sc pos) spos) (zN (dLC own.length fv wi g tc te) (zE i)):=by with_unfolding_all exact (zbl (zqV (tc:=upT X.K tc) (te:=up X.K te) hN hy hyl hcalm hxe hkind hcell hnames hfr hfv hi hg.2 ht he hsw hs) fun E σ H hh=>el8 hh fun ad ρ S E0 so rh q k =>
  zpQ (Q:=fun x H1=>L2.zE i x σ H1 E.nx) hg.1 ⟨ad,ρ,S,_,so,rh,q,fun d S' v H' ad' q' w st' r=>k.nx _ S' _ H' ad' q' w st' ((rh.wd w).set r i)⟩)
theorem zgw {K : PySem.W.Frag} {b : Nat} : zif K b zc0 L2.zc0:=fun ad H S ρ σ ds vs Q0 Q st rh r ⟨e,q⟩ k=>by
 subst e
 cases r
 exact ⟨rfl,k ρ S σ H ad q Wd.refl st rh rfl fun _ _=>rfl⟩
theorem zbW {K : PySem.W.Frag} {b : Nat} {t : DG} {u : DGs} {t' : TG} {u' : TGs} (r1 : zhA K b t t') (r2 : zif K b u u') : zif K b (zaq t u) (L2.zaq t' u'):=fun ad H S ρ σ ds vs Q0 Q st rh r ⟨d,rs,ed,q⟩ k=>by
 subst ed
 cases r with
 | cons r t =>
  refine ⟨_,_,rfl,r1 ad H S ρ σ d _ _ _ st rh r q fun ρ1 S1 σ1 H1 ad1 q1 w1 st1 rh1 l1 a1=>?_⟩
  exact r2 ad1 H1 S1 ρ1 σ1 _ _ _ _ st1 rh1 (t.wd w1) q1 fun ρ2 S2 σ2 H2 ad2 q2 w2 st2 rh2 l2 a2=>k ρ2 S2 σ2 H2 ad2 q2 (w1.trans w2) st2 rh2 (l2.trans l1) fun j hj=>(a2 j hj).trans (a1 j hj)
theorem zhQ {K : PySem.W.Frag} {b n : Nat} {t : DGs} {t' : TGs} (r : zif K b t t') : zhA K b (zc4 n t) (L2.zc4 K n t'):=fun ad H S ρ σ d v Q0 Q st rh rv ⟨xs,ed,hl,q⟩ k=>by
 subst ed
 cases rv with
 | tup h1 rs=>exact ⟨_,_,rfl,SqT.of h1,by rw [← rs.length]; exact hl,r ad H S ρ σ xs _ _ _ st rh rs q k⟩
end
theorem zkJ {K : PySem.W.Frag} {ad : List Addr} {H : Hp} {ds : List D} {vs : List V} (N : List Str) (r : zK K ad H ds vs) : zaz K ad H (zd4 N.length ds) (L2.start N vs) where
  len:=by unfold zd4 L2.start; rw [List.length_append,List.length_append,List.length_map,List.length_map,List.length_replicate,List.length_replicate,r.length]
  val:=fun i d e=>by
    unfold zd4 at e
    unfold L2.start
    by_cases hi : i < ds.length
    · rw [List.getElem?_append_left (by rw [List.length_map]; exact hi),List.getElem?_map] at e
      rw [List.getElem?_append_left (by rw [List.length_map,← r.length]; exact hi),List.getElem?_map]
      cases hd : ds[i]? with
      | none=>rw [hd] at e; cases e
      | some d' =>
        rw [hd] at e
        cases e
        obtain ⟨v,ev,rv⟩:=r.get hd
        exact ⟨v,by rw [ev]; rfl,rv⟩
    · rw [List.getElem?_append_right (by rw [List.length_map]; exact Nat.le_of_not_lt hi),List.getElem?_replicate] at e
      split at e <;> cases e
theorem zK.cut1 {K : PySem.W.Frag} {ad ad' : List Addr} {H : Hp} (k : Nat) (h1 : ∀ d v,fl k d = true→Rel K ad H d v→Rel K ad' H d v) : ∀ ds vs,ds.all (fl k) = true→zK K ad H ds vs→zK K ad' H ds vs:=by
 intro ds
 induction ds with
 | nil=>intro vs _ r; cases r; exact .nil
 | cons d ds ih =>
  intro vs hf r
  rw [List.all_cons,Bool.and_eq_true] at hf
  cases r with
  | cons r t=>exact .cons (h1 d _ hf.1 r) (ih _ hf.2 t)
theorem Rel.cut {K : PySem.W.Frag} {ad ad' : List Addr} {H : Hp} : ∀ (k : Nat) (d : D) (v : V),fl k d = true→Rel K ad H d v→Rel K ad' H d v:=by
 intro k
 induction k with
 | zero =>
  intro d v hf r
  cases r with
  | non=>exact .non
  | bl b=>exact .bl b
  | int i=>exact .int i
  | str x=>exact .str x
  | ty n=>cases hf
  | tup h r=>cases hf
  | rl h r=>cases hf
  | ref h=>cases hf
  | exn _ _ _=>cases hf
 | succ k ih =>
  intro d v hf r
  cases r with
  | non=>exact .non
  | bl b=>exact .bl b
  | int i=>exact .int i
  | str x=>exact .str x
  | ty n=>cases hf
  | tup h r=>exact .tup h (zK.cut1 k ih _ _ hf r)
  | rl h r=>cases hf
  | ref h=>cases hf
  | exn _ _ _=>cases hf
theorem zK.cut {K : PySem.W.Frag} {ad ad' : List Addr} {H : Hp} (k : Nat) (ds : List D) (vs : List V) (hf : ds.all (fl k) = true) (r : zK K ad H ds vs) : zK K ad' H ds vs:=zK.cut1 k (Rel.cut k) ds vs hf r
end Dp
namespace Dp
open PySem PySem.Spec PyProof.Rows L2 My
variable [B : Bs]
mutual
theorem Rel.low {K : PySem.W.Frag} {ad ad' : List Addr} {H H' : Hp} {m : Nat} (hm : ad.length ≤ m) : ∀ {d : D} {u v : V},Rel K ad H d u→Rel K ad' H' d v→Rel K (ad'.take m) H' d v
 | _,_,_,.non,.non=>.non
 | _,_,_,.bl b,.bl _=>.bl b
 | _,_,_,.int i,.int _=>.int i
 | _,_,_,.str x,.str _=>.str x
 | _,_,_,.ty n,.ty _=>.ty n
 | _,_,_,.tup _ r,.tup h r'=>.tup h (zK.low hm r r')
 | _,_,_,.rl _ r,.rl h r'=>.rl h (zK.low hm r r')
 | _,_,_,.exn _ _ _,.exn h e n=>.exn h e n
 | _,_,_,.ref h,.ref h'=>.ref (by rw [List.getElem?_take_of_lt (Nat.lt_of_lt_of_le (My.za7 h) hm)]; exact h')
theorem zK.low {K : PySem.W.Frag} {ad ad' : List Addr} {H H' : Hp} {m : Nat} (hm : ad.length ≤ m) : ∀ {ds : List D} {us vs : List V},zK K ad H ds us→zK K ad' H' ds vs→zK K (ad'.take m) H' ds vs
 | _,_,_,.nil,.nil=>.nil
 | _,_,_,.cons r t,.cons r' t'=>.cons (Rel.low hm r r') (zK.low hm t t')
end
theorem zaH.low {K : PySem.W.Frag} {ad ad' : List Addr} {H H' : Hp} {m : Nat} (hm : ad.length ≤ m) : ∀ {fs : List (Str × D)} {us vs : List (Str × V)},zaH K ad H fs us→zaH K ad' H' fs vs→zaH K (ad'.take m) H' fs vs
 | _,_,_,.nil,.nil=>.nil
 | _,_,_,.cons r t,.cons r' t'=>.cons (Rel.low hm r r') (zaH.low hm t t')
theorem ziA {K : PySem.W.Frag} {ad : List Addr} {H : Hp} {S : Sto} {Q0 : DK} {Q : VK} (st : zR K ad H S) (k : KK K ad H Q0 Q) : KK K ad H (Fin S Q0) Q:=by
 intro d S' v H' ad' hf w st' r
 rcases hf with q | ⟨S1,pre,hlen,hd,hc,q⟩
 ·exact k d S' v H' ad' q w st' r
 have hS : S1.length ≤ S'.length:=pre.length_le
 have had : ad.length ≤ S1.length:=by rw [st.len]; exact hlen
 have htk : ∀ {n : Nat} {a : Addr},(ad'.take S1.length)[n]? = some a→ad'[n]? = some a:=fun {n a} e=>by
  have hn:=My.za7 e
  rw [List.length_take] at hn
  rw [List.getElem?_take_of_lt (by omega)] at e
  exact e
 have w1 : Wd ad H (ad'.take S1.length) H':=by
  refine ⟨?_,w.keep,w.tup,w.frz,fun b m n=>w.new b (List.mem_of_mem_take m) n⟩
  obtain ⟨t,rfl⟩:=w.pre
  rw [List.take_append,List.take_of_length_le had]
  exact List.prefix_append _ _
 refine k d S1 v H' _ q w1 ⟨st.wd.trans w1,by rw [List.length_take,st'.len]; omega,st'.nd.sublist (List.take_sublist _ _),fun n a c e1 e2=>?_⟩ ?_
 ·have e1':=htk e1
  have ok:=st'.cell n a c e1' (ziE pre e2)
  rcases hc n c e2 with h | h
  ·obtain ⟨a0,ea,ok0⟩:=st.get h
   cases c with
   | ins c fs =>
    obtain ⟨C,dx,vs,hv,c1,c2,rv,hn⟩:=ok
    obtain ⟨_,_,us,_,_,_,ru,_⟩:=ok0
    exact ⟨C,dx,vs,hv,c1,c2,zaH.low had ru rv,hn⟩
   | lst xs =>
    obtain ⟨vs,hv,rv⟩:=ok
    obtain ⟨us,hu,ru⟩:=ok0
    exact ⟨vs,hv,zK.low had ru rv⟩
  ·cases c with
   | ins c fs=>cases h
   | lst xs =>
    obtain ⟨vs,hv,rv⟩:=ok
    exact ⟨vs,hv,zK.cut 20 _ _ h rv⟩
 ·rcases hd with h | ⟨n,rfl,hn⟩
  ·exact Rel.cut 20 _ _ h r
  ·cases r with
   | ref e=>exact .ref (by rw [List.getElem?_take_of_lt hn]; exact e)
omit B in
theorem zU {P : Program} {w : World} {K : PySem.W.Frag} {mg : Str→Option Value} {base : Heap} {x qual : Str} {st : Stmt} {f : Addr} {fd : FuncData} {N ps : List Str} {k : Nat} {sp : DSp} {b : DS} (F : Fun K x qual st f fd) (S : zO N ps (zJ st))
  (len : ∀ ds So Q,sp ds So Q→ds.length = ps.length) (body : BodyOk N.length b sp)
  (term : ∀ (cdv : Value) (A : Around) (outer : List Env) (s : Shared) (H : Hp) (E : XK),zaI k (A.deeper (envOfC qual (zJ st) s.heap.objs.size f cdv))→∀ [Bs],ze8 (ze7 CX0 P w K mg base N qual (zJ st) f cdv A outer s H E).nox (zaY st) b) :
  zZ P w K mg base CX0 (k + 1) f fd ps (upF K sp):=by
 with_unfolding_all
  refine F.ok S (fun vs H Q E ⟨ad,So,ds,Q0,so,r,hf,kk⟩=>by rw [← r.length]; exact len ds So Q0 hf) fun cdv A outer s H vs Q E hr ⟨ad,So,ds,Q0,so,r,hf,kk⟩=>?_
  letI : Bs:=⟨ad,H⟩
  refine ⟨_,term cdv A outer s H E hr,ad,zd4 N.length ds,So,_,so,zkJ N r,body ds So Q0 hf,⟨fun ρ S' σ H' ad' q w' st' rh=>ziA so kk .non S' .non H' ad' q w' st' .non,ziA so kk,fun _ _ _ _ _ q=>q.elim,fun _ _ _ _ _ q=>q.elim⟩⟩
omit B in
theorem zsH {K : PySem.W.Frag} {H : Hp} {a : Addr} {ns : List Int} (hl : ns.length ≤ 63) (hg : ∀ n ∈ ns,Hg n) (hO : Only H) (hS : SqL K H a (ns.map V.int)) : upF K zeG [.ref a] H (fun v _=>v = .bl true) fun _ _ _=>False:=by
 have hr : zhB K H a (ns.map V.int):=by
  rcases hS with (h | h) | h
  ·rcases hO a with e | ⟨o,xs,e⟩
   ·rw [h] at e; cases e
   ·rw [h] at e; cases e
  ·exact .inl h
  ·exact .inr h
 refine ⟨[],[],[.rl (ns.map D.int)],fun d _=>d = .bl true,@zR.mk ⟨[],H⟩ _ _ _ _ Wd.refl rfl List.nodup_nil (fun n a c e=>by simp at e),.cons (.rl hr (zK.mk_ints ns)) .nil,⟨ns,rfl,⟨rfl,hg⟩,hl,fun _=>rfl⟩,fun d S' v H' ad' q w st' r=>?_⟩
 have q' : d = .bl true:=q
 subst q'
 cases r
 rfl
omit B in
theorem zke : ∀ {ns : List Int} {n : Int},n ∈ ns→PySem.W.WData.weight (.int n) ≤ PySem.W.WData.weightAll (ns.map PySem.W.WData.int)
 | m :: ns,n,h=>by
  rw [List.map_cons,PySem.W.WData.weightAll]
  rcases List.mem_cons.mp h with rfl | h
  ·omega
  ·have:=zke h; omega
omit B in
theorem zo9 {l : PySem.W.OpenLaw} {n k : Nat} {q : Program} {loose : List Str} {XP : (Str→Option Value)→Heap→Prop} {YP : World→Heap→Prop} {d : DefRec} {K : Params→PySem.W.Frag} {sp : World→Sp} {x : Str}
  (hn : l.most = some n) (hn2 : n ≤ sizeLine) (hdf : d.params.defaults = []) (hr : zaI k callerA) (hY : ∀ (w : World) (h : Heap),YP w h→(K w.params).In h)
  (F : ∀ (w : World) (mg : Str→Option Value) (fa : Addr) (h : Heap),(K w.params).In h→h.Ns mainGlobals mg→mg d.name = some (.ref fa) →
   ∃ fd : FuncData,(∀ (s : Shared) (u : Value),BindsTo s fd ⟨[u],[]⟩ [(x,u)])∧∀ base : Heap,(K w.params).In base→base.Ns mainGlobals mg→zZ l.prog w (K w.params) mg base CX0 k fa fd [x] (sp w))
  (hsp : ∀ (w : World) (H : Hp) (a : Addr) (ns : List Int),ns.length ≤ n→(∀ m ∈ ns,Hg m)→Only H→SqL (K w.params) H a (ns.map V.int)→sp w [.ref a] H (fun v _=>v = .bl true) fun _ _ _=>False) :
  PySem.W.WalkO q loose XP YP l.row.toRowW d [] (fun f vs=>PySem.call f vs):=by
 intro w s₀ s₁ mg mb G Y fa o pm cd doc dV kV ho hd hcd hD hmg hg args vals as hpre hlay hrd hwl hlo
 obtain rfl : dV = .none:=PySem.W.Dflts.none hD hdf
 obtain rfl : kV = .none:=PySem.W.Dflts.noKw hD
 obtain ⟨a,vs,ns,rfl,rfl,hobj,hints,hlen⟩:=Att.zm6 hn hpre hwl
 have hbits : ∀ m ∈ ns,Hg m:=fun m hm=>by
  have h1 : PySem.W.WData.layable (.list (ns.map .int)) = true:=by simpa [PySem.W.WData.layableAll] using hlay
  have h2 : PySem.W.WData.weight (.list (ns.map PySem.W.WData.int)) ≤ 2 ^ 20:=by
   unfold PySem.W.WData.layable at h1
   rw [Bool.and_eq_true,decide_eq_true_eq] at h1
   exact h1.2
  have h3:=Nat.le_trans (zke hm) (by simpa only [PySem.W.WData.weight] using h2)
  exact zqS (by simpa only [PySem.W.WData.weight,Builtin.Int.intBits] using h3)
 have KX:=hY w _ Y
 obtain ⟨fd,hb,hF⟩:=F w mg fa _ KX G.T.g hmg
 refine PySem.W.enter_call (codeAny_mono (zoQ KX G.T.g G.T.b G.T.builtins G.T.nolimit hg hobj hints (Nat.le_trans hlen hn2) hr hF hb (fun H hO hS=>hsp w H a ns hlen hbits hO hS) fun _ _ _ z=>z) fun r s' hq=>?_)
 obtain ⟨rfl,h2,h3,h4⟩:=hq
 exact ⟨.inl ⟨.bool true,.bool true,[],rfl,fun _=>rfl,.bool true,Att.znl l _,fun _=>⟨List.Pairwise.nil,fun _ hm=>(nomatch hm)⟩⟩,h2,h3,h4⟩
omit B in
theorem zpZ {us : List Value} (hl : us.length = 1) : ∃ a0,us = [a0]:=by
  cases us with
  | nil=>simp at hl
  | cons a0 us =>
  cases us with
  | nil=>exact ⟨a0,rfl⟩
  | cons b us=>simp at hl
omit B in
theorem zmv {us : List Value} (hl : us.length = 2) : ∃ a0 a1,us = [a0,a1]:=by
  cases us with
  | nil=>simp at hl
  | cons a0 us =>
  cases us with
  | nil=>simp at hl
  | cons a1 us =>
  cases us with
  | nil=>exact ⟨a0,a1,rfl⟩
  | cons b us=>simp at hl
omit B in
theorem zpU {us : List Value} (hl : us.length = 3) : ∃ a0 a1 a2,us = [a0,a1,a2]:=by
  cases us with
  | nil=>simp at hl
  | cons a0 us =>
  cases us with
  | nil=>simp at hl
  | cons a1 us =>
  cases us with
  | nil=>simp at hl
  | cons a2 us =>
  cases us with
  | nil=>exact ⟨a0,a1,a2,rfl⟩
  | cons b us=>simp at hl
omit B in
theorem zpH {us : List Value} (hl : us.length = 4) : ∃ a0 a1 a2 a3,us = [a0,a1,a2,a3]:=by
  cases us with
  | nil=>simp at hl
  | cons a0 us =>
  cases us with
  | nil=>simp at hl
  | cons a1 us =>
  cases us with
  | nil=>simp at hl
  | cons a2 us =>
  cases us with
  | nil=>simp at hl
  | cons a3 us =>
  cases us with
  | nil=>exact ⟨a0,a1,a2,a3,rfl⟩
  | cons b us=>simp at hl
omit B in
theorem zpF {us : List Value} (hl : us.length = 5) : ∃ a0 a1 a2 a3 a4,us = [a0,a1,a2,a3,a4]:=by
  cases us with
  | nil=>simp at hl
  | cons a0 us =>
  cases us with
  | nil=>simp at hl
  | cons a1 us =>
  cases us with
  | nil=>simp at hl
  | cons a2 us =>
  cases us with
  | nil=>simp at hl
  | cons a3 us =>
  cases us with
  | nil=>simp at hl
  | cons a4 us =>
  cases us with
  | nil=>exact ⟨a0,a1,a2,a3,a4,rfl⟩
  | cons b us=>simp at hl
omit B in
theorem zuD {us : List Value} (hl : us.length = 8) : ∃ a0 a1 a2 a3 a4 a5 a6 a7,us = [a0,a1,a2,a3,a4,a5,a6,a7]:=by
  cases us with
  | nil=>simp at hl
  | cons a0 us =>
  cases us with
  | nil=>simp at hl
  | cons a1 us =>
  cases us with
  | nil=>simp at hl
  | cons a2 us =>
  cases us with
  | nil=>simp at hl
  | cons a3 us =>
  cases us with
  | nil=>simp at hl
  | cons a4 us =>
  cases us with
  | nil=>simp at hl
  | cons a5 us =>
  cases us with
  | nil=>simp at hl
  | cons a6 us =>
  cases us with
  | nil=>simp at hl
  | cons a7 us =>
  cases us with
  | nil=>exact ⟨a0,a1,a2,a3,a4,a5,a6,a7,rfl⟩
  | cons b us=>simp at hl
end Dp
namespace Dp
open PySem PySem.Spec PyProof.Rows L2 My
variable [B : Bs]
section
variable {X : Cx}
theorem zqD {K : PySem.W.Frag} {ad : List Addr} {H : Hp} {a : Addr} {x : D} {ds : List D} (r : Rel K ad H x (.ref a)) : zf4 K ad H ⟨zcx 0 ds,fun S=>Lst S x ds⟩ (Ite K a) where
 go:=fun ad1 H1 S i w st ok hi=>by
  obtain ⟨a',vs,e,s,rs⟩:=Lst.sq st ok (r.wd w)
  cases e
  have hi' : i < ds.length:=by rw [← zci 0 ds]; exact hi
  exact ⟨vs,vs[i]'(by rw [← rs.length]; exact hi'),s,List.getElem?_eq_getElem _⟩
 yld:=fun ad1 H1 S i d y H' w st ok hd ⟨p,ey,hp,he⟩=>by
  obtain ⟨a',vs,e,s,rs⟩:=Lst.sq st ok (r.wd w)
  cases e
  obtain ⟨z,hz,rfl⟩:=ze4 hd
  obtain ⟨v,ev,rv⟩:=rs.get hz
  rw [he vs v s ev,ey]
  refine ⟨Wd.laid hp,st.laid hp,.tup zaJ (.cons ?_ (.cons (rv.wd (Wd.laid hp)) .nil))⟩
  rw [Nat.zero_add]; exact .int _
 stop:=fun ad1 H1 S w st ok=>by
  obtain ⟨a',vs,e,s,rs⟩:=Lst.sq st ok (r.wd w)
  cases e
  exact ⟨vs,s,by show _ ≤ (zcx 0 ds).length; rw [zci,rs.length]; exact Nat.le_refl _⟩
theorem zoB {K : PySem.W.Frag} {ad : List Addr} {H : Hp} {a : Addr} {vs : List V} {ds : List D} (h : H a = some (.tup vs)) (r : zK K ad H ds vs) : zf4 K ad H ⟨zcx 0 ds,fun _=>True⟩ (zoY K a) where
 go:=fun ad1 H1 S i w st _ hi=>by
  have hi' : i < ds.length:=by rw [← zci 0 ds]; exact hi
  exact ⟨vs,vs[i]'(by rw [← r.length]; exact hi'),SqT.of (w.tup _ _ h),List.getElem?_eq_getElem _⟩
 yld:=fun ad1 H1 S i d y H' w st _ hd ⟨p,ey,hp,he⟩=>by
  obtain ⟨z,hz,rfl⟩:=ze4 hd
  obtain ⟨v,ev,rv⟩:=r.get hz
  rw [he vs v (SqT.of (w.tup _ _ h)) ev,ey]
  refine ⟨Wd.laid hp,st.laid hp,.tup zaJ (.cons ?_ (.cons ((rv.wd w).wd (Wd.laid hp)) .nil))⟩
  rw [Nat.zero_add]; exact .int _
 stop:=fun ad1 H1 S w st _=>⟨vs,SqT.of (w.tup _ _ h),by show _ ≤ (zcx 0 ds).length; rw [zci,r.length]; exact Nat.le_refl _⟩
theorem zku {es : List Expr} {kk : Nat} {tpos : Pos} {a : Expr} {t : DA} {p pos : Pos} (hg : Gl X "enumerate") (hm : X.mg "enumerate" = none) (ha : PAD X [a] t) (hs : starEach [a] X.env = [(false,eval a X.env)]:=by exact zdH rfl) :
  PID X (.Tuple es kk tpos) (.Call (.Name "enumerate" p) [a] [] pos) (Dp.zmQ t):=by with_unfolding_all exact (zgV (zo2 hg hm ha hs) fun σ H R hh=>el8 hh fun ad ρ S R0 st rh q k =>
 ⟨ad,ρ,S,_,st,rh,q,fun ds S1 vs H1 ad1 q0 w1 st1 r1=>by
  rcases q0 with ⟨x,xs,ed,hx,q1⟩ | ⟨xs,ed,q1⟩
  ·subst ed
   obtain ⟨v,rfl,rv⟩:=zbI r1
   obtain ⟨b,ws,rfl,s,rs⟩:=hx.sq st1 rv
   exact ⟨b,rfl,.inl ⟨⟨ws,s⟩,k _ S1 _ H1 ad1 q1 w1 st1 (zqD rv)⟩⟩
  ·subst ed
   obtain ⟨v,rfl,rv⟩:=zbI r1
   cases rv with
   | tup h r=>exact ⟨_,rfl,.inr ⟨⟨_,SqT.of h⟩,k _ S1 _ H1 ad1 q1 w1 st1 (zoB h r)⟩⟩⟩)
theorem zrH {K : PySem.W.Frag} {ad : List Addr} {H : Hp} {a b : Addr} {x y : D} {ds es : List D} (r : Rel K ad H x (.ref a)) (r2 : Rel K ad H y (.ref b)) : zf4 K ad H ⟨zbU ds es,fun S=>Lst S x ds∧Lst S y es⟩ (zmz K true true a b) where
 go:=fun ad1 H1 S i w st ok hi=>by
  obtain ⟨a',vs,e,s,rs⟩:=Lst.sq st ok.1 (r.wd w)
  obtain ⟨b',us,e',s',rs'⟩:=Lst.sq st ok.2 (r2.wd w)
  cases e
  cases e'
  have hi' : i < min ds.length es.length:=by rw [← zdL ds es]; exact hi
  exact ⟨vs,us,vs[i]'(by rw [← rs.length]; omega),us[i]'(by rw [← rs'.length]; omega),s,s',List.getElem?_eq_getElem _,List.getElem?_eq_getElem _⟩
 yld:=fun ad1 H1 S i d z H' w st ok hd ⟨p,ey,hp,he⟩=>by
  obtain ⟨a',vs,e,s,rs⟩:=Lst.sq st ok.1 (r.wd w)
  obtain ⟨b',us,e',s',rs'⟩:=Lst.sq st ok.2 (r2.wd w)
  cases e
  cases e'
  obtain ⟨u1,u2,h1,h2,rfl⟩:=zfP hd
  obtain ⟨v,ev,rv⟩:=rs.get h1
  obtain ⟨u,eu,ru⟩:=rs'.get h2
  rw [he vs us v u s s' ev eu,ey]
  exact ⟨Wd.laid hp,st.laid hp,.tup zaJ (.cons (rv.wd (Wd.laid hp)) (.cons (ru.wd (Wd.laid hp)) .nil))⟩
 stop:=fun ad1 H1 S w st ok=>by
  obtain ⟨a',vs,e,s,rs⟩:=Lst.sq st ok.1 (r.wd w)
  obtain ⟨b',us,e',s',rs'⟩:=Lst.sq st ok.2 (r2.wd w)
  cases e
  cases e'
  refine ⟨vs,us,s,s',?_⟩
  show vs.length ≤ (zbU ds es).length∨us.length ≤ (zbU ds es).length
  rw [zdL,rs.length,rs'.length]; omega
theorem zqw {K : PySem.W.Frag} {ad : List Addr} {H : Hp} {a b : Addr} {vs us : List V} {ds es : List D} (h : H a = some (.tup vs)) (r : zK K ad H ds vs) (h2 : H b = some (.tup us)) (r2 : zK K ad H es us) : zf4 K ad H ⟨zbU ds es,fun _=>True⟩ (zmz K false false a b) where
 go:=fun ad1 H1 S i w st _ hi=>by
  have hi' : i < min ds.length es.length:=by rw [← zdL ds es]; exact hi
  exact ⟨vs,us,vs[i]'(by rw [← r.length]; omega),us[i]'(by rw [← r2.length]; omega),SqT.of (w.tup _ _ h),SqT.of (w.tup _ _ h2),List.getElem?_eq_getElem _,List.getElem?_eq_getElem _⟩
 yld:=fun ad1 H1 S i d z H' w st _ hd ⟨p,ey,hp,he⟩=>by
  obtain ⟨u1,u2,h1,h2',rfl⟩:=zfP hd
  obtain ⟨v,ev,rv⟩:=r.get h1
  obtain ⟨u,eu,ru⟩:=r2.get h2'
  rw [he vs us v u (SqT.of (w.tup _ _ h)) (SqT.of (w.tup _ _ h2)) ev eu,ey]
  exact ⟨Wd.laid hp,st.laid hp,.tup zaJ (.cons ((rv.wd w).wd (Wd.laid hp)) (.cons ((ru.wd w).wd (Wd.laid hp)) .nil))⟩
 stop:=fun ad1 H1 S w st _=>by
  refine ⟨vs,us,SqT.of (w.tup _ _ h),SqT.of (w.tup _ _ h2),?_⟩
  show vs.length ≤ (zbU ds es).length∨us.length ≤ (zbU ds es).length
  rw [zdL,r.length,r2.length]; omega
theorem zsW {es : List Expr} {kk : Nat} {tpos : Pos} {a b : Expr} {t : DA} {p pos : Pos} (hg : Gl X "zip") (hm : X.mg "zip" = none) (ha : PAD X [a,b] t) (hs : starEach [a,b] X.env = [(false,eval a X.env),(false,eval b X.env)]:=by exact zkQ rfl rfl) (hs2 : starEach [b] X.env = [(false,eval b X.env)]:=by exact zdH rfl) :
  PID X (.Tuple es kk tpos) (.Call (.Name "zip" p) [a,b] [] pos) (Dp.zoO t):=by with_unfolding_all exact (zgV (zqY hg hm ha hs hs2) fun σ H R hh=>el8 hh fun ad ρ S R0 st rh q k =>
 ⟨ad,ρ,S,_,st,rh,q,fun ds S1 vs H1 ad1 q0 w1 st1 r1=>by
  rcases q0 with ⟨x,y,xs,ys,ed,hx,hy,q1⟩ | ⟨xs,ys,ed,q1⟩
  ·subst ed
   obtain ⟨v,u,rfl,rv,ru⟩:=zhz r1
   obtain ⟨b1,ws,rfl,s,rs⟩:=hx.sq st1 rv
   obtain ⟨b2,ws2,rfl,s2,rs2⟩:=hy.sq st1 ru
   exact ⟨true,b1,b2,rfl,⟨ws,s⟩,⟨ws2,s2⟩,k _ S1 _ H1 ad1 q1 w1 st1 (zrH rv ru)⟩
  ·subst ed
   obtain ⟨v,u,rfl,rv,ru⟩:=zhz r1
   cases rv with
   | tup h r =>
    cases ru with
    | tup h2 r2=>exact ⟨false,_,_,rfl,⟨_,SqT.of h⟩,⟨_,SqT.of h2⟩,k _ S1 _ H1 ad1 q1 w1 st1 (zqw h r h2 r2)⟩⟩)
end
section
variable {X : Cx} {a b : Expr} {ta tb : DE} {pos : Pos}
theorem zkf (x : D) (hx : fl 20 x = true) : ∀ ys : List D,ys.all (fl 20) = true→((zaR ys).any fun z=>PyData.eqv z (pyD x)) = ys.any fun z=>eqv z x
 | [],_=>rfl
 | y :: ys,h=>by
  rw [List.all_cons,Bool.and_eq_true] at h
  show (PyData.eqv (pyD y) (pyD x) || (zaR ys).any fun z=>PyData.eqv z (pyD x)) = _
  rw [zkv 20 y x h.1 hx,zkf x hx ys h.2]
  rfl
def zvD (X : Cx) (g : Bool→Bool) : R2:=fun x y H Q=>∃ ad S dx dy b,zR X.K ad H S∧Rel X.K ad H dx x∧Rel X.K ad H dy y∧InD S dx dy b∧Q (.bl (g b)) H
theorem zom {pins : List (Addr × Obj)} {σ : L2.St} {H : Hp} {s : Shared} {ad : List Addr} {S : Sto} {dx dy : D} {x y : V} {v u : Value} {b : Bool} (I : Inv X pins σ H s) (st : zR X.K ad H S) (rx : Rel X.K ad H dx x) (ry : Rel X.K ad H dy y) (qx : RelV x v) (qy : RelV y u) (h : InD S dx dy b) :
  ∃ pd ps as bs,Reads s.heap v pd as∧(Reads s.heap u (.list ps) bs∨Reads s.heap u (.tuple ps) bs)∧pd.canLay0 = true∧PyData.canLayAll0 ps = true∧min (PyData.depthAll ps) pd.depth ≤ 60∧(ps.any fun z=>PyData.eqv z pd) = b:=by
 obtain ⟨ys,hy,fx,fy,rfl⟩:=h
 obtain ⟨as,ra⟩:=zcW I 20 dx x v fx rx qx
 obtain ⟨c1,d1⟩:=zfU 20 dx fx
 obtain ⟨c2,d2⟩:=zfb 20 ys fy
 rcases hy with rfl | hy
 ·obtain ⟨bs,rb⟩:=zcW I 21 (.tup ys) y u fy ry qy
  exact ⟨pyD dx,zaR ys,as,bs,ra,.inr rb,c1,c2,by omega,zkf dx fx ys fy⟩
 ·obtain ⟨a2,vs2,rfl,s2,r2⟩:=hy.sq st ry
  cases qy
  obtain ⟨its2,rv2,ht2,hz2⟩:=I.list s2
  obtain ⟨o2,ho2,hc2,n2,hd2⟩:=ht2.isList
  obtain ⟨bs,rb⟩:=zfT I 20 (zcW I 20) _ _ _ fy r2 rv2
  exact ⟨pyD dx,zaR ys,as,_,ra,.inl (.list ho2 hc2 hd2 (by simpa using rb)),c1,c2,by omega,zkf dx fx ys fy⟩
theorem zuu {k : Nat} (hr : zaI k X.A) : OC X .In oIn:=⟨_,(OpR.or (r:=zvD X id) (fun pins s σ H x y v u Q I qx qy ⟨ad,S,dx,dy,b,st,rx,ry,h,q⟩=>by
  obtain ⟨pd,ps,as,bs,ra,rb,c1,c2,hd,e⟩:=zom I st rx ry qx qy h
  have hu:=hr.units
  rcases rb with rb | rb
  ·exact PySem.SeqAt.in_list_reads rb ra c2 c1 (by omega) ⟨.bl _,H,I,by rw [e]; rfl,q⟩
  ·exact PySem.SeqAt.in_tuple_reads rb ra c2 c1 (by omega) ⟨.bl _,H,I,by rw [e]; rfl,q⟩) zod),
 fun ad H S x y v u Q0 Q st rx ry h k=>by
  rcases h with ⟨b,h,q⟩ | ⟨c,z,rfl,rfl,q⟩
  ·exact .inl ⟨ad,S,x,y,b,st,rx,ry,h,k _ S _ H ad q Wd.refl st (.bl _)⟩
  ·cases rx
   cases ry
   exact .inr ⟨_,z,rfl,rfl,by rw [PySem.StrLaws.found_one]; exact k _ S _ H ad q Wd.refl st (.bl _)⟩⟩
theorem zqC {op : CmpOp} {r' : DR2} (o : OC X op r') (ha : PD X a ta) (hb : PD X b tb) (hm : behindInMarks op b = false:=by with_unfolding_all rfl) : PD X (.Compare a [op] [b] pos) (dOp r' ta tb):=by
 with_unfolding_all
  obtain ⟨r,ho,od⟩:=o
  exact za1 (zlB ho ha hb hm) fun _ _ _=>zh8 od
end
section
variable {X : Cx}
theorem ints_of : ∀ {ns : List Int} {its : List Value},Vals (ns.map V.int) its→IntsAre its ns
 | [],_,r=>by cases r; exact .nil
 | n :: ns,_,r=>by
  cases r with
  | cons h t =>
   obtain ⟨k,rfl⟩:=h
   exact .cons _ _ (ints_of t)
theorem zlT : ∀ {ns : List Int} {its : List Value},IntsAre its ns→Vals (ns.map V.int) its
 | [],_,r=>by cases r; exact .nil
 | n :: ns,_,r=>by
  cases r with
  | cons _ _ t=>exact .cons ⟨_,rfl⟩ (zlT t)
def zrJ (K : PySem.W.Frag) : List V→Hp→VK→Prop:=fun xs H Q=>∃ (p : Addr) (ns : List Int),xs = [.ref p]∧SqL K H p (ns.map V.int)∧ns.length < 64∧∀ (l : Addr) (ss : List Int),H l = none→ss.Perm ns→ss.Pairwise (fun a b=>a ≤ b)→Q (.ref l) (upd H l (.lst (ss.map V.int)))
theorem zkg {K : PySem.W.Frag} (hK : X.K = K) : zaA X (.builtin "sorted") (zrJ K):=fun pins s σ H xs us Q I r h=>by
 subst hK
 obtain ⟨p,ns,rfl,hS,h64,q⟩:=h
 obtain ⟨u,rfl,ru⟩:=vals1 r
 cases ru
 obtain ⟨its,rv,pl,hz⟩:=I.list hS
 have hI:=ints_of rv
 have hlen:=rv.length
 rw [List.length_map] at hlen hz
 refine sorted_ints pl.isList hI (by omega) fun out ss h1 h2 h3=>?_
 obtain ⟨e,he⟩:=sortedAll_at s.heap its out
 have hv:=zlT h1
 refine ⟨.ref (s.heap.objs.size + 1),_,I.laid (t':=s.toks) (a:=s.heap.objs.size + 1) (o:=.lst (ss.map V.int)) (fun b o q=>sortedAll_old q) (Nat.le_succ _) ⟨?_,out.toList,e,hv,?_⟩,rfl,q _ ss (I.hok.fresh (Nat.le_succ _)) h2 h3⟩
 ·rw [List.length_map,h2.length_eq]; exact hz
 ·rw [he]
theorem zpv : BC X (.builtin "sorted") zne:=⟨_,zkg rfl,fun ad H S ds vs Q0 Q st r ⟨x,ns,e,hx,h64,q⟩ k=>by
 subst e
 obtain ⟨v,rfl,rv⟩:=zbI r
 obtain ⟨a,ws,rfl,hs,rs⟩:=hx.sq st rv
 cases rs.ints
 exact ⟨a,ns,rfl,hs,h64,fun l ss hl hp hw=>zfm st k (zK.mk_ints ss) (q ss hp hw) l hl⟩⟩
theorem zq0 : BC X (.builtin "sorted") zlZ:=by
 obtain ⟨r1,c1,d1⟩:=zpi (X:=X)
 obtain ⟨r2,c2,d2⟩:=zpv (X:=X)
 refine ⟨fun xs H Q=>r1 xs H Q∨r2 xs H Q,fun pins s σ H xs us Q I r h=>?_,fun ad H S ds vs Q0 Q st r h k=>?_⟩
 ·rcases h with h | h
  ·exact c1 pins s σ H xs us Q I r h
  ·exact c2 pins s σ H xs us Q I r h
 ·rcases h with h | h
  ·exact .inl (d1 ad H S ds vs Q0 Q st r h k)
  ·exact .inr (d2 ad H S ds vs Q0 Q st r h k)
end
section
variable {X : Cx} {e : Expr} {pos p2 p3 : Pos} {lo : Option Expr}
end
theorem zkr {K : PySem.W.Frag} {ad : List Addr} {H : Hp} : ∀ {zs : List Str} {vs : List V},zK K ad H (zs.map D.str) vs→vs = zs.map V.str
 | [],_,.nil=>rfl
 | z :: zs,_,.cons r t=>by cases r; rw [zkr t]; rfl
theorem zp9 {X : Cx} {a : Expr} {t : DA} {p1 p2 pos1 pos2 : Pos} (hgl : Gl X "len") (hml : X.mg "len" = none) (hgr : Gl X "set") (hmr : X.mg "set" = none) (ha : PAD X [a] t) (hc : X.calm = true:=by rfl)
  (hs : starEach [a] X.env = [(false,eval a X.env)]:=by exact zdH rfl)
  (hs3 : starEach [.Call (.Name "set" p2) [a] [] pos2] X.env = [(false,eval (.Call (.Name "set" p2) [a] [] pos2) X.env)]:=by rfl) :
  PD X (.Call (.Name "len" p1) [.Call (.Name "set" p2) [a] [] pos2] [] pos1) (dB zl4 t):=by with_unfolding_all exact (za1 (zqJ hc hgl hml hgr hmr ha hs hs3) fun σ H Q hh=>el8 hh fun ad ρ S Q0 st rh q k =>
  ⟨ad,ρ,S,_,st,rh,q,fun ds S1 vs H1 ad1 ⟨x,zs,ed,hx,hl,q1⟩ w1 st1 r1=>by
   subst ed
   obtain ⟨v,rfl,rv⟩:=zbI r1
   obtain ⟨a1,ws,rfl,hs,rs⟩:=hx.sq st1 rv
   cases zkr rs
   exact ⟨a1,zs,rfl,hs,hl,k _ S1 _ H1 ad1 q1 w1 st1 (.int _)⟩⟩)
section
variable {X : Cx} {e : Expr} {t : DA} {p pos kp cp : Pos} {j : Nat}
end
section
variable {X : Cx} {e o value : Expr} {te to tv : DE} {f c : Str} {pos pos' : Pos}
theorem zbH (he : PD X e te) (hb : attributeBase e f X.env (eval e X.env) = eval e X.env) : PD X (.Attribute e f pos) (zcY f te):=by with_unfolding_all exact (za1 (zsT he hb) fun σ H Q hh=>el8 hh fun ad ρ S Q0 st rh q k =>
  ⟨ad,ρ,S,_,st,rh,q,fun x S1 v H1 ad1 ⟨n,c,fs,d,ex,hn,hl,q1⟩ w1 st1 r1=>by
   subst ex
   cases r1 with
   | ref en =>
    obtain ⟨C,dx,vs,h1,hc,hns,rf,hna⟩:=st1.cell n _ _ en hn
    obtain ⟨v,hv,rv⟩:=rf.look hl
    obtain ⟨q2,hq2,e2⟩:=zj5 hl
    exact ⟨_,C,dx,vs,v,rfl,h1,hc,e2 ▸ hna q2 hq2,hv,k d S1 v H1 ad1 q1 w1 st1 rv⟩⟩)
theorem zdf (hna : ∀ C,PySem.W.nsIn X.K mainGlobals c = some (some (.ref C))→zar X.K C f) (ho : PD X o to) (hv : PD X value tv) (hs : swapsWith value (some (.Attribute o f pos')) pos.line X.env = pure false:=by rfl) :
  PSD X (.Assign [.Attribute o f pos'] value pos) (zdR c f to tv):=by with_unfolding_all exact (zbl (zrw ho hv hs) fun E σ H hh=>el8 hh fun ad ρ S E0 so rh q k =>
 ⟨ad,ρ,S,_,so,rh,q,fun y S1 vy H1 ad1 q1 w1 st1 r1=>⟨ad1,ρ,S1,_,st1,rh.wd w1,q1,fun x S2 vx H2 ad2 ⟨n,fs,ex,hn,hl,q2⟩ w2 st2 r2=>by
  subst ex
  cases r2 with
  | ref en =>
   obtain ⟨C,dx,vs,h1,hc,hns,rf,hna'⟩:=st2.cell n _ _ en hn
   have w3 : Wd ad2 H2 ad2 (upd H2 _ (.ins C dx (zbB f vy vs))):=Wd.putI en h1
   exact ⟨_,C,dx,vs,rfl,h1,hc,hna C hns,by rw [← rf.length]; omega,k.nx ρ _ σ _ ad2 q2 ((w1.trans w2).trans w3) (st2.putI en h1 hc hns rf hna' (hna C hns) (r1.wd w2)) (((rh.wd w1).wd w2).wd w3)⟩⟩⟩)
omit B in
theorem zlF {K : PySem.W.Frag} {C : Addr} {c : Str} {init : DSp} (hc : Cls K C) (hn : PySem.W.nsIn K mainGlobals c = some (some (.ref C))) : ∀ vs H Q,upF K (zmD c init) vs H Q E0→∀ x dx,H x = none→H dx = none→dx ≠ x →
  upF K init (.ref x :: vs) (upd (upd H dx (.own x)) x (.ins C dx [])) (fun v H2=>v = .non∧Q (.ref x) H2) E0:=by
 rintro vs H Q ⟨ad,S,ds,Q0,st,r,hf,k⟩ x dx hx hdx hne
 letI : Bs:=⟨ad,H⟩
 obtain ⟨w,st'⟩:=st.newI (c:=c) hx hdx hne hc hn
 have rx : Rel K (ad ++ [x]) (upd (upd H dx (.own x)) x (.ins C dx [])) (.ref S.length) (.ref x):=.ref (by rw [← st.len,List.getElem?_append_right (Nat.le_refl _),Nat.sub_self]; rfl)
 have hf' : init (.ref S.length :: ds) (S ++ [.ins c []]) (fun d S2=>d = .non∧Q0 (.ref S.length) S2):=hf
 refine ⟨ad ++ [x],S ++ [.ins c []],.ref S.length :: ds,_,st'.base,.cons rx (r.wd w),hf',fun d S' v H' ad' q w' st2 rv=>?_⟩
 obtain ⟨rfl,q⟩:=q
 cases rv
 exact ⟨rfl,k _ S' _ H' ad' q (w.trans w') (st'.back st2) (rx.wd w')⟩
theorem zj3 {k j : Nat} {x : Str} {e : Expr} {es : List Expr} {t : DA} {p : Pos} {f : DSp} (G : ziD X.prog X.w X.K X.mg X.base k x (upF X.K f)) (hr : zaI j X.A) (hk : k + 1 ≤ j) (hg : Gl X x)
  (ha : PAD X (e :: es) t) (hdb : (x == ("__debug__" : Str)) = false:=by decide) (he : starEach (e :: es) X.env = (false,eval e X.env) :: starEach es X.env:=by exact zbj rfl) (hpl : (backTo pos (starEach es X.env)).any (·.1) = false:=by exact zc3 rfl) :
  PD X (.Call (.Name x p) (e :: es) [] pos) (dCall f t):=by with_unfolding_all exact (za1 (ztR G hr hk hg ha hdb he hpl) fun σ H Q hh=>el8 hh fun ad ρ S Q0 st rh q k =>
 ⟨ad,ρ,S,_,st,rh,q,fun ds S1 vs H1 ad1 q1 w1 st1 r1=>by
  show upF X.K f (vs ++ []) H1 Q E0
  rw [List.append_nil]; exact ⟨ad1,S1,ds,Q0,st1.base,r1,q1,(k.wd w1).base st1⟩⟩)
end
end Dp
namespace Dp
open PySem PySem.Spec PyProof.Rows L2 My
def Fly (h0 h : Heap) (e : Addr) (cls : Value) (H : Hp) : Prop:=h0.get? e = none∧H e = none∧∃ (a0 : Value) (oe : Obj) (vs : Array Value) (T : Addr) (oT : Obj) (ts : Array Value),h.get? e = some oe∧(oe.cls = cls∧vs[0]? = some a0)∧oe.data = .fields vs∧vs[1]? = some (.ref T)∧h0.get? T = none∧T ≠ e∧h.get? T = some oT∧oT.data = .fields ts∧ts[3]? = some .none∧H T = none
def CXd (P : Program) (w : World) : CXT:=fun outer H s E e s'=>∃ (a C : Addr) (H' : Hp),e = .ref a∧s'.os = s.os∧AllBare s'.gens∧Un (frs outer) [] H H' s.heap s'.heap∧HOk P w H' s'.heap∧Fly s.heap s'.heap a (.ref C) H'∧E (.ref C) none H'
def zdn (h : Heap) (p : Addr→Bool) : Heap:={ h with objs:=h.objs.mapIdx fun i o=>if p i = true then o else { cls:=.none,data:=.freed } }
theorem zeD (h : Heap) (p : Addr→Bool) (b : Addr) : (zdn h p).get? b = if p b = true then h.get? b else none:=by
  unfold zdn Heap.get?
  dsimp only
  rw [Array.getElem?_mapIdx]
  cases h.objs[b]? with
  | none=>cases p b <;> rfl
  | some o=>cases p b <;> rfl
theorem zie (h : Heap) (p : Addr→Bool) : (zdn h p).StaysIn h:=fun b o e=>by
 rw [zeD] at e
 split at e
 ·exact e
 ·cases e
theorem ziZ {h base base' : Heap} : ∀ {l : List Env},h.FunFrames base l→(∀ L ∈ frs l,base'.get? L = none)→h.FunFrames base' l
 | [],_,_=>True.intro
 | env :: l,⟨h1,⟨L,o,h2,h3,h4,h5⟩,h6⟩,hb=>⟨h1,⟨L,o,h2,hb L (List.mem_filterMap.mpr ⟨env,by simp,h2⟩),h4,h5⟩,ziZ h6 fun L' hL=>hb L' (by
   obtain ⟨e',he,e2⟩:=List.mem_filterMap.mp hL
   exact List.mem_filterMap.mpr ⟨e',List.mem_cons_of_mem _ he,e2⟩)⟩
section
variable {X : Cx} {pins : List (Addr × Obj)} {σ : L2.St} {H : Hp} {s : Shared}
theorem znh (I : Inv X pins σ H s) (hex : X.ex = []) {b : Addr} {o : Obj} (e : X.s₀.heap.get? b = some o) : ∃ o',s.heap.get? b = some o':=I.base.there b o e (by rw [hex]; simp)
theorem zd3 (I : Inv X pins σ H s) (hex : X.ex = []) {b : Addr} (e : s.heap.get? b = none) : X.s₀.heap.get? b = none:=by
 cases q : X.s₀.heap.get? b with
 | none=>rfl
 | some o=>obtain ⟨o',h⟩:=znh I hex q; rw [e] at h; cases h
theorem zhU (I : Inv X pins σ H s) {b : Addr} (e : s.heap.get? b = none) : H b = none:=by
 cases q : H b with
 | none=>rfl
 | some o =>
  have:=(I.hok b o q).lt
  exfalso
  cases o with
  | lst xs=>obtain ⟨_,_,_,_,h⟩:=I.hok b _ q; rw [e] at h; cases h
  | tup xs=>obtain ⟨_,_,_,ob,h,_⟩:=I.hok b _ q; rw [e] at h; cases h
  | dK kvs=>obtain ⟨_,_,_,_,ob,_,_,h,_⟩:=I.hok b _ q; rw [e] at h; cases h
  | dT kvs=>obtain ⟨_,_,_,_,ob,_,_,h,_⟩:=I.hok b _ q; rw [e] at h; cases h
  | set S n=>obtain ⟨ob,_,_,_,h,_⟩:=I.hok b _ q; rw [e] at h; cases h
  | ins C dx fs=>obtain ⟨_,_,_,h,_⟩:=I.hok b _ q; rw [e] at h; cases h
  | own y=>obtain ⟨_,h⟩:=I.hok b _ q; rw [e] at h; cases h
  | xd fs=>obtain ⟨_,⟨_,_,_,h,_⟩,_⟩:=I.hok b _ q; rw [e] at h; cases h
  | rng lo hi=>obtain ⟨_,_,_,h⟩:=I.hok b _ q; rw [e] at h; cases h
  | frz ob u=>obtain ⟨h,_⟩:=I.hok b _ q; rw [e] at h; cases h
  | tbl ps=>have h : s.heap.get? b = some _:=I.hok b _ q; rw [e] at h; cases h
  | met f y=>have h : s.heap.get? b = some _:=I.hok b _ q; rw [e] at h; cases h
  | ext φ=>obtain ⟨_,⟨_,h⟩,_⟩:=I.hok b _ q; rw [e] at h; cases h
theorem zjp (I : Inv X pins σ H s) (hex : X.ex = []) (hst : X.stack = X.env :: X.outer) (hfr : X.env.frame = some X.env.locals) {e T0 : Addr} {h' : Heap} (he : X.s₀.heap.get? e = none) (hT : X.s₀.heap.get? T0 = none) (He : H e = none) (HT : H T0 = none)
  (hk : ∀ b o,s.heap.get? b = some o→b ≠ e→b ≠ T0→b ∉ frs X.stack→h'.get? b = some o) (hs : ∀ b ∈ frs X.stack,∀ o,s.heap.get? b = some o→∃ sl,h'.get? b = some { o with slots:=sl }) :
  Un X.fs [] X.H₀ H X.s₀.heap h'∧HOk X.prog X.w H h':=by
 have nfr : ∀ {b : Addr} {o : Obj},X.s₀.heap.get? b = some o→b ∉ X.fs→b ∉ frs X.stack:=fun {b o} q n m=>by
  rw [hst] at m
  obtain ⟨e',h1,h2⟩:=List.mem_filterMap.mp m
  rcases List.mem_cons.mp h1 with rfl | h1
  ·rw [hfr] at h2
   cases h2
   exact absurd (Heap.lt_size q) (Nat.not_lt.mpr I.ok.above)
  ·exact n (List.mem_filterMap.mpr ⟨e',h1,h2⟩)
 have sub : ∀ {b : Addr},b ∈ X.fs→b ∈ frs X.stack:=fun {b} m=>by
  obtain ⟨e',h1,h2⟩:=List.mem_filterMap.mp m
  rw [hst]
  exact List.mem_filterMap.mpr ⟨e',List.mem_cons_of_mem _ h1,h2⟩
 have nex : ∀ b : Addr,b ∉ X.ex:=fun b=>by rw [hex]; simp
 have ne : ∀ {b : Addr} {o : Obj},X.s₀.heap.get? b = some o→b ≠ e∧b ≠ T0:=fun {b o} q=>⟨fun z=>(by rw [z,he] at q; cases q),fun z=>(by rw [z,hT] at q; cases q)⟩
 have ub:=I.base
 refine ⟨⟨fun b o q n m _=>?_,fun b o q n m _=>?_,fun b o q n _=>ub.free b o q n (nex b),fun b o q _=>?_,ub.tups,ub.frzs,ub.tbls⟩,fun a o q=>?_⟩
 ·exact hk b o (ub.keep b o q n m (nex b)) (ne q).1 (ne q).2 (nfr q m)
 ·obtain ⟨sl,h1⟩:=ub.slot b o q n m (nex b)
  obtain ⟨sl',h2⟩:=hs b (sub m) _ h1
  exact ⟨sl',h2⟩
 ·obtain ⟨o',h1⟩:=ub.there b o q (nex b)
  by_cases m : b ∈ frs X.stack
  ·obtain ⟨sl,h2⟩:=hs b m o' h1
   exact ⟨_,h2⟩
  ·exact ⟨o',hk b o' h1 (ne q).1 (ne q).2 m⟩
 ·have inn : ∀ {b : Addr},H b ≠ none→b ≠ e∧b ≠ T0∧b ∉ frs X.stack:=fun {b} n=>⟨fun z=>n (by rw [z]; exact He),fun z=>n (by rw [z]; exact HT),fun z=>n (I.stkFree b z)⟩
  refine (I.hok a o q).stay (fun b u hb r=>?_) (fun _ r=>r) fun _ _ r=>r
  have n : H b ≠ none:=by
   rcases hb with rfl | hb
   ·rw [q]; exact Option.some_ne_none _
   ·rw [hb]; exact Option.some_ne_none _
  obtain ⟨n1,n2,n3⟩:=inn n
  exact hk b u r n1 n2 n3
theorem znW (I : Inv X pins σ H s) (hex : X.ex = []) (hst : X.stack = X.env :: X.outer) (hfr : X.env.frame = some X.env.locals) {e C : Addr} {E : Value→Shared→Prop} {Q : Unit→Shared→Prop} (F : Fly X.s₀.heap s.heap e (.ref C) H)
  (hQ : ∀ s' : Shared,s'.os = X.s₀.os→AllBare s'.gens→Un X.fs [] X.H₀ H X.s₀.heap s'.heap→HOk X.prog X.w H s'.heap→Fly X.s₀.heap s'.heap e (.ref C) H→Q () s') : wpAny (model X.prog X.w) X.A (leaving X.env (.ref e)) Q E s:=by
 obtain ⟨he,He,a0,oe,vs,T,oT,ts,f1,f2,f3,f4,f5,f6,f7,f8,f9,HT⟩:=F
 have ff : s.heap.FunFrames X.base X.stack:=I.stack
 obtain ⟨p,hp⟩ : ∃ p : Addr→Bool,∀ b,p b = true ↔ b ≠ e∧b ≠ T∧b ∉ frs X.stack:=⟨fun b=>decide (b ≠ e∧b ≠ T∧b ∉ frs X.stack),fun b=>decide_eq_true_iff⟩
 have mno : ∀ {b : Addr},¬ (b ≠ e∧b ≠ T∧b ∉ frs X.stack)→(zdn s.heap p).get? b = none:=fun {b} n=>by
  rw [zeD,if_neg (fun z=>n ((hp b).mp z))]
 have myes : ∀ {b : Addr} {o : Obj},s.heap.get? b = some o→b ≠ e→b ≠ T→b ∉ frs X.stack→(zdn s.heap p).get? b = some o:=fun {b o} q n1 n2 n3=>by
  rw [zeD,if_pos ((hp b).mpr ⟨n1,n2,n3⟩)]; exact q
 have fb : s.heap.FunFrames (zdn s.heap p) X.stack:=ziZ ff fun L hL=>mno fun z=>z.2.2 hL
 have fl : Heap.FlyingW (zdn s.heap p) X.stack e (.ref C) a0 s.heap:=⟨zie _ _,mno fun z=>z.1 rfl,fb,oe,vs,T,oT,ts,f1,f2,f3,f4,mno fun z=>z.2.1 rfl,f6,f7,f8,f9⟩
 have fr:=I.ok.frames
 rw [hst] at fr
 rw [hst] at fl
 refine wpAny_leaves_onW fr hfr fl fun h' ⟨k1,k2,k3,oe',vs',T',oT',ts',g1,g2,g3,g4,g5,g6,g7,g8,g9⟩ us=>?_
 have hs : ∀ b ∈ frs X.stack,∀ o,s.heap.get? b = some o→∃ sl,h'.get? b = some { o with slots:=sl }:=fun b hb o q=>by
  obtain ⟨_,o',h1,h2⟩:=ff.mem hb
  rw [q] at h1; cases h1
  exact us b o q h2
 have hk : ∀ b o,s.heap.get? b = some o→b ≠ e→b ≠ T→b ∉ frs X.stack→h'.get? b = some o:=fun b o q n1 n2 n3=>k1 b o (myes q n1 n2 n3)
 obtain ⟨u1,u2⟩:=zjp I hex hst hfr he f5 He HT hk hs
 have nT : X.s₀.heap.get? T' = none∧H T' = none:=by
  by_cases z1 : T' = T
  ·rw [z1]; exact ⟨f5,HT⟩
  ·by_cases z2 : T' ∈ frs X.stack
   ·exfalso
    obtain ⟨_,o',h1,h2⟩:=ff.mem z2
    obtain ⟨sl,h3⟩:=hs T' z2 o' h1
    rw [g7] at h3; cases h3
    exact h2 ts' g8
   ·have : s.heap.get? T' = none:=by
     cases q : s.heap.get? T' with
     | none=>rfl
     | some o=>rw [myes q g6 z1 z2] at g5; cases g5
    exact ⟨zd3 I hex this,zhU I this⟩
 exact hQ _ I.os I.bare u1 u2 ⟨he,He,a0,oe',vs',T',oT',ts',g1,g2,g3,g4,nT.1,g6,g7,g8,g9,nT.2⟩
theorem zl5 (I : Inv X pins σ H s) (hex : X.ex = []) (hst : X.stack = X.env :: X.outer) (hfr : X.env.frame = some X.env.locals) {e C : Addr} {args : List Value} {h1 : Heap} {E : Value→Shared→Prop} {Q : Unit→Shared→Prop} (hx : s.heap.MadeExcOf h1 e (.ref C) args)
  (hQ : ∀ s' : Shared,s'.os = X.s₀.os→AllBare s'.gens→Un X.fs [] X.H₀ H X.s₀.heap s'.heap→HOk X.prog X.w H s'.heap→Fly X.s₀.heap s'.heap e (.ref C) H→Q () s') : wpAny (model X.prog X.w) X.A (leaving X.env (.ref e)) Q E { s with heap:=h1 }:=by
 have ff : s.heap.FunFrames X.base X.stack:=I.stack
 obtain ⟨p,hp⟩ : ∃ p : Addr→Bool,∀ b,p b = true ↔ b ∉ frs X.stack:=⟨fun b=>decide (b ∉ frs X.stack),fun b=>decide_eq_true_iff⟩
 have mno : ∀ {b : Addr},b ∈ frs X.stack→(zdn s.heap p).get? b = none:=fun {b} n=>by
  rw [zeD,if_neg (fun z=>(hp b).mp z n)]
 have myes : ∀ {b : Addr} {o : Obj},s.heap.get? b = some o→b ∉ frs X.stack→(zdn s.heap p).get? b = some o:=fun {b o} q n3=>by
  rw [zeD,if_pos ((hp b).mpr n3)]; exact q
 have fb : s.heap.FunFrames (zdn s.heap p) X.stack:=ziZ ff fun L hL=>mno hL
 have fr:=I.ok.frames
 rw [hst] at fr
 rw [hst] at fb
 refine wpAny_leaves_madeW (base:=zdn s.heap p) (h:=s.heap) fr hfr (zie _ _) fb hx fun h' t ⟨k1,k2,k3,oe',vs',T',oT',ts',g1,g2,g3,g4,g5,g6,g7,g8,g9⟩ _ _ us=>?_
 have us' : s.heap.UpToSlots h':=fun b o q n=>us b o (hx.keeps b o q) n
 have hs : ∀ b ∈ frs X.stack,∀ o,s.heap.get? b = some o→∃ sl,h'.get? b = some { o with slots:=sl }:=fun b hb o q=>by
  obtain ⟨_,o',h1,h2⟩:=ff.mem hb
  rw [q] at h1; cases h1
  exact us' b o q h2
 have hk : ∀ b o,s.heap.get? b = some o→b ≠ e→b ≠ e→b ∉ frs X.stack→h'.get? b = some o:=fun b o q _ _ n3=>k1 b o (myes q n3)
 have he:=zd3 I hex hx.new
 have He:=zhU I hx.new
 obtain ⟨u1,u2⟩:=zjp I hex hst hfr he he He He hk hs
 have nT : X.s₀.heap.get? T' = none∧H T' = none:=by
  by_cases z2 : T' ∈ frs X.stack
  ·exfalso
   obtain ⟨_,o',h1,h2⟩:=ff.mem z2
   obtain ⟨sl,h3⟩:=hs T' z2 o' h1
   rw [g7] at h3; cases h3
   exact h2 ts' g8
  ·have : s.heap.get? T' = none:=by
    cases q : s.heap.get? T' with
    | none=>rfl
    | some o=>rw [myes q z2] at g5; cases g5
   exact ⟨zd3 I hex this,zhU I this⟩
 exact hQ _ I.os I.bare u1 u2 ⟨he,He,_,oe',vs',T',oT',ts',g1,g2,g3,g4,nT.1,g6,g7,g8,g9,nT.2⟩
end
def zdP (K : PySem.W.Frag) (f : zeK) : Sp:=fun vs H Q E=>∃ ad S ds Q0 X0,@zR ⟨ad,H⟩ K ad H S∧zK K ad H ds vs∧f ds S Q0 X0∧@KK ⟨ad,H⟩ K ad H Q0 Q ∧
 ∀ (c : Str) (C : Addr) (S' : Sto) (ad' : List Addr) (H' : Hp),X0 c S'→@zR ⟨ad,H⟩ K ad' H' S'→PySem.W.nsIn K mainGlobals c = some (some (.ref C))→E (.ref C) none H'
structure zhK (P : Program) (w : World) (K : PySem.W.Frag) (mg : Str→Option Value) (base : Heap) (k : Nat) (x : Str) (ps : List Str) (sp : Sp) : Prop where
 ex : ∃ f fd,zZ P w K mg base (CXd P w) k f fd ps sp∧Binds K fd ps []∧PySem.W.keepIn K (.ref f) = true∧mg x = some (.ref f)
def XOk [B : Bs] (X : Cx) (ex : XR) : Prop:=∀ (pins : List (Addr × Obj)) (σ : L2.St) (H : Hp) (s s' : Shared) (ad ad' : List Addr) (ρ : Rho) (S S' : Sto) (c : Str) (C a : Addr) (H' : Hp),Inv X pins σ H s→zR X.K ad H S→zaz X.K ad H ρ σ→ex ρ c S'→zR X.K ad' H' S'→Wd ad H ad' H' →
 PySem.W.nsIn X.K mainGlobals c = some (some (.ref C))→s'.os = s.os→AllBare s'.gens→Un (frs X.stack) [] H H' s.heap s'.heap→HOk X.prog X.w H' s'.heap→Fly s.heap s'.heap a (.ref C) H'→X.xe (.ref a) s'
def XMk [B : Bs] (X : Cx) (ex : XR) : Prop:=∀ (pins : List (Addr × Obj)) (σ : L2.St) (H : Hp) (s : Shared) (ad : List Addr) (ρ : Rho) (S : Sto) (c : Str) (C e : Addr) (args : List Value) (h1 : Heap),Inv X pins σ H s→zR X.K ad H S→zaz X.K ad H ρ σ→ex ρ c S →
 PySem.W.nsIn X.K mainGlobals c = some (some (.ref C))→s.heap.MadeExcOf h1 e (.ref C) args→X.xe (.ref e) { s with heap:=h1 }
section
variable [B : Bs] {X : Cx}
theorem zc5 {k j : Nat} {x : Str} {ps : List Str} {f : zeK} {ex : XR} {p pos : Pos} {e : Expr} {es : List Expr} {t : DA} (G : zhK X.prog X.w X.K X.mg X.base k x ps (zdP X.K f)) (hX : XOk X ex) (hr : zaI j X.A) (hk : k ≤ j) (hg : Gl X x)
  (ha : PAD X (e :: es) t) (hdb : (x == ("__debug__" : Str)) = false:=by decide) (he : starEach (e :: es) X.env = (false,eval e X.env) :: starEach es X.env:=by exact zbj rfl) (hpl : (backTo pos (starEach es X.env)).any (·.1) = false:=by exact zc3 rfl) :
  PD X (.Call (.Name x p) (e :: es) [] pos) (zdz f ex t):=by
 with_unfolding_all
  intro pins s σ H Q I h
  obtain ⟨ad,ρ,S,Q0,st,rh,q,kk⟩:=h
  obtain ⟨fa,fd,F,b,kp,m⟩:=G.ex
  have F:=F.mono hk
  refine wpAny_Call_Name_kw (zfx I hg m ?_ hdb)
  have hA:=ha pos pins s σ H (fun vs H1=>∃ ds S1 ad1,f ds S1 Q0 (ex ρ)∧Wd ad H ad1 H1∧zR X.K ad1 H1 S1∧zK X.K ad1 H1 ds vs) I ⟨ad,ρ,S,_,st,rh,q,fun ds S1 vs H1 ad1 q1 w1 st1 r1=>⟨ds,S1,ad1,q1,w1,st1,r1⟩⟩
  refine PySem.W.callWith_K (h₀:=X.base) I.ok.mod.kin kp (thn hA fun us s1 ⟨vs,H1,I1,r,q1⟩=>⟨I1.kIn,?_⟩) he hpl
  obtain ⟨ds,S1,ad1,q1,w1,st1,r1⟩:=q1
  have hsp : zdP X.K f vs H1 Q (fun cls _ H'=>∃ c C S' ad',cls = Value.ref C∧ex ρ c S'∧zR X.K ad' H' S'∧Wd ad1 H1 ad' H'∧PySem.W.nsIn X.K mainGlobals c = some (some (.ref C))) :=
   ⟨ad1,S1,ds,Q0,ex ρ,st1.base,r1,q1,(kk.wd w1).base st1,fun c C S' ad' H' hx st' hn=>⟨c,C,S',ad',rfl,hx,st1.back st',@zR.wd ⟨ad1,H1⟩ _ _ _ _ st',hn⟩⟩
  have hl : us.length = ps.length:=by rw [← r.length]; exact F.len _ _ _ _ hsp
  refine wpAny_call (codeAny_mono (F.run X.A X.stack s1 H1 ⟨us,[]⟩ us vs Q _ hr I1.env0 (by have:=b s1 us I1.kIn (by rw [List.append_nil]; exact hl); rwa [List.append_nil] at this) r hsp) fun res s' hq=>?_)
  cases res with
  | error e =>
   obtain ⟨a,C,H',rfl,os,bare,un,hok,fly,c,C',S',ad',hC,hx,st',wd',hn⟩:=hq
   cases hC
   exact hX pins σ H1 s1 s' ad1 ad' ρ S1 S' c C a H' I1 st1 (rh.wd w1) hx st' wd' hn os bare un hok fly
  | ok fl =>
   cases fl with
   | ret u=>exact I1.after hq
   | next=>exact False.elim hq
   | brk=>exact False.elim hq
   | cont=>exact False.elim hq
theorem zl8 : XOk X xF:=fun _ _ _ _ _ _ _ _ _ _ _ _ _ _ _ _ _ h=>h.elim
structure ExC (K : PySem.W.Frag) (C : Addr) : Prop where
 ex : ∃ nm q N bs bm hdct sn sub ab col dd k0 k1 k2 k3 k5,K.lookup C = some (excClassObj nm q C N bs bm hdct sn sub ab col dd k0 k1 k2 k3 k5 "ValueError.__new__")∧PySem.W.nsOkIn K N = true∧PySem.W.nsIn K N "__init__" = some none ∧
  PySem.W.tailIn K [.type "ValueError",.type "Exception",.type "BaseException",.type "object"] bm = true
theorem zgF {x : Str} {ex : XR} {np cpos pos : Pos} {e : Expr} {t : DA} (hX : XMk X ex) (hc : X.calm = true) (hC : ∀ C,PySem.W.nsIn X.K mainGlobals x = some (some (.ref C))→ExC X.K C) (hx : ∃ C,PySem.W.nsIn X.K mainGlobals x = some (some (.ref C))∧X.mg x = some (.ref C)) (hg : Gl X x)
  (ha : PAD X [e] t) (ht : ∀ ρ S Q,(∀ d,Q [d] S)→t ρ S Q) (hdb : (x == ("__debug__" : Str)) = false:=by decide) (he : starEach [e] X.env = (false,eval e X.env) :: starEach [] X.env:=by rfl) :
  PSD X (.Raise (some (.Call (.Name x np) [e] [] cpos)) none pos) (zgu ex x):=by
 with_unfolding_all
  intro pins s σ H D I h
  obtain ⟨ad,ρ,S,E0,st,rh,q,k⟩:=h
  obtain ⟨C,hn,hm⟩:=hx
  obtain ⟨nm,qn,N,bs,bm,hdct,sn,sub,ab,col,dd,k0,k1,k2,k3,k5,lk,no,ni,tl⟩:=(hC C hn).ex
  have kin:=I.kIn
  have T:=PySem.W.tail_of_in kin tl
  have hv:=ha cpos pins s σ H (fun vs H1=>vs.length = 1∧∃ ad1,Wd ad H ad1 H1∧zR X.K ad1 H1 S) I ⟨ad,ρ,S,fun ds S'=>ds.length = 1∧S' = S,st,rh,ht _ _ _ (fun d=>⟨rfl,rfl⟩),fun ds S' vs H' ad' e' w' st' r'=>⟨by rw [← r'.length]; exact e'.1,ad',w',e'.2 ▸ st'⟩⟩
  refine wpAny_Raise_call_subT (C:=C) (nm:=nm) (q:=qn) (N:=N) (bs:=bs) (bm:=bm) (hdct:=hdct) (sn:=sn) (sub:=sub) (ab:=ab) (col:=col) (dd:=dd) (k0:=k0) (k1:=k1) (k2:=k2) (k3:=k3) (k5:=k5) PySem.F.excBase_ValueError (T.hasType PySem.F.excBase_ValueError.hasBase) (I.ok.hd hc) (by rw [he]; rfl) (PySem.W.nsMap_none_of_in I.ok.mod.kin no ni) (zfx I hg hm ⟨rfl,?_⟩ hdb)
  rw [he] at hv ⊢
  refine Calls.evalArgs_plain (wpAny_mono hv (fun us s1 hq=>?_) fun _ _ y=>y)
  obtain ⟨vs,H1,I1,r,hl,ad1,w1,st1⟩:=hq
  have k1':=I1.kIn
  have hlen : us.length ≤ sizeLine:=by rw [← r.length,hl]; decide
  exact ⟨rfl,hlen,k1' _ _ lk,(Heap.Ns.of_isNs (PySem.W.isNs_of_in I.ok.mod.kin no)).keeps I1.bk,PySem.W.tail_of_in k1' tl,fun h' e' hx=>hX pins σ H1 s1 ad1 ρ S x C e' us h' I1 st1 (rh.wd w1) q hn hx⟩
omit B in
theorem zew {P : Program} {w : World} {K : PySem.W.Frag} {mg : Str→Option Value} {base : Heap} {x qual : Str} {st : Stmt} {f : Addr} {fd : FuncData} {N ps : List Str} {k : Nat} {sp : zeK} {b : XR→DS} (F : Fun K x qual st f fd) (S : zO N ps (zJ st))
  (len : ∀ ds So Q ex,sp ds So Q ex→ds.length = ps.length) (body : zeu N.length b sp)
  (term : ∀ (cdv : Value) (A : Around) (outer : List Env) (s : Shared) (H : Hp) (E : XK),zaI k (A.deeper (envOfC qual (zJ st) s.heap.objs.size f cdv))→∀ [Bs] (ex : XR),XOk (ze7 (CXd P w) P w K mg base N qual (zJ st) f cdv A outer s H E) ex→XMk (ze7 (CXd P w) P w K mg base N qual (zJ st) f cdv A outer s H E) ex→ze8 (ze7 (CXd P w) P w K mg base N qual (zJ st) f cdv A outer s H E) (zaY st) (b ex)) :
  zZ P w K mg base (CXd P w) (k + 1) f fd ps (zdP K sp):=by
 with_unfolding_all
  obtain ⟨oc,od,kV,doc,pm,an,cdv,ct,osl,rfl,lk,hcd⟩:=F.ex
  refine zp2 lk hcd S (fun vs H Q E ⟨ad,So,ds,Q0,X0,so,r,hf,kk,kx⟩=>by rw [← r.length]; exact len ds So Q0 X0 hf) fun A outer s H vs Q E hr ⟨ad,So,ds,Q0,X0,so,r,hf,kk,kx⟩=>?_
  letI : Bs:=⟨ad,H⟩
  have end1 : ∀ (c : Str) (C a : Addr) (S' : Sto) (ad' : List Addr) (H' : Hp) (s' : Shared),X0 c S'→zR K ad' H' S'→PySem.W.nsIn K mainGlobals c = some (some (.ref C))→s'.os = s.os→AllBare s'.gens→Un (frs outer) [] H H' s.heap s'.heap→HOk P w H' s'.heap→Fly s.heap s'.heap a (.ref C) H'→CXd P w outer H s E (.ref a) s' :=
   fun c C a S' ad' H' s' hx st' hn o1 o2 o3 o4 o5=>⟨a,C,H',rfl,o1,o2,o3,o4,o5,kx c C S' ad' H' hx st' hn⟩
  refine ⟨_,term cdv A outer s H E hr (fun _=>X0) ?_ ?_,ad,zd4 N.length ds,So,_,so,zkJ N r,body ds So Q0 X0 hf,⟨fun ρ S' σ H' ad' q w' st' rh=>ziA so kk .non S' .non H' ad' q w' st' .non,ziA so kk,fun _ _ _ _ _ q=>q.elim,fun _ _ _ _ _ q=>q.elim⟩⟩
  ·intro pins σ H1 s1 s' ad1 ad' ρ S1 S' c C a H' I st1 rh hx st' wd' hn os bare un hok fly
   have I':=I.call' (ch:=[]) os un hok bare (fun b z=>absurd z (by simp))
   have f0 : Fly s.heap s'.heap a (.ref C) H':=by
    obtain ⟨g1,g2,a0,oe,vs,T,oT,ts,h1,h2,h3,h4,h5,h6⟩:=fly
    exact ⟨zd3 I rfl g1,g2,a0,oe,vs,T,oT,ts,h1,h2,h3,h4,zd3 I rfl h5,h6⟩
   exact znW I' rfl rfl rfl f0 fun s'' o1 o2 o3 o4 o5=>end1 c C a S' ad' H' s'' hx st' hn o1 o2 o3 o4 o5
  ·intro pins σ H1 s1 ad1 ρ S1 c C e args h1 I st1 rh hx hn hmade
   exact zl5 I rfl rfl rfl hmade fun s'' o1 o2 o3 o4 o5=>end1 c C e S1 ad1 H1 s'' hx st1 hn o1 o2 o3 o4 o5
end
end Dp
namespace Dp
open PySem PySem.Spec PyProof.Rows L2 My
section
variable {X : Cx} {pins : List (Addr × Obj)} {σ : L2.St} {H H' : Hp} {s s' : Shared}
variable [B : Bs]
end
end Dp
namespace Dp
open PySem PySem.Spec PyProof.Rows L2 My
section
open PySem.W PySem.Builtin PySem.Builtin.ObjectAttr PySem.Builtin.Getset_descriptor
variable {prog : Program} {w : World} {A : Around} {E : Value→Shared→Prop} {s : Shared} {K : Frag} {x C : Addr} {o : Obj}
end
section
variable [B : Bs] {X : Cx}
end
def zmj (K : PySem.W.Frag) (C : Addr) : Bool:=match K.lookup C with
 | some ⟨.type "type",_,.cls cd,sl⟩=>(match cd.mro,sl.toList with
  | .ref C' :: bm,[_,_,_,_,some (.builtin n),_]=>C' == C && !cd.hasDel && n == "ValueError.__new__" && PySem.W.nsOkIn K cd.ns && PySem.W.nsIn K cd.ns "__init__" == some none && PySem.W.tailIn K [.type "ValueError",.type "Exception",.type "BaseException",.type "object"] bm
  | _,_=>false)
 | _=>false
theorem ExC.of {K : PySem.W.Frag} {C : Addr} (q : zmj K C = true) : ExC K C:=by
 unfold zmj at q
 split at q
 ·rename_i dd cd sl ho
  split at q
  ·rename_i C' bm k0 k1 k2 k3 n k5 hm hs
   simp only [Bool.and_eq_true,beq_iff_eq,Bool.not_eq_true'] at q
   obtain ⟨⟨⟨⟨⟨rfl,hdel⟩,rfl⟩,h1⟩,h2⟩,h3⟩:=q
   obtain ⟨nm,bs,mro,ns,qn,hd,sn,sub,ab,col,del⟩:=cd
   dsimp only at hm hdel
   subst hm hdel
   have hsl : sl = #[k0,k1,k2,k3,some (.builtin "ValueError.__new__"),k5]:=by
    obtain ⟨l⟩:=sl
    simp only at hs
    rw [hs]
   subst hsl
   exact ⟨nm,qn,ns,bs,bm,hd,sn,sub,ab,col,dd,k0,k1,k2,k3,k5,ho,h1,h2,h3⟩
  ·cases q
 ·cases q
end Dp
namespace Dp
open PySem PySem.Spec PyProof.Rows L2 My
structure FH (K : PySem.W.Frag) (n : Str) (st : Stmt) (f : Addr) (fd : FuncData) : Prop where
 a : PySem.W.nsIn K mainGlobals n = some (some (.ref f))
 F : Fun K n n st f fd
section
variable {K : PySem.W.Frag} {n : Str} {st : Stmt} {f : Addr} {fd : FuncData} {mg : Str→Option Value} {k : Nat} {h : Heap} {ps : List Str} {sp : Sp}
theorem zub {oc : Value} {od an : Option Addr} {osl : Array (Option Value)} {kV doc pm cdv ct : Value} (a : PySem.W.nsIn K mainGlobals n = some (some (.ref f)))
  (l : K.lookup f = some ⟨oc,od,.func (PySem.W.fnOf n n (zbp st) (zaY st) (zJ st) .none kV doc pm an cdv ct),osl⟩) (c : PySem.W.codeIn K cdv n = true) (k : PySem.W.keepIn K (.ref f) = true) :
  FH K n st f (PySem.W.fnOf n n (zbp st) (zaY st) (zJ st) .none kV doc pm an cdv ct):=⟨a,zis l c k⟩
theorem zab (P : Program) (w : World) (base : Heap) (X : K.In h) (G : h.Ns mainGlobals mg) (H : FH K n st f fd) (ok : zZ P w K mg base CX0 k f fd ps sp)
  (b : ∀ (kV doc pm : Value) (an : Option Addr) (cdv ct : Value) (us : List Value),us.length = ps.length→bindArgs (PySem.W.fnOf n n (zbp st) (zaY st) (zJ st) .none kV doc pm an cdv ct) ⟨us,[]⟩ = pure (ps.zip us):=by intro _ _ _ _ _ _ us hl; first | (obtain ⟨_,e⟩:=zpZ hl; subst e; rfl) | (obtain ⟨_,_,e⟩:=zmv hl; subst e; rfl) | (obtain ⟨_,_,_,e⟩:=zpU hl; subst e; rfl) | (obtain ⟨_,_,_,_,e⟩:=zpH hl; subst e; rfl) | (obtain ⟨_,_,_,_,_,e⟩:=zpF hl; subst e; rfl) | (obtain ⟨_,_,_,_,_,_,e⟩:=len_6 hl; subst e; rfl) | (obtain ⟨_,_,_,_,_,_,_,e⟩:=len_7 hl; subst e; rfl)) : Got P w K mg base k n ps sp:=⟨⟨f,fd,ok,H.F.binds b,H.F.kp,PySem.W.mg_of X G H.a⟩⟩
theorem zfA (P : Program) (w : World) (base : Heap) (X : K.In h) (G : h.Ns mainGlobals mg) (H : FH K n st f fd) (ok : zZ P w K mg base (CXd P w) k f fd ps sp)
  (b : ∀ (kV doc pm : Value) (an : Option Addr) (cdv ct : Value) (us : List Value),us.length = ps.length→bindArgs (PySem.W.fnOf n n (zbp st) (zaY st) (zJ st) .none kV doc pm an cdv ct) ⟨us,[]⟩ = pure (ps.zip us):=by intro _ _ _ _ _ _ us hl; first | (obtain ⟨_,e⟩:=zpZ hl; subst e; rfl) | (obtain ⟨_,_,e⟩:=zmv hl; subst e; rfl) | (obtain ⟨_,_,_,e⟩:=zpU hl; subst e; rfl) | (obtain ⟨_,_,_,_,e⟩:=zpH hl; subst e; rfl) | (obtain ⟨_,_,_,_,_,e⟩:=zpF hl; subst e; rfl) | (obtain ⟨_,_,_,_,_,_,e⟩:=len_6 hl; subst e; rfl) | (obtain ⟨_,_,_,_,_,_,_,e⟩:=len_7 hl; subst e; rfl)) : zhK P w K mg base k n ps sp:=⟨⟨f,fd,ok,H.F.binds b,H.F.kp,PySem.W.mg_of X G H.a⟩⟩
end
section
variable {X : Cx}
theorem zm [B : Bs] (i : Nat) {x : Str} {pos : Pos} (hN : X.N[i]? = some x:=by rfl) (hv : L2.Vis X.env.scope x:=by first | exact Or.inl rfl | exact Or.inr (Or.inl rfl) | exact Or.inr (Or.inr rfl)) (hd : (x == ("__debug__" : Str)) = false:=by decide) (hcd : (x == ("__classdict__" : Str)) = false:=by decide) : PD X (.Name x pos) (zj i):=by with_unfolding_all exact (zti (zrW hN hv hd hcd))
theorem zW {N P : List Str} {sc : Scope} (h1 : sc.kind = .function:=by rfl) (h2 : sc.isCoroutine = false:=by rfl) (h3 : sc.isGenerator = false:=by rfl) (h4 : N.Nodup:=by decide +kernel) (h5 : N.take P.length = P:=by rfl) (h6 : ∀ x ∈ P,sc.names.lookup x = some .local∨sc.names.lookup x = some .cell:=by decide +kernel) (h7 : ∀ y ∈ sc.names,y.2 ≠ .free:=by decide +kernel) : zO N P sc:=⟨h1,h2,h3,h4,h5,h6,h7⟩
end
end Dp
open PySem Dp
local macro_rules | `(tactic| walk_at "dat")=>`(tactic| first | assumption | exact zbw | exact zlL | (refine (zb2 _ _ _).trans ?_; exact rfl) | exact zdb (by assumption))
local macro_rules | `(tactic| walk_at "dlat")=>`(tactic| first | assumption | exact Lst.rl | exact Lst.at0 | exact Lst.new | (refine Lst.at ?_; exact rfl) | exact Lst.old (by assumption) | exact Lst.here (by assumption) | exact Lst.here (zdb (by assumption)))
local macro_rules | `(tactic| walk_at "dseq")=>`(tactic| first | exact Or.inl rfl | (refine Or.inr ?_; walk_at "dlat"))
local macro_rules | `(tactic| walk_at "dbd")=>`(tactic| first | assumption | exact My.Bd.mono (by assumption) (by decide) | exact My.Bd.lit (by decide) (by decide) | (refine My.Bd.add ?_ ?_ <;> walk_at "dbd") | (refine My.Bd.sub ?_ ?_ <;> walk_at "dbd") | (refine My.Bd.neg ?_; walk_at "dbd") | (refine My.Bd.mulH ?_ ?_ <;> walk_at "dbd") | (refine My.Bd.emod (by omega) ?_; walk_at "dbd") | (refine My.Bd.ediv ?_; walk_at "dbd"))
local macro_rules | `(tactic| walk_at "dmul")=>`(tactic| first | assumption | exact Or.inr (Or.inl (by omega)) | exact Or.inr (Or.inr (by omega)) | exact Or.inl ⟨by walk_at "dbd",by walk_at "dbd"⟩)
local macro_rules | `(tactic| walk_at "ddiv")=>`(tactic| first | assumption | exact ⟨by omega,by walk_at "dbd"⟩)
local macro_rules | `(tactic| walk_at "dr1")=>`(tactic| first
 | with_reducible refine Dp.zmh ?_ | with_reducible refine Dp.zrE ?_ | with_reducible refine Dp.zt4 ?_ | with_reducible refine Dp.zth ?_ | with_reducible refine Dp.zpW ?_ | with_reducible refine Dp.zq1 ?_ | with_reducible refine Dp.r_try ?_ | with_reducible refine Dp.r_tryN ?_ | with_reducible refine Dp.zsa ?_ | with_reducible refine Dp.zpE ?_ | with_reducible refine Dp.zsm ?_ | with_reducible refine Dp.zug ?_ | ((with_reducible refine Dp.zuM (l:=?rvx) ?rvk ?_); (case rvk=>walk_at "dat")) | ((with_reducible refine Dp.zo8 (g:=?rv1) (b:=?rv2) (f:=?rv3) (h:=?rv4) (a:=?rv5) (l:=?rv6) (d:=?rv7) ?rvk ?_); (case rvk=>walk_at "dat")) | ((with_reducible refine Dp.znw (g:=?rv1) (b:=?rv2) (f:=?rv3) (h:=?rv4) (a:=?rv5) (l:=?rv6) (d:=?rv7) ?rvk ?_); (case rvk=>walk_at "dat")) | ((with_reducible refine Dp.zsZ (g:=?rv1) (b:=?rv2) (f:=?rv3) (h:=?rv4) (a:=?rv5) (l:=?rv6) (d:=?rv7) ?rvk ?_); (case rvk=>walk_at "dat")) | ((with_reducible refine Dp.zta (g:=?rv1) (b:=?rv2) (f:=?rv3) (h:=?rv4) (a:=?rv5) (l:=?rv6) (d:=?rv7) ?rvk ?_); (case rvk=>walk_at "dat")) | ((with_reducible refine Dp.zqe (g:=?rv1) (b:=?rv2) (f:=?rv3) (h:=?rv4) (a:=?rv5) (l:=?rv6) (d:=?rv7) ?rvk ?_); (case rvk=>walk_at "dat")) | ((with_reducible refine Dp.zsn (g:=?rv1) (b:=?rv2) (f:=?rv3) (h:=?rv4) (a:=?rv5) (l:=?rv6) (d:=?rv7) ?rvk ?_); (case rvk=>walk_at "dat")) | ((with_reducible refine Dp.v_delay (g:=?rv1) (b:=?rv2) (f:=?rv3) (h:=?rv4) (a:=?rv5) (l:=?rv6) (d:=?rv7) ?rvk ?_); (case rvk=>walk_at "dat")) | with_reducible refine Dp.zuZ ?_ | with_reducible refine Dp.zq8 ?_
 | ((with_reducible refine Dp.zfN (d:=?rvv) ?rvk ?_); (case rvk=>exact rfl)) | with_reducible refine Dp.r_c ?_ | with_reducible refine Dp.zmt ?_ | with_reducible refine Dp.zu0 ?_
 | with_reducible refine Dp.zt2 ?_ | with_reducible refine Dp.zt5 ?_ | with_reducible refine Dp.o_notinS ?_ | with_reducible refine Dp.zuo ?_ | with_reducible refine Dp.zvf ?_ | with_reducible refine Dp.zvm ?_ | with_reducible refine Dp.zu8 ?_ | with_reducible refine Dp.o_ge ?_ | with_reducible refine Dp.ztS ?_ | with_reducible refine Dp.zuS ?_ | with_reducible refine Dp.o_eqB ?_ | with_reducible refine Dp.o_neB ?_ | with_reducible refine Dp.ztV ?_
 | ((with_reducible refine Dp.ztQ ?rvk ?_); (case rvk=>walk_at "dmul")) | ((with_reducible refine Dp.zul ?rvk ?_); (case rvk=>walk_at "ddiv")) | ((with_reducible refine Dp.zuT ?rvk ?_); (case rvk=>first | omega | assumption)) | ((with_reducible refine Dp.o_pow ?rvk ?_); (case rvk=>exact ⟨by omega,by omega,by omega⟩))
 | ((with_reducible refine Dp.ztO (d:=?rvv) ?rvk ?_); (case rvk=>first | assumption | exact rfl)) | ((with_reducible refine Dp.zjP (xs:=?rvx) (d:=?rvv) ?rvl ?rvk ?_); (case rvl=>walk_at "dlat"); (case rvk=>first | assumption | exact rfl))
 | with_reducible refine Dp.r_t ?_ | with_reducible refine Dp.zvl ?_ | with_reducible refine Dp.ztZ ?_ | with_reducible refine Dp.zuU ?_ | with_reducible refine Dp.zvd ?_ | with_reducible refine Dp.ztF ?_ | with_reducible refine Dp.zuV ?_ | with_reducible refine Dp.zr2 ?_ | with_reducible refine Dp.zsf ?_ | with_reducible refine Dp.r_ifE ?_ | with_reducible refine Dp.zqH ?_
 | with_reducible refine Dp.zuB ?_ | with_reducible refine Dp.zkK ?_ | with_reducible refine Dp.zpM ?_ | with_reducible refine Dp.zt1 ?_ | ((with_reducible refine Dp.zue ?rvk ?_); (case rvk=>exact rfl)) | with_reducible refine Dp.zss ?_ | with_reducible refine Dp.zqm ?_ | with_reducible refine Dp.r_isx ?_ | ((with_reducible refine Dp.x_isx2 (b:=?rvv) ?rvk ?_); (case rvk=>exact rfl)) | with_reducible refine Dp.r_b ?_ | with_reducible refine Dp.r_m ?_ | ((with_reducible refine Dp.zut (ys:=?rvx) ?rvk ?_); (case rvk=>walk_at "dat"))
 | with_reducible refine Dp.ztJ ?_ | with_reducible refine Dp.zux ?_ | with_reducible refine Dp.zua ?_ | with_reducible refine Dp.ztD ?_ | with_reducible refine Dp.zuc ?_ | with_reducible refine Dp.zgW ?_ | with_reducible refine Dp.zpI ?_ | with_reducible refine Dp.ztb ?_ | with_reducible refine Dp.put_A1 ?_ | with_reducible refine Dp.put_A2 ?_ | with_reducible refine Dp.put_A3 ?_ | with_reducible refine Dp.put_A ?_ | with_reducible refine Dp.put_0 ?_
 | with_reducible refine Dp.ztK ?_ | with_reducible refine Dp.ztr ?_ | with_reducible refine Dp.zr7 ?_ | with_reducible refine Dp.ztn ?_ | ((with_reducible refine Dp.zsF (xs:=?rvx) ?rvl ?_); (case rvl=>walk_at "dlat")) | with_reducible refine Dp.b_intI ?_ | with_reducible refine Dp.zsu ?_ | with_reducible refine Dp.b_boolI ?_ | with_reducible refine Dp.b_boolB ?_
 | with_reducible refine Dp.b_tupleT ?_ | ((with_reducible refine Dp.zoV (xs:=?rvx) ?rvl ?_); (case rvl=>walk_at "dlat")) | with_reducible refine Dp.b_listT ?_ | ((with_reducible refine Dp.zqO (xs:=?rvx) ?rvl ?_); (case rvl=>walk_at "dlat")) | with_reducible refine Dp.zjF ?_ | with_reducible refine Dp.zi4 ?_ | with_reducible refine Dp.b_isi_int_tuple ?_ | with_reducible refine Dp.b_isi_int_list ?_ | with_reducible refine Dp.b_isi_int_str ?_ | with_reducible refine Dp.b_isi_bl_int ?_ | with_reducible refine Dp.b_isi_bl_bool ?_ | with_reducible refine Dp.b_isi_bl_tuple ?_ | with_reducible refine Dp.b_isi_bl_list ?_ | with_reducible refine Dp.b_isi_bl_str ?_ | with_reducible refine Dp.b_isi_tup_int ?_ | with_reducible refine Dp.b_isi_tup_bool ?_ | with_reducible refine Dp.zin ?_ | with_reducible refine Dp.b_isi_tup_list ?_ | with_reducible refine Dp.b_isi_tup_str ?_ | with_reducible refine Dp.b_isi_non_int ?_ | with_reducible refine Dp.b_isi_non_bool ?_ | with_reducible refine Dp.b_isi_non_tuple ?_ | with_reducible refine Dp.b_isi_non_list ?_ | with_reducible refine Dp.b_isi_non_str ?_ | with_reducible refine Dp.b_isi_str_int ?_ | with_reducible refine Dp.b_isi_str_bool ?_ | with_reducible refine Dp.b_isi_str_tuple ?_ | with_reducible refine Dp.b_isi_str_list ?_ | with_reducible refine Dp.b_isi_str_str ?_ | ((with_reducible refine Dp.b_isi_lst_list (xs:=?rvx) ?rvl ?_); (case rvl=>walk_at "dat")) | ((with_reducible refine Dp.b_isi_lst_tuple (xs:=?rvx) ?rvl ?_); (case rvl=>walk_at "dat"))
 | with_reducible refine Dp.ztl ?_ | with_reducible refine Dp.zqU ?_ | ((with_reducible refine Dp.zsw ?rvk ?_); (case rvk=>exact rfl)) | with_reducible refine Dp.zsz ?_ | with_reducible refine Dp.zrL ?_
 | with_reducible refine Dp.o_is0 ?_ | with_reducible refine Dp.o_is1 ?_ | with_reducible refine Dp.o_is2 ?_ | with_reducible refine Dp.o_is3 ?_ | with_reducible refine Dp.zsN ?_ | with_reducible refine Dp.zrx ?_ | with_reducible refine Dp.o_isn2 ?_ | with_reducible refine Dp.o_isn3 ?_ | with_reducible refine Dp.o_isTT ?_ | with_reducible refine Dp.o_isnTT ?_ | with_reducible refine Dp.o_is ?_ | with_reducible refine Dp.zp4 ?_ | with_reducible refine Dp.o_isB ?_ | with_reducible refine Dp.o_isnB ?_ | with_reducible refine Dp.zvC ?_ | with_reducible refine Dp.zsX ?_ | with_reducible refine Dp.zrB ?_ | ((with_reducible refine Dp.o_step (xs:=?rvx) ?rvl ?_); (case rvl=>walk_at "dlat")) | with_reducible refine Dp.zsv ?_ | ((with_reducible refine Dp.zrR (xs:=?rvx) ?rvl ?_); (case rvl=>walk_at "dlat"))
 | ((with_reducible refine Dp.zud (a:=?rvv) ?rvk ?_); (case rvk=>exact rfl)) | ((with_reducible refine Dp.zoI (xs:=?rvx) ?rvk ?rvl ?_); (case rvk=>walk_at "dat"); (case rvl=>first | exact Nat.lt_of_ble_eq_true rfl | assumption | (simp only [big,List.length_append,List.length_cons,List.length_nil,List.length_map] at *; omega)))
 | with_reducible refine Dp.zpa ?_ | with_reducible refine Dp.zpe ?_ | with_reducible refine Dp.zuy ?_ | with_reducible refine Dp.zuH ?_ | with_reducible refine Dp.r_ntrue ?_ | with_reducible refine Dp.r_nfalse ?_
 | with_reducible refine Dp.zup ?_ | with_reducible refine Dp.znb ?_ | with_reducible refine Dp.zsY ?_ | with_reducible refine Dp.ztB ?_ | with_reducible refine Dp.zuE ?_ | ((with_reducible refine Dp.zuw (xs:=?rvx) ?rvl ?_); (case rvl=>walk_at "dlat")) | with_reducible refine Dp.zr8 ?_ | with_reducible refine Dp.zr1 ?_ | with_reducible refine Dp.zrF ?_ | with_reducible refine Dp.en_T ?_ | with_reducible refine Dp.zuR ?_ | with_reducible refine Dp.zi_T ?_ | with_reducible refine Dp.r_rev ?_ | with_reducible refine Dp.rev_T ?_ | with_reducible refine Dp.r_rng3 ?_ | with_reducible refine Dp.zvk ?_)
local macro_rules | `(tactic| walk_at "dgo")=>`(tactic| repeat walk_at "dr1")
local macro_rules | `(tactic| walk_at "drho")=>`(tactic| simp only [zd4,List.map_cons,List.map_nil,List.length_cons,List.length_nil,Nat.reduceSub,Nat.reduceAdd,List.replicate,List.cons_append,List.nil_append,List.set_cons_zero,List.set_cons_succ])
local macro_rules | `(tactic| walk_at "drho2")=>`(tactic| simp only [List.set_cons_zero,List.set_cons_succ])
namespace Dp
open PySem Rm My
def zck : DSp:=fun ds S Q=>∃ (ns : List Int) (k : Int),ds = [.rl (ns.map D.int),.int k]∧(∀ n ∈ ns,Hg n)∧0 ≤ k∧∀ v,Hg v→Q (.int v) S
def zf6 : DS :=
    (zH (sIf (dT (dOp oLt (zj 1) (dB zaS (zf (zj 0) zA)))) (z9 (dOp oIx (zj 0) (zj 1))) zac)
 (z9 (dC (.int 0))))
theorem zm1 : ∀ ds So Q,zck ds So Q→ds.length = 2:=by rintro ds So Q ⟨_,_,rfl,_⟩; rfl
theorem zni : BodyOk 2 zf6 zck:=by
 rintro ds S Q ⟨ns,k,rfl,hg,k0,q⟩
 unfold zf6
 walk_at "dgo"
 rw [List.length_map]
 refine r_d (fun h=>?_) (fun h=>?_)
 ·obtain ⟨z,hz,az⟩:=zez (zs:=ns) k0 h
  walk_at "dgo"
  exact fin_same (q z (hg z hz))
 ·walk_at "dgo"
  exact fin_same (q 0 (Hg.of (n:=1) (by show (0 : Int).natAbs < 2 ^ 1; decide) (by decide)))
def zpg (c k : Int) : Int:=(c % 1000000000000000000000000000000000000000000000000000000000000 + 7907 * k + 1) * 271828182845904523536028747135266249775 * ((c % 1000000000000000000000000000000000000000000000000000000000000 + 7907 * k + 1) * 271828182845904523536028747135266249775) % 618970019642690137449562111
def zfh (c k s : Int) : Int:=(zpg c k + 104729 * (k + 1)) * zpg c k % 618970019642690137449562111 / 8 % s
def zM : DSp:=fun ds S Q=>∃ (c k s : Int),ds = [.int c,.int k,.int s]∧0 ≤ k∧k < 1000∧0 < s∧∀ v,0 ≤ v→v < s→v = zfh c k s→Q (.int v) S
def zeQ : DS :=
    (zH (zN (dC (.int 618970019642690137449562111)) (zE 3))
 (zH (zN (dOp zao (dOp zai (dOp zai (dOp oMod (zj 0) (dC (.int 1000000000000000000000000000000000000000000000000000000000000))) (dOp zao (dC (.int 7907)) (zj 1))) (dC (.int 1))) (dC (.int 271828182845904523536028747135266249775))) (zE 4))
 (zH (zN (dOp oMod (dOp zao (zj 4) (zj 4)) (zj 3)) (zE 5))
 (zH (zN (dOp oMod (dOp zao (dOp zai (zj 5) (dOp zao (dC (.int 104729)) (dOp zai (zj 1) (dC (.int 1))))) (zj 5)) (zj 3)) (zE 5))
 (z9 (dOp oMod (dOp oDiv (zj 5) (dC (.int 8))) (zj 2)))))))
theorem zll : ∀ ds So Q,zM ds So Q→ds.length = 3:=by rintro ds So Q ⟨_,_,_,rfl,_⟩; rfl
theorem zmq : BodyOk 6 zeQ zM:=by
 rintro ds S Q ⟨c,k,s,rfl,h0,hk,hs,q⟩
 unfold zeQ
 have b1 : My.Bd 300 (c % 1000000000000000000000000000000000000000000000000000000000000 + 7907 * k + 1):=by
  have h1:=Int.emod_nonneg c (b:=1000000000000000000000000000000000000000000000000000000000000) (by decide)
  have h2:=Int.emod_lt_of_pos c (b:=1000000000000000000000000000000000000000000000000000000000000) (by decide)
  show _ < 2 ^ 300
  omega
 have b2 : My.Bd 200 (271828182845904523536028747135266249775 : Int):=My.Bd.lit (by decide) (by decide)
 have b3:=My.Bd.mul b1 b2
 have cm1 : zak (c % 1000000000000000000000000000000000000000000000000000000000000 + 7907 * k + 1) 271828182845904523536028747135266249775:=.inl ⟨b1.mono (by decide),b2.mono (by decide)⟩
 generalize hb : c % 1000000000000000000000000000000000000000000000000000000000000 + 7907 * k + 1 = u at *
 have cm2 : zak (u * 271828182845904523536028747135266249775) (u * 271828182845904523536028747135266249775):=.inl ⟨b3.mono (by decide),b3.mono (by decide)⟩
 walk_at "dgo"
 rw [hb]
 walk_at "dgo"
 have b4 : My.Bd 200 (u * 271828182845904523536028747135266249775 * (u * 271828182845904523536028747135266249775) % 618970019642690137449562111):=My.Bd.emod (by decide) (My.Bd.lit (by decide) (by decide))
 generalize hm : u * 271828182845904523536028747135266249775 * (u * 271828182845904523536028747135266249775) % 618970019642690137449562111 = m at *
 have b5 : My.Bd 200 (104729 * (k + 1)):=by
  show _ < 2 ^ 200
  omega
 have cm3 : zak (m + 104729 * (k + 1)) m:=.inl ⟨(My.Bd.add b4 b5).mono (by decide),b4.mono (by decide)⟩
 walk_at "dgo"
 exact fin_same (q _ (Int.emod_nonneg _ (by omega)) (Int.emod_lt_of_pos _ (by omega)) (by unfold zfh zpg; rw [hb,hm]))
def zcy : DSp:=fun ds S Q=>∃ (c k nr : Int) (far : Bool),ds = [.int c,.int k,.int nr,.bl far]∧Hg c∧0 ≤ k∧k < 900∧0 < nr∧nr < 1000∧∀ v : Int,-(5 * 10 ^ 49) ≤ v→v < 5 * 10 ^ 49→Q (.int v) S
def zeW : DS :=
    (zH (sIf (dT (zj 3)) (z9 (dOp zae (dOp oMod (dOp zao (dOp zao (zj 0) (dC (.int 1422907482840247632891030073750636927810831))) (dOp zai (zj 1) (dC (.int 2)))) (dC (.int 100000000000000000000000000000000000000000000000000))) (dOp zao (dC (.int 5)) (dC (.int 10000000000000000000000000000000000000000000000000))))) zac)
 (z9 (dCall zM (zf (zj 0) (zf (zj 1) (zf (zj 2) zA))))))
theorem zlp : ∀ ds So Q,zcy ds So Q→ds.length = 4:=by rintro ds So Q ⟨_,_,_,_,rfl,_⟩; rfl
theorem zmA : BodyOk 4 zeW zcy:=by
 rintro ds S Q ⟨c,k,nr,far,rfl,hc,k0,k1,n0,n1,q⟩
 unfold zeW
 cases far with
 | true =>
  walk_at "dgo"
  refine znT hc (Hg.of (n:=200) (by show _ < 2 ^ 200; decide) (by decide)) ?_
  generalize c * 1422907482840247632891030073750636927810831 = u
  have cm : zak u (k + 2):=.inr (.inr (by omega))
  walk_at "dgo"
  have r1:=Int.emod_nonneg (u * (k + 2)) (show (100000000000000000000000000000000000000000000000000 : Int) ≠ 0 by decide)
  have r2:=Int.emod_lt_of_pos (u * (k + 2)) (show (0 : Int) < 100000000000000000000000000000000000000000000000000 by decide)
  exact fin_same (q _ (by omega) (by omega))
 | false =>
  walk_at "dgo"
  refine ⟨c,k,nr,rfl,k0,by omega,n0,fun v v0 v1 _=>?_⟩
  exact fin_same (q v (by omega) (by omega))
def zbN : DSp:=fun ds S Q=>∃ (c n : Int) (far : Bool),ds = [.int c,.int n,.bl far]∧Hg c∧2 ≤ n∧n ≤ 40∧∀ cs : List (Int × Int),(cs.length : Int) = n→Grd cs→(∀ c ∈ cs,Bd 169 c.1∧Bd 169 c.2)→New Q S (cs.map p2)
def zcR : DS :=
    (zH (zN (zbo zA) (zE 3))
 (zH (zN (dOp zae (dCall zcy (zf (zj 0) (zf (dC (.int 0)) (zf (dC (.int 9)) (zf (zj 2) zA))))) (dC (.int 9))) (zE 4))
 (zH (zbJ (zdB (zf (zj 1) zA)) (zE 5) (zH (zN (dCall zM (zf (zj 0) (zf (dOp zai (dOp zao (dC (.int 2)) (zj 5)) (dC (.int 1))) (zf (dC (.int 9)) zA)))) (zE 6))
 (zH (sJ (sIf (zfj (dT (zj 2)) (dT (dOp oEq (dOp oMod (zj 5) (dC (.int 3))) (dC (.int 1))))) (zN (dCall zcy (zf (zj 0) (zf (zj 5) (zf (dC (.int 9)) (zf (zj 2) zA))))) (zE 6)) zac))
 (zH (zbe (dM zb4 (zj 3) (zf (dTup (zf (zj 4) (zf (zj 6) zA))) zA)))
 (zH (zN (dOp zai (dC (.int 1)) (dCall zM (zf (zj 0) (zf (dOp zai (dOp zao (dC (.int 2)) (zj 5)) (dC (.int 2))) (zf (dC (.int 7)) zA))))) (zE 7))
 (zH (sJ (sIf (zfj (dT (zj 2)) (dT (dOp oEq (dOp oMod (zj 5) (dC (.int 2))) (dC (.int 0))))) (zN (dOp zai (dC (.int 1)) (dOp oMod (dOp zao (dOp zao (zj 0) (dC (.int 7928331467292760530673834318599741))) (dOp zai (zj 5) (dC (.int 3)))) (dC (.int 1000000000000000000000000000000000000000000000000)))) (zE 7)) zac))
 (zN (dOp zai (zj 4) (zj 7)) (zE 4))))))))
 (z9 (zj 3)))))
theorem ziw : ∀ ds So Q,zbN ds So Q→ds.length = 3:=by rintro ds So Q ⟨_,_,_,rfl,_⟩; rfl
theorem ziP : BodyOk 8 zcR zbN:=by
 rintro ds S Q ⟨c,n,far,rfl,hc,n0,n1,q⟩
 unfold zcR
 walk_at "dgo"
 refine ⟨c,0,9,far,rfl,hc,by decide,by decide,by decide,by decide,fun v0 v1 v2=>?_⟩
 walk_at "dgo"
 walk_at "drho"
 refine ⟨n,rfl,by omega,by omega,?_⟩
 refine zaV (fun i ρ S'=>∃ (cs : List (Int × Int)) (pl : Int) (w5 w6 w7 : Option D),S' = S ++ [.lst (cs.map p2)]∧ρ = [some (.int c),some (.int n),some (.bl far),some (.ref S.length),some (.int pl),w5,w6,w7]∧cs.length = i∧cs.Pairwise (fun a b=>a.1 < b.1)∧(∀ x ∈ cs,x.1 < pl∧-(6 * 10 ^ 49) ≤ x.1∧Bd 169 x.2)∧v0 - 9 ≤ pl∧pl ≤ v0 - 9 + i * (10 ^ 48)) ⟨[],v0 - 9,none,none,none,rfl,rfl,rfl,.nil,by simp,by omega,by omega⟩ (fun _ _ _ _=>True.intro) ?_ ?_
 ·rintro i d ρ S' hd ⟨cs,pl,w5,w6,w7,rfl,rfl,hl,asc,hcs,p0,p1⟩
  obtain ⟨hi,rfl⟩:=zcs hd
  have cm1 : zak 2 (0 + (i : Int)):=.inr (.inl (by decide))
  walk_at "dgo"
  refine ⟨c,_,9,rfl,by omega,by omega,by decide,fun m m0 m1 _=>?_⟩
  walk_at "dgo"
  refine r_J (fun ρ S'=>S' = S ++ [.lst (cs.map p2)]∧∃ hh : Int,Bd 169 hh∧ρ = [some (.int c),some (.int n),some (.bl far),some (.ref S.length),some (.int pl),some (.int (0 + (i : Int))),some (.int hh),w7]) ?_ ?_
  ·have b0 : Bd 169 m:=by show _ < 2 ^ 169; omega
   walk_at "dgo"
   cases far with
   | true =>
    walk_at "dgo"
    refine r_d (fun _=>?_) (fun _=>?_)
    ·walk_at "dgo"
     refine ⟨c,_,9,true,rfl,hc,by omega,by omega,by decide,by decide,fun u u0 u1=>?_⟩
     walk_at "dgo"
     exact ⟨rfl,u,by show _ < 2 ^ 169; omega,rfl⟩
    ·walk_at "dgo"
     exact ⟨rfl,m,b0,rfl⟩
   | false =>
    walk_at "dgo"
    exact ⟨rfl,m,b0,rfl⟩
  rintro ρ S' ⟨rfl,hh,bh,rfl⟩
  have hlim : (cs.map p2).length < big:=by rw [List.length_map]; unfold big; omega
  walk_at "dgo"
  refine ⟨c,_,7,rfl,by omega,by omega,by decide,fun m' m0' m1' _=>?_⟩
  walk_at "dgo"
  refine r_J (fun ρ S'=>S' = S ++ [.lst (cs.map p2 ++ [p2 (pl,hh)])]∧∃ wd : Int,1 ≤ wd∧wd ≤ 10 ^ 48∧ρ = [some (.int c),some (.int n),some (.bl far),some (.ref S.length),some (.int pl),some (.int (0 + (i : Int))),some (.int hh),some (.int wd)]) ?_ ?_
  ·walk_at "dgo"
   cases far with
   | true =>
    walk_at "dgo"
    refine r_d (fun _=>?_) (fun _=>?_)
    ·walk_at "dgo"
     refine znT hc (Hg.of (n:=200) (by show _ < 2 ^ 200; decide) (by decide)) ?_
     generalize c * 7928331467292760530673834318599741 = u
     have cm : zak u (0 + (i : Int) + 3):=.inr (.inr (by omega))
     walk_at "dgo"
     have r1:=Int.emod_nonneg (u * (0 + (i : Int) + 3)) (show (1000000000000000000000000000000000000000000000000 : Int) ≠ 0 by decide)
     have r2:=Int.emod_lt_of_pos (u * (0 + (i : Int) + 3)) (show (0 : Int) < 1000000000000000000000000000000000000000000000000 by decide)
     exact ⟨rfl,_,by omega,by omega,rfl⟩
    ·walk_at "dgo"
     exact ⟨rfl,_,by omega,by omega,rfl⟩
   | false =>
    walk_at "dgo"
    exact ⟨rfl,_,by omega,by omega,rfl⟩
  rintro ρ S' ⟨rfl,wd,d0,d1,rfl⟩
  walk_at "dgo"
  refine ⟨cs ++ [(pl,hh)],pl + wd,_,_,_,by rw [List.map_append]; rfl,rfl,by simp [hl],?_,?_,by omega,by omega⟩
  ·rw [List.pairwise_append]
   refine ⟨asc,List.pairwise_singleton _ _,fun a ha b hb=>?_⟩
   have : b = (pl,hh):=by simpa using hb
   subst this
   exact (hcs a ha).1
  ·intro x hx
   rcases List.mem_append.mp hx with hx | hx
   ·obtain ⟨a1,a2,a3⟩:=hcs x hx
    exact ⟨by omega,a2,a3⟩
   ·have : x = (pl,hh):=by simpa using hx
    subst this
    exact ⟨by show pl < pl + wd; omega,by show -(6 * 10 ^ 49) ≤ pl; omega,bh⟩
 ·rintro ρ S' ⟨cs,pl,w5,w6,w7,rfl,rfl,hl,asc,hcs,p0,p1⟩
  rw [zcF] at hl p1
  walk_at "dgo"
  have hb : ∀ x ∈ cs,Bd 169 x.1∧Bd 169 x.2:=fun x hx=>by
   obtain ⟨a1,a2,a3⟩:=hcs x hx
   exact ⟨by show _ < 2 ^ 169; omega,a3⟩
  refine fin_same (q cs (by omega) ⟨by omega,by omega,asc,fun x hx=>⟨(hb x hx).1.mono (by decide),(hb x hx).2.mono (by decide)⟩⟩ hb)
def zb3 : DSp:=fun ds S Q=>∃ (ns : List Int) (st most : Int),ds = [.rl (ns.map D.int),.int st,.int most]∧ns.length ≤ 63∧0 ≤ st∧0 < most∧most < 60∧∀ zs : List Int,(zs.length : Int) ≤ most→(∀ z ∈ zs,0 ≤ z∧z < 10 ^ 60)→New Q S (zs.map D.int)
def zds : DS :=
    (zH (zN (zbo zA) (zE 3))
 (zH (zbJ (zjS (zf (zj 1) (zf (dB zaS (zf (zj 0) zA)) zA))) (zE 4) (sIf (dT (dOp oLt (dB zaS (zf (zj 3) zA)) (zj 2))) (zbe (dM zb4 (zj 3) (zf (dOp oMod (dOp oIx (zj 0) (zj 4)) (dC (.int 1000000000000000000000000000000000000000000000000000000000000))) zA))) (zH (zN (dOp zai (dOp zao (dOp oIx (zj 3) (dOp oMod (zj 4) (zj 2))) (dC (.int 10007))) (dOp oMod (dOp oIx (zj 0) (zj 4)) (dC (.int 1000000000000000000000000000000000000000000000000000000000000)))) (zE 5))
 (zN (dOp oMod (zj 5) (dC (.int 1000000000000000000000000000000000000000000000000000000000000))) (ziX (zj 3) (dOp oMod (zj 4) (zj 2)))))))
 (z9 (zj 3))))
theorem ziW : ∀ ds So Q,zb3 ds So Q→ds.length = 3:=by rintro ds So Q ⟨_,_,_,rfl,_⟩; rfl
theorem zjt : BodyOk 6 zds zb3:=by
 rintro ds S Q ⟨ns,st,most,rfl,hl,hst,h0,h1,q⟩
 unfold zds
 walk_at "dgo"
 refine ⟨_,_,rfl,?_⟩
 refine zaV (fun i ρ S'=>∃ zs w1 w2,ρ = [some (.rl (ns.map D.int)),some (.int st),some (.int most),some (.ref S.length),w1,w2]∧S' = S ++ [.lst (zs.map D.int)]∧(zs.length : Int) ≤ most∧∀ z ∈ zs,0 ≤ z∧z < 10 ^ 60)
  ⟨[],none,none,rfl,rfl,by show (0 : Int) ≤ most; omega,by simp⟩ (fun _ _ _ _=>True.intro) ?_ ?_
 ·rintro i d ρ S' hd ⟨zs,w1,w2,rfl,rfl,hz,hb⟩
  obtain ⟨hi,rfl⟩:=zcs hd
  rw [List.length_map] at hi
  obtain ⟨v,_,av⟩:=zez (zs:=ns) (k:=st + i) (by omega) (by omega)
  have hv1:=Int.emod_nonneg v (b:=1000000000000000000000000000000000000000000000000000000000000) (by decide)
  have hv2:=Int.emod_lt_of_pos v (b:=1000000000000000000000000000000000000000000000000000000000000) (by decide)
  walk_at "dgo"
  rw [List.length_map]
  refine r_d (fun g=>?_) (fun g=>?_)
  ·walk_at "dgo"
   refine ⟨zs ++ [v % 1000000000000000000000000000000000000000000000000000000000000],_,_,rfl,by rw [List.map_append]; rfl,by rw [List.length_append]; show ((zs.length + 1 : Nat) : Int) ≤ most; omega,fun z hz=>?_⟩
   rcases List.mem_append.mp hz with hz | hz
   ·exact hb z hz
   ·have : z = v % 1000000000000000000000000000000000000000000000000000000000000:=by simpa using hz
    subst this; exact ⟨hv1,by omega⟩
  ·have m1:=Int.emod_nonneg (st + i) (b:=most) (by omega)
   have m2:=Int.emod_lt_of_pos (st + i) (b:=most) (by omega)
   obtain ⟨u,hu,au⟩:=zez (zs:=zs) (k:=(st + i) % most) m1 (by omega)
   have iu:=ztd (zs:=zs) (k:=(st + i) % most) m1 (by omega)
   walk_at "dgo"
   refine zp0 zbw iu ?_
   walk_at "dgo"
   refine ⟨zs.set _ _,_,_,rfl,by rw [List.map_set],by simpa using hz,fun z hz'=>?_⟩
   rcases zow hz' with h | h
   ·exact hb z h
   ·subst h
    exact ⟨Int.emod_nonneg _ (by decide),Int.lt_of_lt_of_le (Int.emod_lt_of_pos _ (by decide)) (by decide)⟩
 ·rintro ρ S' ⟨zs,w1,w2,rfl,rfl,hz,hb⟩
  walk_at "dgo"
  exact fin_same (q zs hz hb)
theorem zkc (i : Int) (h0 : 0 ≤ i) (h1 : i < 26) : atS "abcdefghijklmnopqrstuvwxyz" i = some (97 + i.toNat):=by
 have : ∀ j : _root_.Fin 26,atS "abcdefghijklmnopqrstuvwxyz" ((j.val : Nat) : Int) = some (97 + j.val):=by decide +kernel
 have:=this ⟨i.toNat,by omega⟩
 rwa [show ((i.toNat : Nat) : Int) = i by omega] at this
def zg9 (zs : List Str) : Prop:=∃ a h b t : Nat,a ∈ abc∧b ∈ abc∧h ≤ 3∧t ≤ 4∧zs.Nodup∧∀ z ∈ zs,∃ c ∈ abc,z = nmW a h c b t
theorem zg9.nm {zs : List Str} (h : zg9 zs) {z : Str} (hz : z ∈ zs) : nmB z = true:=by
 obtain ⟨a,h,b,t,ha,hb,h3,h4,_,hs⟩:=h
 obtain ⟨c,hc,rfl⟩:=hs z hz
 exact zrY ha hb hc h3 h4
def zcc : DSp:=fun ds S Q=>∃ (c n : Int),ds = [.int c,.int n]∧0 ≤ n∧n ≤ 12∧∀ zs : List Str,(zs.length : Int) = n→zg9 zs→New Q S (zs.map D.str)
def zdT : DS :=
    (zH (zN (dC (.str "abcdefghijklmnopqrstuvwxyz")) (zE 2))
 (zH (zN (dOp zao (dOp oIx (zj 2) (dCall zM (zf (zj 0) (zf (dC (.int 70)) (zf (dC (.int 26)) zA))))) (dCall zM (zf (zj 0) (zf (dC (.int 71)) (zf (dC (.int 4)) zA))))) (zE 3))
 (zH (zN (dOp zao (dOp oIx (zj 2) (dCall zM (zf (zj 0) (zf (dC (.int 72)) (zf (dC (.int 26)) zA))))) (dCall zM (zf (zj 0) (zf (dC (.int 73)) (zf (dC (.int 5)) zA))))) (zE 4))
 (z9 (dLC 1 [4,3,2,0] (zdB (zf (zj 1) zA)) (zE 0) zb9 (dOp zai (dOp zai (zj 2) (dOp oIx (zj 3) (dOp oMod (dOp zai (dCall zM (zf (zj 4) (zf (dC (.int 74)) (zf (dC (.int 26)) zA)))) (dOp zao (dC (.int 3)) (zj 0))) (dC (.int 26))))) (zj 1)))))))
theorem zjw : ∀ ds So Q,zcc ds So Q→ds.length = 2:=by rintro ds So Q ⟨_,_,rfl,_⟩; rfl
theorem zjZ : BodyOk 5 zdT zcc:=by
 rintro ds S Q ⟨c,n,rfl,n0,n1,q⟩
 unfold zdT
 walk_at "dgo"
 refine ⟨c,_,_,rfl,by decide,by decide,by decide,fun m m0 m1 _=>?_⟩
 refine zmi (c:=97 + m.toNat) (by decide +kernel) (zkc m m0 m1) ?_
 walk_at "dgo"
 refine ⟨c,_,_,rfl,by decide,by decide,by decide,fun h h0 h1 _=>?_⟩
 refine znd (by show 1 ≤ 1000; decide) (by omega) (by omega) ?_
 rw [zki _ _ h0]
 walk_at "dgo"
 refine ⟨c,_,_,rfl,by decide,by decide,by decide,fun l l0 l1 _=>?_⟩
 refine zmi (c:=97 + l.toNat) (by decide +kernel) (zkc l l0 l1) ?_
 walk_at "dgo"
 refine ⟨c,_,_,rfl,by decide,by decide,by decide,fun t t0 t1 _=>?_⟩
 refine znd (by show 1 ≤ 1000; decide) (by omega) (by omega) ?_
 rw [zki _ _ t0]
 walk_at "dgo"
 refine ⟨_,rfl,by omega,by omega,?_⟩
 have ha : 97 + m.toNat ∈ abc:=zgY.mpr (by omega)
 have hb : 97 + l.toNat ∈ abc:=zgY.mpr (by omega)
 have hq : ∀ k : Nat,97 + ((zfh c 74 26 + 3 * (0 + (k : Int))) % 26).toNat ∈ abc:=fun k=>zgY.mpr (by omega)
 refine zbv (fun _=>true) (onI fun k=>.str (nmW (97 + m.toNat) h.toNat (97 + ((zfh c 74 26 + 3 * k) % 26).toNat) (97 + l.toNat) t.toNat)) True.intro (by rw [zcF]; unfold big; omega) (fun i d ys hd hw=>?_) ?_
 ·obtain ⟨hi,rfl⟩:=zcs hd
  walk_at "dgo"
  refine ⟨c,_,_,rfl,by decide,by decide,by decide,fun u u0 u1 ue=>?_⟩
  subst ue
  have cm : zak 3 (0 + (i : Int)):=.inr (.inl (by decide))
  walk_at "dgo"
  refine zmi (c:=97 + ((zfh c 74 26 + 3 * (0 + (i : Int))) % 26).toNat) (by decide +kernel) (zkc _ (by omega) (by omega)) ?_
  have lh : (⟨(List.replicate h.toNat (97 + m.toNat)).toArray⟩ : Str).length = h.toNat:=by show (List.replicate h.toNat (97 + m.toNat)).toArray.size = _; simp
  refine znf (by rw [lh]; show h.toNat + 1 ≤ big; unfold big; omega) ?_
  rw [show (⟨#[97 + ((zfh c 74 26 + 3 * (0 + (i : Int))) % 26).toNat]⟩ : Str) = ⟨[97 + ((zfh c 74 26 + 3 * (0 + (i : Int))) % 26).toNat].toArray⟩ from rfl,zly]
  walk_at "dgo"
  refine znf (by show (List.toArray _).size + (List.toArray _).size ≤ big; simp; unfold big; omega) ?_
  rw [zly]
  refine zcS hd hw rfl ?_
  show _ = D.str (nmW _ _ _ _ _)
  unfold nmW
  rw [List.append_assoc]; rfl
 rw [filter_true]
 obtain ⟨zs,hzs,hzl,hzg⟩ : ∃ zs : List Str,(upto 0 n.toNat).map (onI fun k=>D.str (nmW (97 + m.toNat) h.toNat (97 + ((zfh c 74 26 + 3 * k) % 26).toNat) (97 + l.toNat) t.toNat)) = zs.map D.str∧zs.length = n.toNat∧∀ (i : Nat) z,zs[i]? = some z→i < n.toNat∧z = nmW (97 + m.toNat) h.toNat (97 + ((zfh c 74 26 + 3 * (0 + (i : Int))) % 26).toNat) (97 + l.toNat) t.toNat:=by
  refine ⟨(List.range n.toNat).map fun k : Nat=>nmW (97 + m.toNat) h.toNat (97 + ((zfh c 74 26 + 3 * (0 + (k : Int))) % 26).toNat) (97 + l.toNat) t.toNat,?_,by simp,fun i z hz=>?_⟩
  ·unfold upto
   rw [List.map_map,List.map_map]; rfl
  ·rw [List.getElem?_map] at hz
   by_cases hi : i < n.toNat
   ·rw [List.getElem?_range hi] at hz
    exact ⟨hi,by simpa using hz.symm⟩
   ·rw [List.getElem?_eq_none (by simpa using hi)] at hz; cases hz
 rw [hzs]
 refine zpI (fin_same (q zs (by omega) ⟨97 + m.toNat,h.toNat,97 + l.toNat,t.toNat,ha,hb,by omega,by omega,?_,fun z hz=>?_⟩))
 ·refine List.pairwise_iff_getElem.mpr fun i j hi hj hij e=>?_
  obtain ⟨i1,ei⟩:=hzg i _ (List.getElem?_eq_getElem hi)
  obtain ⟨j1,ej⟩:=hzg j _ (List.getElem?_eq_getElem hj)
  rw [ei,ej] at e
  have:=zrd e
  omega
 ·obtain ⟨i,hi,e⟩:=List.mem_iff_getElem.mp hz
  obtain ⟨_,ez⟩:=hzg i z (by rw [List.getElem?_eq_getElem hi,e])
  exact ⟨_,hq i,ez⟩
def zbX : DSp:=fun ds S Q=>∃ (x : D) (cs : List (Int × Int)) (a : Int),ds = [x,.int a]∧Lst S x (cs.map p2)∧Grd cs∧Bd 180 a∧OnG cs (a,1)∧Q (.int (zcV cs a)) S
def zdu : DS :=
    (zH (zbJ (zdB (zf (dOp zae (dB zaS (zf (zj 0) zA)) (dC (.int 1))) zA)) (zE 2) (zH (zmC 3 4 (zf (dOp oIx (zj 0) (zj 2)) (zf (dOp oIx (zj 0) (dOp zai (zj 2) (dC (.int 1)))) zA)))
 (sIf (zfj (dT (dOp oLe (dOp oIx (zj 3) (dC (.int 0))) (zj 1))) (dT (dOp oLe (zj 1) (dOp oIx (zj 4) (dC (.int 0)))))) (zH (zN (dOp zao (dOp zae (dOp oIx (zj 3) (dC (.int 1))) (dOp oIx (zj 4) (dC (.int 1)))) (dOp zae (zj 1) (dOp oIx (zj 3) (dC (.int 0))))) (zE 5))
 (z9 (dOp zae (dOp oIx (zj 3) (dC (.int 1))) (dOp oDiv (zj 5) (dOp zae (dOp oIx (zj 4) (dC (.int 0))) (dOp oIx (zj 3) (dC (.int 0)))))))) zac)))
 (z9 (dC .non)))
theorem ziB : ∀ ds So Q,zbX ds So Q→ds.length = 2:=by rintro ds So Q ⟨_,_,_,rfl,_⟩; rfl
theorem zjz : BodyOk 6 zdu zbX:=by
 rintro ds S Q ⟨x,cs,a,rfl,hx,gr,ba,on,q⟩
 unfold zdu
 have g1:=gr.two
 obtain ⟨kk,l,r,hkl,hkr,hle,hlt⟩:=zik gr.two on.2
 have seg:=seg_at hkl hkr hle hlt
 have hle' : a ≤ r.1:=by have : a ≤ r.1 * 1:=hle; omega
 have hab:=zcP gr (show kk < kk + 1 by omega) hkl hkr
 have hlo : l.1 ≤ a:=by
  cases kk with
  | zero =>
   obtain ⟨f,hf,ef⟩:=zc8 gr
   have h:=on.1
   rw [ef] at h
   rw [hkl] at hf; cases hf
   have : l.1 * 1 ≤ a:=h
   omega
  | succ j =>
   have:=hlt (j + 1) l (by omega) (by omega) hkl
   have : l.1 * 1 < a:=this
   omega
 have q' : Q (.int (l.2 - ((l.2 - r.2) * (a - l.1)) / (r.1 - l.1))) S:=by
  have e : l.2 - ((l.2 - r.2) * (a - l.1)) / (r.1 - l.1) = zcV cs a:=by
   unfold zcV
   rw [seg]
   unfold zdZ hvT hvB
   dsimp only
   rw [if_pos (by omega),if_pos (by omega),Int.mul_one,Int.mul_one,Int.mul_one]
   have e2 : -(l.2 * (r.1 - l.1) + (r.2 - l.2) * (a - l.1)) = (l.2 - r.2) * (a - l.1) + (-l.2) * (r.1 - l.1):=by grind
   rw [e2,Int.add_mul_ediv_right _ _ (by omega)]
   omega
  rw [e]; exact q
 walk_at "dgo"
 rw [List.length_map]
 refine ⟨_,rfl,by have:=gr.most; omega,by have:=gr.most; omega,?_⟩
 refine zaV (fun i ρ S'=>S' = S∧(∃ w2 w3 w4 w5 : Option D,ρ = [some x,some (.int a),w2,w3,w4,w5])∧i ≤ kk) ⟨rfl,⟨none,none,none,none,rfl⟩,by omega⟩ (fun _ _ _ _=>True.intro) ?_ ?_
 ·rintro i d ρ S' hd ⟨rfl,⟨w2,w3,w4,w5,rfl⟩,hik⟩
  obtain ⟨hi,rfl⟩:=zcs hd
  obtain ⟨b,hb,ab⟩:=zfJ (cs:=cs) (k:=0 + (i : Int)) (by omega) (by omega)
  obtain ⟨c,hc,ac⟩:=zfJ (cs:=cs) (k:=0 + (i : Int) + 1) (by omega) (by omega)
  rw [show (0 + (i : Int)).toNat = i by omega] at hb
  rw [show (0 + (i : Int) + 1).toNat = i + 1 by omega] at hc
  have hbc:=zcP gr (show i < i + 1 by omega) hb hc
  obtain ⟨bb1,bb2⟩:=gr.bd b (List.mem_of_getElem? hb)
  obtain ⟨bc1,bc2⟩:=gr.bd c (List.mem_of_getElem? hc)
  have cm : zak (b.2 - c.2) (a - b.1):=.inl ⟨(Bd.sub bb2 bc2).mono (by decide),(Bd.sub ba (bb1.mono (by decide))).mono (by decide)⟩
  have dv : 0 < c.1 - b.1∧Bd 8000 (c.1 - b.1):=⟨by omega,(Bd.sub bc1 bb1).mono (by decide)⟩
  walk_at "dgo"
  refine r_d (fun h1=>?_) (fun h1=>?_)
  ·walk_at "dgo"
   refine r_d (fun h2=>?_) (fun h2=>?_)
   ·have e : i = kk:=by
     rcases Nat.lt_or_ge i kk with z | z
     ·have:=hlt (i + 1) c (by omega) (by omega) hc
      have : c.1 * 1 < a:=this
      omega
     ·omega
    subst e
    rw [hkl] at hb; cases hb
    rw [hkr] at hc; cases hc
    walk_at "dgo"
    exact fin_same q'
   ·walk_at "dgo"
    refine ⟨rfl,⟨_,_,_,_,rfl⟩,?_⟩
    rcases Nat.lt_or_ge i kk with z | z
    ·omega
    ·have : i = kk:=by omega
     subst this
     rw [hkr] at hc; cases hc; omega
  ·exfalso
   rcases Nat.lt_or_ge i kk with z | z
   ·rcases Nat.eq_zero_or_pos i with e | e
    ·subst e
     obtain ⟨f,hf,ef⟩:=zc8 gr
     rw [hb] at hf; cases hf
     have h:=on.1
     rw [ef] at h
     have : b.1 * 1 ≤ a:=h
     omega
    ·have:=hlt i b e (by omega) hb
     have : b.1 * 1 < a:=this
     omega
   ·have : i = kk:=by omega
    subst this
    rw [hkl] at hb; cases hb; omega
 ·rintro ρ S' ⟨rfl,_,hik⟩
  rw [zcF] at hik
  have:=zaL hkr
  omega
structure zuC (cs : List (Int × Int)) (bs : List (Str × (Int × Int))) : Prop where
 nm : zg9 (bs.map (·.1))
 st : ∀ b ∈ bs,zc6 cs b.2∧Bd 175 b.2.1∧Bd 198 b.2.2
def zbL : DSp:=fun ds S Q=>∃ (u x y : D) (ns : List Int) (cs : List (Int × Int)) (zs : List Str),ds = [u,x,y]∧Lst S u (ns.map D.int)∧Lst S x (cs.map p2)∧Lst S y (zs.map D.str)∧zs.length ≤ ns.length∧zs.length ≤ 12∧(∀ n ∈ ns,0 ≤ n∧n < 10 ^ 60)∧Grd cs∧zg9 zs∧∀ bs : List (Str × (Int × Int)),bs.length = zs.length→zuC cs bs→New Q S (bs.map bcD)
def zcU : DS :=
    (zH (zN (zbo zA) (zE 3))
 (zH (zN (dOp zai (dOp zae (dOp oIx (dOp oIx (zj 1) (dUn zcd (dC (.int 1)))) (dC (.int 0))) (dOp oIx (dOp oIx (zj 1) (dC (.int 0))) (dC (.int 0)))) (dC (.int 1))) (zE 4))
 (zH (zbJ (zdB (zf (dB zaS (zf (zj 2) zA)) zA)) (zE 5) (zH (zN (dOp oIx (zj 0) (zj 5)) (zE 6))
 (zH (zN (dOp zai (dOp oIx (dOp oIx (zj 1) (dC (.int 0))) (dC (.int 0))) (dCall zM (zf (zj 6) (zf (dC (.int 40)) (zf (zj 4) zA))))) (zE 7))
 (zH (sJ (sIf (dT (dOp oGt (zj 4) (dC (.int 100000000000000000000)))) (zN (dOp zai (dOp oIx (dOp oIx (zj 1) (dC (.int 0))) (dC (.int 0))) (dOp oMod (zj 6) (zj 4))) (zE 7)) zac))
 (zH (sJ (sIf (dT (dOp oEq (dCall zM (zf (zj 6) (zf (dC (.int 41)) (zf (dC (.int 3)) zA)))) (dC (.int 0)))) (zN (dOp oIx (dOp oIx (zj 1) (dCall zM (zf (zj 6) (zf (dC (.int 42)) (zf (dB zaS (zf (zj 1) zA)) zA))))) (dC (.int 0))) (zE 7)) zac))
 (zH (zN (dOp oIx (zbo (zf (dC (.int 0)) (zf (dCall zM (zf (zj 6) (zf (dC (.int 43)) (zf (dC (.int 4)) zA)))) (zf (dCall zM (zf (zj 6) (zf (dC (.int 44)) (zf (dC (.int 13)) zA)))) (zf (dOp oMod (zj 6) (dC (.int 10000000000000000000000000000000000000000))) zA))))) (dCall zM (zf (zj 6) (zf (dC (.int 45)) (zf (dC (.int 4)) zA))))) (zE 8))
 (zH (sJ (sIf (dT (dOp oLt (zj 4) (dC (.int 100000000000000000000)))) (zN (dOp oMod (zj 8) (dC (.int 20))) (zE 8)) zac))
 (zbe (dM zb4 (zj 3) (zf (dTup (zf (dOp oIx (zj 2) (zj 5)) (zf (zj 7) (zf (dOp zai (dCall zbX (zf (zj 1) (zf (zj 7) zA))) (zj 8)) zA)))) zA))))))))))
 (z9 (zj 3)))))
theorem ziy : ∀ ds So Q,zbL ds So Q→ds.length = 3:=by rintro ds So Q ⟨_,_,_,_,_,_,rfl,_⟩; rfl
theorem zi8 : BodyOk 9 zcU zbL:=by
  rintro ds S Q ⟨u,x,y,ns,cs,zs,rfl,hu,hx,hy,zn,z12,hns,gr,nms,q⟩
  unfold zcU
  obtain ⟨f,hf,ef⟩:=zc8 gr
  obtain ⟨lc,hlc,elc,alc⟩:=zoN gr
  have af : atD (cs.map p2) 0 = some (p2 f):=zdr (i:=0) (by rw [List.getElem?_map,hf]; rfl)
  have bf:=(gr.bd f (List.mem_of_getElem? hf)).1
  have bl:=(gr.bd lc (List.mem_of_getElem? hlc)).1
  have g1:=gr.two
  have g40:=gr.most
  have hfl:=zcP gr (show 0 < cs.length - 1 by omega) hf hlc
  have hx0 : Lst (S ++ [.lst []]) x (cs.map p2):=hx.old
  have hy0 : Lst (S ++ [.lst []]) y (zs.map D.str):=hy.old
  walk_at "dgo"
  walk_at "drho"
  rw [List.length_map]
  refine ⟨_,rfl,by omega,by omega,?_⟩
  generalize hwd : lc.1 - f.1 + 1 = wd
  refine zaV (fun i ρ S'=>∃ (bs : List (Str × (Int × Int))) (G : Sto) (w5 w6 w7 w8 : Option D),S' = S ++ Cell.lst (bs.map bcD) :: G∧ρ = [some u,some x,some y,some (.ref S.length),some (.int wd),w5,w6,w7,w8]∧bs.length = i∧bs.map (·.1) = zs.take i∧∀ b ∈ bs,zc6 cs b.2∧Bd 175 b.2.1∧Bd 198 b.2.2) ⟨[],[],none,none,none,none,rfl,rfl,rfl,by simp,by simp⟩ (fun _ _ _ _=>True.intro) ?_ ?_
  · rintro i d ρ S' hd ⟨bs,G,w5,w6,w7,w8,rfl,rfl,hl,hnm,hst⟩
    obtain ⟨hi,rfl⟩:=zcs hd
    have hin : 0 + (i : Int) < ns.length:=by omega
    obtain ⟨c,hc,ac⟩:=zez (zs:=ns) (k:=0 + (i : Int)) (by omega) hin
    obtain ⟨c0,c1⟩:=hns c hc
    have hu1 : Lst (S ++ Cell.lst (bs.map bcD) :: G) u (ns.map D.int):=hu.old
    have hx1 : Lst (S ++ Cell.lst (bs.map bcD) :: G) x (cs.map p2):=hx.old
    walk_at "dgo"
    refine ⟨c,_,wd,rfl,by decide,by decide,by omega,fun m m0 m1 _=>?_⟩
    walk_at "dgo"
    refine r_J (fun ρ S'=>S' = S ++ Cell.lst (bs.map bcD) :: G∧∃ pl : Int,f.1 ≤ pl∧pl ≤ lc.1∧ρ = [some u,some x,some y,some (.ref S.length),some (.int wd),some (.int (0 + (i : Int))),some (.int c),some (.int pl),w8]) ?_ ?_
    · walk_at "dgo"
      refine r_d (fun _=>?_) (fun _=>?_)
      · have r1:=Int.emod_nonneg c (show wd ≠ 0 by omega)
        have r2:=Int.emod_lt_of_pos c (show 0 < wd by omega)
        walk_at "dgo"
        exact ⟨rfl,f.1 + c % wd,by omega,by omega,rfl⟩
      · walk_at "dgo"
        exact ⟨rfl,f.1 + m,by omega,by omega,rfl⟩
    rintro ρ S' ⟨rfl,pl,p0,p1,rfl⟩
    walk_at "dgo"
    refine r_J (fun ρ S'=>S' = S ++ Cell.lst (bs.map bcD) :: G∧∃ pl : Int,f.1 ≤ pl∧pl ≤ lc.1∧ρ = [some u,some x,some y,some (.ref S.length),some (.int wd),some (.int (0 + (i : Int))),some (.int c),some (.int pl),w8]) ?_ ?_
    · walk_at "dgo"
      refine ⟨c,_,3,rfl,by decide,by decide,by decide,fun m' m0' m1' _=>?_⟩
      walk_at "dgo"
      refine r_d (fun _=>?_) (fun _=>?_)
      · walk_at "dgo"
        rw [List.length_map]
        refine ⟨c,_,_,rfl,by decide,by decide,by omega,fun j j0 j1 _=>?_⟩
        obtain ⟨cc,hcc,acc⟩:=zfJ (cs:=cs) j0 j1
        have on:=zrz gr (List.mem_of_getElem? hcc)
        rw [ef,elc] at on
        walk_at "dgo"
        exact ⟨rfl,cc.1,on.1,on.2,rfl⟩
      · walk_at "dgo"
        exact ⟨rfl,pl,p0,p1,rfl⟩
    clear p0 p1 pl
    rintro ρ S' ⟨rfl,pl,p0,p1,rfl⟩
    walk_at "dgo"
    refine ⟨c,_,4,rfl,by decide,by decide,by decide,fun a1 a10 a11 _=>?_⟩
    walk_at "dgo"
    refine ⟨c,_,13,rfl,by decide,by decide,by decide,fun a2 a20 a21 _=>?_⟩
    have r1:=Int.emod_nonneg c (show (10000000000000000000000000000000000000000 : Int) ≠ 0 by decide)
    have r2:=Int.emod_lt_of_pos c (show (0 : Int) < 10000000000000000000000000000000000000000 by decide)
    walk_at "dgo"
    refine ⟨c,_,4,rfl,by decide,by decide,by decide,fun a3 a30 a31 _=>?_⟩
    obtain ⟨tw,htw,atw⟩:=zez (zs:=[0,a1,a2,c % 10000000000000000000000000000000000000000]) (k:=a3) a30 a31
    have tw0 : 0 ≤ tw∧tw < 10 ^ 40:=by
      simp only [List.mem_cons,List.not_mem_nil,or_false] at htw
      rcases htw with rfl | rfl | rfl | rfl <;> omega
    clear htw
    have atw' : atD [.int 0,.int a1,.int a2,.int (c % 10000000000000000000000000000000000000000)] a3 = some (.int tw):=atw
    refine zjP (xs:=[.int 0,.int a1,.int a2,.int (c % 10000000000000000000000000000000000000000)]) (by walk_at "dlat") atw' ?_
    obtain ⟨G2,hG2⟩ : ∃ G2 : Sto,G2 = G ++ [Cell.lst [.int 0,.int a1,.int a2,.int (c % 10000000000000000000000000000000000000000)]]:=⟨_,rfl⟩
    rw [show S ++ (Cell.lst (bs.map bcD) :: G ++ [Cell.lst [D.int 0,.int a1,.int a2,.int (c % 10000000000000000000000000000000000000000)]]) = S ++ Cell.lst (bs.map bcD) :: G2 by rw [hG2]; simp]
    walk_at "dgo"
    walk_at "drho2"
    refine r_J (fun ρ S'=>S' = S ++ Cell.lst (bs.map bcD) :: G2∧∃ tw : Int,0 ≤ tw∧tw < 10 ^ 40∧ρ = [some u,some x,some y,some (.ref S.length),some (.int wd),some (.int (0 + (i : Int))),some (.int c),some (.int pl),some (.int tw)]) ?_ ?_
    · walk_at "dgo"
      refine r_d (fun _=>?_) (fun _=>?_)
      · walk_at "dgo"
        exact ⟨rfl,tw % 20,by omega,by omega,rfl⟩
      · walk_at "dgo"
        exact ⟨rfl,tw,by omega,by omega,rfl⟩
    clear atw' atw tw0 tw hG2
    rintro ρ S' ⟨rfl,tw,t0,t1,rfl⟩
    have hlim : (bs.map bcD).length < big:=by rw [List.length_map]; unfold big; omega
    obtain ⟨z,hz⟩ : ∃ z,zs[i]? = some z:=⟨zs[i]'(by omega),List.getElem?_eq_getElem (by omega)⟩
    have az : atD (zs.map D.str) (0 + (i : Int)) = some (.str z):=by
      rw [show (0 : Int) + (i : Int) = (i : Int) by omega]
      exact zdr (by rw [List.getElem?_map,hz]; rfl)
    have hy2 : Lst (S ++ Cell.lst (bs.map bcD) :: G2) y (zs.map D.str):=hy.old
    have hx2 : Lst (S ++ Cell.lst (bs.map bcD) :: G2) x (cs.map p2):=hx.old
    walk_at "dgo"
    have on : OnG cs (pl,1):=⟨by rw [ef]; show f.1 * 1 ≤ pl; omega,by rw [elc]; show pl ≤ lc.1 * 1; omega⟩
    have bp : Bd 170 pl:=Bd.btw bf bl p0 p1
    refine ⟨x,cs,pl,rfl,hx2,gr,bp.mono (by decide),on,?_⟩
    have bF:=zoK gr on
    walk_at "dgo"
    refine ⟨bs ++ [(z,(pl,zcV cs pl + tw))],G2,_,_,_,_,by rw [List.map_append]; rfl,rfl,by simp [hl],by rw [List.map_append,hnm,zal hz]; rfl,fun b hb=>?_⟩
    rcases List.mem_append.mp hb with hb | hb
    · exact hst b hb
    · have : b = (z,(pl,zcV cs pl + tw)):=by simpa using hb
      subst this
      refine ⟨(zoU gr (s:=(pl,zcV cs pl + tw)) on).mpr (by show zcV cs pl ≤ zcV cs pl + tw; omega),bp.mono (by decide),?_⟩
      exact (Bd.add (n:=192) bF (by show _ < 2 ^ 192; omega)).mono (by decide)
  rintro ρ S' ⟨bs,G,w5,w6,w7,w8,rfl,rfl,hl,hnm,hst⟩
  rw [zcF] at hl hnm
  rw [List.take_of_length_le (by omega)] at hnm
  walk_at "dgo"
  refine zqR ?_ (q bs (by omega) ⟨by rw [hnm]; exact nms,hst⟩)
  show (bs.map bcD).all (fl 20) = true
  rw [List.all_map,List.all_eq_true]
  intro b hb
  exact ztM (nms.nm (by rw [← hnm]; exact List.mem_map.mpr ⟨b,hb,rfl⟩))
theorem at3 {a b c : Int} {k : Int} {P : Int→Prop} (h0 : 0 ≤ k) (h1 : k < 3) (pa : P a) (pb : P b) (pc : P c) : ∃ v,P v∧atD [.int a,.int b,.int c] k = some (.int v):=by
  obtain ⟨v,hv,av⟩:=zez (zs:=[a,b,c]) (k:=k) h0 h1
  refine ⟨v,?_,av⟩
  simp only [List.mem_cons,List.not_mem_nil,or_false] at hv
  rcases hv with rfl | rfl | rfl <;> assumption
theorem fb1 {x y m k : Int} (hx : Bd 198 x) (hy : Bd 198 y) (m0 : 0 ≤ m) (m1 : m < 100) (k0 : 0 ≤ k) (k1 : k < 100) : Bd 230 ((x + y) / 2 + m - k):=by
 unfold Bd at *; omega
theorem fb2 {x w : Int} (hx : Bd 230 x) (hw : Bd 190 w) : Bd 250 (x + w):=by
 unfold Bd at *; omega
theorem fb3 {a b m : Int} (ha : Bd 250 a) (hb : Bd 250 b) (m0 : 0 ≤ m) (m1 : m < b - a + 3) : Bd 260 (a + m - 1):=by
 unfold Bd at *; omega
theorem fb4 {a e : Int} (ha : Bd 260 a) (e0 : 0 ≤ e) (e1 : e ≤ 1000) : Bd 280 (a + e):=by
 unfold Bd at *; omega
theorem fb5 {x y : Int} (hx : Bd 175 x) (hy : Bd 175 y) : (0 : Int) ≤ (x - y).natAbs∧Bd 190 ((x - y).natAbs : Int)∧Bd 190 ((x - y).natAbs / 3 : Int):=by
 unfold Bd at *; omega
theorem fb6 {m : Int} (m0 : -10 ≤ m) (m1 : m < 100) : Bd 190 m:=by
 show _ < 2 ^ 190; omega
structure FgW (h0 h1 : Int) (F : Fg) : Prop where
 v : FgV F
 a : h0 - 1 ≤ F.f
 b : F.f ≤ h1 + 1
 c : F.l ≤ F.f + 1000
theorem zrA {h0 h1 a w b r m e g s : Int} (u0 : Bd 250 a) (u1 : Bd 250 (a + w)) (u2 : Bd 250 b) (u3 : Bd 250 (b + r)) (u4 : Bd 260 (h0 + m - 1)) (u5 : Bd 280 (h0 + m - 1 + e)) (bg : Bd 190 g) (bs : Bd 190 s) (w0 : 0 ≤ w) (r0 : 0 ≤ r) (m0 : 0 ≤ m) (m1 : m < h1 - h0 + 3) (e0 : 0 ≤ e) (e1 : e ≤ 1000) : FgW h0 h1 ⟨a,a + w,b,b + r,h0 + m - 1,h0 + m - 1 + e,g,s⟩ :=
 ⟨⟨⟨by dsimp only; omega,by dsimp only; omega,u0.mono (by decide),u1.mono (by decide),u2.mono (by decide),u3.mono (by decide),bg.mono (by decide),bs.mono (by decide)⟩,by dsimp only; omega,u4.mono (by decide),u5.mono (by decide)⟩,by dsimp only; omega,by dsimp only; omega,by dsimp only; omega⟩
def zdp : DSp:=fun ds S Q=>∃ (c : Int) (x y : D) (bs : List (Str × (Int × Int))) (h0 h1 : Int),ds = [.int c,x,y,.int h0,.int h1]∧Lst S y (bs.map bcD)∧1 ≤ bs.length∧bs.length ≤ 12∧(∀ b ∈ bs,Bd 175 b.2.1∧Bd 198 b.2.2)∧h0 ≤ h1∧Bd 250 h0∧Bd 250 h1∧∀ F : Fg,FgW h0 h1 F→Q (fgD F) S
def zeS : DS :=
    (zH (zN (dOp oIx (zj 2) (dCall zM (zf (zj 0) (zf (dC (.int 50)) (zf (dB zaS (zf (zj 2) zA)) zA))))) (zE 5))
 (zH (zN (dOp oIx (zj 2) (dCall zM (zf (zj 0) (zf (dC (.int 51)) (zf (dB zaS (zf (zj 2) zA)) zA))))) (zE 6))
 (zH (zN (dOp zae (dOp zai (dOp oDiv (dOp zai (dOp oIx (zj 5) (dC (.int 1))) (dOp oIx (zj 6) (dC (.int 1)))) (dC (.int 2))) (dCall zM (zf (zj 0) (zf (dC (.int 52)) (zf (dC (.int 7)) zA))))) (dC (.int 3))) (zE 7))
 (zH (zN (dOp zae (dOp zai (dOp oDiv (dOp zai (dOp oIx (zj 5) (dC (.int 2))) (dOp oIx (zj 6) (dC (.int 2)))) (dC (.int 2))) (dCall zM (zf (zj 0) (zf (dC (.int 53)) (zf (dC (.int 9)) zA))))) (dC (.int 5))) (zE 8))
 (zH (zN (dOp zae (dOp zai (zj 3) (dCall zM (zf (zj 0) (zf (dC (.int 54)) (zf (dOp zai (dOp zae (zj 4) (zj 3)) (dC (.int 3))) zA))))) (dC (.int 1))) (zE 9))
 (zH (zN (dOp zai (zj 9) (dOp oIx (zbo (zf (dCall zM (zf (zj 0) (zf (dC (.int 55)) (zf (dC (.int 4)) zA)))) (zf (dCall zM (zf (zj 0) (zf (dC (.int 55)) (zf (dC (.int 12)) zA)))) (zf (dC (.int 1000)) zA)))) (dCall zM (zf (zj 0) (zf (dC (.int 56)) (zf (dC (.int 3)) zA)))))) (zE 10))
 (zH (zN (dOp oIx (zbo (zf (dCall zM (zf (zj 0) (zf (dC (.int 57)) (zf (dC (.int 3)) zA)))) (zf (dCall zM (zf (zj 0) (zf (dC (.int 57)) (zf (dC (.int 9)) zA)))) (zf (dB zkt (zf (dOp zae (dOp oIx (zj 5) (dC (.int 1))) (dOp oIx (zj 6) (dC (.int 1)))) zA)) zA)))) (dCall zM (zf (zj 0) (zf (dC (.int 58)) (zf (dC (.int 3)) zA))))) (zE 11))
 (zH (zN (dOp oIx (zbo (zf (dC (.int 0)) (zf (dOp zae (dCall zM (zf (zj 0) (zf (dC (.int 59)) (zf (dC (.int 5)) zA)))) (dC (.int 2))) (zf (dOp oDiv (dB zkt (zf (dOp zae (dOp oIx (zj 5) (dC (.int 1))) (dOp oIx (zj 6) (dC (.int 1)))) zA)) (dC (.int 3))) zA)))) (dCall zM (zf (zj 0) (zf (dC (.int 60)) (zf (dC (.int 3)) zA))))) (zE 12))
 (zH (zN (dOp oIx (zbo (zf (dC (.int 0)) (zf (dC (.int 0)) (zf (dOp zae (dCall zM (zf (zj 0) (zf (dC (.int 61)) (zf (dC (.int 5)) zA)))) (dC (.int 2))) zA)))) (dCall zM (zf (zj 0) (zf (dC (.int 62)) (zf (dC (.int 3)) zA))))) (zE 13))
 (z9 (dTup (zf (zj 7) (zf (dOp zai (zj 7) (zj 11)) (zf (zj 8) (zf (dOp zai (zj 8) (dCall zM (zf (zj 0) (zf (dC (.int 63)) (zf (dC (.int 9)) zA))))) (zf (zj 9) (zf (zj 10) (zf (zj 12) (zf (zj 13) zA)))))))))))))))))))
theorem zli : ∀ ds So Q,zdp ds So Q→ds.length = 5:=by rintro ds So Q ⟨_,_,_,_,_,_,rfl,_⟩; rfl
theorem zl3 : BodyOk 14 zeS zdp:=by
 rintro ds S Q ⟨c,x,y,bs,h0,h1,rfl,hy,l1,l12,hbs,hh,b0,b1,q⟩
 unfold zeS
 walk_at "dgo"
 try walk_at "drho"
 rw [List.length_map]
 refine ⟨c,_,_,rfl,by decide,by decide,by omega,fun i i0 i1 _=>?_⟩
 obtain ⟨o,ho,ao⟩:=zhe (bs:=bs) i0 i1
 obtain ⟨bo1,bo2⟩:=hbs o (List.mem_of_getElem? ho)
 walk_at "dgo"
 try walk_at "drho2"
 rw [List.length_map]
 refine ⟨c,_,_,rfl,by decide,by decide,by omega,fun j j0 j1 _=>?_⟩
 obtain ⟨t,ht,at'⟩:=zhe (bs:=bs) j0 j1
 obtain ⟨bt1,bt2⟩:=hbs t (List.mem_of_getElem? ht)
 clear ho ht ao hbs
 walk_at "dgo"
 try walk_at "drho2"
 refine ⟨c,_,_,rfl,by decide,by decide,by decide,fun m1 m10 m11 _=>?_⟩
 walk_at "dgo"
 try walk_at "drho2"
 refine ⟨c,_,_,rfl,by decide,by decide,by decide,fun m2 m20 m21 _=>?_⟩
 walk_at "dgo"
 try walk_at "drho2"
 refine ⟨c,_,_,rfl,by decide,by decide,by omega,fun m3 m30 m31 _=>?_⟩
 walk_at "dgo"
 refine ⟨c,_,_,rfl,by decide,by decide,by omega,fun m4 m40 m41 _=>?_⟩
 walk_at "dgo"
 refine ⟨c,_,_,rfl,by decide,by decide,by omega,fun m5 m50 m51 _=>?_⟩
 walk_at "dgo"
 try walk_at "drho2"
 refine ⟨c,_,_,rfl,by decide,by decide,by omega,fun m6 m60 m61 _=>?_⟩
 obtain ⟨e,⟨e0,e1⟩,ae⟩:=at3 (a:=m4) (b:=m5) (c:=1000) (k:=m6) (P:=fun v=>0 ≤ v∧v ≤ 1000) m60 m61 (by omega) (by omega) (by omega)
 walk_at "dgo"
 refine ⟨c,_,_,rfl,by decide,by decide,by omega,fun n4 n40 n41 _=>?_⟩
 walk_at "dgo"
 refine ⟨c,_,_,rfl,by decide,by decide,by omega,fun n5 n50 n51 _=>?_⟩
 walk_at "dgo"
 try walk_at "drho2"
 refine ⟨c,_,_,rfl,by decide,by decide,by omega,fun n6 n60 n61 _=>?_⟩
 obtain ⟨wd,⟨wd0,bwd⟩,awd⟩:=at3 (a:=n4) (b:=n5) (c:=(o.2.1 - t.2.1).natAbs) (k:=n6) (P:=fun v=>0 ≤ v∧Bd 190 v) n60 n61 ⟨n40,fb6 (by omega) (by omega)⟩ ⟨n50,fb6 (by omega) (by omega)⟩ ⟨(fb5 bo1 bt1).1,(fb5 bo1 bt1).2.1⟩
 walk_at "dgo"
 refine ⟨c,_,_,rfl,by decide,by decide,by omega,fun p4 p40 p41 _=>?_⟩
 walk_at "dgo"
 try walk_at "drho2"
 refine ⟨c,_,_,rfl,by decide,by decide,by omega,fun p6 p60 p61 _=>?_⟩
 obtain ⟨dr,bdr,adr⟩:=at3 (a:=0) (b:=p4 - 2) (c:=(o.2.1 - t.2.1).natAbs / 3) (k:=p6) (P:=fun v=>Bd 190 v) p60 p61 (fb6 (by decide) (by decide)) (fb6 (by omega) (by omega)) (fb5 bo1 bt1).2.2
 walk_at "dgo"
 refine ⟨c,_,_,rfl,by decide,by decide,by omega,fun q4 q40 q41 _=>?_⟩
 walk_at "dgo"
 try walk_at "drho2"
 refine ⟨c,_,_,rfl,by decide,by decide,by omega,fun q6 q60 q61 _=>?_⟩
 obtain ⟨rs,brs,ars⟩:=at3 (a:=0) (b:=0) (c:=q4 - 2) (k:=q6) (P:=fun v=>Bd 190 v) q60 q61 (fb6 (by decide) (by decide)) (fb6 (by decide) (by decide)) (fb6 (by omega) (by omega))
 walk_at "dgo"
 refine ⟨c,_,_,rfl,by decide,by decide,by omega,fun r4 r40 r41 _=>?_⟩
 walk_at "dgo"
 have v0:=fb1 (k:=3) (bo1.mono (by decide)) (bt1.mono (by decide)) m10 (by omega) (by decide) (by decide)
 have v2:=fb1 (k:=5) (bo2.mono (by decide)) (bt2.mono (by decide)) m20 (by omega) (by decide) (by decide)
 have v4:=fb3 b0 b1 m30 m31
 exact zap rfl (q _ (zrA (v0.mono (by decide)) (fb2 v0 bwd) (v2.mono (by decide)) (fb2 v2 (fb6 (by omega) (by omega))) v4 (fb4 v4 e0 e1) bdr brs wd0 r40 m30 m31 e0 e1))
structure VlW (V : Vl) (most fogs hours : Int) : Prop where
 ok : zdI V
 nm : zg9 (V.bs.map (·.1))
 mb : (V.bs.length : Int) ≤ most
 mf : (V.fs.length : Int) ≤ fogs
 hr : V.h1 < V.h0 + hours
 d3 : V.dl ≤ 3
 h59 : ∀ z,V.hz = some z→z ≤ 10 ^ 59
 st : ∀ b ∈ V.bs,Bd 175 b.2.1∧Bd 198 b.2.2
 cb : ∀ c ∈ V.cs,Bd 169 c.1∧Bd 169 c.2
 fw : ∀ F ∈ V.fs,FgW V.h0 V.h1 F
 b0 : Bd 170 V.h0
abbrev vlD (x y z : D) (V : Vl) : D:=.tup [x,y,z,zbQ V.hz,.int V.h0,.int V.h1,.int V.dl]
def VlS (S : Sto) (x y z : D) (V : Vl) : Prop:=Lst S x (V.cs.map p2)∧Lst S y (V.bs.map bcD)∧Lst S z (V.fs.map fgD)
theorem VlS.old {S T : Sto} {x y z : D} {V : Vl} (h : VlS S x y z V) : VlS (S ++ T) x y z V:=⟨h.1.old,h.2.1.old,h.2.2.old⟩
def zcN : DSp:=fun ds S Q=>∃ (ns : List Int) (most fogs hours : Int),ds = [.rl (ns.map D.int),.int most,.int fogs,.int hours]∧ns.length ≤ 63∧(∀ n ∈ ns,Hg n)∧1 ≤ most∧most ≤ 12∧0 ≤ fogs∧fogs ≤ 12∧1 ≤ hours∧hours ≤ 10 ^ 49∧∀ (T : Sto) (x y z : D) (V : Vl),VlW V most fogs hours→VlS (S ++ T) x y z V→Q (vlD x y z V) (S ++ T)
def zei : DS :=
    (zH (zN (dCall zck (zf (zj 0) (zf (dC (.int 0)) zA))) (zE 4))
 (zH (zN (dOp oEq (dCall zM (zf (zj 4) (zf (dC (.int 0)) (zf (dC (.int 3)) zA)))) (dC (.int 0))) (zE 5))
 (zH (zN (dOp zai (dC (.int 1)) (dCall zM (zf (zj 4) (zf (dC (.int 1)) (zf (zj 1) zA))))) (zE 6))
 (zH (zN (dCall zbN (zf (dCall zck (zf (zj 0) (zf (dC (.int 1)) zA))) (zf (dOp zai (dC (.int 2)) (dCall zM (zf (zj 4) (zf (dC (.int 2)) (zf (dC (.int 6)) zA))))) (zf (zj 5) zA)))) (zE 7))
 (zH (zN (dOp zai (dCall zb3 (zf (zj 0) (zf (dC (.int 2)) (zf (dOp zai (zj 6) (zj 2)) zA)))) (dLC 1 [] (zdB (zf (zj 6) zA)) (zE 0) zb9 (dC (.int 0)))) (zE 8))
 (zH (zN (dCall zbL (zf (zj 8) (zf (zj 7) (zf (dCall zcc (zf (zj 4) (zf (zj 6) zA))) zA)))) (zE 9))
 (zH (zN (dOp oIx (zbo (zf (dOp zae (dCall zM (zf (zj 4) (zf (dC (.int 3)) (zf (dC (.int 9)) zA)))) (dC (.int 4))) (zf (dOp oMod (zj 4) (dC (.int 100000000000000000000000000000000000000000000000000))) zA))) (dOp oDiv (dCall zM (zf (zj 4) (zf (dC (.int 4)) (zf (dC (.int 3)) zA)))) (dC (.int 2)))) (zE 10))
 (zH (zN (dOp zai (zj 10) (dCall zM (zf (zj 4) (zf (dC (.int 5)) (zf (zj 3) zA))))) (zE 11))
 (zH (zN (dLC 1 [7,9,10,11] (zbi (dSl zhV (zj 8) (some (zj 6)) (some (dOp zae (dB zaS (zf (zj 8) zA)) (zj 6))))) (zE 0) zb9 (dCall zdp (zf (zj 0) (zf (zj 1) (zf (zj 2) (zf (zj 3) (zf (zj 4) zA))))))) (zE 12))
 (zH (zN (dOp oIx (zbo (zf (dC .non) (zf (dCall zM (zf (zj 4) (zf (dC (.int 6)) (zf (dC (.int 400)) zA)))) (zf (dC (.int 100000000000000000000000000000000000000000000000000000000000)) zA)))) (dCall zM (zf (zj 4) (zf (dC (.int 7)) (zf (dC (.int 3)) zA))))) (zE 13))
 (z9 (dTup (zf (zj 7) (zf (zj 9) (zf (zj 12) (zf (zj 13) (zf (zj 10) (zf (zj 11) (zf (dCall zM (zf (zj 4) (zf (dC (.int 8)) (zf (dC (.int 4)) zA)))) zA)))))))))))))))))))
theorem zj6 : ∀ ds So Q,zcN ds So Q→ds.length = 4:=by rintro ds So Q ⟨_,_,_,_,rfl,_⟩; rfl
theorem zls : BodyOk 14 zei zcN:=by
  rintro ds S Q ⟨ns,most,fogs,hours,rfl,hl,hg,m1,m12,f0,f12,hr1,hr2,q⟩
  unfold zei
  walk_at "dgo"
  refine ⟨ns,0,rfl,hg,by decide,fun hd hhd=>?_⟩
  walk_at "dgo"
  refine ⟨hd,0,3,rfl,by decide,by decide,by decide,fun a0 _ _ _=>?_⟩
  walk_at "dgo"
  refine ⟨hd,1,most,rfl,by decide,by decide,by omega,fun a1 a10 a11 _=>?_⟩
  walk_at "dgo"
  refine ⟨ns,1,rfl,hg,by decide,fun c1 hc1=>?_⟩
  walk_at "dgo"
  refine ⟨hd,2,6,rfl,by decide,by decide,by decide,fun a2 a20 a21 _=>?_⟩
  walk_at "dgo"
  refine ⟨c1,_,_,rfl,hc1,by omega,by omega,fun cs hcl gr hcb=>?_⟩
  unfold New
  walk_at "drho"
  obtain ⟨S1,hS1⟩ : ∃ S1 : Sto,S1 = S ++ [.lst (cs.map p2)]:=⟨_,rfl⟩
  have kc1 : Lst S1 (.ref S.length) (cs.map p2):=hS1 ▸ Lst.at0
  rw [← hS1]
  walk_at "dgo"
  refine ⟨ns,2,1 + a1 + fogs,rfl,hl,by decide,by omega,by omega,fun zs hzl hzs=>?_⟩
  walk_at "dgo"
  refine ⟨1 + a1,rfl,by omega,by omega,?_⟩
  refine zbv (fun _=>true) (onI fun _=>.int 0) True.intro (by rw [zcF]; unfold big; omega) (fun i d ys hd hw=>?_) ?_
  · obtain ⟨hi,rfl⟩:=zcs hd
    walk_at "dgo"
    exact zcS hd hw rfl rfl
  rw [filter_true]
  obtain ⟨os,hos,hol,hoz⟩ : ∃ os : List Int,(upto 0 (1 + a1).toNat).map (onI fun _=>D.int 0) = os.map D.int∧os.length = (1 + a1).toNat∧∀ z ∈ os,z = 0:=by
    refine ⟨List.replicate (1 + a1).toNat 0,?_,by simp,fun z hz=>List.eq_of_mem_replicate hz⟩
    unfold upto
    rw [List.map_map,List.map_replicate]
    refine List.ext_getElem (by simp) fun j h1 h2=>?_
    simp [onI]
  rw [hos]
  clear hos
  walk_at "dgo"
  refine zr4 (xs:=zs.map D.int) (ys:=os.map D.int) (by walk_at "dlat") (by walk_at "dlat") (by rw [List.length_map,List.length_map]; unfold big; omega) ?_
  rw [← List.map_append]
  have hmn : ∀ n ∈ zs ++ os,0 ≤ n∧n < 10 ^ 60:=fun n hn=>by
    rcases List.mem_append.mp hn with h | h
    · exact hzs n h
    · rw [hoz n h]; decide
  have hml : (zs ++ os).length = zs.length + (1 + a1).toNat:=by rw [List.length_append,hol]
  generalize zs ++ os = nb at hmn hml
  walk_at "dgo"
  walk_at "drho2"
  obtain ⟨S2,hS2⟩ : ∃ S2 : Sto,S2 = S1 ++ [.lst (zs.map D.int),.lst (os.map D.int),.lst (nb.map D.int)]:=⟨_,rfl⟩
  have kn2 : Lst S2 (.ref (S1.length + 2)) (nb.map D.int):=hS2 ▸ Lst.at rfl
  have kc2 : Lst S2 (.ref S.length) (cs.map p2):=hS2 ▸ kc1.old
  rw [← hS2]
  walk_at "dgo"
  refine ⟨hd,_,rfl,by omega,by omega,fun nm hnl hnm=>?_⟩
  unfold New
  obtain ⟨S3,hS3⟩ : ∃ S3 : Sto,S3 = S2 ++ [.lst (nm.map D.str)]:=⟨_,rfl⟩
  have ks3 : Lst S3 (.ref S2.length) (nm.map D.str):=hS3 ▸ Lst.at0
  have kn3 : Lst S3 (.ref (S1.length + 2)) (nb.map D.int):=hS3 ▸ kn2.old
  have kc3 : Lst S3 (.ref S.length) (cs.map p2):=hS3 ▸ kc2.old
  rw [← hS3]
  walk_at "dgo"
  refine ⟨_,_,_,nb,cs,nm,rfl,kn3,kc3,ks3,by omega,by omega,hmn,gr,hnm,fun bs hbl hbo=>?_⟩
  unfold New
  obtain ⟨S4,hS4⟩ : ∃ S4 : Sto,S4 = S3 ++ [.lst (bs.map bcD)]:=⟨_,rfl⟩
  have kb4 : Lst S4 (.ref S3.length) (bs.map bcD):=hS4 ▸ Lst.at0
  have kn4 : Lst S4 (.ref (S1.length + 2)) (nb.map D.int):=hS4 ▸ kn3.old
  have kc4 : Lst S4 (.ref S.length) (cs.map p2):=hS4 ▸ kc3.old
  rw [← hS4]
  walk_at "dgo"
  refine ⟨hd,3,9,rfl,by decide,by decide,by decide,fun a3 a30 a31 _=>?_⟩
  walk_at "dgo"
  refine ⟨hd,4,3,rfl,by decide,by decide,by decide,fun a4 a40 a41 _=>?_⟩
  have r1:=Int.emod_nonneg hd (show (100000000000000000000000000000000000000000000000000 : Int) ≠ 0 by decide)
  have r2:=Int.emod_lt_of_pos hd (show (0 : Int) < 100000000000000000000000000000000000000000000000000 by decide)
  walk_at "dgo"
  obtain ⟨h0,hh0,ah0⟩:=zez (zs:=[a3 - 4,hd % 100000000000000000000000000000000000000000000000000]) (k:=a4 / 2) (by omega) (by show _ < (2 : Int); omega)
  have ah0' : atD [.int (a3 - 4),.int (hd % 100000000000000000000000000000000000000000000000000)] (a4 / 2) = some (.int h0):=ah0
  have bh0 : -4 ≤ h0∧h0 < 10 ^ 50:=by
    simp only [List.mem_cons,List.not_mem_nil,or_false] at hh0
    rcases hh0 with rfl | rfl <;> omega
  clear hh0 ah0
  walk_at "dgo"
  refine ⟨hd,5,hours,rfl,by decide,by decide,by omega,fun a5 a50 a51 _=>?_⟩
  obtain ⟨S5,hS5⟩ : ∃ S5 : Sto,S5 = S4 ++ [.lst [.int (a3 - 4),.int (hd % 100000000000000000000000000000000000000000000000000)]]:=⟨_,rfl⟩
  have kb5 : Lst S5 (.ref S3.length) (bs.map bcD):=hS5 ▸ kb4.old
  have kn5 : Lst S5 (.ref (S1.length + 2)) (nb.map D.int):=hS5 ▸ kn4.old
  have kc5 : Lst S5 (.ref S.length) (cs.map p2):=hS5 ▸ kc4.old
  rw [← hS5]
  walk_at "drho2"
  walk_at "dgo"
  rw [List.length_map,zq9]
  have hfl : (cutD nb (some (1 + a1)) (some ((nb.length : Int) - (1 + a1)))).length ≤ fogs.toNat:=by
    refine Nat.le_trans (zqn _ _ _) ?_
    unfold slD
    dsimp only
    rw [if_neg (by omega),if_neg (by omega)]
    omega
  generalize cutD nb (some (1 + a1)) (some ((nb.length : Int) - (1 + a1))) = fcs at hfl
  obtain ⟨S6,hS6⟩ : ∃ S6 : Sto,S6 = S5 ++ [.lst (fcs.map D.int)]:=⟨_,rfl⟩
  have kf6 : Lst S6 (.ref S5.length) (fcs.map D.int):=hS6 ▸ Lst.at0
  have kb6 : Lst S6 (.ref S3.length) (bs.map bcD):=hS6 ▸ kb5.old
  have kc6 : Lst S6 (.ref S.length) (cs.map p2):=hS6 ▸ kc5.old
  rw [← hS6]
  have hb250 : Bd 250 h0∧Bd 250 (h0 + a5)∧Bd 170 h0:=⟨by show _ < 2 ^ 250; omega,by show _ < 2 ^ 250; omega,by show _ < 2 ^ 170; omega⟩
  refine zmH (fun i ys S'=>S' = S6∧∃ fs : List Fg,ys = fs.map fgD∧fs.length = i∧∀ F ∈ fs,FgW h0 (h0 + a5) F) ⟨rfl,[],rfl,rfl,by simp⟩ (fun i ys S' h=>h.1 ▸ kf6) (by rw [List.length_map]; unfold big; omega) ?_ ?_
  · rintro i d ys S' hd ⟨rfl,fs,rfl,hfl',hfs⟩
    obtain ⟨v,_,rfl⟩:=zfq hd
    walk_at "dgo"
    refine ⟨v,_,_,bs,h0,h0 + a5,rfl,kb6,by omega,by omega,fun b hb=>(hbo.st b hb).2,by omega,hb250.1,hb250.2.1,fun F hF=>?_⟩
    refine ⟨rfl,fs ++ [F],by rw [List.map_append]; rfl,by simp [hfl'],fun G hG=>?_⟩
    rcases List.mem_append.mp hG with h | h
    · exact hfs G h
    · have : G = F:=by simpa using h
      subst this; exact hF
  rintro ys S' ⟨rfl,fs,rfl,hfl2,hfs⟩
  rw [List.length_map] at hfl2
  unfold New
  obtain ⟨S7,hS7⟩ : ∃ S7 : Sto,S7 = S' ++ [.lst (fs.map fgD)]:=⟨_,rfl⟩
  have kf7 : Lst S7 (.ref S'.length) (fs.map fgD):=hS7 ▸ Lst.at0
  have kb7 : Lst S7 (.ref S3.length) (bs.map bcD):=hS7 ▸ kb6.old
  have kc7 : Lst S7 (.ref S.length) (cs.map p2):=hS7 ▸ kc6.old
  have e7 : ∃ T,S7 = S ++ T:=zdQ (zdQ (zdQ (zdQ (zdQ (zdQ ⟨_,hS1⟩ hS2) hS3) hS4) hS5) hS6) hS7
  rw [← hS7]
  clear hS7 hS6 hS5 hS4 hS3 hS2 hS1
  walk_at "dgo"
  refine ⟨hd,6,400,rfl,by decide,by decide,by decide,fun a6 a60 a61 _=>?_⟩
  walk_at "dgo"
  refine ⟨hd,7,3,rfl,by decide,by decide,by decide,fun a7 a70 a71 _=>?_⟩
  obtain ⟨hz,ahz,hz0⟩ : ∃ hz : Option Int,atD [.non,.int a6,.int 100000000000000000000000000000000000000000000000000000000000] a7 = some (zbQ hz)∧∀ z,hz = some z→0 ≤ z∧z ≤ 10 ^ 59:=by
    have : a7 = 0∨a7 = 1∨a7 = 2:=by omega
    rcases this with rfl | rfl | rfl
    · exact ⟨none,rfl,fun z h=>by cases h⟩
    · exact ⟨some a6,rfl,fun z h=>by cases h; omega⟩
    · exact ⟨some 100000000000000000000000000000000000000000000000000000000000,rfl,fun z h=>by cases h; decide⟩
  walk_at "dgo"
  refine ⟨hd,8,4,rfl,by decide,by decide,by decide,fun a8 a80 a81 _=>?_⟩
  walk_at "dgo"
  obtain ⟨T7,rfl⟩:=e7
  rw [List.append_assoc]
  have hbl' : (bs.length : Int) = 1 + a1:=by omega
  refine fin_same (q _ _ _ _ ⟨cs,bs,fs,hz,h0,h0 + a5,a8⟩ ?_ (by rw [← List.append_assoc]; exact VlS.old ⟨kc7,kb7,kf7⟩))
  exact { ok:={ gr:=gr,b1:=by show 1 ≤ bs.length; omega,b12:=by show bs.length ≤ 12; omega,nm:=fun b hb=>hbo.nm.nm (List.mem_map.mpr ⟨b,hb,rfl⟩),nd:=let ⟨_,_,_,_,_,_,_,_,h,_⟩:=hbo.nm; h,st:=fun b hb=>(hbo.st b hb).1,bd:=fun b hb=>⟨(hbo.st b hb).2.1.mono (by decide),(hbo.st b hb).2.2.mono (by decide)⟩,f12:=by show fs.length ≤ 12; omega,fg:=fun F hF=>(hfs F hF).v,hz:=fun z h=>(hz0 z h).1,hh:=by show h0 ≤ h0 + a5; omega,b0:=hb250.1,bl:=hb250.2.1,dl:=a80 },nm:=hbo.nm,mb:=by show (bs.length : Int) ≤ most; omega,mf:=by show (fs.length : Int) ≤ fogs; omega,hr:=by show h0 + a5 < h0 + hours; omega,d3:=by show a8 ≤ 3; omega,h59:=fun z h=>(hz0 z h).2,st:=fun b hb=>(hbo.st b hb).2,cb:=hcb,fw:=hfs,b0:=hb250.2.2 }
def zbZ : DSp:=fun ds S Q=>∃ (a b : Str × (Int × Int)),ds = [bcD a,bcD b]∧(Bd 180 a.2.1∧Bd 200 a.2.2)∧(Bd 180 b.2.1∧Bd 200 b.2.2)∧Q (.int (sqr a.2 b.2)) S
def zdk : DS :=
  (z9 (dOp zai (dOp zao (dOp zae (dOp oIx (zj 0) (dC (.int 1))) (dOp oIx (zj 1) (dC (.int 1)))) (dOp zae (dOp oIx (zj 0) (dC (.int 1))) (dOp oIx (zj 1) (dC (.int 1))))) (dOp zao (dOp zae (dOp oIx (zj 0) (dC (.int 2))) (dOp oIx (zj 1) (dC (.int 2)))) (dOp zae (dOp oIx (zj 0) (dC (.int 2))) (dOp oIx (zj 1) (dC (.int 2)))))))
theorem ziM : ∀ ds So Q,zbZ ds So Q→ds.length = 2:=by rintro ds So Q ⟨_,_,rfl,_⟩; rfl
theorem zjD : BodyOk 2 zdk zbZ:=by
 rintro ds S Q ⟨a,b,rfl,⟨a1,a2⟩,⟨b1,b2⟩,q⟩
 unfold zdk
 have c1 : Bd 8000 (a.2.1 - b.2.1):=(Bd.sub a1 b1).mono (by decide)
 have c2 : Bd 8000 (a.2.2 - b.2.2):=(Bd.sub a2 b2).mono (by decide)
 have m1 : zak (a.2.1 - b.2.1) (a.2.1 - b.2.1):=.inl ⟨c1,c1⟩
 have m2 : zak (a.2.2 - b.2.2) (a.2.2 - b.2.2):=.inl ⟨c2,c2⟩
 walk_at "dgo"
 have e : (a.2.1 - b.2.1) * (a.2.1 - b.2.1) + (a.2.2 - b.2.2) * (a.2.2 - b.2.2) = sqr a.2 b.2:=by unfold sqr; grind
 rw [e]
 exact fin_same q
def zaN : DSp:=fun ds S Q=>∃ (x : D) (cs : List (Int × Int)),ds = [x]∧Lst S x (cs.map p2)∧Grd cs∧Q .non S
def zbh : DS :=
    (zH (sIf (dOr (dT (dOp oLt (dB zaS (zf (zj 0) zA)) (dC (.int 2)))) (dT (dOp oGt (dB zaS (zf (zj 0) zA)) (dC (.int 40))))) zbY zac)
 (zbJ (zjS (zf (dC (.int 1)) (zf (dB zaS (zf (zj 0) zA)) zA))) (zE 1) (sIf (dT (dOp oLe (dOp oIx (dOp oIx (zj 0) (zj 1)) (dC (.int 0))) (dOp oIx (dOp oIx (zj 0) (dOp zae (zj 1) (dC (.int 1)))) (dC (.int 0))))) zbY zac)))
theorem zff : ∀ ds So Q,zaN ds So Q→ds.length = 1:=by rintro ds So Q ⟨_,_,rfl,_⟩; rfl
theorem zfB : BodyOk 2 zbh zaN:=by
 rintro ds S Q ⟨x,cs,rfl,hx,g,q⟩
 unfold zbh
 have g1:=g.two
 have g2:=g.most
 walk_at "dgo"
 rw [List.length_map]
 refine r_d (fun z=>absurd z (by omega)) (fun _=>?_)
 walk_at "dgo"
 rw [List.length_map]
 refine r_d (fun z=>absurd z (by omega)) (fun _=>?_)
 walk_at "dgo"
 rw [List.length_map]
 refine ⟨_,_,rfl,?_⟩
 refine zaV (fun i ρ S'=>S' = S∧∃ w : Option D,ρ = [some x,w]) ⟨rfl,none,rfl⟩ (fun _ _ _ _=>True.intro) ?_ ?_
 ·rintro i d ρ S' hd ⟨rfl,w,rfl⟩
  obtain ⟨hi,rfl⟩:=zcs hd
  obtain ⟨a,ha,aa⟩:=zfJ (cs:=cs) (k:=1 + (i : Int)) (by omega) (by omega)
  obtain ⟨b,hb,ab⟩:=zfJ (cs:=cs) (k:=1 + (i : Int) - 1) (by omega) (by omega)
  have hlt:=zcP g (show (1 + (i : Int) - 1).toNat < (1 + (i : Int)).toNat by omega) hb ha
  walk_at "dgo"
  refine r_d (fun z=>absurd z (by omega)) (fun _=>?_)
  walk_at "dgo"
  exact ⟨rfl,_,rfl⟩
 ·rintro ρ S' ⟨rfl,w,rfl⟩
  exact fin_same q
def zcv : DSp:=fun ds S Q=>∃ (S0 : Sto) (x : D) (cs : List (Int × Int)),ds = [.ref S0.length,x]∧S = S0 ++ [.ins "Ground" []]∧Lst S0 x (cs.map p2)∧Grd cs∧Q .non (S0 ++ [.ins "Ground" [("corners",.ref (S0.length + 1))],.lst (cs.map p2)])
def zbu : DS :=
    (zH (zbe (dCall zaN (zf (zj 1) zA)))
 (zdR "Ground" "corners" (zj 0) (dB zeO (zf (zj 1) zA))))
theorem zh6 : ∀ ds So Q,zcv ds So Q→ds.length = 2:=by rintro ds So Q ⟨_,_,_,rfl,_⟩; rfl
theorem ziR : BodyOk 2 zbu zcv:=by
 rintro ds S Q ⟨S0,x,cs,rfl,rfl,hx,g,q⟩
 unfold zbu
 have hx' : Lst (S0 ++ [.ins "Ground" []]) x (cs.map p2):=hx.old
 walk_at "dgo"
 refine ⟨x,cs,rfl,hx',g,?_⟩
 walk_at "dgo"
 refine ⟨S0.length,[],rfl,zbw,by decide,?_⟩
 rw [zcr]
 exact fin_same q
def ze3 : DSp:=zmD "Ground" zcv
def zaM : DSp:=fun ds S Q=>∃ (x y : D) (xs ys : List D),ds = [x,y]∧Lst S x xs∧Lst S y ys∧1 ≤ xs.length∧xs.length ≤ 12∧ys.length ≤ 12∧Q .non S
def zbg : DS :=
    (zH (sIf (dOr (dT (dOp oLt (dB zaS (zf (zj 0) zA)) (dC (.int 1)))) (dT (dOp oGt (dB zaS (zf (zj 0) zA)) (dC (.int 12))))) zbY zac)
 (sIf (dT (dOp oGt (dB zaS (zf (zj 1) zA)) (dC (.int 12)))) zbY zac))
theorem zfk : ∀ ds So Q,zaM ds So Q→ds.length = 2:=by rintro ds So Q ⟨_,_,_,_,rfl,_⟩; rfl
theorem zfn : BodyOk 2 zbg zaM:=by
 rintro ds S Q ⟨x,y,xs,ys,rfl,hx,hy,h1,h2,h3,q⟩
 unfold zbg
 walk_at "dgo"
 rw [decide_eq_false (show ¬ ((xs.length : Int) < 1) by omega)]
 walk_at "dgo"
 rw [decide_eq_false (show ¬ ((12 : Int) < xs.length) by omega)]
 walk_at "dgo"
 rw [decide_eq_false (show ¬ ((12 : Int) < ys.length) by omega)]
 walk_at "dgo"
 exact fin_same q
def onC (p : Nat→Bool) : D→D
 | .str z=>.bl (p (z.cps.toList.headD 0))
 | d=>d
theorem znQ {z : Str} {i : Nat} {d : D} (h : (signs z)[i]? = some d) : ∃ c,z.cps.toList[i]? = some c∧d = .str ⟨#[c]⟩:=by
 unfold signs at h
 rw [List.getElem?_map] at h
 cases e : z.cps.toList[i]? with
 | none=>rw [e] at h; cases h
 | some p=>rw [e] at h; cases h; exact ⟨p,rfl,rfl⟩
theorem znm (p : Nat→Bool) (z : Str) : (signs z).map (onC p) = (z.cps.toList.map p).map D.bl:=by
 unfold signs
 rw [List.map_map,List.map_map]; rfl
theorem zog (z : Str) : (signs z).length = z.length:=by
 unfold signs
 rw [List.length_map]; exact Array.length_toList
def zdi : DSp:=fun ds S Q=>∃ z : Str,ds = [.str z]∧z.length ≤ 1000∧Q (.bl (nmB z)) S
def ze0 : DS :=
    (zH (sIf (dOr (dT (dOp oLt (dB zaS (zf (zj 0) zA)) (dC (.int 1)))) (dT (dOp oGt (dB zaS (zf (zj 0) zA)) (dC (.int 8))))) (z9 (dC (.bl false))) zac)
 (z9 (dB zgR (zf (dLC 1 [] (zbi (zj 0)) (zE 0) zb9 (dOp oIn (zj 0) (dC (.str "abcdefghijklmnopqrstuvwxyz")))) zA))))
theorem zlm : ∀ ds So Q,zdi ds So Q→ds.length = 1:=by rintro ds So Q ⟨_,rfl,_⟩; rfl
theorem zmT : BodyOk 1 ze0 zdi:=by
 rintro ds S Q ⟨z,rfl,hz,q⟩
 unfold ze0
 have hb : z.length ≤ big:=by unfold big; omega
 walk_at "dgo"
 refine znH hb ?_
 walk_at "dgo"
 unfold nmB at q
 refine r_d (fun h=>?_) (fun h=>?_)
 ·walk_at "dgo"
  rw [decide_eq_false (show ¬ 1 ≤ z.length by omega)] at q
  exact fin_same q
 rw [decide_eq_true (show 1 ≤ z.length by omega)] at q
 walk_at "dgo"
 refine znH hb ?_
 walk_at "dgo"
 refine r_d (fun h=>?_) (fun h=>?_)
 ·walk_at "dgo"
  rw [decide_eq_false (show ¬ z.length ≤ 8 by omega)] at q
  exact fin_same q
 rw [decide_eq_true (show z.length ≤ 8 by omega)] at q
 walk_at "dgo"
 refine zbv (fun _=>true) (onC fun c=>decide (c ∈ abc)) True.intro (by rw [zog]; exact hb) (fun i d ys hd hw=>?_) ?_
 ·obtain ⟨c,_,rfl⟩:=znQ hd
  walk_at "dgo"
  rw [zr0]
  exact zcS hd hw rfl rfl
 rw [filter_true,znm]
 walk_at "dgo"
 refine zgv Lst.at0 rfl ?_
 refine zap rfl ?_
 rw [List.all_map]
 exact q
def onS (p : Str→D) : D→D
 | .str z=>p z
 | d=>d
theorem zrq {zs : List Str} {i : Nat} {d : D} (h : (zs.map D.str)[i]? = some d) : ∃ z,zs[i]? = some z∧d = .str z:=by
 rw [List.getElem?_map] at h
 cases e : zs[i]? with
 | none=>rw [e] at h; cases h
 | some p=>rw [e] at h; cases h; exact ⟨p,rfl,rfl⟩
theorem zqI (f : Str→D) (zs : List Str) : (zs.map D.str).map (onS f) = zs.map f:=by rw [List.map_map]; rfl
def zaX : DSp:=fun ds S Q=>∃ (x : D) (zs : List Str),ds = [x]∧Lst S x (zs.map D.str)∧zs.length ≤ 100∧(∀ z ∈ zs,nmB z = true)∧zs.Nodup∧Q .non S
def zbz : DS :=
    (zH (sIf (zeb (dT (dB zgR (zf (dLC 1 [] (zbi (zj 0)) (zE 0) zb9 (dCall zdi (zf (zj 0) zA))) zA)))) zbY zac)
 (sIf (dT (dOp oLt (dB zl4 (zf (zj 0) zA)) (dB zaS (zf (zj 0) zA)))) zbY zac))
theorem zfQ : ∀ ds So Q,zaX ds So Q→ds.length = 1:=by rintro ds So Q ⟨_,_,rfl,_⟩; rfl
theorem zgc : BodyOk 1 zbz zaX:=by
 rintro ds S Q ⟨x,zs,rfl,hx,hl,hn,nd,q⟩
 unfold zbz
 walk_at "dgo"
 refine zbv (fun _=>true) (onS fun z=>.bl (nmB z)) hx (by rw [List.length_map]; unfold big; omega) (fun i d ys hd hw=>?_) ?_
 ·obtain ⟨z,hz,rfl⟩:=zrq hd
  walk_at "dgo"
  refine ⟨z,rfl,by have:=(ziL.mp (hn z (List.mem_of_getElem? hz))).2.1; omega,?_⟩
  exact zcS hd hw rfl rfl
 rw [filter_true,zqI,show zs.map (fun z=>D.bl (nmB z)) = (zs.map nmB).map D.bl by rw [List.map_map]; rfl]
 walk_at "dgo"
 refine zgv (b:=true) Lst.at0 (by rw [List.all_map,List.all_eq_true]; exact hn) ?_
 walk_at "dgo"
 refine zsK (zs:=zs) hx.old (by omega) ?_
 rw [zmp nd]
 have hx1 : Lst (S ++ [Cell.lst ((zs.map nmB).map D.bl)]) x (zs.map D.str):=hx.old
 walk_at "dgo"
 rw [List.length_map,decide_eq_false (show ¬ ((zs.length : Int) < zs.length) by omega)]
 walk_at "dgo"
 exact zap rfl q
def zdd : DSp:=fun ds S Q=>∃ (a b : Int × Int),ds = [p2 a,p2 b]∧zak a.1 b.2∧zak b.1 a.2∧Q (.bl (flt a b)) S
def zia : DS :=
  (z9 (dOp oLt (dOp zao (dOp oIx (zj 0) (dC (.int 0))) (dOp oIx (zj 1) (dC (.int 1)))) (dOp zao (dOp oIx (zj 1) (dC (.int 0))) (dOp oIx (zj 0) (dC (.int 1))))))
theorem zoS : ∀ ds So Q,zdd ds So Q→ds.length = 2:=by rintro ds So Q ⟨_,_,rfl,_⟩; rfl
theorem zrg : BodyOk 2 zia zdd:=by
 rintro ds S Q ⟨a,b,rfl,c1,c2,q⟩
 unfold zia
 walk_at "dgo"
 exact fin_same q
def zdK : DSp:=fun ds S Q=>∃ (g : D) (cs : List (Int × Int)) (p : Int × Int),ds = [g,p2 p]∧GAt S g cs∧Grd cs∧Bd 1000 p.1∧Bd 1000 p.2∧Q (.bl (decide (zhI cs * p.2 ≤ p.1) && decide (p.1 ≤ zfR cs * p.2))) S
def zgZ : DS :=
    (zH (zN (dTup (zf (dOp oIx (dOp oIx (zcY "corners" (zj 0)) (dC (.int 0))) (dC (.int 0))) (zf (dC (.int 1)) zA))) (zE 2))
 (zH (zN (dTup (zf (dOp oIx (dOp oIx (zcY "corners" (zj 0)) (dUn zcd (dC (.int 1)))) (dC (.int 0))) (zf (dC (.int 1)) zA))) (zE 3))
 (z9 (zhj (zgX (dCall zdd (zf (zj 1) (zf (zj 2) zA)))) (zgX (dCall zdd (zf (zj 3) (zf (zj 1) zA))))))))
theorem zol : ∀ ds So Q,zdK ds So Q→ds.length = 2:=by rintro ds So Q ⟨_,_,_,rfl,_⟩; rfl
theorem zpx : BodyOk 4 zgZ zdK:=by
 rintro ds S Q ⟨g,cs,p,rfl,⟨n,l,rfl,hn,hl⟩,gr,b1,b2,q⟩
 unfold zgZ
 have g1:=gr.two
 obtain ⟨a,ha,ea⟩:=zc8 gr
 obtain ⟨z,hz,ez⟩:=zhM gr
 have aa : atD (cs.map p2) 0 = some (p2 a):=zdr (i:=0) (by rw [List.getElem?_map,ha]; rfl)
 have az : atD (cs.map p2) (-1) = some (p2 z):=by
  have hne : cs ≠ []:=fun e=>by rw [e] at g1; simp at g1
  have en : cs = cs.dropLast ++ [z]:=by
   have h2:=List.dropLast_concat_getLast hne
   have h3 : cs.getLast hne = z:=by
    rw [List.getLast_eq_getElem]
    have hl':=zaL hz
    rw [List.getElem?_eq_getElem hl'] at hz
    cases hz; rfl
   rw [h3] at h2
   exact h2.symm
  rw [en,List.map_append]; exact zf1
 obtain ⟨ba,_⟩:=gr.bd a (List.mem_of_getElem? ha)
 obtain ⟨bz,_⟩:=gr.bd z (List.mem_of_getElem? hz)
 rw [ea,ez] at q
 have e1 : flt p (a.1,1) = decide (p.1 < a.1 * p.2):=by unfold flt; dsimp only; rw [Int.mul_one]
 have e2 : flt (z.1,1) p = decide (z.1 * p.2 < p.1):=by unfold flt; dsimp only; rw [Int.mul_one]
 have c1 : zak a.1 p.2:=.inl ⟨ba.mono (by decide),b2.mono (by decide)⟩
 have c2 : zak z.1 p.2:=.inl ⟨bz.mono (by decide),b2.mono (by decide)⟩
 have c3 : ∀ u : Int,zak u 1:=fun u=>.inr (.inr (by decide))
 walk_at "dgo"
 refine ⟨p,(a.1,1),rfl,c3 _,c1,?_⟩
 rw [e1]
 walk_at "dgo"
 refine zsI (fun g=>?_) (fun g=>?_)
 ·walk_at "dgo"
  refine ⟨(z.1,1),p,rfl,c2,c3 _,?_⟩
  rw [e2]
  walk_at "dgo"
  rw [decide_eq_true (show a.1 * p.2 ≤ p.1 by omega),Bool.true_and] at q
  rw [show (!decide (z.1 * p.2 < p.1)) = decide (p.1 ≤ z.1 * p.2) by rw [← decide_not]; exact decide_eq_decide.mpr (by omega)]
  exact fin_same q
 ·rw [decide_eq_false (show ¬ a.1 * p.2 ≤ p.1 by omega),Bool.false_and] at q
  exact fin_same q
def zbc : DSp:=fun ds S Q=>∃ (t b : Int),ds = [.int t,.int b]∧Q (.int ((Int.gcd t b : Nat) : Int)) S
def zbR : DS :=
    (zH (zim (dT (dOp oNe (zj 1) (dC (.int 0)))) (zH (zN (dOp oMod (zj 0) (zj 1)) (zE 2))
 (zH (zN (zj 1) (zE 0))
 (zN (zj 2) (zE 1)))))
 (z9 (dB zkt (zf (zj 0) zA))))
theorem zgt : ∀ ds So Q,zbc ds So Q→ds.length = 2:=by rintro ds So Q ⟨_,_,rfl,_⟩; rfl
theorem zho : BodyOk 3 zbR zbc:=by
 rintro ds S Q ⟨t,b,rfl,q⟩
 unfold zbR
 refine Dp.zmh ?_
 refine zr5 (fun m ρ S'=>S' = S∧∃ (x y : Int) (w : Option D),ρ = [some (.int x),some (.int y),w]∧m = y.natAbs∧Int.gcd x y = Int.gcd t b) b.natAbs ⟨rfl,_,_,none,rfl,rfl,rfl⟩ ?_
 rintro m ρ S' ⟨rfl,x,y,w,rfl,rfl,e⟩
 walk_at "dgo"
 refine zsI (fun h0=>?_) (fun h0=>?_)
 ·refine znb ?_
  refine Dp.zmh ?_
  refine Dp.zpE ?_
  refine Dp.zmt ?_
  refine Dp.zfN rfl ?_
  refine Dp.zfN rfl ?_
  refine ztt h0 ?_
  walk_at "dgo"
  exact ⟨_,zld h0,rfl,_,_,_,rfl,rfl,(zo5 x y).trans e⟩
 ·subst h0
  rw [Int.gcd_zero] at e
  walk_at "dgo"
  rw [← e] at q
  exact fin_same q
def zcJ : DSp:=fun ds S Q=>∃ (t b : Int),ds = [.int t,.int b]∧b ≠ 0∧Bd 8000 b∧Q (p2 (frT t b,frB t b)) S
def zek : DS :=
    (zH (zN (dCall zbc (zf (zj 0) (zf (zj 1) zA))) (zE 2))
 (zH (sJ (sIf (dT (dOp oLt (zj 1) (dC (.int 0)))) (zN (dUn zcd (zj 2)) (zE 2)) zac))
 (z9 (dTup (zf (dOp oDiv (zj 0) (zj 2)) (zf (dOp oDiv (zj 1) (zj 2)) zA))))))
theorem zkF : ∀ ds So Q,zcJ ds So Q→ds.length = 2:=by rintro ds So Q ⟨_,_,rfl,_⟩; rfl
theorem zle : BodyOk 3 zek zcJ:=by
 rintro ds S Q ⟨t,b,rfl,hb,bb,q⟩
 unfold zek
 have hgn:=zpY (t:=t) (b:=b) hb
 have hgb:=zui (t:=t) (b:=b) hb bb
 walk_at "dgo"
 refine ⟨t,b,rfl,?_⟩
 walk_at "dgo"
 refine r_J (fun ρ S'=>S' = S∧ρ = [some (.int t),some (.int b),some (.int (gd t b))]) ?_ ?_
 ·walk_at "dgo"
  refine r_d (fun g=>?_) (fun g=>?_)
  ·have hg : gd t b = -((Int.gcd t b : Nat) : Int):=if_pos g
   walk_at "dgo"
   exact ⟨rfl,by rw [hg]; rfl⟩
  ·have hg : gd t b = ((Int.gcd t b : Nat) : Int):=if_neg g
   walk_at "dgo"
   exact ⟨rfl,by rw [hg]; rfl⟩
 rintro ρ S' ⟨rfl,rfl⟩
 refine Dp.zpW ?_
 refine Dp.zpM ?_
 refine Dp.zkK ?_
 refine Dp.zmt ?_
 refine Dp.zfN rfl ?_
 refine Dp.zfN rfl ?_
 refine zon ⟨hgn,hgb⟩ ?_
 refine Dp.zkK ?_
 refine Dp.zmt ?_
 refine Dp.zfN rfl ?_
 refine Dp.zfN rfl ?_
 refine zon ⟨hgn,hgb⟩ ?_
 walk_at "dgo"
 exact fin_same q
def zca : DSp:=fun ds S Q=>∃ (a b p : Int × Int),ds = [p2 a,p2 b,p2 p]∧b.1 ≠ a.1∧0 < p.2∧Bd 180 a.1∧Bd 200 a.2∧Bd 180 b.1∧Bd 200 b.2∧Bd 1000 p.1∧Bd 1000 p.2∧∀ c : Int × Int,Sv c (hvT a b p) (hvB a b p)→Int.gcd c.1 c.2 = 1→Bd 1400 c.1→Bd 1400 c.2→Q (p2 c) S
theorem zuO {t b : Int} (hb : b ≠ 0) : Sv (frT t b,frB t b) (if 0 < b then t else -t) (if 0 < b then b else -b):=by
 have h1:=zpb t b
 have h2:=zp6 (t:=t) hb
 refine ⟨by show 0 < frB t b; omega,?_⟩
 show frT t b * _ = _ * frB t b
 split
 ·rw [h1,Int.mul_comm]
 ·rw [Int.mul_neg,h1,Int.neg_mul,Int.mul_comm]
def zdX : DS :=
    (zH (zN (dOp zae (dOp oIx (zj 1) (dC (.int 0))) (dOp oIx (zj 0) (dC (.int 0)))) (zE 3))
 (zH (zN (dOp zae (dOp oIx (zj 1) (dC (.int 1))) (dOp oIx (zj 0) (dC (.int 1)))) (zE 4))
 (zH (zN (dOp zai (dOp zao (dOp zao (dOp oIx (zj 0) (dC (.int 1))) (zj 3)) (dOp oIx (zj 2) (dC (.int 1)))) (dOp zao (zj 4) (dOp zae (dOp oIx (zj 2) (dC (.int 0))) (dOp zao (dOp oIx (zj 0) (dC (.int 0))) (dOp oIx (zj 2) (dC (.int 1))))))) (zE 5))
 (z9 (dCall zcJ (zf (zj 5) (zf (dOp zao (zj 3) (dOp oIx (zj 2) (dC (.int 1)))) zA)))))))
theorem zjM : ∀ ds So Q,zca ds So Q→ds.length = 3:=by rintro ds So Q ⟨_,_,_,rfl,_⟩; rfl
theorem zkT : BodyOk 6 zdX zca:=by
 rintro ds S Q ⟨a,b,p,rfl,hne,hp,b1,b2,b3,b4,b5,b6,q⟩
 unfold zdX
 have r1 : Bd 181 (b.1 - a.1):=Bd.sub b3 b1
 have r2 : Bd 201 (b.2 - a.2):=Bd.sub b4 b2
 have m1 : Bd 381 (a.2 * (b.1 - a.1)):=Bd.mul b2 r1
 have m2 : Bd 1381 (a.2 * (b.1 - a.1) * p.2):=Bd.mul m1 b6
 have m3 : Bd 1180 (a.1 * p.2):=Bd.mul b1 b6
 have m4 : Bd 1181 (p.1 - a.1 * p.2):=Bd.sub (b5.mono (by decide)) m3
 have m5 : Bd 1382 ((b.2 - a.2) * (p.1 - a.1 * p.2)):=Bd.mul r2 m4
 have m6 : Bd 1181 ((b.1 - a.1) * p.2):=Bd.mul r1 b6
 have bT : Bd 1400 (a.2 * (b.1 - a.1) * p.2 + (b.2 - a.2) * (p.1 - a.1 * p.2)):=(Bd.add (n:=1382) (m2.mono (by decide)) m5).mono (by decide)
 have c1 : zak a.2 (b.1 - a.1):=.inl ⟨b2.mono (by decide),r1.mono (by decide)⟩
 have c2 : zak (a.2 * (b.1 - a.1)) p.2:=.inl ⟨m1.mono (by decide),b6.mono (by decide)⟩
 have c3 : zak a.1 p.2:=.inl ⟨b1.mono (by decide),b6.mono (by decide)⟩
 have c4 : zak (b.2 - a.2) (p.1 - a.1 * p.2):=.inl ⟨r2.mono (by decide),m4.mono (by decide)⟩
 have c5 : zak (b.1 - a.1) p.2:=.inl ⟨r1.mono (by decide),b6.mono (by decide)⟩
 walk_at "dgo"
 have hr : (b.1 - a.1) * p.2 ≠ 0:=Int.mul_ne_zero (by omega) (by omega)
 refine ⟨_,_,rfl,hr,m6.mono (by decide),?_⟩
 refine fin_same (q _ ?_ (zs9 hr) (zsi bT) ((zs6 m6).mono (by decide)))
 have hs:=zuO (t:=a.2 * (b.1 - a.1) * p.2 + (b.2 - a.2) * (p.1 - a.1 * p.2)) hr
 unfold hvT hvB
 by_cases g : 0 < b.1 - a.1
 ·have : 0 < (b.1 - a.1) * p.2:=Int.mul_pos g hp
  rw [if_pos this,if_pos this] at hs
  rw [if_pos g,if_pos g]; exact hs
 ·have : ¬ 0 < (b.1 - a.1) * p.2:=fun z=>by
   have:=Int.mul_pos (show 0 < -(b.1 - a.1) by omega) hp
   rw [Int.neg_mul] at this
   omega
  rw [if_neg this,if_neg this] at hs
  rw [if_neg g,if_neg g]; exact hs
def zch : zeK:=fun ds S Q ex=>∃ (g : D) (cs : List (Int × Int)) (p : Int × Int),ds = [g,p2 p]∧GAt S g cs∧Grd cs∧0 < p.2∧Bd 1000 p.1∧Bd 1000 p.2∧(¬ OnG cs p→ex "OffGround" S)∧(OnG cs p→∀ a b c : Int × Int,zfZ cs p = some (a,b)→Sv c (hvT a b p) (hvB a b p)→0 < hvB a b p→Int.gcd c.1 c.2 = 1→Bd 1400 c.1→Bd 1400 c.2→Q (p2 c) S)
def zd1 (ex : XR) : DS :=
    (zH (sIf (zeb (dT (dCall zdK (zf (zj 0) (zf (zj 1) zA))))) (zgu ex "OffGround") zac)
 (zH (zN (zcY "corners" (zj 0)) (zE 2))
 (zH (zN (dC (.int 1)) (zE 3))
 (zH (zim (dT (dCall zdd (zf (dTup (zf (dOp oIx (dOp oIx (zj 2) (zj 3)) (dC (.int 0))) (zf (dC (.int 1)) zA))) (zf (zj 1) zA)))) (zo3 3 (dC (.int 1))))
 (z9 (dCall zca (zf (dOp oIx (zj 2) (dOp zae (zj 3) (dC (.int 1)))) (zf (dOp oIx (zj 2) (zj 3)) (zf (zj 1) zA)))))))))
theorem zjx : ∀ ds So Q ex,zch ds So Q ex→ds.length = 2:=by rintro ds So Q ex ⟨_,_,_,rfl,_⟩; rfl
theorem zkZ : zeu 4 zd1 zch:=by
 rintro ds S Q ex ⟨g,cs,p,rfl,hg,gr,hp,b1,b2,hx,q⟩
 unfold zd1
 obtain ⟨n,l,rfl,hn,hl⟩:=id hg
 walk_at "dgo"
 refine ⟨_,cs,p,rfl,hg,gr,b1,b2,?_⟩
 by_cases on : OnG cs p
 case neg =>
  have e : (decide (zhI cs * p.2 ≤ p.1) && decide (p.1 ≤ zfR cs * p.2)) = false:=Bool.eq_false_iff.mpr fun z=>on (by rw [Bool.and_eq_true,decide_eq_true_eq,decide_eq_true_eq] at z; exact z)
  rw [e]
  walk_at "dgo"
  exact hx on
 have q:=q on
 obtain ⟨kk,a,b,ha,hb,hle,hlt⟩:=zik gr.two on.2
 have seg:=seg_at ha hb hle hlt
 have hk:=zaL hb
 rw [decide_eq_true on.1,decide_eq_true on.2,show (true && true) = true from rfl]
 walk_at "dgo"
 refine zr5 (fun m ρ S'=>S' = S∧∃ j : Nat,ρ = [some (.ref n),some (p2 p),some (.ref l),some (.int ((j : Int) + 1))]∧m = kk - j∧j ≤ kk) kk ⟨rfl,0,rfl,rfl,by omega⟩ ?_
 rintro m ρ S' ⟨rfl,j,rfl,rfl,hj⟩
 obtain ⟨c,hc,ac⟩:=zfJ (cs:=cs) (k:=(j : Int) + 1) (by omega) (by omega)
 have hc' : cs[j + 1]? = some c:=by rwa [show ((j : Int) + 1).toNat = j + 1 by omega] at hc
 obtain ⟨bc,bc2⟩:=gr.bd c (List.mem_of_getElem? hc)
 have e1 : flt (c.1,1) p = decide (c.1 * p.2 < p.1):=by unfold flt; dsimp only; rw [Int.mul_one]
 walk_at "dgo"
 refine ⟨(c.1,1),p,rfl,.inl ⟨bc.mono (by decide),b2.mono (by decide)⟩,.inr (.inr (show (1 : Int).natAbs < 2 ^ 64 by decide)),?_⟩
 rw [e1]
 walk_at "dgo"
 refine r_d (fun h=>?_) (fun h=>?_)
 ·walk_at "dgo"
  have hjk : j < kk:=by
   rcases Nat.lt_or_ge j kk with z | z
   ·exact z
   ·have : j = kk:=by omega
    subst this
    rw [hb] at hc'
    cases hc'
    omega
  exact ⟨kk - (j + 1),by omega,rfl,j + 1,by simp,rfl,by omega⟩
 ·have hjk : j = kk:=by
   rcases Nat.lt_or_ge j kk with z | z
   ·have:=hlt (j + 1) c (by omega) (by omega) hc'
    omega
   ·omega
  subst hjk
  rw [hb] at hc'
  cases hc'
  have aa : atD (cs.map p2) ((j : Int) + 1 - 1) = some (p2 a):=by
   rw [show (j : Int) + 1 - 1 = (j : Int) by omega]
   exact zdr (by rw [List.getElem?_map,ha]; rfl)
  obtain ⟨ba1,ba2⟩:=gr.bd a (List.mem_of_getElem? ha)
  have hab:=zcP gr (show j < j + 1 by omega) ha hb
  walk_at "dgo"
  refine ⟨a,b,p,rfl,by omega,hp,ba1.mono (by decide),ba2.mono (by decide),bc.mono (by decide),bc2.mono (by decide),b1,b2,fun c hs hg d1 d2=>?_⟩
  exact fin_same (q a b c seg hs (zlC (by omega) hp) hg d1 d2)
def zdg : DSp:=fun ds S Q=>∃ (g : D) (cs : List (Int × Int)) (s : Int × Int),ds = [g,p2 s]∧GAt S g cs∧Grd cs∧Bd 180 s.1∧Bd 200 s.2∧∀ b : Bool,(b = true ↔ zc6 cs s)→Q (.bl b) S
def zf7 : DS :=
    (zH (zN (dTup (zf (dOp oIx (zj 1) (dC (.int 0))) (zf (dC (.int 1)) zA))) (zE 2))
 (zH (sIf (zeb (dT (dCall zdK (zf (zj 0) (zf (zj 2) zA))))) (z9 (dC (.bl false))) zac)
 (z9 (zgX (dCall zdd (zf (dTup (zf (dOp oIx (zj 1) (dC (.int 1))) (zf (dC (.int 1)) zA))) (zf (zdz zch xF (zf (zj 0) (zf (zj 2) zA))) zA)))))))
theorem zmK : ∀ ds So Q,zdg ds So Q→ds.length = 2:=by rintro ds So Q ⟨_,_,_,rfl,_⟩; rfl
theorem znK : BodyOk 3 zf7 zdg:=by
 rintro ds S Q ⟨g,cs,s,rfl,hg,gr,b1,b2,q⟩
 unfold zf7
 have bo : Bd 1000 (1 : Int):=Bd.lit (by decide) (by decide)
 walk_at "dgo"
 refine ⟨g,cs,(s.1,1),rfl,hg,gr,b1.mono (by decide),bo,?_⟩
 by_cases on : OnG cs (s.1,1)
 case neg =>
  have e : (decide (zhI cs * (s.1,(1 : Int)).2 ≤ (s.1,(1 : Int)).1) && decide ((s.1,(1 : Int)).1 ≤ zfR cs * (s.1,(1 : Int)).2)) = false:=Bool.eq_false_iff.mpr fun z=>on (by rw [Bool.and_eq_true,decide_eq_true_eq,decide_eq_true_eq] at z; exact z)
  rw [e]
  walk_at "dgo"
  exact fin_same (q false ⟨fun z=>(by cases z),fun z=>absurd z.1 on⟩)
 rw [decide_eq_true on.1,decide_eq_true on.2,show (true && true) = true from rfl]
 walk_at "dgo"
 refine ⟨g,cs,(s.1,1),rfl,hg,gr,(show (0 : Int) < 1 by decide),b1.mono (by decide),bo,fun off=>absurd on off,fun _ a b c seg sv hb hgcd d1 d2=>?_⟩
 walk_at "dgo"
 refine ⟨(s.2,1),c,rfl,.inl ⟨b2.mono (by decide),d2.mono (by decide)⟩,.inr (.inr (show (1 : Int).natAbs < 2 ^ 64 by decide)),?_⟩
 rw [zsO (t:=s.2) (b:=1) (by decide) hb ⟨(show (0 : Int) < 1 by decide),rfl⟩ sv]
 walk_at "dgo"
 refine fin_same (q _ ?_)
 rw [Bool.not_eq_true',decide_eq_false_iff_not]
 constructor
 ·intro h
  refine ⟨on,fun a' b' seg'=>?_⟩
  rw [seg] at seg'; cases seg'; omega
 ·intro h
  have:=h.2 a b seg
  omega
def za9 : DSp:=fun ds S Q=>∃ (g y : D) (cs : List (Int × Int)) (bs : List (Str × (Int × Int))),ds = [g,y]∧GAt S g cs∧Grd cs∧Lst S y (bs.map bcD)∧bs.length ≤ 100∧(∀ b ∈ bs,zc6 cs b.2∧Bd 180 b.2.1∧Bd 200 b.2.2)∧Q .non S
def zbC : DS :=
  (sIf (zeb (dT (dB zgR (zf (dLC 3 [0] (zbi (zj 1)) (zc4 3 (zaq (zE 0) (zaq (zE 1) (zaq (zE 2) zc0)))) zb9 (dCall zdg (zf (zj 3) (zf (dTup (zf (zj 1) (zf (zj 2) zA))) zA)))) zA)))) zbY zac)
theorem zgf : ∀ ds So Q,za9 ds So Q→ds.length = 2:=by rintro ds So Q ⟨_,_,_,_,rfl,_⟩; rfl
theorem zgn : BodyOk 2 zbC za9:=by
 rintro ds S Q ⟨g,y,cs,bs,rfl,hg,gr,hy,hl,hb,q⟩
 unfold zbC
 walk_at "dgo"
 refine zbv (fun _=>true) (zpl fun _=>.bl true) hy (by rw [List.length_map]; unfold big; omega) (fun i d ys hd hw=>?_) ?_
 ·obtain ⟨b,hbi,rfl⟩:=zkO hd
  obtain ⟨s1,s2,s3⟩:=hb b (List.mem_of_getElem? hbi)
  walk_at "dgo"
  refine ⟨g,cs,b.2,rfl,hg,gr,s2,s3,fun r hr=>?_⟩
  rw [hr.mpr s1]
  exact zcS hd hw rfl rfl
 rw [filter_true,zjV,show bs.map (fun _=>D.bl true) = (bs.map fun _=>true).map D.bl by rw [List.map_map]; rfl]
 walk_at "dgo"
 refine zgv (b:=true) Lst.at0 (by rw [List.all_map,List.all_eq_true]; intro _ _; rfl) ?_
 walk_at "dgo"
 exact zap rfl q
def zcI : DSp:=fun ds S Q=>∃ i : Int,ds = [.int i]∧Q (.bl true) S
def zel : DS :=
  (z9 (zhj (dB zgM (zf (zj 0) (zf (dC (.ty "int")) zA))) (zgX (dB zgM (zf (zj 0) (zf (dC (.ty "bool")) zA))))))
theorem zkN : ∀ ds So Q,zcI ds So Q→ds.length = 1:=by rintro ds So Q ⟨_,rfl,_⟩; rfl
theorem zlc : BodyOk 1 zel zcI:=by
 rintro ds S Q ⟨i,rfl,q⟩
 unfold zel
 walk_at "dgo"
 exact fin_same q
def zd6 : DSp:=fun ds S Q=>∃ F : Fg,ds = [fgD F]∧F.x0 ≤ F.x1∧F.z0 ≤ F.z1∧F.f ≤ F.l∧Q (.bl true) S
def zfI : DS :=
    (zH (sIf (dOr (zeb (dT (dB zgM (zf (zj 0) (zf (dC (.ty "tuple")) zA))))) (dT (dOp oNe (dB zaS (zf (zj 0) zA)) (dC (.int 8))))) (z9 (dC (.bl false))) zac)
 (zH (sIf (zeb (dT (dB zgR (zf (dLC 1 [] (zbi (zj 0)) (zE 0) zb9 (dCall zcI (zf (zj 0) zA))) zA)))) (z9 (dC (.bl false))) zac)
 (z9 (zhj (dOp oLe (dOp oIx (zj 0) (dC (.int 0))) (dOp oIx (zj 0) (dC (.int 1)))) (zhj (dOp oLe (dOp oIx (zj 0) (dC (.int 2))) (dOp oIx (zj 0) (dC (.int 3)))) (dOp oLe (dOp oIx (zj 0) (dC (.int 4))) (dOp oIx (zj 0) (dC (.int 5)))))))))
theorem zmZ : ∀ ds So Q,zd6 ds So Q→ds.length = 1:=by rintro ds So Q ⟨_,rfl,_⟩; rfl
theorem znz : BodyOk 1 zfI zd6:=by
 rintro ds S Q ⟨F,rfl,h1,h2,h3,q⟩
 unfold zfI
 walk_at "dgo"
 rw [show (!decide ((([D.int F.x0,D.int F.x1,D.int F.z0,D.int F.z1,D.int F.f,D.int F.l,D.int F.g,D.int F.s] : List D).length : Int) = 8)) = false by rfl]
 walk_at "dgo"
 refine zbv (fun _=>true) (fun _=>.bl true) True.intro (by show 8 ≤ big; unfold big; decide) (fun i d ys hd hw=>?_) ?_
 ·obtain ⟨z,_,rfl⟩:=zfq (zs:=[F.x0,F.x1,F.z0,F.z1,F.f,F.l,F.g,F.s]) hd
  walk_at "dgo"
  refine ⟨z,rfl,?_⟩
  exact zcS hd hw rfl rfl
 walk_at "dgo"
 refine zgv (bs:=List.replicate 8 true) (b:=true) Lst.at0 rfl ?_
 walk_at "dgo"
 rw [decide_eq_true h1]
 walk_at "dgo"
 rw [decide_eq_true h2]
 walk_at "dgo"
 rw [decide_eq_true h3]
 exact zap rfl q
theorem zs3 {α : Type} (xs : List α) (f : α→D) : (xs.map f).map (fun _=>D.bl true) = (xs.map fun _=>true).map D.bl:=by rw [List.map_map,List.map_map]; rfl
def za8 : DSp:=fun ds S Q=>∃ (z : D) (fs : List Fg),ds = [z]∧Lst S z (fs.map fgD)∧fs.length ≤ 100∧(∀ F ∈ fs,FgV F)∧Q .non S
def zbF : DS :=
  (sIf (zeb (dT (dB zgR (zf (dLC 1 [] (zbi (zj 0)) (zE 0) zb9 (dCall zd6 (zf (zj 0) zA))) zA)))) zbY zac)
theorem zgb : ∀ ds So Q,za8 ds So Q→ds.length = 1:=by rintro ds So Q ⟨_,_,rfl,_⟩; rfl
theorem zgH : BodyOk 1 zbF za8:=by
 rintro ds S Q ⟨z,fs,rfl,hz,hl,hf,q⟩
 unfold zbF
 walk_at "dgo"
 refine zbv (fun _=>true) (fun _=>.bl true) hz (by rw [List.length_map]; unfold big; omega) (fun i d ys hd hw=>?_) ?_
 ·obtain ⟨F,hF,rfl⟩:=zh9 hd
  have k:=hf F (List.mem_of_getElem? hF)
  walk_at "dgo"
  refine ⟨F,rfl,k.b.x,k.b.z,k.o,?_⟩
  exact zcS hd hw rfl rfl
 rw [filter_true,zs3]
 walk_at "dgo"
 refine zgv (b:=true) Lst.at0 (by rw [List.all_map,List.all_eq_true]; intro _ _; rfl) ?_
 walk_at "dgo"
 exact zap rfl q
def zaW : DSp:=fun ds S Q=>∃ (hz : Option Int) (a b d : Int),ds = [zbQ hz,.int a,.int b,.int d]∧a ≤ b∧0 ≤ d∧(∀ z,hz = some z→0 ≤ z)∧Q .non S
def zbx : DS :=
    (zH (sIf (dT (dOp oGt (zj 1) (zj 2))) zbY zac)
 (zH (sIf (dT (dOp oLt (zj 3) (dC (.int 0)))) zbY zac)
 (sIf (zfj (dT (dOp zfW (zj 0) (dC .non))) (dT (dOp oLt (zj 0) (dC (.int 0))))) zbY zac)))
theorem zfO : ∀ ds So Q,zaW ds So Q→ds.length = 4:=by rintro ds So Q ⟨_,_,_,_,rfl,_⟩; rfl
theorem zgg : BodyOk 4 zbx zaW:=by
 rintro ds S Q ⟨hz,a,b,d,rfl,hab,hd,hh,q⟩
 unfold zbx
 walk_at "dgo"
 rw [decide_eq_false (show ¬ b < a by omega)]
 walk_at "dgo"
 rw [decide_eq_false (show ¬ d < 0 by omega)]
 cases hz with
 | none =>
  walk_at "dgo"
  exact fin_same q
 | some z =>
  have:=hh z rfl
  unfold zbQ
  walk_at "dgo"
  rw [decide_eq_false (show ¬ z < 0 by omega)]
  walk_at "dgo"
  exact fin_same q
def zcu : DSp:=fun ds S Q=>∃ (S0 : Sto) (g y z : D) (V : Vl),ds = [.ref S0.length,g,y,z,zbQ V.hz,.int V.h0,.int V.h1,.int V.dl]∧S = S0 ++ [.ins "Valley" []]∧GAt S0 g V.cs∧Lst S0 y (V.bs.map bcD)∧Lst S0 z (V.fs.map fgD)∧zdI V∧∀ T,VAt (S0 ++ T) (.ref S0.length) V→Q .non (S0 ++ T)
def zbt : DS :=
    (zH (zbe (dCall zaM (zf (zj 2) (zf (zj 3) zA))))
 (zH (zbe (dCall zaX (zf (dLC 1 [] (zbi (zj 2)) (zE 0) zb9 (dOp oIx (zj 0) (dC (.int 0)))) zA)))
 (zH (zbe (dCall za9 (zf (zj 1) (zf (zj 2) zA))))
 (zH (zbe (dCall za8 (zf (zj 3) zA)))
 (zH (zbe (dCall zaW (zf (zj 4) (zf (zj 5) (zf (zj 6) (zf (zj 7) zA))))))
 (zH (zdR "Valley" "ground" (zj 0) (dCall ze3 (zf (zcY "corners" (zj 1)) zA)))
 (zH (zdR "Valley" "beacons" (zj 0) (dB zeO (zf (zj 2) zA)))
 (zH (zdR "Valley" "fogs" (zj 0) (dB zeO (zf (zj 3) zA)))
 (zH (zdR "Valley" "haze" (zj 0) (zj 4))
 (zH (zdR "Valley" "first" (zj 0) (zj 5))
 (zH (zdR "Valley" "last" (zj 0) (zj 6))
 (zdR "Valley" "delay" (zj 0) (zj 7)))))))))))))
theorem zhZ : ∀ ds So Q,zcu ds So Q→ds.length = 8:=by rintro ds So Q ⟨_,_,_,_,_,rfl,_⟩; rfl
theorem zi9 : BodyOk 8 zbt zcu:=by
 rintro ds S Q ⟨S0,g,y,z,V,rfl,rfl,hg,hy,hz,ok,q⟩
 unfold zbt
 obtain ⟨Sa,hSa⟩ : ∃ Sa : Sto,Sa = S0 ++ [.ins "Valley" []]:=⟨_,rfl⟩
 have hya : Lst Sa y (V.bs.map bcD):=hSa ▸ hy.old
 have hza : Lst Sa z (V.fs.map fgD):=hSa ▸ hz.old
 rw [← hSa]
 walk_at "dgo"
 refine ⟨y,z,_,_,rfl,hya,hza,by rw [List.length_map]; exact ok.b1,by rw [List.length_map]; exact ok.b12,by rw [List.length_map]; exact ok.f12,?_⟩
 walk_at "dgo"
 have b12:=ok.b12
 have f12:=ok.f12
 refine zbv (fun _=>true) (zpl fun b=>.str b.1) hya (by rw [List.length_map]; unfold big; omega) (fun i d ys hd hw=>?_) ?_
 ·obtain ⟨b,_,rfl⟩:=zkO hd
  walk_at "dgo"
  exact zcS hd hw rfl rfl
 rw [filter_true,zjV,show V.bs.map (fun b=>D.str b.1) = (V.bs.map (·.1)).map D.str by rw [List.map_map]; rfl,hSa]
 walk_at "dgo"
 refine ⟨_,V.bs.map (·.1),rfl,Lst.at rfl,by rw [List.length_map]; omega,fun n hn=>?_,ok.nd,?_⟩
 ·obtain ⟨b,hb,rfl⟩:=List.mem_map.mp hn
  exact ok.nm b hb
 walk_at "dgo"
 generalize (V.bs.map (·.1)).map D.str = nms
 refine ⟨g,y,V.cs,V.bs,rfl,hg.old,ok.gr,hy.old,by omega,fun b hb=>⟨ok.st b hb,ok.bd b hb⟩,?_⟩
 walk_at "dgo"
 refine ⟨z,V.fs,rfl,hz.old,by omega,ok.fg,?_⟩
 walk_at "dgo"
 refine ⟨V.hz,_,_,_,rfl,ok.hh,ok.dl,ok.hz,?_⟩
 obtain ⟨gn,gl,rfl,hgn,hgl⟩:=hg
 have hgn1 : (S0 ++ [.ins "Valley" [],.lst nms])[gn]? = some (.ins "Ground" [("corners",.ref gl)]):=zdb hgn
 walk_at "dgo"
 refine ⟨_,_,V.cs,rfl,rfl,.inr ⟨gl,rfl,zdb hgl⟩,ok.gr,⟨rfl,?_⟩⟩
 rw [List.append_assoc,show (S0 ++ [Cell.ins "Valley" [],.lst nms]).length = S0.length + 2 by simp,show ([Cell.ins "Valley" [],.lst nms] : Sto) ++ [.ins "Ground" [("corners",.ref (S0.length + 2 + 1))],.lst (V.cs.map p2)] = [.ins "Valley" [],.lst nms,.ins "Ground" [("corners",.ref (S0.length + 3))],.lst (V.cs.map p2)] from rfl]
 walk_at "dgo"
 refine ⟨S0.length,[],rfl,zbw,by decide,?_⟩
 rw [zcr,zpq]
 have hy2 : ∀ T,Lst (S0 ++ T) y (V.bs.map bcD):=fun T=>hy.old
 have hz2 : ∀ T,Lst (S0 ++ T) z (V.fs.map fgD):=fun T=>hz.old
 walk_at "dgo"
 refine ⟨S0.length,_,rfl,zbw,by simp,?_⟩
 rw [zcr,vp2]
 walk_at "dgo"
 refine ⟨S0.length,_,rfl,zbw,by simp,?_⟩
 rw [zcr,vp3]
 walk_at "dgo"
 refine ⟨S0.length,_,rfl,zbw,by simp,?_⟩
 rw [zcr,vp4]
 walk_at "dgo"
 refine ⟨S0.length,_,rfl,zbw,by simp,?_⟩
 rw [zcr,vp5]
 walk_at "dgo"
 refine ⟨S0.length,_,rfl,zbw,by simp,?_⟩
 rw [zcr,vp6]
 walk_at "dgo"
 refine ⟨S0.length,_,rfl,zbw,by simp,?_⟩
 rw [zcr,vp7]
 refine fin_same (q _ ⟨S0.length,_,_,_,rfl,zbw,⟨_,_,rfl,(zb2 _ _ 2).trans rfl,(zb2 _ _ 3).trans rfl⟩,(zb2 _ _ 4).trans rfl,(zb2 _ _ 5).trans rfl⟩)
def zgy : DSp:=zmD "Valley" zcu
def zb1 : DSp:=fun ds S Q=>∃ (x y z : D) (V : Vl),ds = [vlD x y z V]∧VlS S x y z V∧zdI V∧∀ (T : Sto) (v : D),VAt (S ++ T) v V→Q v (S ++ T)
def zdE : DS :=
  (z9 (dCall zgy (zf (dCall ze3 (zf (dB zeO (zf (dOp oIx (zj 0) (dC (.int 0))) zA)) zA)) (zf (dB zeO (zf (dOp oIx (zj 0) (dC (.int 1))) zA)) (zf (dB zeO (zf (dOp oIx (zj 0) (dC (.int 2))) zA)) (zf (dOp oIx (zj 0) (dC (.int 3))) (zf (dOp oIx (zj 0) (dC (.int 4))) (zf (dOp oIx (zj 0) (dC (.int 5))) (zf (dOp oIx (zj 0) (dC (.int 6))) zA)))))))))
theorem ziY : ∀ ds So Q,zb1 ds So Q→ds.length = 1:=by rintro ds So Q ⟨_,_,_,_,rfl,_⟩; rfl
theorem zjN : BodyOk 1 zdE zb1:=by
 rintro ds S Q ⟨x,y,z,V,rfl,hs,ok,q⟩
 unfold zdE
 obtain ⟨kx,ky,kz⟩:=hs
 walk_at "dgo"
 refine ⟨S ++ [.lst (V.cs.map p2)],_,V.cs,by simp,rfl,Lst.at0,ok.gr,⟨rfl,?_⟩⟩
 obtain ⟨Sb,hSb⟩ : ∃ Sb : Sto,Sb = S ++ [Cell.lst (V.cs.map p2)] ++ [.ins "Ground" [("corners",.ref ((S ++ [Cell.lst (V.cs.map p2)]).length + 1))],.lst (V.cs.map p2)]:=⟨_,rfl⟩
 have hg : GAt Sb (.ref (S.length + 1)) V.cs:=hSb ▸ ⟨_,_,by rw [show S.length + 1 = (S ++ [Cell.lst (V.cs.map p2)]).length by simp],zbw,(zb2 _ _ 1).trans rfl⟩
 have e1 : ∃ T,Sb = S ++ T:=zdQ ⟨_,rfl⟩ hSb
 have ky1 : Lst Sb y (V.bs.map bcD):=by obtain ⟨T,rfl⟩:=e1; exact ky.old
 have kz1 : Lst Sb z (V.fs.map fgD):=by obtain ⟨T,rfl⟩:=e1; exact kz.old
 rw [← hSb]
 clear hSb
 walk_at "dgo"
 have kz2 : Lst (Sb ++ [.lst (V.bs.map bcD)]) z (V.fs.map fgD):=kz1.old
 walk_at "dgo"
 refine ⟨Sb ++ [.lst (V.bs.map bcD),.lst (V.fs.map fgD)],_,_,_,V,by simp,rfl,hg.old,Lst.at0,Lst.at (k:=1) rfl,ok,fun T hv=>⟨rfl,?_⟩⟩
 obtain ⟨T1,rfl⟩:=e1
 have hv' : VAt (S ++ (T1 ++ ([.lst (V.bs.map bcD),.lst (V.fs.map fgD)] ++ T))) (.ref ((S ++ T1) ++ [Cell.lst (V.bs.map bcD),.lst (V.fs.map fgD)]).length) V:=by
  have e : S ++ (T1 ++ ([Cell.lst (V.bs.map bcD),.lst (V.fs.map fgD)] ++ T)) = S ++ T1 ++ [Cell.lst (V.bs.map bcD),.lst (V.fs.map fgD)] ++ T:=by simp
  rw [e]; exact hv
 have:=q _ _ hv'
 have e2 : S ++ T1 ++ [Cell.lst (V.bs.map bcD),.lst (V.fs.map fgD)] ++ T = S ++ (T1 ++ ([Cell.lst (V.bs.map bcD),.lst (V.fs.map fgD)] ++ T)):=by simp
 rw [e2]
 refine fin_same ?_
 simpa using this
def zcb : DSp:=fun ds S Q=>∃ (x : D) (cs : List (Int × Int)) (a b : Int × Int),ds = [x,p2 a,p2 b]∧Lst S x (cs.map p2)∧(∀ c ∈ cs,Bd 170 c.1∧Bd 190 c.2)∧(Bd 200 a.1∧Bd 600 a.2)∧(Bd 200 b.1∧Bd 600 b.2)∧∀ r : Bool,(r = true ↔ zc2 cs a b = none)→Q (.bl r) S
def zdU : DS :=
    (zH (sJ (sIf (dT (dOp oLt (dOp oIx (zj 2) (dC (.int 0))) (dOp oIx (zj 1) (dC (.int 0))))) (zmC 1 2 (zf (zj 2) (zf (zj 1) zA))) zac))
 (zH (zbJ (zbi (zj 0)) (zE 3) (sIf (zfj (dT (dOp oLt (dOp oIx (zj 1) (dC (.int 0))) (dOp oIx (zj 3) (dC (.int 0))))) (dT (dOp oLt (dOp oIx (zj 3) (dC (.int 0))) (dOp oIx (zj 2) (dC (.int 0)))))) (zH (zN (dOp zao (dOp zae (dOp oIx (zj 2) (dC (.int 1))) (dOp oIx (zj 1) (dC (.int 1)))) (dOp zae (dOp oIx (zj 3) (dC (.int 0))) (dOp oIx (zj 1) (dC (.int 0))))) (zE 4))
 (sIf (dT (dOp oGt (dOp zao (dOp zae (dOp oIx (zj 3) (dC (.int 1))) (dOp oIx (zj 1) (dC (.int 1)))) (dOp zae (dOp oIx (zj 2) (dC (.int 0))) (dOp oIx (zj 1) (dC (.int 0))))) (zj 4))) (z9 (dC (.bl false))) zac)) zac))
 (z9 (dC (.bl true)))))
theorem zjG : ∀ ds So Q,zcb ds So Q→ds.length = 3:=by rintro ds So Q ⟨_,_,_,_,rfl,_⟩; rfl
theorem zkC : BodyOk 5 zdU zcb:=by
 rintro ds S Q ⟨x,cs,a,b,rfl,hx,gr,⟨ba1,ba2⟩,⟨bb1,bb2⟩,q⟩
 unfold zdU
 walk_at "dgo"
 refine r_J (fun ρ S'=>S' = S∧∃ o t : Int × Int,ρ = [some x,some (p2 o),some (p2 t),none,none]∧o.1 ≤ t.1∧(Bd 200 o.1∧Bd 600 o.2)∧(Bd 200 t.1∧Bd 600 t.2)∧∀ r : Bool,(r = true ↔ zc2 cs o t = none)→Q (.bl r) S) ?_ ?_
 ·walk_at "dgo"
  refine r_d (fun h=>?_) (fun h=>?_)
  ·walk_at "dgo"
   exact ⟨rfl,b,a,rfl,by omega,⟨bb1,bb2⟩,⟨ba1,ba2⟩,fun r hr=>q r (by rw [hr,zoG])⟩
  ·walk_at "dgo"
   exact ⟨rfl,a,b,rfl,by omega,⟨ba1,ba2⟩,⟨bb1,bb2⟩,q⟩
 clear ba1 ba2 bb1 bb2 q
 rintro ρ S' ⟨rfl,o,t,rfl,hot,⟨bo1,bo2⟩,⟨bt1,bt2⟩,q⟩
 have e1 : zc2 cs o t = none ↔ ∀ d ∈ cs,o.1 < d.1→d.1 < t.1→¬ (t.2 - o.2) * (d.1 - o.1) < (d.2 - o.2) * (t.1 - o.1):=by
  rw [← Option.isNone_iff_eq_none,zo1,Int.min_eq_left hot,Int.max_eq_right hot]
  constructor
  ·intro h d hd d1 d2
   have:=h d hd d1 d2
   rwa [znD (.inl ⟨by omega,by omega⟩),show ((d.1 - o.1).natAbs : Int) = d.1 - o.1 by omega,show ((t.1 - o.1).natAbs : Int) = t.1 - o.1 by omega] at this
  ·intro h d hd d1 d2
   have:=h d hd d1 d2
   rwa [znD (.inl ⟨by omega,by omega⟩),show ((d.1 - o.1).natAbs : Int) = d.1 - o.1 by omega,show ((t.1 - o.1).natAbs : Int) = t.1 - o.1 by omega]
 walk_at "dgo"
 refine zaV (fun i ρ S2=>S2 = S'∧(∃ w1 w2 : Option D,ρ = [some x,some (p2 o),some (p2 t),w1,w2])∧∀ d ∈ cs.take i,o.1 < d.1→d.1 < t.1→¬ (t.2 - o.2) * (d.1 - o.1) < (d.2 - o.2) * (t.1 - o.1)) ⟨rfl,⟨none,none,rfl⟩,by simp⟩ (fun i ρ S2 h=>h.1 ▸ hx) ?_ ?_
 ·rintro i d ρ S2 hd ⟨rfl,⟨w1,w2,rfl⟩,hn⟩
  obtain ⟨c,hc,rfl⟩:=zcL hd
  have mc:=List.mem_of_getElem? hc
  obtain ⟨bc1,bc2⟩:=gr c mc
  have cm1 : zak (c.2 - o.2) (t.1 - o.1):=.inl ⟨(Bd.sub (bc2.mono (by decide : (190 : Nat) ≤ 600)) bo2).mono (by decide),(Bd.sub bt1 bo1).mono (by decide)⟩
  have cm2 : zak (t.2 - o.2) (c.1 - o.1):=.inl ⟨(Bd.sub bt2 bo2).mono (by decide),(Bd.sub (bc1.mono (by decide : (170 : Nat) ≤ 200)) bo1).mono (by decide)⟩
  have nxt : (o.1 < c.1→c.1 < t.1→¬ (t.2 - o.2) * (c.1 - o.1) < (c.2 - o.2) * (t.1 - o.1))→∀ d ∈ cs.take (i + 1),o.1 < d.1→d.1 < t.1→¬ (t.2 - o.2) * (d.1 - o.1) < (d.2 - o.2) * (t.1 - o.1):=fun h d hd=>by
   rw [zal hc] at hd
   rcases List.mem_append.mp hd with hd | hd
   ·exact hn d hd
   ·have : d = c:=by simpa using hd
    subst this; exact h
  walk_at "dgo"
  refine r_d (fun h1=>?_) (fun h1=>?_)
  ·walk_at "dgo"
   refine r_d (fun h2=>?_) (fun h2=>?_)
   ·walk_at "dgo"
    refine r_d (fun h3=>?_) (fun h3=>?_)
    ·walk_at "dgo"
     exact fin_same (q false ⟨fun z=>(by cases z),fun z=>absurd h3 (e1.mp z c mc h1 h2)⟩)
    ·walk_at "dgo"
     exact ⟨rfl,⟨_,_,rfl⟩,nxt fun _ _=>h3⟩
   ·walk_at "dgo"
    exact ⟨rfl,⟨_,_,rfl⟩,nxt fun _ z=>absurd z h2⟩
  ·walk_at "dgo"
   exact ⟨rfl,⟨_,_,rfl⟩,nxt fun z=>absurd z h1⟩
 ·rintro ρ S2 ⟨rfl,⟨w1,w2,rfl⟩,hn⟩
  rw [List.length_map,List.take_length] at hn
  walk_at "dgo"
  exact fin_same (q true ⟨fun _=>e1.mpr hn,fun _=>rfl⟩)
def zb6 : DSp:=fun ds S Q=>∃ (a w lo hi : Int),ds = [.int a,.int w,.int lo,.int hi]∧∀ e1 e2 x1 x2 : Int,zjQ lo hi a w e1 e2 x1 x2→Q (.tup [p2 (e1,e2),p2 (x1,x2)]) S
def zem : DS :=
    (zH (sIf (dT (dOp oEq (zj 1) (dC (.int 0)))) (z9 (dOp oIx (zbo (zf (dTup (zf (dTup (zf (dC (.int 0)) (zf (dC (.int 1)) zA))) (zf (dTup (zf (dC (.int 1)) (zf (dC (.int 1)) zA))) zA))) (zf (dTup (zf (dTup (zf (dC (.int 2)) (zf (dC (.int 1)) zA))) (zf (dTup (zf (dC (.int 0)) (zf (dC (.int 1)) zA))) zA))) zA))) (dB zo0 (zf (zoX (dOp oLt (zj 0) (zj 2)) (dOp oLt (zj 3) (zj 0))) zA)))) zac)
 (zH (sIf (dT (dOp oGt (zj 1) (dC (.int 0)))) (z9 (dTup (zf (dTup (zf (dOp zae (zj 2) (zj 0)) (zf (zj 1) zA))) (zf (dTup (zf (dOp zae (zj 3) (zj 0)) (zf (zj 1) zA))) zA)))) zac)
 (z9 (dTup (zf (dTup (zf (dOp zae (zj 0) (zj 3)) (zf (dUn zcd (zj 1)) zA))) (zf (dTup (zf (dOp zae (zj 0) (zj 2)) (zf (dUn zcd (zj 1)) zA))) zA))))))
theorem zj8 : ∀ ds So Q,zb6 ds So Q→ds.length = 4:=by rintro ds So Q ⟨_,_,_,_,rfl,_⟩; rfl
theorem zk6 : BodyOk 4 zem zb6:=by
 rintro ds S Q ⟨a,w,lo,hi,rfl,q⟩
 unfold zem
 walk_at "dgo"
 refine r_d (fun h=>?_) (fun h=>?_)
 ·walk_at "dgo"
  refine r_d (fun h1=>?_) (fun h1=>?_)
  ·walk_at "dgo"
   exact zap rfl (q 2 1 0 1 (.inr ⟨h,.inl h1,rfl,rfl,rfl,rfl⟩))
  ·walk_at "dgo"
   rcases Int.lt_or_le hi a with g | g
   ·rw [decide_eq_true g]
    refine zjP (xs:=[.tup [.tup [.int 0,.int 1],.tup [.int 1,.int 1]],.tup [.tup [.int 2,.int 1],.tup [.int 0,.int 1]]]) Lst.at0 (i:=1) rfl ?_
    exact zap rfl (q 2 1 0 1 (.inr ⟨h,.inr g,rfl,rfl,rfl,rfl⟩))
   ·rw [decide_eq_false (show ¬ hi < a by omega)]
    refine zjP (xs:=[.tup [.tup [.int 0,.int 1],.tup [.int 1,.int 1]],.tup [.tup [.int 2,.int 1],.tup [.int 0,.int 1]]]) Lst.at0 (i:=0) rfl ?_
    exact zap rfl (q 0 1 1 1 (.inl (.inl ⟨h,by omega,g,rfl,rfl,rfl,rfl⟩)))
 ·walk_at "dgo"
  refine r_d (fun h1=>?_) (fun h1=>?_)
  ·walk_at "dgo"
   exact fin_same (q _ _ _ _ (.inl (.inr (.inr (.inl ⟨h1,rfl,rfl,rfl,rfl⟩)))))
  ·walk_at "dgo"
   exact fin_same (q _ _ _ _ (.inl (.inr (.inr (.inr ⟨by omega,rfl,rfl,rfl,rfl⟩)))))
def zcO : DSp:=fun ds S Q=>∃ (L R B T : Int) (a b : Int × Int),ds = [.tup [.int L,.int R,.int B,.int T],p2 a,p2 b]∧L ≤ R∧B ≤ T∧(Bd 700 L∧Bd 700 R∧Bd 700 B∧Bd 700 T)∧(Bd 700 a.1∧Bd 700 a.2)∧(Bd 700 b.1∧Bd 700 b.2)∧∀ r : Bool,(r = true ↔ Hit L R B T a.1 a.2 b.1 b.2)→Q (.bl r) S
def zef : DS :=
    (zH (zN (zbo (zf (dTup (zf (dTup (zf (dC (.int 0)) (zf (dC (.int 1)) zA))) (zf (dTup (zf (dC (.int 1)) (zf (dC (.int 1)) zA))) zA))) (zf (dCall zb6 (zf (dOp oIx (zj 1) (dC (.int 0))) (zf (dOp zae (dOp oIx (zj 2) (dC (.int 0))) (dOp oIx (zj 1) (dC (.int 0)))) (zf (dOp oIx (zj 0) (dC (.int 0))) (zf (dOp oIx (zj 0) (dC (.int 1))) zA))))) zA))) (zE 3))
 (zH (zbe (dM zb4 (zj 3) (zf (dCall zb6 (zf (dOp oIx (zj 1) (dC (.int 1))) (zf (dOp zae (dOp oIx (zj 2) (dC (.int 1))) (dOp oIx (zj 1) (dC (.int 1)))) (zf (dOp oIx (zj 0) (dC (.int 2))) (zf (dOp oIx (zj 0) (dC (.int 3))) zA))))) zA)))
 (zH (zbJ (zbi (dLC 1 [] (zbi (zj 3)) (zE 0) zb9 (dOp oIx (zj 0) (dC (.int 0))))) (zE 4) (zbJ (zbi (dLC 1 [] (zbi (zj 3)) (zE 0) zb9 (dOp oIx (zj 0) (dC (.int 1))))) (zE 5) (sIf (dT (dOp oGt (dOp zao (dOp oIx (zj 4) (dC (.int 0))) (dOp oIx (zj 5) (dC (.int 1)))) (dOp zao (dOp oIx (zj 5) (dC (.int 0))) (dOp oIx (zj 4) (dC (.int 1)))))) (z9 (dC (.bl false))) zac)))
 (z9 (dC (.bl true))))))
theorem zkl : ∀ ds So Q,zcO ds So Q→ds.length = 3:=by rintro ds So Q ⟨_,_,_,_,_,_,rfl,_⟩; rfl
theorem zk8 : BodyOk 6 zef zcO:=by
 rintro ds S Q ⟨L,R,B,T,a,b,rfl,hx,hz,⟨bL,bR,bB,bT⟩,⟨ba1,ba2⟩,⟨bb1,bb2⟩,q⟩
 unfold zef
 walk_at "dgo"
 refine ⟨_,_,_,_,rfl,fun e1 e2 x1 x2 pa=>?_⟩
 walk_at "dgo"
 refine ⟨_,_,_,_,rfl,fun f1 f2 y1 y2 pu=>?_⟩
 walk_at "drho"
 obtain ⟨d1,d2,d3,d4⟩:=zkY pa (by decide) bL bR ba1 (Bd.sub bb1 ba1)
 obtain ⟨g1,g2,g3,g4⟩:=zkY pu (by decide) bB bT ba2 (Bd.sub bb2 ba2)
 have hit:=zus hx hz pa pu
 unfold zig at hit
 clear pa pu
 obtain ⟨ls,hls⟩ : ∃ ls : List (Int × Int),ls = [(0,1),(e1,e2),(f1,f2)]:=⟨_,rfl⟩
 obtain ⟨hs,hhs⟩ : ∃ hs : List (Int × Int),hs = [(1,1),(x1,x2),(y1,y2)]:=⟨_,rfl⟩
 have bo : ∀ c : Int,0 ≤ c→c ≤ 2→Bd 701 c:=fun c h0 h1=>by
  have : Bd 2 c:=by show _ < 2 ^ 2; omega
  exact this.mono (by decide)
 have bl : ∀ c ∈ ls,Bd 701 c.1∧Bd 701 c.2:=fun c hc=>by
  rw [hls] at hc
  simp only [List.mem_cons,List.not_mem_nil,or_false] at hc
  rcases hc with rfl | rfl | rfl
  ·exact ⟨bo _ (by decide) (by decide),bo _ (by decide) (by decide)⟩
  ·exact ⟨d1,d2⟩
  ·exact ⟨g1,g2⟩
 have bh : ∀ c ∈ hs,Bd 701 c.1∧Bd 701 c.2:=fun c hc=>by
  rw [hhs] at hc
  simp only [List.mem_cons,List.not_mem_nil,or_false] at hc
  rcases hc with rfl | rfl | rfl
  ·exact ⟨bo _ (by decide) (by decide),bo _ (by decide) (by decide)⟩
  ·exact ⟨d3,d4⟩
  ·exact ⟨g3,g4⟩
 have hit' : (∀ e ∈ ls,∀ x ∈ hs,e.1 * x.2 ≤ x.1 * e.2) ↔ Hit L R B T a.1 a.2 b.1 b.2:=by rw [hls,hhs]; exact hit
 clear hit
 have lh : hs.length = 3:=by rw [hhs]; rfl
 have ll : ls.length = 3:=by rw [hls]; rfl
 have ep : ([.tup [p2 (0,1),p2 (1,1)],.tup [p2 (e1,e2),p2 (x1,x2)]] : List D) ++ [.tup [p2 (f1,f2),p2 (y1,y2)]] = [.tup [p2 (0,1),p2 (1,1)],.tup [p2 (e1,e2),p2 (x1,x2)],.tup [p2 (f1,f2),p2 (y1,y2)]]:=rfl
 have eF : ([.tup [p2 (0,1),p2 (1,1)],.tup [p2 (e1,e2),p2 (x1,x2)],.tup [p2 (f1,f2),p2 (y1,y2)]] : List D).map onF = ls.map p2:=by rw [hls]; rfl
 have eL : ([.tup [p2 (0,1),p2 (1,1)],.tup [p2 (e1,e2),p2 (x1,x2)],.tup [p2 (f1,f2),p2 (y1,y2)]] : List D).map onL = hs.map p2:=by rw [hhs]; rfl
 obtain ⟨ps,hps⟩ : ∃ ps : List D,ps = [.tup [p2 (0,1),p2 (1,1)],.tup [p2 (e1,e2),p2 (x1,x2)],.tup [p2 (f1,f2),p2 (y1,y2)]]:=⟨_,rfl⟩
 have lp : ps.length = 3:=by rw [hps]; rfl
 rw [← hps] at ep eF eL
 have hpi : ∀ (i : Nat) d,ps[i]? = some d→∃ u v : Int × Int,d = .tup [p2 u,p2 v]:=fun i d hd=>by
  have hm:=List.mem_of_getElem? hd
  rw [hps] at hm
  simp only [List.mem_cons,List.not_mem_nil,or_false] at hm
  rcases hm with rfl | rfl | rfl
  ·exact ⟨_,_,rfl⟩
  ·exact ⟨_,_,rfl⟩
  ·exact ⟨_,_,rfl⟩
 clear hls hhs
 walk_at "dgo"
 show zmS _ _ _ _ _ _ _ ⟨([D.tup [p2 (0,1),p2 (1,1)],.tup [p2 (e1,e2),p2 (x1,x2)]] ++ [.tup [p2 (f1,f2),p2 (y1,y2)]] : List D),_⟩ (S ++ [.lst ([D.tup [p2 (0,1),p2 (1,1)],.tup [p2 (e1,e2),p2 (x1,x2)]] ++ [.tup [p2 (f1,f2),p2 (y1,y2)]])])
 rw [ep]
 refine zbv (fun _=>true) onF Lst.at0 (by rw [lp]; decide) (fun i d ys hd hw=>?_) ?_
 ·obtain ⟨u,v,rfl⟩:=hpi i d hd
  walk_at "dgo"
  exact zcS hd hw rfl rfl
 rw [filter_true,eF]
 walk_at "dgo"
 refine zaV (fun i ρ S'=>∃ (G : Sto) (w1 w2 : Option D),S' = S ++ (Cell.lst ps :: Cell.lst (ls.map p2) :: G)∧ρ = [some (.tup [.int L,.int R,.int B,.int T]),some (p2 a),some (p2 b),some (.ref S.length),w1,w2]∧∀ e ∈ ls.take i,∀ x ∈ hs,e.1 * x.2 ≤ x.1 * e.2) ⟨[],none,none,rfl,rfl,by simp⟩ (fun i ρ S' ⟨G,w1,w2,e,_⟩=>e ▸ Lst.at (k:=1) rfl) ?_ ?_
 ·rintro i d ρ S' hd ⟨G,w1,w2,rfl,rfl,hle⟩
  obtain ⟨e,he,rfl⟩:=zcL hd
  have me:=List.mem_of_getElem? he
  have kp : Lst (S ++ (Cell.lst ps :: Cell.lst (ls.map p2) :: G)) (.ref S.length) ps:=Lst.at0
  walk_at "dgo"
  refine zbv (fun _=>true) onL kp (by rw [lp]; decide) (fun i d ys hd hw=>?_) ?_
  ·obtain ⟨u,v,rfl⟩:=hpi i d hd
   walk_at "dgo"
   exact zcS hd hw rfl rfl
  rw [filter_true,eL]
  walk_at "dgo"
  obtain ⟨S2,hS2⟩ : ∃ S2 : Sto,S2 = S ++ (Cell.lst ps :: Cell.lst (ls.map p2) :: G ++ [.lst (hs.map p2)]):=⟨_,rfl⟩
  have kh : Lst S2 (.ref (S.length + (Cell.lst ps :: Cell.lst (ls.map p2) :: G).length)) (hs.map p2):=hS2 ▸ Lst.new
  rw [← hS2]
  refine zaV (fun j ρ S'=>S' = S2∧(∃ w2 : Option D,ρ = [some (.tup [.int L,.int R,.int B,.int T]),some (p2 a),some (p2 b),some (.ref S.length),some (p2 e),w2])∧∀ x ∈ hs.take j,e.1 * x.2 ≤ x.1 * e.2) ⟨rfl,⟨_,rfl⟩,by simp⟩ (fun j ρ S' h=>h.1 ▸ kh) ?_ ?_
  ·rintro j d ρ S' hd ⟨rfl,⟨w2,rfl⟩,hlj⟩
   obtain ⟨x,hx',rfl⟩:=zcL hd
   have mx:=List.mem_of_getElem? hx'
   have cm1 : zak e.1 x.2:=.inl ⟨(bl e me).1.mono (by decide),(bh x mx).2.mono (by decide)⟩
   have cm2 : zak x.1 e.2:=.inl ⟨(bh x mx).1.mono (by decide),(bl e me).2.mono (by decide)⟩
   walk_at "dgo"
   refine r_d (fun h=>?_) (fun h=>?_)
   ·walk_at "dgo"
    rw [hS2]
    refine zap rfl (q false ⟨fun z=>(by cases z),fun z=>?_⟩)
    have:=hit'.mpr z e me x mx
    omega
   ·walk_at "dgo"
    refine ⟨rfl,⟨_,rfl⟩,fun y hy=>?_⟩
    rw [zal hx'] at hy
    rcases List.mem_append.mp hy with hy | hy
    ·exact hlj y hy
    ·have : y = x:=by simpa using hy
     subst this; omega
  ·rintro ρ S' ⟨rfl,⟨w2,rfl⟩,hlj⟩
   rw [List.length_map,List.take_length] at hlj
   refine ⟨G ++ [.lst (hs.map p2)],_,_,by rw [hS2]; rfl,rfl,fun y hy=>?_⟩
   rw [zal he] at hy
   rcases List.mem_append.mp hy with hy | hy
   ·exact hle y hy
   ·have : y = e:=by simpa using hy
    subst this; exact hlj
 ·rintro ρ S' ⟨G,w1,w2,rfl,rfl,hle⟩
  rw [List.length_map,List.take_length] at hle
  walk_at "dgo"
  exact zap rfl (q true ⟨fun _=>hit'.mp hle,fun _=>rfl⟩)
def zb0 : DSp:=fun ds S Q=>∃ (F : Fg) (a b : Int × Int) (h : Int),ds = [fgD F,p2 a,p2 b,.int h]∧FgV F∧(Bd 180 a.1∧Bd 200 a.2)∧(Bd 180 b.1∧Bd 200 b.2)∧Bd 300 h∧∀ r : Bool,(r = true ↔ zcw F a.1 a.2 b.1 b.2 h)→Q (.bl r) S
def zdj : DS :=
    (zH (sIf (dOr (dT (dOp oLt (zj 3) (dOp oIx (zj 0) (dC (.int 4))))) (dT (dOp oLt (dOp oIx (zj 0) (dC (.int 5))) (zj 3)))) (z9 (dC (.bl false))) zac)
 (zH (zN (dOp zao (dOp oIx (zj 0) (dC (.int 6))) (dOp zae (zj 3) (dOp oIx (zj 0) (dC (.int 4))))) (zE 4))
 (zH (zN (dOp zao (dOp oIx (zj 0) (dC (.int 7))) (dOp zae (zj 3) (dOp oIx (zj 0) (dC (.int 4))))) (zE 5))
 (z9 (dCall zcO (zf (dTup (zf (dOp zai (dOp oIx (zj 0) (dC (.int 0))) (zj 4)) (zf (dOp zai (dOp oIx (zj 0) (dC (.int 1))) (zj 4)) (zf (dOp zai (dOp oIx (zj 0) (dC (.int 2))) (zj 5)) (zf (dOp zai (dOp oIx (zj 0) (dC (.int 3))) (zj 5)) zA))))) (zf (zj 1) (zf (zj 2) zA))))))))
theorem ziU : ∀ ds So Q,zb0 ds So Q→ds.length = 4:=by rintro ds So Q ⟨_,_,_,_,rfl,_⟩; rfl
theorem zjA : BodyOk 6 zdj zb0:=by
 rintro ds S Q ⟨F,a,b,h,rfl,ok,⟨ba1,ba2⟩,⟨bb1,bb2⟩,bh,q⟩
 unfold zdj
 walk_at "dgo"
 refine r_d (fun h1=>?_) (fun h1=>?_)
 ·walk_at "dgo"
  exact fin_same (q false ⟨fun z=>(by cases z),fun z=>by have:=z.1; omega⟩)
 walk_at "dgo"
 refine r_d (fun h2=>?_) (fun h2=>?_)
 ·walk_at "dgo"
  exact fin_same (q false ⟨fun z=>(by cases z),fun z=>by have:=z.2.1; omega⟩)
 have bk : Bd 301 (h - F.f):=Bd.sub bh ok.f
 have cm1 : zak F.g (h - F.f):=.inl ⟨ok.b.bg.mono (by decide),bk.mono (by decide)⟩
 have cm2 : zak F.s (h - F.f):=.inl ⟨ok.b.bs.mono (by decide),bk.mono (by decide)⟩
 have p1 : Bd 501 (F.g * (h - F.f)):=Bd.mul ok.b.bg bk
 have p2' : Bd 501 (F.s * (h - F.f)):=Bd.mul ok.b.bs bk
 have ad : ∀ {x y : Int},Bd 600 x→Bd 501 y→Bd 700 (x + y):=fun hx hy=>(Bd.add (n:=600) hx (hy.mono (by decide))).mono (by decide)
 walk_at "dgo"
 refine ⟨_,_,_,_,a,b,rfl,by have:=ok.b.x; omega,by have:=ok.b.z; omega,⟨ad ok.b.b0 p1,ad ok.b.b1 p1,ad ok.b.b2 p2',ad ok.b.b3 p2'⟩,⟨ba1.mono (by decide),ba2.mono (by decide)⟩,⟨bb1.mono (by decide),bb2.mono (by decide)⟩,fun r hr=>?_⟩
 refine fin_same (q r ?_)
 rw [hr]
 exact ⟨fun z=>⟨by omega,by omega,z⟩,fun z=>z.2.2⟩
theorem znc (b : Str × (Int × Int)) : D.tup (cutD [.str b.1,.int b.2.1,.int b.2.2] (some 1) none) = p2 b.2:=rfl
theorem zve (a b c d e f g : D) : cutD [a,b,c,d,e,f,g] none (some 4) = [a,b,c,d]:=rfl
def zcG : DSp:=fun ds S Q=>∃ (x y z : D) (V : Vl) (k j h : Int) (b c : Str × (Int × Int)),ds = [vlD x y z V,.int k,.int j,.int h]∧VlS S x y z V∧zdI V∧0 ≤ k∧0 ≤ j∧V.bs[k.toNat]? = some b∧V.bs[j.toNat]? = some c∧Bd 300 h∧∀ r : Bool,(r = true ↔ b.1 = c.1∨zkE V b.2 c.2 h)→Q (.bl r) S
def zee : DS :=
    (zH (zN (dSl zhV (zj 0) none (some (dC (.int 4)))) (zc4 4 (zaq (zE 4) (zaq (zE 5) (zaq (zE 6) (zaq (zE 7) zc0))))))
 (zH (sIf (dT (dOp oEq (zj 1) (zj 2))) (z9 (dC (.bl true))) zac)
 (zH (zN (dSl zhV (dOp oIx (zj 5) (zj 1)) (some (dC (.int 1))) none) (zE 8))
 (zH (zN (dSl zhV (dOp oIx (zj 5) (zj 2)) (some (dC (.int 1))) none) (zE 9))
 (zH (sIf (zeb (dT (dCall zcb (zf (zj 4) (zf (zj 8) (zf (zj 9) zA)))))) (z9 (dC (.bl false))) zac)
 (zH (zN (dOp zai (dOp zao (dOp zae (dOp oIx (zj 8) (dC (.int 0))) (dOp oIx (zj 9) (dC (.int 0)))) (dOp zae (dOp oIx (zj 8) (dC (.int 0))) (dOp oIx (zj 9) (dC (.int 0))))) (dOp zao (dOp zae (dOp oIx (zj 8) (dC (.int 1))) (dOp oIx (zj 9) (dC (.int 1)))) (dOp zae (dOp oIx (zj 8) (dC (.int 1))) (dOp oIx (zj 9) (dC (.int 1)))))) (zE 10))
 (zH (sIf (zfj (dT (dOp zfW (zj 7) (dC .non))) (dT (dOp oGt (zj 10) (zj 7)))) (z9 (dC (.bl false))) zac)
 (z9 (dOp oEq (dB zaS (zf (dLC 1 [8,9,3] (zbi (zj 6)) (zE 0) (dT (dCall zb0 (zf (zj 0) (zf (zj 1) (zf (zj 2) (zf (zj 3) zA)))))) (zj 0)) zA)) (dC (.int 0)))))))))))
theorem zkB : ∀ ds So Q,zcG ds So Q→ds.length = 4:=by rintro ds So Q ⟨_,_,_,_,_,_,_,_,_,rfl,_⟩; rfl
theorem zk7 : BodyOk 11 zee zcG:=by
 rintro ds S Q ⟨x,y,z,V,k,j,h,b,c,rfl,⟨hx,hy,hz⟩,ok,k0,j0,hb,hc,bh,q⟩
 unfold zee
 walk_at "dgo"
 rw [zve]
 walk_at "dgo"
 refine r_d (fun e=>?_) (fun e=>?_)
 ·walk_at "dgo"
  refine fin_same (q true ⟨fun _=>.inl ?_,fun _=>rfl⟩)
  rw [e] at hb; rw [hb] at hc; cases hc; rfl
 have hne : b.1 ≠ c.1:=fun z=>e (by have:=(zuA ok hb hc).mp z; omega)
 have mb:=List.mem_of_getElem? hb
 have mc:=List.mem_of_getElem? hc
 have bb:=ok.bd b mb
 have bc:=ok.bd c mc
 have ab : atD (V.bs.map bcD) k = some (bcD b):=by
  have:=zdr (ds:=V.bs.map bcD) (i:=k.toNat) (by rw [List.getElem?_map,hb]; rfl)
  rwa [show ((k.toNat : Nat) : Int) = k by omega] at this
 have ac : atD (V.bs.map bcD) j = some (bcD c):=by
  have:=zdr (ds:=V.bs.map bcD) (i:=j.toNat) (by rw [List.getElem?_map,hc]; rfl)
  rwa [show ((j.toNat : Nat) : Int) = j by omega] at this
 walk_at "dgo"
 rw [znc,znc]
 walk_at "drho"
 refine ⟨x,V.cs,b.2,c.2,rfl,hx,ok.gr.bd,⟨bb.1.mono (by decide),bb.2.mono (by decide)⟩,⟨bc.1.mono (by decide),bc.2.mono (by decide)⟩,fun r hr=>?_⟩
 have c1 : Bd 8000 (b.2.1 - c.2.1):=(Bd.sub bb.1 bc.1).mono (by decide)
 have c2 : Bd 8000 (b.2.2 - c.2.2):=(Bd.sub bb.2 bc.2).mono (by decide)
 have m1 : zak (b.2.1 - c.2.1) (b.2.1 - c.2.1):=.inl ⟨c1,c1⟩
 have m2 : zak (b.2.2 - c.2.2) (b.2.2 - c.2.2):=.inl ⟨c2,c2⟩
 have esq : (b.2.1 - c.2.1) * (b.2.1 - c.2.1) + (b.2.2 - c.2.2) * (b.2.2 - c.2.2) = sqr b.2 c.2:=by unfold sqr; grind
 cases r with
 | false =>
  walk_at "dgo"
  refine fin_same (q false ⟨fun z=>(by cases z),fun z=>?_⟩)
  rcases z with z | z
  ·exact absurd z hne
  ·exact absurd (hr.mpr z.1.1) (by decide)
 | true =>
  have hin:=hr.mp rfl
  clear hr
  walk_at "dgo"
  rw [esq]
  cases hhz : hzy V.hz (sqr b.2 c.2) with
  | true =>
   obtain ⟨zz,hV,lt⟩ : ∃ zz,V.hz = some zz∧zz < sqr b.2 c.2:=by
    cases hV : V.hz with
    | none=>rw [hV] at hhz; cases hhz
    | some zz=>rw [hV] at hhz; exact ⟨zz,rfl,of_decide_eq_true hhz⟩
   rw [hV,zjc,show zf2 (D.int zz) = false from rfl]
   walk_at "dgo"
   rw [decide_eq_true lt]
   walk_at "dgo"
   refine fin_same (q false ⟨fun z=>(by cases z),fun z=>?_⟩)
   rcases z with z | z
   ·exact absurd z hne
   ·have:=z.1.2; rw [hhz] at this; cases this
  | false =>
   have hzF : V.hz = none∨∃ zz,V.hz = some zz∧¬ zz < sqr b.2 c.2:=by
    cases hV : V.hz with
    | none=>exact .inl rfl
    | some zz=>rw [hV] at hhz; exact .inr ⟨zz,rfl,of_decide_eq_false hhz⟩
   have f12:=ok.f12
   rcases hzF with hV | ⟨zz,hV,nlt⟩
   ·rw [hV,znr,show zf2 D.non = true from rfl]
    walk_at "dgo"
    refine zmH (fun i ys S'=>S' = S∧(ys = [] ↔ ∀ F ∈ V.fs.take i,¬ zcw F b.2.1 b.2.2 c.2.1 c.2.2 h)) ⟨rfl,by simp⟩ (fun i ys S' w=>w.1 ▸ hz) (by rw [List.length_map]; unfold big; omega) ?_ ?_
    ·rintro i d ys S' hd ⟨rfl,hys⟩
     obtain ⟨F,hF,rfl⟩:=zh9 hd
     walk_at "dgo"
     refine ⟨F,b.2,c.2,h,rfl,ok.fg F (List.mem_of_getElem? hF),bb,bc,bh,fun r hr=>?_⟩
     rw [zal hF]
     cases r with
     | true =>
      walk_at "dgo"
      refine ⟨rfl,⟨fun z=>absurd z (by simp),fun z=>absurd (hr.mp rfl) (z F (by simp))⟩⟩
     | false =>
      walk_at "dgo"
      refine ⟨rfl,hys.trans ⟨fun g G hG=>?_,fun g G hG=>g G (List.mem_append_left _ hG)⟩⟩
      rcases List.mem_append.mp hG with hG | hG
      ·exact g G hG
      ·have : G = F:=by simpa using hG
       subst this
       exact fun z=>absurd (hr.mpr z) (by decide)
    ·rintro ys S' ⟨rfl,hys⟩
     rw [List.length_map,List.take_length] at hys
     walk_at "dgo"
     refine zap rfl (q _ ?_)
     rw [decide_eq_true_eq]
     constructor
     ·intro z
      exact .inr ⟨⟨hin,hhz⟩,fun ⟨F,hF,hd⟩=>hys.mp (List.length_eq_zero_iff.mp (by omega)) F hF hd⟩
     ·rintro (z | z)
      ·exact absurd z hne
      ·have:=hys.mpr fun F hF hd=>z.2 ⟨F,hF,hd⟩
       rw [this]; rfl
   ·rw [hV,zjc,show zf2 (D.int zz) = false from rfl]
    walk_at "dgo"
    rw [decide_eq_false nlt]
    walk_at "dgo"
    refine zmH (fun i ys S'=>S' = S∧(ys = [] ↔ ∀ F ∈ V.fs.take i,¬ zcw F b.2.1 b.2.2 c.2.1 c.2.2 h)) ⟨rfl,by simp⟩ (fun i ys S' w=>w.1 ▸ hz) (by rw [List.length_map]; unfold big; omega) ?_ ?_
    ·rintro i d ys S' hd ⟨rfl,hys⟩
     obtain ⟨F,hF,rfl⟩:=zh9 hd
     walk_at "dgo"
     refine ⟨F,b.2,c.2,h,rfl,ok.fg F (List.mem_of_getElem? hF),bb,bc,bh,fun r hr=>?_⟩
     rw [zal hF]
     cases r with
     | true =>
      walk_at "dgo"
      refine ⟨rfl,⟨fun z=>absurd z (by simp),fun z=>absurd (hr.mp rfl) (z F (by simp))⟩⟩
     | false =>
      walk_at "dgo"
      refine ⟨rfl,hys.trans ⟨fun g G hG=>?_,fun g G hG=>g G (List.mem_append_left _ hG)⟩⟩
      rcases List.mem_append.mp hG with hG | hG
      ·exact g G hG
      ·have : G = F:=by simpa using hG
       subst this
       exact fun z=>absurd (hr.mpr z) (by decide)
    ·rintro ys S' ⟨rfl,hys⟩
     rw [List.length_map,List.take_length] at hys
     walk_at "dgo"
     refine zap rfl (q _ ?_)
     rw [decide_eq_true_eq]
     constructor
     ·intro z
      exact .inr ⟨⟨hin,hhz⟩,fun ⟨F,hF,hd⟩=>hys.mp (List.length_eq_zero_iff.mp (by omega)) F hF hd⟩
     ·rintro (z | z)
      ·exact absurd z hne
      ·have:=hys.mpr fun F hF hd=>z.2 ⟨F,hF,hd⟩
       rw [this]; rfl
theorem zn7 {S : Sto} {Q : DK} {x y : Str} (fx : fl 20 (.str x) = true) (fy : fl 20 (.str y) = true) (q : Q (.bl (decide (x = y))) S) : oEq (.str x) (.str y) S Q:=zrl fx fy (by
 by_cases h : x = y
 ·subst h; rw [decide_eq_true rfl]; exact beq_self_eq_true x
 ·rw [decide_eq_false h]; exact beq_eq_false_iff_ne.mpr h) q
def zcA : zeK:=fun ds S Q ex=>∃ (v : D) (V : Vl) (n : Str),ds = [v,.str n]∧VAt S v V∧zdI V∧fl 20 (.str n) = true∧((∀ b ∈ V.bs,b.1 ≠ n)→ex "NoBeacon" S)∧∀ s,(n,s) ∈ V.bs→Q (p2 s) S
def zeU (ex : XR) : DS :=
    (zH (zbJ (zbi (zcY "beacons" (zj 0))) (zE 2) (sIf (dT (dOp oEq (dOp oIx (zj 2) (dC (.int 0))) (zj 1))) (z9 (dTup (zf (dOp oIx (zj 2) (dC (.int 1))) (zf (dOp oIx (zj 2) (dC (.int 2))) zA)))) zac))
 (zgu ex "NoBeacon"))
theorem zk4 : ∀ ds So Q ex,zcA ds So Q ex→ds.length = 2:=by rintro ds So Q ex ⟨_,_,_,rfl,_⟩; rfl
theorem zmF : zeu 3 zeU zcA:=by
 rintro ds S Q ex ⟨v,V,n,rfl,hv,ok,hn,hx,q⟩
 unfold zeU
 obtain ⟨m,g,b',f,rfl,hm,hg,hb,_⟩:=hv
 walk_at "dgo"
 refine zaV (fun i ρ S'=>S' = S∧(∃ w,ρ = [some (.ref m),some (.str n),w])∧∀ b ∈ V.bs.take i,b.1 ≠ n) ⟨rfl,⟨none,rfl⟩,by simp⟩ (fun i ρ S' h=>h.1 ▸ Lst.here hb) ?_ ?_
 ·rintro i d ρ S' hd ⟨rfl,⟨w,rfl⟩,hno⟩
  obtain ⟨b,hbi,rfl⟩:=zkO hd
  have mb:=List.mem_of_getElem? hbi
  walk_at "dgo"
  refine zn7 (zix (ok.nm b mb) 20) hn ?_
  walk_at "dgo"
  refine r_d (fun h=>?_) (fun h=>?_)
  ·walk_at "dgo"
   exact fin_same (q b.2 (by rw [← h]; exact mb))
  ·walk_at "dgo"
   refine ⟨rfl,⟨_,rfl⟩,fun c hc=>?_⟩
   rw [zal hbi] at hc
   rcases List.mem_append.mp hc with hc | hc
   ·exact hno c hc
   ·have : c = b:=by simpa using hc
    subst this; exact h
 ·rintro ρ S' ⟨rfl,⟨w,rfl⟩,hno⟩
  rw [List.length_map,List.take_length] at hno
  walk_at "dgo"
  exact hx hno
def zaw : zeK:=fun ds S Q ex=>∃ (g : D) (cs : List (Int × Int)) (s : Int × Int),ds = [g,p2 s]∧GAt S g cs∧Grd cs∧Bd 180 s.1∧Bd 200 s.2∧(¬ zc6 cs s→ex "OffGround" S)∧(zc6 cs s→Q .non S)
def zba (ex : XR) : DS :=
  (sIf (zeb (dT (dCall zdg (zf (zj 0) (zf (zj 1) zA))))) (zgu ex "OffGround") zac)
theorem zeN : ∀ ds So Q ex,zaw ds So Q ex→ds.length = 2:=by rintro ds So Q ex ⟨_,_,_,rfl,_⟩; rfl
theorem zfc : zeu 2 zba zaw:=by
 rintro ds S Q ex ⟨g,cs,s,rfl,hg,gr,b1,b2,hx,q⟩
 unfold zba
 walk_at "dgo"
 refine ⟨g,cs,s,rfl,hg,gr,b1,b2,fun b hb=>?_⟩
 cases b with
 | true=>walk_at "dgo"; exact fin_same (q (hb.mp rfl))
 | false=>walk_at "dgo"; exact hx fun z=>(by have:=hb.mpr z; cases this)
def za5 : DSp:=fun ds S Q=>∃ (g : D) (cs : List (Int × Int)) (x y : Int),ds = [g,.int x,.int y]∧GAt S g cs∧cs.length ≤ 40∧New Q S ((nbK cs x y cs.length).map D.int)
def zbG : DS :=
    (zH (zN (dB zeR (zf (zj 1) (zf (zj 2) zA))) (zE 3))
 (zH (zN (dB zeg (zf (zj 1) (zf (zj 2) zA))) (zE 4))
 (z9 (dLC 2 [3,4] (zmQ (zf (zcY "corners" (zj 0)) zA)) (zc4 2 (zaq (zE 0) (zaq (zE 1) zc0))) (dT (zih oLt oLt (zj 2) (dOp oIx (zj 1) (dC (.int 0))) (zj 3))) (zj 0)))))
theorem zf9 : ∀ ds So Q,za5 ds So Q→ds.length = 3:=by rintro ds So Q ⟨_,_,_,_,rfl,_⟩; rfl
theorem zgq : BodyOk 5 zbG za5:=by
 rintro ds S Q ⟨g,cs,x,y,rfl,⟨n,l,rfl,hn,hl⟩,h40,q⟩
 unfold zbG
 walk_at "dgo"
 refine zvz (xs:=cs.map p2) (Lst.here hl) ?_
 refine ⟨by rw [zci,List.length_map]; unfold big; omega,fun i ys S'=>S' = S∧ys = (nbK cs x y i).map D.int,⟨rfl,rfl⟩,fun i ys S' ⟨e,_⟩=>e ▸ Lst.here hl,?_,?_⟩
 ·rintro i d ys S' hd ⟨rfl,rfl⟩
  obtain ⟨u,hu,rfl⟩:=ze4 hd
  obtain ⟨c,hc,rfl⟩:=zcL hu
  have e0 : ((0 + i : Nat) : Int) = (i : Int):=by omega
  have eg : cs.getD i (0,0) = c:=by rw [List.getD_eq_getElem?_getD,hc]; rfl
  rw [e0]
  walk_at "dgo"
  refine r_d (fun g1=>?_) (fun g1=>?_)
  ·walk_at "dgo"
   refine r_d (fun g2=>?_) (fun g2=>?_)
   ·walk_at "dgo"
    exact ⟨rfl,(zuL (by unfold nbP; rw [eg,decide_eq_true g1,decide_eq_true g2]; rfl)).symm⟩
   ·walk_at "dgo"
    exact ⟨rfl,by rw [zpG (by unfold nbP; rw [eg,decide_eq_false g2,Bool.and_false])]⟩
  ·walk_at "dgo"
   exact ⟨rfl,by rw [zpG (by unfold nbP; rw [eg,decide_eq_false g1,Bool.false_and])]⟩
 ·rintro ys S' ⟨rfl,rfl⟩
  rw [zci,List.length_map]
  exact fin_same q
def zdC : DSp:=fun ds S Q=>∃ (a b c : Int × Int),ds = [p2 a,p2 b,p2 c]∧zak (c.2 - a.2) (b.1 - a.1)∧zak (c.1 - a.1) (b.2 - a.2)∧Q (.int (sdI a b c)) S
def ze2 : DS :=
    (zH (zN (dOp zae (dOp oIx (zj 1) (dC (.int 0))) (dOp oIx (zj 0) (dC (.int 0)))) (zE 3))
 (zH (zN (dOp zae (dOp oIx (zj 1) (dC (.int 1))) (dOp oIx (zj 0) (dC (.int 1)))) (zE 4))
 (zH (zN (dOp zae (dOp zao (dOp zae (dOp oIx (zj 2) (dC (.int 1))) (dOp oIx (zj 0) (dC (.int 1)))) (zj 3)) (dOp zao (dOp zae (dOp oIx (zj 2) (dC (.int 0))) (dOp oIx (zj 0) (dC (.int 0)))) (zj 4))) (zE 5))
 (zH (sJ (sIf (dT (dOp oLt (zj 3) (dC (.int 0)))) (zN (dUn zcd (zj 5)) (zE 5)) zac))
 (zH (sIf (dT (dOp oGt (zj 5) (dC (.int 0)))) (z9 (dC (.int 1))) zac)
 (zH (sIf (dT (dOp oLt (zj 5) (dC (.int 0)))) (z9 (dUn zcd (dC (.int 1)))) zac)
 (z9 (dC (.int 0)))))))))
theorem zlr : ∀ ds So Q,zdC ds So Q→ds.length = 3:=by rintro ds So Q ⟨_,_,_,rfl,_⟩; rfl
theorem zmU : BodyOk 6 ze2 zdC:=by
 rintro ds S Q ⟨a,b,c,rfl,c1,c2,q⟩
 unfold ze2
 walk_at "dgo"
 unfold sdI at q
 have key : ∀ o : Int,o = (if b.1 - a.1 < 0 then -sdO a b c else sdO a b c)→(if 0 < o then Q (.int 1) S else if o < 0 then Q (.int (-1)) S else Q (.int 0) S):=fun o e=>by
  rw [← e] at q
  by_cases h : 0 < o
  ·rw [if_pos h] at q ⊢; exact q
  ·rw [if_neg h] at q ⊢
   by_cases h2 : o < 0
   ·rw [if_pos h2] at q ⊢; exact q
   ·rw [if_neg h2] at q ⊢; exact q
 refine r_J (fun ρ S'=>S' = S∧ρ = [some (p2 a),some (p2 b),some (p2 c),some (.int (b.1 - a.1)),some (.int (b.2 - a.2)),some (.int (if b.1 - a.1 < 0 then -sdO a b c else sdO a b c))]) ?_ ?_
 ·walk_at "dgo"
  refine r_d (fun g=>?_) (fun g=>?_)
  ·walk_at "dgo"
   exact ⟨rfl,by rw [if_pos g]; rfl⟩
  ·walk_at "dgo"
   exact ⟨rfl,by rw [if_neg g]; rfl⟩
 rintro ρ S' ⟨rfl,rfl⟩
 have k:=key _ rfl
 generalize (if b.1 - a.1 < 0 then -sdO a b c else sdO a b c) = o at k
 walk_at "dgo"
 refine r_d (fun g=>?_) (fun g=>?_)
 ·rw [if_pos g] at k
  walk_at "dgo"
  exact fin_same k
 ·rw [if_neg g] at k
  walk_at "dgo"
  refine r_d (fun g2=>?_) (fun g2=>?_)
  ·rw [if_pos g2] at k
   walk_at "dgo"
   exact fin_same k
  ·rw [if_neg g2] at k
   walk_at "dgo"
   exact fin_same k
def zd2 : zeK:=fun ds S Q ex=>∃ (g : D) (cs : List (Int × Int)) (a b : Int × Int),ds = [g,p2 a,p2 b]∧GAt S g cs∧Grd cs∧(Bd 180 a.1∧Bd 200 a.2)∧(Bd 180 b.1∧Bd 200 b.2)∧(¬ (zc6 cs a∧zc6 cs b)→ex "OffGround" S)∧(zc6 cs a→zc6 cs b→Q (zbQ (zc2 cs a b)) S)
def zfH (ex : XR) : DS :=
    (zH (zbe (zdz zaw ex (zf (zj 0) (zf (zj 1) zA))))
 (zH (zbe (zdz zaw ex (zf (zj 0) (zf (zj 2) zA))))
 (zH (zbJ (zbi (dCall za5 (zf (zj 0) (zf (dOp oIx (zj 1) (dC (.int 0))) (zf (dOp oIx (zj 2) (dC (.int 0))) zA))))) (zE 3) (sIf (dT (dOp oGt (dCall zdC (zf (zj 1) (zf (zj 2) (zf (dOp oIx (zcY "corners" (zj 0)) (zj 3)) zA)))) (dC (.int 0)))) (z9 (zj 3)) zac))
 (z9 (dC .non)))))
theorem zl2 : ∀ ds So Q ex,zd2 ds So Q ex→ds.length = 3:=by rintro ds So Q ex ⟨_,_,_,_,rfl,_⟩; rfl
theorem znj : zeu 4 zfH zd2:=by
 rintro ds S Q ex ⟨g,cs,a,b,rfl,hg,gr,ba,bb,hx,q⟩
 unfold zfH
 walk_at "dgo"
 refine ⟨g,cs,a,rfl,hg,gr,ba.1,ba.2,fun z=>hx fun y=>z y.1,fun za=>?_⟩
 walk_at "dgo"
 refine ⟨g,cs,b,rfl,hg,gr,bb.1,bb.2,fun z=>hx fun y=>z y.2,fun zb=>?_⟩
 have sa:=Std.of ba.1 ba.2 za
 have sb:=Std.of bb.1 bb.2 zb
 have q:=q za zb
 walk_at "dgo"
 refine ⟨g,cs,_,_,rfl,hg,gr.most,?_⟩
 have kl : ∀ k ∈ nbK cs a.1 b.1 cs.length,0 ≤ k∧k < cs.length:=fun k hk=>zrO hk
 unfold zc2 at q
 generalize nbK cs a.1 b.1 cs.length = ks at q kl
 unfold New
 walk_at "dgo"
 refine zaV (fun i ρ S'=>∃ w1,ρ = [some g,some (p2 a),some (p2 b),w1]∧S' = S ++ [.lst (ks.map D.int)]∧∀ x ∈ ks.take i,zhx cs a b x = false) ⟨none,rfl,rfl,by simp⟩ (fun i ρ S' ⟨w1,_,e,_⟩=>e ▸ Lst.at0) ?_ ?_
 ·rintro i d ρ S' hd ⟨w1,rfl,rfl,hn⟩
  obtain ⟨k,hk,rfl⟩:=zfq hd
  obtain ⟨k0,k1⟩:=kl k (List.mem_of_getElem? hk)
  obtain ⟨c,hc,ac⟩:=zfJ (cs:=cs) k0 k1
  have eg : cs.getD k.toNat (0,0) = c:=by rw [List.getD_eq_getElem?_getD,hc]; rfl
  obtain ⟨bc1,bc2⟩:=gr.bd c (List.mem_of_getElem? hc)
  obtain ⟨n,l,rfl,hgn,hgl⟩:=hg.old (T:=[.lst (ks.map D.int)])
  walk_at "dgo"
  refine ⟨a,b,c,rfl,.inl ⟨(Bd.sub (bc2.mono (by decide : (190 : Nat) ≤ 200)) sa.2.1).mono (by decide),(Bd.sub sb.1 sa.1).mono (by decide)⟩,.inl ⟨(Bd.sub (bc1.mono (by decide : (170 : Nat) ≤ 180)) sa.1).mono (by decide),(Bd.sub sb.2.1 sa.2.1).mono (by decide)⟩,?_⟩
  walk_at "dgo"
  refine r_d (fun g1=>?_) (fun g1=>?_)
  ·walk_at "dgo"
   rw [zlS hk hn (by unfold zhx; rw [eg]; exact decide_eq_true g1)] at q
   exact zap rfl q
  ·walk_at "dgo"
   refine ⟨_,rfl,rfl,fun x hx=>?_⟩
   rw [zal hk] at hx
   rcases List.mem_append.mp hx with hx | hx
   ·exact hn x hx
   ·have : x = k:=by simpa using hx
    subst this
    unfold zhx; rw [eg]; exact decide_eq_false g1
 ·rintro ρ S' ⟨w1,rfl,rfl,hn⟩
  rw [List.length_map,List.take_length] at hn
  rw [zrr hn] at q
  walk_at "dgo"
  exact zap rfl q
def zbb : DSp:=fun ds S Q=>∃ (a b : Int × Int),ds = [p2 a,p2 b]∧(Bd 180 a.1∧Bd 200 a.2)∧(Bd 180 b.1∧Bd 200 b.2)∧Q (.int (sqr a b)) S
def zbS : DS :=
    (zH (zN (dOp zae (dOp oIx (zj 1) (dC (.int 0))) (dOp oIx (zj 0) (dC (.int 0)))) (zE 2))
 (zH (zN (dOp zae (dOp oIx (zj 1) (dC (.int 1))) (dOp oIx (zj 0) (dC (.int 1)))) (zE 3))
 (z9 (dOp zai (dOp zao (zj 2) (zj 2)) (dOp zao (zj 3) (zj 3))))))
theorem zgG : ∀ ds So Q,zbb ds So Q→ds.length = 2:=by rintro ds So Q ⟨_,_,rfl,_⟩; rfl
theorem zhn : BodyOk 4 zbS zbb:=by
 rintro ds S Q ⟨a,b,rfl,⟨a1,a2⟩,⟨b1,b2⟩,q⟩
 unfold zbS
 have c1 : Bd 8000 (b.1 - a.1):=(Bd.sub b1 a1).mono (by decide)
 have c2 : Bd 8000 (b.2 - a.2):=(Bd.sub b2 a2).mono (by decide)
 have m1 : zak (b.1 - a.1) (b.1 - a.1):=.inl ⟨c1,c1⟩
 have m2 : zak (b.2 - a.2) (b.2 - a.2):=.inl ⟨c2,c2⟩
 walk_at "dgo"
 exact fin_same q
def zbn : DSp:=fun ds S Q=>∃ (v : D) (V : Vl) (a b : Int × Int),ds = [v,p2 a,p2 b]∧VAt S v V∧zdI V∧((Bd 180 a.1∧Bd 200 a.2)∧zc6 V.cs a)∧((Bd 180 b.1∧Bd 200 b.2)∧zc6 V.cs b)∧Q (zhb V a b) S
def zb8 : DS :=
    (zH (zN (zdz zd2 xF (zf (zcY "ground" (zj 0)) (zf (zj 1) (zf (zj 2) zA)))) (zE 3))
 (zH (sIf (dT (dOp zfW (zj 3) (dC .non))) (z9 (dTup (zf (dC (.str "ground")) (zf (zj 3) zA)))) zac)
 (zH (zN (dCall zbb (zf (zj 1) (zf (zj 2) zA))) (zE 4))
 (zH (sIf (zfj (dT (dOp zfW (zcY "haze" (zj 0)) (dC .non))) (dT (dOp oGt (zj 4) (zcY "haze" (zj 0))))) (z9 (dTup (zf (dC (.str "haze")) (zf (zj 4) zA)))) zac)
 (z9 (dC .non))))))
theorem zhp : ∀ ds So Q,zbn ds So Q→ds.length = 3:=by rintro ds So Q ⟨_,_,_,_,rfl,_⟩; rfl
theorem zhF : BodyOk 5 zb8 zbn:=by
 rintro ds S Q ⟨v,V,a,b,rfl,hv,ok,⟨ba,sa⟩,⟨bb,sb⟩,q⟩
 unfold zb8
 obtain ⟨n,g,bb',f,rfl,hn,hg,_,_⟩:=hv
 walk_at "dgo"
 refine ⟨_,V.cs,a,b,rfl,hg,ok.gr,ba,bb,fun no=>(no ⟨sa,sb⟩).elim,fun _ _=>?_⟩
 unfold zhb at q
 cases e : zc2 V.cs a b with
 | some k =>
  rw [e] at q
  unfold zbQ
  walk_at "dgo"
  exact fin_same q
 | none =>
  rw [e] at q
  unfold zbQ
  walk_at "dgo"
  refine ⟨a,b,rfl,ba,bb,?_⟩
  dsimp only at q
  have hn' : S[n]? = some (.ins "Valley" (vF (.ref g) (.ref bb') (.ref f) (zbQ V.hz) (.int V.h0) (.int V.h1) (.int V.dl))):=hn
  generalize sqr a b = sq at q
  generalize V.hz = hz at q hn'
  cases hz with
  | none =>
   have q2 : Q .non S:=q
   unfold zbQ at hn'
   walk_at "dgo"
   exact fin_same q2
  | some z =>
   have q2 : Q (if decide (z < sq) = true then .tup [.str "haze",.int sq] else .non) S:=q
   unfold zbQ at hn'
   walk_at "dgo"
   refine r_d (fun h=>?_) (fun h=>?_)
   ·rw [if_pos (decide_eq_true h)] at q2
    walk_at "dgo"
    exact fin_same q2
   ·rw [if_neg (by rw [decide_eq_false h]; decide)] at q2
    walk_at "dgo"
    exact fin_same q2
def zdG : DSp:=fun ds S Q=>∃ (F : Fg) (h : Int),ds = [fgD F,.int h]∧zak F.g h∧zak F.s h∧Q (.tup [.int (F.x0 + F.g * h),.int (F.x1 + F.g * h),.int (F.z0 + F.s * h),.int (F.z1 + F.s * h)]) S
def zgU : DS :=
    (zH (zN (dOp zao (dOp oIx (zj 0) (dC (.int 6))) (zj 1)) (zE 2))
 (zH (zN (dOp zao (dOp oIx (zj 0) (dC (.int 7))) (zj 1)) (zE 3))
 (z9 (dTup (zf (dOp zai (dOp oIx (zj 0) (dC (.int 0))) (zj 2)) (zf (dOp zai (dOp oIx (zj 0) (dC (.int 1))) (zj 2)) (zf (dOp zai (dOp oIx (zj 0) (dC (.int 2))) (zj 3)) (zf (dOp zai (dOp oIx (zj 0) (dC (.int 3))) (zj 3)) zA))))))))
theorem znF : ∀ ds So Q,zdG ds So Q→ds.length = 2:=by rintro ds So Q ⟨_,_,rfl,_⟩; rfl
theorem zpu : BodyOk 4 zgU zdG:=by
 rintro ds S Q ⟨F,h,rfl,c1,c2,q⟩
 unfold zgU
 walk_at "dgo"
 exact fin_same q
def zcz : DSp:=fun ds S Q=>∃ (L R B T x1 z1 x2 z2 : Int),ds = [.tup [.int L,.int R,.int B,.int T],.tup [.int x1,.int z1],.tup [.int x2,.int z2]]∧Bd 1000 L∧Bd 1000 R∧Bd 1000 B∧Bd 1000 T∧Bd 1000 x1∧Bd 1000 z1∧Bd 1000 x2∧Bd 1000 z2 ∧
 ∀ (ca cb : Cell) (mx mn : Int),mx ∈ acr L R B T x1 z1 x2 z2→(∀ a ∈ acr L R B T x1 z1 x2 z2,a ≤ mx)→mn ∈ acr L R B T x1 z1 x2 z2→(∀ a ∈ acr L R B T x1 z1 x2 z2,mn ≤ a)→Q (.ref (S.length + 2)) (S ++ [ca,cb,.lst ((six L R B T x1 z1 x2 z2 mx mn).map D.int)])
def zeZ : DS :=
    (zH (zN (dOp zae (dOp oIx (zj 2) (dC (.int 0))) (dOp oIx (zj 1) (dC (.int 0)))) (zE 3))
 (zH (zN (dOp zae (dOp oIx (zj 2) (dC (.int 1))) (dOp oIx (zj 1) (dC (.int 1)))) (zE 4))
 (zH (zN (zbo (zf (dTup (zf (dOp oIx (zj 0) (dC (.int 0))) (zf (dOp oIx (zj 0) (dC (.int 2))) zA))) (zf (dTup (zf (dOp oIx (zj 0) (dC (.int 0))) (zf (dOp oIx (zj 0) (dC (.int 3))) zA))) (zf (dTup (zf (dOp oIx (zj 0) (dC (.int 1))) (zf (dOp oIx (zj 0) (dC (.int 2))) zA))) (zf (dTup (zf (dOp oIx (zj 0) (dC (.int 1))) (zf (dOp oIx (zj 0) (dC (.int 3))) zA))) zA))))) (zE 5))
 (zH (zN (dLC 2 [3,4,1] (zbi (zj 5)) (zc4 2 (zaq (zE 0) (zaq (zE 1) zc0))) zb9 (dOp zae (dOp zao (zj 2) (dOp zae (zj 1) (dOp oIx (zj 4) (dC (.int 1))))) (dOp zao (zj 3) (dOp zae (zj 0) (dOp oIx (zj 4) (dC (.int 0))))))) (zE 6))
 (z9 (zbo (zf (dOp zae (dB zeg (zf (dOp oIx (zj 1) (dC (.int 0))) (zf (dOp oIx (zj 2) (dC (.int 0))) zA))) (dOp oIx (zj 0) (dC (.int 0)))) (zf (dOp zae (dOp oIx (zj 0) (dC (.int 1))) (dB zeR (zf (dOp oIx (zj 1) (dC (.int 0))) (zf (dOp oIx (zj 2) (dC (.int 0))) zA)))) (zf (dOp zae (dB zeg (zf (dOp oIx (zj 1) (dC (.int 1))) (zf (dOp oIx (zj 2) (dC (.int 1))) zA))) (dOp oIx (zj 0) (dC (.int 2)))) (zf (dOp zae (dOp oIx (zj 0) (dC (.int 3))) (dB zeR (zf (dOp oIx (zj 1) (dC (.int 1))) (zf (dOp oIx (zj 2) (dC (.int 1))) zA)))) (zf (dB zmP (zf (zj 6) zA)) (zf (dUn zcd (dB zl1 (zf (zj 6) zA))) zA))))))))))))
theorem zln : ∀ ds So Q,zcz ds So Q→ds.length = 3:=by rintro ds So Q ⟨_,_,_,_,_,_,_,_,rfl,_⟩; rfl
theorem zmV : BodyOk 7 zeZ zcz:=by
 rintro ds S Q ⟨L,R,B,T,x1,z1,x2,z2,rfl,bL,bR,bB,bT,b1,b2,b3,b4,q⟩
 unfold zeZ
 walk_at "dgo"
 refine zbv (fun _=>true) (on2 fun c=>.int ((x2 - x1) * (c.2 - z1) - (z2 - z1) * (c.1 - x1))) (by walk_at "dlat") (Nat.le_of_ble_eq_true rfl) (fun i d ys hd hw=>?_) ?_
 ·obtain ⟨c,hc,rfl⟩:=zcL (cs:=[(L,B),(L,T),(R,B),(R,T)]) hd
  have hm:=List.mem_of_getElem? hc
  have hb : Bd 1000 c.1∧Bd 1000 c.2:=by
   simp only [List.mem_cons,List.not_mem_nil,or_false] at hm
   rcases hm with rfl | rfl | rfl | rfl
   ·exact ⟨bL,bB⟩
   ·exact ⟨bL,bT⟩
   ·exact ⟨bR,bB⟩
   ·exact ⟨bR,bT⟩
  have hb1:=hb.1
  have hb2:=hb.2
  have c1 : zak (x2 - x1) (c.2 - z1):=.inl ⟨(Bd.sub b3 b1).mono (by decide),(Bd.sub hb2 b2).mono (by decide)⟩
  have c2 : zak (z2 - z1) (c.1 - x1):=.inl ⟨(Bd.sub b4 b2).mono (by decide),(Bd.sub hb1 b1).mono (by decide)⟩
  walk_at "dgo"
  exact zcS hd hw rfl rfl
 rw [filter_true]
 show New _ _ ((acr L R B T x1 z1 x2 z2).map D.int)
 walk_at "dgo"
 refine zs8 (ns:=acr L R B T x1 z1 x2 z2) (by walk_at "dlat") (Nat.le_of_ble_eq_true rfl) fun mx m1 m2=>?_
 walk_at "dgo"
 refine zrT (ns:=acr L R B T x1 z1 x2 z2) (by walk_at "dlat") (Nat.le_of_ble_eq_true rfl) fun mn n1 n2=>?_
 walk_at "dgo"
 exact fin_same (q _ _ mx mn m1 m2 n1 n2)
def zc9 : DSp:=fun ds S Q=>∃ (x : D) (cs : List (Int × Int)),ds = [x]∧zd9 S x (cs.map p2)∧cs.length ≤ 4000∧(cs.filter lec).length < 64 ∧
 ∀ ms : List (Int × Int),zan ms→(∀ h,ms.any (inS h) = cs.any (inS h))→ms.length ≤ (cs.filter lec).length→Q (.tup (ms.map p2)) S
theorem zma {ss : List (Int × Int)} (srt : ss.Pairwise fun a b=>zhW b a = false) {i : Nat} {c d : Int × Int} (hc : ss[i]? = some c) (hd : d ∈ ss.take i) : d.1 ≤ c.1:=by
 obtain ⟨j,hj,e⟩:=List.mem_iff_getElem.mp hd
 rw [List.length_take] at hj
 rw [List.getElem_take] at e
 have hi:=zaL hc
 rw [List.getElem?_eq_getElem hi] at hc
 cases hc
 subst e
 exact zte (List.pairwise_iff_getElem.mp srt j i (by omega) hi (by omega))
theorem zf8 {ss : List (Int × Int)} {i : Nat} {c : Int × Int} (hc : ss[i]? = some c) (h : Int) : (ss.take (i + 1)).any (inS h) = ((ss.take i).any (inS h) || inS h c):=by
 rw [zal hc,List.any_append]; simp
theorem zpK {α : Type} {l : List α} (h : 0 < l.length) : ∃ i x,l = i ++ [x]:=by
 have : l ≠ []:=fun e=>by rw [e] at h; cases h
 exact ⟨l.dropLast,l.getLast this,(List.dropLast_concat_getLast this).symm⟩
def ziv : DS :=
    (zH (zN (zbo zA) (zE 1))
 (zH (zbJ (zbi (dB zlZ (zf (dLC 1 [] (zbi (zj 0)) (zE 0) (dT (dOp oLe (dOp oIx (zj 0) (dC (.int 0))) (dOp oIx (zj 0) (dC (.int 1))))) (dTup (zf (dOp oIx (zj 0) (dC (.int 0))) (zf (dOp oIx (zj 0) (dC (.int 1))) zA)))) zA))) (zc4 2 (zaq (zE 2) (zaq (zE 3) zc0))) (sIf (zfj (dT (dOp oGt (dB zaS (zf (zj 1) zA)) (dC (.int 0)))) (dT (dOp oLe (zj 2) (dOp zai (dOp oIx (dOp oIx (zj 1) (dUn zcd (dC (.int 1)))) (dC (.int 1))) (dC (.int 1)))))) (zN (dTup (zf (dOp oIx (dOp oIx (zj 1) (dUn zcd (dC (.int 1)))) (dC (.int 0))) (zf (dB zeg (zf (dOp oIx (dOp oIx (zj 1) (dUn zcd (dC (.int 1)))) (dC (.int 1))) (zf (zj 3) zA))) zA))) (ziX (zj 1) (dUn zcd (dC (.int 1))))) (zbe (dM zb4 (zj 1) (zf (dTup (zf (zj 2) (zf (zj 3) zA))) zA)))))
 (z9 (dB zkL (zf (zj 1) zA)))))
theorem zoZ : ∀ ds So Q,zc9 ds So Q→ds.length = 1:=by rintro ds So Q ⟨_,_,rfl,_⟩; rfl
theorem zqF : BodyOk 4 ziv zc9:=by
 rintro ds S Q ⟨x,cs,rfl,hx,hcl,hfl,q⟩
 unfold ziv
 walk_at "dgo"
 refine ztv (xs:=cs.map p2) hx.old fun ok hok=>?_
 refine zbv (zrM lec) (on2 p2) (by have:=hok []; rwa [List.append_nil] at this) ?_ (fun i d ys hd hw=>?_) ?_
 ·rw [List.length_map]; unfold big; omega
 ·obtain ⟨c,hc,rfl⟩:=zcL hd
  walk_at "dgo"
  refine r_d (fun g=>?_) (fun g=>?_)
  ·walk_at "dgo"
   exact zcS hd hw (decide_eq_true g) rfl
  ·walk_at "dgo"
   exact ztT hd hw (decide_eq_false g)
 rw [zoE,zrb]
 walk_at "dgo"
 refine zqb (cs:=cs.filter lec) (Lst.at rfl) hfl fun ss perm srt=>?_
 have hsl : ss.length = (cs.filter lec).length:=perm.length_eq
 have hsle : ∀ c ∈ ss,c.1 ≤ c.2:=fun c hc=>of_decide_eq_true (List.mem_filter.mp (perm.mem_iff.mp hc)).2
 walk_at "dgo"
 refine zaV (fun i ρ S'=>∃ (ms : List (Int × Int)) (w1 w2 : Option D),ρ = [some x,some (.ref S.length),w1,w2]∧S' = S ++ [.lst (ms.map p2),.lst ((cs.filter lec).map p2),.lst (ss.map p2)]∧zan ms∧ms.length ≤ i ∧
  (∀ h,ms.any (inS h) = (ss.take i).any (inS h))∧∀ m ∈ ms,∃ d ∈ ss.take i,m.1 = d.1)
  ⟨[],none,none,rfl,rfl,zan.nil,Nat.le_refl _,fun h=>rfl,by simp⟩ (fun i ρ S' ⟨ms,w1,w2,_,e,_⟩=>e ▸ Lst.at rfl) ?_ ?_
 ·rintro i d ρ S' hd ⟨ms,w1,w2,rfl,rfl,ok,hml,hany,hlow⟩
  obtain ⟨c,hc,rfl⟩:=zcL hd
  have hil:=zaL hc
  have hcle:=hsle c (List.mem_of_getElem? hc)
  have low : ∀ m ∈ ms,m.1 ≤ c.1:=fun m hm=>by
   obtain ⟨d,hd,e⟩:=hlow m hm
   rw [e]
   exact zma srt hc hd
  have hlow' : ∀ m,(∃ d ∈ ss.take i,m = d.1)→∃ d ∈ ss.take (i + 1),m = d.1:=fun m ⟨d,hd,e⟩=>⟨d,by rw [zal hc]; exact List.mem_append_left _ hd,e⟩
  have hnew : ∃ d ∈ ss.take (i + 1),c.1 = d.1:=⟨c,by rw [zal hc]; simp,rfl⟩
  have app : (∀ m ∈ ms,m.2 + 2 ≤ c.1)→∃ (ms' : List (Int × Int)) (w1 w2 : Option D),([some x,some (.ref S.length),some (.int c.1),some (.int c.2)] : Rho) = [some x,some (.ref S.length),w1,w2]∧S ++ [Cell.lst (ms.map p2 ++ [p2 c]),.lst ((cs.filter lec).map p2),.lst (ss.map p2)] = S ++ [.lst (ms'.map p2),.lst ((cs.filter lec).map p2),.lst (ss.map p2)]∧zan ms'∧ms'.length ≤ i + 1 ∧
    (∀ h,ms'.any (inS h) = (ss.take (i + 1)).any (inS h))∧∀ m ∈ ms',∃ d ∈ ss.take (i + 1),m.1 = d.1:=fun ap=>by
   refine ⟨ms ++ [c],_,_,rfl,by rw [List.map_append]; rfl,ok.snoc hcle ap,by rw [List.length_append]; exact Nat.succ_le_succ hml,fun h=>by rw [List.any_append,hany h,zf8 hc]; simp,fun y hy=>?_⟩
   rcases List.mem_append.mp hy with hy | hy
   ·exact hlow' _ (hlow y hy)
   ·have : y = c:=by simpa using hy
    subst this
    exact hnew
  walk_at "dgo"
  rw [List.length_map]
  refine r_d (fun h0=>?_) (fun h0=>?_)
  ·obtain ⟨ms0,m,rfl⟩:=zpK (l:=ms) (by omega)
   have hm1:=low m (by simp)
   have am : atD (List.map p2 (ms0 ++ [m])) (-1) = some (p2 m):=by rw [List.map_append]; exact zf1
   have im : ixD (List.map p2 (ms0 ++ [m])).length (-1) = some (ms0.map p2).length:=by rw [List.map_append]; exact zkA
   walk_at "dgo"
   refine r_d (fun h1=>?_) (fun h1=>?_)
   ·walk_at "dgo"
    refine zp0 zbw im ?_
    walk_at "dgo"
    obtain ⟨ok2,any2⟩:=zpr ok hcle hm1 h1
    refine ⟨ms0 ++ [(m.1,max m.2 c.2)],_,_,rfl,?_,ok2,by rw [List.length_append] at hml ⊢; exact Nat.le_succ_of_le hml,fun h=>by rw [any2 h,hany h,zf8 hc],fun y hy=>?_⟩
    ·rw [List.map_append,List.map_append,List.set_append_right _ _ (Nat.le_refl _),Nat.sub_self]; rfl
    ·rcases List.mem_append.mp hy with hy | hy
     ·exact hlow' _ (hlow y (List.mem_append_left _ hy))
     ·have : y = (m.1,max m.2 c.2):=by simpa using hy
      subst this
      exact hlow' _ (hlow m (by simp))
   ·walk_at "dgo"
    obtain ⟨ok0,hmle,hap⟩:=ok.init
    exact app fun y hy=>by
     rcases List.mem_append.mp hy with hy | hy
     ·have:=hap y hy
      omega
     ·have : y = m:=by simpa using hy
      subst this
      omega
  ·have em : ms = []:=List.length_eq_zero_iff.mp (by omega)
   walk_at "dgo"
   exact app (by rw [em]; simp)
 ·rintro ρ S' ⟨ms,w1,w2,rfl,rfl,ok,hml,hany,hlow⟩
  rw [List.length_map] at hml hany
  walk_at "dgo"
  exact zap (zeP ms) (q ms ok (fun h=>by rw [hany h,List.take_length,zo4 perm,show cs.filter lec = cs.filter (fun c=>decide (c.1 ≤ c.2)) from rfl,any_filter]) (by omega))
def zeF : DSp:=fun ds S Q=>∃ (F : Fg) (px pz qx qz : Int),ds = [fgD F,.tup [.int px,.int pz],.tup [.int qx,.int qz]]∧FgB F∧Bd 600 px∧Bd 600 pz∧Bd 600 qx∧Bd 600 qz∧∀ ms : List (Int × Int),zpJ ms F px pz qx qz→Q (.tup (ms.map p2)) S
def zhg : DS :=
    (zH (zN (dC (.int 0)) (zE 3))
 (zH (zN (dOp zae (dOp oIx (zj 0) (dC (.int 5))) (dOp oIx (zj 0) (dC (.int 4)))) (zE 4))
 (zH (zN (dCall zcz (zf (dCall zdG (zf (zj 0) (zf (dC (.int 0)) zA))) (zf (zj 1) (zf (zj 2) zA)))) (zE 5))
 (zH (zN (dCall zcz (zf (dCall zdG (zf (zj 0) (zf (dC (.int 1)) zA))) (zf (zj 1) (zf (zj 2) zA)))) (zE 6))
 (zH (zbJ (zoO (zf (zj 5) (zf (zj 6) zA))) (zc4 2 (zaq (zE 7) (zaq (zE 8) zc0))) (zH (zN (dOp zae (zj 8) (zj 7)) (zE 9))
 (sIf (dT (dOp oGt (zj 9) (dC (.int 0)))) (zN (dB zeg (zf (zj 3) (zf (dUn zcd (dOp oDiv (zj 7) (zj 9))) zA))) (zE 3)) (sIf (dT (dOp oLt (zj 9) (dC (.int 0)))) (zN (dB zeR (zf (zj 4) (zf (dOp oDiv (zj 7) (dUn zcd (zj 9))) zA))) (zE 4)) (sIf (dT (dOp oLt (zj 7) (dC (.int 0)))) (z9 (dTup zA)) zac)))))
 (z9 (dCall zc9 (zf (zbo (zf (dTup (zf (dOp zai (dOp oIx (zj 0) (dC (.int 4))) (zj 3)) (zf (dOp zai (dOp oIx (zj 0) (dC (.int 4))) (zj 4)) zA))) zA)) zA))))))))
theorem znu : ∀ ds So Q,zeF ds So Q→ds.length = 3:=by rintro ds So Q ⟨_,_,_,_,_,rfl,_⟩; rfl
theorem zot : BodyOk 10 zhg zeF:=by
  rintro ds S Q ⟨F,px,pz,qx,qz,rfl,B,bpx,bpz,bqx,bqz,q⟩
  unfold zhg
  have bmv : ∀ {x y c : Int},Bd 600 x→Bd 200 y→(c = 0∨c = 1)→Bd 700 (x + y * c):=fun {x y c} hx hy hc=>(Bd.add (n:=600) hx (by
    rcases hc with rfl | rfl
    · rw [Int.mul_zero]; exact Bd.lit (by decide) (by decide)
    · rw [Int.mul_one]; exact hy.mono (by decide))).mono (by decide)
  have cs : ∀ {y c : Int},(c = 0∨c = 1)→zak y c:=fun hc=>.inr (.inr (by rcases hc with rfl | rfl <;> decide))
  walk_at "dgo"
  refine ⟨F,0,rfl,cs (.inl rfl),cs (.inl rfl),?_⟩
  walk_at "dgo"
  refine ⟨_,_,_,_,px,pz,qx,qz,rfl,(bmv B.b0 B.bg (.inl rfl)).mono (by decide),(bmv B.b1 B.bg (.inl rfl)).mono (by decide),(bmv B.b2 B.bs (.inl rfl)).mono (by decide),(bmv B.b3 B.bs (.inl rfl)).mono (by decide),bpx.mono (by decide),bpz.mono (by decide),bqx.mono (by decide),bqz.mono (by decide),fun ca cb mx mn m1 m2 n1 n2=>?_⟩
  walk_at "dgo"
  refine ⟨F,1,rfl,cs (.inr rfl),cs (.inr rfl),?_⟩
  walk_at "dgo"
  refine ⟨_,_,_,_,px,pz,qx,qz,rfl,(bmv B.b0 B.bg (.inr rfl)).mono (by decide),(bmv B.b1 B.bg (.inr rfl)).mono (by decide),(bmv B.b2 B.bs (.inr rfl)).mono (by decide),(bmv B.b3 B.bs (.inr rfl)).mono (by decide),bpx.mono (by decide),bpz.mono (by decide),bqx.mono (by decide),bqz.mono (by decide),fun ca' cb' mx' mn' m1' m2' n1' n2'=>?_⟩
  have mm : ∀ k,_ ↔ _:=fun k=>zm7 (k:=k) m1 m2 n1 n2 m1' m2' n1' n2'
  have sb:=zm9 (bmv B.b0 B.bg (.inl rfl)) (bmv B.b1 B.bg (.inl rfl)) (bmv B.b2 B.bs (.inl rfl)) (bmv B.b3 B.bs (.inl rfl)) (bpx.mono (by decide)) (bpz.mono (by decide)) (bqx.mono (by decide)) (bqz.mono (by decide)) m1 n1
  have ab:=zm9 (bmv B.b0 B.bg (.inr rfl)) (bmv B.b1 B.bg (.inr rfl)) (bmv B.b2 B.bs (.inr rfl)) (bmv B.b3 B.bs (.inr rfl)) (bpx.mono (by decide)) (bpz.mono (by decide)) (bqx.mono (by decide)) (bqz.mono (by decide)) m1' n1'
  have l1 : (six (F.x0 + F.g * 0) (F.x1 + F.g * 0) (F.z0 + F.s * 0) (F.z1 + F.s * 0) px pz qx qz mx mn).length = 6:=rfl
  have l2 : (six (F.x0 + F.g * 1) (F.x1 + F.g * 1) (F.z0 + F.s * 1) (F.z1 + F.s * 1) px pz qx qz mx' mn').length = 6:=rfl
  generalize six (F.x0 + F.g * 0) (F.x1 + F.g * 0) (F.z0 + F.s * 0) (F.z1 + F.s * 0) px pz qx qz mx mn = A at *
  generalize six (F.x0 + F.g * 1) (F.x1 + F.g * 1) (F.z0 + F.s * 1) (F.z1 + F.s * 1) px pz qx qz mx' mn' = A' at *
  clear m1 m2 n1 n2 m1' m2' n1' n2'
  have kA : (S ++ [ca,cb,Cell.lst (A.map D.int)] ++ [ca',cb',Cell.lst (A'.map D.int)])[S.length + 2]? = some (.lst (A.map D.int)):=zdb ((zb2 _ _ _).trans rfl)
  have kA' : (S ++ [ca,cb,Cell.lst (A.map D.int)] ++ [ca',cb',Cell.lst (A'.map D.int)])[(S ++ [ca,cb,Cell.lst (A.map D.int)]).length + 2]? = some (.lst (A'.map D.int)):=(zb2 _ _ _).trans rfl
  have eS : S ++ [ca,cb,Cell.lst (A.map D.int)] ++ [ca',cb',Cell.lst (A'.map D.int)] = S ++ [ca,cb,Cell.lst (A.map D.int),ca',cb',Cell.lst (A'.map D.int)]:=by simp
  generalize (S ++ [ca,cb,Cell.lst (A.map D.int)]).length + 2 = na at *
  generalize S ++ [ca,cb,Cell.lst (A.map D.int)] ++ [ca',cb',Cell.lst (A'.map D.int)] = S1 at *
  walk_at "dgo"
  refine zvs (xs:=A.map D.int) (ys:=A'.map D.int) (Lst.here kA) (Lst.here kA') ?_
  refine zaV (fun i ρ S'=>S' = S1∧∃ (lo hi : Int) (w1 w2 w3 : Option D),ρ = [some (fgD F),some (.tup [.int px,.int pz]),some (.tup [.int qx,.int qz]),some (.int lo),some (.int hi),some (.ref (S.length + 2)),some (.ref na),w1,w2,w3] ∧
    ∀ k,(lo ≤ k∧k ≤ hi) ↔ (0 ≤ k∧k ≤ F.l - F.f∧∀ j,j < i→0 ≤ A.getD j 0 + k * (A'.getD j 0 - A.getD j 0))) ⟨rfl,0,F.l - F.f,none,none,none,rfl,fun k=>⟨fun h=>⟨h.1,h.2,fun j hj=>absurd hj (by omega)⟩,fun h=>⟨h.1,h.2.1⟩⟩⟩ (fun i ρ S' z=>z.1 ▸ ⟨Lst.here kA,Lst.here kA'⟩) ?_ ?_
  · rintro i d ρ S' hd ⟨rfl,lo,hi,w1,w2,w3,rfl,hk⟩
    obtain ⟨x,y,hx,hy,rfl⟩:=zfP hd
    obtain ⟨sv,hs,rfl⟩:=zfq hx
    obtain ⟨av,ha,rfl⟩:=zfq hy
    have es : A.getD i 0 = sv:=by rw [List.getD_eq_getElem?_getD,hs]; rfl
    have ea : A'.getD i 0 = av:=by rw [List.getD_eq_getElem?_getD,ha]; rfl
    have bsv:=sb sv (List.mem_of_getElem? hs)
    have bav:=ab av (List.mem_of_getElem? ha)
    have bst : Bd 1600 (av - sv):=(Bd.sub bav bsv).mono (by decide)
    have bst' : Bd 1600 (-(av - sv)):=bst.neg
    have next : ∀ {P : Int→Prop},(∀ k,P k ↔ 0 ≤ sv + k * (av - sv))→∀ k,((0 ≤ k∧k ≤ F.l - F.f∧∀ j,j < i→0 ≤ A.getD j 0 + k * (A'.getD j 0 - A.getD j 0))∧P k) ↔ (0 ≤ k∧k ≤ F.l - F.f∧∀ j,j < i + 1→0 ≤ A.getD j 0 + k * (A'.getD j 0 - A.getD j 0)):=fun {P} hP k=>by
      constructor
      · rintro ⟨⟨c1,c2,c3⟩,c4⟩
        refine ⟨c1,c2,fun j hj=>?_⟩
        rcases Nat.lt_or_ge j i with h | h
        · exact c3 j h
        · have : j = i:=by omega
          subst this
          rw [es,ea]
          exact (hP k).mp c4
      · rintro ⟨c1,c2,c3⟩
        refine ⟨⟨c1,c2,fun j hj=>c3 j (by omega)⟩,(hP k).mpr ?_⟩
        have:=c3 i (by omega)
        rw [es,ea] at this
        exact this
    walk_at "dgo"
    refine r_d (fun g1=>?_) (fun g1=>?_)
    · walk_at "dgo"
      refine ⟨rfl,_,_,_,_,_,rfl,fun k=>?_⟩
      rw [← next (fun k=>zqk (S:=sv) (T:=av - sv) (k:=k) (by omega)) k,← hk k]
      omega
    · walk_at "dgo"
      refine r_d (fun g2=>?_) (fun g2=>?_)
      · walk_at "dgo"
        refine ⟨rfl,_,_,_,_,_,rfl,fun k=>?_⟩
        rw [← next (fun k=>znR (S:=sv) (T:=av - sv) (k:=k) (by omega)) k,← hk k]
        omega
      · have e0 : av - sv = 0:=by omega
        have flat : ∀ k,(0 ≤ sv) ↔ 0 ≤ sv + k * (av - sv):=fun k=>by rw [e0,Int.mul_zero,Int.add_zero]
        walk_at "dgo"
        refine r_d (fun g3=>?_) (fun g3=>?_)
        · walk_at "dgo"
          rw [eS]
          refine zap (zeP []) (q [] ⟨zan.nil,by decide,fun h=>⟨fun z=>absurd z (by simp),fun z=>?_⟩⟩)
          have:=(mm (h - F.f)).mpr ((zi3 (by have:=B.x; omega) (by have:=B.z; omega)).mpr z.2.2) i (by have:=zaL hs; omega)
          rw [es,ea,← flat] at this
          omega
        · walk_at "dgo"
          refine ⟨rfl,_,_,_,_,_,rfl,fun k=>?_⟩
          rw [← next flat k,← hk k]
          constructor
          · intro h; exact ⟨h,by omega⟩
          · intro h; exact h.1
  · rintro ρ S' ⟨rfl,lo,hi,w1,w2,w3,rfl,hk⟩
    rw [zdL,List.length_map,List.length_map,l1,l2] at hk
    walk_at "dgo"
    refine ⟨_,[(F.f + lo,F.f + hi)],rfl,.inr (by walk_at "dlat"),Nat.le_of_ble_eq_true rfl,?_,fun ms ok hany hml=>?_⟩
    · exact Nat.lt_of_le_of_lt (List.length_filter_le _ _) (Nat.le_of_ble_eq_true rfl)
    · rw [eS,List.append_assoc]
      exact zap (zeP ms) (q ms (zov B ok (Nat.le_trans hml (List.length_filter_le _ _)) hany fun k=>by rw [hk k]; exact and_congr_right fun _=>and_congr_right fun _=>mm k))
def zcp : DSp:=fun ds S Q=>∃ (x : D) (fs : List Fg) (px pz qx qz : Int),ds = [x,.tup [.int px,.int pz],.tup [.int qx,.int qz]]∧Lst S x (fs.map fgD)∧fs.length < 64∧(∀ F ∈ fs,FgB F)∧Bd 600 px∧Bd 600 pz∧Bd 600 qx∧Bd 600 qz ∧
 ∀ ms : List (Int × Int),zan ms→(∀ h,ms.any (inS h) = true ↔ ∃ F ∈ fs,zcw F px pz qx qz h)→ms.length ≤ fs.length→Q (.tup (ms.map p2)) S
def zdW : DS :=
    (zH (zN (zbo zA) (zE 3))
 (zH (zbJ (zbi (zj 0)) (zE 4) (zbe (dM zhX (zj 3) (zf (dCall zeF (zf (zj 4) (zf (zj 1) (zf (zj 2) zA)))) zA))))
 (z9 (dCall zc9 (zf (zj 3) zA)))))
theorem zjK : ∀ ds So Q,zcp ds So Q→ds.length = 3:=by rintro ds So Q ⟨_,_,_,_,_,_,rfl,_⟩; rfl
theorem zj4 : BodyOk 5 zdW zcp:=by
 rintro ds S Q ⟨x,fs,px,pz,qx,qz,rfl,hx,hl,hB,bpx,bpz,bqx,bqz,q⟩
 unfold zdW
 walk_at "dgo"
 refine zaV (fun i ρ S'=>∃ (cs : List (Int × Int)) (w : Option D),ρ = [some x,some (.tup [.int px,.int pz]),some (.tup [.int qx,.int qz]),some (.ref S.length),w]∧S' = S ++ [.lst (cs.map p2)]∧cs.length ≤ i∧∀ h,cs.any (inS h) = true ↔ ∃ F ∈ fs.take i,zcw F px pz qx qz h)
  ⟨[],none,rfl,rfl,Nat.le_refl _,fun h=>by simp⟩ (fun i ρ S' ⟨cs,w,_,e,_⟩=>e ▸ hx.old) ?_ ?_
 ·rintro i d ρ S' hd ⟨cs,w,rfl,rfl,hc,hh⟩
  obtain ⟨F,hF,rfl⟩:=zh9 hd
  have hi:=zaL hF
  walk_at "dgo"
  refine ⟨F,px,pz,qx,qz,rfl,hB F (List.mem_of_getElem? hF),bpx,bpz,bqx,bqz,fun ms hm=>?_⟩
  obtain ⟨ok,hone,hat⟩:=hm
  walk_at "dgo"
  refine zn3 (n:=S.length) zbw (by rw [List.length_map,List.length_map]; unfold big; omega) ?_
  walk_at "dgo"
  refine ⟨cs ++ ms,_,rfl,by rw [List.map_append],by rw [List.length_append]; omega,fun h=>?_⟩
  rw [List.any_append,Bool.or_eq_true,hh,hat,zal hF]
  constructor
  ·rintro (⟨G,hG,g⟩ | g)
   ·exact ⟨G,List.mem_append_left _ hG,g⟩
   ·exact ⟨F,by simp,g⟩
  ·rintro ⟨G,hG,g⟩
   rcases List.mem_append.mp hG with hG | hG
   ·exact .inl ⟨G,hG,g⟩
   ·have : G = F:=by simpa using hG
    subst this
    exact .inr g
 ·rintro ρ S' ⟨cs,w,rfl,rfl,hc,hh⟩
  rw [List.length_map] at hc hh
  rw [List.take_length] at hh
  have hf:=List.length_filter_le lec cs
  walk_at "dgo"
  refine ⟨_,cs,rfl,.inr Lst.at0,by omega,by omega,fun ms ok hany hml=>?_⟩
  exact zap (zeP ms) (q ms ok (fun h=>by rw [hany h]; exact hh h) (by omega))
def zfp : DSp:=fun ds S Q=>∃ (cs : List (Int × Int)) (lo hi : Int),ds = [.tup (cs.map p2),.int lo,.int hi]∧zan cs∧cs.length < 63 ∧
 ∀ ms : List (Int × Int),zan ms→(∀ h,lo ≤ h→h ≤ hi→ms.any (inS h) = !(cs.any (inS h)))→ms.length ≤ cs.length + 1→Q (.tup (ms.map p2)) S
def zib : DS :=
    (zH (zN (zbo zA) (zE 3))
 (zH (zN (zj 1) (zE 4))
 (zH (zbJ (zbi (zj 0)) (zE 5) (zH (zbe (dM zb4 (zj 3) (zf (dTup (zf (zj 4) (zf (dOp zae (dOp oIx (zj 5) (dC (.int 0))) (dC (.int 1))) zA))) zA)))
 (zN (dOp zai (dOp oIx (zj 5) (dC (.int 1))) (dC (.int 1))) (zE 4))))
 (zH (zbe (dM zb4 (zj 3) (zf (dTup (zf (zj 4) (zf (zj 2) zA))) zA)))
 (z9 (dCall zc9 (zf (zj 3) zA)))))))
theorem zoR : ∀ ds So Q,zfp ds So Q→ds.length = 3:=by rintro ds So Q ⟨_,_,_,rfl,_⟩; rfl
theorem zrh : BodyOk 6 zib zfp:=by
  rintro ds S Q ⟨cs,lo,hi,rfl,ok,h31,q⟩
  unfold zib
  walk_at "dgo"
  refine zaV (fun i ρ S'=>∃ (w : Option D),ρ = [some (.tup (cs.map p2)),some (.int lo),some (.int hi),some (.ref S.length),some (.int (zax lo (cs.take i)).2),w]∧S' = S ++ [.lst ((zax lo (cs.take i)).1.map p2)]) ⟨none,rfl,rfl⟩ (fun _ _ _ _=>True.intro) ?_ ?_
  · rintro i d ρ S' hd ⟨w,rfl,rfl⟩
    obtain ⟨c,hc,rfl⟩:=zcL hd
    have hi':=zaL hc
    have hlim : (List.map p2 (zax lo (cs.take i)).1).length < big:=by
      rw [List.length_map,zd5,List.length_take]; unfold big; omega
    walk_at "dgo"
    refine ⟨some (p2 c),?_,?_⟩
    · rw [zal hc,zfF]; rfl
    · rw [zal hc,zfF,List.map_append]; rfl
  · rintro ρ S' ⟨w,rfl,rfl⟩
    rw [List.length_map,List.take_length]
    have hlim : (List.map p2 (zax lo cs).1).length < big:=by
      rw [List.length_map,zd5]; unfold big; omega
    have hf:=List.length_filter_le lec ((zax lo cs).1 ++ [((zax lo cs).2,hi)])
    rw [List.length_append,zd5] at hf
    have hf : ((((zax lo cs).1 ++ [((zax lo cs).2,hi)])).filter lec).length ≤ cs.length + 1:=hf
    walk_at "dgo"
    refine ⟨_,(zax lo cs).1 ++ [((zax lo cs).2,hi)],rfl,.inr (by rw [List.map_append]; exact Lst.at0),by rw [List.length_append,zd5]; show cs.length + 1 ≤ 4000; omega,by omega,fun ms okm hany hml=>?_⟩
    refine zap (zeP ms) (q ms okm (fun h h0 h1=>?_) (by omega))
    rw [hany h,Bool.eq_iff_iff,zkU h1 lo ok h0 (fun _ _ _=>trivial),← zaF]
    cases cs.any (inS h) <;> simp
def zfw : DSp:=fun ds S Q=>∃ (as bs : List (Int × Int)),ds = [.tup (as.map p2),.tup (bs.map p2)]∧zan as∧zan bs∧as.length + bs.length < 64 ∧
 ∀ ms : List (Int × Int),zan ms→(∀ h,ms.any (inS h) = (as.any (inS h) && bs.any (inS h)))→ms.length ≤ as.length + bs.length→Q (.tup (ms.map p2)) S
def zii : DS :=
    (zH (zN (zbo zA) (zE 2))
 (zH (zbJ (zbi (zj 0)) (zc4 2 (zaq (zE 3) (zaq (zE 4) zc0))) (zbJ (zbi (zj 1)) (zc4 2 (zaq (zE 5) (zaq (zE 6) zc0))) (zbe (dM zb4 (zj 2) (zf (dTup (zf (dB zeg (zf (zj 3) (zf (zj 5) zA))) (zf (dB zeR (zf (zj 4) (zf (zj 6) zA))) zA))) zA)))))
 (z9 (dCall zc9 (zf (zj 2) zA)))))
theorem zoF : ∀ ds So Q,zfw ds So Q→ds.length = 2:=by rintro ds So Q ⟨_,_,rfl,_⟩; rfl
theorem zro : BodyOk 7 zii zfw:=by
 rintro ds S Q ⟨as,bs,rfl,oka,okb,hlen,q⟩
 unfold zii
 have hmul : as.length * bs.length ≤ 3969:=Nat.le_trans (Nat.mul_le_mul (show as.length ≤ 63 by omega) (show bs.length ≤ 63 by omega)) (by decide)
 walk_at "dgo"
 refine zaV (fun i ρ S'=>∃ (w1 w2 w3 w4 : Option D),ρ = [some (.tup (as.map p2)),some (.tup (bs.map p2)),some (.ref S.length),w1,w2,w3,w4]∧S' = S ++ [.lst ((zaK (as.take i) bs).map p2)]) ⟨none,none,none,none,rfl,rfl⟩ (fun _ _ _ _=>True.intro) ?_ ?_
 ·rintro i d ρ S' hd ⟨w1,w2,w3,w4,rfl,rfl⟩
  obtain ⟨a,ha,rfl⟩:=zcL hd
  have hi:=zaL ha
  walk_at "dgo"
  refine zaV (fun j ρ S'=>∃ (w3 w4 : Option D),ρ = [some (.tup (as.map p2)),some (.tup (bs.map p2)),some (.ref S.length),some (.int a.1),some (.int a.2),w3,w4]∧S' = S ++ [.lst ((zaK (as.take i) bs ++ (bs.take j).map (za4 a)).map p2)]) ⟨w3,w4,rfl,by simp⟩ (fun _ _ _ _=>True.intro) ?_ ?_
  ·rintro j d ρ S' hd ⟨w3,w4,rfl,rfl⟩
   obtain ⟨b,hb,rfl⟩:=zcL hd
   have hj:=zaL hb
   have hlim : (List.map p2 (zaK (as.take i) bs ++ (bs.take j).map (za4 a))).length < big:=by
    rw [List.length_map,List.length_append,zh5,List.length_map,List.length_take,List.length_take]
    have : min i as.length * bs.length ≤ as.length * bs.length:=Nat.mul_le_mul (Nat.min_le_right _ _) (Nat.le_refl _)
    unfold big; omega
   walk_at "dgo"
   refine ⟨_,_,rfl,?_⟩
   have e : zaK (as.take i) bs ++ (bs.take (j + 1)).map (za4 a) = zaK (as.take i) bs ++ (bs.take j).map (za4 a) ++ [za4 a b]:=by
    rw [zal hb,List.map_append,← List.append_assoc]; rfl
   rw [e,List.map_append (l₂:=[za4 a b])]
   rfl
  ·rintro ρ S' ⟨w3,w4,rfl,rfl⟩
   refine ⟨_,_,_,_,rfl,?_⟩
   rw [List.length_map,List.take_length,zk5 ha]
 ·rintro ρ S' ⟨w1,w2,w3,w4,rfl,rfl⟩
  rw [List.length_map,List.take_length]
  have hf : ((zaK as bs).filter lec).length ≤ as.length + bs.length:=zjX oka okb
  walk_at "dgo"
  refine ⟨_,zaK as bs,rfl,.inr Lst.at0,by rw [zh5]; omega,by omega,fun ms ok hany hml=>?_⟩
  exact zap (zeP ms) (q ms ok (fun h=>by rw [hany h,zmB]) (by omega))
def zdw : DSp:=fun ds S Q=>∃ (as bs : List (Int × Int)),ds = [.tup (as.map p2),.tup (bs.map p2)]∧zan as∧zan bs∧as.length + bs.length < 63 ∧
 ∀ ms : List (Int × Int),zan ms→(∀ h,ms.any (inS h) = (as.any (inS h) && !(bs.any (inS h))))→ms.length ≤ as.length + bs.length + 1→Q (.tup (ms.map p2)) S
def zeT : DS :=
    (zH (sIf (dT (dOp oEq (dB zaS (zf (zj 0) zA)) (dC (.int 0)))) (z9 (dTup zA)) zac)
 (z9 (dCall zfw (zf (zj 0) (zf (dCall zfp (zf (zj 1) (zf (dOp oIx (dOp oIx (zj 0) (dC (.int 0))) (dC (.int 0))) (zf (dOp oIx (dOp oIx (zj 0) (dUn zcd (dC (.int 1)))) (dC (.int 1))) zA)))) zA)))))
theorem zla : ∀ ds So Q,zdw ds So Q→ds.length = 2:=by rintro ds So Q ⟨_,_,rfl,_⟩; rfl
theorem zmx : BodyOk 2 zeT zdw:=by
 rintro ds S Q ⟨as,bs,rfl,oka,okb,hlen,q⟩
 unfold zeT
 walk_at "dgo"
 rw [List.length_map]
 refine r_d (fun g=>?_) (fun g=>?_)
 ·have ea : as = []:=List.length_eq_zero_iff.mp (by omega)
  subst ea
  walk_at "dgo"
  exact fin_same (q [] zan.nil (fun h=>rfl) (by simp))
 ·obtain ⟨c,as',rfl⟩ : ∃ c as',as = c :: as':=by
   cases as with
   | nil=>exact absurd (by simp) g
   | cons c as'=>exact ⟨c,as',rfl⟩
  obtain ⟨ms0,m,em⟩:=zpK (l:=c :: as') (by simp)
  have a0 : atD (List.map p2 (c :: as')) 0 = some (p2 c):=zdr (i:=0) rfl
  have am : atD (List.map p2 (c :: as')) (-1) = some (p2 m):=by rw [em,List.map_append]; exact zf1
  walk_at "dgo"
  refine ⟨bs,c.1,m.2,rfl,okb,by omega,fun gs okg hg hgl=>?_⟩
  walk_at "dgo"
  refine ⟨c :: as',gs,rfl,oka,okg,by omega,fun ms ok hany hml=>?_⟩
  refine fin_same (q ms ok (fun h=>?_) (by omega))
  rw [hany h]
  cases hA : (c :: as').any (inS h) with
  | false=>rfl
  | true =>
   obtain ⟨x,hx,x1,x2⟩:=zaF.mp hA
   have lo : c.1 ≤ h:=by
    rcases List.mem_cons.mp hx with rfl | hx
    ·exact x1
    ·have:=(List.pairwise_cons.mp oka.ap).1 x hx
     have:=oka.le c (by simp)
     omega
   have hi : h ≤ m.2:=by
    rw [em] at hx oka
    obtain ⟨_,hm,hap⟩:=oka.init
    rcases List.mem_append.mp hx with hx | hx
    ·have:=hap x hx
     omega
    ·have : x = m:=by simpa using hx
     subst this
     exact x2
   rw [hg h lo hi]
def zeC : zeK:=fun ds S Q ex=>∃ (v : D) (V : Vl) (n m : Str),ds = [v,.str n,.str m]∧VAt S v V∧zdI V∧fl 20 (.str n) = true∧fl 20 (.str m) = true∧((∀ b ∈ V.bs,b.1 ≠ n)∨(∀ b ∈ V.bs,b.1 ≠ m)→ex "NoBeacon" S)∧∀ s t,(n,s) ∈ V.bs→(m,t) ∈ V.bs→∀ ms,zuN V n m s t ms→Q (.tup (ms.map p2)) S
def zhk (ex : XR) : DS :=
    (zH (zN (zdz zcA ex (zf (zj 0) (zf (zj 1) zA))) (zE 3))
 (zH (zN (zdz zcA ex (zf (zj 0) (zf (zj 2) zA))) (zE 4))
 (zH (zN (dTup (zf (dTup (zf (zcY "first" (zj 0)) (zf (zcY "last" (zj 0)) zA))) zA)) (zE 5))
 (zH (sIf (dT (dOp oEq (zj 1) (zj 2))) (z9 (zj 5)) zac)
 (zH (sIf (dT (dOp zfW (dCall zbn (zf (zj 0) (zf (zj 3) (zf (zj 4) zA)))) (dC .non))) (z9 (dTup zA)) zac)
 (z9 (dCall zdw (zf (zj 5) (zf (dCall zcp (zf (zcY "fogs" (zj 0)) (zf (zj 3) (zf (zj 4) zA)))) zA)))))))))
theorem znC : ∀ ds So Q ex,zeC ds So Q ex→ds.length = 3:=by rintro ds So Q ex ⟨_,_,_,_,rfl,_⟩; rfl
theorem zoT : zeu 6 zhk zeC:=by
  rintro ds S Q ex ⟨v,V,n,m,rfl,hv,ok,hn,hm,hx,q⟩
  unfold zhk
  walk_at "dgo"
  refine ⟨v,V,n,rfl,hv,ok,hn,fun no=>hx (.inl no),fun s hs=>?_⟩
  walk_at "dgo"
  refine ⟨v,V,m,rfl,hv,ok,hm,fun no=>hx (.inr no),fun t ht=>?_⟩
  have q':=q s t hs ht
  clear hx q
  have bs:=ok.bd _ hs
  have bt:=ok.bd _ ht
  have ss:=ok.st _ hs
  have st:=ok.st _ ht
  obtain ⟨a,g,b',f,rfl,ha,hg,hb,hf⟩:=id hv
  walk_at "dgo"
  refine zn7 hn hm ?_
  walk_at "dgo"
  have one : zan [(V.h0,V.h1)]:=by
    refine ⟨fun c hc=>?_,List.pairwise_singleton _ _⟩
    have : c = (V.h0,V.h1):=by simpa using hc
    subst this; exact ok.hh
  refine r_d (fun h=>?_) (fun h=>?_)
  · walk_at "dgo"
    refine fin_same (q' [(V.h0,V.h1)] ⟨one,fun k=>?_,by show 1 ≤ 14; decide⟩)
    rw [zaF]
    constructor
    · rintro ⟨c,hc,h1,h2⟩
      have : c = (V.h0,V.h1):=by simpa using hc
      subst this
      exact ⟨h1,h2,.inl h⟩
    · rintro ⟨h1,h2,_⟩
      exact ⟨(V.h0,V.h1),by simp,h1,h2⟩
  walk_at "dgo"
  refine ⟨_,V,s,t,rfl,hv,ok,⟨bs,ss⟩,⟨bt,st⟩,?_⟩
  by_cases al : Alw V s t
  case neg =>
    have e : zf2 (zhb V s t) = false:=by
      cases h : zhb V s t with
      | non=>exact absurd (zjk.mp h) al
      | _=>rfl
    refine r_c (zp4 ?_)
    rw [e]
    walk_at "dgo"
    refine fin_same (q' [] ⟨zan.nil,fun k=>?_,by show 0 ≤ 14; decide⟩)
    constructor
    · intro z; simp at z
    · rintro ⟨_,_,z | z⟩
      · exact absurd z h
      · exact absurd z.1 al
  rw [zjk.mpr al]
  walk_at "dgo"
  have f12:=ok.f12
  refine ⟨_,V.fs,s.1,s.2,t.1,t.2,rfl,Lst.here hf,by omega,fun F hF=>(ok.fg F hF).b,bs.1.mono (by decide),bs.2.mono (by decide),bt.1.mono (by decide),bt.2.mono (by decide),fun fs fok fh fl=>?_⟩
  walk_at "dgo"
  refine ⟨[(V.h0,V.h1)],fs,rfl,one,fok,by show 1 + fs.length < 63; omega,fun ms mok mh ml=>?_⟩
  refine fin_same (q' ms ⟨mok,fun k=>?_,by have : ms.length ≤ 1 + fs.length + 1:=ml; omega⟩)
  rw [mh k,Bool.and_eq_true,zaF]
  have e : (!fs.any (inS k)) = true ↔ ¬ ∃ F ∈ V.fs,zcw F s.1 s.2 t.1 t.2 k:=by
    rw [← fh k]
    cases fs.any (inS k) <;> simp
  rw [e]
  constructor
  · rintro ⟨⟨c,hc,h1,h2⟩,h3⟩
    have : c = (V.h0,V.h1):=by simpa using hc
    subst this
    exact ⟨h1,h2,.inr ⟨al,h3⟩⟩
  · rintro ⟨h1,h2,z | z⟩
    · exact absurd z h
    · exact ⟨⟨(V.h0,V.h1),by simp,h1,h2⟩,z.2⟩
theorem zdI.haze {V : Vl} (ok : zdI V) {hz : Option Int} (h : ∀ z,hz = some z→0 ≤ z) : zdI ⟨V.cs,V.bs,[],hz,V.h0,V.h1,V.dl⟩ :=
 { gr:=ok.gr,b1:=ok.b1,b12:=ok.b12,nm:=ok.nm,nd:=ok.nd,st:=ok.st,bd:=ok.bd,f12:=by show 0 ≤ 12; decide,fg:=fun F hF=>absurd hF (by simp),hz:=h,hh:=ok.hh,b0:=ok.b0,bl:=ok.bl,dl:=ok.dl }
def zjO : DS :=
    (zH (zN (dCall zcN (zf (zj 0) (zf (dC (.int 5)) (zf (dC (.int 3)) (zf (dC (.int 20)) zA))))) (zE 1))
 (zH (zN (zj 1) (zc4 7 (zaq (zE 2) (zaq (zE 3) (zaq (zE 4) (zaq (zE 5) (zaq (zE 6) (zaq (zE 7) (zaq (zE 8) zc0)))))))))
 (zH (zN (dCall zck (zf (zj 0) (zf (dC (.int 0)) zA))) (zE 9))
 (zH (sJ (sIf (dT (dOp oGt (dCall zM (zf (zj 9) (zf (dC (.int 30)) (zf (dC (.int 3)) zA)))) (dC (.int 0)))) (zH (zN (dOp oIx (zj 3) (dCall zM (zf (zj 9) (zf (dC (.int 31)) (zf (dB zaS (zf (zj 3) zA)) zA))))) (zE 10))
 (zH (zN (dOp oIx (zj 3) (dCall zM (zf (zj 9) (zf (dC (.int 32)) (zf (dB zaS (zf (zj 3) zA)) zA))))) (zE 11))
 (zN (dB zeg (zf (dC (.int 0)) (zf (dB zeR (zf (dC (.int 100000000000000000000000000000000000000000000000000000000000)) (zf (dOp zae (dOp zai (dCall zbZ (zf (zj 10) (zf (zj 11) zA))) (dCall zM (zf (zj 9) (zf (dC (.int 33)) (zf (dC (.int 3)) zA))))) (dC (.int 1))) zA))) zA))) (zE 5)))) zac))
 (zH (zN (dTup (zf (zj 2) (zf (zj 3) (zf (zbo zA) (zf (zj 5) (zf (zj 6) (zf (zj 7) (zf (zj 8) zA)))))))) (zE 1))
 (zH (zN (dCall zb1 (zf (zj 1) zA)) (zE 12))
 (zH (zbJ (zdB (zf (dB zaS (zf (zj 3) zA)) zA)) (zE 13) (zbJ (zdB (zf (dB zaS (zf (zj 3) zA)) zA)) (zE 14) (zH (zN (dTup zA) (zE 15))
 (zH (sJ (sIf (dT (dCall zcG (zf (zj 1) (zf (zj 13) (zf (zj 14) (zf (zj 6) zA)))))) (zN (dTup (zf (dTup (zf (zj 6) (zf (zj 7) zA))) zA)) (zE 15)) zac))
 (zH (zN (zdz zeC xF (zf (zj 12) (zf (dOp oIx (dOp oIx (zj 3) (zj 13)) (dC (.int 0))) (zf (dOp oIx (dOp oIx (zj 3) (zj 14)) (dC (.int 0))) zA)))) (zE 16))
 (sIf (dOr (zeb (dT (dB zgM (zf (zj 16) (zf (dC (.ty "tuple")) zA))))) (dT (dOp oNe (zj 16) (zj 15)))) (z9 (dC (.bl false))) zac))))))
 (z9 (dC (.bl true))))))))))
theorem zs4 : BodyOk 17 zjO zeG:=by
 rintro ds S Q ⟨ns,rfl,⟨_,hg⟩,hl,q⟩
 unfold zjO
 walk_at "dgo"
 refine ⟨ns,5,3,20,rfl,hl,hg,by decide,by decide,by decide,by decide,by decide,by decide,fun T x y z V w hs=>?_⟩
 generalize S ++ T = S1 at hs
 obtain ⟨hx,hy,hz⟩:=id hs
 have ok:=w.ok
 have b1:=ok.b1
 have b12:=ok.b12
 walk_at "dgo"
 refine ⟨ns,0,rfl,hg,by decide,fun hd _=>?_⟩
 walk_at "dgo"
 walk_at "drho"
 refine r_J (fun ρ S'=>S' = S1∧∃ (hz : Option Int) (w1 w2 : Option D),(∀ z,hz = some z→0 ≤ z)∧ρ = [some (.rl (ns.map D.int)),some (vlD x y z V),some x,some y,some z,some (zbQ hz),some (.int V.h0),some (.int V.h1),some (.int V.dl),some (.int hd),w1,w2,none,none,none,none,none]) ?_ ?_
 ·walk_at "dgo"
  refine ⟨hd,_,_,rfl,by decide,by decide,by decide,fun m _ _ _=>?_⟩
  walk_at "dgo"
  refine r_d (fun _=>?_) (fun _=>?_)
  ·walk_at "dgo"
   rw [List.length_map]
   refine ⟨hd,_,_,rfl,by decide,by decide,by omega,fun i i0 i1 _=>?_⟩
   obtain ⟨b,hb,ab⟩:=zhe (bs:=V.bs) i0 i1
   walk_at "dgo"
   rw [List.length_map]
   refine ⟨hd,_,_,rfl,by decide,by decide,by omega,fun j j0 j1 _=>?_⟩
   obtain ⟨c,hc,ac⟩:=zhe (bs:=V.bs) j0 j1
   walk_at "dgo"
   refine ⟨b,c,rfl,ok.bd b (List.mem_of_getElem? hb),ok.bd c (List.mem_of_getElem? hc),?_⟩
   walk_at "dgo"
   refine ⟨hd,_,_,rfl,by decide,by decide,by decide,fun m' _ _ _=>?_⟩
   walk_at "dgo"
   exact ⟨rfl,some _,_,_,fun z h=>by cases h; omega,rfl⟩
  ·walk_at "dgo"
   exact ⟨rfl,V.hz,_,_,ok.hz,rfl⟩
 rintro ρ S' ⟨rfl,hz',w1,w2,hz0,rfl⟩
 walk_at "dgo"
 obtain ⟨W,hW⟩ : ∃ W : Vl,W = ⟨V.cs,V.bs,[],hz',V.h0,V.h1,V.dl⟩:=⟨_,rfl⟩
 have okW : zdI W:=hW ▸ ok.haze hz0
 have eb : W.bs = V.bs:=by rw [hW]
 have e0 : W.h0 = V.h0:=by rw [hW]
 have e1 : W.h1 = V.h1:=by rw [hW]
 have ef : W.fs = []:=by rw [hW]
 obtain ⟨S2,hS2⟩ : ∃ S2 : Sto,S2 = S' ++ [.lst []]:=⟨_,rfl⟩
 have sW : VlS S2 x y (.ref S'.length) W:=by rw [hW,hS2]; exact ⟨hx.old,hy.old,Lst.at0⟩
 have eW : D.tup [x,y,.ref S'.length,zbQ hz',.int V.h0,.int V.h1,.int V.dl] = vlD x y (.ref S'.length) W:=by rw [hW]
 rw [← hS2,eW]
 clear hS2 eW hW hx hy hz hs hz0
 refine ⟨x,y,_,W,rfl,sW,okW,fun T v hv=>?_⟩
 obtain ⟨S3,hS3⟩ : ∃ S3 : Sto,S3 = S2 ++ T:=⟨_,rfl⟩
 rw [← hS3] at hv ⊢
 have sW3 : VlS S3 x y (.ref S'.length) W:=hS3 ▸ sW.old
 clear hS3
 obtain ⟨hx,hy,hz⟩:=id sW3
 rw [eb] at hy
 walk_at "dgo"
 rw [List.length_map]
 refine ⟨_,rfl,by omega,by omega,?_⟩
 have bh : Bd 300 V.h0:=ok.b0.mono (by decide)
 generalize hzr : D.ref S'.length = zr at sW3
 refine zaV (fun i ρ S'=>S' = S3∧∃ w13 w14 w15 w16 : Option D,ρ = [some (.rl (ns.map D.int)),some (vlD x y zr W),some x,some y,some z,some (zbQ hz'),some (.int V.h0),some (.int V.h1),some (.int V.dl),some (.int hd),w1,w2,some v,w13,w14,w15,w16]) ⟨rfl,_,_,_,_,rfl⟩ (fun _ _ _ _=>True.intro) ?_ ?_
 ·rintro i d ρ S' hd' ⟨rfl,w13,w14,w15,w16,rfl⟩
  obtain ⟨hi,rfl⟩:=zcs hd'
  obtain ⟨b,hb,ab⟩:=zhe (bs:=V.bs) (k:=0 + (i : Int)) (by omega) (by omega)
  walk_at "dgo"
  rw [List.length_map]
  refine ⟨_,rfl,by omega,by omega,?_⟩
  refine zaV (fun j ρ S2=>S2 = S'∧∃ w14 w15 w16 : Option D,ρ = [some (.rl (ns.map D.int)),some (vlD x y zr W),some x,some y,some z,some (zbQ hz'),some (.int V.h0),some (.int V.h1),some (.int V.dl),some (.int hd),w1,w2,some v,some (.int (0 + (i : Int))),w14,w15,w16]) ⟨rfl,_,_,_,rfl⟩ (fun _ _ _ _=>True.intro) ?_ ?_
  ·rintro j d ρ S2 hd'' ⟨rfl,w14,w15,w16,rfl⟩
   obtain ⟨hj,rfl⟩:=zcs hd''
   obtain ⟨c,hc,ac⟩:=zhe (bs:=V.bs) (k:=0 + (j : Int)) (by omega) (by omega)
   walk_at "dgo"
   refine r_J (fun ρ S3=>S3 = S2∧∃ ms : List (Int × Int),(zan ms∧∀ h,ms.any (inS h) = true ↔ V.h0 ≤ h∧h ≤ V.h1∧(b.1 = c.1∨zkE W b.2 c.2 h))∧ρ = [some (.rl (ns.map D.int)),some (vlD x y zr W),some x,some y,some z,some (zbQ hz'),some (.int V.h0),some (.int V.h1),some (.int V.dl),some (.int hd),w1,w2,some v,some (.int (0 + (i : Int))),some (.int (0 + (j : Int))),some (.tup (ms.map p2)),w16]) ?_ ?_
   ·walk_at "dgo"
    refine ⟨x,y,zr,W,_,_,V.h0,b,c,rfl,sW3,okW,by omega,by omega,by rw [eb]; exact hb,by rw [eb]; exact hc,bh,fun r hr=>?_⟩
    have hh:=ok.hh
    have al : ∀ h,(b.1 = c.1∨zkE W b.2 c.2 h) ↔ r = true:=fun h=>by
     rw [hr]
     unfold zkE
     rw [ef]
     simp
    cases r with
    | true =>
     walk_at "dgo"
     refine ⟨rfl,[(V.h0,V.h1)],⟨⟨fun e he=>?_,List.pairwise_singleton _ _⟩,fun h=>?_⟩,rfl⟩
     ·have : e = (V.h0,V.h1):=by simpa using he
      subst this; exact hh
     ·rw [al h]
      simp [inS]
    | false =>
     walk_at "dgo"
     refine ⟨rfl,[],⟨zan.nil,fun h=>?_⟩,rfl⟩
     rw [al h]
     simp
   rintro ρ S3 ⟨rfl,ms,⟨mok,mh⟩,rfl⟩
   walk_at "dgo"
   have fb:=zix (ok.nm b (List.mem_of_getElem? hb)) 20
   have fc:=zix (ok.nm c (List.mem_of_getElem? hc)) 20
   have mb : b ∈ W.bs:=by rw [eb]; exact List.mem_of_getElem? hb
   have mc : c ∈ W.bs:=by rw [eb]; exact List.mem_of_getElem? hc
   refine ⟨v,W,b.1,c.1,rfl,hv,okW,fb,fc,fun no=>?_,fun s t hs ht ms' hms=>?_⟩
   ·rcases no with no | no
    ·exact no b mb rfl
    ·exact no c mc rfl
   have es : (b.1,s) = b:=znY okW hs mb rfl
   have et : (c.1,t) = c:=znY okW ht mc rfl
   have es2 : s = b.2:=by rw [← es]
   have et2 : t = c.2:=by rw [← et]
   subst es2 et2
   have e : ms' = ms:=zjd hms.ok mok fun h=>by rw [Bool.eq_iff_iff,hms.iff,mh,e0,e1]
   subst e
   walk_at "dgo"
   refine zru rfl ?_
   walk_at "dgo"
   exact ⟨rfl,_,_,_,rfl⟩
  ·rintro ρ S2 ⟨rfl,w14,w15,w16,rfl⟩
   exact ⟨rfl,_,_,_,_,rfl⟩
 ·rintro ρ S' ⟨rfl,w13,w14,w15,w16,rfl⟩
  walk_at "dgo"
  exact fin_same (q _)
end Dp
namespace Law
open PySem PySem.Spec PyProof.Rows L2 My Dp
def top (i : Nat) : Stmt:=PySem.Challenge.pw_beaconvale_k43_sights_over_ground.main.body.getD i (.Pass ⟨0,0,0,0⟩)
abbrev zhO : Stmt:=top 66
abbrev zgL : Stmt:=top 67
abbrev zgx : Stmt:=top 69
abbrev zec : Stmt:=top 70
abbrev zeL : Stmt:=top 68
abbrev zfl : Stmt:=top 74
abbrev zeB : Stmt:=top 71
abbrev zd8 : Stmt:=top 72
abbrev zgO : Stmt:=top 73
abbrev zfL : Stmt:=top 75
abbrev zeE : Stmt:=top 82
abbrev zbP : Stmt:=top 41
abbrev zbq : Stmt:=inClass (top 42) 0
abbrev zbV : Stmt:=top 55
abbrev zgQ : Stmt:=top 54
abbrev zce : Stmt:=top 56
abbrev zkX : Stmt:=top 35
abbrev ziO : Stmt:=top 43
abbrev zcZ : Stmt:=top 33
abbrev zfY : Stmt:=top 34
abbrev zfi : Stmt:=top 37
abbrev ze9 : Stmt:=top 44
abbrev zhR : Stmt:=top 45
abbrev zcB : Stmt:=top 57
abbrev zf5 : Stmt:=top 11
abbrev zhT : Stmt:=top 27
abbrev zcE : Stmt:=top 58
abbrev zcl : Stmt:=top 59
abbrev zbr : Stmt:=inClass (top 60) 0
abbrev zeJ : Stmt:=top 76
abbrev zfd : Stmt:=top 77
abbrev zfV : Stmt:=top 78
abbrev zfE : Stmt:=top 79
abbrev zeA : Stmt:=top 80
abbrev zfC : Stmt:=top 81
abbrev zgC : Stmt:=top 61
abbrev zbK : Stmt:=top 46
abbrev zcD : Stmt:=top 47
abbrev zgr : Stmt:=top 36
abbrev zhL : Stmt:=top 48
abbrev zc7 : Stmt:=top 62
abbrev zdo : Stmt:=top 63
abbrev zja : Stmt:=top 28
abbrev zgp : Stmt:=top 29
abbrev zk0 : Stmt:=top 13
abbrev zi1 : Stmt:=top 30
abbrev zfe : Stmt:=top 31
abbrev zk1 : Stmt:=top 15
abbrev zkS : Stmt:=top 14
abbrev zgJ : Stmt:=top 16
abbrev zi5 : Stmt:=top 64
abbrev zej : Stmt:=top 83
section
variable {P : Program} {w : World} {K : PySem.W.Frag} {mg : Str→Option Value} {base : Heap} {f : Addr} {fd : FuncData}
variable (m_len : mg "len" = none)
theorem zoj : zO ["script","k"] ["script","k"] (zJ zhO):=zW
include m_len in
theorem znV (F : Fun K "_law_at" "_law_at" zhO f fd) : zZ P w K mg base CX0 1 f fd ["script","k"] (upF K Dp.zck):=by
  refine zU (b:=Dp.zf6) F zoj Dp.zm1 Dp.zni (fun cdv A outer s H E hr=>?_)
  unfold Dp.zf6
  exact (zu (zV (zQ zaQ (zm 1) (zaj zas rfl m_len boot_len (zc (zm 0) zq))) (zB (zL (zy (zm 0) (zm 1) (fun _ _=>rfl)))) zP)
 (zB (zL zp)))
variable (G_law_at : Got P w K mg base 1 "_law_at" ["script","k"] (upF K Dp.zck))
theorem zdD : zO ["cell","k","size","prime","base","mixed"] ["cell","k","size"] (zJ zgL):=zW
theorem zmo (F : Fun K "_law_mix" "_law_mix" zgL f fd) : zZ P w K mg base CX0 1 f fd ["cell","k","size"] (upF K Dp.zM):=by
  refine zU (b:=Dp.zeQ) F zdD Dp.zll Dp.zmq (fun cdv A outer s H E hr=>?_)
  unfold Dp.zeQ
  exact (zu (zF (i:=3) zdD.nd rfl (Or.inl rfl) zp)
 (zu (zF (i:=4) zdD.nd rfl (Or.inl rfl) (zaf (zY (zY (zaT (zm 0) (zaZ 1000000000000000000000000000000000000000000000000000000000000 (by decide +kernel) ⟨by decide,by decide,by decide⟩)) (zaf zp (zm 1))) zp) zp))
 (zu (zF (i:=5) zdD.nd rfl (Or.inl rfl) (zaT (zaf (zm 4) (zm 4)) (zm 3)))
 (zu (zF (i:=5) zdD.nd rfl (Or.inl rfl) (zaT (zaf (zY (zm 5) (zaf zp (zY (zm 1) zp))) (zm 5)) (zm 3)))
 (zB (zL (zaT (zcK (zm 5) zp) (zm 2))))))))
variable (G_law_mix : Got P w K mg base 1 "_law_mix" ["cell","k","size"] (upF K Dp.zM))
theorem zl6 : zO ["cell","k","near","far"] ["cell","k","near","far"] (zJ zgx):=zW
include G_law_mix in
theorem zmc (F : Fun K "_law_far" "_law_far" zgx f fd) : zZ P w K mg base CX0 2 f fd ["cell","k","near","far"] (upF K Dp.zcy):=by
  refine zU (b:=Dp.zeW) F zl6 Dp.zlp Dp.zmA (fun cdv A outer s H E hr=>?_)
  unfold Dp.zeW
  exact (zu (zV (zaU (zm 3)) (zB (zL (zT (zaT (zaf (zaf (zm 0) (zaZ 1422907482840247632891030073750636927810831 (by decide +kernel) ⟨by decide,by decide,by decide⟩)) (zY (zm 1) zp)) (zaZ 100000000000000000000000000000000000000000000000000 (by decide +kernel) ⟨by decide,by decide,by decide⟩)) (zaf zp (zaZ 10000000000000000000000000000000000000000000000000 (by decide +kernel) ⟨by decide,by decide,by decide⟩))))) zP)
 (zB (zL (zG G_law_mix hr (by decide) rfl (zc (zm 0) (zc (zm 1) (zc (zm 2) zq)))))))
variable (G_law_far : Got P w K mg base 2 "_law_far" ["cell","k","near","far"] (upF K Dp.zcy))
variable (m_range : mg "range" = none)
theorem zaC : zO ["cell","count","far","corners","place","k","height","wide"] ["cell","count","far"] (zJ zec):=zW
include G_law_mix G_law_far m_range in
theorem ziH (F : Fun K "_law_corners" "_law_corners" zec f fd) : zZ P w K mg base CX0 3 f fd ["cell","count","far"] (upF K Dp.zbN):=by
  refine zU (b:=Dp.zcR) F zaC Dp.ziw Dp.ziP (fun cdv A outer s H E hr=>?_)
  unfold Dp.zcR
  exact (zu (zF (i:=3) zaC.nd rfl (Or.inl rfl) (zaP zq))
 (zu (zF (i:=4) zaC.nd rfl (Or.inl rfl) (zT (zG G_law_far hr (by decide) rfl (zc (zm 0) (zc zp (zc zp (zc (zm 2) zq))))) zp))
 (zu (zaE PassesOwn.never rfl (zdJ rfl m_range (zc (zm 1) zq)) (zaa (i:=5) zaC.nd rfl (Or.inl rfl)) (zu (zF (i:=6) zaC.nd rfl (Or.inl rfl) (zG G_law_mix hr (by decide) rfl (zc (zm 0) (zc (zY (zaf zp (zm 5)) zp) (zc zp zq)))))
 (zu (zdY (zV (zby (zdc (zaU (zm 2)) (zcm (zQ (zdS hr) (zaT (zm 5) zp) zp)))) (zB (zF (i:=6) zaC.nd rfl (Or.inl rfl) (zG G_law_far hr (by decide) rfl (zc (zm 0) (zc (zm 5) (zc zp (zc (zm 2) zq))))))) zP))
 (zu (zaB (zf3 PySem.F.slot_list_append PySem.F.type_list_append zbO (zm 3) (zc (zX (zc (zm 4) (zc (zm 6) zq))) zq)))
 (zu (zF (i:=7) zaC.nd rfl (Or.inl rfl) (zY zp (zG G_law_mix hr (by decide) rfl (zc (zm 0) (zc (zY (zaf zp (zm 5)) zp) (zc zp zq))))))
 (zu (zdY (zV (zby (zdc (zaU (zm 2)) (zcm (zQ (zdS hr) (zaT (zm 5) zp) zp)))) (zB (zF (i:=7) zaC.nd rfl (Or.inl rfl) (zY zp (zaT (zaf (zaf (zm 0) (zaZ 7928331467292760530673834318599741 (by decide +kernel) ⟨by decide,by decide,by decide⟩)) (zY (zm 5) zp)) (zaZ 1000000000000000000000000000000000000000000000000 (by decide +kernel) ⟨by decide,by decide,by decide⟩))))) zP))
 (zB (zF (i:=4) zaC.nd rfl (Or.inl rfl) (zY (zm 4) (zm 7))))))))))
 (zB (zL (zm 3))))))
variable (G_law_corners : Got P w K mg base 3 "_law_corners" ["cell","count","far"] (upF K Dp.zbN))
theorem zcQ : zO ["script","first","most","numbers","k","kept"] ["script","first","most"] (zJ zeL):=zW
include m_len m_range in
theorem zjH (F : Fun K "_law_folded" "_law_folded" zeL f fd) : zZ P w K mg base CX0 1 f fd ["script","first","most"] (upF K Dp.zb3):=by
  refine zU (b:=Dp.zds) F zcQ Dp.ziW Dp.zjt (fun cdv A outer s H E hr=>?_)
  unfold Dp.zds
  exact (zu (zF (i:=3) zcQ.nd rfl (Or.inl rfl) (zaP zq))
 (zu (zaE PassesOwn.never rfl (zlU rfl m_range (zc (zm 1) (zc (zaj zas rfl m_len boot_len (zc (zm 0) zq)) zq))) (zaa (i:=4) zcQ.nd rfl (Or.inl rfl)) (zB (zV (zQ zaQ (zaj zas rfl m_len boot_len (zc (zm 3) zq)) (zm 2)) (zB (zaB (zf3 PySem.F.slot_list_append PySem.F.type_list_append zbO (zm 3) (zc (zaT (zy (zm 0) (zm 4) (fun _ _=>rfl)) (zaZ 1000000000000000000000000000000000000000000000000000000000000 (by decide +kernel) ⟨by decide,by decide,by decide⟩)) zq)))) (zu (zF (i:=5) zcQ.nd rfl (Or.inl rfl) (zY (zaf (zy (zm 3) (zaT (zm 4) (zm 2)) (fun _ _=>rfl)) zp) (zaT (zy (zm 0) (zm 4) (fun _ _=>rfl)) (zaZ 1000000000000000000000000000000000000000000000000000000000000 (by decide +kernel) ⟨by decide,by decide,by decide⟩))))
 (zB (zg6 (zaT (zm 5) (zaZ 1000000000000000000000000000000000000000000000000000000000000 (by decide +kernel) ⟨by decide,by decide,by decide⟩)) (zlz (zm 3) (zaT (zm 4) (zm 2)))))))))
 (zB (zL (zm 3)))))
variable (G_law_folded : Got P w K mg base 1 "_law_folded" ["script","first","most"] (upF K Dp.zb3))
theorem zdv : zO ["cell","count","letters","head","tail"] ["cell","count"] (zJ zfl):=zW
include G_law_mix m_range in
theorem zkM (F : Fun K "_law_names" "_law_names" zfl f fd) : zZ P w K mg base CX0 2 f fd ["cell","count"] (upF K Dp.zcc):=by
  refine zU (b:=Dp.zdT) F zdv Dp.zjw Dp.zjZ (fun cdv A outer s H E hr=>?_)
  unfold Dp.zdT
  exact (zu (zF (i:=2) zdv.nd rfl (Or.inr rfl) zfs)
 (zu (zF (i:=3) zdv.nd rfl (Or.inr rfl) (zaf (zy (zm 2) (zG G_law_mix hr (by decide) rfl (zc (zm 0) (zc zp (zc zp zq)))) (fun _ _=>rfl)) (zG G_law_mix hr (by decide) rfl (zc (zm 0) (zc zp (zc zp zq))))))
 (zu (zF (i:=4) zdv.nd rfl (Or.inr rfl) (zaf (zy (zm 2) (zG G_law_mix hr (by decide) rfl (zc (zm 0) (zc zp (zc zp zq)))) (fun _ _=>rfl)) (zG G_law_mix hr (by decide) rfl (zc (zm 0) (zc zp (zc zp zq))))))
 (zB (zL (zct (own:=["k"]) (free:=["tail","head","letters","cell"]) (fv:=[4,3,2,0]) rfl rfl rfl (by decide +kernel) (by decide +kernel) ⟨rfl,rfl,rfl,rfl,True.intro⟩ ⟨rfl,rfl,rfl,rfl,rfl,rfl,rfl,rfl,rfl,rfl,rfl,rfl,True.intro⟩ (zdJ rfl m_range (zc (zm 1) zq)) ⟨(zam 0 (by decide)),fun _ _ _ _ _=>(zay (i:=0) (show List.Nodup (["k","tail","head","letters","cell"] : List Str) by decide +kernel) rfl (Or.inl rfl) (Or.inr rfl))⟩ (fun _ _ _ _ _=>zbs) (fun _ _ _ _ _=>(zY (zY (zm 2) (zy (zm 3) (zaT (zY (zG G_law_mix hr (by decide) rfl (zc (zm 4) (zc zp (zc zp zq)))) (zaf zp (zm 0))) zp) (fun _ _=>rfl))) (zm 1)))))))))
variable (G_law_names : Got P w K mg base 2 "_law_names" ["cell","count"] (upF K Dp.zcc))
theorem zcT : zO ["corners","place","k","one","other","fall"] ["corners","place"] (zJ zeB):=zW
include m_len m_range in
theorem zjI (F : Fun K "_law_height" "_law_height" zeB f fd) : zZ P w K mg base CX0 1 f fd ["corners","place"] (upF K Dp.zbX):=by
  refine zU (b:=Dp.zdu) F zcT Dp.ziB Dp.zjz (fun cdv A outer s H E hr=>?_)
  unfold Dp.zdu
  exact (zu (zaE PassesOwn.never rfl (zdJ rfl m_range (zc (zT (zaj zas rfl m_len boot_len (zc (zm 0) zq)) zp) zq)) (zaa (i:=2) zcT.nd rfl (Or.inl rfl)) (zu (zlP (i:=3) (j:=4) rfl zcT.nd rfl rfl (by decide) rfl rfl (zc (zy (zm 0) (zm 2) (fun _ _=>rfl)) (zc (zy (zm 0) (zY (zm 2) zp) (fun _ _=>rfl)) zq)) rfl)
 (zB (zV (zby (zdc (zQ zeV (zy (zm 3) zp (fun _ _=>rfl)) (zm 1)) (zcm (zQ zeV (zm 1) (zy (zm 4) zp (fun _ _=>rfl)))))) (zu (zF (i:=5) zcT.nd rfl (Or.inl rfl) (zaf (zT (zy (zm 3) zp (fun _ _=>rfl)) (zy (zm 4) zp (fun _ _=>rfl))) (zT (zm 1) (zy (zm 3) zp (fun _ _=>rfl)))))
 (zB (zL (zT (zy (zm 3) zp (fun _ _=>rfl)) (zcK (zm 5) (zT (zy (zm 4) zp (fun _ _=>rfl)) (zy (zm 3) zp (fun _ _=>rfl)))))))) zP))))
 (zB (zL zdA)))
variable (G_law_height : Got P w K mg base 1 "_law_height" ["corners","place"] (upF K Dp.zbX))
theorem zav : zO ["numbers","corners","names","beacons","wide","k","cell","place","tower"] ["numbers","corners","names"] (zJ zd8):=zW
include m_len G_law_mix m_range G_law_height in
theorem zi0 (F : Fun K "_law_beacons" "_law_beacons" zd8 f fd) : zZ P w K mg base CX0 2 f fd ["numbers","corners","names"] (upF K Dp.zbL):=by
  refine zU (b:=Dp.zcU) F zav Dp.ziy Dp.zi8 (fun cdv A outer s H E hr=>?_)
  unfold Dp.zcU
  exact (zu (zF (i:=3) zav.nd rfl (Or.inl rfl) (zaP zq))
 (zu (zF (i:=4) zav.nd rfl (Or.inl rfl) (zY (zT (zy (zy (zm 1) (zbm zp) (fun _ _=>rfl)) zp (fun _ _=>rfl)) (zy (zy (zm 1) zp (fun _ _=>rfl)) zp (fun _ _=>rfl))) zp))
 (zu (zaE PassesOwn.never rfl (zdJ rfl m_range (zc (zaj zas rfl m_len boot_len (zc (zm 2) zq)) zq)) (zaa (i:=5) zav.nd rfl (Or.inl rfl)) (zu (zF (i:=6) zav.nd rfl (Or.inl rfl) (zy (zm 0) (zm 5) (fun _ _=>rfl)))
 (zu (zF (i:=7) zav.nd rfl (Or.inl rfl) (zY (zy (zy (zm 1) zp (fun _ _=>rfl)) zp (fun _ _=>rfl)) (zG G_law_mix hr (by decide) rfl (zc (zm 6) (zc zp (zc (zm 4) zq))))))
 (zu (zdY (zV (zQ zbE (zm 4) (zaZ 100000000000000000000 (by decide +kernel) ⟨by decide,by decide,by decide⟩)) (zB (zF (i:=7) zav.nd rfl (Or.inl rfl) (zY (zy (zy (zm 1) zp (fun _ _=>rfl)) zp (fun _ _=>rfl)) (zaT (zm 6) (zm 4))))) zP))
 (zu (zdY (zV (zQ (zdS hr) (zG G_law_mix hr (by decide) rfl (zc (zm 6) (zc zp (zc zp zq)))) zp) (zB (zF (i:=7) zav.nd rfl (Or.inl rfl) (zy (zy (zm 1) (zG G_law_mix hr (by decide) rfl (zc (zm 6) (zc zp (zc (zaj zas rfl m_len boot_len (zc (zm 1) zq)) zq)))) (fun _ _=>rfl)) zp (fun _ _=>rfl)))) zP))
 (zu (zF (i:=8) zav.nd rfl (Or.inl rfl) (zy (zaP (zc zp (zc (zG G_law_mix hr (by decide) rfl (zc (zm 6) (zc zp (zc zp zq)))) (zc (zG G_law_mix hr (by decide) rfl (zc (zm 6) (zc zp (zc zp zq)))) (zc (zaT (zm 6) (zaZ 10000000000000000000000000000000000000000 (by decide +kernel) ⟨by decide,by decide,by decide⟩)) zq))))) (zG G_law_mix hr (by decide) rfl (zc (zm 6) (zc zp (zc zp zq)))) (fun _ _=>rfl)))
 (zu (zdY (zV (zQ zaQ (zm 4) (zaZ 100000000000000000000 (by decide +kernel) ⟨by decide,by decide,by decide⟩)) (zB (zF (i:=8) zav.nd rfl (Or.inl rfl) (zaT (zm 8) zp))) zP))
 (zB (zaB (zf3 PySem.F.slot_list_append PySem.F.type_list_append zbO (zm 3) (zc (zX (zc (zy (zm 2) (zm 5) (fun _ _=>rfl)) (zc (zm 7) (zc (zY (zG G_law_height hr (by decide) rfl (zc (zm 1) (zc (zm 7) zq))) (zm 8)) zq)))) zq)))))))))))
 (zB (zL (zm 3))))))
variable (G_law_beacons : Got P w K mg base 2 "_law_beacons" ["numbers","corners","names"] (upF K Dp.zbL))
variable (m_abs : mg "abs" = none)
theorem za2 : zO ["cell","corners","beacons","first","last","one","other","left","low","begin","end","wide","drift","rise"] ["cell","corners","beacons","first","last"] (zJ zgO):=zW
include m_len G_law_mix m_abs in
theorem zmb (F : Fun K "_law_fog" "_law_fog" zgO f fd) : zZ P w K mg base CX0 2 f fd ["cell","corners","beacons","first","last"] (upF K Dp.zdp):=by
  refine zU (b:=Dp.zeS) F za2 Dp.zli Dp.zl3 (fun cdv A outer s H E hr=>?_)
  unfold Dp.zeS
  exact (zu (zF (i:=5) za2.nd rfl (Or.inl rfl) (zy (zm 2) (zG G_law_mix hr (by decide) rfl (zc (zm 0) (zc zp (zc (zaj zas rfl m_len boot_len (zc (zm 2) zq)) zq)))) (fun _ _=>rfl)))
 (zu (zF (i:=6) za2.nd rfl (Or.inl rfl) (zy (zm 2) (zG G_law_mix hr (by decide) rfl (zc (zm 0) (zc zp (zc (zaj zas rfl m_len boot_len (zc (zm 2) zq)) zq)))) (fun _ _=>rfl)))
 (zu (zF (i:=7) za2.nd rfl (Or.inl rfl) (zT (zY (zcK (zY (zy (zm 5) zp (fun _ _=>rfl)) (zy (zm 6) zp (fun _ _=>rfl))) zp) (zG G_law_mix hr (by decide) rfl (zc (zm 0) (zc zp (zc zp zq))))) zp))
 (zu (zF (i:=8) za2.nd rfl (Or.inl rfl) (zT (zY (zcK (zY (zy (zm 5) zp (fun _ _=>rfl)) (zy (zm 6) zp (fun _ _=>rfl))) zp) (zG G_law_mix hr (by decide) rfl (zc (zm 0) (zc zp (zc zp zq))))) zp))
 (zu (zF (i:=9) za2.nd rfl (Or.inl rfl) (zT (zY (zm 3) (zG G_law_mix hr (by decide) rfl (zc (zm 0) (zc zp (zc (zY (zT (zm 4) (zm 3)) zp) zq))))) zp))
 (zu (zF (i:=10) za2.nd rfl (Or.inl rfl) (zY (zm 9) (zy (zaP (zc (zG G_law_mix hr (by decide) rfl (zc (zm 0) (zc zp (zc zp zq)))) (zc (zG G_law_mix hr (by decide) rfl (zc (zm 0) (zc zp (zc zp zq)))) (zc zp zq)))) (zG G_law_mix hr (by decide) rfl (zc (zm 0) (zc zp (zc zp zq)))) (fun _ _=>rfl))))
 (zu (zF (i:=11) za2.nd rfl (Or.inl rfl) (zy (zaP (zc (zG G_law_mix hr (by decide) rfl (zc (zm 0) (zc zp (zc zp zq)))) (zc (zG G_law_mix hr (by decide) rfl (zc (zm 0) (zc zp (zc zp zq)))) (zc (zaj zkw rfl m_abs boot_abs (zc (zT (zy (zm 5) zp (fun _ _=>rfl)) (zy (zm 6) zp (fun _ _=>rfl))) zq)) zq)))) (zG G_law_mix hr (by decide) rfl (zc (zm 0) (zc zp (zc zp zq)))) (fun _ _=>rfl)))
 (zu (zF (i:=12) za2.nd rfl (Or.inl rfl) (zy (zaP (zc zp (zc (zT (zG G_law_mix hr (by decide) rfl (zc (zm 0) (zc zp (zc zp zq)))) zp) (zc (zcK (zaj zkw rfl m_abs boot_abs (zc (zT (zy (zm 5) zp (fun _ _=>rfl)) (zy (zm 6) zp (fun _ _=>rfl))) zq)) zp) zq)))) (zG G_law_mix hr (by decide) rfl (zc (zm 0) (zc zp (zc zp zq)))) (fun _ _=>rfl)))
 (zu (zF (i:=13) za2.nd rfl (Or.inl rfl) (zy (zaP (zc zp (zc zp (zc (zT (zG G_law_mix hr (by decide) rfl (zc (zm 0) (zc zp (zc zp zq)))) zp) zq)))) (zG G_law_mix hr (by decide) rfl (zc (zm 0) (zc zp (zc zp zq)))) (fun _ _=>rfl)))
 (zB (zL (zX (zc (zm 7) (zc (zY (zm 7) (zm 11)) (zc (zm 8) (zc (zY (zm 8) (zG G_law_mix hr (by decide) rfl (zc (zm 0) (zc zp (zc zp zq))))) (zc (zm 9) (zc (zm 10) (zc (zm 12) (zc (zm 13) zq))))))))))))))))))))
variable (G_law_fog : Got P w K mg base 2 "_law_fog" ["cell","corners","beacons","first","last"] (upF K Dp.zdp))
theorem zaG : zO ["script","most","fogs","hours","head","far","count","corners","numbers","beacons","first","last","mists","haze"] ["script","most","fogs","hours"] (zJ zfL):=zW
include m_len G_law_at G_law_mix m_range G_law_corners G_law_folded G_law_names G_law_beacons G_law_fog in
theorem zlg (F : Fun K "_law_vale" "_law_vale" zfL f fd) : zZ P w K mg base CX0 4 f fd ["script","most","fogs","hours"] (upF K Dp.zcN):=by
  refine zU (b:=Dp.zei) F zaG Dp.zj6 Dp.zls (fun cdv A outer s H E hr=>?_)
  unfold Dp.zei
  exact (zu (zF (i:=4) zaG.nd rfl (Or.inl rfl) (zG G_law_at hr (by decide) rfl (zc (zm 0) (zc zp zq))))
 (zu (zF (i:=5) zaG.nd rfl (Or.inl rfl) (zd7 (zdS hr) (zG G_law_mix hr (by decide) rfl (zc (zm 4) (zc zp (zc zp zq)))) zp))
 (zu (zF (i:=6) zaG.nd rfl (Or.inl rfl) (zY zp (zG G_law_mix hr (by decide) rfl (zc (zm 4) (zc zp (zc (zm 1) zq))))))
 (zu (zF (i:=7) zaG.nd rfl (Or.inr rfl) (zG G_law_corners hr (by decide) rfl (zc (zG G_law_at hr (by decide) rfl (zc (zm 0) (zc zp zq))) (zc (zY zp (zG G_law_mix hr (by decide) rfl (zc (zm 4) (zc zp (zc zp zq))))) (zc (zm 5) zq)))))
 (zu (zF (i:=8) zaG.nd rfl (Or.inl rfl) (zY (zG G_law_folded hr (by decide) rfl (zc (zm 0) (zc zp (zc (zY (zm 6) (zm 2)) zq)))) (zct (own:=["k"]) (free:=[]) (fv:=[]) rfl rfl rfl (by decide +kernel) (by decide +kernel) True.intro True.intro (zdJ rfl m_range (zc (zm 6) zq)) ⟨(zam 0 (by decide)),fun _ _ _ _ _=>(zay (i:=0) (show List.Nodup (["k"] : List Str) by decide +kernel) rfl (Or.inl rfl) (Or.inr rfl))⟩ (fun _ _ _ _ _=>zbs) (fun _ _ _ _ _=>zp))))
 (zu (zF (i:=9) zaG.nd rfl (Or.inr rfl) (zG G_law_beacons hr (by decide) rfl (zc (zm 8) (zc (zm 7) (zc (zG G_law_names hr (by decide) rfl (zc (zm 4) (zc (zm 6) zq))) zq)))))
 (zu (zF (i:=10) zaG.nd rfl (Or.inr rfl) (zy (zaP (zc (zT (zG G_law_mix hr (by decide) rfl (zc (zm 4) (zc zp (zc zp zq)))) zp) (zc (zaT (zm 4) (zaZ 100000000000000000000000000000000000000000000000000 (by decide +kernel) ⟨by decide,by decide,by decide⟩)) zq))) (zcK (zG G_law_mix hr (by decide) rfl (zc (zm 4) (zc zp (zc zp zq)))) zp) (fun _ _=>rfl)))
 (zu (zF (i:=11) zaG.nd rfl (Or.inr rfl) (zY (zm 10) (zG G_law_mix hr (by decide) rfl (zc (zm 4) (zc zp (zc (zm 3) zq))))))
 (zu (zkx (i:=12) zaG.nd rfl rfl (own:=["cell"]) (free:=["corners","beacons","first","last"]) (fv:=[7,9,10,11]) rfl rfl rfl (by decide +kernel) (by decide +kernel) ⟨rfl,rfl,rfl,rfl,True.intro⟩ ⟨rfl,rfl,rfl,rfl,rfl,rfl,rfl,rfl,rfl,rfl,rfl,rfl,True.intro⟩ (zaD (zjR (zm 8) (zfu (zm 6)) (zfu (zT (zaj zas rfl m_len boot_len (zc (zm 8) zq)) (zm 6))))) ⟨(zam 0 (by decide)),fun _ _ _ _ _=>(zay (i:=0) (show List.Nodup (["cell","corners","beacons","first","last"] : List Str) by decide +kernel) rfl (Or.inl rfl) (Or.inr rfl))⟩ (fun _ _ _ _ _=>zbs) (fun _ _ _ _ _=>(zG G_law_fog hr (by decide) rfl (zc (zm 0) (zc (zm 1) (zc (zm 2) (zc (zm 3) (zc (zm 4) zq))))))))
 (zu (zF (i:=13) zaG.nd rfl (Or.inl rfl) (zy (zaP (zc zdA (zc (zG G_law_mix hr (by decide) rfl (zc (zm 4) (zc zp (zc zp zq)))) (zc (zaZ 100000000000000000000000000000000000000000000000000000000000 (by decide +kernel) ⟨by decide,by decide,by decide⟩) zq)))) (zG G_law_mix hr (by decide) rfl (zc (zm 4) (zc zp (zc zp zq)))) (fun _ _=>rfl)))
 (zB (zL (zX (zc (zm 7) (zc (zm 9) (zc (zm 12) (zc (zm 13) (zc (zm 10) (zc (zm 11) (zc (zG G_law_mix hr (by decide) rfl (zc (zm 4) (zc zp (zc zp zq)))) zq))))))))))))))))))))
variable (G_law_vale : Got P w K mg base 4 "_law_vale" ["script","most","fogs","hours"] (upF K Dp.zcN))
theorem zjE : zO ["one","other"] ["one","other"] (zJ zeE):=zW
theorem zjB (F : Fun K "_law_square" "_law_square" zeE f fd) : zZ P w K mg base CX0 1 f fd ["one","other"] (upF K Dp.zbZ):=by
 refine zU (b:=Dp.zdk) F zjE Dp.ziM Dp.zjD (fun cdv A outer s H E hr=>?_)
 unfold Dp.zdk
 exact (zB (zL (zY (zaf (zT (zy (zm 0) zp (fun _ _=>rfl)) (zy (zm 1) zp (fun _ _=>rfl))) (zT (zy (zm 0) zp (fun _ _=>rfl)) (zy (zm 1) zp (fun _ _=>rfl)))) (zaf (zT (zy (zm 0) zp (fun _ _=>rfl)) (zy (zm 1) zp (fun _ _=>rfl))) (zT (zy (zm 0) zp (fun _ _=>rfl)) (zy (zm 1) zp (fun _ _=>rfl)))))))
variable (G_law_square : Got P w K mg base 1 "_law_square" ["one","other"] (upF K Dp.zbZ))
variable (k_LEAST_CORNERS : ∃ t,mg "LEAST_CORNERS" = some (.int 2 t))
variable (k_MOST_CORNERS : ∃ t,mg "MOST_CORNERS" = some (.int 40 t))
theorem zda : zO ["corners","k"] ["corners"] (zJ zbP):=zW
include m_len m_range k_LEAST_CORNERS k_MOST_CORNERS in
theorem zfr (F : Fun K "refuse_bad_corners" "refuse_bad_corners" zbP f fd) : zZ P w K mg base CX0 1 f fd ["corners"] (upF K Dp.zaN):=by
  refine zU (b:=Dp.zbh) F zda Dp.zff Dp.zfB (fun cdv A outer s H E hr=>?_)
  unfold Dp.zbh
  exact (zu (zV (zby (zfv (zQ zaQ (zaj zas rfl m_len boot_len (zc (zm 0) zq)) (zag rfl k_LEAST_CORNERS)) (zen (zQ zbE (zaj zas rfl m_len boot_len (zc (zm 0) zq)) (zag rfl k_MOST_CORNERS))))) (zB za6) zP)
 (zB (zaE PassesOwn.never rfl (zlU rfl m_range (zc zp (zc (zaj zas rfl m_len boot_len (zc (zm 0) zq)) zq))) (zaa (i:=1) zda.nd rfl (Or.inl rfl)) (zB (zV (zQ zeV (zy (zy (zm 0) (zm 1) (fun _ _=>rfl)) zp (fun _ _=>rfl)) (zy (zy (zm 0) (zT (zm 1) zp) (fun _ _=>rfl)) zp (fun _ _=>rfl))) (zB za6) zP)))))
variable (G_refuse_bad_corners : Got P w K mg base 1 "refuse_bad_corners" ["corners"] (upF K Dp.zaN))
variable (na_Ground_corners : ∀ C,PySem.W.nsIn K mainGlobals "Ground" = some (some (.ref C))→zar K C "corners")
variable (m_list : mg "list" = none)
theorem zi7 : zO ["self","corners"] ["self","corners"] (zJ zbq):=zW
include G_refuse_bad_corners na_Ground_corners m_list in
theorem ziS (F : Fun K "__init__" "Ground.__init__" zbq f fd) : zZ P w K mg base CX0 2 f fd ["self","corners"] (upF K Dp.zcv):=by
  refine zU (b:=Dp.zbu) F zi7 Dp.zh6 Dp.ziR (fun cdv A outer s H E hr=>?_)
  unfold Dp.zbu
  exact (zu (zaB (zG G_refuse_bad_corners hr (by decide) rfl (zc (zm 1) zq)))
 (zB (zdf na_Ground_corners (zm 0) (zeY zeo rfl m_list boot_list (zc (zm 1) zq)))))
variable (G_Ground : ziD P w K mg base 2 "Ground" (upF K Dp.ze3))
variable (k_MOST_BEACONS : ∃ t,mg "MOST_BEACONS" = some (.int 12 t))
variable (k_MOST_FOGS : ∃ t,mg "MOST_FOGS" = some (.int 12 t))
theorem zfz : zO ["beacons","fogs"] ["beacons","fogs"] (zJ zbV):=zW
include m_len k_MOST_BEACONS k_MOST_FOGS in
theorem zfy (F : Fun K "refuse_bad_numbers" "refuse_bad_numbers" zbV f fd) : zZ P w K mg base CX0 1 f fd ["beacons","fogs"] (upF K Dp.zaM):=by
  refine zU (b:=Dp.zbg) F zfz Dp.zfk Dp.zfn (fun cdv A outer s H E hr=>?_)
  unfold Dp.zbg
  exact (zu (zV (zby (zfv (zQ zaQ (zaj zas rfl m_len boot_len (zc (zm 0) zq)) zp) (zen (zQ zbE (zaj zas rfl m_len boot_len (zc (zm 0) zq)) (zag rfl k_MOST_BEACONS))))) (zB za6) zP)
 (zB (zV (zQ zbE (zaj zas rfl m_len boot_len (zc (zm 1) zq)) (zag rfl k_MOST_FOGS)) (zB za6) zP)))
variable (G_refuse_bad_numbers : Got P w K mg base 1 "refuse_bad_numbers" ["beacons","fogs"] (upF K Dp.zaM))
variable (k_MOST_LETTERS : ∃ t,mg "MOST_LETTERS" = some (.int 8 t))
variable (k_LETTERS : ∃ t,mg "LETTERS" = some (.str "abcdefghijklmnopqrstuvwxyz" t))
variable (m_all : mg "all" = none)
theorem zl9 : zO ["text"] ["text"] (zJ zgQ):=zW
include m_len k_MOST_LETTERS k_LETTERS m_all in
theorem zmO (F : Fun K "is_name" "is_name" zgQ f fd) : zZ P w K mg base CX0 1 f fd ["text"] (upF K Dp.zdi):=by
  refine zU (b:=Dp.ze0) F zl9 Dp.zlm Dp.zmT (fun cdv A outer s H E hr=>?_)
  unfold Dp.ze0
  exact (zu (zV (zby (zfv (zQ zaQ (zaj zas rfl m_len boot_len (zc (zm 0) zq)) zp) (zen (zQ zbE (zaj zas rfl m_len boot_len (zc (zm 0) zq)) (zag rfl k_MOST_LETTERS))))) (zB (zL zb7)) zP)
 (zB (zL (zaj zgA rfl m_all boot_all (zc (zct (own:=["sign"]) (free:=[]) (fv:=[]) rfl rfl rfl (by decide +kernel) (by decide +kernel) True.intro True.intro (zaD (zm 0)) ⟨(zam 0 (by decide)),fun _ _ _ _ _=>(zay (i:=0) (show List.Nodup (["sign"] : List Str) by decide +kernel) rfl (Or.inl rfl) (Or.inr rfl))⟩ (fun _ _ _ _ _=>zbs) (fun _ _ _ _ _=>(zqC (zuu hr) (zm 0) (zql rfl k_LETTERS)))) zq)))))
variable (G_is_name : Got P w K mg base 1 "is_name" ["text"] (upF K Dp.zdi))
variable (m_set : mg "set" = none)
theorem zga : zO ["names"] ["names"] (zJ zce):=zW
include m_len m_all G_is_name m_set in
theorem zge (F : Fun K "refuse_bad_names" "refuse_bad_names" zce f fd) : zZ P w K mg base CX0 2 f fd ["names"] (upF K Dp.zaX):=by
  refine zU (b:=Dp.zbz) F zga Dp.zfQ Dp.zgc (fun cdv A outer s H E hr=>?_)
  unfold Dp.zbz
  exact (zu (zV (zb5 (zaU (zaj zgA rfl m_all boot_all (zc (zct (own:=["name"]) (free:=[]) (fv:=[]) rfl rfl rfl (by decide +kernel) (by decide +kernel) True.intro True.intro (zaD (zm 0)) ⟨(zam 0 (by decide)),fun _ _ _ _ _=>(zay (i:=0) (show List.Nodup (["name"] : List Str) by decide +kernel) rfl (Or.inl rfl) (Or.inr rfl))⟩ (fun _ _ _ _ _=>zbs) (fun _ _ _ _ _=>(zG G_is_name hr (by decide) rfl (zc (zm 0) zq)))) zq)))) (zB za6) zP)
 (zB (zV (zQ zaQ (zp9 rfl m_len rfl m_set (zc (zm 0) zq)) (zaj zas rfl m_len boot_len (zc (zm 0) zq))) (zB za6) zP)))
variable (G_refuse_bad_names : Got P w K mg base 2 "refuse_bad_names" ["names"] (upF K Dp.zaX))
theorem zqr : zO ["one","other"] ["one","other"] (zJ zkX):=zW
theorem zqj (F : Fun K "less" "less" zkX f fd) : zZ P w K mg base CX0 1 f fd ["one","other"] (upF K Dp.zdd):=by
 refine zU (b:=Dp.zia) F zqr Dp.zoS Dp.zrg (fun cdv A outer s H E hr=>?_)
 unfold Dp.zia
 exact (zB (zL (zd7 zaQ (zaf (zy (zm 0) zp (fun _ _=>rfl)) (zy (zm 1) zp (fun _ _=>rfl))) (zaf (zy (zm 1) zp (fun _ _=>rfl)) (zy (zm 0) zp (fun _ _=>rfl))))))
variable (G_less : Got P w K mg base 1 "less" ["one","other"] (upF K Dp.zdd))
theorem zhH : zO ["ground","place","first","last"] ["ground","place"] (zJ ziO):=zW
include G_less in
theorem zou (F : Fun K "is_on" "is_on" ziO f fd) : zZ P w K mg base CX0 2 f fd ["ground","place"] (upF K Dp.zdK):=by
  refine zU (b:=Dp.zgZ) F zhH Dp.zol Dp.zpx (fun cdv A outer s H E hr=>?_)
  unfold Dp.zgZ
  exact (zu (zF (i:=2) zhH.nd rfl (Or.inl rfl) (zX (zc (zy (zy (zbH (zm 0) rfl) zp (fun _ _=>rfl)) zp (fun _ _=>rfl)) (zc zp zq))))
 (zu (zF (i:=3) zhH.nd rfl (Or.inl rfl) (zX (zc (zy (zy (zbH (zm 0) rfl) (zbm zp) (fun _ _=>rfl)) zp (fun _ _=>rfl)) (zc zp zq))))
 (zB (zL (zhi (zha (zG G_less hr (by decide) rfl (zc (zm 1) (zc (zm 2) zq)))) (zh7 (zha (zG G_less hr (by decide) rfl (zc (zm 3) (zc (zm 1) zq))))))))))
variable (G_is_on : Got P w K mg base 2 "is_on" ["ground","place"] (upF K Dp.zdK))
theorem zbD : zO ["one","other","rest"] ["one","other"] (zJ zcZ):=zW
include m_abs in
theorem zhm (F : Fun K "common_divisor" "common_divisor" zcZ f fd) : zZ P w K mg base CX0 1 f fd ["one","other"] (upF K Dp.zbc):=by
  refine zU (b:=Dp.zbR) F zbD Dp.zgt Dp.zho (fun cdv A outer s H E hr=>?_)
  unfold Dp.zbR
  exact (zu (zjo PassesOwn.never (zQ (zmn hr) (zm 1) zp) (zu (zF (i:=2) zbD.nd rfl (Or.inl rfl) (zaT (zm 0) (zm 1)))
 (zu (zF (i:=0) zbD.nd rfl (Or.inl rfl) (zm 1))
 (zB (zF (i:=1) zbD.nd rfl (Or.inl rfl) (zm 2))))))
 (zB (zL (zaj zkw rfl m_abs boot_abs (zc (zm 0) zq)))))
variable (G_common_divisor : Got P w K mg base 1 "common_divisor" ["one","other"] (upF K Dp.zbc))
theorem zfg : zO ["top","bottom","divisor"] ["top","bottom"] (zJ zfY):=zW
include G_common_divisor in
theorem zlj (F : Fun K "fraction" "fraction" zfY f fd) : zZ P w K mg base CX0 2 f fd ["top","bottom"] (upF K Dp.zcJ):=by
  refine zU (b:=Dp.zek) F zfg Dp.zkF Dp.zle (fun cdv A outer s H E hr=>?_)
  unfold Dp.zek
  exact (zu (zF (i:=2) zfg.nd rfl (Or.inl rfl) (zG G_common_divisor hr (by decide) rfl (zc (zm 0) (zc (zm 1) zq))))
 (zu (zdY (zV (zQ zaQ (zm 1) zp) (zB (zF (i:=2) zfg.nd rfl (Or.inl rfl) (zbm (zm 2)))) zP))
 (zB (zL (zX (zc (zcK (zm 0) (zm 2)) (zc (zcK (zm 1) (zm 2)) zq)))))))
variable (G_fraction : Got P w K mg base 2 "fraction" ["top","bottom"] (upF K Dp.zcJ))
theorem zdh : zO ["one","other","place","run","rise","top"] ["one","other","place"] (zJ zfi):=zW
include G_fraction in
theorem zj7 (F : Fun K "height_on" "height_on" zfi f fd) : zZ P w K mg base CX0 3 f fd ["one","other","place"] (upF K Dp.zca):=by
  refine zU (b:=Dp.zdX) F zdh Dp.zjM Dp.zkT (fun cdv A outer s H E hr=>?_)
  unfold Dp.zdX
  exact (zu (zF (i:=3) zdh.nd rfl (Or.inl rfl) (zT (zy (zm 1) zp (fun _ _=>rfl)) (zy (zm 0) zp (fun _ _=>rfl))))
 (zu (zF (i:=4) zdh.nd rfl (Or.inl rfl) (zT (zy (zm 1) zp (fun _ _=>rfl)) (zy (zm 0) zp (fun _ _=>rfl))))
 (zu (zF (i:=5) zdh.nd rfl (Or.inl rfl) (zY (zaf (zaf (zy (zm 0) zp (fun _ _=>rfl)) (zm 3)) (zy (zm 2) zp (fun _ _=>rfl))) (zaf (zm 4) (zT (zy (zm 2) zp (fun _ _=>rfl)) (zaf (zy (zm 0) zp (fun _ _=>rfl)) (zy (zm 2) zp (fun _ _=>rfl)))))))
 (zB (zL (zG G_fraction hr (by decide) rfl (zc (zm 5) (zc (zaf (zm 3) (zy (zm 2) zp (fun _ _=>rfl))) zq))))))))
variable (G_height_on : Got P w K mg base 3 "height_on" ["one","other","place"] (upF K Dp.zca))
variable (hC_OffGround : ∀ C,PySem.W.nsIn K mainGlobals "OffGround" = some (some (.ref C))→ExC K C)
variable (hx_OffGround : ∃ C,PySem.W.nsIn K mainGlobals "OffGround" = some (some (.ref C))∧mg "OffGround" = some (.ref C))
theorem zdy : zO ["ground","place","corners","k"] ["ground","place"] (zJ ze9):=zW
include G_less G_is_on G_height_on hC_OffGround hx_OffGround in
theorem zkj (F : Fun K "ground_at" "ground_at" ze9 f fd) : zZ P w K mg base (CXd P w) 4 f fd ["ground","place"] (zdP K Dp.zch):=by
  refine zew (b:=Dp.zd1) F zdy Dp.zjx Dp.zkZ (fun cdv A outer s H E hr _ ex hX hM=>?_)
  unfold Dp.zd1
  exact (zu (zV (zb5 (zaU (zG G_is_on hr (by decide) rfl (zc (zm 0) (zc (zm 1) zq))))) (zB (zgF hM rfl hC_OffGround hx_OffGround rfl (zc zfs zq) (fun _ _ _ h=>h _))) zP)
 (zu (zF (i:=2) zdy.nd rfl (Or.inl rfl) (zbH (zm 0) rfl))
 (zu (zF (i:=3) zdy.nd rfl (Or.inl rfl) zp)
 (zu (zjo PassesOwn.leaving (zaU (zG G_less hr (by decide) rfl (zc (zX (zc (zy (zy (zm 2) (zm 3) (fun _ _=>rfl)) zp (fun _ _=>rfl)) (zc zp zq))) (zc (zm 1) zq)))) (zB (zra (i:=3) zdy.nd rfl (Or.inl rfl) zp)))
 (zB (zL (zG G_height_on hr (by decide) rfl (zc (zy (zm 2) (zT (zm 3) zp) (fun _ _=>rfl)) (zc (zy (zm 2) (zm 3) (fun _ _=>rfl)) (zc (zm 1) zq))))))))))
variable (G_ground_at : zhK P w K mg base 4 "ground_at" ["ground","place"] (zdP K Dp.zch))
theorem zjn : zO ["ground","spot","place"] ["ground","spot"] (zJ zhR):=zW
include G_less G_is_on G_ground_at in
theorem znP (F : Fun K "stands" "stands" zhR f fd) : zZ P w K mg base CX0 5 f fd ["ground","spot"] (upF K Dp.zdg):=by
  refine zU (b:=Dp.zf7) F zjn Dp.zmK Dp.znK (fun cdv A outer s H E hr=>?_)
  unfold Dp.zf7
  exact (zu (zF (i:=2) zjn.nd rfl (Or.inl rfl) (zX (zc (zy (zm 1) zp (fun _ _=>rfl)) (zc zp zq))))
 (zu (zV (zb5 (zaU (zG G_is_on hr (by decide) rfl (zc (zm 0) (zc (zm 2) zq))))) (zB (zL zb7)) zP)
 (zB (zL (zha (zG G_less hr (by decide) rfl (zc (zX (zc (zy (zm 1) zp (fun _ _=>rfl)) (zc zp zq))) (zc (zc5 G_ground_at zl8 hr (by decide) rfl (zc (zm 0) (zc (zm 2) zq))) zq))))))))
variable (G_stands : Got P w K mg base 5 "stands" ["ground","spot"] (upF K Dp.zdg))
theorem zgK : zO ["ground","beacons"] ["ground","beacons"] (zJ zcB):=zW
include m_all G_stands in
theorem zgz (F : Fun K "refuse_bad_tops" "refuse_bad_tops" zcB f fd) : zZ P w K mg base CX0 6 f fd ["ground","beacons"] (upF K Dp.za9):=by
 refine zU (b:=Dp.zbC) F zgK Dp.zgf Dp.zgn (fun cdv A outer s H E hr=>?_)
 unfold Dp.zbC
 exact (zB (zV (zb5 (zaU (zaj zgA rfl m_all boot_all (zc (zct (own:=["name","x","z"]) (free:=["ground"]) (fv:=[0]) rfl rfl rfl (by decide +kernel) (by decide +kernel) ⟨rfl,True.intro⟩ ⟨rfl,rfl,rfl,True.intro⟩ (zaD (zm 1)) ⟨(zhQ (zbW (zam 0 (by decide)) (zbW (zam 1 (by decide)) (zbW (zam 2 (by decide)) zgw)))),fun _ _ _ _ _=>(zh4 (n:=3) rfl (zco (zay (i:=0) (show List.Nodup (["name","x","z","ground"] : List Str) by decide +kernel) rfl (Or.inl rfl) (Or.inr rfl)) (zco (zay (i:=1) (show List.Nodup (["name","x","z","ground"] : List Str) by decide +kernel) rfl (Or.inl rfl) (Or.inr rfl)) (zco (zay (i:=2) (show List.Nodup (["name","x","z","ground"] : List Str) by decide +kernel) rfl (Or.inl rfl) (Or.inr rfl)) zg0))))⟩ (fun _ _ _ _ _=>zbs) (fun _ _ _ _ _=>(zG G_stands hr (by decide) rfl (zc (zm 3) (zc (zX (zc (zm 1) (zc (zm 2) zq))) zq))))) zq)))) (zB za6) zP))
variable (G_refuse_bad_tops : Got P w K mg base 6 "refuse_bad_tops" ["ground","beacons"] (upF K Dp.za9))
variable (m_int : mg "int" = none)
variable (m_isinstance : mg "isinstance" = none)
variable (m_bool : mg "bool" = none)
theorem zlo : zO ["value"] ["value"] (zJ zf5):=zW
include m_int m_isinstance m_bool in
theorem zk2 (F : Fun K "is_whole" "is_whole" zf5 f fd) : zZ P w K mg base CX0 1 f fd ["value"] (upF K Dp.zcI):=by
 refine zU (b:=Dp.zel) F zlo Dp.zkN Dp.zlc (fun cdv A outer s H E hr=>?_)
 unfold Dp.zel
 exact (zB (zL (zhi (zaj ziq rfl m_isinstance boot_isinstance (zc (zm 0) (zc (zjU rfl m_int boot_int) zq))) (zh7 (zha (zaj ziq rfl m_isinstance boot_isinstance (zc (zm 0) (zc (zjU rfl m_bool boot_bool) zq))))))))
variable (G_is_whole : Got P w K mg base 1 "is_whole" ["value"] (upF K Dp.zcI))
variable (k_NUMBERS : ∃ t,mg "NUMBERS" = some (.int 8 t))
variable (k_LEFT : ∃ t,mg "LEFT" = some (.int 0 t))
variable (k_RIGHT : ∃ t,mg "RIGHT" = some (.int 1 t))
variable (k_LOW : ∃ t,mg "LOW" = some (.int 2 t))
variable (k_HIGH : ∃ t,mg "HIGH" = some (.int 3 t))
variable (k_FIRST : ∃ t,mg "FIRST" = some (.int 4 t))
variable (k_LAST : ∃ t,mg "LAST" = some (.int 5 t))
variable (m_tuple : mg "tuple" = none)
theorem znq : zO ["value"] ["value"] (zJ zhT):=zW
include m_len m_all m_isinstance G_is_whole k_NUMBERS k_LEFT k_RIGHT k_LOW k_HIGH k_FIRST k_LAST m_tuple in
theorem znn (F : Fun K "is_fog" "is_fog" zhT f fd) : zZ P w K mg base CX0 2 f fd ["value"] (upF K Dp.zd6):=by
  refine zU (b:=Dp.zfI) F znq Dp.zmZ Dp.znz (fun cdv A outer s H E hr=>?_)
  unfold Dp.zfI
  exact (zu (zV (zby (zfv (zb5 (zaU (zaj ziq rfl m_isinstance boot_isinstance (zc (zm 0) (zc (zjU rfl m_tuple boot_tuple) zq))))) (zen (zQ (zmn hr) (zaj zas rfl m_len boot_len (zc (zm 0) zq)) (zag rfl k_NUMBERS))))) (zB (zL zb7)) zP)
 (zu (zV (zb5 (zaU (zaj zgA rfl m_all boot_all (zc (zct (own:=["number"]) (free:=[]) (fv:=[]) rfl rfl rfl (by decide +kernel) (by decide +kernel) True.intro True.intro (zaD (zm 0)) ⟨(zam 0 (by decide)),fun _ _ _ _ _=>(zay (i:=0) (show List.Nodup (["number"] : List Str) by decide +kernel) rfl (Or.inl rfl) (Or.inr rfl))⟩ (fun _ _ _ _ _=>zbs) (fun _ _ _ _ _=>(zG G_is_whole hr (by decide) rfl (zc (zm 0) zq)))) zq)))) (zB (zL zb7)) zP)
 (zB (zL (zhi (zd7 zeV (zy (zm 0) (zag rfl k_LEFT) (fun _ _=>rfl)) (zy (zm 0) (zag rfl k_RIGHT) (fun _ _=>rfl))) (zhi (zd7 zeV (zy (zm 0) (zag rfl k_LOW) (fun _ _=>rfl)) (zy (zm 0) (zag rfl k_HIGH) (fun _ _=>rfl))) (zh7 (zd7 zeV (zy (zm 0) (zag rfl k_FIRST) (fun _ _=>rfl)) (zy (zm 0) (zag rfl k_LAST) (fun _ _=>rfl))))))))))
variable (G_is_fog : Got P w K mg base 2 "is_fog" ["value"] (upF K Dp.zd6))
theorem zgN : zO ["fogs"] ["fogs"] (zJ zcE):=zW
include m_all G_is_fog in
theorem zgi (F : Fun K "refuse_bad_fogs" "refuse_bad_fogs" zcE f fd) : zZ P w K mg base CX0 3 f fd ["fogs"] (upF K Dp.za8):=by
 refine zU (b:=Dp.zbF) F zgN Dp.zgb Dp.zgH (fun cdv A outer s H E hr=>?_)
 unfold Dp.zbF
 exact (zB (zV (zb5 (zaU (zaj zgA rfl m_all boot_all (zc (zct (own:=["fog"]) (free:=[]) (fv:=[]) rfl rfl rfl (by decide +kernel) (by decide +kernel) True.intro True.intro (zaD (zm 0)) ⟨(zam 0 (by decide)),fun _ _ _ _ _=>(zay (i:=0) (show List.Nodup (["fog"] : List Str) by decide +kernel) rfl (Or.inl rfl) (Or.inr rfl))⟩ (fun _ _ _ _ _=>zbs) (fun _ _ _ _ _=>(zG G_is_fog hr (by decide) rfl (zc (zm 0) zq)))) zq)))) (zB za6) zP))
variable (G_refuse_bad_fogs : Got P w K mg base 3 "refuse_bad_fogs" ["fogs"] (upF K Dp.za8))
theorem zgd : zO ["haze","first","last","delay"] ["haze","first","last","delay"] (zJ zcl):=zW
theorem zgh (F : Fun K "refuse_bad_hours" "refuse_bad_hours" zcl f fd) : zZ P w K mg base CX0 1 f fd ["haze","first","last","delay"] (upF K Dp.zaW):=by
  refine zU (b:=Dp.zbx) F zgd Dp.zfO Dp.zgg (fun cdv A outer s H E hr=>?_)
  unfold Dp.zbx
  exact (zu (zV (zQ zbE (zm 1) (zm 2)) (zB za6) zP)
 (zu (zV (zQ zaQ (zm 3) zp) (zB za6) zP)
 (zB (zV (zby (zdc (zQ zgl (zm 0) zdA) (zcm (zQ zaQ (zm 0) zp)))) (zB za6) zP))))
variable (G_refuse_bad_hours : Got P w K mg base 1 "refuse_bad_hours" ["haze","first","last","delay"] (upF K Dp.zaW))
variable (na_Valley_ground : ∀ C,PySem.W.nsIn K mainGlobals "Valley" = some (some (.ref C))→zar K C "ground")
variable (na_Valley_beacons : ∀ C,PySem.W.nsIn K mainGlobals "Valley" = some (some (.ref C))→zar K C "beacons")
variable (na_Valley_fogs : ∀ C,PySem.W.nsIn K mainGlobals "Valley" = some (some (.ref C))→zar K C "fogs")
variable (na_Valley_haze : ∀ C,PySem.W.nsIn K mainGlobals "Valley" = some (some (.ref C))→zar K C "haze")
variable (na_Valley_first : ∀ C,PySem.W.nsIn K mainGlobals "Valley" = some (some (.ref C))→zar K C "first")
variable (na_Valley_last : ∀ C,PySem.W.nsIn K mainGlobals "Valley" = some (some (.ref C))→zar K C "last")
variable (na_Valley_delay : ∀ C,PySem.W.nsIn K mainGlobals "Valley" = some (some (.ref C))→zar K C "delay")
theorem ziQ : zO ["self","ground","beacons","fogs","haze","first","last","delay"] ["self","ground","beacons","fogs","haze","first","last","delay"] (zJ zbr):=zW
include m_list G_Ground G_refuse_bad_numbers G_refuse_bad_names G_refuse_bad_tops G_refuse_bad_fogs G_refuse_bad_hours na_Valley_ground na_Valley_beacons na_Valley_fogs na_Valley_haze na_Valley_first na_Valley_last na_Valley_delay in
theorem zi2 (F : Fun K "__init__" "Valley.__init__" zbr f fd) : zZ P w K mg base CX0 7 f fd ["self","ground","beacons","fogs","haze","first","last","delay"] (upF K Dp.zcu):=by
  refine zU (b:=Dp.zbt) F ziQ Dp.zhZ Dp.zi9 (fun cdv A outer s H E hr=>?_)
  unfold Dp.zbt
  exact (zu (zaB (zG G_refuse_bad_numbers hr (by decide) rfl (zc (zm 2) (zc (zm 3) zq))))
 (zu (zaB (zG G_refuse_bad_names hr (by decide) rfl (zc (zct (own:=["beacon"]) (free:=[]) (fv:=[]) rfl rfl rfl (by decide +kernel) (by decide +kernel) True.intro True.intro (zaD (zm 2)) ⟨(zam 0 (by decide)),fun _ _ _ _ _=>(zay (i:=0) (show List.Nodup (["beacon"] : List Str) by decide +kernel) rfl (Or.inl rfl) (Or.inr rfl))⟩ (fun _ _ _ _ _=>zbs) (fun _ _ _ _ _=>(zy (zm 0) zp (fun _ _=>rfl)))) zq)))
 (zu (zaB (zG G_refuse_bad_tops hr (by decide) rfl (zc (zm 1) (zc (zm 2) zq))))
 (zu (zaB (zG G_refuse_bad_fogs hr (by decide) rfl (zc (zm 3) zq)))
 (zu (zaB (zG G_refuse_bad_hours hr (by decide) rfl (zc (zm 4) (zc (zm 5) (zc (zm 6) (zc (zm 7) zq))))))
 (zu (zdf na_Valley_ground (zm 0) (zj3 G_Ground hr (by decide) rfl (zc (zbH (zm 1) rfl) zq)))
 (zu (zdf na_Valley_beacons (zm 0) (zeY zeo rfl m_list boot_list (zc (zm 2) zq)))
 (zu (zdf na_Valley_fogs (zm 0) (zeY zeo rfl m_list boot_list (zc (zm 3) zq)))
 (zu (zdf na_Valley_haze (zm 0) (zm 4))
 (zu (zdf na_Valley_first (zm 0) (zm 5))
 (zu (zdf na_Valley_last (zm 0) (zm 6))
 (zB (zdf na_Valley_delay (zm 0) (zm 7))))))))))))))
variable (G_Valley : ziD P w K mg base 7 "Valley" (upF K Dp.zgy))
theorem zjJ : zO ["vale"] ["vale"] (zJ zeJ):=zW
include m_list G_Ground G_Valley in
theorem zjL (F : Fun K "_law_valley" "_law_valley" zeJ f fd) : zZ P w K mg base CX0 9 f fd ["vale"] (upF K Dp.zb1):=by
 refine zU (b:=Dp.zdE) F zjJ Dp.ziY Dp.zjN (fun cdv A outer s H E hr=>?_)
 unfold Dp.zdE
 exact (zB (zL (zj3 G_Valley hr (by decide) rfl (zc (zj3 G_Ground hr (by decide) rfl (zc (zeY zeo rfl m_list boot_list (zc (zy (zm 0) zp (fun _ _=>rfl)) zq)) zq)) (zc (zeY zeo rfl m_list boot_list (zc (zy (zm 0) zp (fun _ _=>rfl)) zq)) (zc (zeY zeo rfl m_list boot_list (zc (zy (zm 0) zp (fun _ _=>rfl)) zq)) (zc (zy (zm 0) zp (fun _ _=>rfl)) (zc (zy (zm 0) zp (fun _ _=>rfl)) (zc (zy (zm 0) zp (fun _ _=>rfl)) (zc (zy (zm 0) zp (fun _ _=>rfl)) zq))))))))))
variable (G_law_valley : Got P w K mg base 9 "_law_valley" ["vale"] (upF K Dp.zb1))
theorem zdx : zO ["corners","one","other","spot","rise"] ["corners","one","other"] (zJ zfd):=zW
theorem zjY (F : Fun K "_law_clear" "_law_clear" zfd f fd) : zZ P w K mg base CX0 1 f fd ["corners","one","other"] (upF K Dp.zcb):=by
  refine zU (b:=Dp.zdU) F zdx Dp.zjG Dp.zkC (fun cdv A outer s H E hr=>?_)
  unfold Dp.zdU
  exact (zu (zdY (zV (zQ zaQ (zy (zm 2) zp (fun _ _=>rfl)) (zy (zm 1) zp (fun _ _=>rfl))) (zB (zlP (i:=1) (j:=2) rfl zdx.nd rfl rfl (by decide) rfl rfl (zc (zm 2) (zc (zm 1) zq)) rfl)) zP))
 (zu (zaE PassesOwn.never rfl (zaD (zm 0)) (zaa (i:=3) zdx.nd rfl (Or.inl rfl)) (zB (zV (zby (zdc (zQ zaQ (zy (zm 1) zp (fun _ _=>rfl)) (zy (zm 3) zp (fun _ _=>rfl))) (zcm (zQ zaQ (zy (zm 3) zp (fun _ _=>rfl)) (zy (zm 2) zp (fun _ _=>rfl)))))) (zu (zF (i:=4) zdx.nd rfl (Or.inl rfl) (zaf (zT (zy (zm 2) zp (fun _ _=>rfl)) (zy (zm 1) zp (fun _ _=>rfl))) (zT (zy (zm 3) zp (fun _ _=>rfl)) (zy (zm 1) zp (fun _ _=>rfl)))))
 (zB (zV (zQ zbE (zaf (zT (zy (zm 3) zp (fun _ _=>rfl)) (zy (zm 1) zp (fun _ _=>rfl))) (zT (zy (zm 2) zp (fun _ _=>rfl)) (zy (zm 1) zp (fun _ _=>rfl)))) (zm 4)) (zB (zL zb7)) zP))) zP)))
 (zB (zL zb7))))
variable (G_law_clear : Got P w K mg base 1 "_law_clear" ["corners","one","other"] (upF K Dp.zcb))
theorem zlb : zO ["at","way","low","high"] ["at","way","low","high"] (zJ zfV):=zW
include m_int in
theorem zlk (F : Fun K "_law_part" "_law_part" zfV f fd) : zZ P w K mg base CX0 1 f fd ["at","way","low","high"] (upF K Dp.zb6):=by
  refine zU (b:=Dp.zem) F zlb Dp.zj8 Dp.zk6 (fun cdv A outer s H E hr=>?_)
  unfold Dp.zem
  exact (zu (zV (zQ (zdS hr) (zm 1) zp) (zB (zL (zy (zaP (zc (zX (zc (zX (zc zp (zc zp zq))) (zc (zX (zc zp (zc zp zq))) zq))) (zc (zX (zc (zX (zc zp (zc zp zq))) (zc (zX (zc zp (zc zp zq))) zq))) zq))) (zeY zse rfl m_int boot_int (zc (zrG (zd7 zaQ (zm 0) (zm 2)) (zh7 (zd7 zaQ (zm 3) (zm 0)))) zq)) (fun _ _=>rfl)))) zP)
 (zu (zV (zQ zbE (zm 1) zp) (zB (zL (zX (zc (zX (zc (zT (zm 2) (zm 0)) (zc (zm 1) zq))) (zc (zX (zc (zT (zm 3) (zm 0)) (zc (zm 1) zq))) zq))))) zP)
 (zB (zL (zX (zc (zX (zc (zT (zm 0) (zm 3)) (zc (zbm (zm 1)) zq))) (zc (zX (zc (zT (zm 0) (zm 2)) (zc (zbm (zm 1)) zq))) zq)))))))
variable (G_law_part : Got P w K mg base 1 "_law_part" ["at","way","low","high"] (upF K Dp.zb6))
theorem zd0 : zO ["box","one","other","parts","low","high"] ["box","one","other"] (zJ zfE):=zW
include G_law_part in
theorem zlf (F : Fun K "_law_meet" "_law_meet" zfE f fd) : zZ P w K mg base CX0 2 f fd ["box","one","other"] (upF K Dp.zcO):=by
  refine zU (b:=Dp.zef) F zd0 Dp.zkl Dp.zk8 (fun cdv A outer s H E hr=>?_)
  unfold Dp.zef
  exact (zu (zF (i:=3) zd0.nd rfl (Or.inl rfl) (zaP (zc (zX (zc (zX (zc zp (zc zp zq))) (zc (zX (zc zp (zc zp zq))) zq))) (zc (zG G_law_part hr (by decide) rfl (zc (zy (zm 1) zp (fun _ _=>rfl)) (zc (zT (zy (zm 2) zp (fun _ _=>rfl)) (zy (zm 1) zp (fun _ _=>rfl))) (zc (zy (zm 0) zp (fun _ _=>rfl)) (zc (zy (zm 0) zp (fun _ _=>rfl)) zq))))) zq))))
 (zu (zaB (zf3 PySem.F.slot_list_append PySem.F.type_list_append zbO (zm 3) (zc (zG G_law_part hr (by decide) rfl (zc (zy (zm 1) zp (fun _ _=>rfl)) (zc (zT (zy (zm 2) zp (fun _ _=>rfl)) (zy (zm 1) zp (fun _ _=>rfl))) (zc (zy (zm 0) zp (fun _ _=>rfl)) (zc (zy (zm 0) zp (fun _ _=>rfl)) zq))))) zq)))
 (zu (zaE PassesOwn.never rfl (zaD (zct (own:=["part"]) (free:=[]) (fv:=[]) rfl rfl rfl (by decide +kernel) (by decide +kernel) True.intro True.intro (zaD (zm 3)) ⟨(zam 0 (by decide)),fun _ _ _ _ _=>(zay (i:=0) (show List.Nodup (["part"] : List Str) by decide +kernel) rfl (Or.inl rfl) (Or.inr rfl))⟩ (fun _ _ _ _ _=>zbs) (fun _ _ _ _ _=>(zy (zm 0) zp (fun _ _=>rfl))))) (zaa (i:=4) zd0.nd rfl (Or.inl rfl)) (zB (zaE PassesOwn.never rfl (zaD (zct (own:=["part"]) (free:=[]) (fv:=[]) rfl rfl rfl (by decide +kernel) (by decide +kernel) True.intro True.intro (zaD (zm 3)) ⟨(zam 0 (by decide)),fun _ _ _ _ _=>(zay (i:=0) (show List.Nodup (["part"] : List Str) by decide +kernel) rfl (Or.inl rfl) (Or.inr rfl))⟩ (fun _ _ _ _ _=>zbs) (fun _ _ _ _ _=>(zy (zm 0) zp (fun _ _=>rfl))))) (zaa (i:=5) zd0.nd rfl (Or.inl rfl)) (zB (zV (zQ zbE (zaf (zy (zm 4) zp (fun _ _=>rfl)) (zy (zm 5) zp (fun _ _=>rfl))) (zaf (zy (zm 5) zp (fun _ _=>rfl)) (zy (zm 4) zp (fun _ _=>rfl)))) (zB (zL zb7)) zP)))))
 (zB (zL zb7)))))
variable (G_law_meet : Got P w K mg base 2 "_law_meet" ["box","one","other"] (upF K Dp.zcO))
theorem zea : zO ["fog","one","other","hour","along","upward"] ["fog","one","other","hour"] (zJ zeA):=zW
include G_law_meet in
theorem zjC (F : Fun K "_law_fogged" "_law_fogged" zeA f fd) : zZ P w K mg base CX0 3 f fd ["fog","one","other","hour"] (upF K Dp.zb0):=by
  refine zU (b:=Dp.zdj) F zea Dp.ziU Dp.zjA (fun cdv A outer s H E hr=>?_)
  unfold Dp.zdj
  exact (zu (zV (zby (zfv (zQ zaQ (zm 3) (zy (zm 0) zp (fun _ _=>rfl))) (zen (zQ zaQ (zy (zm 0) zp (fun _ _=>rfl)) (zm 3))))) (zB (zL zb7)) zP)
 (zu (zF (i:=4) zea.nd rfl (Or.inl rfl) (zaf (zy (zm 0) zp (fun _ _=>rfl)) (zT (zm 3) (zy (zm 0) zp (fun _ _=>rfl)))))
 (zu (zF (i:=5) zea.nd rfl (Or.inl rfl) (zaf (zy (zm 0) zp (fun _ _=>rfl)) (zT (zm 3) (zy (zm 0) zp (fun _ _=>rfl)))))
 (zB (zL (zG G_law_meet hr (by decide) rfl (zc (zX (zc (zY (zy (zm 0) zp (fun _ _=>rfl)) (zm 4)) (zc (zY (zy (zm 0) zp (fun _ _=>rfl)) (zm 4)) (zc (zY (zy (zm 0) zp (fun _ _=>rfl)) (zm 5)) (zc (zY (zy (zm 0) zp (fun _ _=>rfl)) (zm 5)) zq))))) (zc (zm 1) (zc (zm 2) zq)))))))))
variable (G_law_fogged : Got P w K mg base 3 "_law_fogged" ["fog","one","other","hour"] (upF K Dp.zb0))
theorem zbk : zO ["vale","k","j","hour","corners","beacons","mists","haze","one","other","square"] ["vale","k","j","hour"] (zJ zfC):=zW
include m_len G_law_clear G_law_fogged in
theorem zk3 (F : Fun K "_law_sees" "_law_sees" zfC f fd) : zZ P w K mg base CX0 4 f fd ["vale","k","j","hour"] (upF K Dp.zcG):=by
  refine zU (b:=Dp.zee) F zbk Dp.zkB Dp.zk7 (fun cdv A outer s H E hr=>?_)
  unfold Dp.zee
  exact (zu (zg6 (zjR (zm 0) ziJ (zfu zp)) (zep (n:=4) rfl (zat (zaa (i:=4) zbk.nd rfl (Or.inl rfl)) (zat (zaa (i:=5) zbk.nd rfl (Or.inl rfl)) (zat (zaa (i:=6) zbk.nd rfl (Or.inl rfl)) (zat (zaa (i:=7) zbk.nd rfl (Or.inl rfl)) zer))))))
 (zu (zV (zQ (zdS hr) (zm 1) (zm 2)) (zB (zL zb7)) zP)
 (zu (zF (i:=8) zbk.nd rfl (Or.inr rfl) (zjR (zy (zm 5) (zm 1) (fun _ _=>rfl)) (zfu zp) ziJ))
 (zu (zF (i:=9) zbk.nd rfl (Or.inr rfl) (zjR (zy (zm 5) (zm 2) (fun _ _=>rfl)) (zfu zp) ziJ))
 (zu (zV (zb5 (zaU (zG G_law_clear hr (by decide) rfl (zc (zm 4) (zc (zm 8) (zc (zm 9) zq)))))) (zB (zL zb7)) zP)
 (zu (zF (i:=10) zbk.nd rfl (Or.inl rfl) (zY (zaf (zT (zy (zm 8) zp (fun _ _=>rfl)) (zy (zm 9) zp (fun _ _=>rfl))) (zT (zy (zm 8) zp (fun _ _=>rfl)) (zy (zm 9) zp (fun _ _=>rfl)))) (zaf (zT (zy (zm 8) zp (fun _ _=>rfl)) (zy (zm 9) zp (fun _ _=>rfl))) (zT (zy (zm 8) zp (fun _ _=>rfl)) (zy (zm 9) zp (fun _ _=>rfl))))))
 (zu (zV (zby (zdc (zQ zgl (zm 7) zdA) (zcm (zQ zbE (zm 10) (zm 7))))) (zB (zL zb7)) zP)
 (zB (zL (zd7 (zdS hr) (zaj zas rfl m_len boot_len (zc (zct (own:=["fog"]) (free:=["one","other","hour"]) (fv:=[8,9,3]) rfl rfl rfl (by decide +kernel) (by decide +kernel) ⟨rfl,rfl,rfl,True.intro⟩ ⟨rfl,rfl,rfl,rfl,rfl,rfl,rfl,rfl,rfl,True.intro⟩ (zaD (zm 6)) ⟨(zam 0 (by decide)),fun _ _ _ _ _=>(zay (i:=0) (show List.Nodup (["fog","one","other","hour"] : List Str) by decide +kernel) rfl (Or.inl rfl) (Or.inr rfl))⟩ (fun _ _ _ _ _=>(ziT (zaU (zG G_law_fogged hr (by decide) rfl (zc (zm 0) (zc (zm 1) (zc (zm 2) (zc (zm 3) zq)))))))) (fun _ _ _ _ _=>(zm 0))) zq)) zp))))))))))
variable (G_law_sees : Got P w K mg base 4 "_law_sees" ["vale","k","j","hour"] (upF K Dp.zcG))
variable (hC_NoBeacon : ∀ C,PySem.W.nsIn K mainGlobals "NoBeacon" = some (some (.ref C))→ExC K C)
variable (hx_NoBeacon : ∃ C,PySem.W.nsIn K mainGlobals "NoBeacon" = some (some (.ref C))∧mg "NoBeacon" = some (.ref C))
theorem zh1 : zO ["valley","name","beacon"] ["valley","name"] (zJ zgC):=zW
include hC_NoBeacon hx_NoBeacon in
theorem zmY (F : Fun K "spot_of" "spot_of" zgC f fd) : zZ P w K mg base (CXd P w) 1 f fd ["valley","name"] (zdP K Dp.zcA):=by
  refine zew (b:=Dp.zeU) F zh1 Dp.zk4 Dp.zmF (fun cdv A outer s H E hr _ ex hX hM=>?_)
  unfold Dp.zeU
  exact (zu (zaE PassesOwn.leaving rfl (zaD (zbH (zm 0) rfl)) (zaa (i:=2) zh1.nd rfl (Or.inl rfl)) (zB (zV (zQ (zdS hr) (zy (zm 2) zp (fun _ _=>rfl)) (zm 1)) (zB (zL (zX (zc (zy (zm 2) zp (fun _ _=>rfl)) (zc (zy (zm 2) zp (fun _ _=>rfl)) zq))))) zP)))
 (zB (zgF hM rfl hC_NoBeacon hx_NoBeacon rfl (zc zfs zq) (fun _ _ _ h=>h _))))
variable (G_spot_of : zhK P w K mg base 1 "spot_of" ["valley","name"] (zdP K Dp.zcA))
theorem ze6 : zO ["ground","spot"] ["ground","spot"] (zJ zbK):=zW
include hC_OffGround hx_OffGround G_stands in
theorem zfa (F : Fun K "refuse_not_standing" "refuse_not_standing" zbK f fd) : zZ P w K mg base (CXd P w) 6 f fd ["ground","spot"] (zdP K Dp.zaw):=by
 refine zew (b:=Dp.zba) F ze6 Dp.zeN Dp.zfc (fun cdv A outer s H E hr _ ex hX hM=>?_)
 unfold Dp.zba
 exact (zB (zV (zb5 (zaU (zG G_stands hr (by decide) rfl (zc (zm 0) (zc (zm 1) zq))))) (zB (zgF hM rfl hC_OffGround hx_OffGround rfl (zc zfs zq) (fun _ _ _ h=>h _))) zP))
variable (G_refuse_not_standing : zhK P w K mg base 6 "refuse_not_standing" ["ground","spot"] (zdP K Dp.zaw))
variable (m_min : mg "min" = none)
variable (m_max : mg "max" = none)
variable (m_enumerate : mg "enumerate" = none)
theorem zcg : zO ["ground","x","other_x","low","high"] ["ground","x","other_x"] (zJ zcD):=zW
include m_min m_max m_enumerate in
theorem zgI (F : Fun K "numbers_between" "numbers_between" zcD f fd) : zZ P w K mg base CX0 1 f fd ["ground","x","other_x"] (upF K Dp.za5):=by
  refine zU (b:=Dp.zbG) F zcg Dp.zf9 Dp.zgq (fun cdv A outer s H E hr=>?_)
  unfold Dp.zbG
  exact (zu (zF (i:=3) zcg.nd rfl (Or.inr rfl) (zaj zet rfl m_min boot_min (zc (zm 1) (zc (zm 2) zq))))
 (zu (zF (i:=4) zcg.nd rfl (Or.inr rfl) (zaj zdO rfl m_max boot_max (zc (zm 1) (zc (zm 2) zq))))
 (zB (zL (zct (own:=["k","corner"]) (free:=["low","high"]) (fv:=[3,4]) rfl rfl rfl (by decide +kernel) (by decide +kernel) ⟨rfl,rfl,True.intro⟩ ⟨rfl,rfl,rfl,rfl,rfl,rfl,True.intro⟩ (zku rfl m_enumerate (zc (zbH (zm 0) rfl) zq)) ⟨(zhQ (zbW (zam 0 (by decide)) (zbW (zam 1 (by decide)) zgw))),fun _ _ _ _ _=>(zh4 (n:=2) rfl (zco (zay (i:=0) (show List.Nodup (["k","corner","low","high"] : List Str) by decide +kernel) rfl (Or.inl rfl) (Or.inr rfl)) (zco (zay (i:=1) (show List.Nodup (["k","corner","low","high"] : List Str) by decide +kernel) rfl (Or.inl rfl) (Or.inr rfl)) zg0)))⟩ (fun _ _ _ _ _=>(ziT (znx zaQ zaQ (zm 2) (zy (zm 1) zp (fun _ _=>rfl)) (zm 3)))) (fun _ _ _ _ _=>(zm 0)))))))
variable (G_numbers_between : Got P w K mg base 1 "numbers_between" ["ground","x","other_x"] (upF K Dp.za5))
theorem zdq : zO ["one","other","spot","run","rise","over"] ["one","other","spot"] (zJ zgr):=zW
theorem zme (F : Fun K "side_of" "side_of" zgr f fd) : zZ P w K mg base CX0 1 f fd ["one","other","spot"] (upF K Dp.zdC):=by
  refine zU (b:=Dp.ze2) F zdq Dp.zlr Dp.zmU (fun cdv A outer s H E hr=>?_)
  unfold Dp.ze2
  exact (zu (zF (i:=3) zdq.nd rfl (Or.inl rfl) (zT (zy (zm 1) zp (fun _ _=>rfl)) (zy (zm 0) zp (fun _ _=>rfl))))
 (zu (zF (i:=4) zdq.nd rfl (Or.inl rfl) (zT (zy (zm 1) zp (fun _ _=>rfl)) (zy (zm 0) zp (fun _ _=>rfl))))
 (zu (zF (i:=5) zdq.nd rfl (Or.inl rfl) (zT (zaf (zT (zy (zm 2) zp (fun _ _=>rfl)) (zy (zm 0) zp (fun _ _=>rfl))) (zm 3)) (zaf (zT (zy (zm 2) zp (fun _ _=>rfl)) (zy (zm 0) zp (fun _ _=>rfl))) (zm 4))))
 (zu (zdY (zV (zQ zaQ (zm 3) zp) (zB (zF (i:=5) zdq.nd rfl (Or.inl rfl) (zbm (zm 5)))) zP))
 (zu (zV (zQ zbE (zm 5) zp) (zB (zL zp)) zP)
 (zu (zV (zQ zaQ (zm 5) zp) (zB (zL (zbm zp))) zP)
 (zB (zL zp))))))))
variable (G_side_of : Got P w K mg base 1 "side_of" ["one","other","spot"] (upF K Dp.zdC))
theorem zjr : zO ["ground","one","other","k"] ["ground","one","other"] (zJ zhL):=zW
include G_refuse_not_standing G_numbers_between G_side_of in
theorem zoh (F : Fun K "hinder" "hinder" zhL f fd) : zZ P w K mg base (CXd P w) 7 f fd ["ground","one","other"] (zdP K Dp.zd2):=by
  refine zew (b:=Dp.zfH) F zjr Dp.zl2 Dp.znj (fun cdv A outer s H E hr _ ex hX hM=>?_)
  unfold Dp.zfH
  exact (zu (zaB (zc5 G_refuse_not_standing hX hr (by decide) rfl (zc (zm 0) (zc (zm 1) zq))))
 (zu (zaB (zc5 G_refuse_not_standing hX hr (by decide) rfl (zc (zm 0) (zc (zm 2) zq))))
 (zu (zaE PassesOwn.leaving rfl (zaD (zG G_numbers_between hr (by decide) rfl (zc (zm 0) (zc (zy (zm 1) zp (fun _ _=>rfl)) (zc (zy (zm 2) zp (fun _ _=>rfl)) zq))))) (zaa (i:=3) zjr.nd rfl (Or.inl rfl)) (zB (zV (zQ zbE (zG G_side_of hr (by decide) rfl (zc (zm 1) (zc (zm 2) (zc (zy (zbH (zm 0) rfl) (zm 3) (fun _ _=>rfl)) zq)))) zp) (zB (zL (zm 3))) zP)))
 (zB (zL zdA)))))
variable (G_hinder : zhK P w K mg base 7 "hinder" ["ground","one","other"] (zdP K Dp.zd2))
theorem zcC : zO ["one","other","run","climb"] ["one","other"] (zJ zc7):=zW
theorem zhr (F : Fun K "square_between" "square_between" zc7 f fd) : zZ P w K mg base CX0 1 f fd ["one","other"] (upF K Dp.zbb):=by
  refine zU (b:=Dp.zbS) F zcC Dp.zgG Dp.zhn (fun cdv A outer s H E hr=>?_)
  unfold Dp.zbS
  exact (zu (zF (i:=2) zcC.nd rfl (Or.inl rfl) (zT (zy (zm 1) zp (fun _ _=>rfl)) (zy (zm 0) zp (fun _ _=>rfl))))
 (zu (zF (i:=3) zcC.nd rfl (Or.inl rfl) (zT (zy (zm 1) zp (fun _ _=>rfl)) (zy (zm 0) zp (fun _ _=>rfl))))
 (zB (zL (zY (zaf (zm 2) (zm 2)) (zaf (zm 3) (zm 3)))))))
variable (G_square_between : Got P w K mg base 1 "square_between" ["one","other"] (upF K Dp.zbb))
theorem zcX : zO ["valley","one","other","corner","square"] ["valley","one","other"] (zJ zdo):=zW
include G_hinder G_square_between in
theorem zhD (F : Fun K "hidden_always" "hidden_always" zdo f fd) : zZ P w K mg base CX0 8 f fd ["valley","one","other"] (upF K Dp.zbn):=by
  refine zU (b:=Dp.zb8) F zcX Dp.zhp Dp.zhF (fun cdv A outer s H E hr=>?_)
  unfold Dp.zb8
  exact (zu (zF (i:=3) zcX.nd rfl (Or.inl rfl) (zc5 G_hinder zl8 hr (by decide) rfl (zc (zbH (zm 0) rfl) (zc (zm 1) (zc (zm 2) zq)))))
 (zu (zV (zQ zgl (zm 3) zdA) (zB (zL (zX (zc zfs (zc (zm 3) zq))))) zP)
 (zu (zF (i:=4) zcX.nd rfl (Or.inl rfl) (zG G_square_between hr (by decide) rfl (zc (zm 1) (zc (zm 2) zq))))
 (zu (zV (zby (zdc (zQ zgl (zbH (zm 0) rfl) zdA) (zcm (zQ zbE (zm 4) (zbH (zm 0) rfl))))) (zB (zL (zX (zc zfs (zc (zm 4) zq))))) zP)
 (zB (zL zdA))))))
variable (G_hidden_always : Got P w K mg base 8 "hidden_always" ["valley","one","other"] (upF K Dp.zbn))
variable (k_DRIFT : ∃ t,mg "DRIFT" = some (.int 6 t))
variable (k_RISE : ∃ t,mg "RISE" = some (.int 7 t))
theorem zhG : zO ["fog","hours","along","upwards"] ["fog","hours"] (zJ zja):=zW
include k_LEFT k_RIGHT k_LOW k_HIGH k_DRIFT k_RISE in
theorem zpD (F : Fun K "moved" "moved" zja f fd) : zZ P w K mg base CX0 1 f fd ["fog","hours"] (upF K Dp.zdG):=by
  refine zU (b:=Dp.zgU) F zhG Dp.znF Dp.zpu (fun cdv A outer s H E hr=>?_)
  unfold Dp.zgU
  exact (zu (zF (i:=2) zhG.nd rfl (Or.inl rfl) (zaf (zy (zm 0) (zag rfl k_DRIFT) (fun _ _=>rfl)) (zm 1)))
 (zu (zF (i:=3) zhG.nd rfl (Or.inl rfl) (zaf (zy (zm 0) (zag rfl k_RISE) (fun _ _=>rfl)) (zm 1)))
 (zB (zL (zX (zc (zY (zy (zm 0) (zag rfl k_LEFT) (fun _ _=>rfl)) (zm 2)) (zc (zY (zy (zm 0) (zag rfl k_RIGHT) (fun _ _=>rfl)) (zm 2)) (zc (zY (zy (zm 0) (zag rfl k_LOW) (fun _ _=>rfl)) (zm 3)) (zc (zY (zy (zm 0) (zag rfl k_HIGH) (fun _ _=>rfl)) (zm 3)) zq)))))))))
variable (G_moved : Got P w K mg base 1 "moved" ["fog","hours"] (upF K Dp.zdG))
theorem zdm : zO ["box","one","other","run","climb","corners","across"] ["box","one","other"] (zJ zgp):=zW
include k_LEFT k_RIGHT k_LOW k_HIGH m_min m_max in
theorem zmX (F : Fun K "margins" "margins" zgp f fd) : zZ P w K mg base CX0 1 f fd ["box","one","other"] (upF K Dp.zcz):=by
  refine zU (b:=Dp.zeZ) F zdm Dp.zln Dp.zmV (fun cdv A outer s H E hr=>?_)
  unfold Dp.zeZ
  exact (zu (zF (i:=3) zdm.nd rfl (Or.inr rfl) (zT (zy (zm 2) zp (fun _ _=>rfl)) (zy (zm 1) zp (fun _ _=>rfl))))
 (zu (zF (i:=4) zdm.nd rfl (Or.inr rfl) (zT (zy (zm 2) zp (fun _ _=>rfl)) (zy (zm 1) zp (fun _ _=>rfl))))
 (zu (zF (i:=5) zdm.nd rfl (Or.inl rfl) (zaP (zc (zX (zc (zy (zm 0) (zag rfl k_LEFT) (fun _ _=>rfl)) (zc (zy (zm 0) (zag rfl k_LOW) (fun _ _=>rfl)) zq))) (zc (zX (zc (zy (zm 0) (zag rfl k_LEFT) (fun _ _=>rfl)) (zc (zy (zm 0) (zag rfl k_HIGH) (fun _ _=>rfl)) zq))) (zc (zX (zc (zy (zm 0) (zag rfl k_RIGHT) (fun _ _=>rfl)) (zc (zy (zm 0) (zag rfl k_LOW) (fun _ _=>rfl)) zq))) (zc (zX (zc (zy (zm 0) (zag rfl k_RIGHT) (fun _ _=>rfl)) (zc (zy (zm 0) (zag rfl k_HIGH) (fun _ _=>rfl)) zq))) zq))))))
 (zu (zkx (i:=6) zdm.nd rfl rfl (own:=["x","z"]) (free:=["run","climb","one"]) (fv:=[3,4,1]) rfl rfl rfl (by decide +kernel) (by decide +kernel) ⟨rfl,rfl,rfl,True.intro⟩ ⟨rfl,rfl,rfl,rfl,rfl,rfl,rfl,rfl,rfl,True.intro⟩ (zaD (zm 5)) ⟨(zhQ (zbW (zam 0 (by decide)) (zbW (zam 1 (by decide)) zgw))),fun _ _ _ _ _=>(zh4 (n:=2) rfl (zco (zay (i:=0) (show List.Nodup (["x","z","run","climb","one"] : List Str) by decide +kernel) rfl (Or.inl rfl) (Or.inr rfl)) (zco (zay (i:=1) (show List.Nodup (["x","z","run","climb","one"] : List Str) by decide +kernel) rfl (Or.inl rfl) (Or.inr rfl)) zg0)))⟩ (fun _ _ _ _ _=>zbs) (fun _ _ _ _ _=>(zT (zaf (zm 2) (zT (zm 1) (zy (zm 4) zp (fun _ _=>rfl)))) (zaf (zm 3) (zT (zm 0) (zy (zm 4) zp (fun _ _=>rfl)))))))
 (zB (zL (zaP (zc (zT (zaj zdO rfl m_max boot_max (zc (zy (zm 1) zp (fun _ _=>rfl)) (zc (zy (zm 2) zp (fun _ _=>rfl)) zq))) (zy (zm 0) (zag rfl k_LEFT) (fun _ _=>rfl))) (zc (zT (zy (zm 0) (zag rfl k_RIGHT) (fun _ _=>rfl)) (zaj zet rfl m_min boot_min (zc (zy (zm 1) zp (fun _ _=>rfl)) (zc (zy (zm 2) zp (fun _ _=>rfl)) zq)))) (zc (zT (zaj zdO rfl m_max boot_max (zc (zy (zm 1) zp (fun _ _=>rfl)) (zc (zy (zm 2) zp (fun _ _=>rfl)) zq))) (zy (zm 0) (zag rfl k_LOW) (fun _ _=>rfl))) (zc (zT (zy (zm 0) (zag rfl k_HIGH) (fun _ _=>rfl)) (zaj zet rfl m_min boot_min (zc (zy (zm 1) zp (fun _ _=>rfl)) (zc (zy (zm 2) zp (fun _ _=>rfl)) zq)))) (zc (zaj zqq rfl m_max boot_max (zc (zm 6) zq)) (zc (zbm (zaj zrp rfl m_min boot_min (zc (zm 6) zq))) zq)))))))))))))
variable (G_margins : Got P w K mg base 1 "margins" ["box","one","other"] (upF K Dp.zcz))
variable (m_sorted : mg "sorted" = none)
theorem zhf : zO ["pairs","found","low","high"] ["pairs"] (zJ zk0):=zW
include m_len m_tuple m_max m_sorted in
theorem zqy (F : Fun K "tidy" "tidy" zk0 f fd) : zZ P w K mg base CX0 1 f fd ["pairs"] (upF K Dp.zc9):=by
  refine zU (b:=Dp.ziv) F zhf Dp.zoZ Dp.zqF (fun cdv A outer s H E hr=>?_)
  unfold Dp.ziv
  exact (zu (zF (i:=1) zhf.nd rfl (Or.inl rfl) (zaP zq))
 (zu (zaE PassesOwn.never rfl (zaD (zaj zq0 rfl m_sorted boot_sorted (zc (zct (own:=["pair"]) (free:=[]) (fv:=[]) rfl rfl rfl (by decide +kernel) (by decide +kernel) True.intro True.intro (zaD (zm 0)) ⟨(zam 0 (by decide)),fun _ _ _ _ _=>(zay (i:=0) (show List.Nodup (["pair"] : List Str) by decide +kernel) rfl (Or.inl rfl) (Or.inr rfl))⟩ (fun _ _ _ _ _=>(ziT (zQ zeV (zy (zm 0) zp (fun _ _=>rfl)) (zy (zm 0) zp (fun _ _=>rfl))))) (fun _ _ _ _ _=>(zX (zc (zy (zm 0) zp (fun _ _=>rfl)) (zc (zy (zm 0) zp (fun _ _=>rfl)) zq))))) zq))) (zep (n:=2) rfl (zat (zaa (i:=2) zhf.nd rfl (Or.inl rfl)) (zat (zaa (i:=3) zhf.nd rfl (Or.inl rfl)) zer))) (zB (zV (zby (zdc (zQ zbE (zaj zas rfl m_len boot_len (zc (zm 1) zq)) zp) (zcm (zQ zeV (zm 2) (zY (zy (zy (zm 1) (zbm zp) (fun _ _=>rfl)) zp (fun _ _=>rfl)) zp))))) (zB (zg6 (zX (zc (zy (zy (zm 1) (zbm zp) (fun _ _=>rfl)) zp (fun _ _=>rfl)) (zc (zaj zdO rfl m_max boot_max (zc (zy (zy (zm 1) (zbm zp) (fun _ _=>rfl)) zp (fun _ _=>rfl)) (zc (zm 3) zq))) zq))) (zlz (zm 1) (zbm zp)))) (zB (zaB (zf3 PySem.F.slot_list_append PySem.F.type_list_append zbO (zm 1) (zc (zX (zc (zm 2) (zc (zm 3) zq))) zq)))))))
 (zB (zL (zeY zoP rfl m_tuple boot_tuple (zc (zm 1) zq))))))
variable (G_tidy : Got P w K mg base 1 "tidy" ["pairs"] (upF K Dp.zc9))
variable (m_zip : mg "zip" = none)
theorem zbA : zO ["fog","one","other","low","high","starts","afters","start","after","step"] ["fog","one","other"] (zJ zi1):=zW
include k_FIRST k_LAST m_min m_max G_moved G_margins G_tidy m_zip in
theorem zpd (F : Fun K "foggy" "foggy" zi1 f fd) : zZ P w K mg base CX0 2 f fd ["fog","one","other"] (upF K Dp.zeF):=by
  refine zU (b:=Dp.zhg) F zbA Dp.znu Dp.zot (fun cdv A outer s H E hr=>?_)
  unfold Dp.zhg
  exact (zu (zF (i:=3) zbA.nd rfl (Or.inl rfl) zp)
 (zu (zF (i:=4) zbA.nd rfl (Or.inl rfl) (zT (zy (zm 0) (zag rfl k_LAST) (fun _ _=>rfl)) (zy (zm 0) (zag rfl k_FIRST) (fun _ _=>rfl))))
 (zu (zF (i:=5) zbA.nd rfl (Or.inl rfl) (zG G_margins hr (by decide) rfl (zc (zG G_moved hr (by decide) rfl (zc (zm 0) (zc zp zq))) (zc (zm 1) (zc (zm 2) zq)))))
 (zu (zF (i:=6) zbA.nd rfl (Or.inl rfl) (zG G_margins hr (by decide) rfl (zc (zG G_moved hr (by decide) rfl (zc (zm 0) (zc zp zq))) (zc (zm 1) (zc (zm 2) zq)))))
 (zu (zaE PassesOwn.never rfl (zsW rfl m_zip (zc (zm 5) (zc (zm 6) zq))) (zep (n:=2) rfl (zat (zaa (i:=7) zbA.nd rfl (Or.inl rfl)) (zat (zaa (i:=8) zbA.nd rfl (Or.inl rfl)) zer))) (zu (zF (i:=9) zbA.nd rfl (Or.inl rfl) (zT (zm 8) (zm 7)))
 (zB (zV (zQ zbE (zm 9) zp) (zB (zF (i:=3) zbA.nd rfl (Or.inl rfl) (zaj zdO rfl m_max boot_max (zc (zm 3) (zc (zbm (zcK (zm 7) (zm 9))) zq))))) (zB (zV (zQ zaQ (zm 9) zp) (zB (zF (i:=4) zbA.nd rfl (Or.inl rfl) (zaj zet rfl m_min boot_min (zc (zm 4) (zc (zcK (zm 7) (zbm (zm 9))) zq))))) (zB (zV (zQ zaQ (zm 7) zp) (zB (zL (zX zq))) zP))))))))
 (zB (zL (zG G_tidy hr (by decide) rfl (zc (zaP (zc (zX (zc (zY (zy (zm 0) (zag rfl k_FIRST) (fun _ _=>rfl)) (zm 3)) (zc (zY (zy (zm 0) (zag rfl k_FIRST) (fun _ _=>rfl)) (zm 4)) zq))) zq)) zq)))))))))
variable (G_foggy : Got P w K mg base 2 "foggy" ["fog","one","other"] (upF K Dp.zeF))
theorem zeH : zO ["fogs","one","other","found","fog"] ["fogs","one","other"] (zJ zfe):=zW
include G_tidy G_foggy in
theorem zkk (F : Fun K "foggy_all" "foggy_all" zfe f fd) : zZ P w K mg base CX0 3 f fd ["fogs","one","other"] (upF K Dp.zcp):=by
  refine zU (b:=Dp.zdW) F zeH Dp.zjK Dp.zj4 (fun cdv A outer s H E hr=>?_)
  unfold Dp.zdW
  exact (zu (zF (i:=3) zeH.nd rfl (Or.inl rfl) (zaP zq))
 (zu (zaE PassesOwn.never rfl (zaD (zm 0)) (zaa (i:=4) zeH.nd rfl (Or.inl rfl)) (zB (zaB (zf3 PySem.F.slot_list_extend PySem.F.type_list_extend zmd (zm 3) (zc (zG G_foggy hr (by decide) rfl (zc (zm 4) (zc (zm 1) (zc (zm 2) zq)))) zq)))))
 (zB (zL (zG G_tidy hr (by decide) rfl (zc (zm 3) zq))))))
variable (G_foggy_all : Got P w K mg base 3 "foggy_all" ["fogs","one","other"] (upF K Dp.zcp))
theorem zfo : zO ["spans","low","high","found","start","span"] ["spans","low","high"] (zJ zk1):=zW
include G_tidy in
theorem zqT (F : Fun K "gaps" "gaps" zk1 f fd) : zZ P w K mg base CX0 2 f fd ["spans","low","high"] (upF K Dp.zfp):=by
  refine zU (b:=Dp.zib) F zfo Dp.zoR Dp.zrh (fun cdv A outer s H E hr=>?_)
  unfold Dp.zib
  exact (zu (zF (i:=3) zfo.nd rfl (Or.inl rfl) (zaP zq))
 (zu (zF (i:=4) zfo.nd rfl (Or.inl rfl) (zm 1))
 (zu (zaE PassesOwn.never rfl (zaD (zm 0)) (zaa (i:=5) zfo.nd rfl (Or.inl rfl)) (zu (zaB (zf3 PySem.F.slot_list_append PySem.F.type_list_append zbO (zm 3) (zc (zX (zc (zm 4) (zc (zT (zy (zm 5) zp (fun _ _=>rfl)) zp) zq))) zq)))
 (zB (zF (i:=4) zfo.nd rfl (Or.inl rfl) (zY (zy (zm 5) zp (fun _ _=>rfl)) zp)))))
 (zu (zaB (zf3 PySem.F.slot_list_append PySem.F.type_list_append zbO (zm 3) (zc (zX (zc (zm 4) (zc (zm 2) zq))) zq)))
 (zB (zL (zG G_tidy hr (by decide) rfl (zc (zm 3) zq))))))))
variable (G_gaps : Got P w K mg base 2 "gaps" ["spans","low","high"] (upF K Dp.zfp))
theorem zes : zO ["one","other","found","low","high","other_low","other_high"] ["one","other"] (zJ zkS):=zW
include m_min m_max G_tidy in
theorem zrf (F : Fun K "both" "both" zkS f fd) : zZ P w K mg base CX0 2 f fd ["one","other"] (upF K Dp.zfw):=by
  refine zU (b:=Dp.zii) F zes Dp.zoF Dp.zro (fun cdv A outer s H E hr=>?_)
  unfold Dp.zii
  exact (zu (zF (i:=2) zes.nd rfl (Or.inl rfl) (zaP zq))
 (zu (zaE PassesOwn.never rfl (zaD (zm 0)) (zep (n:=2) rfl (zat (zaa (i:=3) zes.nd rfl (Or.inl rfl)) (zat (zaa (i:=4) zes.nd rfl (Or.inl rfl)) zer))) (zB (zaE PassesOwn.never rfl (zaD (zm 1)) (zep (n:=2) rfl (zat (zaa (i:=5) zes.nd rfl (Or.inl rfl)) (zat (zaa (i:=6) zes.nd rfl (Or.inl rfl)) zer))) (zB (zaB (zf3 PySem.F.slot_list_append PySem.F.type_list_append zbO (zm 2) (zc (zX (zc (zaj zdO rfl m_max boot_max (zc (zm 3) (zc (zm 5) zq))) (zc (zaj zet rfl m_min boot_min (zc (zm 4) (zc (zm 6) zq))) zq))) zq)))))))
 (zB (zL (zG G_tidy hr (by decide) rfl (zc (zm 2) zq))))))
variable (G_both : Got P w K mg base 2 "both" ["one","other"] (upF K Dp.zfw))
theorem zmE : zO ["one","other"] ["one","other"] (zJ zgJ):=zW
include m_len G_gaps G_both in
theorem zmR (F : Fun K "without" "without" zgJ f fd) : zZ P w K mg base CX0 3 f fd ["one","other"] (upF K Dp.zdw):=by
  refine zU (b:=Dp.zeT) F zmE Dp.zla Dp.zmx (fun cdv A outer s H E hr=>?_)
  unfold Dp.zeT
  exact (zu (zV (zQ (zdS hr) (zaj zas rfl m_len boot_len (zc (zm 0) zq)) zp) (zB (zL (zX zq))) zP)
 (zB (zL (zG G_both hr (by decide) rfl (zc (zm 0) (zc (zG G_gaps hr (by decide) rfl (zc (zm 1) (zc (zy (zy (zm 0) zp (fun _ _=>rfl)) zp (fun _ _=>rfl)) (zc (zy (zy (zm 0) (zbm zp) (fun _ _=>rfl)) zp (fun _ _=>rfl)) zq)))) zq))))))
variable (G_without : Got P w K mg base 3 "without" ["one","other"] (upF K Dp.zdw))
theorem zfD : zO ["valley","name","other","one_top","other_top","hours"] ["valley","name","other"] (zJ zi5):=zW
include G_spot_of G_hidden_always G_foggy_all G_without in
theorem zoz (F : Fun K "sight" "sight" zi5 f fd) : zZ P w K mg base (CXd P w) 9 f fd ["valley","name","other"] (zdP K Dp.zeC):=by
  refine zew (b:=Dp.zhk) F zfD Dp.znC Dp.zoT (fun cdv A outer s H E hr _ ex hX hM=>?_)
  unfold Dp.zhk
  exact (zu (zF (i:=3) zfD.nd rfl (Or.inl rfl) (zc5 G_spot_of hX hr (by decide) rfl (zc (zm 0) (zc (zm 1) zq))))
 (zu (zF (i:=4) zfD.nd rfl (Or.inl rfl) (zc5 G_spot_of hX hr (by decide) rfl (zc (zm 0) (zc (zm 2) zq))))
 (zu (zF (i:=5) zfD.nd rfl (Or.inl rfl) (zX (zc (zX (zc (zbH (zm 0) rfl) (zc (zbH (zm 0) rfl) zq))) zq)))
 (zu (zV (zQ (zdS hr) (zm 1) (zm 2)) (zB (zL (zm 5))) zP)
 (zu (zV (zQ zgl (zG G_hidden_always hr (by decide) rfl (zc (zm 0) (zc (zm 3) (zc (zm 4) zq)))) zdA) (zB (zL (zX zq))) zP)
 (zB (zL (zG G_without hr (by decide) rfl (zc (zm 5) (zc (zG G_foggy_all hr (by decide) rfl (zc (zbH (zm 0) rfl) (zc (zm 3) (zc (zm 4) zq)))) zq))))))))))
variable (G_sight : zhK P w K mg base 9 "sight" ["valley","name","other"] (zdP K Dp.zeC))
theorem zaO : zO ["script","vale","corners","beacons","mists","haze","first","last","delay","head","one","other","valley","k","j","due","found"] ["script"] (zJ zej):=zW
include m_len G_law_at G_law_mix m_range G_law_vale G_law_square m_isinstance m_tuple G_law_valley G_law_sees m_min m_max G_sight in
theorem ztm (F : Fun K "law" "law" zej f fd) : zZ P w K mg base CX0 10 f fd ["script"] (upF K Dp.zeG):=by
  refine zU (b:=Dp.zjO) F zaO Dp.zqz Dp.zs4 (fun cdv A outer s H E hr=>?_)
  unfold Dp.zjO
  exact (zu (zF (i:=1) zaO.nd rfl (Or.inl rfl) (zG G_law_vale hr (by decide) rfl (zc (zm 0) (zc zp (zc zp (zc zp zq))))))
 (zu (zg6 (zm 1) (zep (n:=7) rfl (zat (zaa (i:=2) zaO.nd rfl (Or.inl rfl)) (zat (zaa (i:=3) zaO.nd rfl (Or.inl rfl)) (zat (zaa (i:=4) zaO.nd rfl (Or.inl rfl)) (zat (zaa (i:=5) zaO.nd rfl (Or.inl rfl)) (zat (zaa (i:=6) zaO.nd rfl (Or.inl rfl)) (zat (zaa (i:=7) zaO.nd rfl (Or.inl rfl)) (zat (zaa (i:=8) zaO.nd rfl (Or.inl rfl)) zer)))))))))
 (zu (zF (i:=9) zaO.nd rfl (Or.inl rfl) (zG G_law_at hr (by decide) rfl (zc (zm 0) (zc zp zq))))
 (zu (zdY (zV (zQ zbE (zG G_law_mix hr (by decide) rfl (zc (zm 9) (zc zp (zc zp zq)))) zp) (zu (zF (i:=10) zaO.nd rfl (Or.inl rfl) (zy (zm 3) (zG G_law_mix hr (by decide) rfl (zc (zm 9) (zc zp (zc (zaj zas rfl m_len boot_len (zc (zm 3) zq)) zq)))) (fun _ _=>rfl)))
 (zu (zF (i:=11) zaO.nd rfl (Or.inl rfl) (zy (zm 3) (zG G_law_mix hr (by decide) rfl (zc (zm 9) (zc zp (zc (zaj zas rfl m_len boot_len (zc (zm 3) zq)) zq)))) (fun _ _=>rfl)))
 (zB (zF (i:=5) zaO.nd rfl (Or.inl rfl) (zaj zdO rfl m_max boot_max (zc zp (zc (zaj zet rfl m_min boot_min (zc (zaZ 100000000000000000000000000000000000000000000000000000000000 (by decide +kernel) ⟨by decide,by decide,by decide⟩) (zc (zT (zY (zG G_law_square hr (by decide) rfl (zc (zm 10) (zc (zm 11) zq))) (zG G_law_mix hr (by decide) rfl (zc (zm 9) (zc zp (zc zp zq))))) zp) zq))) zq))))))) zP))
 (zu (zF (i:=1) zaO.nd rfl (Or.inl rfl) (zX (zc (zm 2) (zc (zm 3) (zc (zaP zq) (zc (zm 5) (zc (zm 6) (zc (zm 7) (zc (zm 8) zq)))))))))
 (zu (zF (i:=12) zaO.nd rfl (Or.inl rfl) (zG G_law_valley hr (by decide) rfl (zc (zm 1) zq)))
 (zu (zaE PassesOwn.never rfl (zdJ rfl m_range (zc (zaj zas rfl m_len boot_len (zc (zm 3) zq)) zq)) (zaa (i:=13) zaO.nd rfl (Or.inl rfl)) (zB (zaE PassesOwn.never rfl (zdJ rfl m_range (zc (zaj zas rfl m_len boot_len (zc (zm 3) zq)) zq)) (zaa (i:=14) zaO.nd rfl (Or.inl rfl)) (zu (zF (i:=15) zaO.nd rfl (Or.inl rfl) (zX zq))
 (zu (zdY (zV (zaU (zG G_law_sees hr (by decide) rfl (zc (zm 1) (zc (zm 13) (zc (zm 14) (zc (zm 6) zq)))))) (zB (zF (i:=15) zaO.nd rfl (Or.inl rfl) (zX (zc (zX (zc (zm 6) (zc (zm 7) zq))) zq)))) zP))
 (zu (zF (i:=16) zaO.nd rfl (Or.inl rfl) (zc5 G_sight zl8 hr (by decide) rfl (zc (zm 12) (zc (zy (zy (zm 3) (zm 13) (fun _ _=>rfl)) zp (fun _ _=>rfl)) (zc (zy (zy (zm 3) (zm 14) (fun _ _=>rfl)) zp (fun _ _=>rfl)) zq)))))
 (zB (zV (zby (zfv (zb5 (zaU (zaj ziq rfl m_isinstance boot_isinstance (zc (zm 16) (zc (zjU rfl m_tuple boot_tuple) zq))))) (zen (zQ (zmn hr) (zm 16) (zm 15))))) (zB (zL zb7)) zP))))))))
 (zB (zL zb7)))))))))
end
theorem all_mk {l : PySem.W.OpenLaw} {w : World} {K : PySem.W.Frag} {h : Heap} {mg : Str→Option Value} {fa : Addr} (X : K.In h) (G : h.Ns mainGlobals mg) (hfa : mg "law" = some (.ref fa))
  {f_law_at : Addr} {d_law_at : FuncData}
  {f_law_mix : Addr} {d_law_mix : FuncData}
  {f_law_far : Addr} {d_law_far : FuncData}
  {f_law_corners : Addr} {d_law_corners : FuncData}
  {f_law_folded : Addr} {d_law_folded : FuncData}
  {f_law_names : Addr} {d_law_names : FuncData}
  {f_law_height : Addr} {d_law_height : FuncData}
  {f_law_beacons : Addr} {d_law_beacons : FuncData}
  {f_law_fog : Addr} {d_law_fog : FuncData}
  {f_law_vale : Addr} {d_law_vale : FuncData}
  {f_law_square : Addr} {d_law_square : FuncData}
  {f_refuse_bad_corners : Addr} {d_refuse_bad_corners : FuncData}
  {od_Ground_init an_Ground_init : Option Addr} {sl_Ground_init : Array (Option Value)} {oc_Ground_init kV_Ground_init dc_Ground_init pm_Ground_init cd_Ground_init ct_Ground_init : Value} {f_Ground_init : Addr} {C_Ground_init : Addr}
  {f_refuse_bad_numbers : Addr} {d_refuse_bad_numbers : FuncData}
  {f_is_name : Addr} {d_is_name : FuncData}
  {f_refuse_bad_names : Addr} {d_refuse_bad_names : FuncData}
  {f_less : Addr} {d_less : FuncData}
  {f_is_on : Addr} {d_is_on : FuncData}
  {f_common_divisor : Addr} {d_common_divisor : FuncData}
  {f_fraction : Addr} {d_fraction : FuncData}
  {f_height_on : Addr} {d_height_on : FuncData}
  {f_ground_at : Addr} {d_ground_at : FuncData}
  {f_stands : Addr} {d_stands : FuncData}
  {f_refuse_bad_tops : Addr} {d_refuse_bad_tops : FuncData}
  {f_is_whole : Addr} {d_is_whole : FuncData}
  {f_is_fog : Addr} {d_is_fog : FuncData}
  {f_refuse_bad_fogs : Addr} {d_refuse_bad_fogs : FuncData}
  {f_refuse_bad_hours : Addr} {d_refuse_bad_hours : FuncData}
  {od_Valley_init an_Valley_init : Option Addr} {sl_Valley_init : Array (Option Value)} {oc_Valley_init kV_Valley_init dc_Valley_init pm_Valley_init cd_Valley_init ct_Valley_init : Value} {f_Valley_init : Addr} {C_Valley_init : Addr}
  {f_law_valley : Addr} {d_law_valley : FuncData}
  {f_law_clear : Addr} {d_law_clear : FuncData}
  {f_law_part : Addr} {d_law_part : FuncData}
  {f_law_meet : Addr} {d_law_meet : FuncData}
  {f_law_fogged : Addr} {d_law_fogged : FuncData}
  {f_law_sees : Addr} {d_law_sees : FuncData}
  {f_spot_of : Addr} {d_spot_of : FuncData}
  {f_refuse_not_standing : Addr} {d_refuse_not_standing : FuncData}
  {f_numbers_between : Addr} {d_numbers_between : FuncData}
  {f_side_of : Addr} {d_side_of : FuncData}
  {f_hinder : Addr} {d_hinder : FuncData}
  {f_square_between : Addr} {d_square_between : FuncData}
  {f_hidden_always : Addr} {d_hidden_always : FuncData}
  {f_moved : Addr} {d_moved : FuncData}
  {f_margins : Addr} {d_margins : FuncData}
  {f_tidy : Addr} {d_tidy : FuncData}
  {f_foggy : Addr} {d_foggy : FuncData}
  {f_foggy_all : Addr} {d_foggy_all : FuncData}
  {f_gaps : Addr} {d_gaps : FuncData}
  {f_both : Addr} {d_both : FuncData}
  {f_without : Addr} {d_without : FuncData}
  {f_sight : Addr} {d_sight : FuncData}
  {od_law an_law : Option Addr} {sl_law : Array (Option Value)} {oc_law kV_law dc_law pm_law cd_law ct_law : Value} {f_law : Addr}
  {C_OffGround : Addr}
  {C_NoBeacon : Addr}
  {tk_LEAST_CORNERS : Tok} {tk_MOST_CORNERS : Tok} {tk_MOST_BEACONS : Tok} {tk_MOST_FOGS : Tok} {tk_MOST_LETTERS : Tok} {tk_LETTERS : Tok} {tk_NUMBERS : Tok} {tk_LEFT : Tok} {tk_RIGHT : Tok} {tk_LOW : Tok} {tk_HIGH : Tok} {tk_FIRST : Tok} {tk_LAST : Tok} {tk_DRIFT : Tok} {tk_RISE : Tok}
  (h_law_at : FH K "_law_at" zhO f_law_at d_law_at)
  (h_law_mix : FH K "_law_mix" zgL f_law_mix d_law_mix)
  (h_law_far : FH K "_law_far" zgx f_law_far d_law_far)
  (h_law_corners : FH K "_law_corners" zec f_law_corners d_law_corners)
  (h_law_folded : FH K "_law_folded" zeL f_law_folded d_law_folded)
  (h_law_names : FH K "_law_names" zfl f_law_names d_law_names)
  (h_law_height : FH K "_law_height" zeB f_law_height d_law_height)
  (h_law_beacons : FH K "_law_beacons" zd8 f_law_beacons d_law_beacons)
  (h_law_fog : FH K "_law_fog" zgO f_law_fog d_law_fog)
  (h_law_vale : FH K "_law_vale" zfL f_law_vale d_law_vale)
  (h_law_square : FH K "_law_square" zeE f_law_square d_law_square)
  (h_refuse_bad_corners : FH K "refuse_bad_corners" zbP f_refuse_bad_corners d_refuse_bad_corners)
  (a_Ground_init : PySem.W.nsIn K mainGlobals "Ground" = some (some (.ref C_Ground_init))) (l_Ground_init : K.lookup f_Ground_init = some ⟨oc_Ground_init,od_Ground_init,.func (PySem.W.fnOf "__init__" "Ground.__init__" (zbp zbq) (zaY zbq) (zJ zbq) .none kV_Ground_init dc_Ground_init pm_Ground_init an_Ground_init cd_Ground_init ct_Ground_init),sl_Ground_init⟩) (c_Ground_init : PySem.W.codeIn K cd_Ground_init "Ground.__init__" = true) (k_Ground_init : PySem.W.keepIn K (.ref f_Ground_init) = true)
  (q1_Ground_init : PySem.W.makesIn K C_Ground_init = true) (q2_Ground_init : PySem.W.findIn K (.ref C_Ground_init) "__init__" = some (some (.ref f_Ground_init))) (q3_Ground_init : PySem.W.isFn K (.ref f_Ground_init) = true) (q4_Ground_init : PySem.W.keepIn K (.ref C_Ground_init) = true) (q5_Ground_init : PySem.W.plainGet K C_Ground_init Str.empty = true) (q6_Ground_init : PySem.W.hasDictIn K C_Ground_init = true) (q7_Ground_init : PySem.W.plainOver K C_Ground_init = true) (q8_Ground_init : PySem.W.findIn K (.ref C_Ground_init) "__setattr__" = some (some (.builtin "object.__setattr__"))) (n0_Ground_init : PySem.W.findIn K (.ref C_Ground_init) "corners" = some none)
  (h_refuse_bad_numbers : FH K "refuse_bad_numbers" zbV f_refuse_bad_numbers d_refuse_bad_numbers)
  (h_is_name : FH K "is_name" zgQ f_is_name d_is_name)
  (h_refuse_bad_names : FH K "refuse_bad_names" zce f_refuse_bad_names d_refuse_bad_names)
  (h_less : FH K "less" zkX f_less d_less)
  (h_is_on : FH K "is_on" ziO f_is_on d_is_on)
  (h_common_divisor : FH K "common_divisor" zcZ f_common_divisor d_common_divisor)
  (h_fraction : FH K "fraction" zfY f_fraction d_fraction)
  (h_height_on : FH K "height_on" zfi f_height_on d_height_on)
  (h_ground_at : FH K "ground_at" ze9 f_ground_at d_ground_at)
  (h_stands : FH K "stands" zhR f_stands d_stands)
  (h_refuse_bad_tops : FH K "refuse_bad_tops" zcB f_refuse_bad_tops d_refuse_bad_tops)
  (h_is_whole : FH K "is_whole" zf5 f_is_whole d_is_whole)
  (h_is_fog : FH K "is_fog" zhT f_is_fog d_is_fog)
  (h_refuse_bad_fogs : FH K "refuse_bad_fogs" zcE f_refuse_bad_fogs d_refuse_bad_fogs)
  (h_refuse_bad_hours : FH K "refuse_bad_hours" zcl f_refuse_bad_hours d_refuse_bad_hours)
  (a_Valley_init : PySem.W.nsIn K mainGlobals "Valley" = some (some (.ref C_Valley_init))) (l_Valley_init : K.lookup f_Valley_init = some ⟨oc_Valley_init,od_Valley_init,.func (PySem.W.fnOf "__init__" "Valley.__init__" (zbp zbr) (zaY zbr) (zJ zbr) .none kV_Valley_init dc_Valley_init pm_Valley_init an_Valley_init cd_Valley_init ct_Valley_init),sl_Valley_init⟩) (c_Valley_init : PySem.W.codeIn K cd_Valley_init "Valley.__init__" = true) (k_Valley_init : PySem.W.keepIn K (.ref f_Valley_init) = true)
  (q1_Valley_init : PySem.W.makesIn K C_Valley_init = true) (q2_Valley_init : PySem.W.findIn K (.ref C_Valley_init) "__init__" = some (some (.ref f_Valley_init))) (q3_Valley_init : PySem.W.isFn K (.ref f_Valley_init) = true) (q4_Valley_init : PySem.W.keepIn K (.ref C_Valley_init) = true) (q5_Valley_init : PySem.W.plainGet K C_Valley_init Str.empty = true) (q6_Valley_init : PySem.W.hasDictIn K C_Valley_init = true) (q7_Valley_init : PySem.W.plainOver K C_Valley_init = true) (q8_Valley_init : PySem.W.findIn K (.ref C_Valley_init) "__setattr__" = some (some (.builtin "object.__setattr__"))) (n0_Valley_init : PySem.W.findIn K (.ref C_Valley_init) "ground" = some none) (n1_Valley_init : PySem.W.findIn K (.ref C_Valley_init) "beacons" = some none) (n2_Valley_init : PySem.W.findIn K (.ref C_Valley_init) "fogs" = some none) (n3_Valley_init : PySem.W.findIn K (.ref C_Valley_init) "haze" = some none) (n4_Valley_init : PySem.W.findIn K (.ref C_Valley_init) "first" = some none) (n5_Valley_init : PySem.W.findIn K (.ref C_Valley_init) "last" = some none) (n6_Valley_init : PySem.W.findIn K (.ref C_Valley_init) "delay" = some none)
  (h_law_valley : FH K "_law_valley" zeJ f_law_valley d_law_valley)
  (h_law_clear : FH K "_law_clear" zfd f_law_clear d_law_clear)
  (h_law_part : FH K "_law_part" zfV f_law_part d_law_part)
  (h_law_meet : FH K "_law_meet" zfE f_law_meet d_law_meet)
  (h_law_fogged : FH K "_law_fogged" zeA f_law_fogged d_law_fogged)
  (h_law_sees : FH K "_law_sees" zfC f_law_sees d_law_sees)
  (h_spot_of : FH K "spot_of" zgC f_spot_of d_spot_of)
  (h_refuse_not_standing : FH K "refuse_not_standing" zbK f_refuse_not_standing d_refuse_not_standing)
  (h_numbers_between : FH K "numbers_between" zcD f_numbers_between d_numbers_between)
  (h_side_of : FH K "side_of" zgr f_side_of d_side_of)
  (h_hinder : FH K "hinder" zhL f_hinder d_hinder)
  (h_square_between : FH K "square_between" zc7 f_square_between d_square_between)
  (h_hidden_always : FH K "hidden_always" zdo f_hidden_always d_hidden_always)
  (h_moved : FH K "moved" zja f_moved d_moved)
  (h_margins : FH K "margins" zgp f_margins d_margins)
  (h_tidy : FH K "tidy" zk0 f_tidy d_tidy)
  (h_foggy : FH K "foggy" zi1 f_foggy d_foggy)
  (h_foggy_all : FH K "foggy_all" zfe f_foggy_all d_foggy_all)
  (h_gaps : FH K "gaps" zk1 f_gaps d_gaps)
  (h_both : FH K "both" zkS f_both d_both)
  (h_without : FH K "without" zgJ f_without d_without)
  (h_sight : FH K "sight" zi5 f_sight d_sight)
  (a_law : PySem.W.nsIn K mainGlobals "law" = some (some (.ref f_law))) (l_law : K.lookup f_law = some ⟨oc_law,od_law,.func (PySem.W.fnOf "law" "law" (zbp zej) (zaY zej) (zJ zej) .none kV_law dc_law pm_law an_law cd_law ct_law),sl_law⟩) (c_law : PySem.W.codeIn K cd_law "law" = true) (k_law : PySem.W.keepIn K (.ref f_law) = true)
  (a_OffGround : PySem.W.nsIn K mainGlobals "OffGround" = some (some (.ref C_OffGround))) (x_OffGround : zmj K C_OffGround = true) (a_NoBeacon : PySem.W.nsIn K mainGlobals "NoBeacon" = some (some (.ref C_NoBeacon))) (x_NoBeacon : zmj K C_NoBeacon = true)
  (z_len : PySem.W.nsIn K mainGlobals "len" = some none) (z_range : PySem.W.nsIn K mainGlobals "range" = some none) (z_abs : PySem.W.nsIn K mainGlobals "abs" = some none) (z_list : PySem.W.nsIn K mainGlobals "list" = some none) (z_all : PySem.W.nsIn K mainGlobals "all" = some none) (z_set : PySem.W.nsIn K mainGlobals "set" = some none) (z_int : PySem.W.nsIn K mainGlobals "int" = some none) (z_isinstance : PySem.W.nsIn K mainGlobals "isinstance" = some none) (z_bool : PySem.W.nsIn K mainGlobals "bool" = some none) (z_tuple : PySem.W.nsIn K mainGlobals "tuple" = some none) (z_min : PySem.W.nsIn K mainGlobals "min" = some none) (z_max : PySem.W.nsIn K mainGlobals "max" = some none) (z_enumerate : PySem.W.nsIn K mainGlobals "enumerate" = some none) (z_sorted : PySem.W.nsIn K mainGlobals "sorted" = some none) (z_zip : PySem.W.nsIn K mainGlobals "zip" = some none)
  (v_LEAST_CORNERS : PySem.W.nsIn K mainGlobals "LEAST_CORNERS" = some (some (.int 2 tk_LEAST_CORNERS))) (v_MOST_CORNERS : PySem.W.nsIn K mainGlobals "MOST_CORNERS" = some (some (.int 40 tk_MOST_CORNERS))) (v_MOST_BEACONS : PySem.W.nsIn K mainGlobals "MOST_BEACONS" = some (some (.int 12 tk_MOST_BEACONS))) (v_MOST_FOGS : PySem.W.nsIn K mainGlobals "MOST_FOGS" = some (some (.int 12 tk_MOST_FOGS))) (v_MOST_LETTERS : PySem.W.nsIn K mainGlobals "MOST_LETTERS" = some (some (.int 8 tk_MOST_LETTERS))) (v_LETTERS : PySem.W.nsIn K mainGlobals "LETTERS" = some (some (.str "abcdefghijklmnopqrstuvwxyz" tk_LETTERS))) (v_NUMBERS : PySem.W.nsIn K mainGlobals "NUMBERS" = some (some (.int 8 tk_NUMBERS))) (v_LEFT : PySem.W.nsIn K mainGlobals "LEFT" = some (some (.int 0 tk_LEFT))) (v_RIGHT : PySem.W.nsIn K mainGlobals "RIGHT" = some (some (.int 1 tk_RIGHT))) (v_LOW : PySem.W.nsIn K mainGlobals "LOW" = some (some (.int 2 tk_LOW))) (v_HIGH : PySem.W.nsIn K mainGlobals "HIGH" = some (some (.int 3 tk_HIGH))) (v_FIRST : PySem.W.nsIn K mainGlobals "FIRST" = some (some (.int 4 tk_FIRST))) (v_LAST : PySem.W.nsIn K mainGlobals "LAST" = some (some (.int 5 tk_LAST))) (v_DRIFT : PySem.W.nsIn K mainGlobals "DRIFT" = some (some (.int 6 tk_DRIFT))) (v_RISE : PySem.W.nsIn K mainGlobals "RISE" = some (some (.int 7 tk_RISE))) :
  ∃ fd : FuncData,(∀ (s : Shared) (v : Value),BindsTo s fd ⟨[v],[]⟩ [("script",v)])∧∀ base : Heap,K.In base→base.Ns mainGlobals mg→zZ l.prog w K mg base CX0 10 fa fd ["script"] (upF K Dp.zeG):=by
 have e:=hfa.symm.trans (PySem.W.mg_of X G a_law)
 cases e
 have na_Ground_corners : ∀ C,PySem.W.nsIn K mainGlobals "Ground" = some (some (.ref C))→zar K C "corners":=fun C hC=>by
  rw [a_Ground_init] at hC; cases hC; exact n0_Ground_init
 have F_Ground_init:=zis (st:=zbq) l_Ground_init c_Ground_init k_Ground_init
 have zbu:=F_Ground_init.binds (ps:=["self","corners"]) fun _ _ _ _ _ _ us hl=>by obtain ⟨_,_,rfl⟩:=zmv hl; rfl
 have na_Valley_ground : ∀ C,PySem.W.nsIn K mainGlobals "Valley" = some (some (.ref C))→zar K C "ground":=fun C hC=>by
  rw [a_Valley_init] at hC; cases hC; exact n0_Valley_init
 have na_Valley_beacons : ∀ C,PySem.W.nsIn K mainGlobals "Valley" = some (some (.ref C))→zar K C "beacons":=fun C hC=>by
  rw [a_Valley_init] at hC; cases hC; exact n1_Valley_init
 have na_Valley_fogs : ∀ C,PySem.W.nsIn K mainGlobals "Valley" = some (some (.ref C))→zar K C "fogs":=fun C hC=>by
  rw [a_Valley_init] at hC; cases hC; exact n2_Valley_init
 have na_Valley_haze : ∀ C,PySem.W.nsIn K mainGlobals "Valley" = some (some (.ref C))→zar K C "haze":=fun C hC=>by
  rw [a_Valley_init] at hC; cases hC; exact n3_Valley_init
 have na_Valley_first : ∀ C,PySem.W.nsIn K mainGlobals "Valley" = some (some (.ref C))→zar K C "first":=fun C hC=>by
  rw [a_Valley_init] at hC; cases hC; exact n4_Valley_init
 have na_Valley_last : ∀ C,PySem.W.nsIn K mainGlobals "Valley" = some (some (.ref C))→zar K C "last":=fun C hC=>by
  rw [a_Valley_init] at hC; cases hC; exact n5_Valley_init
 have na_Valley_delay : ∀ C,PySem.W.nsIn K mainGlobals "Valley" = some (some (.ref C))→zar K C "delay":=fun C hC=>by
  rw [a_Valley_init] at hC; cases hC; exact n6_Valley_init
 have F_Valley_init:=zis (st:=zbr) l_Valley_init c_Valley_init k_Valley_init
 have zbt:=F_Valley_init.binds (ps:=["self","ground","beacons","fogs","haze","first","last","delay"]) fun _ _ _ _ _ _ us hl=>by obtain ⟨_,_,_,_,_,_,_,_,rfl⟩:=zuD hl; rfl
 have F_law:=zis (st:=zej) l_law c_law k_law
 have hC_OffGround : ∀ C,PySem.W.nsIn K mainGlobals "OffGround" = some (some (.ref C))→ExC K C:=fun C h=>by
  rw [a_OffGround] at h; cases h; exact ExC.of x_OffGround
 have hx_OffGround : ∃ C,PySem.W.nsIn K mainGlobals "OffGround" = some (some (.ref C))∧mg "OffGround" = some (.ref C):=⟨_,a_OffGround,PySem.W.mg_of X G a_OffGround⟩
 have hC_NoBeacon : ∀ C,PySem.W.nsIn K mainGlobals "NoBeacon" = some (some (.ref C))→ExC K C:=fun C h=>by
  rw [a_NoBeacon] at h; cases h; exact ExC.of x_NoBeacon
 have hx_NoBeacon : ∃ C,PySem.W.nsIn K mainGlobals "NoBeacon" = some (some (.ref C))∧mg "NoBeacon" = some (.ref C):=⟨_,a_NoBeacon,PySem.W.mg_of X G a_NoBeacon⟩
 have m_len:=PySem.W.mg_none_of X G z_len
 have m_range:=PySem.W.mg_none_of X G z_range
 have m_abs:=PySem.W.mg_none_of X G z_abs
 have m_list:=PySem.W.mg_none_of X G z_list
 have m_all:=PySem.W.mg_none_of X G z_all
 have m_set:=PySem.W.mg_none_of X G z_set
 have m_int:=PySem.W.mg_none_of X G z_int
 have m_isinstance:=PySem.W.mg_none_of X G z_isinstance
 have m_bool:=PySem.W.mg_none_of X G z_bool
 have m_tuple:=PySem.W.mg_none_of X G z_tuple
 have m_min:=PySem.W.mg_none_of X G z_min
 have m_max:=PySem.W.mg_none_of X G z_max
 have m_enumerate:=PySem.W.mg_none_of X G z_enumerate
 have m_sorted:=PySem.W.mg_none_of X G z_sorted
 have m_zip:=PySem.W.mg_none_of X G z_zip
 have k_LEAST_CORNERS : ∃ t,mg "LEAST_CORNERS" = some (.int 2 t):=⟨_,PySem.W.mg_of X G v_LEAST_CORNERS⟩
 have k_MOST_CORNERS : ∃ t,mg "MOST_CORNERS" = some (.int 40 t):=⟨_,PySem.W.mg_of X G v_MOST_CORNERS⟩
 have k_MOST_BEACONS : ∃ t,mg "MOST_BEACONS" = some (.int 12 t):=⟨_,PySem.W.mg_of X G v_MOST_BEACONS⟩
 have k_MOST_FOGS : ∃ t,mg "MOST_FOGS" = some (.int 12 t):=⟨_,PySem.W.mg_of X G v_MOST_FOGS⟩
 have k_MOST_LETTERS : ∃ t,mg "MOST_LETTERS" = some (.int 8 t):=⟨_,PySem.W.mg_of X G v_MOST_LETTERS⟩
 have k_LETTERS : ∃ t,mg "LETTERS" = some (.str "abcdefghijklmnopqrstuvwxyz" t):=⟨_,PySem.W.mg_of X G v_LETTERS⟩
 have k_NUMBERS : ∃ t,mg "NUMBERS" = some (.int 8 t):=⟨_,PySem.W.mg_of X G v_NUMBERS⟩
 have k_LEFT : ∃ t,mg "LEFT" = some (.int 0 t):=⟨_,PySem.W.mg_of X G v_LEFT⟩
 have k_RIGHT : ∃ t,mg "RIGHT" = some (.int 1 t):=⟨_,PySem.W.mg_of X G v_RIGHT⟩
 have k_LOW : ∃ t,mg "LOW" = some (.int 2 t):=⟨_,PySem.W.mg_of X G v_LOW⟩
 have k_HIGH : ∃ t,mg "HIGH" = some (.int 3 t):=⟨_,PySem.W.mg_of X G v_HIGH⟩
 have k_FIRST : ∃ t,mg "FIRST" = some (.int 4 t):=⟨_,PySem.W.mg_of X G v_FIRST⟩
 have k_LAST : ∃ t,mg "LAST" = some (.int 5 t):=⟨_,PySem.W.mg_of X G v_LAST⟩
 have k_DRIFT : ∃ t,mg "DRIFT" = some (.int 6 t):=⟨_,PySem.W.mg_of X G v_DRIFT⟩
 have k_RISE : ∃ t,mg "RISE" = some (.int 7 t):=⟨_,PySem.W.mg_of X G v_RISE⟩
 refine ⟨PySem.W.fnOf "law" "law" (zbp zej) (zaY zej) (zJ zej) .none kV_law dc_law pm_law an_law cd_law ct_law,fun s v=>.of_eq rfl,fun base _ _=>?_⟩
 have G_law_at:=zab l.prog w base X G h_law_at (znV m_len h_law_at.F)
 have G_law_mix:=zab l.prog w base X G h_law_mix (zmo h_law_mix.F)
 have G_law_far:=zab l.prog w base X G h_law_far (zmc G_law_mix h_law_far.F)
 have G_law_corners:=zab l.prog w base X G h_law_corners (ziH G_law_mix G_law_far m_range h_law_corners.F)
 have G_law_folded:=zab l.prog w base X G h_law_folded (zjH m_len m_range h_law_folded.F)
 have G_law_names:=zab l.prog w base X G h_law_names (zkM G_law_mix m_range h_law_names.F)
 have G_law_height:=zab l.prog w base X G h_law_height (zjI m_len m_range h_law_height.F)
 have G_law_beacons:=zab l.prog w base X G h_law_beacons (zi0 m_len G_law_mix m_range G_law_height h_law_beacons.F)
 have G_law_fog:=zab l.prog w base X G h_law_fog (zmb m_len G_law_mix m_abs h_law_fog.F)
 have G_law_vale:=zab l.prog w base X G h_law_vale (zlg m_len G_law_at G_law_mix m_range G_law_corners G_law_folded G_law_names G_law_beacons G_law_fog h_law_vale.F)
 have G_law_square:=zab l.prog w base X G h_law_square (zjB h_law_square.F)
 have G_refuse_bad_corners:=zab l.prog w base X G h_refuse_bad_corners (zfr m_len m_range k_LEAST_CORNERS k_MOST_CORNERS h_refuse_bad_corners.F)
 have G_Ground : ziD l.prog w K mg base 2 "Ground" (upF K Dp.ze3):=⟨⟨_,_,_,_,_,⟨q1_Ground_init,q2_Ground_init,q3_Ground_init,q4_Ground_init⟩,ziS G_refuse_bad_corners na_Ground_corners m_list F_Ground_init,zbu,PySem.W.mg_of X G a_Ground_init,zlF ⟨q5_Ground_init,q6_Ground_init,q7_Ground_init,q8_Ground_init⟩ a_Ground_init⟩⟩
 have G_refuse_bad_numbers:=zab l.prog w base X G h_refuse_bad_numbers (zfy m_len k_MOST_BEACONS k_MOST_FOGS h_refuse_bad_numbers.F)
 have G_is_name:=zab l.prog w base X G h_is_name (zmO m_len k_MOST_LETTERS k_LETTERS m_all h_is_name.F)
 have G_refuse_bad_names:=zab l.prog w base X G h_refuse_bad_names (zge m_len m_all G_is_name m_set h_refuse_bad_names.F)
 have G_less:=zab l.prog w base X G h_less (zqj h_less.F)
 have G_is_on:=zab l.prog w base X G h_is_on (zou G_less h_is_on.F)
 have G_common_divisor:=zab l.prog w base X G h_common_divisor (zhm m_abs h_common_divisor.F)
 have G_fraction:=zab l.prog w base X G h_fraction (zlj G_common_divisor h_fraction.F)
 have G_height_on:=zab l.prog w base X G h_height_on (zj7 G_fraction h_height_on.F)
 have G_ground_at:=zfA l.prog w base X G h_ground_at (zkj G_less G_is_on G_height_on hC_OffGround hx_OffGround h_ground_at.F)
 have G_stands:=zab l.prog w base X G h_stands (znP G_less G_is_on G_ground_at h_stands.F)
 have G_refuse_bad_tops:=zab l.prog w base X G h_refuse_bad_tops (zgz m_all G_stands h_refuse_bad_tops.F)
 have G_is_whole:=zab l.prog w base X G h_is_whole (zk2 m_int m_isinstance m_bool h_is_whole.F)
 have G_is_fog:=zab l.prog w base X G h_is_fog (znn m_len m_all m_isinstance G_is_whole k_NUMBERS k_LEFT k_RIGHT k_LOW k_HIGH k_FIRST k_LAST m_tuple h_is_fog.F)
 have G_refuse_bad_fogs:=zab l.prog w base X G h_refuse_bad_fogs (zgi m_all G_is_fog h_refuse_bad_fogs.F)
 have G_refuse_bad_hours:=zab l.prog w base X G h_refuse_bad_hours (zgh h_refuse_bad_hours.F)
 have G_Valley : ziD l.prog w K mg base 7 "Valley" (upF K Dp.zgy):=⟨⟨_,_,_,_,_,⟨q1_Valley_init,q2_Valley_init,q3_Valley_init,q4_Valley_init⟩,zi2 m_list G_Ground G_refuse_bad_numbers G_refuse_bad_names G_refuse_bad_tops G_refuse_bad_fogs G_refuse_bad_hours na_Valley_ground na_Valley_beacons na_Valley_fogs na_Valley_haze na_Valley_first na_Valley_last na_Valley_delay F_Valley_init,zbt,PySem.W.mg_of X G a_Valley_init,zlF ⟨q5_Valley_init,q6_Valley_init,q7_Valley_init,q8_Valley_init⟩ a_Valley_init⟩⟩
 have G_law_valley:=zab l.prog w base X G h_law_valley (zjL m_list G_Ground G_Valley h_law_valley.F)
 have G_law_clear:=zab l.prog w base X G h_law_clear (zjY h_law_clear.F)
 have G_law_part:=zab l.prog w base X G h_law_part (zlk m_int h_law_part.F)
 have G_law_meet:=zab l.prog w base X G h_law_meet (zlf G_law_part h_law_meet.F)
 have G_law_fogged:=zab l.prog w base X G h_law_fogged (zjC G_law_meet h_law_fogged.F)
 have G_law_sees:=zab l.prog w base X G h_law_sees (zk3 m_len G_law_clear G_law_fogged h_law_sees.F)
 have G_spot_of:=zfA l.prog w base X G h_spot_of (zmY hC_NoBeacon hx_NoBeacon h_spot_of.F)
 have G_refuse_not_standing:=zfA l.prog w base X G h_refuse_not_standing (zfa hC_OffGround hx_OffGround G_stands h_refuse_not_standing.F)
 have G_numbers_between:=zab l.prog w base X G h_numbers_between (zgI m_min m_max m_enumerate h_numbers_between.F)
 have G_side_of:=zab l.prog w base X G h_side_of (zme h_side_of.F)
 have G_hinder:=zfA l.prog w base X G h_hinder (zoh G_refuse_not_standing G_numbers_between G_side_of h_hinder.F)
 have G_square_between:=zab l.prog w base X G h_square_between (zhr h_square_between.F)
 have G_hidden_always:=zab l.prog w base X G h_hidden_always (zhD G_hinder G_square_between h_hidden_always.F)
 have G_moved:=zab l.prog w base X G h_moved (zpD k_LEFT k_RIGHT k_LOW k_HIGH k_DRIFT k_RISE h_moved.F)
 have G_margins:=zab l.prog w base X G h_margins (zmX k_LEFT k_RIGHT k_LOW k_HIGH m_min m_max h_margins.F)
 have G_tidy:=zab l.prog w base X G h_tidy (zqy m_len m_tuple m_max m_sorted h_tidy.F)
 have G_foggy:=zab l.prog w base X G h_foggy (zpd k_FIRST k_LAST m_min m_max G_moved G_margins G_tidy m_zip h_foggy.F)
 have G_foggy_all:=zab l.prog w base X G h_foggy_all (zkk G_tidy G_foggy h_foggy_all.F)
 have G_gaps:=zab l.prog w base X G h_gaps (zqT G_tidy h_gaps.F)
 have G_both:=zab l.prog w base X G h_both (zrf m_min m_max G_tidy h_both.F)
 have G_without:=zab l.prog w base X G h_without (zmR m_len G_gaps G_both h_without.F)
 have G_sight:=zfA l.prog w base X G h_sight (zoz G_spot_of G_hidden_always G_foggy_all G_without h_sight.F)
 exact ztm m_len G_law_at G_law_mix m_range G_law_vale G_law_square m_isinstance m_tuple G_law_valley G_law_sees m_min m_max G_sight F_law
theorem walk {l : PySem.W.OpenLaw} {q : Program} {loose : List Str} {XP : (Str→Option Value)→Heap→Prop} {YP : World→Heap→Prop} {d : DefRec} {K : Params→PySem.W.Frag} (hn : l.most = some 63) (hdf : d.params.defaults = [])
  (hY : ∀ (w : World) (h : Heap),YP w h→(K w.params).In h)
  (F : ∀ (w : World) (mg : Str→Option Value) (fa : Addr) (h : Heap),(K w.params).In h→h.Ns mainGlobals mg→mg d.name = some (.ref fa) →
   ∃ fd : FuncData,(∀ (s : Shared) (u : Value),BindsTo s fd ⟨[u],[]⟩ [("script",u)])∧∀ base : Heap,(K w.params).In base→base.Ns mainGlobals mg→zZ l.prog w (K w.params) mg base CX0 10 fa fd ["script"] (upF (K w.params) Dp.zeG)) :
  PySem.W.WalkO q loose XP YP l.row.toRowW d [] (fun f vs=>PySem.call f vs) :=
 Dp.zo9 (n:=63) (k:=10) (x:="script") (sp:=fun w=>upF (K w.params) Dp.zeG) hn (by decide) hdf ⟨rfl,by decide,by decide⟩ hY F fun _ _ _ _ hl hg hO hS=>zsH hl hg hO hS
end Law
local macro_rules | `(tactic| walk_at "fh")=>`(tactic| (refine' Dp.zub ?fa ?fl ?fc ?fk; (case fa=>k_is); (case fl=>k_is); (case fc=>k_is); (case fk=>k_is)))
open PySem PySem.W PyProof.Rows
def PySem.W.Fast.tw2831610408726562124 : Unit:=()
def PySem.W.Fast.tw9262918807061114845 : Unit:=()
def PySem.W.Fast.tw9347535567810335353 : Unit:=()
def PySem.W.Fast.tw9607494269925793976 : Unit:=()
def PySem.W.Fast.tw6226222006608372216 : Unit:=()
def PySem.W.Fast.tw5672046338143263029 : Unit:=()
def PySem.W.Fast.tw18104869991631386013 : Unit:=()
def PySem.W.Fast.tw4351562341803813630 : Unit:=()
def PySem.W.Fast.tw528843169356052714 : Unit:=()
def PySem.W.Fast.tw4419391524900494571 : Unit:=()
def PySem.W.Fast.tw6066039776113692120 : Unit:=()
def PySem.W.Fast.tw2255102791004849859 : Unit:=()
def PySem.W.Fast.tw2126427538576032783 : Unit:=()
def PySem.W.Fast.tw6351364068283668638 : Unit:=()
def PySem.W.Fast.tw2686742310272245121 : Unit:=()
def PySem.W.Fast.tw11617757844077959960 : Unit:=()
def PySem.W.Fast.tw2078801881279673598 : Unit:=()
def PySem.W.Fast.tw2499673245752768357 : Unit:=()
def PySem.W.Fast.tw3556160928914695043 : Unit:=()
def PySem.W.Fast.tw3762242161826100871 : Unit:=()
def PySem.W.Fast.tw5673774202384440894 : Unit:=()
def PySem.W.Fast.tw8913801505694039547 : Unit:=()
def PySem.W.Fast.tw5296173017424369426 : Unit:=()
def PySem.W.Fast.tw10420878943220130263 : Unit:=()
def PySem.W.Fast.tw5956222027621016598 : Unit:=()
def PySem.W.Fast.tw8032645989844176300 : Unit:=()
def PySem.W.Fast.tw2853585950315269488 : Unit:=()
def PySem.W.Fast.tw6954049412339729305 : Unit:=()
def PySem.W.Fast.tw8614764711136660043 : Unit:=()
def PySem.W.Fast.tw7818507254257360376 : Unit:=()
def PySem.W.Fast.tw18437870342172725534 : Unit:=()
def PySem.W.Fast.tw10680383315323303625 : Unit:=()
def PySem.W.Fast.tw4086517480583611321 : Unit:=()
def PySem.W.Fast.tw17156864038601844623 : Unit:=()
def PySem.W.Fast.tw16383681638096539874 : Unit:=()
def PySem.W.Fast.tw11553067333546674562 : Unit:=()
def PySem.W.Fast.tw829454253437465068 : Unit:=()
def PySem.W.Fast.tw7381696805220879728 : Unit:=()
def PySem.W.Fast.tw4757374373219875290 : Unit:=()
def PySem.W.Fast.tw13293237663992196938 : Unit:=()
def PySem.W.Fast.tw2584568519807126167 : Unit:=()
def PySem.W.Fast.tw18232480214338021439 : Unit:=()
def PySem.W.Fast.tw3767679936858206223 : Unit:=()
def PySem.W.Fast.tw17027347661243743385 : Unit:=()
def PySem.W.Fast.tw9403655705798094085 : Unit:=()
def PySem.W.Fast.tw8913536525388427378 : Unit:=()
def PySem.W.Fast.tw8106044735732790871 : Unit:=()
def PySem.W.Fast.tw5101065896724221724 : Unit:=()
def PySem.W.Fast.tw10111125272971849464 : Unit:=()
def PySem.W.Fast.tw4035867224969398583 : Unit:=()
def PySem.W.Fast.tw13113618163248691866 : Unit:=()
def PySem.W.Fast.tw6616399592481199522 : Unit:=()
def PySem.W.Fast.tw9111713199050466089 : Unit:=()
def PySem.W.Fast.tw10588548166253533384 : Unit:=()
def PySem.W.Fast.tw12691290892877973312 : Unit:=()
def PySem.W.Fast.tw12594007329936663134 : Unit:=()
def PySem.W.Fast.tw5907077752474631414 : Unit:=()
def PySem.W.Fast.tw8372281236822518464 : Unit:=()
def PySem.W.Fast.tw16390178540271052609 : Unit:=()
def PySem.W.Fast.tw198219065586111980 : Unit:=()
def PySem.W.Fast.tw14516301159021759836 : Unit:=()
def PySem.W.Fast.tw9258271066205331717 : Unit:=()
def PySem.W.Fast.tw1693369597449814972 : Unit:=()
def PySem.W.Fast.tw315667891239109440 : Unit:=()
def PySem.W.Fast.tw1052117946168743053 : Unit:=()
def PySem.W.Fast.tw9373238573622245687 : Unit:=()
def PySem.W.Fast.tw4577365823460436873 : Unit:=()
def PySem.W.Fast.tw14729582129729877842 : Unit:=()
def PySem.W.Fast.tw6263603370275416333 : Unit:=()
def PySem.W.Fast.tw3508450150502210128 : Unit:=()
def PySem.W.Fast.tw14991977363384010708 : Unit:=()
def PySem.W.Fast.tw9656265936704245150 : Unit:=()
def PySem.W.Fast.tw6191388546383522041 : Unit:=()
def PySem.W.Fast.tw11003389760778150047 : Unit:=()
def PySem.W.Fast.tw17044217953596202172 : Unit:=()
def PySem.W.Fast.tw854837418306729724 : Unit:=()
def PySem.W.Fast.tw12304674143440318079 : Unit:=()
def PySem.W.Fast.tw15107844277192577259 : Unit:=()
def PySem.W.Fast.tw14037222340244180228 : Unit:=()
def PySem.W.Fast.tw17834578191341999096 : Unit:=()
def PySem.W.Fast.tw4772563134221723134 : Unit:=()
def PySem.W.Fast.tw18253923656746494207 : Unit:=()
def PySem.W.Fast.tw10439964666737251519 : Unit:=()
def PySem.W.Fast.tw7635002414266228513 : Unit:=()
def PySem.W.Fast.tw712657363840252506 : Unit:=()
def PySem.W.Fast.tw5217154097134375882 : Unit:=()
def PySem.W.Fast.tw12347716538844909463 : Unit:=()
def PySem.W.Fast.tw15022772778548591830 : Unit:=()
def PySem.W.Fast.tw17625805124821338491 : Unit:=()
def PySem.W.Fast.tw8289842382130896897 : Unit:=()
def PySem.W.Fast.tw5249217324943862621 : Unit:=()
def PySem.W.Fast.tw1768117324074930160 : Unit:=()
def PySem.W.Fast.tw18363031726208123850 : Unit:=()
def PySem.W.Fast.tw7745006763105823912 : Unit:=()
def PySem.W.Fast.tw14165279826500359317 : Unit:=()
def PySem.W.Fast.tw16892974014462368538 : Unit:=()
def PySem.W.Fast.tw16844824190775119068 : Unit:=()
def PySem.W.Fast.tw16990427966074121324 : Unit:=()
def PySem.W.Fast.tw13882066989628908486 : Unit:=()
def PySem.W.Fast.tw3611366602084744129 : Unit:=()
def PySem.W.Fast.tw13887247665792078534 : Unit:=()
def PySem.W.Fast.tw14882283449980251195 : Unit:=()
def PySem.W.Fast.tw9951763960867677148 : Unit:=()
def PySem.W.Fast.tw10392588255989475703 : Unit:=()
def PySem.W.Fast.tw17253295665610054432 : Unit:=()
def PySem.W.Fast.tw14935698105023465649 : Unit:=()
def PySem.W.Fast.tw4683667603607417333 : Unit:=()
def PySem.W.Fast.tw13886948903477051497 : Unit:=()
def PySem.W.Fast.tw13723062559849824676 : Unit:=()
def PySem.W.Fast.tw15977548021746150467 : Unit:=()
def PySem.W.Fast.tw1070308794596502614 : Unit:=()
def PySem.W.Fast.tw14617806341793566381 : Unit:=()
def PySem.W.Fast.tw11647657958011012752 : Unit:=()
def PySem.W.Fast.tw4147996532951250127 : Unit:=()
def PySem.W.Fast.tw2134071170235429431 : Unit:=()
def PySem.W.Fast.tw4936369667595397457 : Unit:=()
def PySem.W.Fast.tw2274299602450045910 : Unit:=()
def PySem.W.Fast.tw4896275134945847986 : Unit:=()
def PySem.W.Fast.tw17822539679001852541 : Unit:=()
def PySem.W.Fast.tw3643065002761393977 : Unit:=()
def PySem.W.Fast.tw11852542068917152988 : Unit:=()
def PySem.W.Fast.tw9905979087758816455 : Unit:=()
def PySem.W.Fast.tw5253610727075875073 : Unit:=()
def PySem.W.Fast.tw6852049115306219774 : Unit:=()
def PySem.W.Fast.tw8336922877031865831 : Unit:=()
def PySem.W.Fast.tw17108967104995995912 : Unit:=()
def PySem.W.Fast.tw12556322037915245590 : Unit:=()
def PySem.W.Fast.tw11202726776221941391 : Unit:=()
def PySem.W.Fast.tw11826262816653053053 : Unit:=()
def PySem.W.Fast.tw12696561288302521446 : Unit:=()
def PySem.W.Fast.tw11216069015422963652 : Unit:=()
def PySem.W.Fast.tw3767299670523533366 : Unit:=()
def PySem.W.Fast.tw10622450513052012509 : Unit:=()
def PySem.W.Fast.tw1050816059461540025 : Unit:=()
def PySem.W.Fast.tw940795359743792680 : Unit:=()
def PySem.W.Fast.tw12406987415730594162 : Unit:=()
def PySem.W.Fast.tw3404265389545873978 : Unit:=()
def PySem.W.Fast.tw9325042269744243361 : Unit:=()
def PySem.W.Fast.tw3649859155475055360 : Unit:=()
def PySem.W.Fast.tw1051676197047596693 : Unit:=()
def PySem.W.Fast.tw4069230073496335723 : Unit:=()
def PySem.W.Fast.tw8190356712345707324 : Unit:=()
def PySem.W.Fast.tw12030668950151142216 : Unit:=()
def PySem.W.Fast.tw6435514436902357298 : Unit:=()
def PySem.W.Fast.tw12808089786239581201 : Unit:=()
def PySem.W.Fast.tw5010989144247105769 : Unit:=()
def PySem.W.Fast.tw2069868458297136341 : Unit:=()
def PySem.W.Fast.tw13724780140729789640 : Unit:=()
set_option maxRecDepth 100000 in
set_option maxHeartbeats 0 in
theorem PySem.Challenge.cw_beaconvale_k43_sights_over_ground_holds : PySem.Challenge.rw_beaconvale_k43_sights_over_ground.Holds := by
 w_on; o_law; k_head; (case hw => w_witness2)
 k_fill
 refine Law.walk (l := PySem.Challenge.rw_beaconvale_k43_sights_over_ground) rfl rfl (fun w h Y => PySem.W.kIn_of Y) ?F
 case F =>
  intro w mg fa h KX G hmg
  refine' Law.all_mk KX G hmg ?h_law_at ?h_law_mix ?h_law_far ?h_law_corners ?h_law_folded ?h_law_names ?h_law_height ?h_law_beacons ?h_law_fog ?h_law_vale ?h_law_square ?h_refuse_bad_corners ?a_Ground_init ?l_Ground_init ?c_Ground_init ?k_Ground_init ?q1_Ground_init ?q2_Ground_init ?q3_Ground_init ?q4_Ground_init ?q5_Ground_init ?q6_Ground_init ?q7_Ground_init ?q8_Ground_init ?n0_Ground_init ?h_refuse_bad_numbers ?h_is_name ?h_refuse_bad_names ?h_less ?h_is_on ?h_common_divisor ?h_fraction ?h_height_on ?h_ground_at ?h_stands ?h_refuse_bad_tops ?h_is_whole ?h_is_fog ?h_refuse_bad_fogs ?h_refuse_bad_hours ?a_Valley_init ?l_Valley_init ?c_Valley_init ?k_Valley_init ?q1_Valley_init ?q2_Valley_init ?q3_Valley_init ?q4_Valley_init ?q5_Valley_init ?q6_Valley_init ?q7_Valley_init ?q8_Valley_init ?n0_Valley_init ?n1_Valley_init ?n2_Valley_init ?n3_Valley_init ?n4_Valley_init ?n5_Valley_init ?n6_Valley_init ?h_law_valley ?h_law_clear ?h_law_part ?h_law_meet ?h_law_fogged ?h_law_sees ?h_spot_of ?h_refuse_not_standing ?h_numbers_between ?h_side_of ?h_hinder ?h_square_between ?h_hidden_always ?h_moved ?h_margins ?h_tidy ?h_foggy ?h_foggy_all ?h_gaps ?h_both ?h_without ?h_sight ?a_law ?l_law ?c_law ?k_law ?a_OffGround ?x_OffGround ?a_NoBeacon ?x_NoBeacon ?z_len ?z_range ?z_abs ?z_list ?z_all ?z_set ?z_int ?z_isinstance ?z_bool ?z_tuple ?z_min ?z_max ?z_enumerate ?z_sorted ?z_zip ?v_LEAST_CORNERS ?v_MOST_CORNERS ?v_MOST_BEACONS ?v_MOST_FOGS ?v_MOST_LETTERS ?v_LETTERS ?v_NUMBERS ?v_LEFT ?v_RIGHT ?v_LOW ?v_HIGH ?v_FIRST ?v_LAST ?v_DRIFT ?v_RISE
  (case a_OffGround => k_is)
  (case a_NoBeacon => k_is)
  (case a_Ground_init => k_is)
  (case a_Valley_init => k_is)
  (case q2_Ground_init => k_is)
  (case q2_Valley_init => k_is)
  (case h_law_at => walk_at "fh")
  (case h_law_mix => walk_at "fh")
  (case h_law_far => walk_at "fh")
  (case h_law_corners => walk_at "fh")
  (case h_law_folded => walk_at "fh")
  (case h_law_names => walk_at "fh")
  (case h_law_height => walk_at "fh")
  (case h_law_beacons => walk_at "fh")
  (case h_law_fog => walk_at "fh")
  (case h_law_vale => walk_at "fh")
  (case h_law_square => walk_at "fh")
  (case h_refuse_bad_corners => walk_at "fh")
  (case l_Ground_init => k_is)
  (case c_Ground_init => k_is)
  (case k_Ground_init => k_is)
  (case q1_Ground_init => k_is)
  (case q3_Ground_init => k_is)
  (case q4_Ground_init => k_is)
  (case q5_Ground_init => k_is)
  (case q6_Ground_init => k_is)
  (case q7_Ground_init => k_is)
  (case q8_Ground_init => k_is)
  (case n0_Ground_init => k_is)
  (case h_refuse_bad_numbers => walk_at "fh")
  (case h_is_name => walk_at "fh")
  (case h_refuse_bad_names => walk_at "fh")
  (case h_less => walk_at "fh")
  (case h_is_on => walk_at "fh")
  (case h_common_divisor => walk_at "fh")
  (case h_fraction => walk_at "fh")
  (case h_height_on => walk_at "fh")
  (case h_ground_at => walk_at "fh")
  (case h_stands => walk_at "fh")
  (case h_refuse_bad_tops => walk_at "fh")
  (case h_is_whole => walk_at "fh")
  (case h_is_fog => walk_at "fh")
  (case h_refuse_bad_fogs => walk_at "fh")
  (case h_refuse_bad_hours => walk_at "fh")
  (case l_Valley_init => k_is)
  (case c_Valley_init => k_is)
  (case k_Valley_init => k_is)
  (case q1_Valley_init => k_is)
  (case q3_Valley_init => k_is)
  (case q4_Valley_init => k_is)
  (case q5_Valley_init => k_is)
  (case q6_Valley_init => k_is)
  (case q7_Valley_init => k_is)
  (case q8_Valley_init => k_is)
  (case n0_Valley_init => k_is)
  (case n1_Valley_init => k_is)
  (case n2_Valley_init => k_is)
  (case n3_Valley_init => k_is)
  (case n4_Valley_init => k_is)
  (case n5_Valley_init => k_is)
  (case n6_Valley_init => k_is)
  (case h_law_valley => walk_at "fh")
  (case h_law_clear => walk_at "fh")
  (case h_law_part => walk_at "fh")
  (case h_law_meet => walk_at "fh")
  (case h_law_fogged => walk_at "fh")
  (case h_law_sees => walk_at "fh")
  (case h_spot_of => walk_at "fh")
  (case h_refuse_not_standing => walk_at "fh")
  (case h_numbers_between => walk_at "fh")
  (case h_side_of => walk_at "fh")
  (case h_hinder => walk_at "fh")
  (case h_square_between => walk_at "fh")
  (case h_hidden_always => walk_at "fh")
  (case h_moved => walk_at "fh")
  (case h_margins => walk_at "fh")
  (case h_tidy => walk_at "fh")
  (case h_foggy => walk_at "fh")
  (case h_foggy_all => walk_at "fh")
  (case h_gaps => walk_at "fh")
  (case h_both => walk_at "fh")
  (case h_without => walk_at "fh")
  (case h_sight => walk_at "fh")
  (case a_law => k_is)
  (case l_law => k_is)
  (case c_law => k_is)
  (case k_law => k_is)
  (case x_OffGround => kernel_rfl)
  (case x_NoBeacon => kernel_rfl)
  (case z_len => k_is)
  (case z_range => k_is)
  (case z_abs => k_is)
  (case z_list => k_is)
  (case z_all => k_is)
  (case z_set => k_is)
  (case z_int => k_is)
  (case z_isinstance => k_is)
  (case z_bool => k_is)
  (case z_tuple => k_is)
  (case z_min => k_is)
  (case z_max => k_is)
  (case z_enumerate => k_is)
  (case z_sorted => k_is)
  (case z_zip => k_is)
  (case v_LEAST_CORNERS => k_is)
  (case v_MOST_CORNERS => k_is)
  (case v_MOST_BEACONS => k_is)
  (case v_MOST_FOGS => k_is)
  (case v_MOST_LETTERS => k_is)
  (case v_LETTERS => k_is)
  (case v_NUMBERS => k_is)
  (case v_LEFT => k_is)
  (case v_RIGHT => k_is)
  (case v_LOW => k_is)
  (case v_HIGH => k_is)
  (case v_FIRST => k_is)
  (case v_LAST => k_is)
  (case v_DRIFT => k_is)
  (case v_RISE => k_is)
#print axioms PySem.Challenge.cw_beaconvale_k43_sights_over_ground_holds
